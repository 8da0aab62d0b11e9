import PyProof.Rows.All
import Wide.All
import OpenK.AllK
import Wide.FinOn
import Lean
import PyProof.EqAt
import PyProof.EqKinds
import PyProof.TupleCall
import PySem.Challenge.RW_weirwatch_k55_whatever_as_tables
open PySem renaming Addr → S1, Value → S2, Shared → S3, wpAny_bind → S4, wpAny_pure → S5, sizeLine → S6, Program → S7, FuncData → S8, World → S9, Around → Sa, Heap → Sb, wpAny → Sc
open PySem.W renaming Frag → Sd, kitOne → Se, findIn → Sf, mroIn → Sg, instObj → Sh
open Or renaming inl → ye, inr → yak
open List renaming length_map → yf, getElem?_eq_getElem → yj, getElem?_eq_some_iff → yk, getElem?_map → ym, replicate → yo, size_toArray → yp, mem_cons_of_mem → yq, mem_cons → yr, mem_of_getElem? → yv, length_append → yx, mem_cons_self → yy, mem_map → yab, length_cons → yac, take_add_one → yad, length_take → yaf, take_of_length_le → yaj, map_append → yam, mem_singleton → yan, map_cons → yap, map_map → yat, mem_append_right → yau, lookup_cons → yav, all_eq_true → yaw, range → yay, mem_map_of_mem → yba, mem_append → ybb, not_mem_nil → ybe, append_nil → ybg, mem_range → ybi, lookup → ybk, forIn_cons → ybm, getElem_mem → ybn, getElem?_of_mem → ybo, nodup_cons → ybp, length → ybq, getD_eq_getElem?_getD → ybr, length_set → ybt, replicate_succ → ybu, of_mem_zip → yby, forIn_nil → ycb, nodup_nil → ycd, exists_cons_of_ne_nil → ycg, getElem?_append_right → ych, length_replicate → yci, length_drop → ycj, getElem?_zip_eq_some → yck, take_length → ycn, getElem?_replicate → yco, getElem?_append_left → ycp
open Nat renaming le_refl → yg, ne_of_lt → yt, zero_le → yw, le_trans → yae, lt_of_lt_of_le → yal, lt_irrefl → yaq, ne_of_gt → ybd, le_of_lt → ybj, lt_succ_self → ybs, min_eq_left → ycf, lt_succ_of_lt → ycl
open PySem.Heap renaming get?_push_of_some → yh, lt_size → yi, get?_push_size → yn, SameBut → yz, size_push → yar, get?_update_self → ybc, get?_update_other → ybl
open Ne renaming symm → yu
open Sum renaming inl → yaa
open Bool renaming and_eq_true → yag, false_ne_true → yai, false_and → yax, true_and → ybf, false_eq_true → ybh, and_false → ybv, noConfusion → ycc
open Option renaming some → yah, isSome_iff_exists → ybz, map_eq_some_iff → yca
open And renaming right → yao, left → yas
open Int renaming toNat_natCast → yaz, eq_ofNat_of_zero_le → yce
open Array renaming getElem?_eq_some_iff → ybw, length_toList → ybx, getElem?_toList → ycm
set_option bootstrap.genMatcherCode false
set_option hygiene false
set_option Elab.async false
set_option linter.all false
set_option maxRecDepth 100000
section
local macro_rules|`(%[|0])=>`(⟨rfl,rfl,rfl,by decide +kernel,rfl,by decide +kernel,by decide +kernel⟩)
local macro_rules|`(%[$a|1])=>`($a (P:=P) (w:=w) (base:=base) T)
local macro_rules|`(%[$a,$b|2])=>`($a $b (λvs H Q E h=>?_) (λcdv A outer s H vs Q E hr h=>?_))
namespace L2
open PySem PySem.Spec PyProof.Rows
noncomputable abbrev Key:=Sum Int Str
noncomputable def Jqs:Key->S2->Bool
 | .inl k,v=>Value.isInt k v
 | .inr x,v=>Value.isStrOf x v
noncomputable def Suz (w:S9):Key->Int
 | .inl k=>hashInt k
 | .inr x=>hashStr w x
theorem Jky:∀{k} {v},Jqs k v=true->(∃i t,k=yaa i/\v=Value.int i t)\/(∃x t,k=Sum.inr x/\v=Value.str x t)
 | .inl i,v,h=>by
  obtain ⟨t,e⟩:=Value.isInt_shape h;exact .inl ⟨i,t,rfl,e⟩
 | .inr x,v,h=>by
  obtain ⟨t,e⟩:=Value.isStrOf_shape h;exact .inr ⟨x,t,rfl,e⟩
theorem Jyw (i) (t):Jqs (.inl i) (.int i t)=true:=by simp [Jqs,Value.isInt]
theorem Jyx (x) (t):Jqs (.inr x) (.str x t)=true:=by simp [Jqs,Value.isStrOf]
theorem Slr (a b):decide ((yaa a:Key)=yaa b)=(a==b):=by grind
theorem Slv (a b):decide ((Sum.inr a:Key)=Sum.inr b)=decide (a=b):=by simp
theorem Sls (a) (b):decide ((yaa a:Key)=Sum.inr b)=false:=rfl
theorem Slu (a) (b):decide ((Sum.inr a:Key)=yaa b)=false:=rfl
noncomputable def Jkd (prog:S7) (w:S9):PySem.KeyKind prog w Key where
 is:=Jqs
 hash:=Suz w
 inj:=λv a b ha hb=>by
  rcases Jky ha with ⟨i,t,rfl,rfl⟩|⟨x,t,rfl,rfl⟩
  ·rcases Jky hb with ⟨j,u,rfl,e⟩|⟨y,u,rfl,e⟩
   ·injection e with e1 _;rw [e1]
   ·exact nomatch e
  ·rcases Jky hb with ⟨j,u,rfl,e⟩|⟨y,u,rfl,e⟩
   ·exact nomatch e
   ·injection e with e1 _;rw [e1]
 byValue:=λk v h=>by
  rcases Jky h with ⟨i,t,rfl,rfl⟩|⟨x,t,rfl,rfl⟩ <;> rfl
 pyHash:=λhv h=>by
  rcases Jky hv with ⟨i,t,rfl,rfl⟩|⟨x,t,rfl,rfl⟩
  ·exact wpAny_pyHash_int h
  ·exact wpAny_pyHash_str h
 eqBool:=λhu hv h=>by
  rcases Jky hu with ⟨i,t,rfl,rfl⟩|⟨x,t,rfl,rfl⟩
  ·rcases Jky hv with ⟨j,u,rfl,rfl⟩|⟨y,u,rfl,rfl⟩
   ·rw [Slr] at h;exact wpAny_eqBool_int h
   ·rw [Sls] at h;exact SeqAt.EqAt.int_str i t y u _ _ _ _ h
  ·rcases Jky hv with ⟨j,u,rfl,rfl⟩|⟨y,u,rfl,rfl⟩
   ·rw [Slu] at h;exact SeqAt.EqAt.str_int x t j u _ _ _ _ h
   ·rw [Slv] at h;exact wpAny_eqBool_str h
 «strs»:=λk x t v h=>by
  rcases Jky h with ⟨i,u,rfl,e⟩|⟨y,u,rfl,e⟩
  ·exact nomatch e
  ·injection e with e1 _;subst e1;cases v <;> rfl
theorem Jww (prog) (w) (k) (v):(Jkd prog w).is k v=Jqs k v:=rfl
theorem Jvo (prog) (w) (i) (t):(Jkd prog w).is (.inl i) (.int i t)=true:=Jyw i t
theorem Jo0 (prog) (w) (x) (t):(Jkd prog w).is (.inr x) (.str x t)=true:=Jyx x t
inductive V where
 |non|bl (b:Bool)|int (i:Int)|str (x:Str)|byt (b:Array UInt8)|flt (b:UInt64)|ref (a:S1)|ty (n:String)
 deriving DecidableEq
noncomputable def Su:V->S2->Prop
 | .non,u=>u=Value.none
 | .bl b,u=>u=Value.bool b
 | .int i,u=>∃t,u=Value.int i t
 | .str x,u=>∃t,u=Value.str x t
 | .byt b,u=>∃t,u=Value.bytes b t
 | .flt b,u=>∃t,u=Value.float b t
 | .ref a,u=>u=Value.ref a
 | .ty n,u=>u=Value.type n
noncomputable abbrev Sv:List V->List S2->Prop:=Paired Su
theorem Sv.length (r:Sv xs us):xs.length=us.length:=Paired.length r
theorem Sv.get:∀{xs} {us} {i:Nat} {x},Sv xs us->xs[i]?=some x->∃u,us[i]?=some u/\Su x u
 |_,_,_,_,.nil,e=>by simp at e
 |_,_,0,_,.cons r _,e=>by simp at e;subst e;exact ⟨_,rfl,r⟩
 |_,_,i+1,x,.cons _ t,e=>by
  obtain ⟨u,h1,h2⟩:=Sv.get t (by simpa using e);exact ⟨u,by simpa using h1,h2⟩
theorem Sv.set {x:V} {u:S2} (r:Su x u):∀{xs:List V} {us:List S2} (i:Nat),Sv xs us->Sv (xs.set i x) (us.set i u)
 |_,_,_,.nil=>.nil
 |_,_,0,.cons _ t=>.cons r t
 |_,_,i+1,.cons q t=>.cons q (Sv.set r i t)
theorem Sv.append:∀{xs ys:List V} {us ws:List S2},Sv xs us->Sv ys ws->Sv (xs++ys) (us++ws)
 |_,_,_,_,.nil,s=>s
 |_,_,_,_,.cons r t,s=>.cons r (Sv.append t s)
theorem Sv.take:∀{xs:List V} {us:List S2} (n:Nat),Sv xs us->Sv (xs.take n) (us.take n)
 |_,_,0,_=>.nil
 |_,_,_+1,.nil=>.nil
 |_,_,n+1,.cons r t=>.cons r (Sv.take n t)
theorem Sv.drop:∀{xs:List V} {us:List S2} (n:Nat),Sv xs us->Sv (xs.drop n) (us.drop n)
 |_,_,0,r=>r
 |_,_,_+1,.nil=>.nil
 |_,_,n+1,.cons _ t=>Sv.drop n t
noncomputable def Sc1:Option V->Option S2->Prop
 |some v,some u=>Su v u
 |none,none=>True
 |_,_=>False
noncomputable def KV {κ:Type}:List (κ×V)->List (κ×S2)->Prop:=Paired λ(p:κ×V) (q:κ×S2)=>p.1=q.1/\Su p.2 q.2
noncomputable def kV:Key->V
 | .inl i=>.int i
 | .inr x=>.str x
inductive HO where
 |lst (xs:List V)
 |tup (xs:List V)
 |dK (kvs:List (Key×V))|dT (kvs:List (List Key×V))
 |set (S:Int->Bool) (n:Nat)
 |ins (C dx:S1) (fs:List (Str×V))
 |own (x:S1)
 |xd (fs:List (Str×V))
 |cod (q:Str)
 |rng (lo hi:Int)
 |frz (o:Obj) (u:HO)
 |tbl (ps:Array (Nat×Nat×Str))
 |ext (φ:Sb->Prop)
noncomputable abbrev Hp:=S1->Option HO
noncomputable def upd (H:Hp) (a:S1) (o:HO):Hp:=λb=>if b=a then some o else H b
theorem So:upd H a o a=some o:=by unfold upd;rw [if_pos rfl]
theorem Sy (h:b≠a):upd H a o b=H b:=by unfold upd;rw [if_neg h]
theorem Jm8:upd (upd H a o) a u=upd H a u:=by
 funext b;unfold upd;split <;> rfl
theorem Sk2 {H:Hp} {a b} {o u} (h:H a=some o) (h':H b=some u) (d:o≠u):a≠b:=by grind
theorem Jjm {H:Hp} {a b} {o} (h:H a=some o) (h':H b=none):a≠b:=by grind
noncomputable def Shv (o:Obj):HO:=.frz o (.ext λ_=>True)
noncomputable def Scn (H:Hp) (lb:Array (Nat×Nat×Str)):List S2->Prop
 | []=>True
 | .int l _:: .int c _::v::r=>(∃(n m:Nat) (q:Str) (a:S1),(n,m,q)∈lb/\l=n/\c=m/\v= .ref a/\H a=some (.cod q))/\Scn H lb r
 |_=>False
theorem Scn.mono (k:∀b q,H b=some (.cod q)->H' b=some (.cod q)) (x:Scn H lb l):Scn H' lb l:=by
 fun_induction Scn H lb l with
 |case1=>exact True.intro
 |case2 l _ c _ v r ih=>
  obtain ⟨⟨n,m,q,a,h1,h2,h3,h4,h5⟩,h6⟩:=x;exact ⟨⟨n,m,q,a,h1,h2,h3,h4,k _ _ h5⟩,ih h6⟩
 |case3=>exact x.elim
section
variable (P:S7) (w:S9)
noncomputable def Sac (H:Hp) (h:Sb) (a:S1):HO->Prop
 | .lst xs=>xs.length<=S6/\∃(its:List S2) (n:Nat),Sv xs its/\h.get? a=some {cls:=.type "list",data:=.seq its.toArray n}
 | .tup xs=>xs.length<=S6/\∃its:List S2,Sv xs its/\IsTup h a its.toArray
 | .dK kvs=>kvs.length<=S6/\(a==sysModules)=false/\∃vs,KV kvs vs/\h.DictOf (Jkd P w) a vs
 | .dT kvs=>kvs.length<=S6/\(a==sysModules)=false/\∃xs:List (List Key×S1×S2),
   Paired (λ(p:List Key×V) (q:List Key×S1×S2)=>p.1=q.1/\H q.2.1=some (.tup (p.1.map kV))/\Su p.2 q.2.2) kvs xs/\
   ∃o es ep,h.get? a=some o/\o.ExactDict/\o.data= .dict es ep/\es.toList=xs.map (entryOfKey (tupleKind (Jkd P w)))/\(xs.map (·.1)).Nodup
 | .set S n=>h.SetOf (intKind P w) a S n
 | .ins C dx fs=>H dx=some (.own a)/\fs.length<=1000/\dx≠a/\h.get? a=some (Sh C dx)/\
   ∃mA,h.Ns1 dx mA/\(∀f,Sc1 (fs.lookup f) (mA f))/\PySem.Within mA (fs.map (·.1))
 | .own _=>∃o,h.get? a=some o
 | .xd fs=>∃mA,h.Ns1 a mA/\∀f,Sc1 (fs.lookup f) (mA f)
 | .rng lo hi=>∃t u v,h.get? a=some {cls:=.type "range",data:=.fields #[.int lo t,.int hi u,.int 1 v]}
 | .frz o u=>h.get? a=some o/\Sac H h a u
 | .tbl lb=>∃ts:Array S2,h.get? a=some ⟨.none,none,.fields ts,#[]⟩/\Scn H lb ts.toList
 | .cod q=>h.CodeRec (.ref a) q
 | .ext φ=>φ h/\(∃o,h.get? a=some o)/\∀h1 h2:Sb,φ h1->(∀o,h1.get? a=some o->h2.get? a=some o)->φ h2
noncomputable def HOk (H:Hp) (h:Sb):Prop:=∀a o,H a=some o->Sac P w H h a o
end
section
variable {P:S7} {w:S9} {H H':Hp} {h h':Sb} {a:S1} {o:HO}
theorem Sac.lt (x:Sac P w H h a o):a < h.objs.size:=by
 cases o with
 |lst xs=>obtain ⟨_,_,_,_,e⟩:=x;exact yi e
 |tup xs=>obtain ⟨_,_,_,p⟩:=x;exact p.lt
 |dK kvs=>obtain ⟨_,_,_,_,o,_,_,e,_⟩:=x;exact yi e
 |dT kvs=>obtain ⟨_,_,_,_,o,_,_,e,_⟩:=x;exact yi e
 |set S n=>obtain ⟨o,_,_,_,e,_⟩:=x;exact yi e
 |ins C dx fs=>obtain ⟨_,_,_,e,_⟩:=x;exact yi e
 |own y=>obtain ⟨_,e⟩:=x;exact yi e
 |xd fs=>obtain ⟨_,⟨_,_,_,e,_⟩,_⟩:=x;exact yi e
 |rng lo hi=>obtain ⟨_,_,_,e⟩:=x;exact yi e
 |frz ob u=>obtain ⟨e,_⟩:=x;exact yi e
 |tbl lb=>obtain ⟨_,e,_⟩:=x;exact yi e
 |cod q=>obtain ⟨_,_,_,_,e1,e2,_⟩:=x;cases e1;exact yi e2
 |ext φ=>obtain ⟨_,⟨_,e⟩,_⟩:=x;exact yi e
theorem Paired.mapP {α β:Type} {F G:α->β->Prop}:∀{l₁:List α} {l₂:List β},Paired F l₁ l₂->(∀a b,F a b->G a b)->Paired G l₁ l₂
 |_,_,.nil,_=>.nil
 |_,_,.cons r t,f=>.cons (f _ _ r) (Paired.mapP t f)
theorem Sac.stay (x:Sac P w H h a o) (k:∀b u,(b=a\/H b=some (.own a))->h.get? b=some u->h'.get? b=some u)
  (ho:∀b,H b=some (.own a)->H' b=some (.own a)) (ht:∀b xs,H b=some (.tup xs)->H' b=some (.tup xs)) (hc:∀b q,H b=some (.cod q)->H' b=some (.cod q)):Sac P w H' h' a o:=by
 induction o with
 |lst xs=>obtain ⟨z,its,n,r,e⟩:=x;exact ⟨z,its,n,r,k _ _ (.inl rfl) e⟩
 |tup xs=>obtain ⟨z,its,r,ob,e,c⟩:=x;exact ⟨z,its,r,ob,k _ _ (.inl rfl) e,c⟩
 |dK kvs=>obtain ⟨z,y,vs,r,ob,es,ep,e,c⟩:=x;exact ⟨z,y,vs,r,ob,es,ep,k _ _ (.inl rfl) e,c⟩
 |dT kvs=>
  obtain ⟨z,y,xs,r,ob,es,ep,e,c⟩:=x;exact ⟨z,y,xs,Paired.mapP r λp q z=>⟨z.1,ht _ _ z.2.1,z.2.2⟩,ob,es,ep,k _ _ (.inl rfl) e,c⟩
 |set S n=>obtain ⟨ob,es,ep,t,e,c⟩:=x;exact ⟨ob,es,ep,t,k _ _ (.inl rfl) e,c⟩
 |ins C dx fs=>
  obtain ⟨d,z,ne,e,mA,⟨od,es,ep,e2,c⟩,r⟩:=x;exact ⟨ho _ d,z,ne,k _ _ (.inl rfl) e,mA,⟨od,es,ep,k _ _ (.inr d) e2,c⟩,r⟩
 |own y=>obtain ⟨ob,e⟩:=x;exact ⟨ob,k _ _ (.inl rfl) e⟩
 |xd fs=>obtain ⟨mA,⟨od,es,ep,e,c⟩,r⟩:=x;exact ⟨mA,⟨od,es,ep,k _ _ (.inl rfl) e,c⟩,r⟩
 |rng lo hi=>obtain ⟨t,u,v,e⟩:=x;exact ⟨t,u,v,k _ _ (.inl rfl) e⟩
 |frz ob u ih=>obtain ⟨e,q⟩:=x;exact ⟨k _ _ (.inl rfl) e,ih q⟩
 |tbl lb=>obtain ⟨ts,e,r⟩:=x;exact ⟨ts,k _ _ (.inl rfl) e,r.mono hc⟩
 |cod q=>obtain ⟨c,o,vs,t,e1,e2,e3,e4⟩:=x;cases e1;exact ⟨_,o,vs,t,rfl,k _ _ (.inl rfl) e2,e3,e4⟩
 |ext φ=>obtain ⟨p,⟨o,e⟩,st⟩:=x;exact ⟨st _ _ p λo q=>k _ _ (.inl rfl) q,⟨o,k _ _ (.inl rfl) e⟩,st⟩
theorem HOk.lt (x:HOk P w H h) (e:H a=some o):a < h.objs.size:=(x a o e).lt
theorem HOk.fresh (x:HOk P w H h) (e:h.objs.size<=a):H a=none:=by
 cases q:H a with
 |none=>rfl
 |some u=>exact absurd (yal (x.lt q) e) (yaq _)
theorem HOk.kept (x:HOk P w H h) (k:∀b u,h.get? b=some u->h'.get? b=some u):HOk P w H h':=λa o e=>
 (x a o e).stay (λb u _ q=>k b u q) (λ_ q=>q) (λ_ _ q=>q) λ_ _ q=>q
theorem HOk.laid (x:HOk P w H h) (k:∀b u,h.get? b=some u->h'.get? b=some u) (hp:h.objs.size<=a) (new:Sac P w (upd H a o) h' a o):HOk P w (upd H a o) h':=λb u e=>by
 have hn:=x.fresh hp;by_cases hb:b=a
 ·subst hb;rw [So] at e;cases e;exact new
 ·rw [Sy hb] at e;exact (x b u e).stay (λc v _ q=>k c v q) (λc q=>by rw [Sy (Jjm q hn)];exact q) (λc xs q=>by rw [Sy (Jjm q hn)];exact q) λc xs q=>by rw [Sy (Jjm q hn)];exact q
end
noncomputable def Rd (H:Hp) (a:S1) (u:HO):Prop:=H a=some u\/∃o,H a=some (.frz o u)
theorem Rd.ok (r:Rd H a u) (x:HOk P w H h):Sac P w H h a u:=by
 rcases r with r|⟨o,r⟩
 ·exact x a u r
 ·obtain ⟨_,q⟩:=x a _ r;exact q
noncomputable def Mut:Option HO->Prop
 |some (.lst _)=>True
 |some (.dK _)=>True
 |some (.dT _)=>True
 |some (.set _ _)=>True
 |some (.ins _ _ _)=>True
 |some (.ext _)=>True
 |_=>False
section
variable {P:S7} {w:S9} {H:Hp} {h h':Sb} {x e:S1} {o':HO}
theorem HOk.write (ok:HOk P w H h) (mu:Mut (H x)) (he:e=x\/H e=some (.own x)) (k:∀b u,b≠e->h.get? b=some u->h'.get? b=some u) (heo:∃u,h'.get? e=some u)
  (new:Sac P w (upd H x o') h' x o'):HOk P w (upd H x o') h':=λb u q=>by
 have nown:∀c y,H c=some (.own y)->c≠x:=λc y r z=>by subst z;rw [r] at mu;exact mu
 have ntup:∀c xs,H c=some (.tup xs)->c≠x:=λc xs r z=>by subst z;rw [r] at mu;exact mu
 by_cases hb:b=x
 ·subst hb;rw [So] at q;cases q;exact new
 ·rw [Sy hb] at q;by_cases hbe:b=e
  ·have q':H b=some (.own x):=by
    rcases he with z|z
    ·exact absurd (hbe.trans z) hb
    ·rw [hbe];exact z
   rw [q] at q';cases q';obtain ⟨v,hv⟩:=heo;exact ⟨v,by rw [hbe];exact hv⟩
  ·refine (ok b u q).stay (λc v hc r=>k c v ?_ r) (λc r=>by rw [Sy (nown c b r)];exact r) (λc xs r=>by rw [Sy (ntup c xs r)];exact r) λc xs r=>by rw [Sy λz=>by subst z;rw [r] at mu;exact mu];exact r
   rcases hc with rfl|hc
   ·exact hbe
   ·rintro rfl;rcases he with z|z
    ·exact nown c b hc z
    ·rw [hc] at z;cases z;exact hb rfl
end
structure Un (fs ex:List S1) (H H':Hp) (h h':Sb):Prop where
 keep:∀b o,h.get? b=some o->H b=none->b∉fs->b∉ex->h'.get? b=some o
 slot:∀b o,h.get? b=some o->H b=none->b∈fs->b∉ex->∃sl,h'.get? b=some {o with slots:=sl}
 free:∀b o,h.get? b=some o->H b=none->b∉ex->H' b=none
 there:∀b o,h.get? b=some o->b∉ex->∃o',h'.get? b=some o'
 tups:∀b xs,H b=some (.tup xs)->H' b=some (.tup xs)
 frzs:∀b o u,H b=some (.frz o u)->H' b=some (.frz o u)
 tbls:∀b ps,H b=some (.tbl ps)->∃more,H' b=some (.tbl (ps++more))
section
variable {fs fs' ex ex':List S1} {H H1 H2:Hp} {h h1 h2 h':Sb} {a x e:S1} {o:HO}
theorem Un.any (u:Un fs ex H H1 h h1) (q:h.get? b=some ob) (n:H b=none) (hx:b∉ex):∃sl,h1.get? b=some {ob with slots:=sl}:=by
 by_cases hb:b∈fs
 ·exact u.slot b ob q n hb hx
 ·exact ⟨ob.slots,u.keep b ob q n hb hx⟩
theorem Un.trans (a:Un fs ex H H1 h h1) (b:Un fs ex H1 H2 h1 h2):Un fs ex H H2 h h2 where
 keep:=λc ob q n hc hx=>b.keep c ob (a.keep c ob q n hc hx) (a.free c ob q n hx) hc hx
 slot:=λc ob q n hc hx=>by
  obtain ⟨sl,e1⟩:=a.slot c ob q n hc hx;obtain ⟨sl',e2⟩:=b.slot c _ e1 (a.free c ob q n hx) hc hx;exact ⟨sl',e2⟩
 free:=λc ob q n hx=>by
  obtain ⟨o',e1⟩:=a.there c ob q hx;exact b.free c o' e1 (a.free c ob q n hx) hx
 there:=λc ob q hx=>by
  obtain ⟨o',e1⟩:=a.there c ob q hx;exact b.there c o' e1 hx
 tups:=λc xs q=>b.tups c xs (a.tups c xs q)
 frzs:=λc ob xs q=>b.frzs c ob xs (a.frzs c ob xs q)
 tbls:=λc ps q=>by
  obtain ⟨m1,e1⟩:=a.tbls c ps q;obtain ⟨m2,e2⟩:=b.tbls c _ e1;exact ⟨m1++m2,by rw [e2,Array.append_assoc]⟩
theorem Un.kept (k:∀b u,h.get? b=some u->h'.get? b=some u):Un fs ex H H h h':=
 ⟨λb ob q _ _ _=>k b ob q,λb ob q _ _ _=>⟨ob.slots,k b ob q⟩,λ_ _ _ n _=>n,λb ob q _=>⟨ob,k b ob q⟩,λ_ _ q=>q,λ_ _ _ q=>q,λ_ ps q=>⟨#[],by rw [q];simp⟩⟩
theorem Un.refl:Un fs ex H H h h:=Un.kept λ_ _ q=>q
theorem Un.laid (k:∀b u,h.get? b=some u->h'.get? b=some u) (hp:h.objs.size<=a) (hn:H a=none):Un fs ex H (upd H a o) h h' where
 keep:=λb u q _ _ _=>k b u q
 slot:=λb u q _ _ _=>⟨u.slots,k b u q⟩
 free:=λb u q n _=>by rw [Sy (yt (yal (yi q) hp))];exact n
 there:=λb u q _=>⟨u,k b u q⟩
 tups:=λb xs q=>by rw [Sy (Jjm q hn)];exact q
 frzs:=λb u xs q=>by rw [Sy (Jjm q hn)];exact q
 tbls:=λb ps q=>⟨#[],by rw [Sy (Jjm q hn),q];simp⟩
theorem Un.write (mu:Mut (H x)) (he:e=x\/H e=some (.own x)) (k:∀b u,b≠e->h.get? b=some u->h'.get? b=some u) (heo:∃u,h'.get? e=some u):Un fs ex H (upd H x o) h h':=by
 have hx:∀b,H b=none->b≠x:=λb n z=>by subst z;rw [n] at mu;exact mu
 have hb:∀b,H b=none->b≠e:=λb n z=>by
  subst z;rcases he with r|r
  ·exact hx b n r
  ·rw [n] at r;cases r
 have hm:∀b u,H b=some u->¬Mut (some u)->b≠x:=λb u q nm z=>by subst z;rw [q] at mu;exact nm mu
 refine ⟨λb u q n _ _=>k b u (hb b n) q,λb u q n _ _=>⟨u.slots,k b u (hb b n) q⟩,λb u q n _=>by rw [Sy (hx b n)];exact n,λb u q _=>?_,
  λb xs q=>by rw [Sy (hm b _ q λz=>z)];exact q,λb u xs q=>by rw [Sy (hm b _ q λz=>z)];exact q,λb ps q=>⟨#[],by rw [Sy (hm b _ q λz=>z),q];simp⟩⟩
 by_cases hbe:b=e
 ·subst hbe;exact heo
 ·exact ⟨u,k b u hbe q⟩
end
noncomputable def trk (h:Sb) (H:Hp):List S1:=(yay h.objs.size).filter λa=>(H a).isSome
noncomputable def Ju6 (h:Sb) (H:Hp):Sb:=PySem.W.hideAll h (trk h H)
theorem Jyu (h) (H):(Ju6 h H).objs.size=h.objs.size:=PySem.W.hideAll_size _ _
theorem Jrw {H} {b} {o} (e:h.get? b=some o) (n:H b=none):(Ju6 h H).get? b=some o:=
 PySem.W.hideAll_get _ e λhm=>by
  have q:=(List.mem_filter.mp hm).2;rw [n] at q;simp at q
theorem Ybx (e:(Ju6 h H).get? b=some o):h.get? b=some o/\H b=none:=by
 have e':=PySem.W.of_hideAll (trk h H) e;refine ⟨e',?_⟩;cases q:H b with
 |none=>rfl
 |some x=>
  have hm:b∈trk h H:=List.mem_filter.mpr ⟨ybi.mpr (yi e'),by simp [q]⟩;have z:(Ju6 h H).get? b=none:=PySem.W.hideAll_none (trk h H) hm;rw [z] at e;cases e
structure Mod (K:Sd) (mg:Str->Option S2) (base:Sb):Prop where
 kin:K.In base
 glob:base.Ns mainGlobals mg
 blt:∃mb,base.Ns builtinsNs mb/\∀x:Str,x≠"__name__" ->mb x=bootBuiltins x
 nolimit:base.NoLimit
structure Cx where
 prog:S7
 w:S9
 K:Sd
 mg:Str->Option S2
 base:Sb
 A:Sa
 N:List Str
 s₀:S3
 H₀:Hp
 env:Env
 outer:List Env
 stack:List Env
 ex:List S1
 fn:Str->Bool
 calm:Bool
 pn:List (S1×Obj)
 xe:S2->S3->Prop
noncomputable def frs (l:List Env):List S1:=l.filterMap (·.frame)
noncomputable abbrev Cx.fs (X:Cx):List S1:=frs X.outer
noncomputable def Vis (sc:Scope) (x:Str):Prop:=sc.names.lookup x=some .local\/sc.names.lookup x=some .cell\/sc.names.lookup x=some .free
noncomputable def Loc (sc:Scope) (x:Str):Prop:=sc.names.lookup x=some .local\/sc.names.lookup x=some .cell
noncomputable def Su9 (env:Env) (h:Sb) (m:Str->Option S2) (x:Str) (u:S2):Prop:=
 (env.kindOf x=some .local/\m x=some u)\/((env.kindOf x=some .cell\/env.kindOf x=some .free)/\∃c,env.cells.lookup x=some c/\h.IsCell c (some u))
structure Cx.Ok (X:Cx):Prop where
 mod:Mod X.K X.mg X.base
 kind:X.env.scope.kind= .function
 glob:X.env.globals=mainGlobals
 blt:X.env.builtins=builtinsNs
 above:X.s₀.heap.objs.size<=X.env.locals
 inj:∀x y c,X.env.cells.lookup x=some c->X.env.cells.lookup y=some c->x=y
 has:∀x,(X.env.kindOf x=some .cell\/X.env.kindOf x=some .free)->∃c,X.env.cells.lookup x=some c
 cab:∀x c,X.fn x=true->X.env.cells.lookup x=some c->X.s₀.heap.objs.size<=c
 hd:X.calm=true->X.A.handled=none
 frames:X.A.frames=some X.stack
 stk:X.stack=X.outer\/(X.stack=X.env::X.outer/\X.env.frame=some X.env.locals)
 exf:∀b∈X.ex,b≠X.env.locals/\∀x c,X.env.cells.lookup x=some c->c≠b
 bs:∀b o,X.base.get? b=some o->X.s₀.heap.get? b=some o/\X.H₀ b=none
 bsz:X.base.objs.size<=X.s₀.heap.objs.size
 noex:∀b o,X.base.get? b=some o->b∉X.ex
 exfs:∀b∈X.ex,b∉X.fs
 funs:X.s₀.heap.FunFrames X.base X.outer
 frf:∀b∈X.fs,X.H₀ b=none
structure Sm (X:Cx) (pins:List (S1×Obj)) (σ:List (Option V)) (H:Hp) (s:S3):Prop where
 ok:X.Ok
 os:s.os=X.s₀.os
 bare:AllBare s.gens
 base:Un X.fs X.ex X.H₀ H X.s₀.heap s.heap
 loc:∃m,s.heap.Ns X.env.locals m/\∀(i:Nat) (x:Str) (v:V),X.N[i]?=some x->σ[i]?=some (some v)->Vis X.env.scope x->∃u,Su v u/\Su9 X.env s.heap m x u
 cell:∀x c,X.env.cells.lookup x=some c->∃v,s.heap.IsCell c v
 free:H X.env.locals=none
 freeC:∀x c,X.env.cells.lookup x=some c->H c=none\/(X.fn x=false/\∃o,H c=some (Shv o))
 pin:∀p∈X.pn++pins,s.heap.get? p.1=some p.2/\H p.1=none/\p.1≠X.env.locals/\p.1∉X.fs/\∀v,p.2.data≠ .cell v
 hok:HOk X.prog X.w H s.heap
 len:σ.length=X.N.length
section
variable {X:Cx} {pins:List (S1×Obj)} {σ:List (Option V)} {H H':Hp} {s:S3} {h':Sb}
theorem Cx.Ok.nofr (ok:X.Ok) (e:X.base.get? b=some o):b∉X.fs:=λhb=>by
 have:=(ok.funs.mem hb).1;rw [e] at this;cases this
theorem Sm.bs (I:Sm X pins σ H s):∀b o,X.base.get? b=some o->s.heap.get? b=some o/\H b=none:=λb o e=>
 ⟨I.base.keep b o (I.ok.bs b o e).1 (I.ok.bs b o e).2 (I.ok.nofr e) (I.ok.noex b o e),I.base.free b o (I.ok.bs b o e).1 (I.ok.bs b o e).2 (I.ok.noex b o e)⟩
theorem Sm.bk (I:Sm X pins σ H s):∀b o,X.base.get? b=some o->s.heap.get? b=some o:=λb o e=>(I.bs b o e).1
theorem Sm.mod (I:Sm X pins σ H s):Mod X.K X.mg X.base:=I.ok.mod
theorem Sm.kIn (I:Sm X pins σ H s):X.K.In s.heap:=I.ok.mod.kin.keeps I.bk
theorem Sm.lt (I:Sm X pins σ H s):X.env.locals < s.heap.objs.size:=let ⟨_,hn,_⟩:=I.loc;hn.lt
theorem Sm.sz (I:Sm X pins σ H s):X.s₀.heap.objs.size<=s.heap.objs.size:=yae I.ok.above (ybj I.lt)
theorem Sm.nofs (I:Sm X pins σ H s) (h:s.heap.objs.size<=a):a∉X.fs:=λhb=>by
 obtain ⟨_,o,ho,_⟩:=I.ok.funs.mem hb;exact absurd (yal (yi ho) (yae I.sz h)) (yaq _)
theorem Sm.cne (I:Sm X pins σ H s):∀x c,X.env.cells.lookup x=some c->c≠X.env.locals:=λx c e z=>by
 obtain ⟨v,o,ho,hd⟩:=I.cell x c e;obtain ⟨m,⟨o',es,ep,ho',hd',_⟩,_⟩:=I.loc;rw [z,ho'] at ho;cases ho;rw [hd'] at hd;cases hd
theorem Sm.funs (I:Sm X pins σ H s):s.heap.FunFrames X.base X.outer:=by
 have all:∀l,(∀b∈frs l,b∈X.fs)->X.s₀.heap.FunFrames X.base l->s.heap.FunFrames X.base l:=by
  intro l
  induction l with
  |nil=>intro _ _;trivial
  |cons env r ih=>
   rintro hs ⟨hk,⟨L,o,hf,hn,ho,hd⟩,hr⟩;have hL:=hs L (by unfold frs;rw [List.filterMap_cons,hf];exact yy);obtain ⟨sl,e⟩:=I.base.slot L o ho (I.ok.frf L hL) hL λz=>I.ok.exfs L z hL;exact ⟨hk,⟨L,_,hf,hn,e,hd⟩,ih (λb hb=>hs b (by unfold frs;rw [List.filterMap_cons,hf];exact yq _ hb)) hr⟩
 exact all X.outer (λ_ hb=>hb) I.ok.funs
theorem Sm.stack (I:Sm X pins σ H s):s.heap.FunFrames X.base X.stack:=by
 rcases I.ok.stk with e|⟨e,hf⟩
 ·rw [e];exact I.funs
 ·rw [e];obtain ⟨m,hn,_⟩:=I.loc;exact .cons (by rw [I.ok.kind];decide) hf hn (Heap.get?_none_of_le (yae I.ok.bsz I.ok.above)) I.funs
theorem Sm.stkSub (I:Sm X pins σ H s):∀b∈frs X.stack,b∈X.env.locals::X.fs:=λb hb=>by
 rcases I.ok.stk with e|⟨e,hf⟩
 ·rw [e] at hb;exact yq _ hb
 ·rw [e] at hb;unfold frs at hb;rw [List.filterMap_cons,hf] at hb;exact hb
theorem Sm.stkFree (I:Sm X pins σ H s):∀b∈frs X.stack,H b=none:=λb hb=>by
 rcases yr.mp (I.stkSub b hb) with e|hb
 ·rw [e];exact I.free
 ·obtain ⟨_,o,ho,_⟩:=I.ok.funs.mem hb;exact I.base.free b o ho (I.ok.frf b hb) λz=>I.ok.exfs b z hb
theorem Sm.step {ch:List S1} (I:Sm X pins σ H s)
  (hch:∀b∈ch,(b∈X.ex\/X.s₀.heap.objs.size<=b)/\b≠X.env.locals/\(∀x c,X.env.cells.lookup x=some c->c≠b)/\∀p∈X.pn++pins,p.1≠b)
  (keep:∀b o,b≠X.env.locals->b∉X.fs->b∉ch->s.heap.get? b=some o->H b=none->h'.get? b=some o)
  (slot:∀b o,b≠X.env.locals->b∈X.fs->b∉ch->s.heap.get? b=some o->H b=none->∃sl,h'.get? b=some {o with slots:=sl}) (free:∀b o,b∉ch->s.heap.get? b=some o->H b=none->H' b=none)
  (there:∀b o,b∉ch->s.heap.get? b=some o->∃o',h'.get? b=some o')
  (tups:∀b xs,H b=some (.tup xs)->H' b=some (.tup xs)) (frzs:∀b o u,H b=some (.frz o u)->H' b=some (.frz o u)) (tbls:∀b ps,H b=some (.tbl ps)->∃more,H' b=some (.tbl (ps++more)))
  (ns:∀m,s.heap.Ns X.env.locals m->h'.Ns X.env.locals m) (hok:HOk X.prog X.w H' h') (hg:AllBare g'):
  Sm X pins σ H' {s with heap:=h',gens:=g',drawn:=d',toks:=t'}:=by
 have neL:∀b o,X.s₀.heap.get? b=some o->b≠X.env.locals:=λb o e=>yt (yal (yi e) I.ok.above);have neC:∀b o,X.s₀.heap.get? b=some o->b∉X.ex->b∉ch:=λb o e hx hb=>by
  rcases (hch b hb).1 with z|z
  ·exact hx z
  ·exact absurd (yal (yi e) z) (yaq _)
 have cellK:∀x c,X.env.cells.lookup x=some c->∀v,s.heap.IsCell c v->h'.IsCell c v:=λx c e v ⟨o,ho,hd⟩=>by
  have nch:=λz=>(hch c z).2.2.1 x c e rfl;rcases I.freeC x c e with n|⟨_,ob,q⟩
  ·by_cases hc:c∈X.fs
   ·obtain ⟨sl,q⟩:=slot c o (I.cne x c e) hc nch ho n;exact ⟨_,q,hd⟩
   ·exact ⟨o,keep c o (I.cne x c e) hc nch ho n,hd⟩
  ·obtain ⟨e1,_⟩:=I.hok c _ q;obtain ⟨e2,_⟩:=hok c _ (frzs c ob _ q);rw [ho] at e1;cases e1;exact ⟨_,e2,hd⟩
 refine ⟨I.ok,I.os,hg,⟨λb o e n hb hx=>?_,λb o e n hb hx=>?_,λb o e n hx=>?_,λb o e hx=>?_,λb xs e=>tups b xs (I.base.tups b xs e),λb o xs e=>frzs b o xs (I.base.frzs b o xs e),λb ps e=>?_⟩,?_,λx c e=>?_,?_,λx c e=>?_,λp hp=>?_,hok,I.len⟩
 ·exact keep b o (neL b o e) hb (neC b o e hx) (I.base.keep b o e n hb hx) (I.base.free b o e n hx)
 ·obtain ⟨sl,e1⟩:=I.base.slot b o e n hb hx;obtain ⟨sl',e2⟩:=slot b _ (neL b o e) hb (neC b o e hx) e1 (I.base.free b o e n hx);exact ⟨sl',e2⟩
 ·obtain ⟨o',e1⟩:=I.base.there b o e hx;exact free b o' (neC b o e hx) e1 (I.base.free b o e n hx)
 ·obtain ⟨o',e1⟩:=I.base.there b o e hx;exact there b o' (neC b o e hx) e1
 ·obtain ⟨m1,e1⟩:=I.base.tbls b ps e;obtain ⟨m2,e2⟩:=tbls b _ e1;exact ⟨m1++m2,by rw [e2,Array.append_assoc]⟩
 ·obtain ⟨m,hn,hl⟩:=I.loc;refine ⟨m,ns m hn,λi x v e1 e2 e3=>?_⟩;obtain ⟨u,r,l⟩:=hl i x v e1 e2 e3;refine ⟨u,r,?_⟩;rcases l with l|⟨k,c,e,z⟩
  ·exact .inl l
  ·exact .inr ⟨k,c,e,cellK x c e _ z⟩
 ·obtain ⟨v,z⟩:=I.cell x c e;exact ⟨v,cellK x c e v z⟩
 ·obtain ⟨m,⟨o,_,_,ho,_⟩,_⟩:=I.loc;exact free _ o (λz=>(hch _ z).2.1 rfl) ho I.free
 ·obtain ⟨v,o,ho,hd⟩:=I.cell x c e;rcases I.freeC x c e with n|⟨hf,ob,q⟩
  ·exact .inl (free c o (λz=>(hch c z).2.2.1 x c e rfl) ho n)
  ·exact .inr ⟨hf,ob,frzs c ob _ q⟩
 ·obtain ⟨e,n,ne,nf,d⟩:=I.pin p hp;have nch:=λz=>(hch p.1 z).2.2.2 p hp rfl;exact ⟨keep p.1 p.2 ne nf nch e n,free p.1 p.2 nch e n,ne,nf,d⟩
theorem Sm.un (I:Sm X pins σ H s) (u:Un X.fs [] H H' s.heap h') (hok:HOk X.prog X.w H' h'):Sm X pins σ H' {s with heap:=h',toks:=t'}:=by
 obtain ⟨m,⟨o,es,ep,ho,r⟩,_⟩:=id I.loc;obtain ⟨sl,hL⟩:=u.any ho I.free (by simp);exact I.step (ch:=[]) (λ_ z=>nomatch z) (λb o _ hb _ e n=>u.keep b o e n hb (by simp)) (λb o _ hb _ e n=>u.slot b o e n hb (by simp)) (λb o _ e n=>u.free b o e n (by simp)) (λb o _ e=>u.there b o e (by simp)) u.tups u.frzs u.tbls (λm' hm=>by
  obtain ⟨o',es',ep',ho',r'⟩:=hm;rw [ho] at ho';cases ho';exact ⟨_,es',ep',hL,r'⟩) hok I.bare
theorem Sm.call (I:Sm X pins σ H s) (u:Un (frs X.stack) ch H H' s.heap h') (hok:HOk X.prog X.w H' h') (hg:AllBare g')
  (hch:∀b∈ch,(b∈X.ex\/X.s₀.heap.objs.size<=b)/\b≠X.env.locals/\(∀x c,X.env.cells.lookup x=some c->c≠b)/\∀p∈X.pn++pins,p.1≠b):
  Sm X pins σ H' {s with heap:=h',gens:=g',drawn:=d',toks:=t'}:=by
 obtain ⟨m,⟨o,es,ep,ho,r⟩,_⟩:=id I.loc;obtain ⟨sl,hL⟩:=u.any ho I.free λz=>(hch _ z).2.1 rfl;exact I.step hch (λb o hL hb hc e n=>u.keep b o e n (λz=>(yr.mp (I.stkSub b z)).elim hL hb) hc) (λb o _ _ hc e n=>u.any e n hc) (λb o hc e n=>u.free b o e n hc) (λb o hc e=>u.there b o e hc) u.tups u.frzs u.tbls (λm' hm=>by
  obtain ⟨o',es',ep',ho',r'⟩:=hm;rw [ho] at ho';cases ho';exact ⟨_,es',ep',hL,r'⟩) hok hg
theorem Sm.turned (I:Sm X pins σ H s) (k:∀b o,b≠it->s.heap.get? b=some o->h'.get? b=some o) (hn:H it=none) (hL:it≠X.env.locals)
  (h1:it∈X.ex\/X.s₀.heap.objs.size<=it) (h2:∀x c,X.env.cells.lookup x=some c->c≠it) (h3:∀p∈X.pn++pins,p.1≠it):Sm X pins σ H {s with heap:=h',toks:=t'}:=by
 have nit:∀b u,H b=some u->b≠it:=λb u e z=>by rw [z,hn] at e;cases e
 refine I.step (ch:=[it]) (λb hb=>?_) (λb o _ _ hc e _=>k b o (λz=>hc (by simp [z])) e) (λb o _ _ hc e _=>⟨o.slots,k b o (λz=>hc (by simp [z])) e⟩) (λ_ _ _ _ n=>n)
  (λb o hc e=>⟨o,k b o (λz=>hc (by simp [z])) e⟩) (λ_ _ e=>e) (λ_ _ _ e=>e) (λb ps e=>⟨#[],by rw [e];simp⟩) (λm hm=>?_) (λb u e=>?_) I.bare
 ·have e:=by simpa using hb
  subst e;exact ⟨h1,hL,h2,h3⟩
 ·obtain ⟨o,es,ep,ho,r⟩:=hm;exact ⟨o,es,ep,k _ o (yu hL) ho,r⟩
 ·refine (I.hok b u e).stay (λc v hc q=>k c v ?_ q) (λ_ q=>q) (λ_ _ q=>q) λ_ _ q=>q;rcases hc with z|z
  ·rw [z];exact nit b u e
  ·exact nit c _ z
theorem Sm.tok (I:Sm X pins σ H s) (t):Sm X pins σ H {s with toks:=t}:=I.un Un.refl I.hok
theorem Sm.kept (I:Sm X pins σ H s) (k:∀b u,s.heap.get? b=some u->h'.get? b=some u):Sm X pins σ H {s with heap:=h',toks:=t'}:=I.un (Un.kept k) (I.hok.kept k)
theorem Sm.laid (I:Sm X pins σ H s) (k:∀b u,s.heap.get? b=some u->h'.get? b=some u) (hp:s.heap.objs.size<=a) (new:Sac X.prog X.w (upd H a o) h' a o):
  Sm X pins σ (upd H a o) {s with heap:=h',toks:=t'}:=I.un (Un.laid k hp (I.hok.fresh hp)) (I.hok.laid k hp new)
theorem Sm.write (I:Sm X pins σ H s) (mu:Mut (H x)) (he:e=x\/H e=some (.own x)) (k:∀b u,b≠e->s.heap.get? b=some u->h'.get? b=some u) (heo:∃u,h'.get? e=some u)
  (new:Sac X.prog X.w (upd H x o) h' x o):Sm X pins σ (upd H x o) {s with heap:=h',toks:=t'}:=I.un (Un.write mu he k heo) (I.hok.write mu he k heo new)
theorem Sm.pins_of (I:Sm X pins σ H s) (h:∀p∈pins',s.heap.get? p.1=some p.2/\H p.1=none/\p.1≠X.env.locals/\p.1∉X.fs/\∀v,p.2.data≠ .cell v):Sm X pins' σ H s:=
 ⟨I.ok,I.os,I.bare,I.base,I.loc,I.cell,I.free,I.freeC,λp hp=>(ybb.mp hp).elim (λz=>I.pin p (List.mem_append_left _ z)) (h p),I.hok,I.len⟩
theorem Jvq {N:List Str} (hN:N.Nodup) {i:Nat} (a:N[i]?=some x) (b:N[j]?=some x):i=j:=by
 obtain ⟨h1,e1⟩:=yk.mp a;obtain ⟨h2,e2⟩:=yk.mp b;exact (List.getElem_inj hN).mp (e1.trans e2.symm)
theorem Jtp {E} {i} {x} {v} {u} {Q} (I:Sm X pins σ H s) (hN:X.N.Nodup) (hi:X.N[i]?=some x) (hx:Loc X.env.scope x) (r:Su v u)
  (h:∀s',Sm X pins (σ.set i (some v)) H s'->(∃a,yz a s.heap s'.heap/\(a=X.env.locals\/X.env.cells.lookup x=some a))->Q () s') (hf:X.fn x=true\/X.env.scope.names.lookup x=some .local:=by first|exact .inl rfl|exact .inr rfl|assumption):Sc M A (storeName X.env x u) Q E s:=by
 obtain ⟨m,hn,hl⟩:=id I.loc;have hcls:(X.env.scope.kind== .class||(X.env.scope.kind== .module&&X.env.locals !=X.env.globals))=false:=by rw [I.ok.kind];rfl
 have hiσ:i < σ.length:=by rw [I.len];exact (yk.mp hi).1
 have cne:=I.cne;have tracked:∀{a:S1} {h':Sb},(∃o,s.heap.get? a=some o/\H a=none)->yz a s.heap h'->HOk X.prog X.w H h':=λ{a h'} ha hs b ob e=>by
  obtain ⟨_,_,hfree⟩:=ha;refine (I.hok b ob e).stay (λc w' hc q=>(hs.2 c ?_).trans q) (λ_ q=>q) (λ_ _ q=>q) λ_ _ q=>q;rintro rfl;rcases hc with rfl|hc
  ·rw [hfree] at e;cases e
  ·rw [hfree] at hc;cases hc
 rcases hx with hk|hk
 ·refine wpAny_storeName_local hk hn (λh' hn' hs=>?_) hcls;obtain ⟨oL,_,_,hoL,_⟩:=id hn;refine h _ ⟨I.ok,I.os,I.bare,⟨λb o e n hb hx=>?_,λb o e n hb hx=>?_,I.base.free,λb o e hx=>?_,I.base.tups,I.base.frzs,I.base.tbls⟩,⟨_,hn',λj y v' e1 e2 e3=>?_⟩,λy c e=>?_,I.free,I.freeC,λp hp=>?_,tracked ⟨oL,hoL,I.free⟩ hs,by simpa using I.len⟩ ⟨_,hs,.inl rfl⟩
  ·exact (hs.2 b (yt (yal (yi e) I.ok.above))).trans (I.base.keep b o e n hb hx)
  ·obtain ⟨sl,e1⟩:=I.base.slot b o e n hb hx;exact ⟨sl,(hs.2 b (yt (yal (yi e) I.ok.above))).trans e1⟩
  ·obtain ⟨o',e1⟩:=I.base.there b o e hx;exact ⟨o',(hs.2 b (yt (yal (yi e) I.ok.above))).trans e1⟩
  ·by_cases hj:j=i
   ·subst hj;rw [hi] at e1;cases e1;rw [List.getElem?_set_self hiσ] at e2;cases e2;exact ⟨u,r,.inl ⟨hk,by simp⟩⟩
   ·rw [List.getElem?_set_ne (yu hj)] at e2;obtain ⟨u',r',q⟩:=hl j y v' e1 e2 e3;refine ⟨u',r',?_⟩;rcases q with ⟨k,e⟩|⟨k,c,e,z⟩
    ·refine .inl ⟨k,?_⟩;have:y≠x:=λe=>hj (Jvq hN e1 (e▸hi));simp [this,e]
    ·exact .inr ⟨k,c,e,z.sameBut hs (cne y c e)⟩
  ·obtain ⟨w',z⟩:=I.cell y c e;exact ⟨w',z.sameBut hs (cne y c e)⟩
  ·obtain ⟨e,n,ne,nf,d⟩:=I.pin p hp;exact ⟨(hs.2 p.1 ne).trans e,n,ne,nf,d⟩
 ·have hfn:X.fn x=true:=by
   rcases hf with z|z
   ·exact z
   ·rw [z] at hk;cases hk
  obtain ⟨c,hc⟩:=I.ok.has x (.inl hk);obtain ⟨w',z⟩:=I.cell x c hc;refine wpAny_storeName_cell I.ok.kind hk hc z (λh' hc' hs=>?_);obtain ⟨oc,hoc,hocd⟩:=id z;refine h {s with heap:=h'} ⟨I.ok,I.os,I.bare,⟨λb o e n hb hx=>?_,λb o e n hb hx=>?_,I.base.free,λb o e hx=>?_,I.base.tups,I.base.frzs,I.base.tbls⟩,⟨m,hn.sameBut hs (yu (cne x c hc)),λj y v' e1 e2 e3=>?_⟩,λy c' e=>?_,I.free,I.freeC,λp hp=>?_,tracked ⟨oc,hoc,(I.freeC x c hc).elim id λz=>by rw [hfn] at z;cases z.1⟩ hs,by simpa using I.len⟩ ⟨c,hs,.inr hc⟩
  ·exact (hs.2 b (yt (yal (yi e) (I.ok.cab x c hfn hc)))).trans (I.base.keep b o e n hb hx)
  ·obtain ⟨sl,e1⟩:=I.base.slot b o e n hb hx;exact ⟨sl,(hs.2 b (yt (yal (yi e) (I.ok.cab x c hfn hc)))).trans e1⟩
  ·obtain ⟨o',e1⟩:=I.base.there b o e hx;exact ⟨o',(hs.2 b (yt (yal (yi e) (I.ok.cab x c hfn hc)))).trans e1⟩
  ·by_cases hj:j=i
   ·subst hj;rw [hi] at e1;cases e1;rw [List.getElem?_set_self hiσ] at e2;cases e2;exact ⟨u,r,.inr ⟨.inl hk,c,hc,hc'⟩⟩
   ·rw [List.getElem?_set_ne (yu hj)] at e2;obtain ⟨u',r',q⟩:=hl j y v' e1 e2 e3;refine ⟨u',r',?_⟩;rcases q with q|⟨k,c',e,z'⟩
    ·exact .inl q
    ·refine .inr ⟨k,c',e,z'.sameBut hs ?_⟩;rintro rfl;exact hj (Jvq hN e1 (I.ok.inj _ _ _ e hc▸hi))
  ·by_cases hcc:c'=c
   ·subst hcc;exact ⟨_,hc'⟩
   ·obtain ⟨w2,z2⟩:=I.cell y c' e;exact ⟨w2,z2.sameBut hs hcc⟩
  ·obtain ⟨e,n,ne,nf,d⟩:=I.pin p hp;refine ⟨(hs.2 p.1 ?_).trans e,n,ne,nf,d⟩;intro q;rw [q,hoc] at e;exact d w' (by rw [<-(yah.inj e)];exact hocd)
theorem Jsi {i} {x} {v} {u} {Q} (I:Sm X pins σ H s) (hN:X.N.Nodup) (hi:X.N[i]?=some x) (hx:Loc X.env.scope x) (r:Su v u)
  (h:∀s',Sm X pins (σ.set i (some v)) H s'->Q () s') (hf:X.fn x=true\/X.env.scope.names.lookup x=some .local:=by first|exact .inl rfl|exact .inr rfl|assumption):Sc M A (storeName X.env x u) Q E s:=
 Jtp I hN hi hx r (λs' I' _=>h s' I') hf
theorem Sm.call' (I:Sm X pins σ H s) (ho:s'.os=s.os) (u:Un (frs X.stack) ch H H' s.heap s'.heap) (hok:HOk X.prog X.w H' s'.heap) (hg:AllBare s'.gens)
  (hch:∀b∈ch,(b∈X.ex\/X.s₀.heap.objs.size<=b)/\b≠X.env.locals/\(∀x c,X.env.cells.lookup x=some c->c≠b)/\∀p∈X.pn++pins,p.1≠b):Sm X pins σ H' s':=by
 obtain ⟨h',g',d',t',o'⟩:=s';subst ho;exact I.call u hok hg hch
end
noncomputable abbrev XK:=S2->Option S1->Hp->Prop
noncomputable abbrev St:=List (Option V)
noncomputable abbrev VK:=V->Hp->Prop
noncomputable abbrev TE:=St->Hp->VK->Prop
noncomputable abbrev TT:=St->Hp->(Bool->Hp->Prop)->Prop
noncomputable abbrev TA:=St->Hp->(List V->Hp->Prop)->Prop
structure Sca where
 nx:St->Hp->Prop
 rt:VK
 bk:St->Hp->Prop:=λ_ _=>False
 ct:St->Hp->Prop:=λ_ _=>False
noncomputable abbrev TS:=Sca->St->Hp->Prop
noncomputable def EP (X:Cx) (pins:List (S1×Obj)) (σ:St) (Q:VK) (u:S2) (s':S3):Prop:=∃v H',Sm X pins σ H' s'/\Su v u/\Q v H'
noncomputable def TP (X:Cx) (pins:List (S1×Obj)) (σ:St) (Q:Bool->Hp->Prop) (b:Bool) (s':S3):Prop:=∃H',Sm X pins σ H' s'/\Q b H'
noncomputable def AP (X:Cx) (pins:List (S1×Obj)) (σ:St) (Q:List V->Hp->Prop) (us:List S2) (s':S3):Prop:=∃vs H',Sm X pins σ H' s'/\Sv vs us/\Q vs H'
noncomputable def SP (X:Cx) (pins:List (S1×Obj)) (D:Sca) (f:Flow) (s':S3):Prop:=
 match f with
 | .next=>∃σ' H',Sm X pins σ' H' s'/\D.nx σ' H'
 | .brk=>∃σ' H',Sm X pins σ' H' s'/\D.bk σ' H'
 | .cont=>∃σ' H',Sm X pins σ' H' s'/\D.ct σ' H'
 | .ret u=>∃v σ' H',Sm X pins σ' H' s'/\Su v u/\D.rt v H'
noncomputable def PE (X:Cx) (e:Expr) (t:TE):Prop:=
 ∀(pins:List (S1×Obj)) (s:S3) (σ:St) (H:Hp) (Q:VK),Sm X pins σ H s->t σ H Q->Sc (model X.prog X.w) X.A (eval e X.env) (EP X pins σ Q) X.xe s
noncomputable def PT (X:Cx) (e:Expr) (t:TT):Prop:=
 ∀(pins:List (S1×Obj)) (s:S3) (σ:St) (H:Hp) (Q:Bool->Hp->Prop),Sm X pins σ H s->t σ H Q->Sc (model X.prog X.w) X.A (isTrue e X.env (eval e X.env)) (TP X pins σ Q) X.xe s
noncomputable def PW (X:Cx) (e:Expr) (t:TT):Prop:=
 ∀(whole:Sem S2) (pins:List (S1×Obj)) (s:S3) (σ:St) (H:Hp) (Q:Bool->Hp->Prop),Sm X pins σ H s->t σ H Q->Sc (model X.prog X.w) X.A (isTrue e X.env whole) (TP X pins σ Q) X.xe s
theorem PW.pt (h:PW X e t):PT X e t:=h _
noncomputable def PA (X:Cx) (es:List Expr) (t:TA):Prop:=
 ∀(pos:Pos) (pins:List (S1×Obj)) (s:S3) (σ:St) (H:Hp) (Q:List V->Hp->Prop),Sm X pins σ H s->t σ H Q->Sc (model X.prog X.w) X.A (spliced (backTo pos (starEach es X.env))) (AP X pins σ Q) X.xe s
noncomputable def PS (X:Cx) (st:Stmt) (t:TS):Prop:=
 ∀(pins:List (S1×Obj)) (s:S3) (σ:St) (H:Hp) (D:Sca),Sm X pins σ H s->t D σ H->Sc (model X.prog X.w) X.A (exec st X.env) (SP X pins D) X.xe s
noncomputable def PSs (X:Cx) (st:List Stmt) (t:TS):Prop:=
 ∀(pins:List (S1×Obj)) (s:S3) (σ:St) (H:Hp) (D:Sca),Sm X pins σ H s->t D σ H->Sc (model X.prog X.w) X.A (execs st X.env) (SP X pins D) X.xe s
theorem thn (h:Sc M A t Q E s) (hQ:∀a s,Q a s->Q' a s):Sc M A t Q' E s:=wpAny_mono h hQ λ_ _ x=>x
section
variable {X:Cx}
inductive Sj9 (i:Nat) (σ:St) (H:Hp) (Q:VK):Prop where
 |mk (v:_) (_:σ[i]?=some (some v)) (_:Q v H)
noncomputable def tC (v:V):TE:=λ_ H Q=>Q v H
theorem Jx3 (hN:X.N[i]?=some x) (hv:Vis X.env.scope x) (hd:(x==("__debug__" :Str))=false:=by decide) (hcd:(x==("__classdict__" :Str))=false:=by decide):PE X (.Name x pos) (Sj9 i):=by
 rintro pins s σ H Q I ⟨v,e,h⟩;obtain ⟨m,hn,hl⟩:=I.loc;obtain ⟨u,r,l⟩:=hl i x v hN e hv;have fin:EP X pins σ Q u s:=⟨v,H,I,r,h⟩;rcases l with ⟨hk,hm⟩|⟨hk,c,hc,hcell⟩
 ·exact wpAny_Name (wpAny_loadName_local I.ok.kind hk hn hm fin) hd
 ·rcases hk with hk|hk
  ·exact wpAny_Name (wpAny_loadName_cell I.ok.kind hk hc hcell fin) hd
  ·exact wpAny_Name (wpAny_loadName_free I.ok.kind hk hc hcell fin hcd) hd
theorem Sn:PE X (.Constant (.int i) j pos) (tC (.int i)):=λ_ _ _ H _ I h=>wpAny_Constant_int ⟨.int i,H,I.tok _,⟨_,rfl⟩,h⟩
theorem Jko:PE X (.Constant (.bool b) j pos) (tC (.bl b)):=λ_ _ _ H _ I h=>Constant_bool ⟨.bl b,H,I,rfl,h⟩
theorem Jll:PE X (.Constant .none j pos) (tC .non):=λ_ _ _ H _ I h=>Constant_none ⟨.non,H,I,rfl,h⟩
theorem Jlu:PE X (.Constant (.str x) j pos) (tC (.str x)):=λ_ _ _ H _ I h=>Calls.Constant_str ⟨.str x,H,I.tok _,⟨_,rfl⟩,h⟩
noncomputable def Gl (X:Cx) (x:Str):Prop:=X.env.kindOf x=some .globalImplicit
theorem Joi {pins} {s} {σ:St} {H} {x} {u} {pos} {Q} (I:Sm X pins σ H s) (hg:Gl X x) (hm:X.mg x=some u) (h:Q u s)
  (hd:(x==("__debug__" :Str))=false:=by decide):Sc (model X.prog X.w) X.A (eval (.Name x pos) X.env) Q E s:=
 Calls.Name_function_global I.ok.kind hg (Calls.loadGlobal_global (by rw [I.ok.glob];exact I.mod.glob.keeps I.bk) hm h) hd
theorem Jny {E} {pins} {s} {σ:St} {H} {x} {u} {pos} {Q} (I:Sm X pins σ H s) (hg:Gl X x) (hm:X.mg x=none) (hv:bootBuiltins x=some u) (h:Q u s)
  (hn:x≠"__name__" :=by decide) (hd:(x==("__debug__" :Str))=false:=by decide):Sc (model X.prog X.w) X.A (eval (.Name x pos) X.env) Q E s:=by
 obtain ⟨mb,h1,h2⟩:=I.mod.blt;exact Calls.Name_function_global I.ok.kind hg (Calls.loadGlobal_builtin (by rw [I.ok.glob];exact I.mod.glob.keeps I.bk) hm (by rw [I.ok.blt];exact h1.keeps I.bk) ((h2 x hn).trans hv) h) hd
theorem Jl6 (hg:Gl X x) (hm:X.mg x=some u) (r:Su v u) (hd:(x==("__debug__" :Str))=false:=by decide):PE X (.Name x pos) (tC v):=
 λ_ _ _ H _ I h=>Joi I hg hm ⟨v,H,I,r,h⟩ hd
theorem Jkr (hg:Gl X x) (hm:X.mg x=none) (hv:bootBuiltins x=some u) (r:Su v u) (hn:x≠"__name__" :=by decide) (hd:(x==("__debug__" :Str))=false:=by decide):PE X (.Name x pos) (tC v):=
 λ_ _ _ H _ I h=>Jny I hg hm hv ⟨v,H,I,r,h⟩ hn hd
variable {a b:Expr} {ta tb:TE} {pos:Pos}
inductive Svr (Q:(Bool->Hp->Prop)) (x:V) (H1:Hp):Prop where
 |mk (c:_) (_:x= .bl c) (_:Q c H1)
noncomputable def tB (t:TE):TT:=λσ H Q=>t σ H (Svr Q)
theorem Jk0 (h:PE X e t) (he:∀whole,isTrue e X.env whole=(do let v<-whole;standAt e.pos;holding [v] (truthy v)):=by intro _;rfl):PT X e (tB t):=by
 intro pins s σ H Q I hw;refine isTrue_plain (thn (h pins s σ H _ I hw) λv s1 zq=>?_) (he _);obtain ⟨x,H1,I1,r1,q1⟩:=zq;obtain ⟨d,rfl,q⟩:=q1;cases r1;exact wpAny_truthy_bool ⟨H1,I1,q⟩
variable {tA tB':TT} {rest:List Expr}
noncomputable def Svp (t u:TT):TT:=λσ H Q=>t σ H λc H1=>if c=true then u σ H1 Q else Q false H1
noncomputable def tOr (t u:TT):TT:=λσ H Q=>t σ H λc H1=>if c=true then Q true H1 else u σ H1 Q
noncomputable def Svy (t:TT):TT:=λσ H Q=>t σ H λc H1=>Q (!c) H1
theorem Jy7 (ha:PT X a tA):PW X (.BoolOp .And [a] pos) tA:=by
 intro wh pins s σ H Q I h;refine isTrue_and (thn (ha pins s σ H Q I h) λc s1 e=>?_);cases c with
 |true=>exact isTrue_and_nil e
 |false=>exact e
theorem Jnh (ha:PT X a tA):PW X (.BoolOp .Or [a] pos) tA:=by
 intro wh pins s σ H Q I h;refine isTrue_or (thn (ha pins s σ H Q I h) λc s1 e=>?_);cases c with
 |false=>exact isTrue_or_nil e
 |true=>exact e
theorem Ya1 (ha:PT X a tA) (hb:PW X (.BoolOp .And (b::rest) pos) tB'):PW X (.BoolOp .And (a::b::rest) pos) (Svp tA tB'):=by
 intro wh pins s σ H Q I h;refine isTrue_and (thn (ha pins s σ H _ I h) λc s1 zq=>?_);obtain ⟨H1,I1,q1⟩:=zq;cases c with
 |true=>exact hb wh pins s1 σ H1 Q I1 q1
 |false=>exact ⟨H1,I1,q1⟩
theorem Joy (ha:PT X a tA) (hb:PW X (.BoolOp .Or (b::rest) pos) tB'):PW X (.BoolOp .Or (a::b::rest) pos) (tOr tA tB'):=by
 intro wh pins s σ H Q I h;refine isTrue_or (thn (ha pins s σ H _ I h) λc s1 zq=>?_);obtain ⟨H1,I1,q1⟩:=zq;cases c with
 |true=>exact ⟨H1,I1,q1⟩
 |false=>exact hb wh pins s1 σ H1 Q I1 q1
theorem Jk5 (ha:PT X a tA):PT X (.UnaryOp .Not a pos) (Svy tA):=by
 intro pins s σ H Q I h;exact isTrue_not (ha pins s σ H (λc H1=>Q (!c) H1) I h)
inductive Yct (ta tb:TE) (σ:St) (Q:VK) (x:V) (H1:Hp):Prop where
 |mk (c:_) (_:x= .bl c) (_:if c=true then tb σ H1 Q else Q (.bl false) H1)
noncomputable def Sql (ta tb:TE):TE:=λσ H Q=>ta σ H (Yct ta tb σ Q)
inductive Snd (ta tb:TE) (σ:St) (Q:VK) (x:V) (H1:Hp):Prop where
 |mk (c:_) (_:x= .bl c) (_:if c=true then Q (.bl true) H1 else tb σ H1 Q)
noncomputable def Svz (ta tb:TE):TE:=λσ H Q=>ta σ H (Snd ta tb σ Q)
theorem Jn0 (h:PE X a t):PE X (.BoolOp op [a] pos) t:=λpins s σ H Q I hw=>BoolOp_one (h pins s σ H Q I hw)
theorem Jmd (ha:PE X a ta) (hb:PE X (.BoolOp .And (b::rest) pos) tb):PE X (.BoolOp .And (a::b::rest) pos) (Sql ta tb):=by
 intro pins s σ H Q I h;refine BoolOp_and (thn (ha pins s σ H _ I h) λv s1 zq=>?_);obtain ⟨x,H1,I1,r1,q1⟩:=zq;obtain ⟨c,rfl,q1⟩:=q1;cases r1;refine wpAny_truthy_bool ?_;cases c with
 |true=>exact hb pins s1 σ H1 Q I1 q1
 |false=>exact ⟨.bl false,H1,I1,rfl,q1⟩
theorem Spp (ha:PE X a ta) (hb:PE X (.BoolOp .Or (b::rest) pos) tb):PE X (.BoolOp .Or (a::b::rest) pos) (Svz ta tb):=by
 intro pins s σ H Q I h;refine BoolOp_or (thn (ha pins s σ H _ I h) λv s1 zq=>?_);obtain ⟨x,H1,I1,r1,q1⟩:=zq;obtain ⟨c,rfl,q1⟩:=q1;cases r1;refine wpAny_truthy_bool ?_;cases c with
 |false=>exact hb pins s1 σ H1 Q I1 q1
 |true=>exact ⟨.bl true,H1,I1,rfl,q1⟩
end
noncomputable def Ss (K:Sd) (H:Hp) (a:S1) (xs:List V):Prop:=
 Rd H a (.lst xs)\/
  ∃(o:Obj) (its:Array S2) (n:Nat),K.lookup a=some o/\o.cls= .type "list" /\o.dict=none/\o.data= .seq its n/\its.size<=S6/\Sv xs its.toList
noncomputable def SqT (K:Sd) (H:Hp) (a:S1) (xs:List V):Prop:=
 Rd H a (.tup xs)\/
  ∃(o:Obj) (its:Array S2) (n:Nat),K.lookup a=some o/\o.cls= .type "tuple" /\o.data= .seq its n/\its.size<=S6/\Sv xs its.toList
noncomputable def Sul:S2->Option V
 | .none=>some .non
 | .bool b=>some (.bl b)
 | .int i _=>some (.int i)
 | .str x _=>some (.str x)
 | .bytes b _=>some (.byt b)
 | .float b _=>some (.flt b)
 | .ref a=>some (.ref a)
 | .type n=>some (.ty n)
 |_=>none
theorem Su.abs (r:Su x u):Sul u=some x:=by
 cases x with
 |non=>cases r;rfl
 |bl _=>cases r;rfl
 |int _=>obtain ⟨t,rfl⟩:=r;rfl
 |str _=>obtain ⟨t,rfl⟩:=r;rfl
 |byt _=>obtain ⟨t,rfl⟩:=r;rfl
 |flt _=>obtain ⟨t,rfl⟩:=r;rfl
 |ref _=>cases r;rfl
 |ty _=>cases r;rfl
theorem Su.inj (r:Su x u) (q:Su y u):x=y:=yah.inj (r.abs.symm.trans q.abs)
theorem Sv.inj:∀{xs ys:List V} {us:List S2},Sv xs us->Sv ys us->xs=ys
 |_,_,_,.nil,.nil=>rfl
 |_,_,_,.cons r t,.cons r' t'=>by rw [r.inj r',Sv.inj t t']
section
variable {X:Cx} {pins:List (S1×Obj)} {σ:St} {H:Hp} {s:S3} {a:S1} {xs ys:List V}
theorem Ss.of {K} (h:H a=some (.lst xs)):Ss K H a xs:=.inl (.inl h)
theorem SqT.of {K} (h:H a=some (.tup xs)):SqT K H a xs:=.inl (.inl h)
theorem Sm.list (I:Sm X pins σ H s) (h:Ss X.K H a xs):∃its:List S2,Sv xs its/\PlainL s.heap a its.toArray/\xs.length<=S6:=by
 rcases h with h|⟨o,its,n,hk,hc,hd,hs,hz,r⟩
 ·obtain ⟨z,its,n,r,e⟩:=h.ok I.hok;exact ⟨its,r,⟨_,n,e,rfl,rfl,rfl⟩,z⟩
 ·refine ⟨its.toList,r,⟨o,n,I.kIn a o hk,hc,hd,by simpa using hs⟩,?_⟩;have e:=r.length;simp only [ybx] at e
  lia
theorem Sm.tuple (I:Sm X pins σ H s) (h:SqT X.K H a xs):∃its:List S2,Sv xs its/\IsTup s.heap a its.toArray/\xs.length<=S6:=by
 rcases h with h|⟨o,its,n,hk,hc,hs,hz,r⟩
 ·obtain ⟨z,its,r,p⟩:=h.ok I.hok;exact ⟨its,r,p,z⟩
 ·refine ⟨its.toList,r,⟨o,I.kIn a o hk,hc,n,by simpa using hs⟩,?_⟩;have e:=r.length;simp only [ybx] at e
  lia
theorem Sm.list_inj (I:Sm X pins σ H s) (h:Ss X.K H a xs) (h':Ss X.K H a ys):xs=ys:=by
 obtain ⟨its,r,⟨o,n,e,_,_,d⟩,_⟩:=I.list h;obtain ⟨its',r',⟨o',n',e',_,_,d'⟩,_⟩:=I.list h';rw [e] at e';cases e';rw [d] at d';injection d' with d1 _;have:=by simpa using congrArg Array.toList d1
 subst this;exact r.inj r'
theorem Sm.tuple_inj (I:Sm X pins σ H s) (h:SqT X.K H a xs) (h':SqT X.K H a ys):xs=ys:=by
 obtain ⟨its,r,⟨o,e,_,n,d⟩,_⟩:=I.tuple h;obtain ⟨its',r',⟨o',e',_,n',d'⟩,_⟩:=I.tuple h';rw [e] at e';cases e';rw [d] at d';injection d' with d1 _;have:=by simpa using congrArg Array.toList d1
 subst this;exact r.inj r'
end
noncomputable abbrev Cx.wish (X:Cx) (E:S2->S3->Prop):Cx:={X with xe:=E}
noncomputable abbrev Cx.nox (X:Cx):Cx:=X.wish λ_ _=>False
theorem Cx.Ok.wish {X:Cx} (ok:X.Ok) (E):(X.wish E).Ok:=
 ⟨ok.mod,ok.kind,ok.glob,ok.blt,ok.above,ok.inj,ok.has,ok.cab,ok.hd,ok.frames,ok.stk,ok.exf,ok.bs,ok.bsz,ok.noex,ok.exfs,ok.funs,ok.frf⟩
theorem Cx.Ok.unwish {X:Cx} (ok:(X.wish E).Ok):X.Ok:=
 ⟨ok.mod,ok.kind,ok.glob,ok.blt,ok.above,ok.inj,ok.has,ok.cab,ok.hd,ok.frames,ok.stk,ok.exf,ok.bs,ok.bsz,ok.noex,ok.exfs,ok.funs,ok.frf⟩
section
variable {X:Cx} {pins:List (S1×Obj)} {σ:St} {H:Hp} {s:S3} {E:S2->S3->Prop}
theorem Sm.wish (I:Sm X pins σ H s) (E):Sm (X.wish E) pins σ H s:=⟨I.ok.wish E,I.os,I.bare,I.base,I.loc,I.cell,I.free,I.freeC,I.pin,I.hok,I.len⟩
theorem Sm.unwish (I:Sm (X.wish E) pins σ H s):Sm X pins σ H s:=⟨I.ok.unwish,I.os,I.bare,I.base,I.loc,I.cell,I.free,I.freeC,I.pin,I.hok,I.len⟩
theorem SP.unwish (h:SP (X.wish E) pins D f s'):SP X pins D f s':=by
 cases f with
 |next=>obtain ⟨σ',H',I,q⟩:=h;exact ⟨σ',H',I.unwish,q⟩
 |brk=>obtain ⟨σ',H',I,q⟩:=h;exact ⟨σ',H',I.unwish,q⟩
 |cont=>obtain ⟨σ',H',I,q⟩:=h;exact ⟨σ',H',I.unwish,q⟩
 |ret u=>obtain ⟨v,σ',H',I,r,q⟩:=h;exact ⟨v,σ',H',I.unwish,r,q⟩
theorem PE.nox (h:PE X.nox e t):PE X e t:=λpins s σ H Q I hw=>
 wpAny_mono (h pins s σ H Q (I.wish _) hw) (λ_ _ ⟨v,H',I',r,q⟩=>⟨v,H',I'.unwish,r,q⟩) λ_ _ z=>False.elim z
theorem PSs.nox {st} (h:PSs X.nox st t):PSs X st t:=λpins s σ H D I hw=>
 wpAny_mono (h pins s σ H D (I.wish _) hw) (λ_ _ q=>q.unwish) λ_ _ z=>False.elim z
end
section
variable {X:Cx} {st:Stmt} {rest:List Stmt} {t u:TS} {e:Expr} {te:TE} {pos:Pos}
noncomputable def Sqt:TS:=λD σ H=>D.nx σ H
noncomputable def Sj8 (t u:TS):TS:=λD σ H=>t {D with nx:=u D} σ H
theorem Jjs:PSs X [] Sqt:=λ_ _ σ H _ I h=>wpAny_execs_nil ⟨σ,H,I,h⟩
theorem Sx (h1:PS X st t) (h2:PSs X rest u):PSs X (st::rest) (Sj8 t u):=by
 intro pins s σ H D I h;refine wpAny_execs_cons (thn (h1 pins s σ H {D with nx:=u D} I h) λf s1 q=>?_);cases f with
 |next=>
  obtain ⟨σ',H',I',q⟩:=q;exact h2 pins s1 σ' H' D I' q
 |ret v=>exact q
 |brk=>exact q
 |cont=>exact q
theorem Jjj (h1:PS X st t):PSs X [st] t:=by
 intro pins s σ H D I h;refine wpAny_execs_cons (thn (h1 pins s σ H D I h) λf s1 q=>?_);cases f with
 |next=>exact wpAny_execs_nil q
 |ret v=>exact q
 |brk=>exact q
 |cont=>exact q
theorem Sm.quiet (I:Sm X pins σ H s):interactive X.env=false:=by simp [interactive,I.ok.kind]
noncomputable def Sqo (te:TE):TS:=λD σ H=>te σ H λ_ H1=>D.nx σ H1
theorem Jlh (he:PE X e te) (hs:swapsWith e none pos.line X.env=pure false:=by rfl):PS X (.Expr e pos) (Sqo te):=by
 intro pins s σ H D I h;exact wpAny_Expr_any (thn (he pins s σ H _ I h) λv s1 ⟨x,H1,I1,r1,q1⟩=>⟨σ,H1,I1,q1⟩) I.quiet hs
noncomputable def Sw0 (te:TE):TS:=λD σ H=>te σ H D.rt
theorem Jjo (he:PE X e te):PS X (.Return (some e) pos) (Sw0 te):=by
 intro pins s σ H D I h;exact wpAny_Return_some (thn (he pins s σ H _ I h) λv s1 ⟨x,H1,I1,r1,q1⟩=>⟨x,σ,H1,I1,r1,q1⟩)
noncomputable def Svv (c:TT) (t u:TS):TS:=λD σ H=>c σ H λb H1=>if b=true then t D σ H1 else u D σ H1
theorem Jk4 (hc:PT X c tc) (ha:PSs X a t) (hb:PSs X b u):PS X (.If c a b pos) (Svv tc t u):=by
 intro pins s σ H D I h;refine wpAny_If (thn (hc pins s σ H _ I h) λd s1 zq=>?_);obtain ⟨H1,I1,q1⟩:=zq;cases d with
 |true=>exact ha pins s1 σ H1 D I1 q1
 |false=>exact hb pins s1 σ H1 D I1 q1
end
noncomputable abbrev TG:=V->St->Hp->(St->Hp->Prop)->Prop
noncomputable abbrev TGs:=List V->St->Hp->(St->Hp->Prop)->Prop
noncomputable def PG (X:Cx) (target:Expr) (t:TG):Prop:=
 ∀(pins:List (S1×Obj)) (s:S3) (σ:St) (H:Hp) (v:V) (u:S2) (Q:St->Hp->Prop),Sm X pins σ H s->Su v u->t v σ H Q->
  Sc (model X.prog X.w) X.A (assign target X.env u) (λ_ s'=>∃σ' H',Sm X pins σ' H' s'/\Q σ' H') X.xe s
noncomputable def PGs (X:Cx) (ts:List Expr) (t:TGs):Prop:=
 ∀(pins:List (S1×Obj)) (s:S3) (σ:St) (H:Hp) (vs:List V) (us:List S2) (Q:St->Hp->Prop),Sm X pins σ H s->Sv vs us->t vs σ H Q->
  Sc (model X.prog X.w) X.A (assignInOrder ((assignEach ts X.env).map (·.2)) us) (λ_ s'=>∃σ' H',Sm X pins σ' H' s'/\Q σ' H') X.xe s
noncomputable abbrev Spa:=V->V->V->Hp->(Hp->Prop)->Prop
noncomputable def Sp7 (X:Cx) (t:Spa):Prop:=
 ∀(pins:List (S1×Obj)) (s:S3) (σ:St) (H:Hp) (o i v:V) (ov iv u:S2) (Q:Hp->Prop),Sm X pins σ H s->Su o ov->Su i iv->Su v u->t o i v H Q->
  Sc (model X.prog X.w) X.A (setItem ov iv u) (λ_ s'=>∃H',Sm X pins σ H' s'/\Q H') X.xe s
noncomputable abbrev TIp:=V->V->Hp->VK->Prop
noncomputable def PIp (X:Cx) (op:Operator) (t:TIp):Prop:=
 ∀(pins:List (S1×Obj)) (s:S3) (σ:St) (H:Hp) (x y:V) (v u:S2) (Q:VK),Sm X pins σ H s->Su x v->Su y u->t x y H Q->
  Sc (model X.prog X.w) X.A (inplaceOp op v u) (EP X pins σ Q) X.xe s
section
variable {X:Cx} {pos:Pos}
noncomputable def Jly (i:Nat):TG:=λv σ H Q=>Q (σ.set i (some v)) H
theorem Jjq (hN:X.N.Nodup) (hi:X.N[i]?=some x) (hx:Loc X.env.scope x) (hf:X.fn x=true\/X.env.scope.names.lookup x=some .local:=by first|exact .inl rfl|exact .inr rfl|assumption):PG X (.Name x pos) (Jly i):=by
 intro pins s σ H v u Q I r h;exact wpAny_assign_Name (Jsi I hN hi hx r (λs' I'=>⟨_,H,I',h⟩) hf)
noncomputable def Sj3:TGs:=λvs σ H Q=>vs= []/\Q σ H
noncomputable def Jqr (t:TG) (u:TGs):TGs:=λvs σ H Q=>∃v r,vs=v::r/\t v σ H λσ' H'=>u r σ' H' Q
theorem Jlv:PGs X [] Sj3:=by
 rintro pins s σ H vs us Q I r ⟨e,h⟩;subst e;cases r;exact assignInOrder_nil ⟨σ,H,I,h⟩
theorem Jk3 (h1:PG X e t) (h2:PGs X es u)
  (hs:(assignEach (e::es) X.env).map (·.2)=assign e X.env::(assignEach es X.env).map (·.2):=by rfl):PGs X (e::es) (Jqr t u):=by
 rintro pins s σ H vs us Q I r ⟨v,vr,e1,h⟩;subst e1;cases r with
 |cons r rr=>
  rw [hs];exact assignInOrder_cons (thn (h1 pins s σ H _ _ _ I r h) λ_ s1 ⟨σ1,H1,I1,q1⟩=>h2 pins s1 σ1 H1 _ _ Q I1 rr q1)
inductive Shx (K:Sd) (n:Nat) (t:TGs) (v:V) (σ:St) (H:Hp) (Q:(St->Hp->Prop)):Prop where
 |mk (a:_) (xs:_) (_:v= .ref a) (_:SqT K H a xs) (_:xs.length=n) (_:t xs σ H Q)
theorem Jqg {k} (hc:X.calm=true) (h:PGs X es t)
  (hn:(assignEach es X.env).length=n:=by rfl) (hst:(assignEach es X.env).findIdx? (·.1)=none:=by rfl):PG X (.Tuple es k pos) (Shx X.K n t):=by
 rintro pins s σ H v u Q I r ⟨a,xs,e1,hq,hl,hw⟩;subst e1;cases r;obtain ⟨its,rv,ht,hz⟩:=I.tuple hq;refine assign_Tuple_tuple (I.ok.hd hc) ht (by simp [hn,<-hl,rv.length]) hst λh' hx=>?_;have I1:Sm X pins σ H {s with heap:=h'}:=I.kept λb o e=>hx b o (yt (yi e)) e;exact h pins _ σ H xs _ Q I1 (by simpa using rv) hw
noncomputable def Sut (to ti:TE) (t:Spa):TG:=λv σ H Q=>to σ H λo H1=>ti σ H1 λi H2=>t o i v H2 λH3=>Q σ H3
theorem Jx4 (ho:PE X o to) (hi:PE X i ti) (hs:Sp7 X t)
  (ha:∀v,assign (.Subscript o i pos) X.env v=(do
   let ov<-holding [v] (eval o X.env);let iv<-holding [v,ov] (eval i X.env)
   standAt pos
   holding [v,ov,iv] (setItem ov iv v)
   release [v,ov,iv] []):=by intro _;rfl):PG X (.Subscript o i pos) (Sut to ti t):=by
 intro pins s σ H v u Q I r h;exact S4 (wpAny_holding (thn (ho pins s σ H _ I h) λov s1 ⟨x,H1,I1,r1,q1⟩=>S4 (wpAny_holding (thn (hi pins s1 σ H1 _ I1 q1) λiv s2 ⟨y,H2,I2,r2,q2⟩=>S4 (wpAny_standAt (S4 (wpAny_holding (thn (hs pins s2 σ H2 x y v ov iv u _ I2 r1 r2 r q2) λ_ s3 ⟨H3,I3,q3⟩=>wpAny_release ⟨σ,H3,I3,q3⟩))))))))
noncomputable def Sqm (te:TE) (g:TG):TS:=λD σ H=>te σ H λx H1=>g x σ H1 D.nx
theorem Jur (he:PE X e te) (hg:PG X tg g) (hs:swapsWithSole [tg] e pos.line X.env=pure false:=by rfl) (hw:swappedStores [tg] e X.env=pure none:=by rfl)
  (h1:(assignEach [tg] X.env).map (·.2)= [assign tg X.env]:=by rfl):PS X (.Assign [tg] e pos) (Sqm te g):=by
 intro pins s σ H D I h;refine wpAny_Assign_stores (thn (he pins s σ H _ I h) λv s1 zq=>?_) hs hw;obtain ⟨x,H1,I1,r1,q1⟩:=zq;rw [h1];exact thn (hg pins s1 σ H1 x v _ I1 r1 q1) λ_ s2 q=>q
theorem Jjt (hN:X.N.Nodup) (hi:X.N[i]?=some x) (hx:Loc X.env.scope x) (he:PE X e te) (hs:swapsWith e (some (.Name x pos')) pos.line X.env=pure false:=by rfl) (hf:X.fn x=true\/X.env.scope.names.lookup x=some .local:=by first|exact .inl rfl|exact .inr rfl|assumption):
  PS X (.Assign [.Name x pos'] e pos) (Sqm te (Jly i)):=by
 intro pins s σ H D I h;exact wpAny_Assign_Name (thn (he pins s σ H _ I h) λv s1 ⟨y,H1,I1,r1,q1⟩=>Jsi I1 hN hi hx r1 (λs2 I2=>⟨_,H1,I2,q1⟩) hf) hs
inductive Svq (i:Nat) (te:TE) (ti:TIp) (D:Sca) (σ:St) (H:Hp):Prop where
 |mk (x:_) (_:σ[i]?=some (some x)) (_:te σ H λy H1=>ti x y H1 λz H2=>D.nx (σ.set i (some z)) H2)
theorem Smg (hN:X.N.Nodup) (hi:X.N[i]?=some x) (hx:Loc X.env.scope x) (he:PE X e te) (ho:PIp X op ti) (hf:X.fn x=true\/X.env.scope.names.lookup x=some .local:=by first|exact .inl rfl|exact .inr rfl|assumption):
  PS X (.AugAssign (.Name x pos') op e pos) (Svq i te ti):=by
 rintro pins s σ H D I ⟨v,e1,h⟩;obtain ⟨m,hn,hl⟩:=I.loc;have vis:Vis X.env.scope x:=by rcases hx with k|k;exact .inl k;exact .inr (.inl k)
 obtain ⟨u,r,l⟩:=hl i x v hi e1 vis;refine wpAny_AugAssign_Name ?_;have go:Sc (model X.prog X.w) X.A (eval e X.env) (λw s₂=>Sc (model X.prog X.w) X.A (inplaceOp op u w) (λr s₃=>Sc (model X.prog X.w) X.A (storeName X.env x r) (λ_=>SP X pins D .next) X.xe s₃) X.xe s₂) X.xe s:=thn (he pins s σ H _ I h) λw s1 ⟨y,H1,I1,r1,q1⟩=>thn (ho pins s1 σ H1 v y u w _ I1 r r1 q1) λz s2 ⟨zv,H2,I2,r2,q2⟩=>Jsi I2 hN hi hx r2 (λs3 I3=>⟨_,H2,I3,q2⟩) hf;rcases l with ⟨hk,hm⟩|⟨hk,c,hc,hcell⟩
 ·exact wpAny_loadName_local I.ok.kind hk hn hm go
 ·rcases hk with hk|hk
  ·exact wpAny_loadName_cell I.ok.kind hk hc hcell go
  ·rcases hx with k|k
   ·have:X.env.scope.names.lookup x=some .free:=hk;rw [k] at this;cases this
   ·have:X.env.scope.names.lookup x=some .free:=hk;rw [k] at this;cases this
end
structure It where
 go:Nat->Hp->Prop
 yld:Nat->Hp->V->Hp->Prop
 stop:Nat->Hp->Prop
noncomputable def Jpy (X:Cx) (pins:List (S1×Obj)) (H:Hp) (b:S1):Prop:=
 H b=none/\b≠X.env.locals/\b∉X.fs/\(b∈X.ex\/X.s₀.heap.objs.size<=b)/\(∀x c,X.env.cells.lookup x=some c->c≠b)/\∀p∈X.pn++pins,p.1≠b
theorem Sm.fpOk {σ:St} {H H'} {s} {b:S1} (I:Sm X pins σ H s) (hb:s.heap.objs.size<=b) (hn:H' b=none):Jpy X pins H' b:=by
 refine ⟨hn,ybd (yal I.lt hb),I.nofs hb,.inr (yae I.sz hb),λx c e z=>?_,λp hp z=>?_⟩
 ·obtain ⟨v,q⟩:=I.cell x c e;exact absurd (yal q.lt (by rw [z];exact hb)) (yaq _)
 ·exact absurd (yal (yi (I.pin p hp).1) (by rw [z];exact hb)) (yaq _)
structure Turn (P:S7) (w:S9) (K:Sd) (tg:Expr) (J:It) (fp:List S1) (it:S1) (tn:Nat->Sb->Prop):Prop where
 mem:it∈fp
 obj:∀i h,tn i h->∀b∈fp,∃o,h.get? b=some o/\∀v,o.data≠ .cell v
 keep:∀i h h',tn i h->(∀b∈fp,∀o,h.get? b=some o->h'.get? b=some o)->tn i h'
 item:∀(X:Cx),X.prog=P->X.w=w->X.K=K->X.calm=true->∀(i:Nat) (pins:List (S1×Obj)) (s:S3) (σ:St) (H:Hp) (E:S2->S3->Prop),Sm X pins σ H s->(∀b∈fp,Jpy X pins H b)->tn i s.heap->J.go i H->
  Sc (model P w) X.A (pyNext (.ref it)) (λr s1=>∃u,r=some u/\
   Sc (model P w) X.A (letOwnedTupleGo tg (.ref it) u) (λ_ s2=>∃x H',Sm X pins σ H' s2/\Su x u/\J.yld i H x H'/\tn (i+1) s2.heap/\∀b∈fp,H' b=none) E s1) E s
 done:∀(X:Cx),X.prog=P->X.w=w->X.K=K->X.calm=true->∀(i:Nat) (pins:List (S1×Obj)) (s:S3) (σ:St) (H:Hp) (E:S2->S3->Prop),Sm X pins σ H s->(∀b∈fp,Jpy X pins H b)->tn i s.heap->J.stop i H->
  Sc (model P w) X.A (pyNext (.ref it)) (λr s1=>r=none/\Sm X pins σ H s1) E s
 self:∀(A:Sa) (i:Nat) (s:S3) (Q:S2->S3->Prop) (E:S2->S3->Prop),tn i s.heap->Q (.ref it) s->Sc (model P w) A (pyIter (.ref it)) Q E s
noncomputable abbrev TI:=St->Hp->(It->Hp->Prop)->Prop
noncomputable def PIE (X:Cx) (pins:List (S1×Obj)) (σ:St) (tg:Expr) (R:It->Hp->Prop) (itv:S2) (s2:S3):Prop:=
 ∃(it:S1) (fp:List S1) (tn:Nat->Sb->Prop) (J:It) (H':Hp),itv= .ref it/\Sm X pins σ H' s2/\Turn X.prog X.w X.K tg J fp it tn/\tn 0 s2.heap/\(∀b∈fp,Jpy X pins H' b)/\R J H'
noncomputable def PI (X:Cx) (tg iter:Expr) (wi:TI):Prop:=
 ∀(pins:List (S1×Obj)) (s:S3) (σ:St) (H:Hp) (R:It->Hp->Prop),Sm X pins σ H s->wi σ H R->
  Sc (model X.prog X.w) X.A (eval iter X.env) (λv s1=>Sc (model X.prog X.w) X.A (pyIter v) (PIE X pins σ tg R) X.xe s1) X.xe s
theorem Jrv {s} {tg} {it} {u} {o} {n} {vs} {Q} (ho:s.heap.get? it=some o) (hc:o.cls= .type n) (hd:o.data= .fields vs)
  (hn: ["enumerate","zip","dict_itemiterator","dict_reverseitemiterator","odict_iterator","itertools.zip_longest","itertools.pairwise"].contains n=false) (hQ:Q () s):Sc M A (letOwnedTupleGo tg (.ref it) u) Q E s:=by
 cases tg <;> first
  |exact S5 hQ
  | (cases u <;> first
    |exact S5 hQ
    | (refine S4 (wpAny_load ho ?_)
       rw [hc,hd];show Sc M A (if (["enumerate","zip","dict_itemiterator","dict_reverseitemiterator","odict_iterator","itertools.zip_longest","itertools.pairwise"].contains n&&vs[0]?==some (rawInt _))=true then _ else _) Q E s;rw [if_neg (by intro h;rw [hn] at h;cases h)];exact S5 hQ))
noncomputable def Itl (K:Sd) (a:S1):It:=
 ⟨λi H=>∃xs x,Ss K H a xs/\xs[i]?=some x,λi H x H'=>H'=H/\∀xs,Ss K H a xs->xs[i]?=some x,λi H=>∃xs,Ss K H a xs/\xs.length<=i⟩
noncomputable def Itt (K:Sd) (a:S1):It:=
 ⟨λi H=>∃xs x,SqT K H a xs/\xs[i]?=some x,λi H x H'=>H'=H/\∀xs,SqT K H a xs->xs[i]?=some x,λi H=>∃xs,SqT K H a xs/\xs.length<=i⟩
noncomputable def Itr (lo:Int) (n:Nat):It:=⟨λi _=>i < n,λi H x H'=>H'=H/\x= .int (lo+i),λi _=>n<=i⟩
theorem Jtq {K} (a it):Turn P w K tg (Itl K a) [it] it (λi h=>h.IsListIter it a i) where
 mem:=by simp
 obj:=λi h st b hb=>by
  have e:=by simpa using hb
  subst e;obtain ⟨o,e,c,d⟩:=st;exact ⟨o,e,λv z=>by rw [d] at z;cases z⟩
 keep:=λi h h' st k=>st.at λo e=>k it (by simp) o e
 item:=by
  intro X hP hw hK hc i pins s σ H E I hf st hg;subst hP hw hK;obtain ⟨xs,x,hq,hx⟩:=hg;obtain ⟨its,rv,p,hz⟩:=I.list hq;obtain ⟨u,hu,ru⟩:=rv.get hx;obtain ⟨f0,f1,f2,f3,f4,f5⟩:=hf it (by simp);refine wpAny_pyNext_list_item st p.isList (by simpa using hu) λh' st' sb=>?_;have I1:Sm X pins σ H {s with heap:=h'}:=I.turned (λb o hb e=>(sb.2 b hb).trans e) f0 f1 f3 f4 f5;obtain ⟨o,e,c,d⟩:=id st';exact ⟨u,rfl,Jrv e c d (by decide) ⟨x,H,I1,ru,⟨rfl,λys hy=>by rw [I.list_inj hy hq];exact hx⟩,st',λb hb=>(hf b hb).1⟩⟩
 done:=by
  intro X hP hw hK hc i pins s σ H E I hf st hg;subst hP hw hK;obtain ⟨xs,hq,hx⟩:=hg;obtain ⟨its,rv,p,hz⟩:=I.list hq;obtain ⟨f0,f1,f2,f3,f4,f5⟩:=hf it (by simp);have hl:=rv.length;exact wpAny_pyNext_list_end (I.ok.hd hc) st p.isList (by simp;lia) λh' eb=>⟨rfl,I.turned (λb o hb e=>eb b o hb e) f0 f1 f3 f4 f5⟩
 self:=λ_ _ _ _ _ st h=>wpAny_pyIter_listiter st h
theorem Jsm {K} (a it):Turn P w K tg (Itt K a) [it] it (λi h=>h.IsTupleIter it a i) where
 mem:=by simp
 obj:=λi h st b hb=>by
  have e:=by simpa using hb
  subst e;obtain ⟨o,e,c,d⟩:=st;exact ⟨o,e,λv z=>by rw [d] at z;cases z⟩
 keep:=λi h h' st k=>st.at λo e=>k it (by simp) o e
 item:=by
  intro X hP hw hK hc i pins s σ H E I hf st hg;subst hP hw hK;obtain ⟨xs,x,hq,hx⟩:=hg;obtain ⟨its,rv,p,hz⟩:=I.tuple hq;obtain ⟨u,hu,ru⟩:=rv.get hx;obtain ⟨f0,f1,f2,f3,f4,f5⟩:=hf it (by simp);refine wpAny_pyNext_tuple_item st (p) (by simpa using hu) λh' st' sb=>?_;have I1:Sm X pins σ H {s with heap:=h'}:=I.turned (λb o hb e=>(sb.2 b hb).trans e) f0 f1 f3 f4 f5;obtain ⟨o,e,c,d⟩:=id st';exact ⟨u,rfl,Jrv e c d (by decide) ⟨x,H,I1,ru,⟨rfl,λys hy=>by rw [I.tuple_inj hy hq];exact hx⟩,st',λb hb=>(hf b hb).1⟩⟩
 done:=by
  intro X hP hw hK hc i pins s σ H E I hf st hg;subst hP hw hK;obtain ⟨xs,hq,hx⟩:=hg;obtain ⟨its,rv,p,hz⟩:=I.tuple hq;obtain ⟨f0,f1,f2,f3,f4,f5⟩:=hf it (by simp);have hl:=rv.length;exact wpAny_pyNext_tuple_end (I.ok.hd hc) st (p) (by simp;lia) λh' eb=>⟨rfl,I.turned (λb o hb e=>eb b o hb e) f0 f1 f3 f4 f5⟩
 self:=λ_ _ _ _ _ st h=>wpAny_pyIter_tupleiter st h
theorem Jxl {K} (it) (lo) (n):Turn P w K tg (Itr lo n) [it] it (λi h=>IsRangeIter h it (lo+i*1) (n - i) 1) where
 mem:=by simp
 obj:=λi h st b hb=>by
  have e:=by simpa using hb
  subst e;exact ⟨_,st,λv z=>by
   cases z⟩
 keep:=λi h h' st k=>k it (by simp) _ st
 item:=by
  intro X hP hw hK hc i pins s σ H E I hf st hg;obtain ⟨f0,f1,f2,f3,f4,f5⟩:=hf it (by simp);refine (Walks.range (I.ok.hd hc) it lo 1 n).item i s _ _ hg st λv h' tk hv st' kk=>?_;obtain ⟨t,rfl⟩:=hv;have I1:Sm X pins σ H {s with heap:=h',toks:=tk}:=I.turned (λb o hb e=>kk b o (by simpa using hb) e) f0 f1 f3 f4 f5;refine ⟨_,rfl,Jrv st' rfl rfl (by decide) ⟨.int (lo+i),H,I1,⟨t,?_⟩,⟨rfl,rfl⟩,st',λb hb=>(hf b hb).1⟩⟩;rw [Int.mul_one]
 done:=by
  intro X hP hw hK hc i pins s σ H E I hf st hg;obtain ⟨f0,f1,f2,f3,f4,f5⟩:=hf it (by simp);exact wpAny_pyNext_range_end (I.ok.hd hc) st (by have:n<=i:=hg;lia) λh' eb=>⟨rfl,I.turned (λb o hb e=>eb b o hb e) f0 f1 f3 f4 f5⟩
 self:=λ_ _ _ _ _ st h=>wpAny_pyIter_rangeiter st h
section
variable {X:Cx} {tg:Expr}
noncomputable def Spd (K:Sd) (tl:TE):TI:=λσ H R=>tl σ H λx H1=>∃a,x= .ref a/\(∃xs,Ss K H1 a xs)/\R (Itl K a) H1
noncomputable def Suy (K:Sd) (tl:TE):TI:=λσ H R=>tl σ H λx H1=>∃a,x= .ref a/\(∃xs,SqT K H1 a xs)/\R (Itt K a) H1
theorem Jkm (hl:PE X l tl):PI X tg l (Spd X.K tl):=by
 intro pins s σ H R I h;refine thn (hl pins s σ H _ I h) λv s1 zq=>?_;obtain ⟨x,H1,I1,r1,q1⟩:=zq;obtain ⟨a,e,⟨xs,hq⟩,q⟩:=q1;subst e;cases r1;obtain ⟨its,rv,p,hz⟩:=I1.list hq;refine wpAny_pyIter_list p.isList ⟨s1.heap.objs.size,[s1.heap.objs.size],_,_,H1,rfl,I1.kept λb o e=>yh _ e,Jtq a _,⟨_,yn _ rfl,rfl,rfl⟩,λb hb=>?_,q⟩;have e:=by simpa using hb
 subst e;exact I1.fpOk (yg _) (I1.hok.fresh (yg _))
theorem Jqi (hl:PE X l tl):PI X tg l (Suy X.K tl):=by
 intro pins s σ H R I h;refine thn (hl pins s σ H _ I h) λv s1 zq=>?_;obtain ⟨x,H1,I1,r1,q1⟩:=zq;obtain ⟨a,e,⟨xs,hq⟩,q⟩:=q1;subst e;cases r1;obtain ⟨its,rv,p,hz⟩:=I1.tuple hq;refine wpAny_pyIter_tuple (p) ⟨s1.heap.objs.size,[s1.heap.objs.size],_,_,H1,rfl,I1.kept λb o e=>yh _ e,Jsm a _,⟨_,yn _ rfl,rfl,rfl⟩,λb hb=>?_,q⟩;have e:=by simpa using hb
 subst e;exact I1.fpOk (yg _) (I1.hok.fresh (yg _))
theorem Jw0 {σ:St} {H} {s} {R} {E} {lo hi} {t u v} {tk} (I:Sm X pins σ H s) (h1: -(2^62)<=lo) (h2:lo < 2^62) (h3: -(2^62)<=hi) (h4:hi < 2^62)
  (q:R (Itr lo (hi - lo).toNat) H):Sc (model X.prog X.w) X.A (pyIter (.ref s.heap.objs.size)) (PIE X pins σ tg R) E {s with heap:=s.heap.push {cls:=.type "range",data:=.fields #[.int lo t,.int hi u,.int 1 v]},toks:=tk}:=by
 refine wpAny_pyIter_range (IsRange.new ..) (small_one h1 h2 h3 h4) ?_;have I1:Sm X pins σ H {s with heap:=s.heap.push {cls:=.type "range",data:=.fields #[.int lo t,.int hi u,.int 1 v]},toks:=tk}:=I.kept λb o e=>yh _ e;refine ⟨(s.heap.push {cls:=.type "range",data:=.fields #[.int lo t,.int hi u,.int 1 v]}).objs.size,[(s.heap.push {cls:=.type "range",data:=.fields #[.int lo t,.int hi u,.int 1 v]}).objs.size],_,_,H,rfl,
  I1.kept λb o e=>yh _ e,Jxl _ lo (hi - lo).toNat,?_,λb hb=>?_,q⟩
 ·have e1:lo+(0:Nat)*1=lo:=by simp
  have e2:(hi - lo).toNat - (0:Nat)=Builtin.Range.rangeSize lo hi 1:=by rw [rangeSize_one];split <;> lia
  rw [e1,e2];exact yn _ rfl
 ·have e:b=(s.heap.push {cls:=.type "range",data:=.fields #[.int lo t,.int hi u,.int 1 v]}).objs.size:=by simpa using hb
  subst e;exact I1.fpOk (yg _) (I1.hok.fresh (yg _))
noncomputable def Spe (ta:TA):TI:=λσ H R=>ta σ H λvs H1=>∃j:Int,vs= [.int j]/\ -(2^62)<=j/\j < 2^62/\R (Itr 0 j.toNat) H1
noncomputable def Spf (ta:TA):TI:=λσ H R=>ta σ H λvs H1=>∃i j:Int,vs= [.int i,.int j]/\(-(2^62)<=i/\i < 2^62/\ -(2^62)<=j/\j < 2^62)/\R (Itr i (j - i).toNat) H1
theorem Jom (hg:Gl X "range") (hm:X.mg "range" =none) (ha:PA X [a] ta) (hs:starEach [a] X.env= [(false,eval a X.env)]:=by rfl):PI X tg (.Call (.Name "range" p) [a] [] pos) (Spe ta):=by
 intro pins s σ H R I h;refine Call_ (Jny I hg hm boot_range (PyProof.Rows.callWith_type1 (thn (ha pos pins s σ H _ I h) λus s1 zq=>?_) hs rfl));obtain ⟨vs,H1,I1,r1,q1⟩:=zq;obtain ⟨j,e,q1,q2,q⟩:=q1;subst e;cases r1 with
 |cons r rr=>
  cases rr;obtain ⟨t,rfl⟩:=r;exact call_range_1 (Jw0 I1 (by lia) (by lia) q1 q2 (by simpa using q))
theorem Jtk (hg:Gl X "range") (hm:X.mg "range" =none) (ha:PA X [a,b] ta) (hs:starEach [a,b] X.env= [(false,eval a X.env),(false,eval b X.env)]:=by rfl) (hs2:starEach [b] X.env= [(false,eval b X.env)]:=by rfl):
  PI X tg (.Call (.Name "range" p) [a,b] [] pos) (Spf ta):=by
 intro pins s σ H R I h;refine Call_ (Jny I hg hm boot_range (PyProof.Rows.callWith_type1 (thn (ha pos pins s σ H _ I h) λus s1 zq=>?_) (by rw [hs,hs2]) (by rw [hs2];rfl)));obtain ⟨vs,H1,I1,r1,q1⟩:=zq;obtain ⟨i,j,e,⟨q1,q2,q3,q4⟩,q⟩:=q1;subst e;cases r1 with
 |cons r rr=>
  cases rr with
  |cons r' rr=>
   cases rr;obtain ⟨t,rfl⟩:=r;obtain ⟨t',rfl⟩:=r';exact call_range_2 (Jw0 I1 q1 q2 q3 q4 q)
noncomputable def Svt (wi:TI) (g:TG) (tb:TS):TS:=λD σ H=>wi σ H λJ H1=>∃W:Nat->Nat->St->Hp->Prop,(∃m,W 0 m σ H1)/\∀i m σ H,W i m σ H->
 (J.stop i H/\D.nx σ H)\/(J.go i H/\∃N:St->Hp->Prop,(∀σ' H',N σ' H'->∃m',m' < m/\W (i+1) m' σ' H')/\∀x H',J.yld i H x H'->g x σ H' λσ2 H2=>tb {D with nx:=N,ct:=N,bk:=D.nx} σ2 H2)
noncomputable def Jsa (fp:List S1) (h:Sb):List (S1×Obj):=fp.filterMap λb=>(h.get? b).map λo=>(b,o)
theorem Jnb (hb:b∈fp) (e:h.get? b=some o):(b,o)∈Jsa fp h:=List.mem_filterMap.mpr ⟨b,hb,by rw [e];rfl⟩
theorem Jz0 (hp:p∈Jsa fp h):p.1∈fp/\h.get? p.1=some p.2:=by
 obtain ⟨b,hb,e⟩:=List.mem_filterMap.mp hp;cases q:h.get? b with
 |none=>rw [q] at e;cases e
 |some o=>
  rw [q] at e;have e':=yah.inj e;subst e';exact ⟨hb,q⟩
theorem Sm.pinned (I:Sm X pins σ H s) (hf:∀b∈fp,Jpy X pins H b) (ho:∀b∈fp,∃o,s.heap.get? b=some o/\∀v,o.data≠ .cell v):Sm X (pins++Jsa fp s.heap) σ H s:=
 I.pins_of λp hp=>(ybb.mp hp).elim (λz=>I.pin p (yau _ z)) λz=>by
  obtain ⟨hb,e⟩:=Jz0 z;obtain ⟨f0,f1,f2,_⟩:=hf p.1 hb;obtain ⟨o,e',d⟩:=ho p.1 hb;rw [e] at e';cases e';exact ⟨e,f0,f1,f2,d⟩
theorem Sm.unpinned (I:Sm X (pins++pl) σ H s):Sm X pins σ H s:=I.pins_of λp hp=>I.pin p (yau _ (List.mem_append_left _ hp))
theorem Jlm (hp:PassesOwn (model X.prog X.w) X.A X.env X.xe) (hc:X.calm=true) (hi:PI X tg iter wi) (hg:PG X tg g) (hb:PSs X body tb)
  (hs:∀x,foldedSetIterable iter X.env x=pure x:=by intro _;rfl):PS X (.For tg iter body [] pos) (Svt wi g tb):=by
 intro pins s σ H D I h;refine wpAny_For (thn (hi pins s σ H _ I h) λv s1 h1=>thn h1 λitv s2 h2=>?_) hs;obtain ⟨it,fp,tn,J,H2,e,I2,T,st2,f2,W,⟨m0,w0⟩,turn⟩:=h2;subst e;have stat:∀{H':Hp},(∀b∈fp,H' b=none)->∀b∈fp,Jpy X pins H' b:=λhn b hb=>⟨hn b hb,(f2 b hb).2⟩;refine codeAny_forLoop_any (λn s'=>∃i σ' H',Sm X pins σ' H' s'/\tn i s'.heap/\(∀b∈fp,H' b=none)/\W i n σ' H') ?_ m0 ⟨0,σ,H2,I2,st2,λb hb=>(f2 b hb).1,w0⟩;rintro n s3 ⟨i,σ3,H3,I3,st3,fr3,w3⟩;rcases turn i n σ3 H3 w3 with ⟨stop,qn⟩|⟨go,N,hN,step⟩
 ·refine wpAny_passesOwn hp (thn (T.done X rfl rfl rfl hc i pins s3 σ3 H3 X.xe I3 (stat fr3) st3 stop) λr s4 ⟨hr,I4⟩=>?_);subst hr;exact wpAny_execs_nil ⟨σ3,H3,I4,qn⟩
 ·refine wpAny_passesOwn hp (thn (T.item X rfl rfl rfl hc i pins s3 σ3 H3 X.xe I3 (stat fr3) st3 go) λr s4 ⟨u,hr,h4⟩=>?_);subst hr;refine wpAny_passesOwn hp (thn h4 λ_ s5 ⟨x,H5,I5,r5,y5,st5,fr5⟩=>wpAny_passesOwn hp (thn (hg _ s5 σ3 H5 x u _ (I5.pinned (stat fr5) (T.obj _ _ st5)) r5 (step x H5 y5)) λ_ s6 ⟨σ6,H6,I6,q6⟩=>wpAny_passesOwn hp (thn (hb _ s6 σ6 H6 _ I6 q6) λf s7 q7=>?_)));have again:∀{σ7:St} {H7:Hp},Sm X (pins++Jsa fp s5.heap) σ7 H7 s7->N σ7 H7->∃m,m < n/\∃i σ' H',Sm X pins σ' H' s7/\tn i s7.heap/\(∀b∈fp,H' b=none)/\W i m σ' H':=λ{σ7 H7} I7 n7=>by
   obtain ⟨m',hm,w7⟩:=hN σ7 H7 n7;refine ⟨m',hm,i+1,σ7,H7,I7.unpinned,T.keep _ _ _ st5 λb hb o e=>(I7.pin (b,o) (yau _ (yau _ (Jnb hb e)))).1,λb hb=>?_,w7⟩;obtain ⟨o,e,d⟩:=T.obj _ _ st5 b hb;exact (I7.pin (b,o) (yau _ (yau _ (Jnb hb e)))).2.1
  cases f with
  |next=>obtain ⟨σ7,H7,I7,n7⟩:=q7;exact again I7 n7
  |cont=>obtain ⟨σ7,H7,I7,n7⟩:=q7;exact again I7 n7
  |brk=>obtain ⟨σ7,H7,I7,q7⟩:=q7;exact ⟨σ7,H7,I7.unpinned,q7⟩
  |ret v=>obtain ⟨x7,σ7,H7,I7,r7,q7⟩:=q7;exact ⟨x7,σ7,H7,I7.unpinned,r7,q7⟩
end
theorem Jlr {K} {a} {xs} {g:TG} {tb:TS} {D:Sca} {σ} {H} (Pv:Nat->St->Hp->Prop) (h0:Pv 0 σ H) (hl:∀i σ H,i<=xs.length->Pv i σ H->Ss K H a xs)
  (hs:∀i x σ H,xs[i]?=some x->Pv i σ H->g x σ H λσ2 H2=>tb {D with nx:=Pv (i+1),ct:=Pv (i+1),bk:=D.nx} σ2 H2) (hd:∀σ H,Pv xs.length σ H->D.nx σ H):
  ∃W:Nat->Nat->St->Hp->Prop,(∃m,W 0 m σ H)/\∀i m σ H,W i m σ H->
   ((Itl K a).stop i H/\D.nx σ H)\/((Itl K a).go i H/\∃N:St->Hp->Prop,(∀σ' H',N σ' H'->∃m',m' < m/\W (i+1) m' σ' H')/\∀x H',(Itl K a).yld i H x H'->g x σ H' λσ2 H2=>tb {D with nx:=N,ct:=N,bk:=D.nx} σ2 H2):=by
 refine ⟨λi m σ H=>m=xs.length - i/\i<=xs.length/\Pv i σ H,⟨xs.length,by simp,yw _,h0⟩,?_⟩;rintro i m σ H ⟨rfl,hi,p⟩;have q:=hl i σ H hi p;by_cases hlt:i < xs.length
 ·refine .inr ⟨⟨xs,xs[i],q,by simp [hlt]⟩,Pv (i+1),λσ' H' p'=>⟨xs.length - (i+1),by lia,rfl,hlt,p'⟩,λx H' y=>?_⟩;obtain ⟨e,y⟩:=y;subst e;exact hs i x σ _ (y xs q) p
 ·have e:i=xs.length:=by lia
  subst e;exact .inl ⟨⟨xs,q,yg _⟩,hd σ H p⟩
theorem Ybi {K} {a} {xs} {g:TG} {tb:TS} {D:Sca} {σ} {H} (Pv:Nat->St->Hp->Prop) (h0:Pv 0 σ H) (hl:∀i σ H,i<=xs.length->Pv i σ H->SqT K H a xs)
  (hs:∀i x σ H,xs[i]?=some x->Pv i σ H->g x σ H λσ2 H2=>tb {D with nx:=Pv (i+1),ct:=Pv (i+1),bk:=D.nx} σ2 H2) (hd:∀σ H,Pv xs.length σ H->D.nx σ H):
  ∃W:Nat->Nat->St->Hp->Prop,(∃m,W 0 m σ H)/\∀i m σ H,W i m σ H->
   ((Itt K a).stop i H/\D.nx σ H)\/((Itt K a).go i H/\∃N:St->Hp->Prop,(∀σ' H',N σ' H'->∃m',m' < m/\W (i+1) m' σ' H')/\∀x H',(Itt K a).yld i H x H'->g x σ H' λσ2 H2=>tb {D with nx:=N,ct:=N,bk:=D.nx} σ2 H2):=by
 refine ⟨λi m σ H=>m=xs.length - i/\i<=xs.length/\Pv i σ H,⟨xs.length,by simp,yw _,h0⟩,?_⟩;rintro i m σ H ⟨rfl,hi,p⟩;have q:=hl i σ H hi p;by_cases hlt:i < xs.length
 ·refine .inr ⟨⟨xs,xs[i],q,by simp [hlt]⟩,Pv (i+1),λσ' H' p'=>⟨xs.length - (i+1),by lia,rfl,hlt,p'⟩,λx H' y=>?_⟩;obtain ⟨e,y⟩:=y;subst e;exact hs i x σ _ (y xs q) p
 ·have e:i=xs.length:=by lia
  subst e;exact .inl ⟨⟨xs,q,yg _⟩,hd σ H p⟩
theorem Jtc {lo} {n} {g:TG} {tb:TS} {D:Sca} {σ} {H} (Pv:Nat->St->Hp->Prop) (h0:Pv 0 σ H)
  (hs:∀i σ H,i < n->Pv i σ H->g (.int (lo+i)) σ H λσ2 H2=>tb {D with nx:=Pv (i+1),ct:=Pv (i+1),bk:=D.nx} σ2 H2) (hd:∀σ H,Pv n σ H->D.nx σ H):
  ∃W:Nat->Nat->St->Hp->Prop,(∃m,W 0 m σ H)/\∀i m σ H,W i m σ H->
   ((Itr lo n).stop i H/\D.nx σ H)\/((Itr lo n).go i H/\∃N:St->Hp->Prop,(∀σ' H',N σ' H'->∃m',m' < m/\W (i+1) m' σ' H')/\∀x H',(Itr lo n).yld i H x H'->g x σ H' λσ2 H2=>tb {D with nx:=N,ct:=N,bk:=D.nx} σ2 H2):=by
 refine ⟨λi m σ H=>m=n - i/\i<=n/\Pv i σ H,⟨n,by simp,yw _,h0⟩,?_⟩;rintro i m σ H ⟨rfl,hi,p⟩;by_cases hlt:i < n
 ·refine .inr ⟨hlt,Pv (i+1),λσ' H' p'=>⟨n - (i+1),by lia,rfl,hlt,p'⟩,λx H' y=>?_⟩;obtain ⟨e,y⟩:=y;subst e y;exact hs i σ _ hlt p
 ·have e:i=n:=by lia
  subst e;exact .inl ⟨yg _,hd σ H p⟩
noncomputable abbrev R2:=V->V->Hp->VK->Prop
noncomputable def OpR (X:Cx) (f:S2->S2->Sem S2) (r:R2):Prop:=
 ∀(pins:List (S1×Obj)) (s:S3) (σ:St) (H:Hp) (x y:V) (v u:S2) (Q:VK),Sm X pins σ H s->Su x v->Su y u->r x y H Q->
  Sc (model X.prog X.w) X.A (f v u) (EP X pins σ Q) X.xe s
noncomputable def UnR (X:Cx) (f:S2->Sem S2) (r:V->Hp->VK->Prop):Prop:=
 ∀(pins:List (S1×Obj)) (s:S3) (σ:St) (H:Hp) (x:V) (v:S2) (Q:VK),Sm X pins σ H s->Su x v->r x H Q->
  Sc (model X.prog X.w) X.A (f v) (EP X pins σ Q) X.xe s
noncomputable def Jla (X:Cx) (f:S2) (r:List V->Hp->VK->Prop):Prop:=
 ∀(pins:List (S1×Obj)) (s:S3) (σ:St) (H:Hp) (xs:List V) (us:List S2) (Q:VK),Sm X pins σ H s->Sv xs us->r xs H Q->
  Sc (model X.prog X.w) X.A (call f us) (EP X pins σ Q) X.xe s
noncomputable def tOp (r:R2) (ta tb:TE):TE:=λσ H Q=>ta σ H λx H1=>tb σ H1 λy H2=>r x y H2 Q
noncomputable def tUn (r:V->Hp->VK->Prop) (ta:TE):TE:=λσ H Q=>ta σ H λx H1=>r x H1 Q
inductive rI (C:Int->Int->Prop) (g:Int->Int->V) (x:V) (y:V) (H:Hp) (Q:VK):Prop where
 |mk (i:_) (j:_) (_:x= .int i) (_:y= .int j) (_:C i j) (_:Q (g i j) H)
inductive rI0 (g:Int->Int->V) (x:V) (y:V) (H:Hp) (Q:VK):Prop where
 |mk (i:_) (j:_) (_:x= .int i) (_:y= .int j) (_:Q (g i j) H)
inductive rU (g:Int->V) (x:V) (H:Hp) (Q:VK):Prop where
 |mk (i:_) (_:x= .int i) (_:Q (g i) H)
section
variable {X:Cx} {a b c:Expr} {ta tb tc:TE} {pos:Pos}
theorem Sl9 (ha:PE X a ta) (hb:PE X b tb) {R:V->V->Hp->Prop} (I:Sm X pins σ H s)
  (h:ta σ H λx H1=>tb σ H1 λy H2=>R x y H2) {f:S2->S2->Sem S2}
  (hf:∀v u s2 x y H2,Sm X pins σ H2 s2->Su x v->Su y u->R x y H2->Sc (model X.prog X.w) X.A (f v u) Q X.xe s2):
  Sc (model X.prog X.w) X.A (eval a X.env) (λv s₁=>Sc (model X.prog X.w) X.A (eval b X.env) (λu s₂=>Sc (model X.prog X.w) X.A (f v u) Q X.xe s₂) X.xe s₁) X.xe s:=thn (ha pins s σ H _ I h) λv s1 ⟨x,H1,I1,r1,q1⟩=>thn (hb pins s1 σ H1 _ I1 q1) λu s2 ⟨y,H2,I2,r2,q2⟩=>hf v u s2 x y H2 I2 r1 r2 q2
theorem Jju (ho:OpR X (binaryOp op) r) (ha:PE X a ta) (hb:PE X b tb):PE X (.BinOp a op b pos) (tOp r ta tb):=by
 intro pins s σ H Q I h;exact wpAny_BinOp (Sl9 ha hb I h λv u s2 x y H2 I2 rx ry q=>ho pins s2 σ H2 x y v u Q I2 rx ry q)
theorem Jy4 (ho:UnR X (unaryOp op) r) (ha:PE X a ta):PE X (.UnaryOp op a pos) (tUn r ta):=by
 intro pins s σ H Q I h;exact UnaryOp_ (thn (ha pins s σ H _ I h) λv s1 ⟨x,H1,I1,r1,q1⟩=>ho pins s1 σ H1 x v Q I1 r1 q1)
theorem opI {C} {g:Int->Int->Int}
  (rule:∀i j t u s Q E,C i j->Q (.int (g i j) s.toks) {s with toks:=s.toks+1}->Sc (model X.prog X.w) X.A (f (.int i t) (.int j u)) Q E s):
  OpR X f (rI C λi j=>.int (g i j)):=by
 rintro pins s σ H x y v u Q I rx ry ⟨i,j,rfl,rfl,hc,q⟩;obtain ⟨t,rfl⟩:=rx;obtain ⟨t',rfl⟩:=ry;exact rule i j t t' s _ _ hc ⟨.int (g i j),H,I.tok _,⟨_,rfl⟩,q⟩
theorem Spm {g:Int->Int->Int}
  (rule:∀i j t u s Q E,Q (.int (g i j) s.toks) {s with toks:=s.toks+1}->Sc (model X.prog X.w) X.A (f (.int i t) (.int j u)) Q E s):
  OpR X f (rI0 λi j=>.int (g i j)):=by
 rintro pins s σ H x y v u Q I rx ry ⟨i,j,rfl,rfl,q⟩;obtain ⟨t,rfl⟩:=rx;obtain ⟨t',rfl⟩:=ry;exact rule i j t t' s _ _ ⟨.int (g i j),H,I.tok _,⟨_,rfl⟩,q⟩
theorem Sm2 {g:Int->Int->Bool}
  (rule:∀i j t u s Q E,Q (.bool (g i j)) s->Sc (model X.prog X.w) X.A (f (.int i t) (.int j u)) Q E s):
  OpR X f (rI0 λi j=>.bl (g i j)):=by
 rintro pins s σ H x y v u Q I rx ry ⟨i,j,rfl,rfl,q⟩;obtain ⟨t,rfl⟩:=rx;obtain ⟨t',rfl⟩:=ry;exact rule i j t t' s _ _ ⟨.bl (g i j),H,I,rfl,q⟩
noncomputable def Ssc (i j:Int):Prop:=0<=j/\j<=1000000/\i.natAbs < 2^64
noncomputable def Sih (i j:Int):Prop:=(-(2^64) < i/\i < 2^64)\/(-(2^64) < j/\j < 2^64)
theorem Sih.ok (h:Sih i j):IntMulOk i j:=by
 rcases h with ⟨h1,h2⟩|⟨h1,h2⟩
 ·exact .of_left (intBits_le_64 h1 h2)
 ·exact .of_right (intBits_le_64 h1 h2)
theorem Jkl:OpR X (binaryOp .Add) (rI0 λi j=>.int (i+j)):=Spm λ_ _ _ _ _ _ _ q=>add_int q
theorem Jmc:OpR X (binaryOp .Sub) (rI0 λi j=>.int (i - j)):=Spm λ_ _ _ _ _ _ _ q=>sub_int q
theorem Jp7:OpR X (binaryOp .Mult) (rI Sih λi j=>.int (i*j)):=opI λ_ _ _ _ _ _ _ hc q=>mul_int q hc.ok
theorem Jp6:OpR X (binaryOp .Mod) (rI (λ_ j=>0 < j) λi j=>.int (i%j)):=opI λi j _ _ _ _ _ hc q=>mod_int' (by lia) (by rw [Int.fmod_eq_emod_of_nonneg i (by lia)];exact q)
theorem Yp:OpR X (binaryOp .Pow) (rI Ssc λi j=>.int (i^j.toNat)):=opI λ_ _ _ _ _ _ _ hc q=>pow_int_small hc.1 hc.2.1 hc.2.2 q
theorem unI {g:Int->Int}
  (rule:∀i t s Q E,Q (.int (g i) s.toks) {s with toks:=s.toks+1}->Sc (model X.prog X.w) X.A (f (.int i t)) Q E s):
  UnR X f (rU λi=>.int (g i)):=by
 rintro pins s σ H x v Q I rx ⟨i,rfl,q⟩;obtain ⟨t,rfl⟩:=rx;exact rule i t s _ _ ⟨.int (g i),H,I.tok _,⟨_,rfl⟩,q⟩
theorem Jv1:UnR X (unaryOp .USub) (rU λi=>.int (-i)):=unI λ_ _ _ _ _ q=>neg_int q
end
noncomputable def Smj:V->V->Bool
 | .non,.non=>true| .non,.int _=>true| .int _,.non=>true| .non,.bl _=>true| .bl _,.non=>true| .non,.str _=>true| .str _,.non=>true
 | .int _,.int _=>true| .bl _,.bl _=>true| .str _,.str _=>true| .byt _,.byt _=>true
 | .int _,.str _=>true| .str _,.int _=>true| .bl _,.str _=>true| .str _,.bl _=>true
 |_,_=>false
inductive rEq (x:V) (y:V) (H:Hp) (Q:VK):Prop where
 |mk (_:Smj x y=true) (_:Q (.bl (decide (x=y))) H)
inductive rNe (x:V) (y:V) (H:Hp) (Q:VK):Prop where
 |mk (_:Smj x y=true) (_:Q (.bl (!decide (x=y))) H)
theorem Jxr:decide (V.int i=V.int j)=(i==j):=by grind
theorem Y3:decide (V.bl i=V.bl j)=(i==j):=by grind
theorem Jxs:decide (V.str i=V.str j)=(i==j):=by grind
theorem Jxq:decide (V.byt i=V.byt j)=(i.toList==j.toList):=by
 rw [Bool.eq_iff_iff];cases i;cases j;simp
section
variable {X:Cx} {a b c:Expr} {ta tb tc:TE} {pos:Pos}
theorem Jkb {σ:St} {H} {s} {Q} {k k'} (I:Sm X pins σ H s) (q:Q (.bl k) H) (e:k=k'):EP X pins σ Q (.bool k') s:=by
 subst e;exact ⟨.bl k,H,I,rfl,q⟩
theorem Jn8:OpR X (compareOp .Eq) rEq:=by
 rintro pins s σ H x y v u Q I rx ry ⟨hs,q⟩;cases x with
 |non=>
  cases rx;cases y with
  |non=>cases ry;exact PySem.EqNone.eq_none_none (Jkb I q (by simp))
  |bl j=>cases ry;exact PySem.EqNone.eq_none_bool (Jkb I q (by simp))
  |int j=>obtain ⟨t',rfl⟩:=ry;exact PySem.EqNone.eq_none_int (Jkb I q (by simp))
  |str j=>obtain ⟨t',rfl⟩:=ry;exact PySem.EqNone.eq_none_str (Jkb I q (by simp))
  |_=>exact absurd (show false=true from hs) yai
 |bl i=>
  cases rx;cases y with
  |non=>cases ry;exact PySem.EqNone.eq_bool_none (Jkb I q (by simp))
  |bl j=>cases ry;exact eq_bool (Jkb I q Y3)
  |str j=>obtain ⟨t',rfl⟩:=ry;exact PySem.EqMixed.eq_bool_str (Jkb I q (by simp))
  |_=>exact absurd (show false=true from hs) yai
 |int i=>
  obtain ⟨t,rfl⟩:=rx;cases y with
  |non=>cases ry;exact PySem.EqNone.eq_int_none (Jkb I q (by simp))
  |int j=>obtain ⟨t',rfl⟩:=ry;exact eq_int (Jkb I q Jxr)
  |str j=>obtain ⟨t',rfl⟩:=ry;exact PySem.EqMixed.eq_int_str (Jkb I q (by simp))
  |_=>exact absurd (show false=true from hs) yai
 |str i=>
  obtain ⟨t,rfl⟩:=rx;cases y with
  |non=>cases ry;exact PySem.EqNone.eq_str_none (Jkb I q (by simp))
  |bl j=>cases ry;exact PySem.EqMixed.eq_str_bool (Jkb I q (by simp))
  |int j=>obtain ⟨t',rfl⟩:=ry;exact PySem.EqMixed.eq_str_int (Jkb I q (by simp))
  |str j=>obtain ⟨t',rfl⟩:=ry;exact eq_str (Jkb I q Jxs)
  |_=>exact absurd (show false=true from hs) yai
 |byt i=>
  obtain ⟨t,rfl⟩:=rx;cases y with
  |byt j=>obtain ⟨t',rfl⟩:=ry;exact PySem.W.eq_bytes (Jkb I q Jxq)
  |_=>exact absurd (show false=true from hs) yai
 |_=>cases y <;> exact absurd (hs) yai
theorem Jy1:OpR X (compareOp .NotEq) rNe:=by
 rintro pins s σ H x y v u Q I rx ry ⟨hs,q⟩;cases x with
 |non=>
  cases rx;cases y with
  |non=>cases ry;exact PySem.EqNone.ne_none_none (Jkb I q (by simp))
  |bl j=>cases ry;exact PySem.EqNone.ne_none_bool (Jkb I q (by simp))
  |int j=>obtain ⟨t',rfl⟩:=ry;exact PySem.EqNone.ne_none_int (Jkb I q (by simp))
  |str j=>obtain ⟨t',rfl⟩:=ry;exact PySem.EqNone.ne_none_str (Jkb I q (by simp))
  |_=>exact absurd (hs) yai
 |bl i=>
  cases rx;cases y with
  |non=>cases ry;exact PySem.EqNone.ne_bool_none (Jkb I q (by simp))
  |bl j=>cases ry;exact ne_bool (Jkb I q (congrArg not Y3))
  |str j=>obtain ⟨t',rfl⟩:=ry;exact PySem.EqMixed.ne_bool_str (Jkb I q (by simp))
  |_=>exact absurd (show false=true from hs) yai
 |int i=>
  obtain ⟨t,rfl⟩:=rx;cases y with
  |non=>cases ry;exact PySem.EqNone.ne_int_none (Jkb I q (by simp))
  |int j=>obtain ⟨t',rfl⟩:=ry;exact ne_int (Jkb I q (congrArg not Jxr))
  |str j=>obtain ⟨t',rfl⟩:=ry;exact PySem.EqMixed.ne_int_str (Jkb I q (by simp))
  |_=>exact absurd (show false=true from hs) yai
 |str i=>
  obtain ⟨t,rfl⟩:=rx;cases y with
  |non=>cases ry;exact PySem.EqNone.ne_str_none (Jkb I q (by simp))
  |bl j=>cases ry;exact PySem.EqMixed.ne_str_bool (Jkb I q (by simp))
  |int j=>obtain ⟨t',rfl⟩:=ry;exact PySem.EqMixed.ne_str_int (Jkb I q (by simp))
  |str j=>obtain ⟨t',rfl⟩:=ry;exact ne_str (Jkb I q (congrArg not Jxs))
  |_=>exact absurd (show false=true from hs) yai
 |byt i=>
  obtain ⟨t,rfl⟩:=rx;cases y with
  |byt j=>obtain ⟨t',rfl⟩:=ry;exact PySem.W.ne_bytes (Jkb I q (congrArg not Jxq))
  |_=>exact absurd (show false=true from hs) yai
 |_=>cases y <;> exact absurd (hs) yai
theorem Spn:OpR X (compareOp .Lt) (rI0 λi j=>.bl (decide (i < j))):=Sm2 λ_ _ _ _ _ _ _ q=>lt_int q
theorem Jnp:OpR X (compareOp .LtE) (rI0 λi j=>.bl (decide (i<=j))):=Sm2 λ_ _ _ _ _ _ _ q=>le_int q
theorem Yo:OpR X (compareOp .Gt) (rI0 λi j=>.bl (decide (j < i))):=Sm2 λ_ _ _ _ _ _ _ q=>gt_int q
theorem Jz3:OpR X (compareOp .In) (λx y H Q=>∃i j,x= .str i/\y= .str j/\Q (.bl (!(Builtin.Str.occurrences j i 0 j.length 1).isEmpty)) H):=by
 rintro pins s σ H x y v u Q I rx ry ⟨i,j,rfl,rfl,q⟩;obtain ⟨t,rfl⟩:=rx;obtain ⟨t',rfl⟩:=ry;exact in_str (Jkb I q rfl)
theorem Sm3:OpR X (compareOp .Is) (λx y H Q=>y= .non/\Q (.bl (decide (x= .non))) H):=by
 rintro pins s σ H x y v u Q I rx ry ⟨rfl,q⟩;cases ry;refine is_none_gen (Jkb I q ?_);cases x <;> first
  | (cases rx; rfl)
  | (obtain ⟨t,rfl⟩:=rx; rfl)
theorem Jy2:OpR X (compareOp .IsNot) (λx y H Q=>y= .non/\Q (.bl (!decide (x= .non))) H):=by
 rintro pins s σ H x y v u Q I rx ry ⟨rfl,q⟩;cases ry;refine isnot_none_gen (Jkb I q ?_);cases x <;> first
  | (cases rx; rfl)
  | (obtain ⟨t,rfl⟩:=rx; rfl)
theorem Jkn (b) (h:op≠ .In:=by decide) (h2:op≠ .NotIn:=by decide):behindInMarks op b=false:=by
 have e1:(op==CmpOp.In)=false:=by cases op <;> first|rfl|exact absurd rfl h
 have e2:(op==CmpOp.NotIn)=false:=by cases op <;> first|rfl|exact absurd rfl h2
 cases b <;> simp [behindInMarks,e1,e2]
theorem Jmv (ho:OpR X (compareOp op) r) (ha:PE X a ta) (hb:PE X b tb) (hm:behindInMarks op b=false):PE X (.Compare a [op] [b] pos) (tOp r ta tb):=by
 intro pins s σ H Q I h;exact wpAny_Compare1 (Sl9 ha hb I h λv u s2 x y H2 I2 rx ry q=>ho pins s2 σ H2 x y v u Q I2 rx ry q) hm
inductive Ycy (Q:(Bool->Hp->Prop)) (x:V) (H':Hp):Prop where
 |mk (k:_) (_:x= .bl k) (_:Q k H')
noncomputable def Skd (t:TE):TT:=λσ H Q=>t σ H (Ycy Q)
theorem Jkj (ho:OpR X (compareOp op) r) (ha:PE X a ta) (hb:PE X b tb) (hm:behindInMarks op b=false):PT X (.Compare a [op] [b] pos) (Skd (tOp r ta tb)):=by
 intro pins s σ H Q I h;refine wpAny_isTrue_Compare1 (thn (ha pins s σ H _ I h) λv s1 ⟨x,H1,I1,r1,q1⟩=>thn (hb pins s1 σ H1 _ I1 q1) λu s2 ⟨y,H2,I2,r2,q2⟩=>
  thn (ho pins s2 σ H2 x y v u _ I2 r1 r2 q2) λc s3 ⟨z,H3,I3,r3,k,e,q3⟩=>?_) hm
 subst e;cases r3;exact wpAny_truthy_bool ⟨H3,I3,q3⟩
noncomputable def Yar (r r':R2) (ta tb tc:TE):TE:=λσ H Q=>ta σ H λx H1=>tb σ H1 λy H2=>r x y H2 λz H3=>∃k,z= .bl k/\
 (if k=true then tc σ H3 λw' H4=>r' y w' H4 Q else Q (.bl false) H3)
theorem Jpo (ho:OpR X (compareOp op) r) (ho':OpR X (compareOp op') r') (ha:PE X a ta) (hb:PE X b tb) (hc:PE X c tc)
  (hm:lastMarks [op,op'] [b,c]=false:=by with_unfolding_all rfl):PE X (.Compare a [op,op'] [b,c] pos) (Yar r r' ta tb tc):=by
 intro pins s σ H Q I h;refine Compare_chain (thn (ha pins s σ H _ I h) λv s1 ⟨x,H1,I1,r1,q1⟩=>chain_link (thn (hb pins s1 σ H1 _ I1 q1) λu s2 ⟨y,H2,I2,r2,q2⟩=>
  thn (ho pins s2 σ H2 x y v u _ I2 r1 r2 q2) λd s3 ⟨z,H3,I3,r3,k,e,q3⟩=>?_)) hm
 subst e;cases r3;refine wpAny_truthy_bool ?_;cases k with
 |false=>exact ite_ff ⟨.bl false,H3,I3,rfl,q3⟩
 |true=>exact ite_tt (chain_last (thn (hc pins s3 σ H3 _ I3 q3) λw' s4 ⟨z',H4,I4,r4,q4⟩=>ho' pins s4 σ H4 y z' u w' Q I4 r2 r4 q4))
theorem Jvy (ho:OpR X (compareOp op) r) (ho':OpR X (compareOp op') r') (ha:PE X a ta) (hb:PE X b tb) (hc:PE X c tc)
  (hm:lastMarks [op,op'] [b,c]=false:=by with_unfolding_all rfl):PT X (.Compare a [op,op'] [b,c] pos) (Skd (Yar r r' ta tb tc)):=by
 intro pins s σ H Q I h;refine isTrue_chain (thn (ha pins s σ H _ I h) λv s1 ⟨x,H1,I1,r1,q1⟩=>test_link (thn (hb pins s1 σ H1 _ I1 q1) λu s2 ⟨y,H2,I2,r2,q2⟩=>
  thn (ho pins s2 σ H2 x y v u _ I2 r1 r2 q2) λd s3 ⟨z,H3,I3,r3,k,e,q3⟩=>?_)) hm
 subst e;cases r3;refine wpAny_truthy_bool ?_;cases k with
 |false=>
  obtain ⟨k',e',q'⟩:=q3;cases e';exact ite_ff ⟨H3,I3,q'⟩
 |true=>
  refine ite_tt (test_last (thn (hc pins s3 σ H3 _ I3 q3) λw' s4 ⟨z',H4,I4,r4,q4⟩=>thn (ho' pins s4 σ H4 y z' u w' _ I4 r2 r4 q4) λd' s5 zq=>?_));obtain ⟨z2,H5,I5,r5,k2,e2,q5⟩:=zq;subst e2;cases r5;exact wpAny_truthy_bool ⟨H5,I5,q5⟩
theorem Jq8:(S6) < 2^63:=by rw [sizeLine_eq];decide
theorem Jlz (r:Sv [x] us):∃u,us= [u]/\Su x u:=by
 cases r with
 |cons r1 r2=>cases r2;exact ⟨_,rfl,r1⟩
theorem Jwb (r:Sv [x,y] us):∃u w',us= [u,w']/\Su x u/\Su y w':=by
 cases r with
 |cons r1 r2=>
  cases r2 with
  |cons r3 r4=>cases r4;exact ⟨_,_,rfl,r1,r3⟩
theorem Jq5 (hc:X.calm=true):Jla X (.builtin "max") (λxs H Q=>∃i j,xs= [.int i,.int j]/\Q (.int (if j > i then j else i)) H):=by
 rintro pins s σ H xs us Q I r ⟨i,j,rfl,q⟩;obtain ⟨u,w',rfl,⟨t,rfl⟩,⟨t',rfl⟩⟩:=Jwb r;refine max_two_ints (I.ok.hd hc) λh' tk k=>⟨_,H,I.kept k,?_,q⟩;by_cases hj:j > i
 ·rw [if_pos hj,if_pos hj];exact ⟨_,rfl⟩
 ·rw [if_neg hj,if_neg hj];exact ⟨_,rfl⟩
theorem Jt7 (hc:X.calm=true):Jla X (.builtin "min") (λxs H Q=>∃i j,xs= [.int i,.int j]/\Q (.int (if j < i then j else i)) H):=by
 rintro pins s σ H xs us Q I r ⟨i,j,rfl,q⟩;obtain ⟨u,w',rfl,⟨t,rfl⟩,⟨t',rfl⟩⟩:=Jwb r;refine min_two_ints (I.ok.hd hc) λh' tk k=>⟨_,H,I.kept k,?_,q⟩;by_cases hj:j < i
 ·rw [if_pos hj,if_pos hj];exact ⟨_,rfl⟩
 ·rw [if_neg hj,if_neg hj];exact ⟨_,rfl⟩
theorem Jyh:Jla X (.type "int") (λxs H Q=>(∃i,xs= [.int i]/\Q (.int i) H)\/∃k,xs= [.bl k]/\Q (.int (if k then 1 else 0)) H):=by
 intro pins s σ H xs us Q I r h;rcases h with ⟨i,rfl,q⟩|⟨k,rfl,q⟩
 ·obtain ⟨u,rfl,t,rfl⟩:=Jlz r;exact call_int_int ⟨.int i,H,I,⟨_,rfl⟩,q⟩
 ·obtain ⟨u,rfl,r1⟩:=Jlz r;cases r1;exact call_int_bool ⟨.int (if k then 1 else 0),H,I.tok _,⟨_,rfl⟩,q⟩
end
structure Sg8 (h:Sb) (x dx C:S1) (mA:Str->Option S2):Prop where
 obj:h.get? x=some (Sh C dx)
 ns:h.Ns1 dx mA
 ne:dx≠x
theorem Jtf {h:Sb} (n:h.Ns1 dx mA):∃od,h.get? dx=some od/\∀name,PySem.W.lookIn name od=some (mA name):=by
 obtain ⟨o,es,ep,ho,hd,hk,_,hm⟩:=n;refine ⟨o,ho,λname=>?_⟩;have e:=hm name;unfold nsFind findBy at e;rw [<-Array.find?_toList] at e;unfold PySem.W.lookIn;rw [hd];dsimp only;split
 ·rename_i y q
  rw [q] at e;exact congrArg some e
 ·rename_i q
  rw [q] at e;have a:es.toList.any (·.refKey)=false:=by
   rw [List.any_eq_false];intro y hy;obtain ⟨z,t,hkey⟩:=hk y (Array.mem_toList_iff.mp hy);simp [DictEntry.refKey,hkey]
  have a':¬es.toList.any (·.refKey)=true:=by rw [a];exact yai
  rw [if_neg a'];exact congrArg some e
theorem Sg8.look (I:Sg8 h x dx C mA):∃od,PySem.W.InstAt h x (Sh C dx) C (some od)/\∀name,PySem.W.lookIn name od=some (mA name):=
 let ⟨od,ho,hl⟩:=Jtf I.ns
 ⟨od,⟨I.obj,rfl,rfl,ho⟩,hl⟩
section
variable {prog:S7} {w:S9} {A:Sa} {E:S2->S3->Prop} {s:S3} {K:Sd} {x dx C f:S1} {mA:Str->Option S2} {name:Str} {v:S2}
theorem Ybj {Q} (X:K.In s.heap) (I:Sg8 s.heap x dx C mA) (hg:PySem.W.plainGet K C name=true) (hh:PySem.W.hasDictIn K C=true)
  (ha:Sf K (.ref C) name=some none) (hv:mA name=some v) (hv':PySem.W.handedIn v=true) (h:Q v {s with toks:=s.toks+1}):
  Sc (model prog w) A (getAttr (.ref x) name expr) Q E s:=by
 obtain ⟨od,J,hl⟩:=I.look;exact PySem.W.get_value X J (PySem.W.plainGet_of hg).1 (PySem.W.findObj_own hh ha rfl (by rw [hl,hv])) hv' h
theorem Yb {Q} (X:K.In s.heap) (I:Sg8 s.heap x dx C mA) (hg:PySem.W.plainGet K C name=true)
  (hf:Sf K (.ref C) name=some (some (.ref f))) (ht:PySem.W.isFn K (.ref f)=true) (hv:mA name=none) (h:Q (.ref f,[.ref x]) s):
  Sc (model prog w) A (getMethod (.ref x) name pl) Q E s:=by
 obtain ⟨od,J,hl⟩:=I.look;exact PySem.W.method_fn X J (PySem.W.plainGet_of hg).1 (PySem.W.plainGet_of hg).2 hf (beq_iff_eq.mp ht) (by show (PySem.W.lookIn name od).map (·.isSome)=some false;rw [hl,hv];rfl) h
theorem Ycg (X:K.In s.heap) (I:Sg8 s.heap x dx C mA)
  (hs:Sf K (.ref C) "__setattr__" =some (some (.builtin "object.__setattr__"))) (hp:PySem.W.plainOver K C=true) (ht:PySem.W.takerIn K C name=some none) (hh:PySem.W.hasDictIn K C=true)
  (hw:PySem.Within mA ns) (hsz:ns.length<=S6)
  (h:∀h',Sg8 h' x dx C (λy=>if y=name then some v else mA y)->yz dx s.heap h'->Q () {s with heap:=h',toks:=s.toks+2}):
  Sc (model prog w) A (setAttr (.ref x) name v) Q E s:=by
 obtain ⟨od,J,hl⟩:=I.look;refine PySem.W.set_plain X J hs (PySem.W.osa_open X J hp ht λb=>?_);obtain ⟨cd,hc,hd'⟩:=PySem.W.any_some hh;refine S4 (S5 (S4 (S4 (wpAny_loadPart I.obj (S4 (PySem.W.Looks.here (PySem.W.looks_clsIn X hc) ?_))))));rw [hd'];refine S5 (S4 (S5 (S4 (wpAny_nsSet1 I.ns λh' hn2 hs2=>?_))));obtain ⟨oD,esD,epD,hoD,hdD,hcD⟩:=hn2.count (PySem.Within.cons name v hw);exact S4 (wpAny_lookBehind hoD (by rw [hdD];exact pastItsLine_dict (yae hcD (by rw [yac];lia))) (S5 (h _ ⟨(hs2.2 _ (yu I.ne)).trans I.obj,hn2,I.ne⟩ hs2)))
theorem Ym (X:K.In s.heap) (hm:PySem.W.makesIn K C=true)
  (hi:Sf K (.ref C) "__init__" =some (some (.ref f))) (hf:PySem.W.typeIn K (.ref f)=some (.type "function"))
  (h:codeAny (model prog w) (A.under (.builtin "type.__call__" ⟨.ref C::vs,kw⟩)) (.call (.ref f) ⟨.ref (s.heap.objs.size+1)::vs,kw⟩) (PySem.W.InitBack (s.heap.objs.size+1) R)
   {s with heap:=(s.heap.push PySem.W.emptyDict).push (Sh C s.heap.objs.size)}):
  codeAny (model prog w) A (.call (.ref C) ⟨vs,kw⟩) R s:=PySem.W.make_core (PySem.W.makes_of X hm) (PySem.W.looks_findIn X hi) (λself=>PySem.W.bind_fn X self hf) (.inl rfl) h
end
noncomputable def Jld (f:Str) (v:V):List (Str×V)->List (Str×V)
 | []=>[(f,v)]
 | (g,x) :: r=>if g = f then (g,v) :: r else (g,x) :: Jld f v r
theorem Jqv (f g) (v):∀fs:List (Str×V),(Jld f v fs).lookup g=if g=f then some v else fs.lookup g
 | []=>by
  show ybk g [(f,v)]=_;by_cases h:g=f
  ·have hb:(g==f)=true:=beq_iff_eq.mpr h;simp only [ybk,hb,if_pos h]
  ·have hb:=beq_eq_false_iff_ne.mpr h;simp only [ybk,hb,if_neg h]
 | (k,x) :: r=>by
  rw [show Jld f v ((k,x)::r)=(if k=f then (k,v)::r else (k,x)::Jld f v r) from rfl];by_cases hk:k=f
  ·rw [if_pos hk];by_cases h:g=k
   ·have hb:=beq_iff_eq.mpr h;simp only [ybk,hb,if_pos (h.trans hk)]
   ·have hb:=beq_eq_false_iff_ne.mpr h;simp only [ybk,hb,if_neg (λe:g=f=>h (e.trans hk.symm))]
  ·rw [if_neg hk];by_cases h:g=k
   ·have hb:=beq_iff_eq.mpr h;simp only [ybk,hb,if_neg (λe:g=f=>hk (h.symm.trans e))]
   ·have hb:=beq_eq_false_iff_ne.mpr h;simp only [ybk,hb];exact (Jqv f g v r)
theorem Jq7 (f) (v):∀fs:List (Str×V),f∈(Jld f v fs).map (·.1)/\∀g,g∈fs.map (·.1)->g∈(Jld f v fs).map (·.1)
 | []=>⟨by simp [Jld],λg h=>by simp at h⟩
 | (k,x) :: r=>by
  obtain ⟨i1,i2⟩:=Jq7 f v r;rw [show Jld f v ((k,x)::r)=(if k=f then (k,v)::r else (k,x)::Jld f v r) from rfl];by_cases hk:k=f
  ·rw [if_pos hk];subst hk;exact ⟨by simp,λg h=>by simpa using h⟩
  ·rw [if_neg hk];refine ⟨?_,λg h=>?_⟩
   ·rw [yap];exact yq _ i1
   ·rw [yap] at h⊢;rcases yr.mp h with e|e
    ·exact yr.mpr (.inl e)
    ·exact yq _ (i2 g e)
theorem Jqt (f) (v):∀fs:List (Str×V),(Jld f v fs).length<=fs.length+1
 | []=>by simp [Jld]
 | (k,x) :: r=>by
  have ih:=Jqt f v r;rw [show Jld f v ((k,x)::r)=(if k=f then (k,v)::r else (k,x)::Jld f v r) from rfl];by_cases hk:k=f
  ·rw [if_pos hk,yac,yac];lia
  ·rw [if_neg hk,yac,yac];lia
theorem Sc1.some_of (r:Sc1 (some v) o):∃u,o=some u/\Su v u:=by
 cases o with
 |none=>exact (r).elim
 |some u=>exact ⟨u,rfl,r⟩
theorem Sc1.none_of (r:Sc1 none o):o=none:=by
 cases o with
 |none=>rfl
 |some u=>exact (r).elim
theorem Jyt (r:Su v u):PySem.W.handedIn u=true:=by
 cases v with
 |non=>cases (r);rfl
 |bl b=>cases (r);rfl
 |int i=>obtain ⟨t,e⟩:=(show ∃t,u=Value.int i t from r);cases e;rfl
 |str x=>obtain ⟨t,e⟩:=(show ∃t,u=Value.str x t from r);cases e;rfl
 |byt b=>obtain ⟨t,e⟩:=(show ∃t,u=Value.bytes b t from r);cases e;rfl
 |flt b=>obtain ⟨t,e⟩:=(show ∃t,u=Value.float b t from r);cases e;rfl
 |ref a=>cases (r);rfl
 |ty n=>cases (r);rfl
section
variable {P:S7} {w:S9} {H H':Hp} {h h':Sb} {a C dx:S1} {fs fs':List (Str×V)}
theorem Jrj (hok:HOk P w H h) (e:H a=some (.ins C dx fs)):∃mA,Sg8 h a dx C mA/\(∀f,Sc1 (fs.lookup f) (mA f))/\PySem.Within mA (fs.map (·.1))/\fs.length<=1000/\H dx=some (.own a):=by
 obtain ⟨d,z,ne,ob,mA,n,r,q⟩:=(hok a _ e);exact ⟨mA,⟨ob,n,ne⟩,r,q,z,d⟩
end
structure Cls (K:Sd) (C:S1):Prop where
 pg:PySem.W.plainGet K C Str.empty=true
 hd:PySem.W.hasDictIn K C=true
 po:PySem.W.plainOver K C=true
 sa:Sf K (.ref C) "__setattr__" =some (some (.builtin "object.__setattr__"))
theorem Cls.get {K} (c:Cls K C) (f):PySem.W.plainGet K C f=true:=c.pg
noncomputable def NoAttr (K:Sd) (C:S1) (f:Str):Prop:=Sf K (.ref C) f=some none
theorem NoAttr.taker {K} (n:NoAttr K C f):PySem.W.takerIn K C f=some none:=by
 unfold PySem.W.takerIn;rw [n];rfl
structure Jwd (K:Sd) (C:S1) (m:Str) (f:S1):Prop where
 at_:Sf K (.ref C) m=some (some (.ref f))
 fn:PySem.W.isFn K (.ref f)=true
 kp:PySem.W.keepIn K (.ref f)=true
section
variable {X:Cx} {pins:List (S1×Obj)} {σ:St} {H:Hp} {s:S3} {a C dx:S1} {fs:List (Str×V)} {f:Str} {v:V} {A:Sa} {E:S2->S3->Prop}
theorem Jwo (I:Sm X pins σ H s) (e:H a=some (.ins C dx fs)) (c:Cls X.K C) (n:NoAttr X.K C f) (l:fs.lookup f=some v)
  (h:∀u s',Sm X pins σ H s'->Su v u->Q u s'):Sc (model X.prog X.w) A (getAttr (.ref a) f b) Q E s:=by
 obtain ⟨mA,O,r,_,_,_⟩:=Jrj I.hok e;obtain ⟨u,hu,ru⟩:=Sc1.some_of (by rw [<-l];exact r f);exact Ybj I.kIn O (c.get f) c.hd n hu (Jyt ru) (h u _ (I.tok _) ru)
theorem Jwp {Q} (I:Sm X pins σ H s) (e:H a=some (.ins C dx fs)) (c:Cls X.K C) (k:Jwd X.K C m g) (l:fs.lookup m=none)
  (h:Q (.ref g,[.ref a]) s):Sc (model X.prog X.w) A (getMethod (.ref a) m pl) Q E s:=by
 obtain ⟨mA,O,r,_,_,_⟩:=Jrj I.hok e;exact Yb I.kIn O (c.get m) k.at_ k.fn (Sc1.none_of (by rw [<-l];exact r m)) h
theorem Jxe (I:Sm X pins σ H s) (e:H a=some (.ins C dx fs)) (c:Cls X.K C) (n:NoAttr X.K C f) (hl:fs.length < 1000) (ry:Su y u)
  (h:∀s',Sm X pins σ (upd H a (.ins C dx (Jld f y fs))) s'->Q () s'):Sc (model X.prog X.w) A (setAttr (.ref a) f u) Q E s:=by
 obtain ⟨mA,O,r,wi,_,ho⟩:=Jrj I.hok e;have hz:(fs.map (·.1)).length<=S6:=by rw [yf,sizeLine_eq];lia
 refine Ycg I.kIn O c.sa c.po n.taker c.hd wi hz λh' O' sb=>h _ ?_;have hd:∃o,h'.get? dx=some o:=let ⟨o,_,_,e',_⟩:=O'.ns;⟨o,e'⟩;refine I.write (by rw [e];exact True.intro) (.inr ho) (λb q hb z=>(sb.2 b hb).trans z) hd ⟨by rw [Sy O.ne];exact ho,?_,O.ne,O'.obj,_,O'.ns,λg=>?_,λg hg=>?_⟩
 ·have:=Jqt f y fs;lia
 ·show Sc1 ((Jld f y fs).lookup g) (if g=f then some u else mA g);rw [Jqv];by_cases q:g=f
  ·rw [if_pos q,if_pos q];exact ry
  ·rw [if_neg q,if_neg q];exact r g
 ·by_cases q:g=f
  ·rw [q];exact (Jq7 f y fs).1
  ·refine (Jq7 f y fs).2 g (wi g λz=>hg ?_);show (if g=f then some u else mA g)=none;rw [if_neg q];exact z
theorem Sm.made (I:Sm X pins σ H s):Sm X pins σ (upd (upd H s.heap.objs.size (.own (s.heap.objs.size+1))) (s.heap.objs.size+1) (.ins C s.heap.objs.size []))
  {s with heap:=(s.heap.push PySem.W.emptyDict).push (Sh C s.heap.objs.size)}:=by
 have e1:(s.heap.push PySem.W.emptyDict).get? s.heap.objs.size=some PySem.W.emptyDict:=yn s.heap rfl;have e2:=by
  have:=yn (s.heap.push PySem.W.emptyDict) (o:=Sh C s.heap.objs.size) rfl
  rwa [yar] at this
 have e3:(s.heap.push PySem.W.emptyDict).Ns s.heap.objs.size (λ_=>none):=⟨PySem.W.emptyDict,#[],_,e1,rfl,(λe he=>absurd he (by simp)),λ_=>rfl⟩;refine (I.laid (o:=.own (s.heap.objs.size+1)) (t':=s.toks) (λb u q=>yh _ q) (yg _) ⟨_,e1⟩).laid (λb u q=>yh _ q) (Nat.le_of_eq (yar _ _)) ?_;have ne:s.heap.objs.size≠s.heap.objs.size+1:=yt (ybs _);refine ⟨by rw [Sy ne,So],yw _,ne,e2,λ_=>none,(Heap.Ns1.of_empty e3).at λo q=>yh _ q,λ_=>True.intro,λy hy=>absurd rfl hy⟩
theorem Ybc (hb:attributeBase e f env (eval e env)=eval e env)
  (h:Sc (model prog w) A (eval e env) (λo s₁=>Sc (model prog w) A (getAttr o f true) Q E s₁) E s):Sc (model prog w) A (eval (.Attribute e f pos) env) Q E s:=
 Attribute_any_ h (by rw [arm_eval_Attribute,hb])
end
inductive Sna (K:Sd) (f:Str) (Q:VK) (x:V) (H1:Hp):Prop where
 |mk (a:_) (C:_) (dx:_) (fs:_) (v:_) (_:x= .ref a) (_:H1 a=some (.ins C dx fs)) (_:Cls K C) (_:NoAttr K C f) (_:fs.lookup f=some v) (_:Q v H1)
noncomputable def Sqq (K:Sd) (ta:TE) (f:Str):TE:=λσ H Q=>ta σ H (Sna K f Q)
noncomputable def Svg (K:Sd) (ta tv:TE) (f:Str):TS:=λD σ H=>tv σ H λy H1=>ta σ H1 λx H2=>∃a C dx fs,x= .ref a/\H2 a=some (.ins C dx fs)/\Cls K C/\NoAttr K C f/\fs.length < 1000/\
 D.nx σ (upd H2 a (.ins C dx (Jld f y fs)))
section
variable {X:Cx} {o e value:Expr} {f:Str} {pos pos' tpos:Pos} {ta tv:TE}
theorem Jlb (he:PE X e ta) (hb:attributeBase e f X.env (eval e X.env)=eval e X.env):PE X (.Attribute e f pos) (Sqq X.K ta f):=by
 intro pins s σ H Q I h;refine Ybc hb (thn (he pins s σ H _ I h) λu s1 zq=>?_);obtain ⟨x,H1,I1,rx,a,C,dx,fs,v,ex,ea,c,n,l,q⟩:=zq;subst ex;obtain rfl:u=Value.ref a:=rx;exact Jwo I1 ea c n l λu' s2 I2 ru=>⟨v,H1,I2,ru,q⟩
theorem Jl8 (ha:PE X o ta) (hv:PE X value tv) (hs:swapsWith value (some (.Attribute o f pos')) pos.line X.env=pure false):PS X (.Assign [.Attribute o f pos'] value pos) (Svg X.K ta tv f):=by
 intro pins s σ H D I h;refine plainObj_wpAny_Assign_Attribute (thn (hv pins s σ H _ I h) λu s1 ⟨y,H1,I1,ry,q⟩=>thn (ha pins s1 σ H1 _ I1 q) λov s2 zq=>?_) hs;obtain ⟨x,H2,I2,rx,a,C,dx,fs,ex,ea,c,n,l,q2⟩:=zq;subst ex;obtain rfl:ov=Value.ref a:=rx;exact Jxe I2 ea c n l ry λs3 I3=>⟨σ,_,I3,q2⟩
end
section
variable {X:Cx} {pins:List (S1×Obj)} {σ:St} {H:Hp} {s:S3} {A:Sa} {E:S2->S3->Prop} {Q:S2->S3->Prop} {c:S2} {b:Bool}
inductive Jpz (K:Sd) (H:Hp):V->S2->Prop where
 |non:Jpz K H .non (.type "NoneType")
 |bl (x:Bool):Jpz K H (.bl x) (.type "bool")
 |int (i:Int):Jpz K H (.int i) (.type "int")
 |str (x:Str):Jpz K H (.str x) (.type "str")
 |flt (x:UInt64):Jpz K H (.flt x) (.type "float")
 |lst {a:S1} {xs:List V} (e:H a=some (.lst xs)):Jpz K H (.ref a) (.type "list")
 |frz {a:S1} {o:Obj} {xs:List V} (e:H a=some (.frz o (.lst xs))):Jpz K H (.ref a) (.type "list")
 |tup {a:S1} {xs:List V} (e:H a=some (.tup xs)):Jpz K H (.ref a) (.type "tuple")
 |dK {a:S1} {kvs:List (Key×V)} (e:H a=some (.dK kvs)):Jpz K H (.ref a) (.type "dict")
 |dT {a:S1} {kvs:List (List Key×V)} (e:H a=some (.dT kvs)):Jpz K H (.ref a) (.type "dict")
 |ins {a C dx:S1} {fs:List (Str×V)} (e:H a=some (.ins C dx fs)) (cl:Cls K C) (ha:Sf K (.ref C) "__class__" =some (some (.builtin "object.__class__")))
   (hn:PySem.W.specialIn K (.builtin "object.__class__") "__get__" =some (some (.builtin "getset_descriptor.__get__"))) (htk:PySem.W.takesIn K (.builtin "object.__class__")=some true)
   (hm:Sg K C (.type "object")=some true):Jpz K H (.ref a) (.ref C)
end
structure Sai (k:Nat) (A:Sa):Prop where
 hd:A.handled=none
 dp:A.depth+3*k+5 < recursionLimit
 un:A.units+16*k+200 < cLine
 gd:A.guards=some []
theorem Sai.mono (r:Sai k A) (h:j<=k):Sai j A:=⟨r.hd,by have:=r.dp;lia,by have:=r.un;lia,r.gd⟩
theorem Sai.deeper (r:Sai (k+1) A) (env):Sai k (A.deeper env):=
 ⟨r.hd,by have:=r.dp;show A.depth+1+3*k+5 < _;lia,by have:=r.un;show A.units+3+16*k+200 < _;lia,r.gd⟩
theorem Jwt {A:Sa}:(A.under (.builtin "type.__call__" ⟨.ref C::us,kw⟩)).depth=A.depth+1:=by
 first|rfl|simp [Around.under]
theorem Jwu {A:Sa}:(A.under (.builtin "type.__call__" ⟨.ref C::us,kw⟩)).units=A.units+1:=rfl
theorem Jvn {A:Sa}:(A.under (.builtin "type.__call__" ⟨.ref C::us,kw⟩)).guards=A.guards:=by
 have e:(Code.builtin "type.__call__" ⟨.ref C::us,kw⟩).guards= []:=by
  have g:(Code.builtin "type.__call__" ⟨.ref C::us,kw⟩).isGuard=false:=by
   show guardIds.contains "type.__call__" =false;decide +kernel
  unfold Code.guards;rw [g];rfl
 show pushGuards (Code.builtin "type.__call__" ⟨.ref C::us,kw⟩).guards A.guards=_;rw [e];rfl
theorem Sai.make (r:Sai (k+1) A) (C) (us) (kw):Sai k (A.under (.builtin "type.__call__" ⟨.ref C::us,kw⟩)):=
 ⟨r.hd,by have:=r.dp;rw [Jwt];lia,by have:=r.un;rw [Jwu];lia,by rw [Jvn];exact r.gd⟩
theorem Sai.depth (r:Sai k A):A.depth < recursionLimit:=by have:=r.dp;lia
theorem Sai.units (r:Sai k A):A.units+64 < cLine:=by have:=r.un;lia
noncomputable def Jsk:TA:=λ_ H Q=>Q [] H
noncomputable def Jk8 (ta:TE) (tr:TA):TA:=λσ H Q=>ta σ H λx H1=>tr σ H1 λxs H2=>Q (x::xs) H2
section
variable {X:Cx} {e:Expr} {es:List Expr} {te:TE} {t:TA} {pos:Pos}
theorem Sl:PA X [] Jsk:=λ_ _ _ _ H Q I h=>Calls.spliced_nil ⟨[],H,I,.nil,h⟩
theorem Sj (ha:PE X e te) (hr:PA X es t) (hs:starEach (e::es) X.env=(false,eval e X.env)::starEach es X.env:=by rfl):PA X (e::es) (Jk8 te t):=by
 intro pos pins s σ H Q I h;rw [hs];show Sc _ _ (spliced ((false,eval e X.env)::backTo pos (starEach es X.env))) _ _ s;exact Calls.spliced_cons (thn (ha pins s σ H _ I h) λu s1 ⟨x,H1,I1,r1,q1⟩=>thn (hr pos pins s1 σ H1 _ I1 q1) λus s2 ⟨xs,H2,I2,r2,q2⟩=>⟨x::xs,H2,I2,.cons r1 r2,q2⟩)
inductive Sne (Q:VK) (xs:List V) (H1:Hp):Prop where
 |mk (_:xs.length<=S6) (_:∀p,H1 p=none->Q (.ref p) (upd H1 p (.tup xs)))
noncomputable def Sw1 (t:TA):TE:=λσ H Q=>t σ H (Sne Q)
inductive Snc (Q:VK) (xs:List V) (H1:Hp):Prop where
 |mk (_:xs.length<=S6) (_:∀p,H1 p=none->Q (.ref p) (upd H1 p (.lst xs)))
noncomputable def Svx (t:TA):TE:=λσ H Q=>t σ H (Snc Q)
theorem Jkw (h:PA X es t):PE X (.Tuple es x1 pos) (Sw1 t):=by
 intro pins s σ H Q I hq;refine wpAny_Tuple_spliced (thn (h pos pins s σ H _ I hq) λus s1 ⟨xs,H1,I1,r,z,q⟩=>⟨by rw [<-r.length];exact z,⟨.ref s1.heap.objs.size,upd H1 s1.heap.objs.size (.tup xs),I1.laid (λb u e=>yh _ e) (yg _) ?_,rfl,q _ (I1.hok.fresh (yg _))⟩⟩);exact ⟨z,us,r,⟨_,yn _ rfl,rfl,_,rfl⟩⟩
theorem Jki (h:PA X es t):PE X (.List es pos) (Svx t):=by
 intro pins s σ H Q I hq;refine wpAny_List_spliced (thn (h pos pins s σ H _ I hq) λus s1 ⟨xs,H1,I1,r,z,q⟩=>⟨by rw [<-r.length];exact z,⟨.ref s1.heap.objs.size,upd H1 s1.heap.objs.size (.lst xs),I1.laid (λb u e=>yh _ e) (yg _) ?_,rfl,q _ (I1.hok.fresh (yg _))⟩⟩);exact ⟨z,us,0,r,yn _ rfl⟩
end
noncomputable abbrev Sp:=List V->Hp->VK->XK->Prop
noncomputable abbrev CXT:=List Env->Hp->S3->XK->S2->S3->Prop
structure Ser (P:S7) (w:S9) (K:Sd) (mg:Str->Option S2) (base:Sb) (A:Sa) (outer:List Env) (s:S3) (H:Hp):Prop where
 frames:A.frames=some outer
 mod:Mod K mg base
 bs:∀b o,base.get? b=some o->s.heap.get? b=some o/\H b=none
 bsz:base.objs.size<=s.heap.objs.size
 funs:s.heap.FunFrames base outer
 frf:∀b∈frs outer,H b=none
 hok:HOk P w H s.heap
 bare:AllBare s.gens
noncomputable def CE (outer:List Env) (P:S7) (w:S9) (H:Hp) (s:S3) (Q:VK) (u:S2) (s':S3):Prop:=
 ∃v H',s'.os=s.os/\AllBare s'.gens/\Un (frs outer) [] H H' s.heap s'.heap/\HOk P w H' s'.heap/\Su v u/\Q v H'
noncomputable def CR (CX:CXT) (outer:List Env) (P:S7) (w:S9) (H:Hp) (s:S3) (Q:VK) (E:XK) (r:Result) (s':S3):Prop:=
 match r with
 | .ok (.ret u)=>CE outer P w H s Q u s'
 | .ok _=>False
 | .error e=>CX outer H s E e s'
structure Sr (P:S7) (w:S9) (K:Sd) (mg:Str->Option S2) (base:Sb) (CX:CXT) (k:Nat) (f:S1) (fd:S8) (ps:List Str) (sp:Sp):Prop where
 len:∀vs H Q E,sp vs H Q E->vs.length=ps.length
 run:∀(A:Sa) (outer:List Env) (s:S3) (H:Hp) (args:Args) (us:List S2) (vs:List V) (Q:VK) (E:XK),Sai k A->Ser P w K mg base A outer s H->BindsTo s fd args (ps.zip us)->Sv vs us->sp vs H Q E->
  codeAny (model P w) A (.call (.ref f) args) (CR CX outer P w H s Q E) s
theorem Sr.imp {K} (F:Sr P w K mg base CX k f fd ps sp)
  (h:∀vs H Q E,sp' vs H Q E->sp vs H Q E):Sr P w K mg base CX k f fd ps sp':=
 ⟨λvs H Q E q=>F.len vs H Q E (h _ _ _ _ q),λA outer s H args us vs Q E hr he hb hv hs=>F.run A outer s H args us vs Q E hr he hb hv (h _ _ _ _ hs)⟩
theorem Ser.make {K} (e:Ser P w K mg base A outer s H) (C) (us) (kw):
  Ser P w K mg base (A.under (.builtin "type.__call__" ⟨.ref C::us,kw⟩)) outer s H:=⟨by first|exact e.frames|(simpa [Around.under] using e.frames),e.mod,e.bs,e.bsz,e.funs,e.frf,e.hok,e.bare⟩
section
variable {X:Cx} {pins:List (S1×Obj)} {σ:St} {H:Hp} {s s':S3}
theorem Sm.env0 (I:Sm X pins σ H s):Ser X.prog X.w X.K X.mg X.base X.A X.stack s H:=
 ⟨I.ok.frames,I.ok.mod,I.bs,yae I.ok.bsz I.sz,I.stack,I.stkFree,I.hok,I.bare⟩
theorem Sm.after (I:Sm X pins σ H s) (h:CE X.stack X.prog X.w H s Q u s'):EP X pins σ Q u s':=by
 obtain ⟨v,H',os,bare,un,hok,r,q⟩:=h;obtain ⟨hh,g,d,t,os'⟩:=s';obtain rfl:os'=s.os:=os;exact ⟨v,H',I.call un hok bare (λb z=>absurd z (by simp)),r,q⟩
end
noncomputable def Skb (sp:Sp) (dvs:List V) (E:XK) (t:TA):TE:=λσ H Q=>t σ H λvs H1=>sp (vs++dvs) H1 Q E
noncomputable def Sqs (C:S1) (sp:Sp) (dvs:List V) (E:XK) (t:TA):TE:=λσ H Q=>t σ H λvs H1=>∀x dx,H1 x=none->H1 dx=none->dx≠x->
 sp (.ref x::(vs++dvs)) (upd (upd H1 dx (.own x)) x (.ins C dx [])) (λv H2=>v= .non/\Q (.ref x) H2) E
noncomputable def Sbu (K:Sd) (fd:S8) (ps:List Str) (ds:List S2):Prop:=
 ∀(s:S3) (us:List S2),K.In s.heap->(us++ds).length=ps.length->BindsTo s fd ⟨us,[]⟩ (ps.zip (us++ds))
theorem Sbu.all {K} (h:∀us:List S2,us.length=ps.length->bindArgs fd ⟨us,[]⟩=pure (ps.zip us)):Sbu K fd ps []:=λs us _ hl=>by
 rw [ybg] at hl⊢;exact .of_eq (h us hl)
noncomputable def Jrm (CX:CXT) (X:Cx) (E:XK):Prop:=∀(pins:List (S1×Obj)) (σ:St) (H:Hp) (s:S3) (e:S2) (s':S3),Sm X pins σ H s->CX X.stack H s E e s'->X.xe e s'
section
variable {X:Cx} {CX:CXT} {k:Nat} {f C:S1} {fd:S8} {ps:List Str} {sp:Sp} {dvs:List V} {ds:List S2} {E:XK} {x m:Str} {p pos apos:Pos} {e o:Expr} {es:List Expr} {ta:TE} {t:TA}
theorem Jxa (F:Sr X.prog X.w X.K X.mg X.base CX k f fd ps sp) (hr:Sai k X.A) (hb:Sbu X.K fd ps ds) (hd:Sv dvs ds) (hx:Jrm CX X E)
  (I:Sm X pins σ H s) (r:Sv vs us) (h:sp (vs++dvs) H Q E):Sc (model X.prog X.w) X.A (call (.ref f) us) (EP X pins σ Q) X.xe s:=by
 have r2:=r.append hd;have hl:(us++ds).length=ps.length:=by rw [<-r2.length];exact F.len _ _ _ _ h
 refine wpAny_call (codeAny_mono (F.run X.A X.stack s H ⟨us,[]⟩ (us++ds) (vs++dvs) Q E hr I.env0 (hb s us I.kIn hl) r2 h) λr s' hq=>?_);cases r with
 |error e=>exact hx pins σ H s e s' I hq
 |ok fl=>
  cases fl with
  |ret u=>exact I.after hq
  |next=>exact False.elim hq
  |brk=>exact False.elim hq
  |cont=>exact False.elim hq
theorem Yc0 (F:Sr X.prog X.w X.K X.mg X.base CX k f fd ps sp) (hr:Sai k X.A) (hg:Gl X x) (hm:X.mg x=some (.ref f)) (hk:PySem.W.keepIn X.K (.ref f)=true) (hb:Sbu X.K fd ps ds) (hd:Sv dvs ds) (hx:Jrm CX X E)
  (ha:PA X (e::es) t) (hdb:(x==("__debug__" :Str))=false:=by decide) (he:starEach (e::es) X.env=(false,eval e X.env)::starEach es X.env:=by rfl) (hpl:(backTo pos (starEach es X.env)).any (·.1)=false:=by rfl):
  PE X (.Call (.Name x p) (e::es) [] pos) (Skb sp dvs E t):=by
 intro pins s σ H Q I h;exact wpAny_Call_Name_kw (Joi I hg hm (PySem.W.callWith_K I.ok.mod.kin hk (thn (ha pos pins s σ H _ I h) λus s1 ⟨vs,H1,I1,r,q⟩=>⟨I1.kIn,Jxa F hr hb hd hx I1 r q⟩) he hpl) hdb)
structure Mk (K:Sd) (C f:S1):Prop where
 makes:PySem.W.makesIn K C=true
 init:Sf K (.ref C) "__init__" =some (some (.ref f))
 fn:PySem.W.isFn K (.ref f)=true
 kp:PySem.W.keepIn K (.ref C)=true
theorem Ya9 {σ:St} {H} {s} {Q} {us} {vs} (M:Mk X.K C f) (F:Sr X.prog X.w X.K X.mg X.base CX k f fd ps sp) (hr:Sai (k+1) X.A) (hb:Sbu X.K fd ps ds) (hd:Sv dvs ds)
  (hx:Jrm CX X E) (I:Sm X pins σ H s) (r:Sv vs us)
  (h:∀x dx,H x=none->H dx=none->dx≠x->sp (.ref x::(vs++dvs)) (upd (upd H dx (.own x)) x (.ins C dx [])) (λv H2=>v= .non/\Q (.ref x) H2) E):
  Sc (model X.prog X.w) X.A (call (.ref C) us) (EP X pins σ Q) X.xe s:=by
 have hq:=h (s.heap.objs.size+1) s.heap.objs.size (I.hok.fresh (Nat.le_succ _)) (I.hok.fresh (yg _)) (yt (ybs _));have I2:=Sm.made (C:=C) I;have r2:Sv (V.ref (s.heap.objs.size+1)::(vs++dvs)) (Value.ref (s.heap.objs.size+1)::(us++ds)):=.cons rfl (r.append hd);have hl:=by
  have e:=r2.length;rw [F.len _ _ _ _ hq] at e;exact e.symm
 refine wpAny_call (Ym I.kIn M.makes M.init (beq_iff_eq.mp M.fn) (codeAny_mono (F.run _ X.stack _ _ ⟨Value.ref (s.heap.objs.size+1)::us,[]⟩ (Value.ref (s.heap.objs.size+1)::(us++ds)) _ _ E (hr.make C us [])
  (I2.env0.make C us []) (hb _ (Value.ref (s.heap.objs.size+1)::us) I2.kIn hl) r2 hq) λr s' hq'=>?_))
 cases r with
 |error e=>exact hx pins σ _ _ e s' I2 hq'
 |ok fl=>
  cases fl with
  |ret u=>
   obtain ⟨v,H',I3,rv,ev,q3⟩:=I2.after hq';subst ev;exact ⟨rv,⟨V.ref (s.heap.objs.size+1),H',I3,rfl,q3⟩⟩
  |next=>exact False.elim hq'
  |brk=>exact False.elim hq'
  |cont=>exact False.elim hq'
theorem Jnd (M:Mk X.K C f) (F:Sr X.prog X.w X.K X.mg X.base CX k f fd ps sp) (hr:Sai (k+1) X.A) (hg:Gl X x) (hm:X.mg x=some (.ref C)) (hb:Sbu X.K fd ps ds) (hd:Sv dvs ds) (hx:Jrm CX X E)
  (ha:PA X (e::es) t) (hdb:(x==("__debug__" :Str))=false:=by decide) (he:starEach (e::es) X.env=(false,eval e X.env)::starEach es X.env:=by rfl) (hpl:(backTo pos (starEach es X.env)).any (·.1)=false:=by rfl):
  PE X (.Call (.Name x p) (e::es) [] pos) (Sqs C sp dvs E t):=by
 intro pins s σ H Q I h;exact wpAny_Call_Name_kw (Joi I hg hm (PySem.W.callWith_K I.ok.mod.kin M.kp (thn (ha pos pins s σ H _ I h) λus s1 ⟨vs,H1,I1,r,q⟩=>⟨I1.kIn,Ya9 M F hr hb hd hx I1 r q⟩) he hpl) hdb)
end
section
variable {X:Cx} {CX:CXT} {k:Nat} {f C:S1} {fd:S8} {ps ks:List Str} {sp:Sp} {E:XK} {x m:Str} {p pos apos kpos:Pos} {e o:Expr} {es:List Expr} {kws:List Keyword} {te ta:TE} {t tk:TA} {nm:Option Str}
variable {g:List S2->List S2->List S2} {gV:List V->List V->List V}
end
structure Jjp (N P:List Str) (sc:Scope):Prop where
 kind:sc.kind= .function
 co:sc.isCoroutine=false
 gen:sc.isGenerator=false
 nd:N.Nodup
 pre:N.take P.length=P
 par:∀x∈P,sc.names.lookup x=some .local\/sc.names.lookup x=some .cell
 nofree:∀y∈sc.names,y.2≠ .free
theorem Jt6 {kindOf}:∀{binds} {m},(∀v,(x,v)∉binds)->bindL kindOf binds m x=m x
 | [],_,_=>rfl
 | (n,v) :: r,m,h=>by
  unfold bindL;rw [Jt6 λw hw=>h w (yq _ hw)];split
  ·have:x≠n:=by rintro rfl;exact h v yy
   simp [this]
  ·rfl
theorem Jt5 {kindOf}:∀{binds} {m},(∀v,(x,v)∉binds)->bindC kindOf binds m x=m x
 | [],_,_=>rfl
 | (n,v) :: r,m,h=>by
  unfold bindC;rw [Jt5 λw hw=>h w (yq _ hw)];split
  ·rfl
  ·have:x≠n:=by rintro rfl;exact h v yy
   simp [this]
theorem Jq2 {kindOf:Str->Option NameKind} {x:Str} {v:S2}:∀{P:List Str} {vs:List S2} {i:Nat} {m:Str->Option S2},P.Nodup->P[i]?=some x->vs[i]?=some v->kindOf x=some .local->
  bindL kindOf (P.zip vs) m x=some v
 | [],_,_,_,_,h,_,_=>by simp at h
 |_::_,[],_,_,_,_,h,_=>by simp at h
 |p::P,w::vs,0,m,nd,h1,h2,hk=>by
  simp at h1 h2;subst h1;subst h2;show bindL kindOf ((p,w)::P.zip vs) m p=_;unfold bindL;rw [Jt6 λv hv=>(ybp.mp nd).1 (yby hv).1,if_pos hk];simp
 |p::P,w::vs,i+1,m,nd,h1,h2,hk=>by
  show bindL kindOf ((p,w)::P.zip vs) m x=_;unfold bindL;exact Jq2 (i:=i) (ybp.mp nd).2 (by simpa using h1) (by simpa using h2) hk
theorem Jq1 {kindOf:Str->Option NameKind} {x:Str} {v:S2}:∀{P:List Str} {vs:List S2} {i:Nat} {m:Str->Option S2},P.Nodup->P[i]?=some x->vs[i]?=some v->kindOf x≠some .local->
  bindC kindOf (P.zip vs) m x=some v
 | [],_,_,_,_,h,_,_=>by simp at h
 |_::_,[],_,_,_,_,h,_=>by simp at h
 |p::P,w::vs,0,m,nd,h1,h2,hk=>by
  simp at h1 h2;subst h1;subst h2;show bindC kindOf ((p,w)::P.zip vs) m p=_;unfold bindC;rw [Jt5 λv hv=>(ybp.mp nd).1 (yby hv).1,if_neg hk];simp
 |p::P,w::vs,i+1,m,nd,h1,h2,hk=>by
  show bindC kindOf ((p,w)::P.zip vs) m x=_;unfold bindC;exact Jq1 (i:=i) (ybp.mp nd).2 (by simpa using h1) (by simpa using h2) hk
noncomputable def start (N:List Str) (vs:List V):St:=vs.map some++yo (N.length - vs.length) none
noncomputable def Ju2 (CX:CXT) (P:S7) (w:S9) (K:Sd) (mg:Str->Option S2) (base:Sb) (N:List Str) (qual:Str) (scope:Scope) (f:S1) (cd:S2) (A:Sa) (outer:List Env) (s:S3) (H:Hp) (E:XK):Cx where
 prog:=P
 w:=w
 K:=K
 mg:=mg
 base:=base
 A:=A.deeper (envOfC qual scope s.heap.objs.size f cd)
 N:=N
 s₀:=s
 H₀:=H
 env:=envOfC qual scope s.heap.objs.size f cd
 outer:=outer
 stack:=envOfC qual scope s.heap.objs.size f cd::outer
 ex:=[]
 calm:=true
 fn:=λ_=>true
 pn:=[]
 xe:=λe s'=>Sc (model P w) (A.deeper (envOfC qual scope s.heap.objs.size f cd)) (leaving (envOfC qual scope s.heap.objs.size f cd) e) (λ_ s''=>CX outer H s E e s'') (λe' s''=>CX outer H s E e' s'') s'
theorem Jn4 {sc:Scope} (h:sc.names.lookup x=some .cell):∃c,(cellsFrom n sc.names []).lookup x=some c:=ybz.mp (PySem.W.cellsFrom_some sc.names n [] (.inl h))
theorem Jtd {K}
  (S:Jjp N ps scope) (hd:A.handled=none) (e0:Ser P w K mg base A outer s H) (hl:vs.length=ps.length) (r:Sv vs us)
  (x:InCallC s s.heap.objs.size (bindL (envOfC qual scope s.heap.objs.size f cd).kindOf (ps.zip us) λ_=>none) (cellsFrom (s.heap.objs.size+1) scope.names []) (bindC (envOfC qual scope s.heap.objs.size f cd).kindOf (ps.zip us) λ_=>none) s1):
  Sm (Ju2 CX P w K mg base N qual scope f cd A outer s H E) [] (start N vs) H s1:=by
 have hpl:=by have:=congrArg ybq S.pre;rw [yaf] at this;omega
 obtain ⟨h1,tk,rfl,hk⟩:=x.done;have noA:∀b:S1,b∉(Ju2 CX P w K mg base N qual scope f cd A outer s H E).ex:=λb z=>absurd (show b∈ [] from z) (by simp);refine ⟨⟨e0.mod,S.kind,rfl,rfl,yg _,λy z c h1 h2=>?_,λy hy=>?_,λy c _ h=>?_,λ_=>hd,Around.frames_deeper e0.frames,.inr ⟨rfl,rfl⟩,λb z=>absurd z (noA b),e0.bs,e0.bsz,λb _ _=>noA b,λb z=>absurd z (noA b),e0.funs,e0.frf⟩,
  rfl,e0.bare,Un.kept hk,⟨_,x.toInCall.ns,λi y v h1 h2 h3=>?_⟩,λy c h=>⟨_,x.cell y c h⟩,e0.hok.fresh (yg _),λy c h=>?_,λp hp=>absurd (show p∈ [] from hp) (by simp),e0.hok.kept hk,?_⟩
 ·exact name_of_addr x.apart (PySem.mem_of_lookup h1) (PySem.mem_of_lookup h2)
 ·have hy:=hy;rcases hy with hy|hy
  ·exact Jn4 hy
  ·exact absurd rfl (S.nofree _ (PySem.mem_of_lookup hy))
 ·exact ybj (x.above y c (PySem.mem_of_lookup h))
 ·have hi:i < vs.length:=by
   unfold start at h2;by_cases hi:i < vs.length
   ·exact hi
   ·rw [ych (by simpa using hi)] at h2;rw [yco] at h2;split at h2 <;> cases h2
  have ha:vs[i]?=some v:=by
   unfold start at h2;rw [ycp (by simpa using hi),ym] at h2;cases e:vs[i]? with
   |none=>rw [e] at h2;cases h2
   |some a=>rw [e] at h2;cases h2;rfl
  obtain ⟨u,hu,rv⟩:=r.get ha;have hp:ps[i]?=some y:=by
   rw [<-S.pre,List.getElem?_take_of_lt (by lia)];exact h1
  have ndP:ps.Nodup:=by rw [<-S.pre];exact S.nd.sublist (List.take_sublist _ _)
  refine ⟨u,rv,?_⟩;rcases S.par y (yv hp) with k|k
  ·exact .inl ⟨k,Jq2 ndP hp hu k⟩
  ·obtain ⟨c,e⟩:=Jn4 k;refine .inr ⟨.inl k,c,e,?_⟩;have q:=x.cell y c e;rw [Jq1 ndP hp hu (by show scope.names.lookup y≠_;rw [k];decide)] at q;exact q
 ·exact .inl (e0.hok.fresh (ybj (x.above y c (PySem.mem_of_lookup h))))
 ·unfold start;show _=N.length;rw [yx,yf,yci];omega
theorem Sjy {K} {kV oc}
  (lk:K.lookup f=some ⟨oc,od,.func (PySem.W.fnOf name qual params body scope dV kV doc pm an cdv ct),osl⟩) (hcd:PySem.W.codeIn K cdv qual=true) (S:Jjp N ps scope)
  (len:∀vs H Q E,sp vs H Q E->vs.length=ps.length)
  (hbody:∀A outer s H vs Q E,Sai k (A.deeper (envOfC qual scope s.heap.objs.size f cdv))->sp vs H Q E->
   ∃t,PSs (Ju2 CX P w K mg base N qual scope f cdv A outer s H E) body t/\t {nx:=λ_ H'=>Q .non H',rt:=Q} (start N vs) H):
  Sr P w K mg base CX (k+1) f (PySem.W.fnOf name qual params body scope dV kV doc pm an cdv ct) ps sp:=by
 refine ⟨len,λA outer s H args us vs Q E hr e0 hb r hsp=>?_⟩;have KX:=e0.mod.kin.keeps λb o e=>(e0.bs b o e).1;have hkind:∀y∈ps.zip us,scope.names.lookup y.1=some .local\/(scope.names.lookup y.1=some .cell/\((cellsFrom (s.heap.objs.size+1) scope.names []).lookup y.1).isSome=true):=λ⟨n,v⟩ hy=>by
  rcases S.par n (yby hy).1 with q|q
  ·exact .inl q
  ·exact .inr ⟨q,PySem.W.cellsFrom_some _ _ _ (.inl q)⟩
 refine codeAny_call_function hr.depth (KX _ _ lk) rfl S.co S.gen rfl (PySem.W.codeRec_of KX hcd) (hb _ _ _ _ (wpAny_newFunctionEnv_cells S.kind hkind λenv he s1 x=>?_));subst he;refine ⟨(e0.mod.nolimit.keeps λb o e=>(e0.bs b o e).1).keeps x.toInCall.keep,codeAny_func ?_⟩;obtain ⟨t,ht,hq⟩:=hbody A outer s H vs Q E (hr.deeper _) hsp;have I:Sm (Ju2 CX P w K mg base N qual scope f cdv A outer s H E) [] (start N vs) H s1:=Jtd S hr.hd e0 (len _ _ _ _ hsp) r x;refine wpAny_mono (ht [] s1 (start N vs) H _ I hq) (λfl s' hs=>?_) λe s' hs=>hs;have fin:∀{σ':St} {H':Hp} {v:V} {u:S2},Sm (Ju2 CX P w K mg base N qual scope f cdv A outer s H E) [] σ' H' s'->Su v u->Q v H'->CE outer P w H s Q u s':=
  λ{σ' H' v u} J rv q=>⟨v,H',J.os,J.bare,J.base,J.hok,rv,q⟩
 cases fl with
 |ret u=>
  obtain ⟨v,σ',H',J,rv,q⟩:=hs;exact fin J rv q
 |next=>
  obtain ⟨σ',H',J,q⟩:=hs;exact fin (v:=V.non) J rfl q
 |brk=>
  obtain ⟨_,_,_,q⟩:=hs;exact False.elim q
 |cont=>
  obtain ⟨_,_,_,q⟩:=hs;exact False.elim q
section
variable {X:Cx} {x:Str} {p pos:Pos} {e:Expr} {es:List Expr} {t:TA} {id T:String} {r:List V->Hp->VK->Prop}
noncomputable def tCB (r:List V->Hp->VK->Prop) (t:TA):TE:=λσ H Q=>t σ H λvs H1=>r vs H1 Q
theorem Jjn (hc:Jla X (.builtin id) r) (hg:Gl X x) (hm:X.mg x=none) (hv:bootBuiltins x=some (.builtin id)) (ha:PA X (e::es) t) (hn:x≠"__name__" :=by decide) (hdb:(x==("__debug__" :Str))=false:=by decide)
  (he:starEach (e::es) X.env=(false,eval e X.env)::starEach es X.env:=by rfl) (hpl:(backTo pos (starEach es X.env)).any (·.1)=false:=by rfl):PE X (.Call (.Name x p) (e::es) [] pos) (tCB r t):=by
 intro pins s σ H Q I h;exact wpAny_Call_Name_kw (Jny I hg hm hv (PyProof.Rows.callWith_builtin1 (thn (ha pos pins s σ H _ I h) λus s1 ⟨vs,H1,I1,r1,q1⟩=>hc pins s1 σ H1 vs us Q I1 r1 q1) he hpl) hn hdb)
theorem Jkk (hc:Jla X (.type T) r) (hg:Gl X x) (hm:X.mg x=none) (hv:bootBuiltins x=some (.type T)) (ha:PA X (e::es) t) (hn:x≠"__name__" :=by decide) (hdb:(x==("__debug__" :Str))=false:=by decide)
  (he:starEach (e::es) X.env=(false,eval e X.env)::starEach es X.env:=by rfl) (hpl:(backTo pos (starEach es X.env)).any (·.1)=false:=by rfl):PE X (.Call (.Name x p) (e::es) [] pos) (tCB r t):=by
 intro pins s σ H Q I h;exact wpAny_Call_Name_kw (Jny I hg hm hv (PyProof.Rows.callWith_type1 (thn (ha pos pins s σ H _ I h) λus s1 ⟨vs,H1,I1,r1,q1⟩=>hc pins s1 σ H1 vs us Q I1 r1 q1) he hpl) hn hdb)
end
end L2
namespace HT
open PySem PyProof.Rows
section
open PySem.SeqAt
open PySem.AutoSeq1 (wpAny_loadPart')
open PySem.MeetsSeq PySem.MeetsSeq2 PySem.MeetsSeq3
end
section
variable {prog:S7} {w:S9} {A:Sa} {E:S2->S3->Prop} {s:S3}
theorem cat_tup (ht:IsTup s.heap t vs.toArray) (hb:IsTup s.heap b ws.toArray) (hv:vs≠ [])
  (h1:ws= []->Q (.ref t) s) (h2:ws≠ []->Q (.ref s.heap.objs.size) {s with heap:=s.heap.push {cls:=.type "tuple",data:=.seq (vs++ws).toArray}})
  (hsz:vs.length+ws.length<=S6):Sc (model prog w) A (binaryOp .Add (.ref t) (.ref b)) Q E s:=by
 obtain ⟨⟨cls,dd,data,sl⟩,ho,hc,n,hd⟩:=id ht;obtain ⟨⟨cls2,dd2,data2,sl2⟩,ho2,hc2,n2,hd2⟩:=id hb;subst hc hd hc2 hd2;have e:vs.toArray++ws.toArray=(vs++ws).toArray:=by simp
 by_cases hw:ws= []
 ·exact concat_meets ⟨_,ho,rfl⟩ ⟨_,ho2,rfl⟩ noFill_tuple_add seq_tuple_add PySem.F.slot_tuple_add PySem.F.entry_tuple_add (PySem.F.args_tuple_add_2 _ _)
   (tuple_addW1 t b vs.toArray ws.toArray n n2 dd dd2 sl sl2 (by simpa using hv) (by simp [hw])) ⟨ho,ho2,h1 hw⟩
 ·refine concat_meets ⟨_,ho,rfl⟩ ⟨_,ho2,rfl⟩ noFill_tuple_add seq_tuple_add PySem.F.slot_tuple_add PySem.F.entry_tuple_add (PySem.F.args_tuple_add_2 _ _)
   (tuple_addW2 t b vs.toArray ws.toArray n n2 dd dd2 sl sl2 (by simpa using hv) (by simpa using hw) (by rw [yp];exact hsz)) ⟨ho,ho2,?_⟩
  rw [e];exact h2 hw
noncomputable def sIx (n d:Nat):Option Int->Nat
 |none=>d
 |some v=>if v < 0 then (v+(n:Int)).toNat else min v.toNat n
theorem sIx_none (n d):sIx n d none=d:=rfl
theorem sIx_nat (n d k:Nat):sIx n d (some k)=min k n:=rfl
theorem Jxn (v:Int) (n d:Nat):(if v < 0 then max (v+n) 0 else min v n)=((sIx n d (some v):Nat):Int):=by
 show (if v < 0 then max (v+n) 0 else min v n)=(if v < 0 then (v+n).toNat else min v.toNat n);by_cases hv:v < 0
 ·simp only [if_pos hv];lia
 ·simp only [if_neg hv];lia
theorem Jwe (lo hi) (n:Nat):Builtin.Slice.sliceAdjust lo hi 1 (n)=(((sIx n 0 lo:Nat):Int),(sIx n n hi:Int)):=by
 refine Prod.ext ?_ ?_
 ·cases lo with
  |none=>rfl
  |some v=>exact Jxn v n 0
 ·cases hi with
  |none=>rfl
  |some v=>exact Jxn v n n
theorem Jx5 (i j:Nat):Builtin.Slice.slicePlaces (i) (j) 1=j - i:=by
 unfold Builtin.Slice.slicePlaces;split <;> lia
theorem Jsh (p:IsPart v o) (h:Q o s):Sc (model prog w) A (Builtin.Slice.slicePartIndex v) Q E s:=by
 cases p with
 |none=>exact slicePart_none h
 |int i t=>exact slicePart_int h
theorem Jqo {lo hi} {n:Nat} {Q} (hs:s.heap.IsSliceOf sl vl vu .none) (pl:IsPart vl lo) (pu:IsPart vu hi)
  (h:Q (((sIx n 0 lo:Nat):Int),1,sIx n n hi - sIx n 0 lo) s):Sc (model prog w) A (Builtin.Slice.sliceApplied (.ref sl) (pure n)) Q E s:=by
 obtain ⟨os,hos,hcs,hds⟩:=id hs;refine S4 (S4 (wpAny_field hos hds rfl (S4 (wpAny_field hos hds rfl (S4 (wpAny_field hos hds rfl (S5 (S4 (slicePart_none (S4 (Jsh pl (S4 (Jsh pu (S4 (S5 ?_)))))))))))))));show Sc _ _ (match Builtin.Slice.sliceAdjust lo hi 1 n with|(lo,hi)=>pure (lo,(1:Int),Builtin.Slice.slicePlaces lo hi 1)) _ _ s;rw [Jwe lo hi n];show Sc _ _ (pure ((sIx n 0 lo:Int),1,Builtin.Slice.slicePlaces (sIx n 0 lo) (sIx n n hi) 1)) _ _ s;rw [Jx5];exact S5 h
theorem Yw (xs:Array S2) (i k:Nat):((yay k).filterMap λ(m:Nat)=>xs[((i:Int)+m*1).toNat]?).toArray=((xs.toList.drop i).take k).toArray:=by
 have e:(λ(m:Nat)=>xs[((i:Int)+m*1).toNat]?)=λm=>xs[i+m]?:=by
  funext m;have:((i:Int)+m*1).toNat=i+m:=by lia
  rw [this]
 rw [e];have:=pick_run xs i k;rw [List.filterMap_map] at this;have e2:((λx=>xs[x]?)∘λx=>i+x)=λm=>xs[i+m]?:=rfl;rw [e2] at this;rw [this]
theorem getItem_tuple_cut {items} {vl vu} {lo hi} {Q} (ht:IsTup s.heap t items) (hs:s.heap.IsSliceOf sl vl vu .none) (pl:IsPart vl lo) (pu:IsPart vu hi)
  (hw:¬(sIx items.size 0 lo=0/\sIx items.size items.size hi=items.size))
  (h:Q (.ref s.heap.objs.size) {s with heap:=s.heap.push {cls:=.type "tuple",data:=.seq ((items.toList.drop (sIx items.size 0 lo)).take (sIx items.size items.size hi - sIx items.size 0 lo)).toArray}})
  (hsz:items.size<=S6):Sc (model prog w) A (getItem (.ref t) (.ref sl)) Q E s:=by
 have htake:=by
  show ((items.toList.drop (sIx items.size 0 lo)).take (sIx items.size items.size hi - sIx items.size 0 lo)).toArray.size<=S6;rw [yp,yaf,ycj,ybx]
  lia
 obtain ⟨os,hos,hcs,hds⟩:=id hs;have hTs:s.TypeIs (.ref sl) "slice" :=⟨os,hos,hcs⟩;unfold getItem
 try with_reducible refine wpAny_holding ?_
 refine S4 (wpAny_sequenceKey ht.typeIs (by decide) (S4 (wpAny_callSpecial?_slot ht.typeIs PyProof.Rows.slot_tuple_getitem
  (wpAny_call_entry PyProof.Rows.slot_tuple_getitem ht.typeIs entry_tuple_getitem ?_ (args_tuple_getitem _ _)))))
 show Sc _ _ (Builtin.Tuple.tupleItemsOf (.ref t) >>=_) _ _ s;refine S4 (tupleItemsOf_ ht (S4 (wpAny_typeOf hTs (S4 (Jqo hs pl pu ?_)))));have hno:¬(((sIx items.size 0 lo:Int)==0&&(1:Int)==1&&(sIx items.size items.size hi - sIx items.size 0 lo)==items.size)=true):=by
  intro q;rw [yag,yag] at q;have q1:=eq_of_beq q.1.1;have q2:=eq_of_beq q.2;exact hw ⟨by lia,by lia⟩
 show Sc _ _ (if ((sIx items.size 0 lo:Int)==0&&1==1&&(sIx items.size items.size hi - sIx items.size 0 lo)==items.size)=true then _ else _) _ _ s;rw [if_neg hno,Yw]
 first
  |exact S4 (wpAny_newObj_type (S5 ⟨_,rfl,S5 h⟩) htake)
  |exact S4 (wpAny_newObj_type (S4 (S5 (S5 ⟨_,rfl,S5 h⟩))) htake)
  |exact S4 (S4 (wpAny_newObj_type (S5 (S5 ⟨_,rfl,S5 h⟩)) htake))
  |exact S4 (S4 (wpAny_newObj_type (S5 ⟨_,rfl,S5 h⟩) htake))
end
end HT
namespace L2
open PySem PySem.Spec PyProof.Rows
noncomputable abbrev TO:=St->Hp->(Option Int->Hp->Prop)->Prop
noncomputable def PO (X:Cx) (e:Option Expr) (t:TO):Prop:=
 ∀(pins:List (S1×Obj)) (s:S3) (σ:St) (H:Hp) (Q:Option Int->Hp->Prop),Sm X pins σ H s->t σ H Q->
  Sc (model X.prog X.w) X.A (evalPart e X.env) (λu s'=>∃o H',Sm X pins σ H' s'/\IsPart u o/\Q o H') X.xe s
noncomputable def Ycw:TO:=λ_ H Q=>Q none H
inductive Ycx (Q:(Option Int->Hp->Prop)) (x:V) (H1:Hp):Prop where
 |mk (i:_) (_:x= .int i) (_:Q (some i) H1)
noncomputable def Squ (t:TE):TO:=λσ H Q=>t σ H (Ycx Q)
section
variable {X:Cx} {e:Expr} {te:TE} {lo hi:Option Expr} {tl th:TO} {pos p2:Pos}
theorem Jne:PO X none Ycw:=by
 intro pins s σ H Q I h;exact S5 ⟨none,H,I,.none,h⟩
theorem Jnf (h:PE X e te):PO X (some e) (Squ te):=by
 intro pins s σ H Q I hw;refine thn (h pins s σ H _ I hw) λu s1 zq=>?_;obtain ⟨x,H1,I1,r1,q1⟩:=zq;obtain ⟨i,rfl,q⟩:=q1;obtain ⟨t,rfl⟩:=r1;exact ⟨some i,H1,I1,.int i t,q⟩
noncomputable def SlR (X:Cx) (r:V->Option Int->Option Int->Hp->VK->Prop):Prop:=
 ∀(pins:List (S1×Obj)) (s:S3) (σ:St) (H:Hp) (x:V) (v vl vu:S2) (lo hi:Option Int) (sl:S1) (Q:VK),Sm X pins σ H s->Su x v->s.heap.IsSliceOf sl vl vu .none->IsPart vl lo->IsPart vu hi->r x lo hi H Q->
  ∃T id,typeLookup (.type T) "__getitem__" =pure (some (.builtin id))/\s.TypeIs v T/\Sc (model X.prog X.w) X.A (getItem v (.ref sl)) (EP X pins σ Q) X.xe s
noncomputable def tSl (r:V->Option Int->Option Int->Hp->VK->Prop) (te:TE) (tl th:TO):TE:=λσ H Q=>te σ H λx H1=>tl σ H1 λl H2=>th σ H2 λu H3=>r x l u H3 Q
theorem Jmr (hr:SlR X r) (he:PE X e te) (hl:PO X lo tl) (hu:PO X hi th):PE X (.Subscript e (.Slice lo hi none p2) pos) (tSl r te tl th):=by
 intro pins s σ H Q I h;refine Subscript_ (thn (he pins s σ H _ I h) λv s1 ⟨x,H1,I1,r1,q1⟩=>wpAny_Slice (thn (hl pins s1 σ H1 _ I1 q1) λvl s2 ⟨l,H2,I2,pl,q2⟩=>thn (hu pins s2 σ H2 _ I2 q2) λvu s3 ⟨u,H3,I3,pu,q3⟩=>S5 ?_));have I4:Sm X pins σ H3 {s3 with heap:=s3.heap.push {cls:=.type "slice",data:=.fields #[vl,vu,.none]}}:=I3.kept λb ob q=>yh _ q;obtain ⟨T,id,hT,ht,hg⟩:=hr pins {s3 with heap:=s3.heap.push {cls:=.type "slice",data:=.fields #[vl,vu,.none]}} σ H3 x v vl vu l u s3.heap.objs.size Q I4 r1 (Heap.IsSliceOf.new ..) pl pu q3;exact tail_any ht hT hg (by with_unfolding_all rfl)
noncomputable def Jon (xs:List V) (lo hi:Option Int):List V:=(xs.drop (HT.sIx xs.length 0 lo)).take (HT.sIx xs.length xs.length hi - HT.sIx xs.length 0 lo)
theorem Jlo (xs) (lo hi):(Jon xs lo hi).length<=xs.length:=by
 unfold Jon;rw [yaf,ycj]
 lia
inductive Svd (K:Sd) (x:V) (lo:Option Int) (hi:Option Int) (H:Hp) (Q:VK):Prop where
 |mk (a:_) (xs:_) (_:x= .ref a) (_:SqT K H a xs) (_:¬(HT.sIx xs.length 0 lo=0/\HT.sIx xs.length xs.length hi=xs.length)) (_:∀p,H p=none->Q (.ref p) (upd H p (.tup (Jon xs lo hi))))
theorem Smk:SlR X (Svd X.K):=by
 intro pins s σ H x v vl vu lo hi sl Q I rx hs pl pu h;obtain ⟨a,xs,rfl,hx,hw,q⟩:=h;cases rx;obtain ⟨its,r,ht,hz⟩:=I.tuple hx;have hlen:its.toArray.size=xs.length:=by rw [yp];exact r.length.symm
 refine ⟨"tuple",_,PyProof.Rows.slot_tuple_getitem.lookup,ht.typeIs,HT.getItem_tuple_cut ht hs pl pu (by rw [hlen];exact hw) ?_ (by rw [hlen];exact hz)⟩;rw [hlen];refine ⟨.ref s.heap.objs.size,_,I.laid (λb ob q=>yh _ q) (yg _) ?_,rfl,q _ (I.hok.fresh (yg _))⟩;exact ⟨yae (Jlo xs lo hi) hz,_,(r.drop (HT.sIx xs.length 0 lo)).take (HT.sIx xs.length xs.length hi - HT.sIx xs.length 0 lo),IsTup.new _ _⟩
inductive Spu (K:Sd) (x:V) (y:V) (H:Hp) (Q:VK):Prop where
 |mk (a:_) (b:_) (xs:_) (ys:_) (_:x= .ref a) (_:y= .ref b) (_:SqT K H a xs) (_:SqT K H b ys) (_:xs≠ []) (_:xs.length+ys.length<=S6) (_:(ys= []->Q (.ref a) H)) (_:(ys≠ []->∀p,H p=none->Q (.ref p) (upd H p (.tup (xs++ys)))))
theorem Sv.nil_iff (r:Sv xs us):us= []↔xs= []:=by
 cases r with
 |nil=>simp
 |cons _ _=>simp
theorem Ybz:OpR X (binaryOp .Add) (Spu X.K):=by
 rintro pins s σ H x y v u Q I rx ry ⟨a,b,xs,ys,rfl,rfl,ha,hb,hx,hz,q1,q2⟩;cases rx;cases ry;obtain ⟨its,r1,p1,_⟩:=I.tuple ha;obtain ⟨its2,r2,p2,_⟩:=I.tuple hb;refine HT.cat_tup p1 p2 (λz=>hx (r1.nil_iff.mp z)) (λz=>⟨.ref a,H,I,rfl,q1 (r2.nil_iff.mp z)⟩) (λz=>⟨.ref s.heap.objs.size,_,I.laid (λb ob q=>yh _ q) (yg _) ?_,rfl,q2 (λw=>z (r2.nil_iff.mpr w)) _ (I.hok.fresh (yg _))⟩) (by rw [<-r1.length,<-r2.length];exact hz);exact ⟨by rw [yx];exact hz,_,r1.append r2,IsTup.new _ _⟩
end
noncomputable def ixN (n:Nat) (i:Int):Option Nat:=if 0<=i then (if i < n then some i.toNat else none) else if -(n:Int)<=i then some (i+n).toNat else none
noncomputable def atI {α:Type} (xs:List α) (i:Int):Option α:=(ixN xs.length i).bind λj=>xs[j]?
theorem Jxv (h:ixN n i=some j):seqIndex? i n=some j/\j < n/\ -(n)<=i/\i < n:=by
 unfold ixN at h;by_cases h0:0<=i
 ·rw [if_pos h0] at h;by_cases h1:i < n
  ·rw [if_pos h1] at h;have e:=yah.inj h;exact ⟨by rw [seqIndex_of h0 h1,e],by lia,by lia,h1⟩
  ·rw [if_neg h1] at h;cases h
 ·rw [if_neg h0] at h;by_cases h1: -n<=i
  ·rw [if_pos h1] at h;have e:=yah.inj h;exact ⟨by rw [seqIndex_neg (by lia) h1,e],by lia,h1,by lia⟩
  ·rw [if_neg h1] at h;cases h
theorem Jtx (h:atI xs i=some v):∃j,seqIndex? i xs.length=some j/\xs[j]?=some v/\j < xs.length/\ -(xs.length:Int)<=i/\i < xs.length:=by
 unfold atI at h;cases e:ixN xs.length i with
 |none=>rw [e] at h;cases h
 |some j=>
  rw [e] at h;obtain ⟨h1,h2,h3,h4⟩:=Jxv e;exact ⟨j,h1,h,h2,h3,h4⟩
theorem Jpf {j:Nat} (h:xs[j]?=some v):atI xs (j)=some v:=by
 have hj:=(yk.mp h).1;have e:ixN xs.length j=some j:=by
  unfold ixN;rw [if_pos (by lia),if_pos (by lia)];simp
 unfold atI;rw [e];exact h
noncomputable def Yba (b:Expr):Prop:=∀o i,subscripted b false o i=operate [o,i] (getItem o i)
noncomputable def IxR (X:Cx) (r:R2):Prop:=
 ∀(value slice:Expr) (pins:List (S1×Obj)) (s:S3) (σ:St) (H:Hp) (x y:V) (v u:S2) (Q:VK),Sm X pins σ H s->Su x v->Su y u->r x y H Q->
  subscripted slice false v u=operate [v,u] (getItem v u)->Sc (model X.prog X.w) X.A (subscriptTail value slice v u) (EP X pins σ Q) X.xe s
noncomputable def MtR (X:Cx) (id:String) (r:V->List V->Hp->VK->Prop):Prop:=
 ∀(pins:List (S1×Obj)) (s:S3) (σ:St) (H:Hp) (x:V) (xs:List V) (v:S2) (us:List S2) (Q:VK),Sm X pins σ H s->Su x v->Sv xs us->r x xs H Q->
  Sc (model X.prog X.w) X.A (call (.builtin id) (v::us)) (EP X pins σ Q) X.xe s
section
variable {X:Cx} {a b:Expr} {ta tb:TE} {pos:Pos}
theorem Jjx (hr:IxR X r) (ha:PE X a ta) (hb:PE X b tb) (hs:Yba b):PE X (.Subscript a b pos) (tOp r ta tb):=by
 intro pins s σ H Q I h;exact Subscript_ (Sl9 ha hb I h λv u s2 x y H2 I2 rx ry q=>hr a b pins s2 σ H2 x y v u Q I2 rx ry q (hs _ _))
inductive Sv7 (K:Sd) (x:V) (y:V) (H:Hp) (Q:VK):Prop where
 |mk (p:_) (xs:_) (i:_) (v:_) (_:x= .ref p) (_:y= .int i) (_:Ss K H p xs) (_:atI xs i=some v) (_:Q v H)
inductive Spx (K:Sd) (x:V) (y:V) (H:Hp) (Q:VK):Prop where
 |mk (p:_) (xs:_) (i:_) (v:_) (_:x= .ref p) (_:y= .int i) (_:SqT K H p xs) (_:atI xs i=some v) (_:Q v H)
inductive Sv8 (x:V) (y:V) (H:Hp) (Q:VK):Prop where
 |mk (z:_) (i:_) (c:_) (_:x= .str z) (_:y= .int i) (_:z.length<=S6) (_:atI z.cps.toList i=some c) (_:Q (.str ⟨#[c]⟩) H)
theorem Jkg:IxR X (Sv7 X.K):=by
 rintro value slice pins s σ H x y v u Q I rx ry ⟨p,xs,i,z,rfl,rfl,hq,he,q⟩ hs;cases rx;obtain ⟨t,rfl⟩:=ry;obtain ⟨its,r,pl,hz⟩:=I.list hq;obtain ⟨j,h1,h2,h3,h4,h5⟩:=Jtx he;obtain ⟨w,ew,rw'⟩:=r.get h2;have hl:=r.length;have hn:=Jq8;have fin:EP X pins σ Q w s:=⟨z,H,I,rw',q⟩;by_cases h0:0<=i
 ·have hj:=by
   rw [seqIndex_of h0 h5] at h1;exact yah.inj h1
  exact item_listR pl.isList h0 (by lia) (by rw [hj];simpa using ew) fin hs
 ·have hj:(i+its.toArray.size).toNat=j:=by
   rw [seqIndex_neg (by lia) h4] at h1;rw [yp,<-hl];exact yah.inj h1
  exact subscriptTail_builtinR pl.isList.typeIs slot_list_getitem.lookup
   (wpAny_getItem_list_neg pl.isList (by lia) (by rw [yp] <;> lia) (by lia) (by rw [hj];simpa using ew) ⟨rfl,fin⟩) hs
theorem Jka:IxR X (Spx X.K):=by
 rintro value slice pins s σ H x y v u Q I rx ry ⟨p,xs,i,z,rfl,rfl,hq,he,q⟩ hs;cases rx;obtain ⟨t,rfl⟩:=ry;obtain ⟨its,r,pl,hz⟩:=I.tuple hq;obtain ⟨j,h1,h2,h3,h4,h5⟩:=Jtx he;obtain ⟨w,ew,rw'⟩:=r.get h2;have hn:=Jq8;have fin:EP X pins σ Q w s:=⟨z,H,I,rw',q⟩;exact subscriptTail_builtinR pl.typeIs slot_tuple_getitem.lookup
  (getItem_tuple pl (by lia) (by lia) (by rw [yp,<-r.length];exact h1) (by simpa using ew) ⟨rfl,fin⟩) hs
theorem Yf:IxR X Sv8:=by
 rintro value slice pins s σ H x y v u Q I rx ry ⟨z,i,c,rfl,rfl,hz,he,q⟩ hs;obtain ⟨t,rfl⟩:=rx;obtain ⟨t',rfl⟩:=ry;obtain ⟨j,h1,h2,h3,h4,h5⟩:=Jtx he;have hl:z.cps.toList.length=z.length:=by simp [Str.length]
 rw [hl] at h1 h4 h5;have hn:=Jq8;exact tail_any (typeIs_str s z t) slot_str_getitem.lookup (getItem_str (by
  have e1:decide (i < -2^63)=false:=decide_eq_false (by lia);have e2:decide (i≥2^63)=false:=decide_eq_false (by lia);rw [e1,e2,Bool.or_false]) (by rw [h1];simpa using h2) ⟨.str ⟨#[c]⟩,H,I.tok _,⟨_,rfl⟩,q⟩) hs
theorem Jwv (its:List S2) (n j) (u):Obj.mapSeq (·.setIfInBounds j u) {cls:=.type "list",data:=.seq its.toArray n}={cls:=.type "list",data:=.seq (its.set j u).toArray n}:=by
 simp [Obj.mapSeq]
theorem Sm.lst (I:Sm X pins σ H s) (h:H p=some (.lst xs)):
  ∃(its:List S2) (n:Nat),Sv xs its/\s.heap.get? p=some {cls:=.type "list",data:=.seq its.toArray n}/\xs.length<=S6:=by
 obtain ⟨z,its,n,r,e⟩:=I.hok p _ h;exact ⟨its,n,r,e,z⟩
theorem Sm.lstUpd {σ:St} {H} {s} {p} {xs ys} {its its':List S2} {n n'} {f} (I:Sm X pins σ H s) (h:H p=some (.lst xs))
  (ho:s.heap.get? p=some {cls:=.type "list",data:=.seq its.toArray n}) (hf:f {cls:=.type "list",data:=.seq its.toArray n}={cls:=.type "list",data:=.seq its'.toArray n'}) (r:Sv ys its') (hz:ys.length<=S6) (t):
  Sm X pins σ (upd H p (.lst ys)) {s with heap:=s.heap.update p f,toks:=t}:=by
 have e:(s.heap.update p f).get? p=some {cls:=.type "list",data:=.seq its'.toArray n'}:=by
  rw [ybc f ho (by rw [hf] <;> rfl),hf]
 refine I.write (by rw [h];trivial) (.inl rfl) (λb u hb q=>(ybl _ _ (yu hb)).trans q) ⟨_,e⟩ ?_;exact ⟨hz,its',n',r,e⟩
inductive Sq0 (o:V) (i:V) (v:V) (H:Hp) (Q:(Hp->Prop)):Prop where
 |mk (p:_) (xs:_) (k:_) (j:_) (_:o= .ref p) (_:i= .int k) (_:H p=some (.lst xs)) (_:ixN xs.length k=some j) (_:Q (upd H p (.lst (xs.set j v))))
theorem Jsg:Sp7 X Sq0:=by
 rintro pins s σ H o i v ov iv u Q I ro ri rv ⟨p,xs,k,j,rfl,rfl,hp,hj,q⟩;cases ro;obtain ⟨t,rfl⟩:=ri;obtain ⟨its,n,r,ho,hz⟩:=I.lst hp;obtain ⟨h1,h2,h3,h4⟩:=Jxv hj;have hl:=r.length;have hn:=Jq8;have I':=
  I.lstUpd hp ho (Jwv its n j u) (r.set rv j) (by rw [ybt];exact hz) s.toks
 by_cases h0:0<=k
 ·have hk:=by
   rw [seqIndex_of h0 h4] at h1;exact yah.inj h1
  exact PySem.W.ki_setAt ho h0 (by lia) (by rw [yp,<-hl];exact h4) (by rw [hk];exact ⟨_,I',q⟩)
 ·have hk:(k+its.toArray.size).toNat=j:=by
   rw [seqIndex_neg (by lia) h3] at h1;rw [yp,<-hl];exact yah.inj h1
  exact PySem.W.ki_setBack ho (by lia) (by rw [yp,<-hl];exact h3) (by lia) (by rw [hk];exact ⟨_,I',q⟩)
theorem Juw (lo hi) (n):(sliceBounds lo hi none n).1=((HT.sIx n 0 lo:Nat):Int)/\(sliceBounds lo hi none n).2.1=((HT.sIx n n hi:Nat):Int)/\(sliceBounds lo hi none n).2.2=1:=by
 refine ⟨?_,?_,rfl⟩
 ·cases lo with
  |none=>simp [sliceBounds,HT.sIx]
  |some i=>
   simp only [sliceBounds,HT.sIx,Option.getD_none,show (1:Int) > 0 by decide,if_true];by_cases h:i < 0
   ·simp only [h,if_true] <;> lia
   ·simp only [h,if_false] <;> lia
 ·cases hi with
  |none=>simp [sliceBounds,HT.sIx]
  |some i=>
   simp only [sliceBounds,HT.sIx,Option.getD_none,show (1:Int) > 0 by decide,if_true];by_cases h:i < 0
   ·simp only [h,if_true] <;> lia
   ·simp only [h,if_false] <;> lia
theorem Jt2 (its:List S2) (lo hi):slicePick its.toArray lo hi none=((its.drop (HT.sIx its.length 0 lo)).take (HT.sIx its.length its.length hi - HT.sIx its.length 0 lo)).toArray:=by
 obtain ⟨h1,h2,h3⟩:=Juw lo hi its.toArray.size;unfold slicePick;rw [h1,h2,h3];simp only [sliceRange_one,pick_run] <;> rfl
inductive Sq1 (K:Sd) (x:V) (lo:Option Int) (hi:Option Int) (H:Hp) (Q:VK):Prop where
 |mk (a:_) (xs:_) (_:x= .ref a) (_:Ss K H a xs) (_:∀p,H p=none->Q (.ref p) (upd H p (.lst (Jon xs lo hi))))
theorem Juu:SlR X (Sq1 X.K):=by
 intro pins s σ H x v vl vu lo hi sl Q I rx hs pl pu h;obtain ⟨a,xs,rfl,hx,q⟩:=h;cases rx;obtain ⟨its,r,ht,hz⟩:=I.list hx;have hlen:=r.length;refine ⟨"list",_,slot_list_getitem.lookup,ht.isList.typeIs,wpAny_getItem_list_slice ht.isList hs pl pu .none (by simp) ?_ (by rw [yp] <;> lia)⟩;rw [Jt2,<-hlen];refine ⟨.ref s.heap.objs.size,_,I.laid (λb ob q=>yh _ q) (yg _) ?_,rfl,q _ (I.hok.fresh (yg _))⟩;exact ⟨yae (Jlo xs lo hi) hz,_,0,(r.drop (HT.sIx xs.length 0 lo)).take (HT.sIx xs.length xs.length hi - HT.sIx xs.length 0 lo),yn _ rfl⟩
noncomputable def Jlx:V->Bool
 | .non=>true
 | .bl _=>true
 | .int _=>true
 | .str _=>true
 |_=>false
noncomputable def eqV:V->V->Bool
 | .non,.non=>true
 | .bl a,.bl b=>a==b
 | .bl a,.int b=>(if a then 1 else 0)==b
 | .int a,.bl b=>a==(if b then 1 else 0)
 | .int a,.int b=>a==b
 | .str a,.str b=>a==b
 |_,_=>false
theorem Y7 (ry:Su y u) (rx:Su x v) (fy:Jlx y=true) (fx:Jlx x=true):SeqAt.EqAt A s u v (eqV y x):=by
 cases y with
 |non=>
  cases ry;cases x with
  |non=>cases rx;exact SeqAt.EqAt.same _
  |bl b=>cases rx;exact SeqAt.EqAt.none_bool b
  |int b=>obtain ⟨t,rfl⟩:=rx;exact SeqAt.EqAt.none_int b t
  |str b=>obtain ⟨t,rfl⟩:=rx;exact SeqAt.EqAt.none_str b t
  |_=>exact absurd (fx) yai
 |bl a=>
  cases ry;cases x with
  |non=>cases rx;exact SeqAt.EqAt.bool_none a
  |bl b=>cases rx;exact SeqAt.EqAt.bool_bool a b
  |int b=>obtain ⟨t,rfl⟩:=rx;exact SeqAt.EqAt.bool_int a b t
  |str b=>obtain ⟨t,rfl⟩:=rx;exact SeqAt.EqAt.bool_str a b t
  |_=>exact absurd (fx) yai
 |int a=>
  obtain ⟨t',rfl⟩:=ry;cases x with
  |non=>cases rx;exact SeqAt.EqAt.int_none a t'
  |bl b=>cases rx;exact SeqAt.EqAt.int_bool a t' b
  |int b=>obtain ⟨t,rfl⟩:=rx;exact SeqAt.EqAt.int_int a t' b t
  |str b=>obtain ⟨t,rfl⟩:=rx;exact SeqAt.EqAt.int_str a t' b t
  |_=>exact absurd (fx) yai
 |str a=>
  obtain ⟨t',rfl⟩:=ry;cases x with
  |non=>cases rx;exact SeqAt.EqAt.str_none a t'
  |bl b=>cases rx;exact SeqAt.EqAt.str_bool a t' b
  |int b=>obtain ⟨t,rfl⟩:=rx;exact SeqAt.EqAt.str_int a t' b t
  |str b=>obtain ⟨t,rfl⟩:=rx;exact SeqAt.EqAt.str_str a t' b t
  |_=>exact absurd (fx) yai
 |_=>exact absurd (fy) yai
noncomputable def eqU (x:V) (u:S2):Bool:=match u with
 | .none=>eqV .non x
 | .bool b=>eqV (.bl b) x
 | .int i _=>eqV (.int i) x
 | .str z _=>eqV (.str z) x
 |_=>false
theorem Y8 (r:Su y u) (f:Jlx y=true):eqU x u=eqV y x:=by
 cases y with
 |non=>cases r;rfl
 |bl b=>cases r;rfl
 |int i=>obtain ⟨t,rfl⟩:=r;rfl
 |str z=>obtain ⟨t,rfl⟩:=r;rfl
 |_=>exact absurd (f) yai
theorem Jtw {x:V}:∀{xs:List V} {us:List S2},Sv xs us->xs.all Jlx=true->us.any (eqU x)=xs.any λy=>eqV y x
 |_,_,.nil,_=>rfl
 |y::xs,u::us,.cons r t,f=>by
  rw [List.all_cons,yag] at f;rw [List.any_cons,List.any_cons,Y8 r f.1,Jtw t f.2]
theorem Jry {A:Sa} {s:S3} {x:V} {v:S2} (rx:Su x v) (fx:Jlx x=true):∀{xs:List V} {us:List S2},Sv xs us->xs.all Jlx=true->∀u∈us,SeqAt.EqAt A s u v (eqU x u)
 |_,_,.nil,_=>λu hu=>by cases hu
 |y::xs,u::us,.cons r t,f=>λu' hu=>by
  rw [List.all_cons,yag] at f;rcases yr.mp hu with rfl|hu
  ·rw [Y8 r f.1];exact Y7 r rx f.1 fx
  ·exact Jry rx fx t f.2 u' hu
noncomputable def inV (x:V) (xs:List V):Bool:=xs.any λy=>eqV y x
inductive rIn (K:Sd) (neg:Bool) (x:V) (y:V) (H:Hp) (Q:VK):Prop where
 |mk (p:_) (xs:_) (_:y= .ref p) (_:(Ss K H p xs\/SqT K H p xs)) (_:Jlx x=true) (_:xs.all Jlx=true) (_:Q (.bl (if neg then !inV x xs else inV x xs)) H)
theorem Jz2:OpR X (compareOp .In) (rIn X.K false):=by
 rintro pins s σ H x y v u Q I rx ry ⟨p,xs,rfl,hq,fx,fs,q⟩;cases ry;rcases hq with hq|hq
 ·obtain ⟨its,r,pl,hz⟩:=I.list hq;refine SeqAt.in_listAt (eqU x) pl.isList (λw hw=>Jry rx fx r fs w (by simpa using hw)) ⟨.bl _,H,I,rfl,?_⟩;rw [show its.toArray.any (eqU x)=its.any (eqU x) by simp,Jtw r fs];exact q
 ·obtain ⟨its,r,pl,hz⟩:=I.tuple hq;refine SeqAt.in_tupleAt (eqU x) pl (λw hw=>Jry rx fx r fs w (by simpa using hw)) ⟨.bl _,H,I,rfl,?_⟩;rw [show its.toArray.any (eqU x)=its.any (eqU x) by simp,Jtw r fs];exact q
theorem Jjr:Jla X (.builtin "len") (λxs H Q=>∃p ys,xs= [.ref p]/\(Ss X.K H p ys\/SqT X.K H p ys)/\Q (.int ys.length) H):=by
 rintro pins s σ H xs us Q I r ⟨p,ys,rfl,hq,q⟩;obtain ⟨u,rfl,rx⟩:=Jlz r;cases rx;have hn:=Jq8;rcases hq with hq|hq
 ·obtain ⟨its,r',pl,hz⟩:=I.list hq;have hlen:=r'.length;exact Calls.call_len_list pl.isList (by simp only [yp] <;> lia) ⟨.int ys.length,H,I.tok _,⟨s.toks+1,by rw [yp,hlen]⟩,q⟩
 ·obtain ⟨its,r',pl,hz⟩:=I.tuple hq;have hlen:=r'.length;exact len_tuple pl (by simp only [yp] <;> lia) ⟨.int ys.length,H,I.tok _,⟨s.toks+1,by rw [yp,hlen]⟩,q⟩
theorem Ju0:Jla X (.builtin "len") (λxs H Q=>∃z,xs= [.str z]/\z.length<=S6/\Q (.int z.length) H):=by
 rintro pins s σ H xs us Q I r ⟨z,rfl,hz,q⟩;obtain ⟨u,rfl,t,rfl⟩:=Jlz r;have hn:=Jq8;exact len_str (by lia) ⟨.int z.length,H,I.tok _,⟨_,rfl⟩,q⟩
theorem Jmf:Jla X (.type "list") (λxs H Q=>∃p ys,xs= [.ref p]/\(Ss X.K H p ys\/SqT X.K H p ys)/\∀l,H l=none->Q (.ref l) (upd H l (.lst ys))):=by
 rintro pins s σ H xs us Q I r ⟨p,ys,rfl,hq,q⟩;obtain ⟨u,rfl,rx⟩:=Jlz r;cases rx;have fin:∀its,Sv ys its->ys.length<=S6->∀h' c',(∀b o',s.heap.get? b=some o'->h'.get? b=some o')->
   h'.get? s.heap.objs.size=some {cls:=.type "list",dict:=none,data:=.seq its.toArray c',slots:=#[]}->EP X pins σ Q (.ref s.heap.objs.size) {s with heap:=h'}:=λits r' hz h' c' kp e=>
  ⟨.ref s.heap.objs.size,_,I.laid kp (yg _) (show Sac X.prog X.w _ h' _ (.lst ys) from ⟨hz,its,c',r',e⟩),rfl,q _ (I.hok.fresh (yg _))⟩
 rcases hq with hq|hq
 ·obtain ⟨its,r',pl,hz⟩:=I.list hq;have hlen:=r'.length;obtain ⟨o,ho,hc,n,hd⟩:=pl.isList;exact call_list_seq p (.inl rfl) ho hc hd (λh' c' kp e=>fin its r' hz h' c' kp e) (by simp only [yp] <;> lia)
 ·obtain ⟨its,r',pl,hz⟩:=I.tuple hq;have hlen:=r'.length;obtain ⟨o,ho,hc,n,hd⟩:=pl;exact call_list_seq p (.inr rfl) ho hc hd (λh' c' kp e=>fin its r' hz h' c' kp e) (by simp only [yp] <;> lia)
theorem Jmx:Jla X (.type "tuple") (λxs H Q=>∃p ys,xs= [.ref p]/\((Ss X.K H p ys/\∀l,H l=none->Q (.ref l) (upd H l (.tup ys)))\/(SqT X.K H p ys/\Q (.ref p) H))):=by
 rintro pins s σ H xs us Q I r ⟨p,ys,rfl,h⟩;obtain ⟨u,rfl,rx⟩:=Jlz r;cases rx;rcases h with ⟨hq,q⟩|⟨hq,q⟩
 ·obtain ⟨its,r',pl,hz⟩:=I.list hq;have hlen:=r'.length;refine call_tuple_list pl.isList (λh' kp=>?_) (by simp only [yp] <;> lia);have I1:Sm X pins σ H {s with heap:=h'}:=I.kept kp;have I2:Sm X pins σ (upd H h'.objs.size (.tup ys)) {s with heap:=h'.push {cls:=.type "tuple",data:=.seq its.toArray}}:=
   I1.laid (λb o e=>yh _ e) (yg _) (⟨hz,its,r',IsTup.new _ _⟩)
  exact ⟨.ref h'.objs.size,_,I2,rfl,q _ (I1.hok.fresh (yg _))⟩
 ·obtain ⟨its,r',pl,hz⟩:=I.tuple hq;exact call_tuple_same pl ⟨.ref p,H,I,rfl,q⟩
noncomputable def tyV (K:Sd) (T:String) (x:V) (H:Hp):Prop:=match x with
 | .str _=>T="str"
 | .int _=>T="int"
 | .ref p=>(T="list" /\∃xs,Ss K H p xs)\/(T="tuple" /\∃o,K.lookup p=some o/\o.cls= .type "tuple" /\o.dict=none)\/
   (T="dict" /\((∃kvs,H p=some (.dK kvs))\/∃kvs,H p=some (.dT kvs)))\/(T="set" /\∃S n,H p=some (.set S n))
 |_=>False
theorem Sni (I:Sm X pins σ H s) (r:Su x v) (ty:tyV X.K T x H):
  s.TypeIs v T/\∀a,v= .ref a->∃ob,s.heap.get? a=some ob/\ob.dict=none:=by
 cases x with
 |str z=>
  obtain ⟨t,rfl⟩:=r;cases (ty);exact ⟨typeIs_str s z t,λ_ e=>nomatch e⟩
 |int i=>
  obtain ⟨t,rfl⟩:=r;cases (ty);exact ⟨typeIs_int s i t,λ_ e=>nomatch e⟩
 |ref p=>
  cases r;rcases ty with ⟨rfl,xs,hq⟩|⟨rfl,o,hk,hc,hd⟩|⟨rfl,hk⟩|⟨rfl,S,n,hk⟩
  ·obtain ⟨its,_,pl,_⟩:=I.list hq;refine ⟨pl.isList.typeIs,λa e=>?_⟩;cases e;obtain ⟨o,n,e,c,hd,_⟩:=pl;exact ⟨o,e,hd⟩
  ·refine ⟨⟨o,I.kIn p o hk,hc⟩,λa e=>?_⟩;cases e;exact ⟨o,I.kIn _ o hk,hd⟩
  ·have z:∃o,s.heap.get? p=some o/\o.ExactDict:=by
    rcases hk with ⟨kvs,hk⟩|⟨kvs,hk⟩
    ·obtain ⟨_,_,_,_,o,_,_,e,ex,_⟩:=I.hok p _ hk;exact ⟨o,e,ex⟩
    ·obtain ⟨_,_,_,_,o,_,_,e,ex,_⟩:=I.hok p _ hk;exact ⟨o,e,ex⟩
   obtain ⟨o,e,ex⟩:=z;refine ⟨⟨o,e,ex.1⟩,λa e2=>?_⟩;cases e2;exact ⟨o,e,ex.2.1⟩
  ·obtain ⟨o,_,_,_,e,ex,_⟩:=I.hok p _ hk;refine ⟨⟨o,e,ex.1⟩,λa e2=>?_⟩;cases e2;exact ⟨o,e,ex.2.1⟩
 |_=>exact False.elim ty
inductive Sqn (K:Sd) (T:String) (r:V->List V->Hp->VK->Prop) (t:TA) (σ:St) (Q:VK) (x:V) (H1:Hp):Prop where
 |mk (_:tyV K T x H1) (_:t σ H1 λxs H2=>r x xs H2 Q)
noncomputable def tBM (K:Sd) (T:String) (r:V->List V->Hp->VK->Prop) (to:TE) (t:TA):TE:=λσ H Q=>to σ H (Sqn K T r t σ Q)
variable {o e:Expr} {es:List Expr} {to:TE} {t:TA} {name:Str} {apos cpos:Pos} {T id:String} {r:V->List V->Hp->VK->Prop}
theorem Jpn (pa:PlainAttrs T) (slot:Slot T name id) (hty:typeOf (.builtin id)=pure (.type "method_descriptor")) (hm:MtR X id r) (ho:PE X o to) (ha:PA X (e::es) t)
  (hbase:attributeBase o name X.env (eval o X.env)=eval o X.env:=by rfl)
  (hfew:((backTo cpos (starEach (e::es) X.env)).all (λx=>!x.1)&&(backToKw cpos (keywordEach [] X.env)).all (λx=>x.1.isSome)
   &&decide ((e::es).length+([]:List Keyword).length+(if ([]:List Keyword).isEmpty then 0 else 1) < 30))=true:=by rfl)
  (hline:(apos.endLine==cpos.line)=true:=by rfl) (hs:starEach (e::es) X.env=(false,eval e X.env)::starEach es X.env:=by rfl) (hplain:(backTo cpos (starEach es X.env)).any (·.1)=false:=by rfl):
  PE X (.Call (.Attribute o name apos) (e::es) [] cpos) (tBM X.K T r to t):=by
 intro pins s σ H Q I h;refine wpAny_Call_method_late hbase hfew hline rfl (thn (ho pins s σ H _ I h) λv s1 zq=>?_);obtain ⟨x,H1,I1,r1,ty,q1⟩:=zq;obtain ⟨h1,h2⟩:=Sni I1 r1 ty;refine ⟨T,id,pa,slot,hty,h1,h2,?_⟩;have hA:=ha cpos pins s1 σ H1 _ I1 q1;rw [hs] at hA⊢;exact Calls.callWith_builtin (by show (false||(backTo cpos (starEach es X.env)).any (·.1))=false;rw [hplain] <;> rfl) (Calls.evalArgs_plain (thn hA λus s2 ⟨vs,H2,I2,r2,q2⟩=>hm pins s2 σ H2 x vs v us Q I2 r1 r2 q2))
end
noncomputable def MtM (X:Cx) (id:String) (r:V->List V->Hp->VK->Prop):Prop:=
 ∀(pins:List (S1×Obj)) (s:S3) (σ:St) (H:Hp) (x:V) (xs:List V) (v:S2) (us:List S2) (Q:VK),Sm X pins σ H s->Su x v->Sv xs us->r x xs H Q->
  Sc (model X.prog X.w) X.A (call (.builtin id) (v::us)) (EP X pins σ Q) X.xe s
theorem Sv.one:∀{x:V} {us:List S2},Sv [x] us->∃u,us= [u]/\Su x u
 |_,_,.cons r .nil=>⟨_,rfl,r⟩
theorem Sv.rep {xs:List V} {us:List S2} (h:Sv xs us):∀k:Nat,Sv (yo k xs).flatten (yo k us).flatten
 |0=>.nil
 |k+1=>by
  rw [ybu,ybu,List.flatten_cons,List.flatten_cons];exact Sv.append h (Sv.rep h k)
theorem Jtb (its:List S2):∀k acc,
  List.foldl (λx1 x2=>x1++x2) acc.toArray (yo k its.toArray)=(acc++(yo k its).flatten).toArray
 |0,acc=>by simp
 |k+1,acc=>by
  have e:acc.toArray++its.toArray=(acc++its).toArray:=by simp
  have e2:(acc++its)++(yo k its).flatten=acc++(yo (k+1) its).flatten:=by
   rw [ybu,List.flatten_cons,List.append_assoc]
  rw [<-e2,<-Jtb its k (acc++its),<-e,ybu,List.foldl_cons]
section
variable {X:Cx} {pins:List (S1×Obj)} {σ:St} {H:Hp} {s:S3} {l b:S1} {xs ys zs:List V}
theorem Sm.lset {its its':List S2} {n} {f} {t'} (I:Sm X pins σ H s) (hH:H l=some (.lst xs))
  (e:s.heap.get? l=some {cls:=.type "list",data:=.seq its.toArray n}) (hf:f its.toArray=its'.toArray) (hv:Sv ys its') (hz:ys.length<=S6):
  Sm X pins σ (upd H l (.lst ys)) {s with heap:=s.heap.update l (Obj.mapSeq f),toks:=t'}:=by
 have q:=PySem.IsL.update e f;rw [hf] at q;refine I.write (by rw [hH];exact trivial) (.inl rfl) (λb' u hb hu=>(ybl s.heap (Obj.mapSeq f) (yu hb)).trans hu) ⟨_,q⟩ ?_;exact ⟨hz,its',_,hv,q⟩
theorem Sm.lnew (I:Sm X pins σ H s) (hv:Sv ys its) (hz:ys.length<=S6):
  Sm X pins σ (upd H s.heap.objs.size (.lst ys)) {s with heap:=s.heap.push {cls:=.type "list",data:=.seq its.toArray},toks:=t'}:=
 I.laid (λ_ _ q=>yh _ q) (yg _) ⟨hz,its,0,hv,yn _ rfl⟩
theorem Sm.fresh (I:Sm X pins σ H s):H s.heap.objs.size=none:=I.hok.fresh (yg _)
theorem Sm.lstM (I:Sm X pins σ H s) (hH:H l=some (.lst xs)):xs.length<=S6/\∃(its:List S2) (n:Nat),Sv xs its/\xs.length=its.length/\s.heap.get? l=some {cls:=.type "list",data:=.seq its.toArray n}:=by
 obtain ⟨z,its,n,r,e⟩:=I.hok l _ hH;exact ⟨z,its,n,r,r.length,e⟩
theorem Jvr (h:n<=S6):Builtin.List.listTooLong n=false:=decide_eq_false (by lia)
end
section
variable {X:Cx}
inductive Yc8 (x:V) (vs:List V) (H:Hp) (Q:VK):Prop where
 |mk (l:_) (xs:_) (y:_) (_:x= .ref l) (_:vs= [y]) (_:H l=some (.lst xs)) (_:xs.length < S6) (_:Q .non (upd H l (.lst (xs++ [y]))))
theorem Jn7:MtM X "list.append" Yc8:=by
 rintro pins s σ H x vs v us Q I rx rv ⟨l,xs,y,rfl,rfl,hH,hz,q⟩;cases rx;obtain ⟨u,rfl,ru⟩:=rv.one;obtain ⟨z,its,n,r,hl,e⟩:=I.lstM hH;refine call_meets F.slot_list_append ⟨_,e,rfl⟩ F.entry_list_append (F.args_list_append_2 _ _) (PySem.list_append l its.toArray n u (by rw [yp];lia)) ⟨e,⟨.non,_,I.lset hH e (by simp) (r.append (.cons ru .nil)) ?_,rfl,q⟩⟩;rw [yx,List.length_singleton]
 lia
inductive Yc9 (x:V) (vs:List V) (H:Hp) (Q:VK):Prop where
 |mk (l:_) (b:_) (xs:_) (zs:_) (_:x= .ref l) (_:vs= [.ref b]) (_:H l=some (.lst xs)) (_:H b=some (.lst zs)) (_:xs.length+zs.length<=S6) (_:Q .non (upd H l (.lst (xs++zs))))
theorem Joj:MtM X "list.extend" Yc9:=by
 rintro pins s σ H x vs v us Q I rx rv ⟨l,b,xs,zs,rfl,rfl,hH,hB,hz,q⟩;cases rx;obtain ⟨u,rfl,ru⟩:=rv.one;cases ru;obtain ⟨z,its,n,r,hl,e⟩:=I.lstM hH;obtain ⟨z2,its2,n2,r2,hl2,e2⟩:=I.lstM hB;have hsz:its.toArray.size+its2.toArray.size<=S6:=by rw [yp,yp];lia
 have hlong:¬(!its.toArray.isEmpty&&Builtin.List.listTooLong (its.toArray.size+its2.toArray.size))=true:=by
  rw [Jvr hsz,ybv];exact yai
 refine call_meets F.slot_list_extend ⟨_,e,rfl⟩ F.entry_list_extend (F.args_list_extend_2 _ _)
  (AutoSeq1.list_extend_list_list_0 l its.toArray n b its2.toArray n2 hlong (by rw [yp];lia) (by lia)) ⟨e,e2,?_⟩
 refine ⟨.non,_,I.lset hH e (by simp) (r.append r2) ?_,rfl,q⟩;rw [yx]
 lia
inductive Sv4 (x:V) (y:V) (H:Hp) (Q:VK):Prop where
 |mk (l:_) (b:_) (xs:_) (zs:_) (_:x= .ref l) (_:y= .ref b) (_:H l=some (.lst xs)) (_:H b=some (.lst zs)) (_:xs.length+zs.length<=S6) (_:∀p,H p=none->Q (.ref p) (upd H p (.lst (xs++zs))))
theorem Jup:OpR X (binaryOp .Add) Sv4:=by
 rintro pins s σ H x y v u Q I rx ry ⟨l,b,xs,zs,rfl,rfl,hH,hB,hz,q⟩;cases rx;cases ry;obtain ⟨z,its,n,r,hl,e⟩:=I.lstM hH;obtain ⟨z2,its2,n2,r2,hl2,e2⟩:=I.lstM hB;refine PySem.P.add_list e e2 ?_ (by rw [yp,yp];lia);have ea:its.toArray++its2.toArray=(its++its2).toArray:=by simp
 rw [ea];exact ⟨.ref _,_,I.lnew (r.append r2) (by rw [yx];lia),rfl,q _ I.fresh⟩
inductive Svb (x:V) (y:V) (H:Hp) (Q:VK):Prop where
 |mk (l:_) (k:_) (xs:_) (_:x= .ref l) (_:y= .int k) (_:H l=some (.lst xs)) (_: -(2^63)<=k) (_:k < 2^63) (_:xs.length*k.toNat<=S6) (_:∀p,H p=none->Q (.ref p) (upd H p (.lst (yo k.toNat xs).flatten)))
theorem Ybp {α:Type} (xs:List α) (k):(yo k xs).flatten.length=k*xs.length:=by simp
theorem Sm8:OpR X (binaryOp .Mult) Svb:=by
 rintro pins s σ H x y v u Q I rx ry ⟨l,k,xs,rfl,rfl,hH,h1,h2,hz,q⟩;cases rx;obtain ⟨t,rfl⟩:=ry;obtain ⟨z,its,n,r,hl,e⟩:=I.lstM hH;have hlen:its.toArray.size*k.toNat<=S6:=by rw [yp,<-hl];exact hz
 have hcap:¬its.toArray.size*k.toNat > (2^63 - 1)/8:=by
  have:S6<=(2^63 - 1)/8:=by decide
  lia
 have hfit:¬(!Builtin.List.listFitsIndex k)=true:=by
  rw [fitsIndex_both h1 h2];exact yai
 have hlong:¬Builtin.List.listTooLong (its.toArray.size*k.toNat)=true:=by
  rw [Jvr hlen];exact yai
 have hnew:List.foldl (λx1 x2=>x1++x2) #[] (yo (if its.toArray.isEmpty=true then 0 else k.toNat) its.toArray)=(yo k.toNat its).flatten.toArray:=by
  have f0:∀m:Nat,List.foldl (λx1 x2=>x1++x2) #[] (yo m its.toArray)=(yo m its).flatten.toArray:=λm=>by
   have:=Jtb its m [];exact this
  rw [f0];cases its with
  |nil=>simp
  |cons a r'=>rw [if_neg (by simp)]
 refine wpAny_binaryOp_repeat_ref (by decide) ⟨_,e,rfl⟩ (λs'=>typeIs_int s' k t) noFill_list_mul F.fills_int_mul F.slot_int_rmul repeat_list F.slot_int_index.lookup
  (call_meets F.slot_int_rmul (typeIs_int s k t) F.entry_int_rmul (F.args_int_rmul_2 _ _) (int___rmul___int_list k t l its.toArray n)
   ⟨e,rfl,⟨_,e,rfl⟩,call_meets F.slot_list_mul ⟨_,e,rfl⟩ F.entry_list_mul (F.args_list_mul_2 _ _) (AutoListH.list___mul___list_int_3 l its.toArray n k t hfit hcap hlong) ⟨e,?_⟩⟩)
 rw [hnew];exact ⟨.ref _,_,I.lnew (r.rep k.toNat) (by rw [Ybp,Nat.mul_comm];exact hz),rfl,q _ I.fresh⟩
end
section
variable {prog:S7} {w:S9} {A:Sa} {E:S2->S3->Prop} {s:S3}
end
section
variable {X:Cx}
end
section
variable {κ:Type} [DecidableEq κ]
noncomputable def Jmi (kvs:List (κ×V)) (k:κ):Option V:=(kvs.find? λkv=>decide (kv.1=k)).map (·.2)
noncomputable def Jqj (kvs:List (κ×V)) (k:κ) (v:V):List (κ×V):=
 if (kvs.any λkv=>decide (kv.1=k))=true then kvs.map (λkv=>if kv.1=k then (kv.1,v) else kv) else kvs++ [(k,v)]
theorem Jsp {p:κ×V} (e:p.1=k):Jmi (p::r) k=some p.2:=by simp [Jmi,e]
theorem Jso {p:κ×V} (e:¬p.1=k):Jmi (p::r) k=Jmi r k:=by simp [Jmi,e]
theorem Jsn (k:κ):∀kvs:List (κ×V),(kvs.any λkv=>decide (kv.1=k))=(Jmi kvs k).isSome
 | []=>rfl
 |p::r=>by
  rw [List.any_cons];by_cases e:p.1=k
  ·simp only [Jsp e,decide_eq_true e,Bool.true_or,Option.isSome_some]
  ·rw [Jso e,decide_eq_false e,Bool.false_or];exact Jsn k r
theorem Jqu (kvs:List (κ×V)) (k) (v):(Jqj kvs k v).length<=kvs.length+1:=by
 unfold Jqj;split
 ·rw [yf];lia
 ·rw [yx,yac,List.length_nil];lia
theorem Ya0 {kvs:List (κ×V)} (v) (h:Jmi kvs k=none):Jqj kvs k v=kvs++ [(k,v)]:=by
 unfold Jqj;rw [Jsn,h];exact if_neg (by decide)
theorem Sc1.isSome_eq (r:Sc1 o u):o.isSome=u.isSome:=by
 cases o with
 |none=>cases u with
  |none=>rfl
  |some _=>exact (r).elim
 |some _=>cases u with
  |none=>exact (r).elim
  |some _=>rfl
theorem KV.val {kvs:List (κ×V)} (r:KV kvs vs) (k):Sc1 (Jmi kvs k) (valueAt vs k):=by
 induction r with
 |nil=>exact True.intro
 | @cons p q ps qs h t ih=>
  obtain ⟨h1,h2⟩:=h;by_cases e:p.1=k
  ·have e':=h1.symm.trans e;have b:valueAt (q::qs) k=some q.2:=by simp [valueAt,e']
   rw [Jsp e,b];exact h2
  ·have e':¬q.1=k:=λz=>e (h1.trans z);have b:valueAt (q::qs) k=valueAt qs k:=by simp [valueAt,e']
   rw [Jso e,b];exact ih
theorem KV.any {kvs:List (κ×V)} (r:KV kvs vs) (k):(kvs.any λkv=>decide (kv.1=k))=vs.any λkv=>decide (kv.1=k):=by
 induction r with
 |nil=>rfl
 |cons h t ih=>rw [List.any_cons,List.any_cons,ih,h.1]
theorem KV.repl {kvs:List (κ×V)} (r:KV kvs vs) (k) (ry:Su y u):
  KV (kvs.map λkv=>if kv.1=k then (kv.1,y) else kv) (vs.map λkv=>if kv.1=k then (kv.1,u) else kv):=by
 induction r with
 |nil=>exact .nil
 | @cons p q ps qs h t ih=>
  rw [yap,yap];refine .cons ?_ ih;obtain ⟨h1,h2⟩:=h;by_cases e:p.1=k
  ·rw [if_pos e,if_pos (h1.symm.trans e)];exact ⟨h1,ry⟩
  ·rw [if_neg e,if_neg (λz=>e (h1.trans z))];exact ⟨h1,h2⟩
theorem KV.put {kvs:List (κ×V)} (r:KV kvs vs) (k) (ry:Su y u):KV (Jqj kvs k y) (stored vs k u):=by
 unfold Jqj stored;rw [r.any k];by_cases e:(vs.any λkv=>decide (kv.1=k))=true
 ·rw [if_pos e,if_pos e];exact r.repl k ry
 ·rw [if_neg e,if_neg e];exact Paired.snoc r ⟨rfl,ry⟩
theorem KV.length (r:KV kvs vs):kvs.length=vs.length:=Paired.length r
end
theorem Jxw (r:Su (kV k) u):(Jkd P w).is k u=true:=by
 cases k with
 |inl i=>obtain ⟨t,e⟩:=(show ∃t,u=Value.int i t from r);subst e;exact Jvo P w i t
 |inr x=>obtain ⟨t,e⟩:=(show ∃t,u=Value.str x t from r);subst e;exact Jo0 P w x t
theorem Jte {P:S7} {w:S9}:∀{ks:List Key} {us:List S2},Sv (ks.map kV) us->ItemsAre (Jkd P w) ks us
 | [],_,r=>by rw [List.map_nil] at r;cases r;exact .nil
 |k::ks,_,r=>by
  rw [yap] at r;cases r with
  |cons h t=>exact .cons (Jxw h) (Jte t)
noncomputable abbrev KT (H:Hp):List (List Key×V)->List (List Key×S1×S2)->Prop:=Paired λp q=>p.1=q.1/\H q.2.1=some (.tup (p.1.map kV))/\Su p.2 q.2.2
theorem KT.val (r:KT H kvs xs) (k):Sc1 (Jmi kvs k) ((atKey xs k).map (·.2)):=by
 induction r with
 |nil=>exact True.intro
 | @cons p q ps qs h t ih=>
  obtain ⟨h1,_,h2⟩:=h;by_cases e:p.1=k
  ·have e':=h1.symm.trans e;have b:atKey (q::qs) k=some q.2:=by simp [atKey,e']
   rw [Jsp e,b];exact h2
  ·have e':¬q.1=k:=λz=>e (h1.trans z);have b:atKey (q::qs) k=atKey qs k:=by simp [atKey,e']
   rw [Jso e,b];exact ih
theorem KT.repl (r:KT H kvs xs) (k) (ry:Su y u):
  KT H (kvs.map λkv=>if kv.1=k then (kv.1,y) else kv) (xs.map (putAt k u)):=by
 induction r with
 |nil=>exact .nil
 | @cons p q ps qs h t ih=>
  rw [yap];refine .cons ?_ ih;obtain ⟨h1,h2,h3⟩:=h;unfold putAt;by_cases e:p.1=k
  ·rw [if_pos e,if_pos (h1.symm.trans e)];exact ⟨h1,h2,ry⟩
  ·rw [if_neg e,if_neg (λz=>e (h1.trans z))];exact ⟨h1,h2,h3⟩
theorem KT.put (r:KT H kvs xs) (k) (hb:H b=some (.tup (k.map kV))) (ry:Su y u):
  KT H (Jqj kvs k y) (storedH xs k b u):=by
 have e:(kvs.any λkv=>decide (kv.1=k))=(atKey xs k).isSome:=by
  rw [Jsn,(r.val k).isSome_eq,Option.isSome_map]
 unfold Jqj storedH;rw [e];by_cases q:(atKey xs k).isSome=true
 ·rw [if_pos q,if_pos q];exact r.repl k ry
 ·rw [if_neg q,if_neg q];exact Paired.snoc r ⟨rfl,hb,ry⟩
theorem KT.keeps (r:KT H kvs xs) (ht:∀b ys,H b=some (.tup ys)->H' b=some (.tup ys)):KT H' kvs xs:=
 Paired.mapP r λ_ _ z=>⟨z.1,ht _ _ z.2.1,z.2.2⟩
section
variable {P:S7} {w:S9} {H:Hp} {h:Sb} {a:S1}
theorem Sk7 (ok:HOk P w H h) (e:Rd H a u):Sac P w H h a u:=e.ok ok
theorem Jvg (ok:HOk P w H h) (e:Rd H a (.dK kvs)):kvs.length<=S6/\(a==sysModules)=false/\∃vs,KV kvs vs/\h.DictOf (Jkd P w) a vs:=
 Sk7 ok e
theorem Spb (ok:HOk P w H h) (e:H a=some (.dK kvs)):kvs.length<=S6/\(a==sysModules)=false/\∃vs,KV kvs vs/\h.DictOf (Jkd P w) a vs:=Jvg ok (.inl e)
theorem Ju9 (ok:HOk P w H h) (e:H a=some (.tup (ks.map kV))):(tupleKind (Jkd P w)).is h ks a:=by
 obtain ⟨_,its,r,o,h1,h2,n,h3⟩:=(ok a _ e);exact ⟨o,its.toArray,n,h1,h2,h3,by simpa using Jte r⟩
theorem Jvh (ok:HOk P w H h) (e:Rd H a (.dT kvs)):kvs.length<=S6/\(a==sysModules)=false/\
  ∃xs,KT H kvs xs/\h.DictOfH (tupleKind (Jkd P w)) a xs:=by
 obtain ⟨z,y,xs,r,o,es,ep,h1,h2,h3,h4,h5⟩:=(Sk7 ok e);refine ⟨z,y,xs,r,o,es,ep,h1,h2,h3,h4,λx hx=>?_,h5⟩;have all:∀{l:List (List Key×V)} {m:List (List Key×S1×S2)},KT H l m->∀x∈m,(tupleKind (Jkd P w)).is h x.1 x.2.1:=by
  intro l m q
  induction q with
  |nil=>intro x hx;exact nomatch hx
  | @cons p q ps qs hq t ih=>
   intro x hx;rcases yr.mp hx with e|hx
   ·subst e;exact Ju9 ok (by rw [<-hq.1];exact hq.2.1)
   ·exact ih x hx
 exact all r x hx
theorem Spc (ok:HOk P w H h) (e:H a=some (.dT kvs)):kvs.length<=S6/\(a==sysModules)=false/\
  ∃xs,KT H kvs xs/\h.DictOfH (tupleKind (Jkd P w)) a xs:=Jvh ok (.inl e)
end
noncomputable def Shd (H:Hp) (a:S1) (y:V) (r:Option V):Prop:=
 (∃kvs k,Rd H a (.dK kvs)/\y=kV k/\r=Jmi kvs k)\/∃kvs k b,Rd H a (.dT kvs)/\y= .ref b/\H b=some (.tup (k.map kV))/\r=Jmi kvs k
noncomputable def She (H:Hp) (a:S1) (y v:V) (H':Hp):Prop:=
 (∃kvs k,H a=some (.dK kvs)/\y=kV k/\kvs.length < S6/\H'=upd H a (.dK (Jqj kvs k v)))\/
 ∃kvs k b,H a=some (.dT kvs)/\y= .ref b/\H b=some (.tup (k.map kV))/\kvs.length < S6/\H'=upd H a (.dT (Jqj kvs k v))
theorem She.k {k} {v} (e:H a=some (.dK kvs)) (hl:kvs.length < S6):She H a (kV k) v (upd H a (.dK (Jqj kvs k v))):=.inl ⟨kvs,k,e,rfl,hl,rfl⟩
section
variable {X:Cx} {pins:List (S1×Obj)} {σ:St} {H:Hp} {s:S3} {a:S1} {y v:V} {u r:S2} {o:Option V} {A:Sa} {E:S2->S3->Prop}
theorem Sm.big (I:Sm X pins σ H s):sysModules < s.heap.objs.size:=Nat.lt_trans (by decide) ((I.mod.glob.keeps I.bk).lt)
theorem Jyn (hu:A.units+1 < cLine) (I:Sm X pins σ H s) (g:Shd H a y (some v)) (ry:Su y u) (h:∀w' s',Sm X pins σ H s'->Su v w'->Q w' s'):
  Sc (model X.prog X.w) A (getItem (.ref a) u) Q E s:=by
 rcases g with ⟨kvs,k,e,ey,l⟩|⟨kvs,k,b,e,ey,eb,l⟩
 ·subst ey;obtain ⟨z,hd,vs,rel,dd⟩:=Jvg I.hok e;obtain ⟨w',hw,rw'⟩:=Sc1.some_of (by rw [l];exact rel.val k);exact wpAny_getItem_of (Jxw ry) dd.mapOf hw (h w' _ (I.tok _) rw')
 ·subst ey;cases (ry);obtain ⟨z,hd,xs,rel,dd⟩:=Jvh I.hok e;obtain ⟨w',hw,rw'⟩:=Sc1.some_of (by rw [l];exact rel.val k);obtain ⟨p,hp,hp2⟩:=yca.mp hw;refine wpAny_getItem_heap (tupleKind_room_in1 hu) (Ju9 I.hok eb) dd hp ?_;rw [hp2];exact h w' _ (I.tok _) rw'
theorem Sup (hu:A.units+1 < cLine) (I:Sm X pins σ H s) (g:Shd H a y o) (ry:Su y u) (h:∀s',Sm X pins σ H s'->Q (.bool o.isSome) s'):
  Sc (model X.prog X.w) A (compareOp .In u (.ref a)) Q E s:=by
 rcases g with ⟨kvs,k,e,ey,l⟩|⟨kvs,k,b,e,ey,eb,l⟩
 ·subst ey;obtain ⟨z,hd,vs,rel,dd⟩:=Jvg I.hok e;refine wpAny_in_of (Jxw ry) hd dd.mapOf ?_;rw [<-(rel.val k).isSome_eq,<-l];exact h _ (I.tok _)
 ·subst ey;cases (ry);obtain ⟨z,hd,xs,rel,dd⟩:=Jvh I.hok e;refine wpAny_in_heap (tupleKind_room_in1 hu) (Ju9 I.hok eb) hd dd ?_;have q:=(rel.val k).isSome_eq;rw [Option.isSome_map] at q;rw [<-q,<-l];exact h _ (I.tok _)
theorem Jxp (I:Sm X pins σ H s) (mu:Mut (H a)) (hs:yz a s.heap h') (he:∃q,h'.get? a=some q) (new:Sac X.prog X.w (upd H a ob) h' a ob):
  Sm X pins σ (upd H a ob) {s with heap:=h',toks:=t'}:=
 I.write mu (.inl rfl) (λb q hb z=>(hs.2 b hb).trans z) he new
theorem Slh (z:kvs.length<=S6) (hd:(a==sysModules)=false) (rel:KV kvs vs) (dd:h'.DictOf (Jkd P w) a vs):
  Sac P w H' h' a (.dK kvs):=⟨z,hd,vs,rel,dd⟩
theorem Jyo (hu:A.units+1 < cLine) (I:Sm X pins σ H s) (g:She H a y v H') (ry:Su y u) (rv:Su v r) (h:∀s',Sm X pins σ H' s'->Q () s'):
  Sc (model X.prog X.w) A (setItem (.ref a) u r) Q E s:=by
 rcases g with ⟨kvs,k,e,ey,l,eH⟩|⟨kvs,k,b,e,ey,eb,l,eH⟩
 ·subst ey eH;obtain ⟨z,hd,vs,rel,dd⟩:=Spb I.hok e;have hz:vs.length<=S6:=by rw [<-rel.length];exact z
  have hl:(Jqj kvs k v).length<=S6:=by have:=Jqu kvs k v;lia
  refine wpAny_setItem_pairs (hsz:=hz) (Jxw ry) dd λh' dd' hs=>h _ ?_;have he:∃q,h'.get? a=some q:=let ⟨q,_,_,hq,_⟩:=dd';⟨q,hq⟩;exact Jxp I (by rw [e];exact True.intro) hs he (Slh hl hd (rel.put k rv) dd')
 ·subst ey eH;cases (ry);obtain ⟨z,hd,xs,rel,dd⟩:=Spc I.hok e;have hz:xs.length<=S6:=by rw [<-Paired.length rel];exact z
  have hl:(Jqj kvs k v).length<=S6:=by have:=Jqu kvs k v;lia
  refine wpAny_setItem_heap (hsz:=hz) (tupleKind_room_in1 hu) (Ju9 I.hok eb) dd λh' dd' hs=>h _ ?_;obtain ⟨q,es,ep,hq,h2,h3,h4,_,h5⟩:=dd';refine Jxp I (by rw [e];exact True.intro) hs ⟨q,hq⟩ ⟨hl,hd,_,(rel.put k eb rv).keeps λc ys ec=>?_,q,es,ep,hq,h2,h3,h4,h5⟩;rw [Sy (Sk2 ec e (λz=>nomatch z))];exact ec
end
section
variable {X:Cx} {pins:List (S1×Obj)} {σ:St} {H:Hp} {s:S3} {a:S1} {kvs:List (Key×V)} {k:Key} {u:S2} {A:Sa} {E:S2->S3->Prop}
end
noncomputable def Sl4 (i:Expr):Prop:=∀ov iv,subscripted i false ov iv=operate [ov,iv] (getItem ov iv)
theorem Ycs {id}
  (hl:typeLookup (.type T) "__getitem__" =pure (some (.builtin id))) (hs:Sl4 slice)
  (h:Sc (model prog w) A (eval value env) (λo s₁=>Sc (model prog w) A (eval slice env) (λi s₂=>s₂.TypeIs o T/\Sc (model prog w) A (getItem o i) Q E s₂) E s₁) E s):
  Sc (model prog w) A (eval (.Subscript value slice pos) env) Q E s:=by
 refine Subscript_ (wpAny_mono h (λo s₁ h₁=>wpAny_mono h₁ (λi s₂ h₂=>?_) λ_ _ x=>x) λ_ _ x=>x);obtain ⟨hT,h₂⟩:=h₂;refine S4 (S4 (wpAny_specialOf hT hl ?_));have fin:Sc (model prog w) A (subscripted slice false o i) (λr s₃=>Sc (model prog w) A (letTemporaryGo value o r >>=λ_=>pure r) Q E s₃) E s₂:=by
  rw [hs o i];exact wpAny_operating (wpAny_mono h₂ (λr s₃ h₃=>S4 (wpAny_letTemporaryGo (S5 h₃))) λ_ _ x=>x)
 first
  |exact S5 (S4 fin)
  |exact S4 (S5 (S4 fin))
  |exact S4 fin
theorem Jvf (I:Sm X pins σ H s) (g:Shd H a y o):s.TypeIs (.ref a) "dict" :=by
 rcases g with ⟨kvs,k,e,_,_⟩|⟨kvs,k,b,e,_,_,_⟩
 ·obtain ⟨_,_,vs,_,dd⟩:=Jvg I.hok e;exact dd.typeIs
 ·obtain ⟨_,_,xs,_,dd⟩:=Jvh I.hok e;exact dd.typeIs
noncomputable def Skc (td ty:TE):TE:=λσ H Q=>td σ H λx H1=>ty σ H1 λy H2=>∃a v,x= .ref a/\Shd H2 a y (some v)/\Q v H2
noncomputable def Sk8 (td ty tv:TE):TS:=λD σ H=>tv σ H λv H1=>td σ H1 λx H2=>ty σ H2 λy H3=>∃a H4,x= .ref a/\She H3 a y v H4/\D.nx σ H4
section
variable {X:Cx} {o i e value:Expr} {pos pos' tpos:Pos} {td ty tv:TE}
theorem Yc2 (hu:X.A.units+1 < cLine) (ho:PE X o td) (hi:PE X i ty) (hs:Sl4 i):PE X (.Subscript o i pos) (Skc td ty):=by
 intro pins s σ H Q I h;refine Ycs PySem.F.slot_dict_getitem.lookup hs (thn (ho pins s σ H _ I h) λu s1 ⟨x,H1,I1,rx,q1⟩=>thn (hi pins s1 σ H1 _ I1 q1) λiv s2 zq=>?_);obtain ⟨y,H2,I2,ry,a,v,ex,g,q2⟩:=zq;subst ex;obtain rfl:u=Value.ref a:=rx;exact ⟨Jvf I2 g,Jyn hu I2 g ry λw' s3 I3 rw'=>⟨v,H2,I3,rw',q2⟩⟩
theorem Yc7 (hu:X.A.units+1 < cLine) (ho:PE X o td) (hi:PE X i ty) (hv:PE X value tv) (hs:swapsWith value (some (.Subscript o i pos')) pos.line X.env=pure false):
  PS X (.Assign [.Subscript o i pos'] value pos) (Sk8 td ty tv):=by
 intro pins s σ H D I h;refine wpAny_Assign_Subscript (thn (hv pins s σ H _ I h) λr s1 ⟨v,H1,I1,rv,q1⟩=>thn (ho pins s1 σ H1 _ I1 q1) λu s2 ⟨x,H2,I2,rx,q2⟩=>thn (hi pins s2 σ H2 _ I2 q2) λiv s3 zq=>?_) hs;obtain ⟨y,H3,I3,ry,a,H4,ex,g,q3⟩:=zq;subst ex;obtain rfl:u=Value.ref a:=rx;exact Jyo hu I3 g ry rv λs4 I4=>⟨σ,H4,I4,q3⟩
end
theorem Y4 (h:Sb) (hb:sysModules < h.objs.size):Sac P w H (h.push {cls:=.type "dict",data:=.dict #[]}) h.objs.size (.dK []):=
 ⟨yw _,beq_eq_false_iff_ne.mpr (yu (yt hb)),[],.nil,Heap.DictOf.new h⟩
noncomputable def Sn7:TE:=λ_ H Q=>∀p,H p=none->Q (.ref p) (upd H p (.dK []))
section
variable {X:Cx} {pos:Pos}
theorem Jpp:PE X (.Dict [] [] pos) Sn7:=λpins s σ H Q I h=>
 wpAny_Dict_empty ⟨.ref s.heap.objs.size,_,I.laid (λ_ _ q=>yh _ q) (yg _) (Y4 s.heap I.big),rfl,h _ (I.hok.fresh (yg _))⟩
end
noncomputable def IsD (H:Hp) (a:S1):Prop:=(∃kvs,Rd H a (.dK kvs))\/∃kvs,Rd H a (.dT kvs)
theorem Slp (I:Sm X pins σ H s) (d:IsD H a):
  s.TypeIs (.ref a) "dict" /\(∀b,Value.ref a= .ref b->∃ob,s.heap.get? b=some ob/\ob.dict=none)/\(a==sysModules)=false:=by
 rcases d with ⟨kvs,e⟩|⟨kvs,e⟩
 ·obtain ⟨_,hd,vs,_,dd⟩:=Jvg I.hok e;refine ⟨dd.typeIs,λb q=>?_,hd⟩;cases q;obtain ⟨ob,_,_,h1,h2,_⟩:=dd;exact ⟨ob,h1,h2.2.1⟩
 ·obtain ⟨_,hd,xs,_,dd⟩:=Jvh I.hok e;refine ⟨dd.typeIs,λb q=>?_,hd⟩;cases q;obtain ⟨ob,_,_,h1,h2,_⟩:=dd;exact ⟨ob,h1,h2.2.1⟩
section
variable {X:Cx} {pins:List (S1×Obj)} {σ:St} {H:Hp} {s:S3} {a:S1} {y d:V} {u r:S2} {o:Option V} {A:Sa} {E:S2->S3->Prop}
end
section
variable {X:Cx} {o e f:Expr} {apos cpos:Pos} {td ty tx:TE}
end
section
variable {X:Cx} {pins:List (S1×Obj)} {σ:St} {H:Hp} {s:S3} {a:S1} {kvs:List (Key×V)} {A:Sa} {E:S2->S3->Prop}
end
section
variable {X:Cx} {pins:List (S1×Obj)} {σ:St} {H:Hp} {s:S3} {a:S1} {y:V} {u:S2} {A:Sa} {E:S2->S3->Prop}
end
end L2
namespace Att
open PySem PySem.W PySem.Calls PyProof.Rows
theorem Jr5:∀ns vs,WellAll P h vs (ns.map WData.int)->IntsAre vs ns:=by
 intro ns
 induction ns with
 |nil=>
  intro vs w;cases w;exact .nil
 |cons n ns ih=>
  intro vs w;cases w with
  |cons a b=>
   cases a;exact .cons _ _ (ih _ b)
theorem Jze {l:OpenLaw} (hn:l.most=some n)
  (hpre:l.row.toRowW.claim.pre args=true) (hwl:WellAll P h vals args):
  ∃a vs ns,vals= [Value.ref a]/\args= [WData.list (ns.map WData.int)]/\h.get? a=some {cls:=.type "list",data:=.seq vs.toArray}/\IntsAre vs ns/\ns.length<=n:=by
 obtain ⟨d,r,rfl,h1,h2⟩:=hasAllW_cons ((pre_splitW hpre).1);obtain rfl:=hasAllW_nil h2;obtain ⟨xs,rfl,h3⟩:=hasW_list h1;obtain ⟨ns,rfl⟩:=items_int h3;have hlen:=by
  have h4:=by
   have h4:=(holds_andW ((pre_splitW hpre).2)).1;rw [hn] at h4;exact h4
  have h5:=condW_of h4 (w_not (w_lt w_lit (w_len_list (w_arg rfl))))
  first
   | (rw [decide_eq_true q'] at h5; exact absurd h5 (by decide))
   | (simp at h5; omega)
 cases hwl with
 |cons w1 w2=>
  cases w2;cases w1 with
  |list ho hall=>exact ⟨_,_,ns,rfl,rfl,ho,Jr5 ns _ hall,hlen⟩
theorem Jz5 (l:OpenLaw) (args):l.row.toRowW.claim.post args (.bool true) args=true:=
 postW_of
  (by first|rfl|decide|simp [WShape.has])
  (w_eq_bool (w_res rfl) w_lit) rfl
theorem attach_call {l:OpenLaw} {n} {q} {loose} {XP} {YP} {d}
  (hn:l.most=some n) (hdf:d.params.defaults= [])
  (call:∀w s₀ s₁ mg mb fa o pm cd doc a vs ns,
   Ground q loose [] XP w s₀ mg mb s₁.heap->YP w s₁.heap->
   s₁.heap.get? fa=some o->o.data= .func (docDef d.name d.params d.body d.scope pm cd doc)->s₁.heap.CodeRec cd d.name->mg d.name=some (.ref fa)->
   s₁.heap.get? a=some {cls:=.type "list",data:=.seq vs.toArray}->IntsAre vs ns->ns.length<=n->s₁.gens= #[]->
   codeAny (model l.prog w) callerA (.call (.ref fa) ⟨[.ref a],[]⟩) (λr s'=>r= .ok (.ret (.bool true))/\OldK s₁.heap s'.heap/\s'.os=s₁.os/\AllBare s'.gens) s₁):
  WalkO q loose XP YP l.row.toRowW d [] (λf vs=>PySem.call f vs):=by
 intro w s₀ s₁ mg mb G Y fa o pm cd doc dV kV ho hd hcd hD hmg hg args vals as hpre hlay hrd hwl hlo;obtain rfl:dV= .none:=Dflts.none hD hdf;obtain rfl:kV= .none:=Dflts.noKw hD;obtain ⟨a,vs,ns,rfl,rfl,hobj,hints,hlen⟩:=Jze hn hpre hwl;refine enter_call (codeAny_mono (call w s₀ s₁ mg mb fa o pm cd doc a vs ns G Y ho (fd_plain hd) hcd hmg hobj hints hlen hg) λr s' hq=>?_);obtain ⟨rfl,h2,h3,h4⟩:=hq;exact ⟨.inl ⟨.bool true,.bool true,[],rfl,λ_=>rfl,.bool true,Jz5 l _,λ_=>⟨List.Pairwise.nil,λ_ hm=>(nomatch hm)⟩⟩,h2,h3,h4⟩
section
variable {prog:S7} {w:S9} {A:Sa} {E:S2->S3->Prop} {s:S3} {K:Sd}
end
end Att
namespace L2
open PySem PySem.Spec PyProof.Rows
theorem Jtr:∀{vs:List S2} {ns:List Int},IntsAre vs ns->Sv (ns.map V.int) vs
 |_,_,.nil=>.nil
 |_,_,.cons n t h=>.cons ⟨t,rfl⟩ (Jtr h)
noncomputable abbrev KOf {K:Sd} {h:Sb} (_:K.In h):Sd:=K
noncomputable def Jjz (s:Stmt) (j:Nat):Stmt:=match s with
 | .ClassDef _ _ _ body _ _ _ _ _ _ _=>body.getD j (.Pass ⟨0,0,0,0⟩)
 |_=>.Pass ⟨0,0,0,0⟩
noncomputable def Jl5 (s:Stmt):Arguments:=match s with
 | .FunctionDef _ a _ _ _ _ _ _ _ _=>a
 |_=>{posonlyargs:=[],args:=[],vararg:=none,kwonlyargs:=[],kw_defaults:=[],kwarg:=none,defaults:=[]}
noncomputable def Jkq (s:Stmt):List Stmt:=match s with
 | .FunctionDef _ _ b _ _ _ _ _ _ _=>b
 |_=>[]
noncomputable def Jjl (s:Stmt):Scope:=match s with
 | .FunctionDef _ _ _ _ _ _ sc _ _ _=>sc
 |_=>{kind:=.function,names:=[],isGenerator:=false,isCoroutine:=false}
noncomputable abbrev CX0:CXT:=λ_ _ _ _ _ _=>False
noncomputable abbrev E0:XK:=λ_ _ _=>False
theorem Jox:Jrm CX0 X E0:=λ_ _ _ _ _ _ _ h=>h.elim
structure Fun (K:Sd) (x qual:Str) (st:Stmt) (f:S1) (fd:S8):Prop where
 ex:∃(dV oc:S2) (od:Option S1) (kV doc pm:S2) (an:Option S1) (cdv ct:S2) (osl:Array (Option S2)),
  fd=PySem.W.fnOf x qual (Jl5 st) (Jkq st) (Jjl st) dV kV doc pm an cdv ct/\K.lookup f=some ⟨oc,od,.func fd,osl⟩/\PySem.W.codeIn K cdv qual=true
 kp:PySem.W.keepIn K (.ref f)=true
section
variable {P:S7} {w:S9} {K:Sd} {mg:Str->Option S2} {base:Sb}
theorem Fun.ok {st} (F:Fun K x qual st f fd) (S:Jjp N ps (Jjl st)) (len:∀vs H Q E,sp vs H Q E->vs.length=ps.length)
  (hbody:∀cdv A outer s H vs Q E,Sai k (A.deeper (envOfC qual (Jjl st) s.heap.objs.size f cdv))->sp vs H Q E->
   ∃t,PSs (Ju2 CX0 P w K mg base N qual (Jjl st) f cdv A outer s H E).nox (Jkq st) t/\t {nx:=λ_ H'=>Q .non H',rt:=Q} (start N vs) H):Sr P w K mg base CX0 (k+1) f fd ps sp:=by
 obtain ⟨dV,oc,od,kV,doc,pm,an,cdv,ct,osl,rfl,lk,hcd⟩:=F.ex;refine Sjy lk hcd S len λA outer s H vs Q E hr hsp=>?_;obtain ⟨t,h,q⟩:=hbody cdv A outer s H vs Q E hr hsp;exact ⟨t,h.nox,q⟩
theorem Ju4 {st} {dV kV ct} (l:K.lookup f=some ⟨oc,od,.func (PySem.W.fnOf x qual (Jl5 st) (Jkq st) (Jjl st) dV kV doc pm an cdv ct),osl⟩)
  (c:PySem.W.codeIn K cdv qual=true) (k:PySem.W.keepIn K (.ref f)=true):Fun K x qual st f (PySem.W.fnOf x qual (Jl5 st) (Jkq st) (Jjl st) dV kV doc pm an cdv ct):=⟨⟨dV,oc,od,kV,doc,pm,an,cdv,ct,osl,rfl,l,c⟩,k⟩
end
section
variable {X:Cx}
theorem pv (i) {pos} (hN:X.N[i]?=some x:=by rfl) (hv:Vis X.env.scope x:=by first|exact ye rfl|exact yak (ye rfl)|exact yak (yak rfl)) (hd:(x==("__debug__" :Str))=false:=by decide)
  (hcd:(x==("__classdict__" :Str))=false:=by decide):PE X (.Name x pos) (Sj9 i):=Jx3 hN hv hd hcd
end
theorem Jk9 {A:Prop} (h:B):if false=true then A else B:=by grind
theorem Jkf {A:Prop} (h:A):if true=true then A else B:=by grind
theorem Si0 {A:Prop} [Decidable c] (h1:c->A) (h2:¬c->B):if c then A else B:=by grind
noncomputable def Si (H H':Hp):Prop:=∀b o,H b=some o->H' b=some o
theorem Si.refl (H):Si H H:=λ_ _ h=>h
theorem Si.trans (a:Si H H1) (b:Si H1 H2):Si H H2:=λc o h=>b c o (a c o h)
theorem Si.seq {K} (e:Si H H') (h:Ss K H a xs):Ss K H' a xs:=by
 rcases h with (h|⟨o,h⟩)|h
 ·exact .inl (.inl (e _ _ h))
 ·exact .inl (.inr ⟨o,e _ _ h⟩)
 ·exact .inr h
section
variable {κ:Type} [DecidableEq κ]
end
end L2
set_option Elab.async false
set_option linter.all false
set_option maxRecDepth 100000
set_option maxHeartbeats 4000000
namespace L2
open PySem PySem.Spec PyProof.Rows
noncomputable def Jln (cells:List (Str×S1)):List (Str×NameKind)->List (Str×S1)->List (Str×S1)
 | [],acc=>acc
 | (n,k) :: r,acc=>if (k == NameKind.free) = true then (match cells.lookup n with | some c=>Jln cells r ((n,c) :: acc) | none=>Jln cells r acc) else Jln cells r acc
theorem Jml:∀ns acc,(∀x c,acc.lookup x=some c->cells.lookup x=some c)->∀x c,(Jln cells ns acc).lookup x=some c->cells.lookup x=some c
 | [],_,h,x,c,e=>h x c e
 | (n,k) :: r,acc,h,x,c,e=>by
  unfold Jln at e;by_cases hk:(k==NameKind.free)=true
  ·rw [if_pos hk] at e;cases hc:cells.lookup n with
   |none=>rw [hc] at e;exact Jml r acc h x c e
   |some d=>
    rw [hc] at e;refine Jml r ((n,d)::acc) (λy b q=>?_) x c e;rw [yav] at q;by_cases hy:(y==n)=true
    ·rw [hy] at q;have hy':y=n:=beq_iff_eq.mp hy;rw [hy',hc];exact q
    ·have hy':(y==n)=false:=by simpa using hy
     rw [hy'] at q;exact h y b q
  ·rw [if_neg hk] at e;exact Jml r acc h x c e
theorem Jna {cells:List (Str×S1)}:∀(ns:List (Str×NameKind)) (acc:List (Str×S1)) (x:Str),(acc.lookup x).isSome=true->((Jln cells ns acc).lookup x).isSome=true
 | [],_,_,h=>h
 | (n,k) :: r,acc,x,h=>by
  unfold Jln;by_cases hk:(k==NameKind.free)=true
  ·rw [if_pos hk];cases hc:cells.lookup n with
   |none=>exact Jna r acc x h
   |some d=>
    refine Jna r ((n,d)::acc) x ?_;rw [yav];cases hy:x==n with
    |true=>rfl
    |false=>exact h
  ·rw [if_neg hk];exact Jna r acc x h
theorem Jm0:∀ns acc,(x,NameKind.free)∈ns->(∃c,cells.lookup x=some c)->((Jln cells ns acc).lookup x).isSome=true
 | [],_,h,_=>by simp at h
 | (n,k) :: r,acc,h,hc=>by
  unfold Jln;rcases yr.mp h with e|e
  ·cases e;obtain ⟨c,hc⟩:=hc;rw [hc];exact Jna r _ x (by rw [yav,beq_self_eq_true];rfl)
  ·by_cases hk:(k==NameKind.free)=true
   ·rw [if_pos hk];cases hd:cells.lookup n with
    |none=>exact Jm0 r acc e hc
    |some d=>exact Jm0 r _ e hc
   ·rw [if_neg hk];exact Jm0 r acc e hc
theorem Jov (h:∀y∈sc.names,y.2= .free->∃c,env.cells.lookup y.1=some c):closureFor sc env=pure (Jln env.cells sc.names []):=by
 have key:∀ns acc,(∀y∈ns,y.2= .free->∃c,env.cells.lookup y.1=some c)->
   (forIn ns acc λx r=>if (x.2==NameKind.free)=true then cellOf env x.1 >>=λc=>pure (ForInStep.yield ((x.1,c)::r)) else pure (ForInStep.yield r))=pure (Jln env.cells ns acc):=by
  intro ns
  induction ns with
  |nil=>intro acc _;rfl
  |cons y r ih=>
   intro acc hy;obtain ⟨n,k⟩:=y;rw [ybm];unfold Jln;by_cases hk:(k==NameKind.free)=true
   ·have hk':=by simpa using hk
    obtain ⟨c,hc⟩:=hy (n,k) yy hk';have hc':=hc;simp only [hk];have e1:cellOf env n=pure c:=by unfold cellOf;rw [hc']
    rw [e1,hc'];exact ih _ λz hz=>hy z (yq _ hz)
   ·simp only [hk];exact ih _ λz hz=>hy z (yq _ hz)
 have k0:=key sc.names [] h
 first
  |exact k0
  | (refine Eq.trans ?_ (congrArg (λm : Sem (List (Str × S1))=>m >>= λr=>pure r) k0); rfl)
noncomputable def blk (X:Cx) (sc:Scope) (N:List Str) (C:S1) (s:S3) (H:Hp) (fp:List S1) (pn:List (S1×Obj)):Cx:=
 {X with N:=N,s₀:=s,H₀:=H,env:=compEnvC sc (Jln X.env.cells sc.names []) C X.env,outer:=X.stack,ex:=fp,fn:=λ_=>false,pn:=pn,xe:=λ_ _=>False}
noncomputable def Shu (ini:List (Option Nat)) (σ:St):St:=ini.map λo=>match o with|none=>none|some j=>(σ[j]?).join
noncomputable def scB (sc:Scope):Bool:=decide (sc.kind= .function)&&sc.names.all (λy=>decide (y.2≠ .cell))&&sc.names.all (λy=>!decide (y.2= .local)||decide (sc.names.lookup y.1=some .local))
noncomputable def frB (outer:List (Str×NameKind)) (sc:Scope):Bool:=sc.names.all λy=>!decide (y.2= .free)||(decide (outer.lookup y.1=some .cell)||decide (outer.lookup y.1=some .free))
noncomputable def Sln (No N:List Str) (ini:List (Option Nat)) (outer:List (Str×NameKind)) (sc:Scope):Bool:=
 (N.zip ini).all λy=>match y.2 with|none=>true|some j=>decide (No[j]?=some y.1)&&decide (sc.names.lookup y.1=some .free)&&(decide (outer.lookup y.1=some .cell)||decide (outer.lookup y.1=some .free))
noncomputable def PIf (X:Cx) (ifs:List Expr) (t:TT):Prop:=
 ∀(pins:List (S1×Obj)) (s:S3) (σ:St) (H:Hp) (Q:Bool->Hp->Prop),Sm X pins σ H s->t σ H Q->
  Sc (model X.prog X.w) X.A (forIn ifs true λc r=>if r=true then do let ok<-isTrue c X.env (eval c X.env);pure (ForInStep.yield ok) else pure (ForInStep.yield r)) (TP X pins σ Q) X.xe s
noncomputable def Jsl:TT:=λ_ H Q=>Q true H
theorem Jk1:PIf X [] Jsl:=λ_ _ _ H _ I h=>wpAny_tests_nil ⟨H,I,h⟩
theorem Yc4 (h:PT X c t):PIf X [c] t:=λpins s σ H Q I q=>wpAny_tests_one (h pins s σ H Q I q)
noncomputable def Yas (wi:TI) (ini:List (Option Nat)) (g:TG) (tt:TT) (te:TE):TE:=λσ H Q=>wi σ H λJ H1=>∀D,H1 D=none->∃W:Nat->Nat->St->Hp->Prop,(∃m,W 0 m (Shu ini σ) (upd H1 D (.lst [])))/\
 ∀i m σ' H',W i m σ' H'->(J.stop i H'/\Q (.ref D) H')\/(J.go i H'/\∃N:St->Hp->Prop,(∀σ2 H2,N σ2 H2->∃m',m' < m/\W (i+1) m' σ2 H2)/\
  ∀x H2,J.yld i H' x H2->g x σ' H2 λσ3 H3=>tt σ3 H3 λb H4=>if b=true then te σ3 H4 (λv H5=>∃ys,H5 D=some (.lst ys)/\ys.length < S6/\N σ3 (upd H5 D (.lst (ys++ [v])))) else N σ3 H4)
section
variable {prog:S7} {w:S9} {A:Sa} {R:Result->S3->Prop} {s:S3}
theorem Ju1 {target iter} {ifs} {scope} {pos} {it acc} {env} (I:Nat->S3->Prop)
  (turn:∀n s,I n s->Sc (model prog w) A (pyNext it) (λr s1=>match r with
   |none=>R (.ok .next) s1
   |some v=>Sc (model prog w) A (letOwnedTupleGo target it v) (λ_ s1'=>Sc (model prog w) A (assign target env v) (λ_ s2=>
     Sc (model prog w) A (forIn ifs true λc r=>if r=true then do let ok<-isTrue c env (eval c env);pure (ForInStep.yield ok) else pure (ForInStep.yield r)) (λok s3=>
      if ok=true then Sc (model prog w) A (eval elt env) (λx s4=>
       Sc (model prog w) A (call (.builtin "list.append") [acc,x]) (λ_ s5=>∃m,m < n/\I m s5) (λ_ _=>False) s4) (λ_ _=>False) s3
      else ∃m,m < n/\I m s3) (λ_ _=>False) s2) (λ_ _=>False) s1') (λ_ _=>False) s1) (λ_ _=>False) s)
  (n) (h:I n s):codeAny (model prog w) A (.compLoop (.ListComp elt [⟨target,iter,ifs,0⟩] scope pos) 0 it acc env) R s:=by
 refine codeAny_loop rfl I (λn s hI=>wpAny_noted (wpAny_noRaise ?_)) n h;rw [compTurn_list];refine S4 (wpAny_standAt (S4 (wpAny_mono (turn n s hI) (λr s1 h1=>?_) λ_ _ h'=>h')));cases r with
 |none=>exact S5 h1
 |some v=>
  refine S4 (wpAny_mono h1 (λ_ s1' h1'=>S4 (wpAny_mono h1' (λ_ s2 h2=>S4 (wpAny_mono h2 (λok s3 h3=>?_) λ_ _ h'=>h')) λ_ _ h'=>h')) λ_ _ h'=>h');cases ok with
  |false=>exact S5 ⟨rfl,h3⟩
  |true=>
   exact S4 (S4 (wpAny_mono h3 (λx s4 h4=>S4 (wpAny_mono h4 (λ_ s5 h5=>S5 (S5 ⟨rfl,h5⟩)) λ_ _ h'=>h')) λ_ _ h'=>h'))
end
section
variable {X:Cx} {pins:List (S1×Obj)} {σ:St} {H:Hp} {s:S3}
theorem Sla (I:Sm X pins σ H s) (hk:sc.kind= .function) (hcell:∀y∈sc.names,y.2≠ .cell)
  (hfr:∀y∈sc.names,y.2= .free->X.env.kindOf y.1=some .cell\/X.env.kindOf y.1=some .free) (hC:C=s.heap.objs.size) (hf:∀b∈fp,Jpy X pins H b/\b < s.heap.objs.size):(blk X sc N C s H fp pn).Ok:=by
 have hin:∀x c,(Jln X.env.cells sc.names []).lookup x=some c->X.env.cells.lookup x=some c:=Jml sc.names [] (λx c e=>by simp at e);refine ⟨I.ok.mod,hk,I.ok.glob,I.ok.blt,Nat.le_of_eq hC.symm,λx y c h1 h2=>I.ok.inj x y c (hin _ _ h1) (hin _ _ h2),λx hx=>?_,λx c h _=>(by cases h),I.ok.hd,I.ok.frames,.inl rfl,λb hb=>?_,I.bs,yae I.ok.bsz I.sz,λb o e hb=>?_,λb hb z=>?_,I.stack,I.stkFree⟩
 ·have hx':=hx;have hm:(x,NameKind.free)∈sc.names:=by
   have:∀k,(relabel sc X.env).names.lookup x=some k->(k= .cell\/k= .free)->(x,NameKind.free)∈sc.names:=λk e hkk=>by
    obtain ⟨⟨n',k'⟩,m1,m2⟩:=yab.mp (PySem.mem_of_lookup e);dsimp only at m2;by_cases hc:(k'==NameKind.free&&X.env.scope.kind== .function&&X.env.kindOf n'==some .cell)=true
    ·rw [if_pos hc] at m2;have e1:n'=x:=congrArg Prod.fst m2;have e2:=by simp at hc;exact hc.1.1
     rw [<-e1,<-e2];exact m1
    ·rw [if_neg hc] at m2;have e1:n'=x:=congrArg Prod.fst m2;have e2:k'=k:=congrArg Prod.snd m2;rcases hkk with z|z
     ·exact absurd (e2.trans z) (hcell _ m1)
     ·rw [<-e1,<-z,<-e2];exact m1
   rcases hx' with e|e
   ·exact this _ e (.inl rfl)
   ·exact this _ e (.inr rfl)
  exact ybz.mp (Jm0 sc.names [] hm (I.ok.has x (hfr _ hm rfl)))
 ·obtain ⟨⟨f0,f1,f2,f3,f4,f5⟩,lt⟩:=hf b hb;exact ⟨λz=>yt lt (z.trans hC),λx c e=>f4 x c (hin _ _ e)⟩
 ·obtain ⟨⟨f0,f1,f2,f3,f4,f5⟩,lt⟩:=hf b hb;rcases f3 with z|z
  ·exact I.ok.noex b o e z
  ·exact absurd (yal (yi (I.ok.bs b o e).1) z) (yaq _)
 ·obtain ⟨⟨f0,f1,f2,f3,f4,f5⟩,lt⟩:=hf b hb;rcases yr.mp (I.stkSub b z) with e|e
  ·exact f1 e
  ·exact f2 e
theorem Ybd (I:Sm X pins σ H s) (hk:sc.kind= .function) (hcell:∀y∈sc.names,y.2≠ .cell)
  (hfr:∀y∈sc.names,y.2= .free->X.env.kindOf y.1=some .cell\/X.env.kindOf y.1=some .free) (hf:∀b∈fp,Jpy X pins H b/\b < s.heap.objs.size) (hlen:N.length=ini.length)
  (hini:∀(i:Nat) x j,N[i]?=some x->ini[i]?=some (some j)->X.N[j]?=some x/\sc.names.lookup x=some .free/\(X.env.kindOf x=some .cell\/X.env.kindOf x=some .free))
  (hn:h1.Ns s.heap.objs.size (λ_=>none)) (kp:∀b o,s.heap.get? b=some o->h1.get? b=some o):
  Sm (blk X sc N s.heap.objs.size s H fp (X.pn++pins)) [] (Shu ini σ) H {s with heap:=h1,toks:=t'}:=by
 have hin:∀x c,(Jln X.env.cells sc.names []).lookup x=some c->X.env.cells.lookup x=some c:=Jml sc.names [] (λx c e=>by simp at e);refine ⟨Sla I hk hcell hfr rfl hf,rfl,I.bare,Un.kept kp,⟨_,hn,λi x v e1 e2 e3=>?_⟩,λx c e=>?_,I.hok.fresh (yg _),λx c e=>(I.freeC x c (hin _ _ e)).imp id λz=>⟨rfl,z.2⟩,λp hp=>?_,I.hok.kept kp,?_⟩
 ·have e1':=e1;have e2':=e2;unfold Shu at e2';rw [ym] at e2';cases hi:ini[i]? with
  |none=>rw [hi] at e2';cases e2'
  |some o=>
   rw [hi] at e2';cases o with
   |none=>cases e2'
   |some j=>
    have e4:(σ[j]?).join=some v:=yah.inj e2';have e5:σ[j]?=some (some v):=by
     cases q:σ[j]? with
     |none=>rw [q] at e4;cases e4
     |some z=>rw [q] at e4;exact congrArg some e4
    obtain ⟨a1,a2,a3⟩:=hini i x j e1' hi;obtain ⟨m,hm,hl⟩:=I.loc;have hvis:Vis X.env.scope x:=by
     rcases a3 with z|z
     ·exact .inr (.inl z)
     ·exact .inr (.inr z)
    obtain ⟨u,r,l⟩:=hl j x v a1 e5 hvis;refine ⟨u,r,.inr ⟨?_,?_⟩⟩
    ·have hm2:=PySem.mem_of_lookup a2;rcases e3 with z|z|z
     ·exfalso;have key:∀{ns:List (Str×NameKind)},ns.lookup x=some .free->(ns.map λ(n,k)=>if (k==NameKind.free&&X.env.scope.kind== .function&&X.env.kindOf n==some .cell) then (n,NameKind.cell) else (n,k)).lookup x≠some .local:=by
       intro ns
       induction ns with
       |nil=>intro q;simp at q
       |cons y r ih=>
        obtain ⟨n,k⟩:=y;intro q;rw [yav] at q;rw [yap];dsimp only;cases hx:x==n with
        |true=>
         rw [hx] at q;have q':=yah.inj q;subst q';split
         ·rw [yav,hx];intro z;cases z
         ·rw [yav,hx];intro z;cases z
        |false=>
         rw [hx] at q;split
         ·rw [yav,hx];exact ih q
         ·rw [yav,hx];exact ih q
      exact key a2 z
     ·exact .inl z
     ·exact .inr z
    ·rcases l with ⟨k1,_⟩|⟨_,c,hc,hcl⟩
     ·exfalso;rcases a3 with z|z
      ·rw [z] at k1;cases k1
      ·rw [z] at k1;cases k1
     ·have hh:=Jm0 sc.names [] (PySem.mem_of_lookup a2) ⟨c,hc⟩;obtain ⟨c',hc'⟩:=ybz.mp hh;have:=by
       have q:=hin _ _ hc';rw [hc] at q;exact (yah.inj q).symm
      subst this;obtain ⟨oc,hoc,hod⟩:=hcl;exact ⟨c',hc',oc,kp _ _ hoc,hod⟩
 ·obtain ⟨v,oc,hoc,hod⟩:=I.cell x c (hin _ _ e);exact ⟨v,oc,kp _ _ hoc,hod⟩
 ·have hp':p∈X.pn++pins:=by simpa [blk] using hp
  obtain ⟨e,n,ne,nf,d⟩:=I.pin p hp';refine ⟨kp _ _ e,n,yt (yi e),λz=>?_,d⟩;rcases yr.mp (I.stkSub p.1 z) with q|q
  ·exact ne q
  ·exact nf q
 ·unfold Shu;rw [yf];exact hlen.symm
end
section
variable {X:Cx} {elt iter tg:Expr} {ifs:List Expr} {sc:Scope} {pos:Pos} {N:List Str} {ini:List (Option Nat)} {wi:TI} {g:TG} {tt:TT} {te:TE}
theorem Jt8 {pins:List (S1×Obj)} {σ:St} {H:Hp} {s:S3} {Q:VK} {use:Option (S2->Sem Unit)} {Q':S2->S3->Prop} {p:Pos} (hc:X.calm=true) (hi:PI X tg iter wi)
  (hsc:scB sc=true) (hfr:frB X.env.scope.names sc=true) (hlen:N.length=ini.length) (hini:Sln X.N N ini X.env.scope.names sc=true)
  (hg:∀C s H fp pn,PG (blk X sc N C s H fp pn) tg g) (ht:∀C s H fp pn,PIf (blk X sc N C s H fp pn) ifs tt) (he:∀C s H fp pn,PE (blk X sc N C s H fp pn) elt te)
  (hs:∀x,foldedSetIterable iter X.env x=pure x) (I:Sm X pins σ H s) (h:Yas wi ini g tt te σ H Q)
  (hfin:∀(D:S1) (H':Hp) (s':S3) (C:S1) (m:Str->Option S2),Sm X pins σ H' s'->Jpy X pins H' C->s'.heap.Ns C m->Q (.ref D) H'->compPost (model X.prog X.w) X.A X.xe use Q' (.ref D) C (.ok .next) s'):
  Sc (model X.prog X.w) X.A (comprehension (.ListComp elt [⟨tg,iter,ifs,0⟩] sc pos) sc X.env p (newList []) false (eval iter X.env) use) Q' X.xe s:=by
 have hsc':=hsc;unfold scB at hsc';rw [yag,yag] at hsc';obtain ⟨⟨hk0,hcell0⟩,hnames0⟩:=hsc';have hk:sc.kind= .function:=of_decide_eq_true hk0;have hcell:∀y∈sc.names,y.2≠ .cell:=λy hy=>of_decide_eq_true (yaw.mp hcell0 y hy);have hnames:∀y∈sc.names,y.2= .local->sc.names.lookup y.1=some .local:=λy hy hl=>by
  have q:=yaw.mp hnames0 y hy;rw [decide_eq_true hl] at q;exact of_decide_eq_true (by simpa using q)
 have hfrP:∀y∈sc.names,y.2= .free->X.env.kindOf y.1=some .cell\/X.env.kindOf y.1=some .free:=λy hy hl=>by
  have q:=yaw.mp hfr y hy;rw [decide_eq_true hl] at q;have q2:decide (X.env.scope.names.lookup y.1=some .cell)=true\/decide (X.env.scope.names.lookup y.1=some .free)=true:=by simpa using q
  rcases q2 with z|z
  ·exact .inl (of_decide_eq_true z)
  ·exact .inr (of_decide_eq_true z)
 have hiniP:∀(i:Nat) (x:Str) (j:Nat),N[i]?=some x->ini[i]?=some (some j)->X.N[j]?=some x/\sc.names.lookup x=some .free/\(X.env.kindOf x=some .cell\/X.env.kindOf x=some .free):=λi x j e1 e2=>by
  have hm:(x,some j)∈N.zip ini:=by
   refine yv (i:=i) ?_;rw [yck];exact ⟨e1,e2⟩
  have q:=yaw.mp hini _ hm;dsimp only at q;rw [yag,yag,Bool.or_eq_true] at q;obtain ⟨⟨q1,q2⟩,q3⟩:=q;refine ⟨of_decide_eq_true q1,of_decide_eq_true q2,?_⟩;rcases q3 with z|z
  ·exact .inl (of_decide_eq_true z)
  ·exact .inr (of_decide_eq_true z)
 refine wpAny_comprehension_free (use:=use) rfl hs (Jov λy hy hl=>I.ok.has y.1 (hfrP y hy hl)) hk hnames ?_;refine thn (hi pins s σ H _ I h) λv s1 h1=>thn h1 λitv s2 h2=>?_;obtain ⟨it,fp,tn,J,H2,e,I2,T,st2,f2,step⟩:=h2;subst e;refine wpAny_newObj_type (wpAny_newFunctionEnv hcell (by intro y hy;simp at hy) (λh1 hns1 hsb1=>?_) hk);dsimp only at hns1 hsb1⊢;have hD:H2 s2.heap.objs.size=none:=I2.hok.fresh (yg _);have kp3:∀b o,s2.heap.get? b=some o->(s2.heap.push {cls:=.type "list",dict:=none,data:=.seq ([]:List S2).toArray}).get? b=some o:=λb o e=>yh _ e;have I3:Sm X pins σ (upd H2 s2.heap.objs.size (.lst [])) {s2 with heap:=s2.heap.push {cls:=.type "list",dict:=none,data:=.seq ([]:List S2).toArray}}:=
  I2.laid (t':=s2.toks) kp3 (yg _) ⟨yw _,[],0,.nil,yn _ rfl⟩
 obtain ⟨W,⟨m0,w0⟩,turn⟩:=step s2.heap.objs.size hD;generalize hs3:({s2 with heap:=s2.heap.push {cls:=.type "list",dict:=none,data:=.seq ([]:List S2).toArray}}:S3)=s3 at I3;have e3h:s3.heap=s2.heap.push {cls:=.type "list",dict:=none,data:=.seq ([]:List S2).toArray}:=by rw [<-hs3]
 rw [<-e3h] at hns1 hsb1 kp3⊢;have sz3:s2.heap.objs.size < s3.heap.objs.size:=by rw [e3h,yar];exact ybs _
 have hf3:∀b∈fp,Jpy X pins (upd H2 s2.heap.objs.size (.lst [])) b/\b < s3.heap.objs.size:=λb hb=>by
  obtain ⟨o,eo,_⟩:=T.obj 0 _ st2 b hb;have lt:=yi eo;obtain ⟨f0,fr⟩:=f2 b hb;exact ⟨⟨by rw [Sy (yt lt)];exact f0,fr⟩,Nat.lt_trans lt sz3⟩
 have kp4:∀b o,s3.heap.get? b=some o->h1.get? b=some o:=λb o e=>(hsb1.2 b (yt (yi e))).trans (yh _ e);have I4:Sm (blk X sc N s3.heap.objs.size s3 (upd H2 s2.heap.objs.size (.lst [])) fp (X.pn++pins)) [] (Shu ini σ) (upd H2 s2.heap.objs.size (.lst [])) {s3 with heap:=h1,toks:=s3.toks+([]:List (Str×S2)).length}:=
  Ybd I3 hk hcell hfrP hf3 hlen hiniP hns1 kp4
 have st4:tn 0 h1:=T.keep 0 _ _ st2 λb hb o e=>kp4 b o (kp3 b o e);have e4s:({s2 with heap:=h1,toks:=s2.toks+([]:List (Str×S2)).length}:S3)={s3 with heap:=h1,toks:=s3.toks+([]:List (Str×S2)).length}:=by rw [<-hs3]
 have stat:∀{H':Hp},(∀b∈fp,H' b=none)->∀b∈fp,Jpy (blk X sc N s3.heap.objs.size s3 (upd H2 s2.heap.objs.size (.lst [])) fp (X.pn++pins)) [] H' b:=λ{H'} hn b hb=>by
  obtain ⟨⟨f0,f1,f2',f3,f4,f5⟩,lt⟩:=hf3 b hb;refine ⟨hn b hb,yt lt,λz=>?_,.inl hb,λx c e=>f4 x c (Jml sc.names [] (λx c e=>by simp at e) x c e),λp hp=>f5 p (by simpa [blk] using hp)⟩;rcases yr.mp (I3.stkSub b z) with q|q
  ·exact f1 q
  ·grind
 have loop:∀s4:S3,s4={s3 with heap:=h1,toks:=s3.toks+([]:List (Str×S2)).length}->codeAny (model X.prog X.w) X.A (.compLoop (.ListComp elt [⟨tg,iter,ifs,0⟩] sc pos) 0 (.ref it) (.ref s2.heap.objs.size) (compEnvC sc (Jln X.env.cells sc.names []) s3.heap.objs.size X.env))
   (compPost (model X.prog X.w) X.A X.xe use Q' (.ref s2.heap.objs.size) s3.heap.objs.size) s4:=by
  rintro s4 rfl;refine Ju1 (λn s'=>∃i σ' H',Sm (blk X sc N s3.heap.objs.size s3 (upd H2 s2.heap.objs.size (.lst [])) fp (X.pn++pins)) [] σ' H' s'/\tn i s'.heap/\(∀b∈fp,H' b=none)/\W i n σ' H') ?_ m0
   ⟨0,_,_,I4,st4,λb hb=>(hf3 b hb).1.1,w0⟩
  rintro n s5 ⟨i,σ5,H5,I5,st5,fr5,w5⟩;rcases turn i n σ5 H5 w5 with ⟨stop,q⟩|⟨go,N',hN',step'⟩
  ·refine thn (T.done (blk X sc N s3.heap.objs.size s3 (upd H2 s2.heap.objs.size (.lst [])) fp (X.pn++pins)) rfl rfl rfl hc i [] s5 σ5 H5 _ I5 (stat fr5) st5 stop) λr s6 ⟨hr,I6⟩=>?_;subst hr;have un:Un (frs X.stack) fp H2 H5 s2.heap s6.heap:=(Un.laid (fs:=frs X.stack) (ex:=fp) kp3 (yg _) hD).trans I6.base;have os6:s6.os=s2.os:=I6.os.trans (show s3.os=s2.os by rw [<-hs3]);have IX:Sm X pins σ H5 s6:=I2.call' (ch:=fp) os6 un I6.hok I6.bare λb hb=>by
    obtain ⟨⟨f0,f1,f2',f3,f4,f5⟩,lt⟩:=hf3 b hb;exact ⟨f3,f1,f4,f5⟩
   obtain ⟨m,hm,_⟩:=I6.loc;exact hfin _ H5 s6 s3.heap.objs.size m IX (I2.fpOk (ybj sz3) I6.free) hm q
  ·refine thn (T.item (blk X sc N s3.heap.objs.size s3 (upd H2 s2.heap.objs.size (.lst [])) fp (X.pn++pins)) rfl rfl rfl hc i [] s5 σ5 H5 _ I5 (stat fr5) st5 go) λr s6 ⟨u,hr,h6⟩=>?_;subst hr;refine thn h6 λ_ s7 zq=>?_;obtain ⟨x,H7,I7,r7,y7,st7,fr7⟩:=zq;have I7':=I7.pinned (stat fr7) (T.obj _ _ st7);refine thn (hg _ _ _ _ _ _ s7 σ5 H7 x u _ I7' r7 (step' x H7 y7)) λ_ s8 zq=>?_;obtain ⟨σ8,H8,I8,q8⟩:=zq;refine thn (ht _ _ _ _ _ _ s8 σ8 H8 _ I8 q8) λok s9 zq=>?_;obtain ⟨H9,I9,q9⟩:=zq;have again:∀{σ':St} {H':Hp} {s':S3},Sm (blk X sc N s3.heap.objs.size s3 (upd H2 s2.heap.objs.size (.lst [])) fp (X.pn++pins)) ([]++Jsa fp s7.heap) σ' H' s'->N' σ' H'->
     ∃m,m < n/\∃i σ' H',Sm (blk X sc N s3.heap.objs.size s3 (upd H2 s2.heap.objs.size (.lst [])) fp (X.pn++pins)) [] σ' H' s'/\tn i s'.heap/\(∀b∈fp,H' b=none)/\W i m σ' H':=λ{σ' H' s'} J n'=>by
    obtain ⟨m',hm,w'⟩:=hN' σ' H' n';refine ⟨m',hm,i+1,σ',H',J.unpinned,T.keep _ _ _ st7 λb hb o e=>(J.pin (b,o) (yau _ (yau _ (Jnb hb e)))).1,λb hb=>?_,w'⟩;obtain ⟨o,e,d⟩:=T.obj _ _ st7 b hb;exact (J.pin (b,o) (yau _ (yau _ (Jnb hb e)))).2.1
   cases ok with
   |false=>
    exact again I9 q9
   |true=>
    refine thn (he _ _ _ _ _ _ s9 σ8 H9 _ I9 q9) λv10 s10 zq=>?_;obtain ⟨x10,H10,I10,r10,ys,hys,hyl,q10⟩:=zq;refine thn (Jn7 _ s10 σ8 H10 (.ref s2.heap.objs.size) [x10] _ [v10] (λ_ H'=>N' σ8 H') I10 rfl (.cons r10 .nil) ⟨_,ys,x10,rfl,rfl,hys,hyl,q10⟩) λ_ s11 zq=>?_;obtain ⟨_,H11,I11,_,q11⟩:=zq;exact again I11 q11
 have fin:=codeAny_compStart_list (R:=compPost (model X.prog X.w) X.A X.xe use Q' (.ref s2.heap.objs.size) s3.heap.objs.size) (loop _ rfl) (T.self X.A 0 {s3 with heap:=h1,toks:=s3.toks+([]:List (Str×S2)).length} _ _ st4 (loop _ rfl));rw [<-e4s] at fin;exact fin
theorem Jk2 (hc:X.calm=true) (hi:PI X tg iter wi) (hg:∀C s H fp pn,PG (blk X sc N C s H fp pn) tg g) (ht:∀C s H fp pn,PIf (blk X sc N C s H fp pn) ifs tt) (he:∀C s H fp pn,PE (blk X sc N C s H fp pn) elt te)
  (hsc:scB sc=true:=by rfl) (hfr:frB X.env.scope.names sc=true:=by rfl) (hlen:N.length=ini.length:=by rfl) (hini:Sln X.N N ini X.env.scope.names sc=true:=by rfl)
  (hs:∀x,foldedSetIterable iter X.env x=pure x:=by intro _;rfl):PE X (.ListComp elt [⟨tg,iter,ifs,0⟩] sc pos) (Yas wi ini g tt te):=by
 intro pins s σ H Q I h;refine Jt8 hc hi hsc hfr hlen hini hg ht he hs I h λD H' s' C m I' f hn q=>?_;obtain ⟨f0,f1,f2,f3,f4,f5⟩:=f;exact ⟨m,hn,λh' sb=>⟨.ref D,H',I'.turned (λb o hb e=>(sb.2 b hb).trans e) f0 f1 f3 f4 f5,rfl,q⟩⟩
noncomputable def Sqv (i:Nat) (te:TE):TS:=λD σ H=>te σ H λv H1=>D.nx (σ.set i (some v)) H1
theorem Jy6 {py spos} (hN:X.N.Nodup) (hiy:X.N[i]?=some y) (hx:Loc X.env.scope y) (hc:X.calm=true) (hi:PI X tg iter wi) (hg:∀C s H fp pn,PG (blk X sc N C s H fp pn) tg g) (ht:∀C s H fp pn,PIf (blk X sc N C s H fp pn) ifs tt) (he:∀C s H fp pn,PE (blk X sc N C s H fp pn) elt te)
  (hf:X.fn y=true\/X.env.scope.names.lookup y=some .local:=by first|exact .inl rfl|exact .inr rfl|assumption)
  (hsw:swapsWith (.ListComp elt [⟨tg,iter,ifs,0⟩] sc pos) (some (.Name y py)) spos.line X.env=pure true:=by rfl)
  (hsc:scB sc=true:=by rfl) (hfr:frB X.env.scope.names sc=true:=by rfl) (hlen:N.length=ini.length:=by rfl) (hini:Sln X.N N ini X.env.scope.names sc=true:=by rfl)
  (hs:∀x,foldedSetIterable iter X.env x=pure x:=by intro _;rfl):PS X (.Assign [.Name y py] (.ListComp elt [⟨tg,iter,ifs,0⟩] sc pos) spos) (Sqv i (Yas wi ini g tt te)):=by
 intro pins s σ H D I h;rw [exec_Assign_Name_used _ _ _ _ hsw];refine S4 (wpAny_standAt (S4 ?_));refine S4 (wpAny_mono (Jt8 hc hi hsc hfr hlen hini hg ht he hs I h λD' H' s' C m I' f hn q=>?_) (λ_ s' hq=>S5 (S5 hq)) λ_ _ e=>e);obtain ⟨f0,f1,f2,f3,f4,f5⟩:=f;refine wpAny_assign_Name (Jtp I' hN hiy hx (v:=.ref D') rfl (λs'' I'' sb=>?_) hf);obtain ⟨a,sb,ha⟩:=sb;have hCa:C≠a:=by
  rcases ha with z|z
  ·grind
  ·grind
 refine ⟨m,hn.sameBut sb hCa,λh' sb'=>⟨_,H',I''.turned (λb o hb e=>(sb'.2 b hb).trans e) f0 f1 f3 f4 f5,q⟩⟩
end
section
variable {g:TG} {tt:TT} {te:TE} {H:Hp} {D:S1} {σ:St} {R:Hp->Prop}
theorem Jp0 {lo} {n} (Pv:Nat->St->Hp->Prop) (h0:Pv 0 σ H)
  (hs:∀i σ H,i < n->Pv i σ H->g (.int (lo+i)) σ H λσ3 H3=>tt σ3 H3 λb H4=>if b=true then te σ3 H4 λv H5=>∃ys,H5 D=some (.lst ys)/\ys.length < S6/\Pv (i+1) σ3 (upd H5 D (.lst (ys++ [v]))) else Pv (i+1) σ3 H4)
  (hd:∀σ H,Pv n σ H->R H):
  ∃W:Nat->Nat->St->Hp->Prop,(∃m,W 0 m σ H)/\∀i m σ' H',W i m σ' H'->(Itr lo n).stop i H'/\R H'\/(Itr lo n).go i H'/\∃N:St->Hp->Prop,(∀σ2 H2,N σ2 H2->∃m',m' < m/\W (i+1) m' σ2 H2)/\
   ∀x H2,(Itr lo n).yld i H' x H2->g x σ' H2 λσ3 H3=>tt σ3 H3 λb H4=>if b=true then te σ3 H4 λv H5=>∃ys,H5 D=some (.lst ys)/\ys.length < S6/\N σ3 (upd H5 D (.lst (ys++ [v]))) else N σ3 H4:=by
 refine ⟨λi m σ H=>m=n - i/\i<=n/\Pv i σ H,⟨n,by simp,yw _,h0⟩,?_⟩;rintro i m σ H ⟨rfl,hi,p⟩;by_cases hlt:i < n
 ·refine .inr ⟨hlt,Pv _,λσ' H' p'=>⟨n - _,by omega,rfl,hlt,p'⟩,λx H' y=>?_⟩;obtain ⟨e,y⟩:=y;subst e y;exact hs i σ _ hlt p
 ·have e:i=n:=by omega
  subst e;exact .inl ⟨yg _,hd σ H p⟩
theorem Jl3 {K} {a} {xs} (Pv:Nat->St->Hp->Prop) (h0:Pv 0 σ H) (hl:∀i σ H,i<=xs.length->Pv i σ H->Ss K H a xs)
  (hs:∀i x σ H,xs[i]?=some x->Pv i σ H->g x σ H λσ3 H3=>tt σ3 H3 λb H4=>if b=true then te σ3 H4 λv H5=>∃ys,H5 D=some (.lst ys)/\ys.length < S6/\Pv (i+1) σ3 (upd H5 D (.lst (ys++ [v]))) else Pv (i+1) σ3 H4)
  (hd:∀σ H,Pv xs.length σ H->R H):
  ∃W:Nat->Nat->St->Hp->Prop,(∃m,W 0 m σ H)/\∀i m σ' H',W i m σ' H'->(Itl K a).stop i H'/\R H'\/(Itl K a).go i H'/\∃N:St->Hp->Prop,(∀σ2 H2,N σ2 H2->∃m',m' < m/\W (i+1) m' σ2 H2)/\
   ∀x H2,(Itl K a).yld i H' x H2->g x σ' H2 λσ3 H3=>tt σ3 H3 λb H4=>if b=true then te σ3 H4 λv H5=>∃ys,H5 D=some (.lst ys)/\ys.length < S6/\N σ3 (upd H5 D (.lst (ys++ [v]))) else N σ3 H4:=by
 refine ⟨λi m σ H=>m=xs.length - i/\i<=xs.length/\Pv i σ H,⟨xs.length,by simp,yw _,h0⟩,?_⟩;rintro i m σ H ⟨rfl,hi,p⟩;have q:=hl i σ H hi p;by_cases hlt:i < xs.length
 ·refine .inr ⟨⟨xs,xs[i],q,by simp [hlt]⟩,Pv _,λσ' H' p'=>⟨xs.length - _,by omega,rfl,hlt,p'⟩,λx H' y=>?_⟩;obtain ⟨e,y⟩:=y;subst e;exact hs i x σ _ (y xs q) p
 ·have e:i=xs.length:=by omega
  subst e;exact .inl ⟨⟨xs,q,yg _⟩,hd σ H p⟩
end
theorem Jkp {H} {A B:St->Hp->Prop} (h:A (σ.set i (some v)) H):Jly i v σ H λσ3 H3=>Jsl σ3 H3 λb H4=>if b=true then A σ3 H4 else B σ3 H4:=h
noncomputable def sgn (c:Nat):V:=.str ⟨#[c]⟩
noncomputable def Its (z:Str):It:=⟨λi _=>i < z.cps.size,λi H x H'=>H'=H/\∃c,z.cps[i]?=some c/\x=sgn c,λi _=>z.cps.size=i⟩
noncomputable def Sux (tl:TE):TI:=λσ H R=>tl σ H λx H1=>∃z,x= .str z/\R (Its z) H1
theorem Jw8 {P:S7} {w:S9} {K:Sd} {tg:Expr} {z:Str} {it:S1} {n:String} {fl:Nat->Array S2} {St:Nat->Sb->Prop}
  (Wk:∀A':Sa,A'.handled=none->Walks P w A' it [it] [it] z.cps.size (SignAt z) St) (hst:∀i h,St i h->∃o,h.get? it=some o/\o.cls= .type n/\∃a,o.data= .fields a)
  (hn: ["enumerate","zip","dict_itemiterator","dict_reverseitemiterator","odict_iterator","itertools.zip_longest","itertools.pairwise"].contains n=false)
  (hself:∀(A:Sa) (i:Nat) (s:S3) (Q:S2->S3->Prop) (E:S2->S3->Prop),St i s.heap->Q (.ref it) s->Sc (model P w) A (pyIter (.ref it)) Q E s):Turn P w K tg (Its z) [it] it St where
 mem:=by simp
 obj:=λi h st b hb=>by
  have e:b=it:=by simpa using hb
  subst e;obtain ⟨o,e,_,a,d⟩:=hst i h st;exact ⟨o,e,λv z=>by rw [d] at z;cases z⟩
 keep:=λi h h' st k=>by
  have W0:=Wk callerA rfl;exact W0.frame i h h' st λb hb o e=>k b hb o e
 item:=by
  intro X hP hw hK hc i pins s σ H E I hf st hg;subst hP hw hK;obtain ⟨f0,f1,f2,f3,f4,f5⟩:=hf it (by simp);have W:=Wk X.A (I.ok.hd hc);refine W.item i s _ _ hg st λv h' tk hv st' kk=>?_;obtain ⟨c,u,hcp,rfl⟩:=hv;have I1:Sm X pins σ H {s with heap:=h',toks:=tk}:=I.turned (λb o hb e=>kk b o (by simpa using hb) e) f0 f1 f3 f4 f5;obtain ⟨o,e,cl,a,d⟩:=hst _ _ st';exact ⟨_,rfl,Jrv (s:={s with heap:=h',toks:=tk}) e cl d hn ⟨sgn c,H,I1,⟨u,rfl⟩,⟨rfl,c,hcp,rfl⟩,st',λb hb=>(hf b hb).1⟩⟩
 done:=by
  intro X hP hw hK hc i pins s σ H E I hf st hg;subst hP hw hK;obtain ⟨f0,f1,f2,f3,f4,f5⟩:=hf it (by simp);have W:=Wk X.A (I.ok.hd hc);have hg':z.cps.size=i:=hg;subst hg';exact W.done s _ _ st λh' tk kk=>⟨rfl,I.turned (λb o hb e=>kk b o (by simpa using hb) e) f0 f1 f3 f4 f5⟩
 self:=hself
theorem Smf {X:Cx} {tg l:Expr} {tl:TE} (hl:PE X l tl):PI X tg l (Sux tl):=by
 intro pins s σ H R I h;refine thn (hl pins s σ H _ I h) λv s1 zq=>?_;obtain ⟨x,H1,I1,r1,z,e,q⟩:=zq;subst e;obtain ⟨t,rfl⟩:=r1;have fin:∀(o:Obj) (St:Nat->Sb->Prop) (n:String),Turn X.prog X.w X.K tg (Its z) [s1.heap.objs.size] s1.heap.objs.size St->St 0 (s1.heap.push o)->PIE X pins σ tg R (.ref s1.heap.objs.size) {s1 with heap:=s1.heap.push o}:=λo St n T st0=>by
  refine ⟨s1.heap.objs.size,[s1.heap.objs.size],St,Its z,H1,rfl,I1.kept (t':=s1.toks) λb o e=>yh _ e,T,st0,λb hb=>?_,q⟩;have e:b=s1.heap.objs.size:=by simpa using hb
  subst e;exact I1.fpOk (yg _) (I1.hok.fresh (yg _))
 cases ha:z.cps.all (· < 128)
 ·refine wpAny_pyIter_wide ha (fin _ (λi h=>h.IsStrIter s1.heap.objs.size "str_iterator" z t i) "str_iterator" (Jw8 (n:="str_iterator") (fl:=λ_=>#[]) (λA' hA=>Walks.strWide hA _ z t) (λi h st=>?_) (by decide) (λA i s Q E st q=>wpAny_pyIter_striter_wide st q)) ⟨_,yn _ rfl,rfl,rfl⟩);obtain ⟨o,e,c,d⟩:=st;exact ⟨o,e,c,_,d⟩
 ·refine wpAny_pyIter_ascii ha (fin _ (λi h=>h.IsStrIter s1.heap.objs.size "str_ascii_iterator" z t i) "str_ascii_iterator" (Jw8 (n:="str_ascii_iterator") (fl:=λ_=>#[]) (λA' hA=>Walks.strAscii hA _ z t) (λi h st=>?_) (by decide) (λA i s Q E st q=>wpAny_pyIter_striter_ascii st q)) ⟨_,yn _ rfl,rfl,rfl⟩);obtain ⟨o,e,c,d⟩:=st;exact ⟨o,e,c,_,d⟩
theorem Jzz {g:TG} {tt:TT} {te:TE} {H} {D} {σ} {R:Hp->Prop} (Pv:Nat->St->Hp->Prop) (h0:Pv 0 σ H)
  (hs:∀i c σ H,z.cps[i]?=some c->Pv i σ H->g (sgn c) σ H λσ3 H3=>tt σ3 H3 λb H4=>if b=true then te σ3 H4 λv H5=>∃ys,H5 D=some (.lst ys)/\ys.length < S6/\Pv (i+1) σ3 (upd H5 D (.lst (ys++ [v]))) else Pv (i+1) σ3 H4)
  (hd:∀σ H,Pv z.cps.size σ H->R H):
  ∃W:Nat->Nat->St->Hp->Prop,(∃m,W 0 m σ H)/\∀i m σ' H',W i m σ' H'->(Its z).stop i H'/\R H'\/(Its z).go i H'/\∃N:St->Hp->Prop,(∀σ2 H2,N σ2 H2->∃m',m' < m/\W (i+1) m' σ2 H2)/\
   ∀x H2,(Its z).yld i H' x H2->g x σ' H2 λσ3 H3=>tt σ3 H3 λb H4=>if b=true then te σ3 H4 λv H5=>∃ys,H5 D=some (.lst ys)/\ys.length < S6/\N σ3 (upd H5 D (.lst (ys++ [v]))) else N σ3 H4:=by
 refine ⟨λi m σ H=>m=z.cps.size - i/\i<=z.cps.size/\Pv i σ H,⟨z.cps.size,by simp,yw _,h0⟩,?_⟩;rintro i m σ H ⟨rfl,hi,p⟩;by_cases hlt:i < z.cps.size
 ·refine .inr ⟨hlt,Pv _,λσ' H' p'=>⟨z.cps.size - _,by omega,rfl,hlt,p'⟩,λx H' y=>?_⟩;obtain ⟨e,c,hcp,y⟩:=y;subst e y;exact hs i c σ _ hcp p
 ·have e:i=z.cps.size:=by omega
  subst e;exact .inl ⟨rfl,hd σ H p⟩
section
variable {X:Cx}
theorem Jvv:OpR X (binaryOp .FloorDiv) (rI (λ_ j=>0 < j/\j.natAbs.log2 < 9000) λi j=>.int (i/j)):=opI λi j _ _ _ _ _ hc q=>floordiv_int (by omega) (by rw [Int.fdiv_eq_ediv_of_nonneg i (by omega)];exact q) (.inl (PyProof.noPylong_of_log2 hc.2))
noncomputable def Slg:V->Option S2
 | .ty n=>some (.type n)
 | .ref a=>some (.ref a)
 |_=>none
theorem Jyd:∀{ys:List Str} {us:List S2},Sv (ys.map V.str) us->StrsAre us ys
 | [],_,.nil=>.nil
 |_::_,_,.cons ⟨_,rfl⟩ t=>.cons _ _ (Jyd t)
inductive Sk6 (K:Sd) (x:V) (xs:List V) (H:Hp) (Q:VK):Prop where
 |mk (z:Str) (a:S1) (ys:List Str) (_:x= .str z) (_:xs= [.ref a]) (_:Ss K H a (ys.map V.str)) (_:(ys.map (·.length)).sum+ys.length*z.length<=16777216) (_:Q (.str (Txt.join z ys)) H)
theorem Ybs:MtR X "str.join" (Sk6 X.K):=by
 rintro pins s σ H x xs v us Q I rx rs ⟨z,a,ys,rfl,rfl,hq,hz,q⟩;obtain ⟨t,rfl⟩:=rx;obtain ⟨u,rfl,ru⟩:=Jlz rs;cases ru;obtain ⟨its,r,pl,_⟩:=I.list hq;exact join_list pl.isList (by simpa using Jyd r) hz λt' k=>⟨.str _,H,I.tok _,⟨_,rfl⟩,q⟩
inductive Sv2 (K:Sd) (xs:List V) (H:Hp) (Q:VK):Prop where
 |mk (a:S1) (bs:List Bool) (_:xs= [.ref a]) (_:Ss K H a (bs.map V.bl)) (_:Q (.bl (bs.all id)) H)
theorem Jku (hc:X.calm=true):Jla X (.builtin "all") (Sv2 X.K):=by
 rintro pins s σ H xs us Q I r ⟨a,bs,rfl,hq,q⟩;obtain ⟨u,rfl,ru⟩:=Jlz r;cases ru;obtain ⟨its,rv,pl,hz⟩:=I.list hq;have hlen:=rv.length;refine call_all_walk (wpAny_pyIter_list pl.isList ⟨s.heap.objs.size,[s.heap.objs.size,a],[s.heap.objs.size],its.toArray.size,_,_,λi=>bs.getD i true,rfl,Walks.list (A:=X.A.in1) (I.ok.hd hc) s.heap.objs.size a ?_ its.toArray,⟨⟨_,yn _ rfl,rfl,rfl⟩,pl.isList.at λo e=>yh _ e⟩,?_,λh' tk k=>?_⟩)
 ·obtain ⟨o,_,e,_⟩:=pl;exact yt (yi e)
 ·intro i v s' Q' E' hv hq';have hv':=by simpa using hv
  have hi:=(yk.mp hv').1;have hb:i < bs.length:=by rw [yf] at hlen;omega
  obtain ⟨u',hu',ru'⟩:=rv.get (by rw [ym,yj hb];rfl);rw [hv'] at hu';cases hu';cases ru';refine wpAny_truthy_bool ?_;have:bs.getD i true=bs[i]:=by rw [ybr,yj hb];rfl
  rw [<-this];exact hq'
 ·have e:((yay its.toArray.size).all λi=>bs.getD i true)=bs.all id:=by
   have hl2:its.toArray.size=bs.length:=by rw [yf] at hlen;rw [yp];exact hlen.symm
   rw [hl2,Bool.eq_iff_iff,yaw,yaw];constructor
   ·intro hh b hb;obtain ⟨i,hi,rfl⟩:=List.getElem_of_mem hb;have:=hh i (ybi.mpr hi);rw [ybr,yj hi] at this;exact this
   ·intro hh i hi;have hi':=ybi.mp hi;rw [ybr,yj hi'];exact hh _ (ybn hi')
  rw [e];exact ⟨.bl _,H,I.kept λb o e=>k b o (λz=>by
   have z':=by simpa using z
   exact absurd (yi e) (by rw [z'];exact yaq _)) (yh _ e),rfl,q⟩
end
mutual
inductive Sb1 (K:Sd) (H:Hp):V->PyData->Prop
 |non:Sb1 K H .non .none
 |bl (b:Bool):Sb1 K H (.bl b) (.bool b)
 |int (i:Int):Sb1 K H (.int i) (.int i)
 |str (z:Str):Sb1 K H (.str z) (.str z)
 |lst {a:S1} {xs:List V} {ds:List PyData}:Ss K H a xs->Sax K H xs ds->Sb1 K H (.ref a) (.list ds)
 |tup {a:S1} {xs:List V} {ds:List PyData}:SqT K H a xs->Sax K H xs ds->Sb1 K H (.ref a) (.tuple ds)
inductive Sax (K:Sd) (H:Hp):List V->List PyData->Prop
 |nil:Sax K H [] []
 |cons {x:V} {d:PyData} {xs:List V} {ds:List PyData}:Sb1 K H x d->Sax K H xs ds->Sax K H (x::xs) (d::ds)
end
section
variable {X:Cx} {pins:List (S1×Obj)} {σ:St} {H:Hp} {s:S3}
mutual
theorem Sb1.reads (I:Sm X pins σ H s):∀{x} {d},Sb1 X.K H x d->∀{v},Su x v->∃as,Reads s.heap v d as
 |_,_,.non,_,r=>by cases r;exact ⟨_,.none⟩
 |_,_,.bl b,_,r=>by cases r;exact ⟨_,.bool b⟩
 |_,_,.int i,_,r=>by obtain ⟨t,rfl⟩:=r;exact ⟨_,.int i t⟩
 |_,_,.str z,_,r=>by obtain ⟨t,rfl⟩:=r;exact ⟨_,.str z t⟩
 |_,_,.lst hq hd,_,r=>by
  cases r;obtain ⟨its,rv,⟨o,n,e,c,dd,dt⟩,_⟩:=I.list hq;obtain ⟨as,ra⟩:=Sax.reads I hd rv;exact ⟨_,.list e c dt (by simpa using ra)⟩
 |_,_,.tup hq hd,_,r=>by
  cases r;obtain ⟨its,rv,⟨o,e,c,n,dt⟩,_⟩:=I.tuple hq;obtain ⟨as,ra⟩:=Sax.reads I hd rv;exact ⟨_,.tuple e c dt (by simpa using ra)⟩
theorem Sax.reads (I:Sm X pins σ H s):∀{xs:List V} {ds:List PyData},Sax X.K H xs ds->∀{us:List S2},Sv xs us->∃as,ReadsAll s.heap us ds as
 |_,_,.nil,_,r=>by cases r;exact ⟨_,.nil⟩
 |_,_,.cons h t,_,r=>by
  cases r with
  |cons r1 r2=>
   obtain ⟨as,ra⟩:=Sb1.reads I h r1;obtain ⟨bs,rb⟩:=Sax.reads I t r2;exact ⟨_,.cons ra rb⟩
end
inductive Sv5 (K:Sd) (neg:Bool) (x:V) (y:V) (H:Hp) (Q:VK):Prop where
 |mk (d:_) (e:_) (_:Sb1 K H x d) (_:Sb1 K H y e) (_:SeqAt.shaped d=true) (_:SeqAt.shaped e=true) (_:Q (.bl (if neg then !PyData.eqv d e else PyData.eqv d e)) H)
theorem Jx2 (hu:X.A.units+64 < cLine):OpR X (compareOp .NotEq) (Sv5 X.K true):=by
 rintro pins s σ H x y v u Q I rx ry ⟨d,e,hd,he,sd,se,q⟩;obtain ⟨as,ra⟩:=hd.reads I rx;obtain ⟨bs,rb⟩:=he.reads I ry;exact ne_dataH ra rb sd se hu (Jkb I q rfl)
end
theorem Jjv:bootBuiltins "isinstance" =some (.builtin "isinstance"):=by decide +kernel
theorem Jkh:bootBuiltins "len" =some (.builtin "len"):=by decide +kernel
theorem Jwi:bootBuiltins "max" =some (.builtin "max"):=by decide +kernel
theorem Jzt:bootBuiltins "min" =some (.builtin "min"):=by decide +kernel
theorem Jlj:bootBuiltins "all" =some (.builtin "all"):=by decide +kernel
theorem Jwh:bootBuiltins "int" =some (.type "int"):=by decide +kernel
theorem Sld:bootBuiltins "str" =some (.type "str"):=by decide +kernel
theorem Jty:bootBuiltins "bool" =some (.type "bool"):=by decide +kernel
theorem Jlg:bootBuiltins "list" =some (.type "list"):=by decide +kernel
theorem Jm9:bootBuiltins "tuple" =some (.type "tuple"):=by decide +kernel
structure FT (K:Sd) (mg:Str->Option S2) (x:Str) (st:Stmt) (ps:List Str) (f:S1) (fd:S8):Prop where
 mgx:mg x=some (.ref f)
 fn:Fun K x x st f fd
 bd:Sbu K fd ps []
section
variable {X:Cx} {x:Str} {st:Stmt} {ps:List Str} {f:S1} {fd:S8} {sp:Sp} {k j:Nat} {p pos:Pos} {e:Expr} {es:List Expr} {t:TA}
theorem Jji (F:FT X.K X.mg x st ps f fd) (G:Sr X.prog X.w X.K X.mg X.base CX0 k f fd ps sp) (hr:Sai j X.A) (hk:k<=j) (ha:PA X (e::es) t) (hg:Gl X x:=by rfl) (hdb:(x==("__debug__" :Str))=false:=by decide)
  (he:starEach (e::es) X.env=(false,eval e X.env)::starEach es X.env:=by rfl) (hpl:(backTo pos (starEach es X.env)).any (·.1)=false:=by rfl):PE X (.Call (.Name x p) (e::es) [] pos) (Skb sp [] E0 t):=
 Yc0 G (hr.mono hk) hg F.mgx F.fn.kp F.bd .nil Jox ha hdb he hpl
end
theorem Si.upd (h:H D=none):Si H (upd H D o):=λb u e=>by rw [Sy (Jjm e h)];exact e
noncomputable def Sb7 (H:Hp) (p:S1):Prop:=∃a b c:Int,H p=some (.lst [.int a,.int b,.int c])
noncomputable def But (p:S1) (H H':Hp):Prop:=(∀b o,b≠p->H b=some o->H' b=some o)/\Sb7 H' p
theorem But.trans (a:But p H H1) (b:But p H1 H2):But p H H2:=⟨λc o n e=>b.1 c o n (a.1 c o n e),b.2⟩
theorem But.refl (s:Sb7 H p):But p H H:=⟨λ_ _ _ e=>e,s⟩
theorem But.same (a:But p H H1) (b:Si H1 H2):But p H H2:=⟨λc o n e=>b c o (a.1 c o n e),let ⟨x,y,z,e⟩:=a.2;⟨x,y,z,b p _ e⟩⟩
theorem Sb7.same (a:Sb7 H p) (b:Si H H1):Sb7 H1 p:=by obtain ⟨x,y,z,e⟩:=a;exact ⟨x,y,z,b p _ e⟩
theorem But.of (a:Sb7 H p) (b:Si H H1):But p H H1:=(But.refl a).same b
theorem But.free (s:Sb7 H p) (b:But p H H') (h:H' D=none):H D=none:=by
 by_cases e:D=p
 ·obtain ⟨x,y,z,q⟩:=b.2;rw [e,q] at h;cases h
 ·cases q:H D with
  |none=>rfl
  |some o=>
   rw [b.1 D o e q] at h;cases h
theorem But.updD (b:But p H H') (hD:H D=none) (ne:D≠p):But p H (upd H' D o):=by
 refine ⟨λc u n e=>?_,?_⟩
 ·rw [Sy (Jjm e hD)];exact b.1 c u n e
 ·obtain ⟨x,y,z,q⟩:=b.2;exact ⟨x,y,z,by rw [Sy (yu ne)];exact q⟩
theorem Sb7.ne (s:Sb7 H p) (hD:H D=none):D≠p:=by
 obtain ⟨x,y,z,q⟩:=s;exact (Jjm q hD).symm
theorem Jls (s:Sb7 H p) (h:H a=some o) (hn:∀x y z:Int,o≠ .lst [.int x,.int y,.int z]):a≠p:=by
 intro e;obtain ⟨x,y,z,q⟩:=s;rw [e,q] at h;exact hn x y z (yah.inj h).symm
inductive Smz (vs:List V) (H:Hp) (Q:VK) (z3:XK):Prop where
 |mk (p:S1) (m:Int) (_:vs= [.ref p,.int m]) (_:Sb7 H p) (_:0 < m) (_:m.natAbs.log2 < 9000) (_:∀(r:Int) (H':Hp),0<=r->r < m->But p H H'->Q (.int r) H')
inductive Yak (vs:List V) (H:Hp) (Q:VK) (z3:XK):Prop where
 |mk (c:Int) (_:vs= [.int c]) (_:∀(p:S1) (H':Hp),H p=none->Si H H'->Sb7 H' p->Q (.ref p) H')
inductive Smn (K:Sd) (vs:List V) (H:Hp) (Q:VK) (z3:XK):Prop where
 |mk (a:S1) (ns:List Int) (k:Nat) (_:vs= [.ref a,.int k]) (_:Ss K H a (ns.map V.int)) (_:∀n:Int,Q (.int n) H)
theorem Jwf {i:Int} {j:Nat} (hi:i=j) (h:xs[j]?=some v):atI xs i=some v:=by rw [hi];exact Jpf h
theorem Ju7 {ns:List Int} {k:Nat} (h):atI (ns.map V.int) (k)=some (.int ns[k]):=Jpf (by rw [ym,yj h];rfl)
theorem Jog (hr:Sai k A):A.units+64 < cLine:=hr.units
end L2
namespace L2
open PySem PySem.Spec PyProof.Rows Builtin Builtin.ObjectAttr
noncomputable abbrev VEm:List S2:=[.type "ValueError",.type "Exception",.type "BaseException",.type "object"]
noncomputable def xcB (K:Sd) (C fI:S1):Bool:=
 Sf K (.ref C) "__getattribute__" ==some (some (.builtin "BaseException.__getattribute__"))&&Sf K (.ref C) "__getattr__" ==some none&&Sf K (.ref C) "__setattr__" ==some (some (.builtin "object.__setattr__"))&&
 Sf K (.ref C) "__init__" ==some (some (.ref fI))&&PySem.W.typeIn K (.ref fI)==some (.type "function")&&PySem.W.keepIn K (.ref C)&&PySem.W.hasDictIn K C&&Sg K C (.type "BaseException")==some true&&Sg K C (.type "object")==some true&&
 Sf K (.ref C) "__class__" ==some (some (.builtin "object.__class__"))&&PySem.W.specialIn K (.builtin "object.__class__") "__get__" ==some (some (.builtin "getset_descriptor.__get__"))&&PySem.W.takesIn K (.builtin "object.__class__")==some true
structure Saj (K:Sd) (C W fI:S1):Prop where
 obj:∃(nm q:Str) (N:S1) (bs:List S2) (sn:List Str) (sub:List S2) (ab:Bool) (col:Option Bool) (dd:Option S1) (k0 k1 k2 k3 k5:Option S2),
  K.lookup C=some (excClassObj nm q C N bs (.ref W::VEm) true sn sub ab col dd k0 k1 k2 k3 k5 "ValueError.__new__")
 tl:PySem.W.tailIn K VEm (.ref W::VEm)=true
 all:xcB K C fI=true
theorem Jl4 {K} (h:xcB K C fI=true):
  (Sf K (.ref C) "__getattribute__" =some (some (.builtin "BaseException.__getattribute__"))/\Sf K (.ref C) "__getattr__" =some none/\Sf K (.ref C) "__setattr__" =some (some (.builtin "object.__setattr__")))/\
  (Sf K (.ref C) "__init__" =some (some (.ref fI))/\PySem.W.typeIn K (.ref fI)=some (.type "function")/\PySem.W.keepIn K (.ref C)=true/\PySem.W.hasDictIn K C=true)/\Sg K C (.type "BaseException")=some true/\Sg K C (.type "object")=some true/\
  Sf K (.ref C) "__class__" =some (some (.builtin "object.__class__"))/\PySem.W.specialIn K (.builtin "object.__class__") "__get__" =some (some (.builtin "getset_descriptor.__get__"))/\PySem.W.takesIn K (.builtin "object.__class__")=some true:=by
 unfold xcB at h;simp only [yag,beq_iff_eq] at h;obtain ⟨⟨⟨⟨⟨⟨⟨⟨⟨⟨⟨a,b⟩,c⟩,d⟩,e⟩,f⟩,g⟩,i⟩,j⟩,k⟩,l⟩,m⟩:=h;exact ⟨⟨a,b,c⟩,⟨d,e,f,g⟩,i,j,k,l,m⟩
section
variable {K:Sd} {C W fI:S1} (c:Saj K C W fI)
include c
theorem Saj.ga:Sf K (.ref C) "__getattribute__" =some (some (.builtin "BaseException.__getattribute__")):=(Jl4 c.all).1.1
theorem Saj.gh:Sf K (.ref C) "__getattr__" =some none:=(Jl4 c.all).1.2.1
theorem Saj.sa:Sf K (.ref C) "__setattr__" =some (some (.builtin "object.__setattr__")):=(Jl4 c.all).1.2.2
theorem Saj.ini:Sf K (.ref C) "__init__" =some (some (.ref fI)):=(Jl4 c.all).2.1.1
theorem Saj.fn:PySem.W.typeIn K (.ref fI)=some (.type "function"):=(Jl4 c.all).2.1.2.1
theorem Saj.kp:PySem.W.keepIn K (.ref C)=true:=(Jl4 c.all).2.1.2.2.1
theorem Saj.mb:Sg K C (.type "BaseException")=some true:=(Jl4 c.all).2.2.1
theorem Saj.mo:Sg K C (.type "object")=some true:=(Jl4 c.all).2.2.2.1
theorem Saj.cl:Sf K (.ref C) "__class__" =some (some (.builtin "object.__class__")):=(Jl4 c.all).2.2.2.2.1
theorem Saj.cg:PySem.W.specialIn K (.builtin "object.__class__") "__get__" =some (some (.builtin "getset_descriptor.__get__")):=(Jl4 c.all).2.2.2.2.2.1
theorem Saj.ct:PySem.W.takesIn K (.builtin "object.__class__")=some true:=(Jl4 c.all).2.2.2.2.2.2
end
theorem Jzm (self) (C W):refuseLoop self "__setattr__" (.ref C:: .ref W::VEm)=pure ():=by
 rw [refuseLoop_ref,refuseLoop_ref];exact PySem.F.store_ValueError.passes self
theorem Saj.mro {K} (c:Saj K C W fI):∃cd,PySem.W.clsIn K C=some cd/\cd.mro= .ref C:: .ref W::VEm/\cd.hasDict=true:=by
 obtain ⟨nm,q,N,bs,sn,sub,ab,col,dd,k0,k1,k2,k3,k5,l⟩:=c.obj;unfold PySem.W.clsIn;rw [l];exact ⟨_,rfl,rfl,rfl⟩
section
variable {prog:S7} {w:S9} {A:Sa} {E:S2->S3->Prop} {s:S3} {K:Sd} {x C W fI:S1} {ox:Obj} {od:Option Obj} {name:Str}
theorem Yd4:builtinKind "BaseException.__getattribute__" =some .slot:=by decide +kernel
theorem Yb4:splitId "BaseException.__getattribute__" =some ("BaseException","__getattribute__"):=by decide +kernel
theorem Yd3 {tk} {R} (c:Saj K C W fI) (X:K.In s.heap) (I:PySem.W.InstAt s.heap x ox C od) (hf:PySem.W.findObj K C od name=some r)
  (h:Sc (model prog w) A.in1 (match r with| .value v=>ret v| .bind g b=>bindTo g b (.ref x) (.ref C)| .missing=>unsupported "none")
   (λfin s'=>match fin with| .done f=>R (.ok f) s'| .again c'=>c'.quiet=true/\codeAny (model prog w) A c' R s') (λe s'=>R (.error e) s') s) (hr:r≠ .missing):
  codeAny (model prog w) A (.call (.builtin "BaseException.__getattribute__") ⟨[.ref x,.str name tk],[]⟩) R s:=by
 have T0:=I.type (M:=model prog w);have T4:PySem.W.Looks (model prog w) s.heap (isInstance (.ref x) (.type "BaseException")) true:=T0.andThen (PySem.W.looks_mroIn X c.mb);have ck:=λ{Q' E' A'} q=>
  @PySem.W.check_slot (model prog w) A' E' s "BaseException.__getattribute__" "BaseException" "__getattribute__" (.ref x) [.str name tk] [] Q' Yd4 Yb4 T4 (F.args_bexc_ga (.ref x) (.str name tk)) q
 refine codeAny_call_builtin F.excAttr_ValueError.ga.plain F.entry_bexc_ga (ck (S4 (S5 (S4 (S5 (S4 (T0.here (S4 ((PySem.W.looks_find X I hf).here ?_)))))))));cases r with
 |missing=>exact absurd rfl hr
 |value v=>exact h
 |bind gg b=>exact h
end
section
variable {prog:S7} {w:S9} {A:Sa} {E:S2->S3->Prop} {s:S3} {K:Sd} {x C W fI:S1} {ox:Obj} {od:Option Obj} {name:Str} {v:S2}
theorem Sno (c:Saj K C W fI) (X:K.In s.heap) (I:PySem.W.InstAt s.heap x ox C od) (hn:Sf K (.ref C) name=some none)
  (h:Sc (model prog w) A.in1 (storeInOwnDict (.ref x) (.ref C) (.str name tk) name v false)
   (λfin s'=>match fin with| .done f=>R (.ok f) s'| .again c'=>c'.quiet=true/\codeAny (model prog w) A c' R s') (λe s'=>R (.error e) s') s):
  codeAny (model prog w) A (.call (.builtin "object.__setattr__") ⟨[.ref x,.str name tk,v],[]⟩) R s:=by
 have SF:=PySem.F.store_object;obtain ⟨cd,hc,hm,_⟩:=c.mro;have T0:=I.type (M:=model prog w);have sub:PySem.W.Looks (model prog w) s.heap (isInstance (.ref x) (.type "object")) true:=T0.andThen (PySem.W.looks_mroIn X c.mo);have hmr:PySem.W.Looks (model prog w) s.heap (mroOf (.ref C)) cd.mro:=(PySem.W.looks_clsIn X hc).andThen .now;refine codeAny_call_builtin SF.slot.plain SF.entry (@PySem.W.check_slot (model prog w) _ _ s "object.__setattr__" "object" "__setattr__" (.ref x) [.str name tk,v] [] _ SF.kind SF.split sub (SF.args (.ref x) (.str name tk) v) ?_);rw [PySem.W.osa_eq,refuse_eq];refine S4 (S4 (T0.here (S4 (hmr.here ?_))));rw [hm,Jzm];exact S5 (S4 (T0.here (S4 ((PySem.W.looks_findIn X hn).here (S4 (S5 h))))))
theorem Jxm (c:Saj K C W fI) (X:K.In s.heap) (hx:s.heap.get? x=some ox) (hcl:ox.cls= .ref C) (hdi:ox.dict=none) (hd:ox.data= .fields vs) (hn:Sf K (.ref C) name=some none)
  (h:∀h',(∀b u,b≠x->s.heap.get? b=some u->h'.get? b=some u)->h'.get? x=some {ox with dict:=some s.heap.objs.size}->h'.Ns1 s.heap.objs.size (λy=>if y=name then some v else none)->Q () {s with heap:=h',toks:=s.toks+2}):
  Sc (model prog w) A (setAttr (.ref x) name v) Q E s:=by
 have I:PySem.W.InstAt s.heap x ox C none:=⟨hx,hcl,by unfold PySem.W.notCls;rw [hd],by rw [hdi];trivial⟩;obtain ⟨cd,hc,_,hdct⟩:=c.mro;refine PySem.W.set_plain X I c.sa (Sno c X I hn ?_);obtain ⟨oc,odi,oda,osl⟩:=ox;subst hcl hdi hd;refine S4 (S5 (S4 (S4 (wpAny_loadPart hx (S4 (PySem.W.Looks.here (PySem.W.looks_clsIn X hc) ?_))))));rw [hdct];have e1:(s.heap.push {cls:=.type "dict",data:=.dict #[]}).get? x=some ⟨.ref C,none,.fields vs,osl⟩:=yh _ hx;have nx:=ybd (yi hx);have n0:(s.heap.push {cls:=.type "dict",data:=.dict #[]}).Ns s.heap.objs.size (λ_=>none):=⟨_,#[],_,yn s.heap rfl,rfl,(λe he=>absurd he (by simp)),λ_=>rfl⟩;refine S4 (wpAny_alloc (S4 (wpAny_update e1 ?_)));have n1:((s.heap.push {cls:=.type "dict",data:=.dict #[]}).update x λo=>{o with dict:=some s.heap.objs.size}).Ns1 s.heap.objs.size (λ_=>none):=
  (Heap.Ns1.of_empty n0).at λo q=>by rw [ybl _ _ (yu nx)];exact q
 refine S5 (S4 (S5 (S4 (wpAny_nsSet1 n1 λh' n2 sb=>?_))));obtain ⟨oD,esD,epD,hoD,hdD,hcD⟩:=n2.count (PySem.Within.cons name v PySem.Within.nil);refine S4 (wpAny_lookBehind hoD (by rw [hdD];exact pastItsLine_dict (yae hcD (Nat.le_add_left 1 S6))) (S5 (h h' (λb u hb q=>?_) ((sb.2 _ (yu nx)).trans (ybc (λo=>{o with dict:=some s.heap.objs.size}) e1 rfl)) n2)));rw [sb.2 b (yt (yi q)),ybl _ _ (yu hb)];exact yh _ q
end
noncomputable abbrev Sjb (us:List S2):Obj:={cls:=.type "tuple",data:=.seq us.toArray}
noncomputable abbrev Sja (C:S1) (t:S1):Obj:={cls:=.ref C,data:=.fields #[.ref t,.none,.none,.none,.bool false,.none]}
section
variable {prog:S7} {w:S9} {A:Sa} {E:S2->S3->Prop} {K:Sd} {C W fI:S1} {us:List S2} {hp:Sb} {g:Array GenState} {d:Drawn} {t:Nat} {os:OsState}
theorem Yb5 (c:Saj K C W fI) (X:K.In hp) (hz:us.length<=S6)
  (h:Sc (model prog w) A (call (.ref fI) (.ref (hp.objs.size+1)::us)) (λr s'=>r= .none/\Q (.done (.ret (.ref (hp.objs.size+1)))) s') E ⟨(hp.push (Sjb us)).push (Sja C hp.objs.size),g,d,t,os⟩):
  Sc (model prog w) A (Builtin.«type.__call__» ⟨.ref C::us,[]⟩) Q E ⟨hp,g,d,t,os⟩:=by
 obtain ⟨nm,q,N,bs,sn,sub,ab,col,dd,k0,k1,k2,k3,k5,l⟩:=c.obj;have FV:=F.excBase_ValueError;have kC:=X _ _ l;have TL:=PySem.W.tail_of_in X c.tl;have up:∀b o,hp.get? b=some o->((hp.push (Sjb us)).push (Sja C hp.objs.size)).get? b=some o:=λb o e=>yh _ (yh _ e);have X2:=X.keeps up;have kC2:=X2 _ _ l;have hcC:(Value.ref C:: .ref W::VEm).contains (.ref C)=true:=by simp
 repeat (first|with_reducible refine wpAny_loadPart_at kC ?_|with_reducible refine wpAny_madeBy_exc kC ?_|wp_step)
 refine codeAny_call_builtin_code (Code.quiet_builtin _ FV.quiet) (wpAny_check_new_subT FV TL kC (codeAny_exc_new_subT FV TL kC ?_ hz))
 repeat (first|with_reducible refine wpAny_loadPart_at gE ?_|(with_reducible refine wpAny_isSubtype_exc kC2 ?_;rw [hcC])|wp_step)
 refine (PySem.W.looks_findIn X2 c.ini).at (wpAny_holding (S4 ((PySem.W.bind_fn X2 _ c.fn).at (S4 (wpAny_mono h (λr s' hr=>?_) λ_ _ z=>z)))));obtain ⟨rfl,hQ⟩:=hr
 wp_walk
 exact hQ
theorem Yd5 {s:S3} {Q} (c:Saj K C W fI) (X:K.In s.heap) (hz:us.length<=S6)
  (h:Sc (model prog w) (A.under (.builtin "type.__call__" ⟨.ref C::us,[]⟩)) (call (.ref fI) (.ref (s.heap.objs.size+1)::us)) (λr s'=>r= .none/\Q (.ref (s.heap.objs.size+1)) s') E {s with heap:=(s.heap.push (Sjb us)).push (Sja C s.heap.objs.size)}):
  Sc (model prog w) A (call (.ref C) us) Q E s:=by
 obtain ⟨hp,g,d,t,os⟩:=s;obtain ⟨nm,q,N,bs,sn,sub,ab,col,dd,k0,k1,k2,k3,k5,l⟩:=c.obj;have kC:=X _ _ l;have v1:=tc_lookup;have v2:=tc_bind (.ref C);have hT:(⟨hp,g,d,t,os⟩:S3).TypeIs (.ref C) "type" :=⟨_,kC,rfl⟩;refine wpAny_call (codeAny_of_tree ?_)
 repeat (any_goals (first|assumption|with_reducible refine wpAny_loadPart_at kC ?_|wp_step))
 exact ⟨rfl,codeAny_call_builtin_at (Code.quiet_builtin _ (by decide +kernel)) entry_typeCall (wpAny_check_type_call_sub kC (Yb5 c X hz h))⟩
end
end L2
namespace L2
open PySem PySem.Spec PyProof.Rows
noncomputable def XO (e C:S1) (dx:Option S1) (fr:Bool):HO:=.ext λh=>∃o vs,h.get? e=some o/\o.cls= .ref C/\o.dict=dx/\o.data= .fields vs/\(∃t,vs[0]?=some (.ref t))/\∃y,vs[1]?=some y/\(fr=true->y= .none)
noncomputable def XD (dx:S1) (fs:List (Str×V)):HO:=.ext λh=>∃mA,h.Ns1 dx mA/\(∀f,Sc1 (fs.lookup f) (mA f))/\PySem.Within mA (fs.map (·.1))/\fs.length<=1000
section
variable {P:S7} {w:S9} {H:Hp} {h:Sb} {e C dx:S1} {od:Option S1} {fr:Bool} {fs:List (Str×V)}
theorem Yb6 (he:h.get? e=some o) (h1:o.cls= .ref C) (h2:o.dict=od) (h3:o.data= .fields vs) (h4:∃t,vs[0]?=some (.ref t)) (h5:∃y,vs[1]?=some y/\(fr=true->y= .none)):Sac P w H h e (XO e C od fr):=
 ⟨⟨o,vs,he,h1,h2,h3,h4,h5⟩,⟨o,he⟩,λ_ _ ⟨o,vs,a,r⟩ k=>⟨o,vs,k o a,r⟩⟩
theorem Jv3 (hok:HOk P w H h) (q:H e=some (XO e C od fr)):∃o vs,h.get? e=some o/\o.cls= .ref C/\o.dict=od/\o.data= .fields vs/\(∃t,vs[0]?=some (.ref t))/\∃y,vs[1]?=some y/\(fr=true->y= .none):=(hok e _ q).1
theorem Sqy (n:h.Ns1 dx mA) (r:∀f,Sc1 (fs.lookup f) (mA f)) (w':PySem.Within mA (fs.map (·.1))) (z:fs.length<=1000):Sac P w H h dx (XD dx fs):=
 ⟨⟨mA,n,r,w',z⟩,(let ⟨o,_,_,q,_⟩:=n;⟨o,q⟩),λ_ _ ⟨m,a,r⟩ k=>⟨m,a.at k,r⟩⟩
theorem Snp (hok:HOk P w H h) (q:H dx=some (XD dx fs)):∃mA,h.Ns1 dx mA/\(∀f,Sc1 (fs.lookup f) (mA f))/\PySem.Within mA (fs.map (·.1))/\fs.length<=1000:=(hok dx _ q).1
theorem Yd6 (hok:HOk P w H h) (q:H e=some (XO e C (some dx) fr)) (qd:H dx=some (XD dx fs)):∃(ox oD:Obj) (mA:Str->Option S2),PySem.W.InstAt h e ox C (some oD)/\(∀n,PySem.W.lookIn n oD=some (mA n))/\∀f,Sc1 (fs.lookup f) (mA f):=by
 obtain ⟨o,vs,he,hc,hd,hf,_⟩:=Jv3 hok q;obtain ⟨mA,n1,r,_⟩:=Snp hok qd;obtain ⟨oD,hD,hl⟩:=Jtf n1;exact ⟨o,oD,mA,⟨he,hc,by unfold PySem.W.notCls;rw [hf],by rw [hd];exact hD⟩,hl,r⟩
end
section
variable {X:Cx} {pins:List (S1×Obj)} {σ:St} {H:Hp} {s:S3} {e C W fI dx:S1} {fs:List (Str×V)} {fr:Bool} {f:Str} {v:V} {A:Sa} {E:S2->S3->Prop}
theorem Yb7 (I:Sm X pins σ H s) (q:H e=some (XO e C none fr)) (c:Saj X.K C W fI) (n:NoAttr X.K C f) (ry:Su y u)
  (h:∀dx s',H dx=none->dx≠e->Sm X pins σ (upd (upd H dx (XD dx [(f,y)])) e (XO e C (some dx) fr)) s'->Q () s'):Sc (model X.prog X.w) A (setAttr (.ref e) f u) Q E s:=by
 obtain ⟨o,vs,he,hc,hd,hf,h0,h1⟩:=Jv3 I.hok q;have hn:=I.hok.fresh (yg _);refine Jxm c I.kIn he hc hd hf n λh' kp ke n1=>h s.heap.objs.size _ hn (ybd (yi he)) ?_;have qd:∀m:Hp,Sac X.prog X.w m h' s.heap.objs.size (XD s.heap.objs.size [(f,y)]):=λm=>Sqy n1 (λg=>by
  by_cases z:g=f
  ·have zb:=beq_iff_eq.mpr z;simp only [ybk,zb,if_pos z];exact ry
  ·have zb:=beq_eq_false_iff_ne.mpr z;simp only [ybk,zb,if_neg z];exact True.intro) (λg hg=>by
  by_cases z:g=f
  ·rw [z];simp
  ·exact absurd (if_neg z) hg) (by simp)
 have un1:Un X.fs [] H (upd (upd H s.heap.objs.size (XD s.heap.objs.size [(f,y)])) e (XO e C (some s.heap.objs.size) fr)) s.heap h':=by
  have nb:∀b ob,s.heap.get? b=some ob->b≠s.heap.objs.size:=λb ob z=>yt (yi z);have sm:∀b u',H b=some u'->u'≠XO e C none fr->upd (upd H s.heap.objs.size (XD s.heap.objs.size [(f,y)])) e (XO e C (some s.heap.objs.size) fr) b=some u':=λb u' z d=>by
   rw [Sy (λw':b=e=>d (by rw [w',q] at z;exact (yah.inj z).symm)),Sy (Jjm z hn)];exact z
  refine ⟨λb ob z n _ _=>kp b ob (λw'=>by rw [w',q] at n;cases n) z,λb ob z n _ _=>⟨ob.slots,kp b ob (λw'=>by rw [w',q] at n;cases n) z⟩,λb ob z n _=>?_,λb ob z _=>?_,λb xs z=>sm b _ z (λw'=>by cases w'),λb ob u' z=>sm b _ z (λw'=>by cases w'),λb ps z=>⟨#[],by rw [sm b _ z (λw'=>by cases w')];simp⟩⟩
  ·rw [Sy (λw'=>by rw [w',q] at n;cases n),Sy (nb b ob z)];exact n
  ·by_cases w':b=e
   ·exact ⟨_,by rw [w'];exact ke⟩
   ·exact ⟨ob,kp b ob w' z⟩
 refine I.un un1 λb ob z=>?_;by_cases w1:b=e
 ·subst w1;rw [So] at z;cases z;exact Yb6 ke hc rfl hf h0 h1
 ·rw [Sy w1] at z;by_cases w2:b=s.heap.objs.size
  ·subst w2;rw [So] at z;cases z;exact qd _
  ·rw [Sy w2] at z;have keep:∀c' u',H c'=some u'->u'≠XO e C none fr->upd (upd H s.heap.objs.size (XD s.heap.objs.size [(f,y)])) e (XO e C (some s.heap.objs.size) fr) c'=some u':=λc' u' zz d=>by
    rw [Sy (λw':c'=e=>d (by rw [w',q] at zz;exact (yah.inj zz).symm)),Sy (Jjm zz hn)];exact zz
   refine (I.hok b ob z).stay (λc' v' hc' zz=>kp c' v' ?_ zz) (λc' zz=>keep c' _ zz (λw'=>by cases w')) (λc' xs zz=>keep c' _ zz (λw'=>by cases w')) λc' xs zz=>keep c' _ zz (λw'=>by cases w');rcases hc' with rfl|hc'
   ·exact w1
   ·rintro rfl;rw [q] at hc';cases hc'
theorem Sm.xmade (I:Sm X pins σ H s):Sm X pins σ (upd H (s.heap.objs.size+1) (XO (s.heap.objs.size+1) C none true)) {s with heap:=(s.heap.push (Sjb us)).push (Sja C s.heap.objs.size)}:=by
 refine (I.kept (t':=s.toks) λb u q=>yh _ q).laid (λb u q=>yh _ q) (Nat.le_of_eq (yar _ _)) ?_;exact Yb6 (Heap.get?_push_at (by simp only [yar]) rfl) rfl rfl rfl ⟨_,rfl⟩ ⟨_,rfl,λ_=>rfl⟩
end
noncomputable def Sq4 (K:Sd) (ta tv:TE) (f:Str):TS:=λD σ H=>tv σ H λy H1=>ta σ H1 λx H2=>∃e C W fI fr,x= .ref e/\H2 e=some (XO e C none fr)/\Saj K C W fI/\NoAttr K C f/\∀dx,H2 dx=none->dx≠e->
 D.nx σ (upd (upd H2 dx (XD dx [(f,y)])) e (XO e C (some dx) fr))
noncomputable def Sqp (C:S1) (sp:Sp) (t:TA):TE:=λσ H Q=>t σ H λvs H1=>vs.length<=1000/\∀e,H1 e=none->sp (.ref e::vs) (upd H1 e (XO e C none true)) (λv H2=>v= .non/\Q (.ref e) H2) E0
section
variable {X:Cx} {o e value:Expr} {f:Str} {pos pos' tpos p:Pos} {ta tv:TE} {C W fI:S1} {fd:S8} {ps:List Str} {sp:Sp} {k j:Nat} {x:Str} {es:List Expr} {t:TA}
theorem Jng (ha:PE X o ta) (hv:PE X value tv) (hs:swapsWith value (some (.Attribute o f pos')) pos.line X.env=pure false):PS X (.Assign [.Attribute o f pos'] value pos) (Sq4 X.K ta tv f):=by
 intro pins s σ H D I h;refine plainObj_wpAny_Assign_Attribute (thn (hv pins s σ H _ I h) λu s1 ⟨y,H1,I1,ry,q⟩=>thn (ha pins s1 σ H1 _ I1 q) λov s2 zq=>?_) hs;obtain ⟨x,H2,I2,rx,a,C,W,fI,fr,ex,ea,c,n,q2⟩:=zq;subst ex;obtain rfl:ov=Value.ref a:=rx;exact Yb7 I2 ea c n ry λdx s3 h1 h2 I3=>⟨σ,_,I3,q2 dx h1 h2⟩
theorem Yce {σ:St} {H} {s} {Q} {us} {vs} (c:Saj X.K C W fI) (G:Sr X.prog X.w X.K X.mg X.base CX0 k fI fd ps sp) (hr:Sai (k+1) X.A) (hb:Sbu X.K fd ps []) (I:Sm X pins σ H s) (r:Sv vs us) (hz:vs.length<=1000)
  (h:∀e,H e=none->sp (.ref e::vs) (upd H e (XO e C none true)) (λv H2=>v= .non/\Q (.ref e) H2) E0):Sc (model X.prog X.w) X.A (call (.ref C) us) (EP X pins σ Q) X.xe s:=by
 have hq:=h (s.heap.objs.size+1) (I.hok.fresh (Nat.le_succ _));have I2:=Sm.xmade (C:=C) (us:=us) I;have r2:Sv (V.ref (s.heap.objs.size+1)::vs) (Value.ref (s.heap.objs.size+1)::us):=.cons rfl r;have hl:(Value.ref (s.heap.objs.size+1)::us++ []).length=ps.length:=by
  rw [ybg,<-r2.length,G.len _ _ _ _ hq]
 refine Yd5 c I.kIn (by rw [<-r.length];exact yae hz (by decide)) (wpAny_call (codeAny_mono (G.run _ X.stack _ _ ⟨Value.ref (s.heap.objs.size+1)::us,[]⟩ (Value.ref (s.heap.objs.size+1)::us) _ _ E0 (hr.make C us [])
  (I2.env0.make C us []) (by have:=hb _ (Value.ref (s.heap.objs.size+1)::us) I2.kIn hl;rw [ybg] at this;exact this) r2 hq) λr s' hq'=>?_))
 cases r with
 |error e=>exact False.elim hq'
 |ok fl=>
  cases fl with
  |ret u=>
   obtain ⟨v,H',I3,rv,ev,q3⟩:=I2.after hq';subst ev;exact ⟨rv,⟨V.ref (s.heap.objs.size+1),H',I3,rfl,q3⟩⟩
  |next=>exact False.elim hq'
  |brk=>exact False.elim hq'
  |cont=>exact False.elim hq'
theorem Jlt (c:Saj X.K C W fI) (G:Sr X.prog X.w X.K X.mg X.base CX0 k fI fd ps sp) (hr:Sai j X.A) (hk:k+1<=j) (hb:Sbu X.K fd ps []) (hm:X.mg x=some (.ref C)) (ha:PA X (e::es) t) (hg:Gl X x:=by rfl)
  (hdb:(x==("__debug__" :Str))=false:=by decide) (he:starEach (e::es) X.env=(false,eval e X.env)::starEach es X.env:=by rfl) (hpl:(backTo pos (starEach es X.env)).any (·.1)=false:=by rfl):
  PE X (.Call (.Name x p) (e::es) [] pos) (Sqp C sp t):=by
 intro pins s σ H Q I h;exact wpAny_Call_Name_kw (Joi I hg hm (PySem.W.callWith_K I.ok.mod.kin c.kp (thn (ha pos pins s σ H _ I h) λus s1 ⟨vs,H1,I1,r,z,q⟩=>⟨I1.kIn,Yce c G (hr.mono hk) hb I1 r z q⟩) he hpl) hdb)
end
section
variable {K:Sd} {C W fI:S1} {x:S1}
theorem Sw2 (c:Saj K C W fI):PySem.W.KitX K (.ref x) (.ref C) (λh=>∃ox od,PySem.W.InstAt h x ox C (some od)) where
 ty:=λ_ _ _ ⟨_,_,I⟩=>I.type
 it:=λ_ _ X _=>by
  obtain ⟨nm,q,N,bs,sn,sub,ab,col,dd,k0,k1,k2,k3,k5,l⟩:=c.obj;intro A' Q' E' s' k q;exact S4 (wpAny_loadPart (k _ _ (X _ _ l)) (S5 q))
 ne:=λh tp dd its n sl X htp=>by
  obtain ⟨nm,q,N,bs,sn,sub,ab,col,dd,k0,k1,k2,k3,k5,l⟩:=c.obj;refine Bool.eq_false_iff.mpr λz=>?_;have e:=Value.ref.inj (beq_iff_eq.mp z);subst e;have z:=congrArg (Option.map (·.cls)) ((X _ _ l).symm.trans htp);simp at z
 ca:=λ{prog w A E Q s} X ⟨ox,od,I⟩ kq=>by
  have hf:PySem.W.findObj K C (some od) "__class__" =some (.bind (.builtin "getset_descriptor.__get__") (.builtin "object.__class__")):=PySem.W.findObj_data (by obtain ⟨cd,hc,_⟩:=c.mro;rw [hc];rfl) c.cl c.cg c.ct;obtain ⟨hp,g,d,t,os⟩:=s;refine S4 (wpAny_mkText (S4 (wpAny_attempt (wpAny_holding (S4 ((I.type).at (S4 ((PySem.W.looks_findIn X c.ga).at (S4 ((PySem.W.looks_findIn X c.gh).at ?_))))))))));show Sc _ _ ((holding _ (boundAndCalled (.builtin "BaseException.__getattribute__") (.ref x) (.str "__class__" t))).attempt >>=_) _ _ _;unfold boundAndCalled;rw [F.excAttr_ValueError.ga.bind];exact S4 (wpAny_attempt (wpAny_holding (S4 (S5 (wpAny_call (Yd3 c X I hf (S4 (wpAny_holding (wpAny_call (PySem.W.class_get X I c.mo (S5 (S5 (S5 kq))))))) (λz=>nomatch z)))))))
end
section
variable {M:Model} {A:Sa} {E:S2->S3->Prop} {s:S3} {env:Env} {outer:List Env} {base:Sb} {L e T:S1} {oe oT:Obj} {vs ts:Array S2} {Q:Unit->S3->Prop}
theorem Jth {hadNext} (hfr:A.frames=some (env::outer)) (hl:s.heap.FunFrames base (env::outer)) (hf:env.frame=some L) (he:s.heap.get? e=some oe) (hd:oe.data= .fields vs) (hz:1 < vs.size)
  (hQ:∀h' T,(∀b o,s.heap.get? b=some o->b∉frs (env::outer)->b≠e->h'.get? b=some o)->(∀b o,s.heap.get? b=some o->b≠e->∃sl,h'.get? b=some {o with slots:=sl})->s.heap.objs.size<=T->
   h'.get? e=some (oe.mapFields (·.setIfInBounds 1 (.ref T)))->(∃oT ts,h'.get? T=some oT/\oT.data= .fields ts/\ts[3]?=some (rawInt L))->Q () {s with heap:=h'}):
  Sc M A (do let a<-frameOf env;let pl<-entryPlaceOf L hadNext;let b<-EntryCells.newEntry head a .none (rawInt L) .none pl;setField (.ref e) 1 b) Q E s:=by
 have hen:e∉frs (env::outer):=λz=>by
  obtain ⟨_,o,ho,nf⟩:=hl.mem z;rw [he] at ho;cases ho;exact nf vs hd
 refine S4 (wpAny_frameOf_fun hfr hl hf λh1 sl1=>S4 (wpAny_entryPlaceOf λpl hpl=>?_));unfold EntryCells.newEntry newFields;have he1:=(sl1.2.1 e hen).trans he;refine S4 (wpAny_newObj_type (wpAny_setField (yh _ he1) hd hz (hQ _ h1.objs.size (λb o hb hn ne=>?_) (λb o hb ne=>?_) (Nat.le_of_eq sl1.1.symm) (ybc _ (yh _ he1) (Obj.isFreed_of_fields (Obj.data_mapFields hd _))) ?_)) (hpl.sizeOk5 _ _ _ _ _))
 ·rw [ybl _ _ (yu ne)];exact yh _ ((sl1.2.1 b hn).trans hb)
 ·obtain ⟨sl,q⟩:=sl1.2.2 b o hb;exact ⟨sl,by rw [ybl _ _ (yu ne)];exact yh _ q⟩
 ·refine ⟨_,_,(ybl _ _ (yu (ybd (yi he1)))).trans (yn h1 rfl),rfl,?_⟩
  first|(simp;done)|(rcases hpl with rfl|⟨_,_,_,_,_,_,_,rfl⟩ <;> simp)
theorem Jwy (hfr:A.frames=some (env::outer)) (hl:s.heap.FunFrames base (env::outer)) (hf:env.frame=some L) (he:s.heap.get? e=some oe) (hd:oe.data= .fields vs) (h1:vs[1]?=some .none)
  (hQ:∀h' T,(∀b o,s.heap.get? b=some o->b∉frs (env::outer)->b≠e->h'.get? b=some o)->(∀b o,s.heap.get? b=some o->b≠e->∃sl,h'.get? b=some {o with slots:=sl})->s.heap.objs.size<=T->
   h'.get? e=some (oe.mapFields (·.setIfInBounds 1 (.ref T)))->(∃oT ts,h'.get? T=some oT/\oT.data= .fields ts/\ts[3]?=some (rawInt L))->Q () {s with heap:=h'}):
  Sc M A (noteFrame (.ref e) env) Q E s:=by
 unfold noteFrame;simp only [hf];exact S4 (wpAny_field he hd h1 (Jth hfr hl hf he hd (ybw.mp h1).1 hQ))
theorem Jyz (hfr:A.frames=some (env::outer)) (hl:s.heap.FunFrames base (env::outer)) (hf:env.frame=some L) (he:s.heap.get? e=some oe) (hd:oe.data= .fields vs) (h1:vs[1]?=some (.ref T))
  (hT:s.heap.get? T=some oT) (hdT:oT.data= .fields ts) (h3:ts[3]?=some .none) (ne:T≠e)
  (hQ:∀h' T',(∀b o,s.heap.get? b=some o->b∉frs (env::outer)->b≠e->b≠T->h'.get? b=some o)->(∀b o,s.heap.get? b=some o->b≠e->b≠T->∃sl,h'.get? b=some {o with slots:=sl})->s.heap.objs.size<=T'->
   h'.get? e=some (oe.mapFields (·.setIfInBounds 1 (.ref T')))->(∃oT ts,h'.get? T'=some oT/\oT.data= .fields ts/\ts[3]?=some (rawInt L))->Q () {s with heap:=h'}):
  Sc M A (noteFrame (.ref e) env) Q E s:=by
 unfold noteFrame;simp only [hf];refine S4 (wpAny_field he hd h1 (S4 (wpAny_field hT hdT h3 ?_)));have ot:∀b,b≠T->(s.heap.update T (Obj.mapFields (·.setIfInBounds 3 Value.none))).get? b=s.heap.get? b:=λb hb=>ybl _ _ (yu hb);have nr:∀b o,s.heap.get? b=some o->(∀ws,o.data≠ .fields ws)->b≠T:=λb o hb nf z=>by
  rw [z,hT] at hb;cases hb;exact nf ts hdT
 refine S4 (wpAny_setField hT hdT (ybw.mp h3).1 ?_);refine Jth hfr (hl.of_keeps λb o hb nf=>⟨o,(ot b (nr b o hb nf)).trans hb,rfl⟩) hf ((ot e (yu ne)).trans he) hd (ybw.mp h1).1 λh' T' k1 k2 k3 k4 k5=>?_;refine hQ h' T' (λb o hb hn h1 h2=>k1 b o ((ot b h2).trans hb) hn h1) (λb o hb h1 h2=>k2 b o ((ot b h2).trans hb) h1) ?_ k4 k5;have z:(s.heap.update T (Obj.mapFields (·.setIfInBounds 3 Value.none))).objs.size=s.heap.objs.size:=Heap.size_after_update ..;rw [<-z];exact k3
end
noncomputable def Flt (X:Cx) (pins:List (S1×Obj)) (H:Hp) (h:Sb) (e:S1) (fl:S2):Prop:=
 ∃oe vs T oT ts,h.get? e=some oe/\oe.data= .fields vs/\vs[1]?=some (.ref T)/\H T=none/\h.get? T=some oT/\oT.data= .fields ts/\ts[3]?=some fl/\X.s₀.heap.objs.size<=T/\∀p∈X.pn++pins,p.1≠T
noncomputable def Yb9 (X:Cx):Prop:=X.stack=X.env::X.outer/\X.env.frame=some X.env.locals
section
variable {X:Cx} {pins:List (S1×Obj)} {σ:St} {H:Hp} {s:S3} {e C:S1} {od:Option S1} {fr fr':Bool} {A:Sa} {M:Model} {E:S2->S3->Prop} {Q:Unit->S3->Prop} {fl:S2} {h':Sb}
theorem Sm.freeOf (I:Sm X pins σ H s) (hb:s.heap.get? b=some o) (hd:o.data= .fields ts):b≠X.env.locals/\∀x c,X.env.cells.lookup x=some c->c≠b:=by
 refine ⟨λz=>?_,λx c e z=>?_⟩
 ·obtain ⟨m,⟨o',es,ep,ho',hd',_⟩,_⟩:=I.loc;rw [z,ho'] at hb;cases hb;rw [hd'] at hd;cases hd
 ·obtain ⟨v,o',ho',hd'⟩:=I.cell x c e;rw [z,hb] at ho';cases ho';rw [hd] at hd';cases hd'
theorem Sm.fly {ch:List S1} (I:Sm X pins σ H s) (q:H e=some (XO e C od fr)) (hch:∀b∈ch,X.s₀.heap.objs.size<=b/\H b=none/\(∃o ts,s.heap.get? b=some o/\o.data= .fields ts)/\∀p∈X.pn++pins,p.1≠b)
  (k:∀b o,s.heap.get? b=some o->b∉frs X.stack->b≠e->b∉ch->h'.get? b=some o) (ks:∀b o,s.heap.get? b=some o->b≠e->b∉ch->∃sl,h'.get? b=some {o with slots:=sl})
  (new:Sac X.prog X.w (upd H e (XO e C od fr')) h' e (XO e C od fr')):Sm X pins σ (upd H e (XO e C od fr')) {s with heap:=h'}:=by
 have ne:∀b u,H b=some u->u≠XO e C od fr->b≠e:=λb u z d w'=>d (by rw [w',q] at z;exact (yah.inj z).symm);have nn:∀b,H b=none->b≠e:=λb z w'=>by rw [w',q] at z;cases z
 have u:Un (frs X.stack) ch H (upd H e (XO e C od fr')) s.heap h':=by
  refine ⟨λb o hb n hs hc=>k b o hb hs (nn b n) hc,λb o hb n _ hc=>ks b o hb (nn b n) hc,λb o _ n _=>by rw [Sy (nn b n)];exact n,λb o hb hc=>?_,λb xs z=>?_,λb o u z=>?_,λb ps z=>⟨#[],?_⟩⟩
  ·by_cases w':b=e
   ·rw [w'];exact new.2.1
   ·obtain ⟨sl,z⟩:=ks b o hb w' hc;exact ⟨_,z⟩
  ·rw [Sy (ne b _ z (λw'=>by cases w'))];exact z
  ·rw [Sy (ne b _ z (λw'=>by cases w'))];exact z
  ·rw [Sy (ne b _ z (λw'=>by cases w')),z];simp
 refine I.call u (λb o z=>?_) I.bare λb hb=>?_
 ·by_cases w':b=e
  ·subst w';rw [So] at z;cases z;exact new
  ·rw [Sy w'] at z;refine (I.hok b o z).stay (λc v hc zz=>k c v zz ?_ ?_ ?_) (λc zz=>by rw [Sy (ne c _ zz (λw'=>by cases w'))];exact zz) (λc xs zz=>by rw [Sy (ne c _ zz (λw'=>by cases w'))];exact zz) λc xs zz=>by rw [Sy (ne c _ zz (λw'=>by cases w'))];exact zz
   ·intro hs;have:=I.stkFree c hs;rcases hc with rfl|hc
    ·rw [this] at z;cases z
    ·rw [this] at hc;cases hc
   ·rcases hc with rfl|hc
    ·exact w'
    ·exact ne c _ hc (λw'=>by cases w')
   ·intro hb;have:=(hch c hb).2.1;rcases hc with rfl|hc
    ·rw [this] at z;cases z
    ·rw [this] at hc;cases hc
 ·obtain ⟨h1,_,⟨o,ts,ho,hd⟩,h4⟩:=hch b hb;exact ⟨.inr h1,(I.freeOf ho hd).1,(I.freeOf ho hd).2,h4⟩
theorem Ybv (I:Sm X pins σ H s) (hs:Yb9 X) (hA:A.frames=some X.stack) (q:H e=some (XO e C od fr)) (hfl:fr=true\/Flt X pins H s.heap e .none)
  (h:∀s',Sm X pins σ (upd H e (XO e C od false)) s'->Flt X pins (upd H e (XO e C od false)) s'.heap e (rawInt X.env.locals)->Q () s'):Sc M A (noteFrame (.ref e) X.env) Q E s:=by
 obtain ⟨o,vs,he,hc,hd,hf,⟨t0,h0⟩,y,h1,hy⟩:=Jv3 I.hok q;have hA':A.frames=some (X.env::X.outer):=by rw [hA,hs.1]
 have FF:s.heap.FunFrames X.base (X.env::X.outer):=by rw [<-hs.1];exact I.stack
 have sub:∀b,b∉frs X.stack->b∉frs (X.env::X.outer):=λb z w'=>z (by rw [hs.1];exact w');have new:∀{h':Sb} {T:S1},h'.get? e=some (o.mapFields (·.setIfInBounds 1 (.ref T)))->Sac X.prog X.w (upd H e (XO e C od false)) h' e (XO e C od false):=λ{h' T} z=>by
  refine Yb6 z ((Obj.cls_mapFields _ _).trans hc) ?_ (Obj.data_mapFields hf _) ⟨t0,by rw [Array.getElem?_setIfInBounds_ne (by decide)];exact h0⟩ ⟨.ref T,by simp [((ybw.mp h1).1)],λz=>nomatch z⟩;obtain ⟨_,_,dt,_⟩:=o;cases dt <;> first|exact hd|cases hf
 have fin:∀{h':Sb} {T:S1},Sm X pins σ (upd H e (XO e C od false)) {s with heap:=h'}->s.heap.objs.size<=T->h'.get? e=some (o.mapFields (·.setIfInBounds 1 (.ref T)))->(∃oT ts,h'.get? T=some oT/\oT.data= .fields ts/\ts[3]?=some (rawInt X.env.locals))->Q () {s with heap:=h'}:=λ{h' T} J k3 k4 ⟨oT,ts,k5,k6,k7⟩=>by
  refine h _ J ⟨_,_,T,oT,ts,k4,Obj.data_mapFields hf _,by simp [((ybw.mp h1).1)],?_,k5,k6,k7,yae I.sz k3,λp hp z=>?_⟩
  ·rw [Sy (λz=>absurd (yi he) (by rw [<-z];exact Nat.not_lt.mpr k3))];exact I.hok.fresh k3
  ·obtain ⟨z1,_⟩:=I.pin p hp;exact absurd (yi z1) (by rw [z];exact Nat.not_lt.mpr k3)
 by_cases hfr:y= .none
 ·subst hfr;refine Jwy hA' FF hs.2 he hf h1 λh' T k1 k2 k3 k4 k5=>fin (I.fly (ch:=[]) q (λb z=>absurd z (by simp)) (λb o hb hn ne _=>k1 b o hb (sub b hn) ne) (λb o hb ne _=>k2 b o hb ne) (new k4)) k3 k4 k5
 ·rcases hfl with z|⟨oe,ws,T,oT,ts,z1,z2,z3,z4,z5,z6,z7,z8,z9⟩
  ·exact absurd (hy z) hfr
  ·rw [he] at z1;cases z1;rw [hf] at z2;cases z2;have ne:T≠e:=λw'=>by rw [w',q] at z4;cases z4
   refine Jyz hA' FF hs.2 he hf z3 z5 z6 z7 ne λh' T' k1 k2 k3 k4 k5=>fin (I.fly (ch:=[T]) q (λb hb=>?_) (λb o hb hn ne hc=>k1 b o hb (sub b hn) ne (by simpa using hc)) (λb o hb ne hc=>k2 b o hb ne (by simpa using hc)) (new k4)) k3 k4 k5;obtain rfl:b=T:=by simpa using hb
   exact ⟨z8,z4,⟨oT,ts,z5,z6⟩,z9⟩
theorem Jyq (I:Sm X pins σ H s) (q:H e=some (XO e C od fr)) (hfl:Flt X pins H s.heap e fl) (h:∀s',Sm X pins σ H s'->Flt X pins H s'.heap e .none->Q () s'):Sc M A (setFlight (.ref e) none) Q E s:=by
 obtain ⟨oe,vs,T,oT,ts,z1,z2,z3,z4,z5,z6,z7,z8,z9⟩:=hfl;have hz:=(ybw.mp z7).1;have ne:T≠e:=λw'=>by rw [w',q] at z4;cases z4
 have ot:∀b,b≠T->(s.heap.update T (Obj.mapFields (·.setIfInBounds 3 Value.none))).get? b=s.heap.get? b:=λb hb=>ybl _ _ (yu hb);exact wpAny_setFlight_none z1 z2 z3 z5 z6 hz (h _ (I.turned (λb o hb z=>(ot b hb).trans z) z4 (I.freeOf z5 z6).1 (.inr z8) (I.freeOf z5 z6).2 z9) ⟨oe,vs,T,_,_,(ot e (yu ne)).trans z1,z2,z3,z4,ybc _ z5 (Obj.isFreed_of_fields (Obj.data_mapFields z6 _)),Obj.data_mapFields z6 _,by simp [hz],z8,z9⟩)
end
noncomputable def CXX (P:S7) (w:S9):CXT:=λouter H s E ev s'=>∃e C dx H',ev= .ref e/\s'.os=s.os/\AllBare s'.gens/\Un (frs outer) [] H H' s.heap s'.heap/\HOk P w H' s'.heap/\H' e=some (XO e C (some dx) false)/\
 (∃oe vs T oT ts,s'.heap.get? e=some oe/\oe.data= .fields vs/\vs[1]?=some (.ref T)/\H' T=none/\s'.heap.get? T=some oT/\oT.data= .fields ts/\ts[3]?=some .none/\s.heap.objs.size<=T)/\E (.ref C) (some e) H'
noncomputable def Jv5 (X:Cx) (R:St->XK):Prop:=∀pins σ H s e C dx fr,Sm X pins σ H s->H e=some (XO e C (some dx) fr)->(fr=true\/Flt X pins H s.heap e .none)->R σ (.ref C) (some e) (upd H e (XO e C (some dx) false))->X.xe (.ref e) s
theorem Jl1 {K}:
  Jv5 (Ju2 (CXX P w) P w K mg base N qual scope f cd A outer s H E) (λ_=>E):=by
 intro pins σ H1 s1 e C dx fr I q hfl hE;refine S4 (Ybv I ⟨rfl,rfl⟩ I.ok.frames q hfl λs2 I2 f2=>Jyq I2 So f2 λs3 I3 f3=>?_);obtain ⟨oe,vs,T,oT,ts,z1,z2,z3,z4,z5,z6,z7,z8,_⟩:=f3;exact ⟨e,C,dx,_,rfl,I3.os,I3.bare,I3.base,I3.hok,So,⟨oe,vs,T,oT,ts,z1,z2,z3,z4,z5,z6,z7,z8⟩,hE⟩
theorem Snk {o} (h:H a=some o):upd H a o=H:=by
 funext b;unfold upd;split
 ·rename_i z;rw [z,h]
 ·rfl
section
variable {X:Cx} {pins:List (S1×Obj)} {σ:St} {H:Hp} {s s':S3} {R:St->XK} {ev:S2}
theorem Yd7 (hw:Jv5 X R) (I:Sm X pins σ H s) (h:CXX X.prog X.w X.stack H s (R σ) ev s'):X.xe ev s':=by
 obtain ⟨e,C,dx,H',rfl,ho,hg,un,hok,q,⟨oe,vs,T,oT,ts,z1,z2,z3,z4,z5,z6,z7,z8⟩,hR⟩:=h;refine hw pins σ H' s' e C dx false (I.call' ho un hok hg λb z=>absurd z (by simp)) q (.inr ⟨oe,vs,T,oT,ts,z1,z2,z3,z4,z5,z6,z7,yae I.sz z8,λp hp z=>?_⟩) (by rw [Snk q];exact hR);obtain ⟨y1,_⟩:=I.pin p hp;exact absurd (yi y1) (by rw [z];exact Nat.not_lt.mpr z8)
end
theorem Sr.calm {K} (G:Sr P w K mg base (CXX P w) k f fd ps sp):Sr P w K mg base CX0 k f fd ps (λvs H Q _=>sp vs H Q E0):=
 ⟨λvs H Q _ h=>G.len vs H Q E0 h,λA outer s H args us vs Q E hr he hb hv hs=>codeAny_mono (G.run A outer s H args us vs Q E0 hr he hb hv hs) λr s' hq=>by
  cases r with
  |error e=>obtain ⟨_,_,_,_,_,_,_,_,_,_,_,z⟩:=hq;exact z.elim
  |ok fl=>cases fl <;> exact hq⟩
theorem Fun.okX {K} {st} (F:Fun K x qual st f fd) (S:Jjp N ps (Jjl st)) (len:∀vs H Q E,sp vs H Q E->vs.length=ps.length)
  (hbody:∀cdv A outer s H vs Q E,Sai k (A.deeper (envOfC qual (Jjl st) s.heap.objs.size f cdv))->sp vs H Q E->
   ∃t,PSs (Ju2 (CXX P w) P w K mg base N qual (Jjl st) f cdv A outer s H E) (Jkq st) t/\t {nx:=λ_ H'=>Q .non H',rt:=Q} (start N vs) H):Sr P w K mg base (CXX P w) (k+1) f fd ps sp:=by
 obtain ⟨dV,oc,od,kV,doc,pm,an,cdv,ct,osl,rfl,lk,hcd⟩:=F.ex;exact Sjy lk hcd S len λA outer s H vs Q E hr hsp=>hbody cdv A outer s H vs Q E hr hsp
noncomputable def Sn5 (sp:Sp) (R:St->XK) (t:TA):TE:=λσ H Q=>t σ H λvs H1=>sp vs H1 Q (R σ)
section
variable {X:Cx} {k j:Nat} {f C:S1} {fd:S8} {ps:List Str} {sp:Sp} {R:St->XK} {x m:Str} {p pos apos:Pos} {e o:Expr} {es:List Expr} {ta:TE} {t:TA}
theorem Ycf (G:Sr X.prog X.w X.K X.mg X.base (CXX X.prog X.w) k f fd ps sp) (hw:Jv5 X R) (hr:Sai k X.A) (hb:Sbu X.K fd ps [])
  (I:Sm X pins σ H s) (r:Sv vs us) (h:sp vs H Q (R σ)):Sc (model X.prog X.w) X.A (call (.ref f) us) (EP X pins σ Q) X.xe s:=by
 have hl:(us++ []).length=ps.length:=by rw [ybg,<-r.length,G.len _ _ _ _ h]
 have hb':=hb s us I.kIn hl;rw [ybg] at hb';refine wpAny_call (codeAny_mono (G.run X.A X.stack s H ⟨us,[]⟩ us vs Q (R σ) hr I.env0 hb' r h) λr s' hq=>?_);cases r with
 |error e=>exact Yd7 hw I hq
 |ok fl=>
  cases fl with
  |ret u=>exact I.after hq
  |next=>exact False.elim hq
  |brk=>exact False.elim hq
  |cont=>exact False.elim hq
theorem Jmq {st} (F:FT X.K X.mg x st ps f fd) (G:Sr X.prog X.w X.K X.mg X.base (CXX X.prog X.w) k f fd ps sp) (hw:Jv5 X R) (hr:Sai j X.A) (hk:k<=j) (ha:PA X (e::es) t) (hg:Gl X x:=by rfl)
  (hdb:(x==("__debug__" :Str))=false:=by decide) (he:starEach (e::es) X.env=(false,eval e X.env)::starEach es X.env:=by rfl) (hpl:(backTo pos (starEach es X.env)).any (·.1)=false:=by rfl):
  PE X (.Call (.Name x p) (e::es) [] pos) (Sn5 sp R t):=by
 intro pins s σ H Q I h;exact wpAny_Call_Name_kw (Joi I hg F.mgx (PySem.W.callWith_K I.ok.mod.kin F.fn.kp (thn (ha pos pins s σ H _ I h) λus s1 ⟨vs,H1,I1,r,q⟩=>⟨I1.kIn,Ycf G hw (hr.mono hk) F.bd I1 r q⟩) he hpl) hdb)
end
noncomputable def Yab (K:Sd) (R:St->XK) (te:TE):TS:=λ_ σ H=>te σ H λv H1=>∃e C W fI dx,v= .ref e/\H1 e=some (XO e C (some dx) true)/\Saj K C W fI/\R σ (.ref C) (some e) (upd H1 e (XO e C (some dx) false))
section
variable {X:Cx} {R:St->XK} {x:Expr} {pos:Pos} {te:TE}
theorem Jl0 (hw:Jv5 X R) (hc:X.calm=true) (hx:PE X x te):PS X (.Raise (some x) none pos) (Yab X.K R te):=by
 intro pins s σ H D I h;refine S4 (wpAny_standAt (S4 (S4 (thn (hx pins s σ H _ I h) λu s1 ⟨y,H1,I1,ry,e,C,W,fI,dx,ey,q,c,k⟩=>S4 (wpAny_standAt (S5 ?_))))));subst ey;obtain rfl:u=Value.ref e:=ry;obtain ⟨o,vs,he,hcl,hd,hf,h0,y,h1,hy⟩:=Jv3 I1.hok q;obtain ⟨nm,qn,N,bs,sn,sub,ab,col,dd,k0,k1,k2,k3,k5,l⟩:=c.obj;have kC:=I1.kIn _ _ l;have hcB:(Value.ref C:: .ref W::VEm).contains (.type "BaseException")=true:=by simp
 obtain ⟨oc,odi,oda,osl⟩:=o;subst hcl hd hf
 repeat (first|with_reducible refine wpAny_loadPart_at he ?_|with_reducible refine wpAny_loadPart_at kC ?_|(with_reducible refine wpAny_isSubtype_exc kC ?_;rw [hcB])|with_reducible refine wpAny_field he rfl h1 ?_|wp_step)
 exact wpAny_raiseNew_none (I.ok.hd hc) (hw pins σ H1 s1 e C dx true I1 q (.inl rfl) k)
end
structure Ssd (K:Sd) (C:S1):Prop where
 obj:∃(dd:Option S1) (cd:ClassData) (sl:Array (Option S2)),K.lookup C=some ⟨.type "type",dd,.cls cd,sl⟩
 mb:Sg K C (.type "BaseException")=some true
section
variable {prog:S7} {w:S9} {A:Sa} {E:S2->S3->Prop} {s:S3} {K:Sd} {e C C0:S1} {oe:Obj} {b:Bool}
end
section
variable {X:Cx} {pins pins':List (S1×Obj)} {σ:St} {H:Hp} {s:S3} {R:St->XK} {e:S1}
end
section
variable {X:Cx} {x n:Str} {np pos:Pos} {C0:S1} {i:Nat} {b₀:Stmt} {suite:List Stmt} {rest:List ExceptHandler} {ts:S1->TS} {th:TH}
end
structure FM (K:Sd) (x qual:Str) (st:Stmt) (ps:List Str) (f:S1) (fd:S8):Prop where
 fn:Fun K x qual st f fd
 bd:Sbu K fd ps []
structure Sfs (K:Sd) (C:S1):Prop where
 ya:Sf K (.ref C) "__class__" =some (some (.builtin "object.__class__"))
 yb:PySem.W.specialIn K (.builtin "object.__class__") "__get__" =some (some (.builtin "getset_descriptor.__get__"))
 yc:PySem.W.takesIn K (.builtin "object.__class__")=some true
 yd:Sg K C (.type "object")=some true
theorem Sfs.ty {K} {C a dx} {H} {fs} (y:Sfs K C) (c:Cls K C) (e:H a=some (.ins C dx fs)):Jpz K H (.ref a) (.ref C):=.ins e c y.ya y.yb y.yc y.yd
inductive Jnj (K:Sd) (f:Str) (vs:List V) (H:Hp) (Q:VK) (z3:XK):Prop where
 |mk (e:_) (C:_) (W:_) (fI:_) (y:_) (_:vs= [.ref e,y]) (_:H e=some (XO e C none true)) (_:Saj K C W fI) (_:NoAttr K C f) (_:∀dx,H dx=none->dx≠e->Q .non (upd (upd H dx (XD dx [(f,y)])) e (XO e C (some dx) true)))
theorem Jyv {K} {C W fI} {f} {y} {H} {Q:VK} (c:Saj K C W fI) (n:NoAttr K C f) (k:∀e dx,H e=none->H dx=none->dx≠e->Q (.ref e) (upd (upd H dx (XD dx [(f,y)])) e (XO e C (some dx) true))):
  [y].length<=1000/\∀e,H e=none->Jnj K f (.ref e:: [y]) (upd H e (XO e C none true)) (λv H2=>v= .non/\Q (.ref e) H2) E0:=by
 refine ⟨by simp,λe he=>⟨e,C,W,fI,y,rfl,So,c,n,λdx h1 h2=>⟨rfl,?_⟩⟩⟩;have e2:upd (upd (upd H e (XO e C none true)) dx (XD dx [(f,y)])) e (XO e C (some dx) true)=upd (upd H dx (XD dx [(f,y)])) e (XO e C (some dx) true):=by
  funext b;unfold upd;split
  ·rfl
  ·split <;> rfl
 rw [e2];exact (k e dx he (by rw [Sy h2] at h1;exact h1) h2)
section
variable {X:Cx} {pins:List (S1×Obj)} {σ:St} {H:Hp} {s:S3}
theorem Sm.turnTup {ch:List S1} (I:Sm X pins σ H s) (hch:∀b∈ch,Jpy X pins H b) (k:∀b o,b∉ch->s.heap.get? b=some o->h'.get? b=some o) (hT:s.heap.objs.size<=T)
  (new:Sac X.prog X.w (upd H T (.tup xs)) h' T (.tup xs)):Sm X pins σ (upd H T (.tup xs)) {s with heap:=h',toks:=t'}:=by
 have nb:∀b o,s.heap.get? b=some o->b≠T:=λb o z w'=>absurd (yi z) (by rw [w'];exact Nat.not_lt.mpr hT);have nt:∀b u,H b=some u->b≠T:=λb u z=>Jjm z (I.hok.fresh hT);have nc:∀b u,H b=some u->b∉ch:=λb u z w'=>by rw [(hch b w').1] at z;cases z
 have u:Un (frs X.stack) ch H (upd H T (.tup xs)) s.heap h':=by
  refine ⟨λb o hb n hs hc=>k b o hc hb,λb o hb n _ hc=>⟨o.slots,k b o hc hb⟩,λb o hb n _=>by rw [Sy (nb b o hb)];exact n,λb o hb hc=>⟨o,k b o hc hb⟩,λb ys z=>by rw [Sy (nt b _ z)];exact z,λb o v z=>by rw [Sy (nt b _ z)];exact z,λb ps z=>⟨#[],by rw [Sy (nt b _ z),z];simp⟩⟩
 refine I.call u (λb o z=>?_) I.bare λb hb=>?_
 ·by_cases w':b=T
  ·subst w';rw [So] at z;cases z;exact new
  ·rw [Sy w'] at z;refine (I.hok b o z).stay (λc v hc zz=>k c v ?_ zz) (λc zz=>by rw [Sy (nt c _ zz)];exact zz) (λc ys zz=>by rw [Sy (nt c _ zz)];exact zz) λc ys zz=>by rw [Sy (nt c _ zz)];exact zz
   rcases hc with rfl|hc
   ·exact nc c o z
   ·exact nc c _ hc
 ·obtain ⟨_,h1,_,h3,h4,h5⟩:=hch b hb;exact ⟨h3,h1,h4,h5⟩
theorem Sm.turnMany {ch:List S1} (I:Sm X pins σ H s) (hch:∀b∈ch,Jpy X pins H b) (k:∀b o,b∉ch->s.heap.get? b=some o->h'.get? b=some o):Sm X pins σ H {s with heap:=h',toks:=t'}:=by
 have nc:∀b u,H b=some u->b∉ch:=λb u z w'=>by rw [(hch b w').1] at z;cases z
 have u:Un (frs X.stack) ch H H s.heap h':=
  ⟨λb o hb n hs hc=>k b o hc hb,λb o hb n _ hc=>⟨o.slots,k b o hc hb⟩,λb o hb n _=>n,λb o hb hc=>⟨o,k b o hc hb⟩,λb ys z=>z,λb o v z=>z,λb ps z=>⟨#[],by rw [z];simp⟩⟩
 refine I.call u (λb o z=>(I.hok b o z).stay (λc v hc zz=>k c v ?_ zz) (λ_ zz=>zz) (λ_ _ zz=>zz) λ_ _ zz=>zz) I.bare λb hb=>?_
 ·rcases hc with rfl|hc
  ·exact nc c o z
  ·exact nc c _ hc
 ·obtain ⟨_,h1,_,h3,h4,h5⟩:=hch b hb;exact ⟨h3,h1,h4,h5⟩
end
theorem Sle:bootBuiltins "zip" =some (.type "zip"):=by decide +kernel
section
variable {X:Cx} {pins:List (S1×Obj)} {σ:St} {H:Hp} {s:S3}
inductive TyX (K:Sd) (H:Hp):V->S2->Prop where
 |of {x:V} {t:S2}:Jpz K H x t->TyX K H x t
 |exc {e C W fI dx:S1} {fs:List (Str×V)} {fr:Bool}:H e=some (XO e C (some dx) fr)->H dx=some (XD dx fs)->Saj K C W fI->TyX K H (.ref e) (.ref C)
 |dct {a:S1} {f:Sb->Prop}:H a=some (.ext f)->(∀h,f h->∃o,h.get? a=some o/\o.cls= .type "dict")->TyX K H (.ref a) (.type "dict")
theorem TyX.kit (I:Sm X pins σ H s) (rx:Su x u) (ty:TyX X.K H x t):u≠ .builtin "__main__.__loader__#opaque" /\∃Hh,PySem.W.KitX X.K u t Hh/\Hh s.heap:=by
 cases ty with
 |exc q qd c=>
  obtain rfl:u=Value.ref _:=rx;obtain ⟨ox,oD,mA,J,_,_⟩:=Yd6 I.hok q qd;exact ⟨(λz=>nomatch z),_,Sw2 c,ox,oD,J⟩
 | @dct b f q hf=>
  obtain rfl:u=Value.ref b:=rx;exact ⟨(λz=>nomatch z),_,PySem.W.kitx_dict,hf _ (I.hok b _ q).1⟩
 |of ty=>
  cases ty with
  |non=>cases (rx);exact ⟨(λz=>nomatch z),_,PySem.W.kitx_none,trivial⟩
  |bl y=>cases (rx);exact ⟨(λz=>nomatch z),_,PySem.W.kitx_bool,trivial⟩
  |int i=>obtain ⟨t,q⟩:=(show ∃t,u=Value.int i t from rx);cases q;exact ⟨(λz=>nomatch z),_,PySem.W.kitx_int,trivial⟩
  |str y=>obtain ⟨t,q⟩:=(show ∃t,u=Value.str y t from rx);cases q;exact ⟨(λz=>nomatch z),_,PySem.W.kitx_str,trivial⟩
  |flt y=>obtain ⟨t,q⟩:=(show ∃t,u=Value.float y t from rx);cases q;exact ⟨(λz=>nomatch z),_,PySem.W.kitx_float,trivial⟩
  | @lst a xs ea=>
   cases (rx);obtain ⟨_,_,n,_,h1⟩:=(I.hok a _ ea);exact ⟨(λz=>nomatch z),_,PySem.W.kitx_list,_,h1,rfl⟩
  | @frz a ob xs ea=>
   cases (rx);obtain ⟨_,_,_,n,_,h1⟩:=(I.hok a _ ea);exact ⟨(λz=>nomatch z),_,PySem.W.kitx_list,_,h1,rfl⟩
  | @tup a xs ea=>
   cases (rx);obtain ⟨_,_,_,o,h1,h2,_⟩:=(I.hok a _ ea);exact ⟨(λz=>nomatch z),_,PySem.W.kitx_tuple,o,h1,h2⟩
  | @dK a kvs ea=>
   cases (rx);obtain ⟨_,_,vs,_,o,es,ep,h1,h2,_⟩:=(I.hok a _ ea);exact ⟨(λz=>nomatch z),_,PySem.W.kitx_dict,o,h1,h2.1⟩
  | @dT a kvs ea=>
   cases (rx);obtain ⟨_,_,xs,_,o,es,ep,h1,h2,_⟩:=(I.hok a _ ea);exact ⟨(λz=>nomatch z),_,PySem.W.kitx_dict,o,h1,h2.1⟩
  | @ins a C dx fs ea cl ha hn htk hm=>
   cases (rx);obtain ⟨mA,O,_⟩:=Jrj I.hok ea;obtain ⟨od,J,_⟩:=O.look;exact ⟨(λz=>nomatch z),_,PySem.W.kitx_own (cl.get _) cl.hd ha hn htk hm,J⟩
inductive Spv (K:Sd) (xs:List V) (H:Hp) (Q:VK):Prop where
 |mk (x:_) (c:_) (u:_) (t:_) (b:_) (_:xs= [x,c]) (_:Slg c=some u) (_:TyX K H x t) (_:Se K t u=some b) (_:Q (.bl b) H)
theorem Jl2:Jla X (.builtin "isinstance") (Spv X.K):=by
 rintro pins s σ H vs us Q I r ⟨x,c,u,t,b,rfl,hc,ty,ek,k⟩;obtain ⟨v,w',rfl,r1,r2⟩:=Jwb r;have e2:w'=u:=by
  cases c with
  |ty n=>cases hc;cases r2;rfl
  |ref a=>cases hc;cases r2;rfl
  |_=>cases hc
 subst e2;obtain ⟨hx,Hh,Z,p⟩:=ty.kit I r1;exact PySem.W.kia_one Z I.kIn p ek hx λtk=>⟨.bl b,H,I.tok _,rfl,k⟩
theorem Jvb:∀{cs} {us ws},cs.mapM Slg=some us->Sv cs ws->ws=us
 | [],us,_,e,.nil=>by cases e;rfl
 |c::cs,us,_,e,.cons r t=>by
  rw [List.mapM_cons] at e;simp only [Option.bind_eq_bind,Option.bind_eq_some_iff,Option.pure_def,yah.injEq] at e;obtain ⟨u,hu,us',hus,rfl⟩:=e;rw [Jvb hus t];cases c with
  |ty n=>cases hu;cases r;rfl
  |ref a=>cases hu;cases r;rfl
  |_=>cases hu
inductive Sv6 (K:Sd) (xs:List V) (H:Hp) (Q:VK):Prop where
 |mk (x:_) (p:_) (cs:_) (us:_) (t:_) (b:_) (_:xs= [x,.ref p]) (_:H p=some (.tup cs)) (_:cs.mapM Slg=some us) (_:TyX K H x t) (_:PySem.W.kitAny K t us=some b) (_:Q (.bl b) H)
theorem Jrq:Jla X (.builtin "isinstance") (Sv6 X.K):=by
 rintro pins s σ H vs us Q I r ⟨x,p,cs,us',t,b,rfl,hp,hc,ty,ek,k⟩;obtain ⟨v,w',rfl,r1,r2⟩:=Jwb r;obtain rfl:w'=Value.ref p:=r2;obtain ⟨hx,Hh,Z,q⟩:=ty.kit I r1;obtain ⟨_,its,rv,o,h1,h2,n,h3⟩:=(I.hok p _ hp);have e:=Jvb hc rv;subst e;obtain ⟨oc,odi,oda,osl⟩:=o;subst h2 h3;exact PySem.W.kia_tup Z I.kIn q h1 ek hx λtk=>⟨.bl b,H,I.tok _,rfl,k⟩
noncomputable def Suw (K:Sd) (tl:TE):TI:=λσ H R=>tl σ H λx H1=>∃a,x= .ref a/\(((∃xs,Ss K H1 a xs)/\R (Itl K a) H1)\/((∃xs,SqT K H1 a xs)/\R (Itt K a) H1))
theorem Sme (hl:PE X l tl):PI X tg l (Suw X.K tl):=by
 intro pins s σ H R I h;refine thn (hl pins s σ H _ I h) λv s1 zq=>?_;obtain ⟨x,H1,I1,r1,a,e,q1⟩:=zq;subst e;cases r1;have fin:∀{J:It} {tn:Nat->Sb->Prop} {o:Obj},Turn X.prog X.w X.K tg J [s1.heap.objs.size] s1.heap.objs.size tn->tn 0 (s1.heap.push o)->R J H1->PIE X pins σ tg R (.ref s1.heap.objs.size) {s1 with heap:=s1.heap.push o}:=λ{J tn o} T st q=>by
  refine ⟨s1.heap.objs.size,[s1.heap.objs.size],tn,J,H1,rfl,I1.kept λb o e=>yh _ e,T,st,λb hb=>?_,q⟩;have e:=by simpa using hb
  subst e;exact I1.fpOk (yg _) (I1.hok.fresh (yg _))
 rcases q1 with ⟨⟨xs,hq⟩,q⟩|⟨⟨xs,hq⟩,q⟩
 ·obtain ⟨its,rv,p,hz⟩:=I1.list hq;exact wpAny_pyIter_list p.isList (fin (Jtq a _) ⟨_,yn _ rfl,rfl,rfl⟩ q)
 ·obtain ⟨its,rv,p,hz⟩:=I1.tuple hq;exact wpAny_pyIter_tuple (p) (fin (Jsm a _) ⟨_,yn _ rfl,rfl,rfl⟩ q)
noncomputable def Sbz (x y:V) (b:Bool):Prop:=(∃a,x= .ref a/\y= .ref a/\b=true)\/(Jlx x=true/\Jlx y=true/\eqV x y=b)
theorem Y9 (h:Jlx x=true):eqV x x=true:=by
 cases x <;> first|rfl|(simp [eqV];done)|cases h
theorem Sbz.self (h:Jlx x=true\/∃a,x= .ref a):Sbz x x true:=by
 rcases h with h|⟨a,rfl⟩
 ·exact .inr ⟨h,h,Y9 h⟩
 ·exact .inl ⟨a,rfl,rfl,rfl⟩
theorem Sbz.at (h:Sbz x y b) (rx:Su x u) (ry:Su y v):SeqAt.EqAt A s u v b:=by
 rcases h with ⟨a,rfl,rfl,rfl⟩|⟨f1,f2,rfl⟩
 ·cases rx;cases ry;exact SeqAt.EqAt.same _
 ·exact Y7 rx ry f1 f2
end
noncomputable def Yat (P:S7) (w:S9) (K:Sd) (mg:Str->Option S2) (base:Sb) (j:Nat) (m:Str) (ta:TE) (t:TA):TE:=λσ H Q=>ta σ H λx H1=>∃a C dx fs f fd ps sp k,x= .ref a/\H1 a=some (.ins C dx fs)/\fs.lookup m=none/\Cls K C/\Jwd K C m f/\Sr P w K mg base CX0 k f fd ps sp/\k<=j/\Sbu K fd ps []/\
 t σ H1 λvs H2=>sp (x::vs) H2 Q E0
section
variable {X:Cx} {j:Nat} {m:Str} {apos pos:Pos} {e o:Expr} {es:List Expr} {ta:TE} {t:TA} {R:St->XK}
theorem Jtj (he:PE X o ta) (hr:Sai j X.A)
  (ht:eval (.Call (.Attribute o m apos) [] [] pos) X.env=(do
   let ov<-eval o X.env
   standAt apos.atName
   let (f,first)<-holding [ov] (getMethod ov m pl)
   callWith pos f first (backTo pos (starEach [] X.env)) (backToKw pos (keywordEach [] X.env))):=by rfl):
  PE X (.Call (.Attribute o m apos) [] [] pos) (Yat X.prog X.w X.K X.mg X.base j m ta Jsk):=by
 intro pins s σ H Q I h;refine PySem.W.methodCall_KW (thn (he pins s σ H _ I h) λu s1 zq=>?_) ht;obtain ⟨x,H1,I1,rx,a,C,dx,fs,f,fd,ps,sp,k,ex,ea,l,c,hm,G,hk,hb,q⟩:=zq;subst ex;obtain rfl:u=Value.ref a:=rx;exact Jwp I1 ea c hm l (PySem.W.callWith_K0 I1.kIn hm.kp (Jxa (vs:=[.ref a]) G (hr.mono hk) hb .nil Jox I1 (.cons rfl .nil) q))
end
theorem Jkc (h:n<=2000):n < S6:=Nat.lt_of_le_of_lt h (by decide)
theorem Jkt (n) (h:n<=2000):n<=S6:=ybj (Jkc h)
noncomputable def tpB (t:S2):Bool:=[Value.type "bool",.type "str",.type "NoneType",.type "list",.type "tuple",.type "dict"].contains t
noncomputable def Tm (K:Sd) (H:Hp) (x:V):Prop:=(∃i:Int,x= .int i)\/∃t,TyX K H x t/\tpB t=true
noncomputable def Jjw:V->Int->Int->Bool
 | .int i,lo,hi=>decide (lo<=i)&&decide (i<=hi)
 |_,_,_=>false
theorem Yau {K} (h:tpB t=true):Se K t (.type "int")=some (t== .type "bool")/\Se K t (.type "bool")=some (t== .type "bool"):=by
 unfold tpB at h;simp only [List.contains_cons,List.contains_nil,Bool.or_false,Bool.or_eq_true,beq_iff_eq] at h;rcases h with rfl|rfl|rfl|rfl|rfl|rfl <;> exact ⟨rfl,rfl⟩
theorem Jxz {K} (ty:TyX K H x t) (h:tpB t=true):∀lo hi,Jjw x lo hi=false:=by
 intro lo hi;cases ty with
 |exc=>rfl
 |dct=>rfl
 |of ty=>
  cases ty <;> first|rfl|(exfalso;revert h;decide)
inductive Ycq (K:Sd) (vs:List V) (H:Hp) (Q:VK) (z3:XK):Prop where
 |mk (x:V) (lo hi:Int) (_:vs= [x,.int lo,.int hi]) (_:Tm K H x) (_:Q (.bl (Jjw x lo hi)) H)
theorem TyX.same {K} (s:∀b o,x= .ref b->H b=some o->H' b=some o) (sx:∀b fs,H b=some (XD b fs)->H' b=some (XD b fs)) (ty:TyX K H x t):TyX K H' x t:=by
 cases ty with
 |exc q qd c=>exact .exc (s _ _ rfl q) (sx _ _ qd) c
 |dct q hf=>exact .dct (s _ _ rfl q) hf
 |of ty=>
  refine .of ?_;cases ty with
  |non=>exact .non
  |bl b=>exact .bl b
  |int i=>exact .int i
  |str z=>exact .str z
  |flt z=>exact .flt z
  |lst e=>exact .lst (s _ _ rfl e)
  |frz e=>exact .frz (s _ _ rfl e)
  |tup e=>exact .tup (s _ _ rfl e)
  |dK e=>exact .dK (s _ _ rfl e)
  |dT e=>exact .dT (s _ _ rfl e)
  |ins e a b c d f=>exact .ins (s _ _ rfl e) a b c d f
theorem Tm.same {K} (s:Si H H') (h:Tm K H x):Tm K H' x:=by
 rcases h with h|⟨t,ty,e⟩
 ·exact .inl h
 ·exact .inr ⟨t,ty.same (λb o _ q=>s b o q) (λb fs q=>s b _ q),e⟩
theorem Ybh {K} {q} {xs} {g:TG} {tb:TS} {D:Sca} {σ} {H} (Pv:Nat->St->Hp->Prop) (h0:Pv 0 σ H) (hl:(∀i σ H,i<=xs.length->Pv i σ H->Ss K H q xs)\/(∀i σ H,i<=xs.length->Pv i σ H->SqT K H q xs))
  (hs:∀i x σ H,xs[i]?=some x->Pv i σ H->g x σ H λσ2 H2=>tb {D with nx:=Pv (i+1),ct:=Pv (i+1),bk:=D.nx} σ2 H2) (hd:∀σ H,Pv xs.length σ H->D.nx σ H):
  ((∃xs,Ss K H q xs)/\∃W:Nat->Nat->St->Hp->Prop,(∃m,W 0 m σ H)/\∀i m σ H,W i m σ H->
   ((Itl K q).stop i H/\D.nx σ H)\/((Itl K q).go i H/\∃N:St->Hp->Prop,(∀σ' H',N σ' H'->∃m',m' < m/\W (i+1) m' σ' H')/\∀x H',(Itl K q).yld i H x H'->g x σ H' λσ2 H2=>tb {D with nx:=N,ct:=N,bk:=D.nx} σ2 H2))\/
  ((∃xs,SqT K H q xs)/\∃W:Nat->Nat->St->Hp->Prop,(∃m,W 0 m σ H)/\∀i m σ H,W i m σ H->
   ((Itt K q).stop i H/\D.nx σ H)\/((Itt K q).go i H/\∃N:St->Hp->Prop,(∀σ' H',N σ' H'->∃m',m' < m/\W (i+1) m' σ' H')/\∀x H',(Itt K q).yld i H x H'->g x σ H' λσ2 H2=>tb {D with nx:=N,ct:=N,bk:=D.nx} σ2 H2)):=by
 rcases hl with hl|hl
 ·exact .inl ⟨⟨xs,hl 0 σ H (yw _) h0⟩,Jlr Pv h0 hl hs hd⟩
 ·exact .inr ⟨⟨xs,hl 0 σ H (yw _) h0⟩,Ybi Pv h0 hl hs hd⟩
theorem Jle {K} {R} {C W fI} {f} {i} {y} {σ} {H} {D} (c:Saj K C W fI) (n:NoAttr K C f) (hi:σ[i]?=some (some y))
  (k:∀e dx,H e=none->H dx=none->dx≠e->R σ (.ref C) (some e) (upd (upd (upd H dx (XD dx [(f,y)])) e (XO e C (some dx) true)) e (XO e C (some dx) false))):Yab K R (Sqp C (Jnj K f) (Jk8 (Sj9 i) Jsk)) D σ H:=⟨y,hi,Jyv (Q:=λv H1=>∃e C W fI dx,v= .ref e/\H1 e=some (XO e C (some dx) true)/\Saj K C W fI/\R σ (.ref C) (some e) (upd H1 e (XO e C (some dx) false))) c n λe dx h1 h2 h3=>⟨e,C,W,fI,dx,rfl,So,c,k e dx h1 h2 h3⟩⟩
theorem Jws {A:Prop} [Decidable c] (hc:c) (h:A):if decide c=true then A else B:=by grind
theorem Jvj {A:Prop} [Decidable c] (hc:¬c) (h:B):if decide c=true then A else B:=by grind
noncomputable def Jjy:Expr->Bool
 | .Starred _ _=>true
 |_=>false
theorem Jzi (e) (es) (env) (h:Jjy e=false):starEach (e::es) env=(false,eval e env)::starEach es env:=by
 cases e <;> first|rfl|cases h
theorem Jkv (ha:PE X e te) (hr:PA X es t) (hs:Jjy e=false:=by rfl):PA X (e::es) (Jk8 te t):=Sj ha hr (Jzi e es X.env hs)
theorem pa4 (h0:PE X e0 t0) (h1:PE X e1 t1) (h2:PE X e2 t2) (h3:PE X e3 t3) (s0:Jjy e0=false:=by rfl) (s1:Jjy e1=false:=by rfl) (s2:Jjy e2=false:=by rfl) (s3:Jjy e3=false:=by rfl):PA X [e0,e1,e2,e3] (Jk8 t0 (Jk8 t1 (Jk8 t2 (Jk8 t3 (Jsk))))):=Jkv h0 (Jkv h1 (Jkv h2 (Jkv h3 (Sl) s3) s2) s1) s0
theorem pa5 (h0:PE X e0 t0) (h1:PE X e1 t1) (h2:PE X e2 t2) (h3:PE X e3 t3) (h4:PE X e4 t4) (s0:Jjy e0=false:=by rfl) (s1:Jjy e1=false:=by rfl) (s2:Jjy e2=false:=by rfl) (s3:Jjy e3=false:=by rfl) (s4:Jjy e4=false:=by rfl):PA X [e0,e1,e2,e3,e4] (Jk8 t0 (Jk8 t1 (Jk8 t2 (Jk8 t3 (Jk8 t4 (Jsk)))))):=Jkv h0 (Jkv h1 (Jkv h2 (Jkv h3 (Jkv h4 (Sl) s4) s3) s2) s1) s0
theorem pa6 (h0:PE X e0 t0) (h1:PE X e1 t1) (h2:PE X e2 t2) (h3:PE X e3 t3) (h4:PE X e4 t4) (h5:PE X e5 t5) (s0:Jjy e0=false:=by rfl) (s1:Jjy e1=false:=by rfl) (s2:Jjy e2=false:=by rfl) (s3:Jjy e3=false:=by rfl) (s4:Jjy e4=false:=by rfl) (s5:Jjy e5=false:=by rfl):PA X [e0,e1,e2,e3,e4,e5] (Jk8 t0 (Jk8 t1 (Jk8 t2 (Jk8 t3 (Jk8 t4 (Jk8 t5 (Jsk))))))):=Jkv h0 (Jkv h1 (Jkv h2 (Jkv h3 (Jkv h4 (Jkv h5 (Sl) s5) s4) s3) s2) s1) s0
theorem pa8 (h0:PE X e0 t0) (h1:PE X e1 t1) (h2:PE X e2 t2) (h3:PE X e3 t3) (h4:PE X e4 t4) (h5:PE X e5 t5) (h6:PE X e6 t6) (h7:PE X e7 t7) (s0:Jjy e0=false:=by rfl) (s1:Jjy e1=false:=by rfl) (s2:Jjy e2=false:=by rfl) (s3:Jjy e3=false:=by rfl) (s4:Jjy e4=false:=by rfl) (s5:Jjy e5=false:=by rfl) (s6:Jjy e6=false:=by rfl) (s7:Jjy e7=false:=by rfl):PA X [e0,e1,e2,e3,e4,e5,e6,e7] (Jk8 t0 (Jk8 t1 (Jk8 t2 (Jk8 t3 (Jk8 t4 (Jk8 t5 (Jk8 t6 (Jk8 t7 (Jsk))))))))):=Jkv h0 (Jkv h1 (Jkv h2 (Jkv h3 (Jkv h4 (Jkv h5 (Jkv h6 (Jkv h7 (Sl) s7) s6) s5) s4) s3) s2) s1) s0
theorem pa9 (h0:PE X e0 t0) (h1:PE X e1 t1) (h2:PE X e2 t2) (h3:PE X e3 t3) (h4:PE X e4 t4) (h5:PE X e5 t5) (h6:PE X e6 t6) (h7:PE X e7 t7) (h8:PE X e8 t8) (s0:Jjy e0=false:=by rfl) (s1:Jjy e1=false:=by rfl) (s2:Jjy e2=false:=by rfl) (s3:Jjy e3=false:=by rfl) (s4:Jjy e4=false:=by rfl) (s5:Jjy e5=false:=by rfl) (s6:Jjy e6=false:=by rfl) (s7:Jjy e7=false:=by rfl) (s8:Jjy e8=false:=by rfl):PA X [e0,e1,e2,e3,e4,e5,e6,e7,e8] (Jk8 t0 (Jk8 t1 (Jk8 t2 (Jk8 t3 (Jk8 t4 (Jk8 t5 (Jk8 t6 (Jk8 t7 (Jk8 t8 (Jsk)))))))))):=Jkv h0 (Jkv h1 (Jkv h2 (Jkv h3 (Jkv h4 (Jkv h5 (Jkv h6 (Jkv h7 (Jkv h8 (Sl) s8) s7) s6) s5) s4) s3) s2) s1) s0
end L2
namespace L2
open PySem PySem.Spec PyProof.Rows PySem.W
section
variable {X:Cx}
theorem Jrk {K} (h:X.K=K):IxR X (Spx K):=by subst h;exact Jka
theorem Jq3 {K} (h:X.K=K):Jla X (.builtin "isinstance") (Spv K):=by subst h;exact Jl2
end
section
variable {prog:S7} {w:S9} {A:Sa} {E:S2->S3->Prop} {s:S3}
end
section
variable {X:Cx} {pos:Pos}
end
section
variable {P:S7} {w:S9} {K:Sd} {mg:Str->Option S2} {base:Sb}
end
section
variable {X:Cx} {x:Str} {st:Stmt} {ps:List Str} {f:S1} {fd:S8} {sp:Sp} {k j:Nat} {p pos:Pos} {e:Expr} {es:List Expr} {t:TA} {er:S1}
end
noncomputable def stU (acc:List Str) (z:Str):List Str:=if acc.contains z=true then acc else acc++ [z]
noncomputable def uq (zs:List Str):List Str:=zs.foldl stU []
noncomputable def inU (zs:List Str):Key->Bool
 | .inl _=>false
 | .inr z=>(uq zs).contains z
theorem Jye (zs) (z):uq (zs++ [z])=stU (uq zs) z:=by unfold uq;rw [List.foldl_append];rfl
theorem Snl (zs):(uq zs).length<=zs.length:=by
 have h:∀(l acc:List Str),(l.foldl stU acc).length<=acc.length+l.length:=by
  intro l
  induction l with
  |nil=>intro acc;simp
  |cons z r ih=>
   intro acc;rw [List.foldl_cons];have h1:=ih (stU acc z);have h2:(stU acc z).length<=acc.length+1:=by unfold stU;split <;> simp
   rw [yac];omega
 simpa [uq] using h zs []
theorem Jwa (h:zs.Nodup):uq zs=zs:=by
 have g:∀(l acc:List Str),(acc++l).Nodup->l.foldl stU acc=acc++l:=by
  intro l
  induction l with
  |nil=>intro acc _;simp
  |cons z r ih=>
   intro acc hn;rw [List.foldl_cons];have hz:acc.contains z=false:=by
    cases e:acc.contains z with
    |false=>rfl
    |true=>
     exact absurd rfl ((List.nodup_append.mp hn).2.2 z (List.contains_iff_mem.mp e) z yy)
   have e:stU acc z=acc++ [z]:=by unfold stU;rw [hz];rfl
   rw [e,ih (acc++ [z]) (by simpa using hn)];simp
 simpa [uq] using g zs [] (by simpa using h)
theorem Yc (zs) (z) (k):inU (zs++ [z]) k=(inU zs k||decide (k= .inr z)):=by
 cases k with
 |inl i=>simp [inU]
 |inr y=>
  show (uq (zs++ [z])).contains y=((uq zs).contains y||decide ((.inr y:Key)= .inr z));rw [Jye];unfold stU;split
  ·rename_i hc
   by_cases h:y=z
   ·subst h;rw [hc];simp
   ·simp [h]
  ·rw [Bool.eq_iff_iff];simp [List.contains_iff_mem]
theorem Yd1 (zs) (z):(uq (zs++ [z])).length=if inU zs (.inr z)=true then (uq zs).length else (uq zs).length+1:=by
 rw [Jye];show (stU (uq zs) z).length=if (uq zs).contains z=true then _ else _
 unfold stU;split <;> simp
section
variable {prog:S7} {w:S9} {A:Sa} {R:Result->S3->Prop} {I:S1} {fp wr:List S1} {n:Nat} {P:Nat->S2->Prop} {St:Nat->Sb->Prop}
theorem Jpu {h h':Sb} (hS:h.SetOf (Jkd prog w) a S m) (k:∀o,h.get? a=some o->h'.get? a=some o) (e:∀x,S x=T x) (en:m=m'):h'.SetOf (Jkd prog w) a T m':=by
 obtain rfl:S=T:=funext e;subst en;obtain ⟨o,es,ep,t,ho,rest⟩:=hS;exact ⟨o,es,ep,t,k o ho,rest⟩
theorem Jxg (W:Walks prog w A.in1 I fp wr n P St) (S) (hSf:S∉fp) (zs) (hn:zs.length=n) (hP:∀i v,P i v->∃z t,zs[i]?=some z/\v= .str z t) (hb:n+1 < scanBound):
  ∀k i s,n - i=k->i<=n->St i s.heap->s.heap.SetOf (Jkd prog w) S (inU (zs.take i)) (uq (zs.take i)).length->
   (∀h' tk,(∀b o,b≠S->b∉wr->s.heap.get? b=some o->h'.get? b=some o)->h'.SetOf (Jkd prog w) S (inU zs) (uq zs).length->R (.ok (.ret .none)) {s with heap:=h',toks:=tk})->
   codeAny (model prog w) A (.builtin "set.update.loop" ⟨[.ref S,.ref I],[]⟩) R s:=by
 have hSw:=λh=>hSf (W.sub _ h);intro k
 induction k with
 |zero=>
  intro i s hk hi hst hS hR;obtain rfl:i=n:=by omega
  refine codeAny_builtin PyProof.Rows.F.entry_set_update_loop ?_;refine S4 (W.done s _ _ hst λh' tk km=>?_);refine S5 (hR h' tk (λb o _ nb e=>km b o nb e) (Jpu hS (λo e=>km S o hSw e) (λx=>?_) ?_))
  ·rw [yaj (by omega)]
  ·rw [yaj (by omega)]
 |succ k ih=>
  intro i s hk hi hst hS hR;have hlt:i < n:=by omega
  refine codeAny_builtin PyProof.Rows.F.entry_set_update_loop ?_;refine S4 (W.item i s _ _ hlt hst λv h1 tk hv hst1 km=>?_);obtain ⟨z,t,hz,rfl⟩:=hP i v hv;have et:zs.take (i+1)=zs.take i++ [z]:=by rw [yad,hz];rfl
  have room:(uq (zs.take i)).length+1 < scanBound:=by
   have h1:=Snl (zs.take i);rw [yaf] at h1;omega
  refine S4 (wpAny_holding ?_);refine wpAny_holding (S4 ((Jkd prog w).pyHash (Jo0 _ _ _ _) ?_));refine wpAny_setAddHashed_of (Jo0 _ _ _ _) rfl (Jpu hS (λo e=>km S o hSw e) (λ_=>rfl) rfl) room λh2 sb hS2=>S5 ⟨plainId_quiet PyProof.Rows.F.plain_set_update_loop _,ih (i+1) _ (by omega) hlt (W.frame _ _ _ hst1 λb hbf o e=>?_) (Jpu hS2 (λo e=>e) (λx=>?_) ?_) λh3 tk3 k3 hS3=>?_⟩
  ·show h2.get? b=some o;rw [sb.2 b (λq=>hSf (by rw [<-q];exact hbf))];exact e
  ·rw [et,Yc]
  ·rw [et,Yd1]
  ·exact hR h3 tk3 (λb o nS nw e=>k3 b o nS nw (by show h2.get? b=some o;rw [sb.2 b nS];exact km b o nw e)) hS3
end
section
variable {prog:S7} {w:S9} {A:Sa} {E:S2->S3->Prop} {s:S3}
set_option maxRecDepth 100000 in
set_option maxHeartbeats 3200000 in
theorem Jzf {l:S1} {items:Array S2} {zs:List Str} {Q:S2->S3->Prop} (hh:A.handled=none) (hl:s.heap.IsList l items) (hz:zs.length=items.size) (hi:∀(i:Nat) (v:S2),items[i]?=some v->∃z t,zs[i]?=some z/\v= .str z t) (hb:items.size+1 < scanBound)
  (h:∀(h':Sb) (tk:Nat),h'.SetOf (Jkd prog w) s.heap.objs.size (inU zs) (uq zs).length->(∀b o,s.heap.get? b=some o->h'.get? b=some o)->Q (.ref s.heap.objs.size) {s with heap:=h',toks:=tk}):Sc (model prog w) A (call (.type "set") [.ref l]) Q E s:=by
 obtain ⟨cc,tl,hmro⟩:=F.called_set.mro;have hmade:=F.called_set.made;have hsub:=F.called_set.sub;refine wpAny_call (codeAny_of_tree ?_);show Sc _ _ (callAny (.type "set") _) _ _ _;refine S5 ⟨Code.quiet_builtin _ (by decide +kernel),codeAny_builtin F.entry_type_call ?_⟩;rw [Around.under_plain (weight_type_call_type "set" [.ref l] []) rfl];have g1:=F.called_set.notType;have g2:=F.called_set.canCreate;have g3:=F.typeCall_set_1 (.ref l)
 repeat (any_goals (first|assumption|wp_step))
 refine codeAny_mono (code_set_new_1 (.ref l) (E:=E) (Q₁:=λobj s1=>∃led:Bool,obj= .ref s.heap.objs.size/\s1={s with heap:=s.heap.push {cls:=.type "set",dict:=none,data:=.set #[] 0 (.fresh 0 0 led)}}) λled=>⟨led,rfl,rfl⟩) λr s1 hr=>?_;cases r with
 |error e=>exact hr
 |ok fl=>
  cases fl with
  |ret obj=>
   obtain ⟨led,rfl,rfl⟩:=hr;have hS:(s.heap.push {cls:=.type "set",dict:=none,data:=.set #[] 0 (.fresh 0 0 led)}).get? s.heap.objs.size=some {cls:=.type "set",dict:=none,data:=.set #[] 0 (.fresh 0 0 led)}:=yn _ rfl;have hT:Shared.TypeIs {s with heap:=s.heap.push {cls:=.type "set",dict:=none,data:=.set #[] 0 (.fresh 0 0 led)}} (.ref s.heap.objs.size) "set" :=⟨_,hS,rfl⟩;have g4:=F.called_set.init.lookup;have g5:=F.called_set.init.bind (.ref s.heap.objs.size)
   repeat (any_goals (first|assumption|wp_step))
   refine codeAny_mono (codeAny_call_builtin (R:=wants (λr s2=>r= .none/\∃h' tk,s2={s with heap:=h',toks:=tk}/\h'.SetOf (Jkd prog w) s.heap.objs.size (inU zs) (uq zs).length/\(∀b o,s.heap.get? b=some o->h'.get? b=some o)) E) F.called_set.init.plain F.entry_set_init (check_set_init_1 hT ?_)) λr2 s2 hr2=>?_
   ·obtain ⟨⟨oc,od,oda,osl⟩,hol,hcl,nl,hdl⟩:=hl;simp only at hcl hdl;subst hcl hdl;have hol':(s.heap.push {cls:=.type "set",dict:=none,data:=.set #[] 0 (.fresh 0 0 led)}).get? l=some {cls:=.type "list",dict:=od,data:=.seq items nl,slots:=osl}:=yh _ hol;have g6:=F.sub_list_set;have g7:=F.sub_list_frozenset;have g8:(Value.type "list" ==Value.type "dict")=false:=by decide
    have hl1:(s.heap.push {cls:=.type "set",dict:=none,data:=.set #[] 0 (.fresh 0 0 led)}).IsList l items:=⟨_,hol',rfl,nl,rfl⟩;unfold Builtin.«set.__init__» noKeywords Builtin.Frozenset.updateFrom;generalize hPI:pyIter=PI
    wp_walk
    subst hPI;refine wpAny_pyIter_list hl1 (S4 (wpAny_runValue ?_));have lS:l < s.heap.objs.size:=yi hol;have h3:A.in1.in1.in1.handled=none:=by simp [hh]
    have nI:l≠(s.heap.push {cls:=.type "set",dict:=none,data:=.set #[] 0 (.fresh 0 0 led)}).objs.size:=by rw [yar];exact yt (ycl lS)
    have nS:s.heap.objs.size∉ [(s.heap.push {cls:=.type "set",dict:=none,data:=.set #[] 0 (.fresh 0 0 led)}).objs.size,l]:=by
     rw [yar];simp only [yr,ybe,or_false,not_or];exact ⟨yt (ybs _),ybd lS⟩
    refine Jxg (Walks.list h3 _ l nI items) s.heap.objs.size nS zs hz hi hb (items.size - 0) 0 _ (by omega) (yw _) ⟨⟨_,yn _ rfl,rfl,rfl⟩,hl1.push _⟩ ?S0 ?R0
    case S0=>
     have q:((s.heap.push {cls:=.type "set",dict:=none,data:=.set #[] 0 (.fresh 0 0 led)}).push {cls:=.type "list_iterator",data:=.fields #[.ref l,.int 0 0]}).get? s.heap.objs.size=some {cls:=.type "set",dict:=none,data:=.set #[] 0 (.fresh 0 0 led)}:=yh _ hS;refine ⟨_,#[],0,_,q,⟨rfl,rfl,rfl⟩,rfl,λe he=>by simp at he,λx=>?_,by decide,by rfl,rfl⟩;cases x <;> simp [inU,uq]
    case R0=>
    intro h' tk km hS';show Sc _ _ _ _ _ _;refine S5 ?_;show Sc _ _ (ret Value.none) _ _ _;refine S5 ⟨rfl,h',tk,rfl,hS',λb o e=>?_⟩;have lb:b < s.heap.objs.size:=yi e;refine km b o (yt lb) ?_ (yh _ (yh _ e));rw [yar];simp only [yr,ybe,or_false];exact yt (ycl lb)
   ·cases r2 with
    |error e=>exact hr2
    |ok fl2=>
     cases fl2 with
     |ret r=>
      obtain ⟨rfl,h',tk,rfl,hS',hk'⟩:=hr2
      repeat (any_goals (first|assumption|wp_step))
      exact h _ _ hS' hk'
     |_=>exact hr2.elim
  |_=>exact hr.elim
end
noncomputable def TxS (P:S7) (w:S9) (a:S1) (zs:List Str):HO:=.ext λh=>h.SetOf (Jkd P w) a (inU zs) (uq zs).length
theorem Snh (hS:h.SetOf (Jkd P w) a (inU zs) (uq zs).length):Sac P w H h a (TxS P w a zs):=
 ⟨hS,(let ⟨o,_,_,_,ho,_⟩:=hS;⟨o,ho⟩),λ_ _ p k=>Jpu p k (λ_=>rfl) rfl⟩
section
variable {X:Cx}
theorem Jrs (hc:X.calm=true):Jla X (.type "set") (λxs H Q=>∃(l:S1) (zs:List Str),xs= [.ref l]/\Ss X.K H l (zs.map V.str)/\zs.length<=2000/\∀a,H a=none->Q (.ref a) (upd H a (TxS X.prog X.w a zs))):=by
 rintro pins s σ H xs us Q I r ⟨l,zs,rfl,hq,hz,q⟩;obtain ⟨u,rfl,ru⟩:=Jlz r;obtain rfl:u=Value.ref l:=ru;obtain ⟨its,rv,pl,_⟩:=I.list hq;have hlen:=rv.length;rw [yf] at hlen;refine Jzf (I.ok.hd hc) pl.isList (by simpa using hlen) (λi v hv=>?_) (by simp only [yp];unfold scanBound;omega) λh' tk hS kk=>⟨.ref s.heap.objs.size,_,I.laid kk (yg _) (Snh hS),rfl,q _ (I.hok.fresh (yg _))⟩
 ·have hv':=by simpa using hv
  have hlt:i < zs.length:=by have:=(yk.mp hv').1;omega
  obtain ⟨u,hu,ru⟩:=rv.get (by rw [ym,yj hlt];rfl);rw [hv'] at hu;cases hu;obtain ⟨t,rfl⟩:=ru;exact ⟨zs[i],t,yj hlt,rfl⟩
theorem Jrr:Jla X (.builtin "len") (λxs H Q=>∃(a:S1) (zs:List Str),xs= [.ref a]/\H a=some (TxS X.prog X.w a zs)/\Q (.int (uq zs).length) H):=by
 rintro pins s σ H xs us Q I r ⟨a,zs,rfl,ha,q⟩;obtain ⟨u,rfl,ru⟩:=Jlz r;obtain rfl:u=Value.ref a:=ru;obtain ⟨o,es,ep,t,ho,hex,hd,_,_,hb,hf,hn⟩:=(I.hok a _ ha).1;refine call_len_set ho hex hd hf (by unfold scanBound at hb;omega) ?_;rw [hn];exact ⟨.int _,H,I.tok _,⟨_,rfl⟩,q⟩
end
theorem Jzu:bootBuiltins "sum" =some (.builtin "sum"):=by decide +kernel
theorem Slc:bootBuiltins "set" =some (.type "set"):=by decide +kernel
theorem Jtz:bootBuiltins "enumerate" =some (.type "enumerate"):=by decide +kernel
noncomputable def Sml (ns:List Int):Prop:=ns.length<=2000/\∀n∈ns,-100000000000000<=n/\n<=100000000000000
theorem Jrl (ns:List Int):∀i,i<=ns.length->preSum (λj=>ns.getD j 0) i=(ns.take i).sum
 |0,_=>by simp [preSum]
 |i+1,h=>by
  have ih:=Jrl ns i (by lia);have hlt:i < ns.length:=by lia
  have e:ns.take (i+1)=ns.take i++ [ns[i]]:=by rw [yad,yj hlt];rfl
  have e2:ns.getD i 0=ns[i]:=by simp [yj hlt]
  rw [e,List.sum_append];simp only [List.sum_cons,List.sum_nil];show preSum (λj=>ns.getD j 0) i+ns.getD i 0=_
  lia
theorem Yan:∀(l:List Int),(∀n∈l,-100000000000000<=n/\n<=100000000000000)-> -100000000000000*(l.length:Int)<=l.sum/\l.sum<=100000000000000*(l.length:Int)
 | [],_=>by simp
 |n::r,h=>by
  have h1:=h n yy;have h2:=Yan r λm hm=>h m (yq _ hm);rw [List.sum_cons,yac];constructor <;> lia
section
variable {X:Cx}
inductive Sve (K:Sd) (xs:List V) (H:Hp) (Q:VK):Prop where
 |mk (a:S1) (ns:List Int) (_:xs= [.ref a]) (_:(Ss K H a (ns.map V.int)\/SqT K H a (ns.map V.int))) (_:Sml ns) (_:Q (.int ns.sum) H)
theorem Jva (hc:X.calm=true):Jla X (.builtin "sum") (Sve X.K):=by
 rintro pins s σ H xs us Q I r ⟨a,ns,rfl,hq,hs,q⟩;obtain ⟨u,rfl,ru⟩:=Jlz r;obtain rfl:u=Value.ref a:=ru;have fit:∀j,j < ns.length->InLong ((λj=>ns.getD j 0) j)/\InLong (preSum (λj=>ns.getD j 0) (j+1)):=λj hj=>by
  have e2:ns.getD j 0=ns[j]:=by simp [yj hj]
  have b1:=hs.2 _ (ybn hj);have b2:=Yan (ns.take (j+1)) λm hm=>hs.2 m (List.mem_of_mem_take hm);have b3:(ns.take (j+1)).length<=2000:=by have:=hs.1;rw [yaf];lia
  rw [Jrl ns (j+1) (by lia)];refine ⟨?_,?_⟩
  ·show InLong (ns.getD j 0);constructor <;> lia
  ·unfold InLong;constructor <;> lia
 have fin:∀{its:List S2} (rv:Sv (ns.map V.int) its) (i:Nat) v,its.toArray[i]?=some v->∃t,v= .int ((λj=>ns.getD j 0) i) t:=λ{its} rv i v hv=>by
  have hv':=by simpa using hv
  have hl:=rv.length;rw [yf] at hl;have hi:i < ns.length:=by have:=(yk.mp hv').1;lia
  obtain ⟨u',hu',ru'⟩:=rv.get (by rw [ym,yj hi];rfl);rw [hv'] at hu';cases hu';obtain ⟨t,rfl⟩:=ru';exact ⟨t,by simp [yj hi]⟩
 rcases hq with hq|hq
 ·obtain ⟨its,rv,pl,_⟩:=I.list hq;have hl:=rv.length;rw [yf] at hl;have ne:a≠s.heap.objs.size:=by obtain ⟨o,_,e,_⟩:=pl;exact yt (yi e)
  refine call_sum_walk (wpAny_pyIter_list pl.isList ⟨s.heap.objs.size,_,_,its.toArray.size,_,_,λj=>ns.getD j 0,rfl,Walks.list (A:=X.A.in1) (I.ok.hd hc) s.heap.objs.size a ne its.toArray,⟨⟨_,yn _ rfl,rfl,rfl⟩,pl.isList.push _⟩,λb hb=>?_,fin rv,λj hj=>fit j (by simp only [yp] at hj;lia),λh' tk t' k=>?_⟩)
  ·rw [yar];simp only [yr,ybe,or_false] at hb;rcases hb with rfl|rfl
   ·exact ybs _
   ·obtain ⟨o,_,e,_⟩:=pl;exact ycl (yi e)
  ·have e:preSum (λj=>ns.getD j 0) its.toArray.size=ns.sum:=by
    rw [Jrl ns _ (by simp only [yp];lia),yaj (by simp only [yp];lia)]
   rw [e];exact ⟨.int _,H,I.kept λb o e=>k b o (λz=>by
    have z':=by simpa using z
    exact absurd (yi e) (by rw [z'];exact yaq _)) (yh _ e),⟨_,rfl⟩,q⟩
 ·obtain ⟨its,rv,pt,_⟩:=I.tuple hq;have hl:=rv.length;rw [yf] at hl;have ne:a≠s.heap.objs.size:=by obtain ⟨o,e,_⟩:=pt;exact yt (yi e)
  refine call_sum_walk (wpAny_pyIter_tuple (pt) ⟨s.heap.objs.size,_,_,its.toArray.size,_,_,λj=>ns.getD j 0,rfl,Walks.tuple (A:=X.A.in1) (I.ok.hd hc) s.heap.objs.size a ne its.toArray,⟨⟨_,yn _ rfl,rfl,rfl⟩,Heap.IsTuple.push pt _⟩,λb hb=>?_,fin rv,λj hj=>fit j (by simp only [yp] at hj;lia),λh' tk t' k=>?_⟩)
  ·rw [yar];simp only [yr,ybe,or_false] at hb;rcases hb with rfl|rfl
   ·exact ybs _
   ·obtain ⟨o,e,_⟩:=pt;exact ycl (yi e)
  ·have e:preSum (λj=>ns.getD j 0) its.toArray.size=ns.sum:=by
    rw [Jrl ns _ (by simp only [yp];lia),yaj (by simp only [yp];lia)]
   rw [e];exact ⟨.int _,H,I.kept λb o e=>k b o (λz=>by
    have z':=by simpa using z
    exact absurd (yi e) (by rw [z'];exact yaq _)) (yh _ e),⟨_,rfl⟩,q⟩
end
noncomputable def ItE (K:Sd) (a:S1):It:=⟨λi H=>∃xs x,Ss K H a xs/\xs[i]?=some x,
 λi H x H'=>∃T u,H T=none/\x= .ref T/\(∀xs,Ss K H a xs->xs[i]?=some u)/\H'=upd H T (.tup [.int i,u]),
 λi H=>∃xs,Ss K H a xs/\i=xs.length⟩
noncomputable def Sgc (e it l:S1) (i:Nat) (h:Sb):Prop:=(∃old,IsEnum h e it i old)/\h.IsListIter it l i
theorem Sgc.obj (st:Sgc e it l i h):∀b∈ [e,it],∃o,h.get? b=some o/\∀v,o.data≠ .cell v:=λb hb=>by
 obtain ⟨⟨old,h1⟩,⟨o4,h4,_,d4⟩⟩:=st;simp only [yr,ybe,or_false] at hb;rcases hb with rfl|rfl
 ·exact ⟨_,h1,λv z=>by cases z⟩
 ·exact ⟨o4,h4,λv z=>by rw [d4] at z;cases z⟩
theorem Yaw {K} (e it l) (n1:e≠it) (n2:l≠e) (n3:l≠it):
  Turn P w K (.Tuple elts kt pt) (ItE K l) [e,it] e (Sgc e it l) where
 mem:=by simp
 obj:=λi h st=>st.obj
 keep:=λi h h' st k=>by
  obtain ⟨⟨old,h1⟩,h2⟩:=st;exact ⟨⟨old,k e (by simp) _ h1⟩,h2.at λo q=>k it (by simp) o q⟩
 item:=by
  intro X hP hw hK hc i pins s σ H E I hf st hg;subst hP hw hK;obtain ⟨xs,x,q1,hx⟩:=hg;obtain ⟨its,rv,p1,_⟩:=I.list q1;obtain ⟨u,hu,ru⟩:=rv.get hx;have W:=WalksT.enumerate (prog:=X.prog) (w:=X.w) (I.ok.hd hc) e it l n1 n2 n3 its.toArray;obtain ⟨s1,s2⟩:=st;have li:=(yk.mp hu).1;refine W.item i s _ _ (by simp only [yp];omega) ⟨s1,s2,p1.isList⟩ λT vals h' tk hP fT tT mid kk=>⟨_,rfl,W.go elts kt pt i T _ _ _ mid λh'' st'' kk2=>?_⟩;obtain ⟨t,a,ha,rfl⟩:=hP;have ea:=by simpa [hu] using ha.symm
  subst ea;obtain ⟨t1,t2,_⟩:=st'';have kT:h''.IsTuple T #[.int i t,a]:=by
   obtain ⟨o,q,r⟩:=tT;exact ⟨o,kk2 T o (W.apart i T h' mid) q,r⟩
  refine ⟨.ref T,upd H T (.tup [.int i,x]),I.turnTup hf (λc o hc q=>kk2 c o hc (kk c o hc q)) fT ⟨(show 2<=S6 by decide),[.int i t,a],.cons ⟨t,rfl⟩ (.cons ru .nil),kT⟩,rfl,⟨T,x,I.hok.fresh fT,rfl,λxs' hq=>by rw [I.list_inj hq q1];exact hx,rfl⟩,⟨t1,t2⟩,λc hc=>?_⟩;rw [Sy (λw'=>?_)]
  ·exact ((hf c hc).1)
  ·subst w';obtain ⟨o,q,_⟩:=Sgc.obj (⟨s1,s2⟩) c hc;exact absurd (yi q) (Nat.not_lt.mpr fT)
 done:=by
  intro X hP hw hK hc i pins s σ H E I hf st hg;subst hP hw hK;obtain ⟨xs,q1,hi⟩:=hg;obtain ⟨its,rv,p1,_⟩:=I.list q1;obtain ⟨s1,s2⟩:=st;have e1:=rv.length;have ei:i=its.toArray.size:=by simp only [yp];omega
  subst ei;exact (WalksT.enumerate (I.ok.hd hc) e it l n1 n2 n3 its.toArray).done s _ _ ⟨s1,s2,p1.isList⟩ λh' tk kk=>⟨rfl,I.turnMany hf λc o hc q=>kk c o hc q⟩
 self:=λ_ _ _ _ _ st h=>let ⟨_,q⟩:=st.1;wpAny_pyIter_enum q h
noncomputable def Suu (K:Sd) (ta:TA):TI:=λσ H R=>ta σ H λvs H1=>∃a,vs= [.ref a]/\(∃xs,Ss K H1 a xs)/\R (ItE K a) H1
theorem Jy5 (hg:Gl X "enumerate") (hm:X.mg "enumerate" =none) (ha:PA X [a] ta) (hs:starEach [a] X.env= [(false,eval a X.env)]:=by rfl):
  PI X (.Tuple elts kt pt) (.Call (.Name "enumerate" p) [a] [] pos) (Suu X.K ta):=by
 intro pins s σ H R I h;refine Call_ (Jny I hg hm Jtz (PyProof.Rows.callWith_type1 (thn (ha pos pins s σ H _ I h) λus s1 zq=>?_) (by rw [hs];rfl) rfl));obtain ⟨vs,H1,I1,r1,q1⟩:=zq;obtain ⟨l,rfl,⟨xs,q1⟩,q⟩:=q1;obtain ⟨u,rfl,r2⟩:=Jlz r1;obtain rfl:u=Value.ref l:=r2;obtain ⟨its,rv,p1,_⟩:=I1.list q1;have a1:l < s1.heap.objs.size:=by obtain ⟨o,n,e,_⟩:=p1;exact yi e
 refine call_enumerate_list p1.isList λh' z1 z2 z3 kk=>?_;have I2:Sm X pins σ H1 {s1 with heap:=h'}:=I1.kept kk;refine wpAny_pyIter_enum z1 ⟨_,_,_,_,H1,rfl,I2,Yaw (s1.heap.objs.size+1) s1.heap.objs.size l (Nat.succ_ne_self _) (yt (ycl a1)) (yt a1),⟨⟨_,z1⟩,z2⟩,λc hc=>?_,q⟩;have hc':s1.heap.objs.size<=c:=by
  simp only [yr,ybe,or_false] at hc;rcases hc with rfl|rfl
  ·exact Nat.le_succ _
  ·exact yg _
 exact I1.fpOk hc' (I1.hok.fresh hc')
section
variable {prog:S7} {w:S9} {A:Sa} {E:S2->S3->Prop} {s:S3}
theorem Jv0 {x} {Q} (hit:s.heap.IsTupleIter it t i) (ht:s.heap.IsTuple t items) (hx:items[i]?=some x)
  (hQ:∀h',h'.IsTupleIter it t (i+1)->yz it s.heap h'->Q x {s with heap:=h'}):Sc (model prog w) A (Builtin.SmallTypes.nextOf (.ref it)) Q E s:=by
 obtain ⟨o,ho,hc,hd⟩:=id hit;obtain ⟨ol,hol,_,nl,hdl⟩:=ht;have hT:s.TypeIs (.ref it) "tuple_iterator" :=⟨o,ho,hc⟩;refine S4 (wpAny_callSpecial?_slot hT slot_tupleiter_next (wpAny_call_entry slot_tupleiter_next hT entry_tupleiter_next ?_ (args_tupleiter_next _)));refine S4 (m:=field (.ref it) 0) (wpAny_field ho hd rfl (S4 (wpAny_field ho hd rfl (S4 (wpAny_seqItems hol hdl ?_)))));simp only [yaz,hx];refine S4 (wpAny_setField ho hd (by simp) (S5 ⟨x,rfl,S5 (hQ _ ⟨_,ybc _ ho (Obj.isFreed_of_fields (Obj.data_mapFields hd _)),(Obj.cls_mapFields ..).trans hc,?_⟩ (yz.update ..))⟩));rw [Obj.data_mapFields hd];simp [rawInt]
theorem Jw7 {Q} (hh:A.handled=none) (hit:s.heap.IsTupleIter it t i) (ht:s.heap.IsTuple t items) (hx:items[i]?=none)
  (hE:∀h' e,Heap.ExtBut it s.heap h'->(∃o,h'.get? e=some o/\o.cls= .type "StopIteration")->E (.ref e) {s with heap:=h'}):Sc (model prog w) A (Builtin.SmallTypes.nextOf (.ref it)) Q E s:=by
 obtain ⟨o,ho,hc,hd⟩:=id hit;obtain ⟨ol,hol,_,nl,hdl⟩:=ht;have hT:s.TypeIs (.ref it) "tuple_iterator" :=⟨o,ho,hc⟩;refine S4 (wpAny_callSpecial?_slot hT slot_tupleiter_next (wpAny_call_entry slot_tupleiter_next hT entry_tupleiter_next ?_ (args_tupleiter_next _)));refine S4 (m:=field (.ref it) 0) (wpAny_field ho hd rfl (S4 (wpAny_field ho hd rfl (S4 (wpAny_seqItems hol hdl ?_)))));simp only [yaz,hx];refine S4 (wpAny_rule (S4 (wpAny_setField ho hd (by simp) (S4 (S4 (wpAny_newObj_type (S4 (wpAny_of_eq (by first|rfl|(simp only [firstArgMember];rfl)) (wpAny_newObj_type (S4 (wpAny_handled ?_)) (by size_fits)))) (by size_fits)))))))
 first|rw [hh]|rw [hh]
 exact S4 (S5 (wpAny_throw (hE _ _ (((yz.update ..).extBut.push _).push _) ⟨_,yn _ rfl,rfl⟩)))
end
theorem Jyp (hh:A.handled=none) (it l) (hne:l≠it) (items):
  Draws prog w A it [it,l] items.size (λi v=>items[i]?=some v) (λi h=>h.IsTupleIter it l i/\h.IsTuple l items) where
 live:=λ_ _ st=>let ⟨o,ho,_⟩:=st.1;⟨o,ho⟩
 frame:=λ_ _ _ st hk=>⟨st.1.at λo e=>hk it (by simp) o e,st.2.at λo e=>hk l (by simp) o e⟩
 item:=λi s Q E hi st hQ=>Jv0 st.1 st.2 (x:=items[i]) (by simp [hi]) λh' hit' hs'=>hQ _ h' s.toks (by simp [hi]) ⟨hit',st.2.extBut hs'.extBut hne⟩ hs'
 done:=λs Q E st hE=>Jw7 hh st.1 st.2 (by simp) hE
section
variable {prog:S7} {w:S9} {A:Sa} {E:S2->S3->Prop} {s:S3}
end
noncomputable abbrev DrA (prog:S7) (w:S9) (i l:S1) (n:Nat) (P:Nat->S2->Prop) (St:Nat->Sb->Prop):Prop:=∀A:Sa,A.handled=none->Draws prog w A i [i,l] n P St
noncomputable def SqB (K:Sd) (H:Hp) (l:S1):Bool->List V->Prop
 |false,xs=>Ss K H l xs
 |true,xs=>SqT K H l xs
noncomputable def IsB (h:Sb) (l:S1):Bool->Array S2->Prop
 |false,items=>h.IsList l items
 |true,items=>h.IsTuple l items
noncomputable def IS (it l:S1):Bool->Nat->Sb->Prop
 |false,i,h=>h.IsListIter it l i
 |true,i,h=>h.IsTupleIter it l i
noncomputable def itO (l:S1):Bool->Obj
 |false=>{cls:=.type "list_iterator",data:=.fields #[.ref l,.int 0 0]}
 |true=>{cls:=.type "tuple_iterator",data:=.fields #[.ref l,.int 0 0]}
theorem IS.at (x:IS it l b i h) (k:∀o,h.get? it=some o->h'.get? it=some o):IS it l b i h':=by
 cases b
 ·exact Heap.IsListIter.at x k
 ·exact Heap.IsTupleIter.at x k
theorem IS.obj (x:IS it l b i h):∃o,h.get? it=some o/\∀v,o.data≠ .cell v:=by
 cases b
 ·obtain ⟨o,e,_,d⟩:=x;exact ⟨o,e,λv z=>by rw [d] at z;cases z⟩
 ·obtain ⟨o,e,_,d⟩:=x;exact ⟨o,e,λv z=>by rw [d] at z;cases z⟩
theorem drA (b) (ne:l≠it) (items):DrA prog w it l items.size (λi v=>items[i]?=some v) (λi h=>IS it l b i h/\IsB h l b items):=λA hh=>by
 cases b
 ·exact Draws.list hh it l ne items
 ·exact Jyp hh it l ne items
section
variable {prog:S7} {w:S9} {A:Sa} {E:S2->S3->Prop} {s:S3}
theorem IsB.push (x:IsB h l b items) (o):IsB (h.push o) l b items:=by
 cases b
 ·exact Heap.IsList.push x o
 ·exact Heap.IsTuple.push x o
theorem IsB.lt (x:IsB h l b items):l < h.objs.size:=by
 cases b
 ·obtain ⟨o,e,_⟩:=x;exact yi e
 ·obtain ⟨o,e,_⟩:=x;exact yi e
theorem Ye {Q} (x:IsB s.heap l b items) (hQ:Q (.ref s.heap.objs.size) {s with heap:=s.heap.push (itO l b)}):Sc (model prog w) A (pyIter (.ref l)) Q E s:=by
 cases b
 ·exact wpAny_pyIter_list x hQ
 ·exact wpAny_pyIter_tuple x hQ
end
section
variable {X:Cx} {pins:List (S1×Obj)} {σ:St} {H:Hp} {s:S3}
theorem Sm.seqB (I:Sm X pins σ H s) (h:SqB X.K H l b xs):∃its,Sv xs its/\IsB s.heap l b its.toArray:=by
 cases b
 ·obtain ⟨its,rv,p,_⟩:=I.list h;exact ⟨its,rv,p.isList⟩
 ·obtain ⟨its,rv,p,_⟩:=I.tuple h;exact ⟨its,rv,p⟩
theorem Sm.seqB_inj (I:Sm X pins σ H s) (h:SqB X.K H l b xs) (h':SqB X.K H l b ys):xs=ys:=by
 cases b
 ·exact I.list_inj h h'
 ·exact I.tuple_inj h h'
end
structure ZE where
 i:S1
 l:S1
 b:Bool
 its:Array S2
noncomputable abbrev Jns (h:Sb) (T:S1) (vs:List S2):Prop:=h.get? T=some {cls:=.type "tuple",data:=.seq vs.toArray}
structure ZA (z TI TO:S1) (zs:List ZE):Prop where
 nd:(z::TI::TO::zs.map (·.i)).Nodup
 m:∀q∈zs,q.l∉z::TI::TO::zs.map (·.i)
theorem Jyr {α β:Type} {M:Model} {A:Sa} {E:S2->S3->Prop} {f:α->β->Sem (ForInStep β)} {b:β} {l:List α} {Q:β->S3->Prop}:
  ∀{s:S3} (J:Nat->S3->Prop),(∀j a s,l[j]?=some a->J j s->Sc M A (f a b) (λr s'=>r= .yield b/\J (j+1) s') E s)->J 0 s->(∀s',J l.length s'->Q b s')->Sc M A (forIn l b f) Q E s:=by
 induction l with
 |nil=>
  intro s J st h0 hq;rw [ycb];exact S5 (hq s h0)
 |cons a l ih=>
  intro s J st h0 hq;rw [ybm];refine S4 (wpAny_mono (st 0 a s rfl h0) (λr s' ⟨e,j⟩=>?_) λ_ _ z=>z);subst e;exact ih (λj=>J (j+1)) (λj a s e=>st (j+1) a s (by simpa using e)) j hq
section
variable {prog:S7} {w:S9} {A:Sa} {E:S2->S3->Prop} {s:S3} {z TI TO:S1} {zs:List ZE} {k:Nat}
theorem Sqx {k} {Q} {vs:List S2} (sz:vs.length<=S6) (hT:Jns s.heap T vs) (h:∀h',Jns h' T (vs.set k x)->yz T s.heap h'->Q () {s with heap:=h'}):Sc (model prog w) A (updateSeq T (·.setIfInBounds k x)) Q E s:=by
 refine wpAny_updateSeq hT rfl (h _ ?_ (yz.update ..)) (by simpa using sz) (by simp;lia);show _=some _;rw [ybc _ hT rfl];simp [Obj.mapSeq]
theorem ZA.ne (Z:ZA z TI TO zs):z≠TI/\z≠TO/\TI≠TO/\(∀q∈zs,q.i≠z/\q.i≠TI/\q.i≠TO/\q.l≠z/\q.l≠TI/\q.l≠TO)/\(∀q∈zs,∀r∈zs,q.l≠r.i)/\∀(i j:Nat) (q r:ZE),zs[i]?=some q->zs[j]?=some r->i≠j->q.i≠r.i:=by
 obtain ⟨nd,m⟩:=Z;simp only [ybp,yr,not_or] at nd;obtain ⟨⟨h1,h2,h3⟩,⟨h4,h5⟩,h6,h7⟩:=nd;have mem:∀q∈zs,q.i∈zs.map (·.i):=λq hq=>yba hq;refine ⟨h1,h2,h4,λq hq=>?_,λq hq r hr e=>?_,λi j q r hi hj ne e=>ne ?_⟩
 ·have q1:=mem q hq;have q2:=m q hq;simp only [yr,not_or] at q2;exact ⟨λe=>h3 (e▸q1),λe=>h5 (e▸q1),λe=>h6 (e▸q1),q2.1,q2.2.1,q2.2.2.1⟩
 ·have q2:=m q hq;simp only [yr,not_or] at q2;exact q2.2.2.2 (e▸mem r hr)
 ·have e1:(zs.map (·.i))[i]?=some q.i:=by rw [ym,hi];rfl
  have e2:(zs.map (·.i))[j]?=some q.i:=by rw [ym,hj,e];rfl
  obtain ⟨li,ei⟩:=yk.mp e1;obtain ⟨lj,ej⟩:=yk.mp e2;have pw:=List.pairwise_iff_getElem.mp h7;rcases Nat.lt_trichotomy i j with c|c|c
  ·exact absurd (ei.trans ej.symm) (pw i j li lj c)
  ·exact c
  ·exact absurd (ej.trans ei.symm) (pw j i lj li c)
theorem IsB.at {h h':Sb} {l:S1} {b:Bool} {items:Array S2} (x:IsB h l b items) (k:∀o,h.get? l=some o->h'.get? l=some o):IsB h' l b items:=by
 cases b
 ·obtain ⟨o,e,r⟩:=x;exact ⟨o,k o e,r⟩
 ·obtain ⟨o,e,r⟩:=x;exact ⟨o,k o e,r⟩
theorem IS.but {it l:S1} {b:Bool} {i:Nat} {h h':Sb} {c:S1} (e:it≠c) (sb:yz c h h') (x:IS it l b i h):IS it l b i h':=x.at λo q=>sb.extBut _ _ e q
theorem Yd8 {Q:S2->S3->Prop} {q0:ZE} {ws:List S2} (Z:ZA z TI TO (q0::zs)) (hz:IsZip s.heap z TI TO .none) (hTI:Jns s.heap TI ((q0::zs).map λq=>.ref q.i)) (hTO:Jns s.heap TO ws) (hw:ws.length=(q0::zs).length) (hs:(q0::zs).length<=S6)
  (hh:A.handled=none) (hq:∀q∈q0::zs,IsB s.heap q.l q.b q.its/\k < q.its.size/\IS q.i q.l q.b k s.heap)
  (hQ:∀(xs:List S2) h' tk,xs.length=(q0::zs).length->(∀(j:Nat) (q:ZE) (x:S2),(q0::zs)[j]?=some q->xs[j]?=some x->q.its[k]?=some x)->IsZip h' z TI TO (rawInt s.heap.objs.size)->Jns h' TO xs->(∀q∈q0::zs,IS q.i q.l q.b (k+1) h')->Jns h' s.heap.objs.size xs->
   (∀d o,d≠z->d≠TO->d∉(q0::zs).map (·.i)->s.heap.get? d=some o->h'.get? d=some o)->Q (.ref s.heap.objs.size) {s with heap:=h',toks:=tk}):
  Sc (model prog w) A (Builtin.«zip.__next__» ⟨[.ref z],[]⟩) (λfin s'=>∃v,fin= .done (.ret v)/\Q v s') E s:=by
 obtain ⟨zTI,zTO,TITO,ap,al,ai⟩:=Z.ne;show Sc _ _ (field (.ref z) 2 >>=_) _ _ _;refine S4 (wpAny_field hz rfl (x:=.bool false) rfl ?_);refine S4 (m:=field (.ref z) 3) (wpAny_field hz rfl (x:=.ref TI) rfl ?_);refine S4 (wpAny_seqItems hTI rfl ?_);refine S4 (m:=Builtin.SmallTypes.ownedTupleIsFree (.ref z)) ?_;refine S4 (wpAny_field hz rfl (x:=.none) rfl (S5 ?_));refine S4 (wpAny_rule (S4 (wpAny_field hz rfl (x:=.ref TO) rfl (S4 (wpAny_setField_rec hz (by simp) λh1 hz1 s1=>?_)))));refine S4 ?_;refine Jyr (λj s'=>∃(h':Sb) (tk:_) (vs:List S2),s'={s with heap:=h',toks:=tk}/\h'.objs.size=s.heap.objs.size/\IsZip h' z TI TO .ellipsis/\Jns h' TO vs/\vs.length=(q0::zs).length/\(∀i,i < j->∀(q:ZE) (x:S2),(q0::zs)[i]?=some q->vs[i]?=some x->q.its[k]?=some x)/\(∀(i:Nat) (q:ZE),(q0::zs)[i]?=some q->IS q.i q.l q.b (if i < j then k+1 else k) h')/\∀d o,d≠z->d≠TO->d∉(q0::zs).map (·.i)->s.heap.get? d=some o->h'.get? d=some o) (λj a s' hj hJ=>?_) ?_ ?_
 ·obtain ⟨q,hq',rfl⟩:∃q,(q0::zs)[j]?=some q/\a=(.ref q.i,j):=by
   rw [List.getElem?_zipIdx] at hj;obtain ⟨v,hv,rfl⟩:=yca.mp hj;rw [ym] at hv;obtain ⟨q,h1,rfl⟩:=yca.mp hv;exact ⟨q,h1,by simp⟩
  have mq:=yv hq';obtain ⟨a1,a2,a3,a4,a5,a6⟩:=ap q mq;obtain ⟨b1,b2,b3⟩:=hq q mq;obtain ⟨h',tk,vs,rfl,sz,hz',ho,lw,don,st,fr⟩:=hJ;have stq:=st j q hq';rw [if_neg (yaq j)] at stq;have iB:IsB h' q.l q.b q.its:=b1.at λo e=>fr _ _ a4 a6 (λhm=>by
   obtain ⟨r,hr,e⟩:=yab.mp hm;exact al q mq r hr e.symm) e
  refine S4 (wpAny_onRaise ?_);refine S4 (m:=Builtin.SmallTypes.nextOf (.ref q.i)) ((drA (prog:=prog) (w:=w) q.b (al q mq q mq) q.its A hh).item k _ _ _ b2 ⟨stq,iB⟩ λx h2 k2 px u1 s2=>S5 ?_);have o2:Jns h2 TO vs:=s2.extBut _ _ (yu a3) ho;refine S4 (wpAny_seqItems o2 rfl (S4 (Sqx (by lia) o2 λh3 o3 s3=>S4 (wpAny_letGo (S5 ?_)))));refine ⟨rfl,h3,k2,vs.set j x,rfl,by rw [s3.1,s2.1,sz],s3.extBut _ _ zTO (s2.extBut _ _ (yu a1) hz'),o3,by rw [ybt];exact lw,λi hi r y hr hy=>?_,λi r hr=>?_,λd o c1 c2 c3 e=>s3.extBut _ _ c2 (s2.extBut _ _ (λz=>c3 (z▸yba mq)) (fr d o c1 c2 c3 e))⟩
  ·rw [List.getElem?_set] at hy;split at hy
   ·rename_i ij
    subst ij;rw [hq'] at hr;cases hr;split at hy
    ·cases hy;exact px
    ·cases hy
   ·exact don i (by lia) r y hr hy
  ·by_cases ij:i=j
   ·subst ij;rw [hq'] at hr;cases hr;rw [if_pos (ybs i)];exact IS.but a3 s3 u1.1
   ·have e:(if i < j+1 then k+1 else k)=(if i < j then k+1 else k):=by split <;> split <;> lia
    rw [e];exact IS.but (ap r (yv hr)).2.2.1 s3 (IS.but (ai i j r q hr hq' ij) s2 (st i r hr))
 ·refine ⟨h1,_,ws,rfl,s1.1,hz1,s1.extBut _ _ (yu zTO) hTO,hw,λi hi=>absurd hi (Nat.not_lt_zero i),λi q hi=>?_,λd o c1 _ _ e=>s1.extBut _ _ c1 e⟩;rw [if_neg (Nat.not_lt_zero i)];exact IS.but (ap q (yv hi)).1 s1 (hq q (yv hi)).2.2
 ·rintro s' ⟨h9,tk,vs,rfl,sz,zz,o9,lw,don,st,fr⟩;have ln:((List.map (λq:ZE=>Value.ref q.i) (q0::zs)).toArray.toList.zipIdx).length=(q0::zs).length:=by simp
  rw [ln] at don st;refine S4 (wpAny_seqItems o9 rfl (S4 (wpAny_newTuple ?_)));have zlt:z < h9.objs.size:=yi zz;refine S4 (m:=Builtin.SmallTypes.ownedTupleHandOut (.ref z) (.ref h9.objs.size)) ?_;have zp:IsZip (h9.push {cls:=.type "tuple",data:=.seq vs.toArray}) z TI TO .ellipsis:=yh _ zz;refine S4 (wpAny_setField_rec zp (by simp) λh10 hz10 s10=>?_);refine wpAny_setField_rec hz10 (by simp) λh11 hz11 s11=>?_;have up:∀d o,d≠z->h9.get? d=some o->h11.get? d=some o:=λd o c1 e=>s11.extBut _ _ c1 (s10.extBut _ _ c1 (yh _ e));have nw:Jns h11 h9.objs.size vs:=s11.extBut _ _ (ybd zlt) (s10.extBut _ _ (ybd zlt) (yn _ rfl));rw [sz] at hz11 nw;refine S5 ⟨_,rfl,?_⟩;dsimp only;rw [sz];exact hQ vs h11 _ lw (λj q x hj hx=>don j (yk.mp hj).1 q x hj hx) hz11 (up _ _ (yu zTO) o9) (λq mq=>by
   obtain ⟨j,hj⟩:=ybo mq;have:=st j q hj;rw [if_pos (yk.mp hj).1] at this;exact this.at λo e=>up _ _ (ap q mq).1 e) nw λd o c1 c2 c3 e=>up d o c1 (fr d o c1 c2 c3 e)
theorem Snq {Q:_} {q0:ZE} (Z:ZA z TI TO (q0::zs)) (hz:IsZip s.heap z TI TO .none) (hTI:Jns s.heap TI ((q0::zs).map λq=>.ref q.i)) (hh:A.handled=none) (hb:IsB s.heap q0.l q0.b q0.its) (t1:IS q0.i q0.l q0.b q0.its.size s.heap)
  (hE:∀h' e,(∀d o,d≠z->d≠q0.i->s.heap.get? d=some o->h'.get? d=some o)->(∃o,h'.get? e=some o/\o.cls= .type "StopIteration")->E (.ref e) {s with heap:=h'}):
  Sc (model prog w) A (Builtin.«zip.__next__» ⟨[.ref z],[]⟩) Q E s:=by
 obtain ⟨zTI,zTO,TITO,ap,al,ai⟩:=Z.ne;obtain ⟨a1,a2,a3,a4,a5,a6⟩:=ap q0 yy;show Sc _ _ (field (.ref z) 2 >>=_) _ _ _;refine S4 (wpAny_field hz rfl rfl (S4 (wpAny_field hz rfl rfl (S4 (wpAny_seqItems hTI rfl ?_)))));refine S4 (S4 (wpAny_field hz rfl rfl (S5 (S4 (wpAny_rule (S4 (wpAny_field hz rfl rfl (S4 (wpAny_setField_rec hz (by simp) λh1 hz1 s1=>S4 ?_)))))))));have D:=drA (prog:=prog) (w:=w) q0.b (al q0 yy q0 yy) q0.its A hh;refine S4 (S4 (wpAny_onRaise (S4 (D.done _ _ _ ⟨IS.but a1 s1 t1,hb.at λo e=>s1.extBut _ _ a4 e⟩ λh2 e s2 he=>?_))));obtain ⟨oe,hoe,hce⟩:=he;have hz2:=s2 _ _ (yu a1) hz1;have ez:e≠z:=λq=>by subst q;rw [hz2] at hoe;cases hoe;simp at hce
 exact wpAny_setField_rec hz2 (by simp) λh3 _ s3=>hE h3 e (λd o c1 c2 q=>s3.extBut _ _ c1 (s2 _ _ c2 (s1.extBut _ _ c1 q))) ⟨oe,s3.extBut _ _ ez hoe,hce⟩
noncomputable def ZNS (z TI TO:S1) (zs:List ZE) (i:Nat) (h:Sb):Prop:=IsZip h z TI TO .none/\Jns h TI (zs.map λq=>.ref q.i)/\(∃ws:List S2,ws.length=zs.length/\Jns h TO ws)/\∀q∈zs,IS q.i q.l q.b i h/\IsB h q.l q.b q.its
noncomputable def ZNM (z TI TO:S1) (zs:List ZE) (i:Nat) (T:S1) (h:Sb):Prop:=IsZip h z TI TO (rawInt T)/\Jns h TI (zs.map λq=>.ref q.i)/\(∃ws:List S2,ws.length=zs.length/\Jns h TO ws)/\(∀q∈zs,IS q.i q.l q.b (i+1) h/\IsB h q.l q.b q.its)/\T∉z::TO::zs.map (·.i)
theorem Yaz {q0:ZE} (hh:A.handled=none) (Z:ZA z TI TO (q0::zs)) (hs:(q0::zs).length<=S6) (hn:∀q∈q0::zs,q0.its.size<=q.its.size):
  WalksT prog w A z (z::TI::TO::((q0::zs).map (·.i)++(q0::zs).map (·.l))) (z::TO::(q0::zs).map (·.i)) q0.its.size
   (λi vals=>vals.size=(q0::zs).length/\∀(j:Nat) (q:ZE) (x:S2),(q0::zs)[j]?=some q->vals[j]?=some x->q.its[i]?=some x) (ZNS z TI TO (q0::zs)) (ZNM z TI TO (q0::zs)) where
 sub:=λc hc=>by
  simp only [yr,ybb] at hc⊢;grind
 frame:=λi h h' hst hk=>by
  obtain ⟨hz,hTI,⟨ws,lw,hTO⟩,hq⟩:=hst;refine ⟨hk z (by simp) _ hz,hk TI (by simp) _ hTI,⟨ws,lw,hk TO (by simp) _ hTO⟩,λq mq=>⟨(hq q mq).1.at λo e=>hk _ ?_ o e,(hq q mq).2.at λo e=>hk _ ?_ o e⟩⟩
  ·exact yq _ (yq _ (yq _ (List.mem_append_left _ (yba mq))))
  ·exact yq _ (yq _ (yq _ (yau _ (yba mq))))
 item:=λi s Q E hi hst hQ=>by
  obtain ⟨hz,hTI,⟨ws,lw,hTO⟩,hq⟩:=hst;obtain ⟨zTI,zTO,TITO,ap,al,ai⟩:=Z.ne;have hT:s.TypeIs (.ref z) "zip" :=⟨_,hz,rfl⟩;refine S4 (wpAny_attempt (wpAny_callSpecial?_slot hT F.slot_zip_next (wpAny_call_entry F.slot_zip_next hT F.entry_zip_next
   (Yd8 (k:=i) Z hz hTI hTO lw hs hh (λq mq=>⟨(hq q mq).2,yal hi (hn q mq),(hq q mq).1⟩) λxs h' tk lx px a1 a2 a3 a4 hk=>S5 ?_) (F.args_zip_next_1 _))))
  have notm:∀q∈q0::zs,q.l∉(q0::zs).map (·.i):=λq mq hm=>by
   obtain ⟨r,hr,e⟩:=yab.mp hm;exact al q mq r hr e.symm
  have lt:∀{d o},s.heap.get? d=some o->s.heap.objs.size≠d:=λe=>ybd (yi e);refine hQ s.heap.objs.size xs.toArray h' tk ⟨by simpa using lx,λj q x hj hx=>px j q x hj (by simpa using hx)⟩ (yg _) ⟨_,a4,rfl,_,rfl⟩ ⟨a1,hk _ _ (yu zTI) TITO (λhm=>?_) hTI,⟨xs,lx,a2⟩,λq mq=>⟨a3 q mq,(hq q mq).2.at λo e=>hk _ _ (ap q mq).2.2.2.1 (ap q mq).2.2.2.2.2 (notm q mq) e⟩,λhm=>?_⟩ λd o hd e=>hk d o (λq=>hd (by simp [q])) (λq=>hd (by simp [q])) (λq=>hd (yq _ (yq _ q))) e
  ·obtain ⟨r,hr,e⟩:=yab.mp hm;exact (ap r hr).2.1 e
  ·rcases yr.mp hm with e|hm
   ·exact lt hz e
   ·rcases yr.mp hm with e|hm
    ·exact lt hTO e
    ·obtain ⟨r,hr,e⟩:=yab.mp hm;obtain ⟨o,e',_⟩:=(hq r hr).1.obj;exact lt e' e.symm
 go:=λelts k pos i T s Q E hm hQ=>by
  obtain ⟨hz,hTI,⟨ws,lw,hTO⟩,hq,_⟩:=hm;obtain ⟨zTI,zTO,TITO,ap,al,ai⟩:=Z.ne;exact wpAny_letOwnedTupleGo_zip hz λh' hz' sb=>hQ h' ⟨hz',sb.extBut _ _ (yu zTI) hTI,⟨ws,lw,sb.extBut _ _ (yu zTO) hTO⟩,λq mq=>⟨IS.but (ap q mq).1 sb (hq q mq).1,(hq q mq).2.at λo e=>sb.extBut _ _ (ap q mq).2.2.2.1 e⟩⟩ λd o hd e=>sb.extBut _ _ (λq=>hd (by simp [q])) e
 apart:=λi T h hm hT=>hm.2.2.2.2 hT
 done:=λs Q E hst hQ=>by
  obtain ⟨hz,hTI,_,hq⟩:=hst;have hT:s.TypeIs (.ref z) "zip" :=⟨_,hz,rfl⟩;have h0:=hq q0 yy;refine S4 (wpAny_attempt (wpAny_callSpecial?_slot hT F.slot_zip_next (wpAny_call_entry F.slot_zip_next hT F.entry_zip_next
   (Snq Z hz hTI hh h0.2 h0.1 λh' e hk he=>?_) (F.args_zip_next_1 _))))
  obtain ⟨o,ho,hc⟩:=he;exact S4 (wpAny_isInstance ⟨o,ho,hc⟩ isSubtype_stop (S5 (hQ h' s.toks λd o' hd e'=>hk d o' (λq=>hd (by simp [q])) (λq=>hd (by simp [q])) e')))
 self:=λi s Q E hst hQ=>wpAny_pyIter_zip hst.1 hQ
end
noncomputable def Jnr (h:Sb):List Obj->Sb
 | []=>h
 |o::r=>Jnr (h.push o) r
noncomputable def itA (h:Sb):List Obj->List S1
 | []=>[]
 |o::r=>h.objs.size::itA (h.push o) r
theorem Jtl {os:List Obj}:∀{h:Sb},h.get? c=some o->(Jnr h os).get? c=some o:=by
 induction os with
 |nil=>exact λe=>e
 |cons q r ih=>exact λe=>ih (yh _ e)
theorem Jx8 {os:List Obj}:∀{h:Sb},(Jnr h os).objs.size=h.objs.size+os.length:=by
 induction os with
 |nil=>intro h;rfl
 |cons q r ih=>
  intro h;show (Jnr (h.push q) r).objs.size=h.objs.size+(r.length+1);rw [ih,yar]
  lia
theorem Ju8 {os:List Obj}:∀{h:Sb},itA h os=List.range' h.objs.size os.length:=by
 induction os with
 |nil=>intro h;rfl
 |cons q r ih=>
  intro h;show h.objs.size::itA (h.push q) r=_;rw [ih,yar];rfl
theorem Ybl {os:List Obj}:∀{h:Sb} {j:Nat} {o:Obj},os[j]?=some o->o.isFreed=false->(Jnr h os).get? (h.objs.size+j)=some o:=by
 induction os with
 |nil=>intro h j o e;simp at e
 |cons q r ih=>
  intro h j o e f;cases j with
  |zero=>
   cases e;exact Jtl (h:=h.push q) (yn _ f)
  |succ j=>
   have:=ih (h:=h.push q) (j:=j) (by simpa using e) f;rw [yar] at this;rw [show h.objs.size+(j+1)=h.objs.size+1+j by lia];exact this
noncomputable abbrev zOs (ls:List (S1×Bool)):List Obj:=ls.map λl=>itO l.1 l.2
noncomputable abbrev gD (h:Sb) (ls:List (S1×Bool)):Sb:=(Jnr h (zOs ls)).push {cls:=.type "tuple",data:=.seq ((itA h (zOs ls)).map Value.ref).toArray}
noncomputable abbrev gE (h:Sb) (ls:List (S1×Bool)):Sb:=(gD h ls).push {cls:=.type "tuple",data:=.seq (ls.map λ_=>Value.none).toArray}
noncomputable abbrev gF (h:Sb) (ls:List (S1×Bool)):Sb:=(gE h ls).push {cls:=.type "zip",data:=.fields #[.none,.bool false,.bool false,.ref (Jnr h (zOs ls)).objs.size,.ref (gD h ls).objs.size]}
section
variable {prog:S7} {w:S9} {A:Sa} {E:S2->S3->Prop} {s:S3} {ls:List (S1×Bool)}
theorem Jtt (h:Sb):IsZip (gF h ls) (gE h ls).objs.size (Jnr h (zOs ls)).objs.size (gD h ls).objs.size .none/\Jns (gF h ls) (Jnr h (zOs ls)).objs.size ((itA h (zOs ls)).map Value.ref)/\Jns (gF h ls) (gD h ls).objs.size (ls.map λ_=>Value.none)/\
  (∀(j:Nat) (i:S1) (l:S1×Bool),(itA h (zOs ls))[j]?=some i->ls[j]?=some l->IS i l.1 l.2 0 (gF h ls))/\(∀c o,h.get? c=some o->(gF h ls).get? c=some o)/\(∀c∈(gE h ls).objs.size::(Jnr h (zOs ls)).objs.size::(gD h ls).objs.size::itA h (zOs ls),h.objs.size<=c)/\
  ((gE h ls).objs.size::(Jnr h (zOs ls)).objs.size::(gD h ls).objs.size::itA h (zOs ls)).Nodup:=by
 have z0:=Jx8 (h:=h) (os:=zOs ls);have z1:(gD h ls).objs.size=(Jnr h (zOs ls)).objs.size+1:=yar ..;have z2:(gE h ls).objs.size=(gD h ls).objs.size+1:=yar ..;have p:∀{h:Sb} {c:S1} {o q:Obj},h.get? c=some o->(h.push q).get? c=some o:=λe=>yh _ e;have fr:∀l b,(itO l b).isFreed=false:=λl b=>by cases b <;> rfl
 refine ⟨yn _ rfl,p (p (yn _ rfl)),p (yn _ rfl),λj i l hi hl=>?_,λc o e=>p (p (p (Jtl e))),λc hc=>?_,?_⟩
 ·rw [Ju8] at hi;have hj:j < (zOs ls).length:=by simpa using (yk.mp hi).1
  rw [List.getElem?_range' hj] at hi;have e:=Ybl (h:=h) (os:=zOs ls) (j:=j) (o:=itO l.1 l.2) (by rw [ym,hl];rfl) (fr _ _);have e':(gF h ls).get? i=some (itO l.1 l.2):=p (p (p (by rw [<-yah.inj hi];simpa using e)));obtain ⟨l,b⟩:=l;cases b
  ·exact ⟨_,e',rfl,rfl⟩
  ·exact ⟨_,e',rfl,rfl⟩
 ·rw [Ju8] at hc;simp only [yr,List.mem_range'_1] at hc
  lia
 ·rw [Ju8];simp only [ybp,yr,List.mem_range'_1,not_or];exact ⟨⟨by lia,by lia,by lia⟩,⟨by lia,by lia⟩,by lia,List.nodup_range'⟩
end
noncomputable def SqN (K:Sd) (H:Hp) (ls:List (S1×Bool)) (xss:List (List V)):Prop:=xss.length=ls.length/\∀(j:Nat) (l:S1×Bool) (xs:List V),ls[j]?=some l->xss[j]?=some xs->SqB K H l.1 l.2 xs
noncomputable def Jtu (K:Sd) (ls:List (S1×Bool)):It:=
 ⟨λi H=>∃(x0:List V) (xss:List (List V)),SqN K H ls (x0::xss)/\(∀xs∈xss,x0.length<=xs.length)/\i < x0.length,
  λi H x H'=>∃(T:S1) (ps:List V),H T=none/\x= .ref T/\(∀xss,SqN K H ls xss->ps.length=xss.length/\∀(j:Nat) (p:V) (xs:List V),ps[j]?=some p->xss[j]?=some xs->xs[i]?=some p)/\H'=upd H T (.tup ps),
  λi H=>∃(x0:List V) (xss:List (List V)),SqN K H ls (x0::xss)/\(∀xs∈xss,x0.length<=xs.length)/\i=x0.length⟩
noncomputable def ZNT (z TI TO:S1) (is:List S1) (ls:List (S1×Bool)) (k:Nat) (h:Sb):Prop:=IsZip h z TI TO .none/\Jns h TI (is.map Value.ref)/\(∃ws:List S2,ws.length=is.length/\Jns h TO ws)/\∀(j:Nat) (i:S1) (l:S1×Bool),is[j]?=some i->ls[j]?=some l->IS i l.1 l.2 k h
theorem Skg:∀{ps:List V} {vs:List S2},ps.length=vs.length->(∀(j:Nat) (p:V) (v:S2),ps[j]?=some p->vs[j]?=some v->Su p v)->Sv ps vs
 | [],[],_,_=>.nil
 |p::ps,v::vs,e,f=>.cons (f 0 p v rfl rfl) (Skg (by simpa using e) λj p v h1 h2=>f (j+1) p v (by simpa using h1) (by simpa using h2))
 | [],_::_,e,_=>by simp at e
 |_::_,[],e,_=>by simp at e
theorem Sm.zes {X:Cx} (I:Sm X pins σ H s):∀{ls:List (S1×Bool)} {xss:List (List V)} {is:List S1},is.length=ls.length->SqN X.K H ls xss->
  ∃zs:List ZE,zs.map (·.i)=is/\zs.map (λq=>(q.l,q.b))=ls/\∀(j:Nat) (q:ZE) (xs:List V),zs[j]?=some q->xss[j]?=some xs->Sv xs q.its.toList/\IsB s.heap q.l q.b q.its:=by
 intro ls
 induction ls with
 |nil=>
  intro xss is li _;obtain rfl:is= []:=List.length_eq_zero_iff.mp li;exact ⟨[],rfl,rfl,λj q xs e=>by simp at e⟩
 |cons l ls ih=>
  intro xss is li sq;cases is with
  |nil=>simp at li
  |cons i is=>
   cases xss with
   |nil=>simp [SqN] at sq
   |cons x xss=>
    obtain ⟨its,r,p⟩:=I.seqB (sq.2 0 l x rfl rfl);obtain ⟨zs,e1,e2,e3⟩:=ih (xss:=xss) (is:=is) (by simpa using li) ⟨by simpa using sq.1,λj l xs h1 h2=>sq.2 (j+1) l xs (by simpa using h1) (by simpa using h2)⟩;refine ⟨⟨i,l.1,l.2,its.toArray⟩::zs,by rw [yap,e1],by rw [yap,e2],λj q xs h1 h2=>?_⟩;cases j with
    |zero=>cases h1;cases h2;exact ⟨r,p⟩
    |succ j=>exact e3 j q xs (by simpa using h1) (by simpa using h2)
theorem ZNT.obj {z TI TO:S1} {is:List S1} {ls:List (S1×Bool)} (li:is.length=ls.length) (st:ZNT z TI TO is ls k h):∀b∈z::TI::TO::is,∃o,h.get? b=some o/\∀v,o.data≠ .cell v:=λb hb=>by
 obtain ⟨h1,h2,⟨ws,_,h3⟩,h4⟩:=st;simp only [yr] at hb;rcases hb with rfl|rfl|rfl|hb
 ·exact ⟨_,h1,λv z=>by cases z⟩
 ·exact ⟨_,h2,λv z=>by cases z⟩
 ·exact ⟨_,h3,λv z=>by cases z⟩
 ·obtain ⟨j,hj⟩:=ybo hb;have hj':j < ls.length:=by rw [<-li];exact (yk.mp hj).1
  exact (h4 j b ls[j] hj (yj hj')).obj
theorem Yb8 {q0:ZE} {zs:List ZE} {x0:List V} {xss:List (List V)} {s:S3} (len:(x0::xss).length=(q0::zs).length) (hn:∀xs∈xss,x0.length<=xs.length) (e3:∀(j:Nat) (q:ZE) (xs:List V),(q0::zs)[j]?=some q->(x0::xss)[j]?=some xs->Sv xs q.its.toList/\IsB s.heap q.l q.b q.its):
  q0.its.size=x0.length/\(∀q∈q0::zs,∃(j:Nat) (xs:List V),(q0::zs)[j]?=some q/\(x0::xss)[j]?=some xs)/\∀q∈q0::zs,q0.its.size<=q.its.size:=by
 have size:∀(j:Nat) (q:ZE) (xs:List V),(q0::zs)[j]?=some q->(x0::xss)[j]?=some xs->q.its.size=xs.length:=λj q xs h1 h2=>by
  have:=(e3 j q xs h1 h2).1.length;simpa using this.symm
 have at':∀q∈q0::zs,∃(j:Nat) (xs:List V),(q0::zs)[j]?=some q/\(x0::xss)[j]?=some xs:=λq hq=>by
  obtain ⟨j,hj⟩:=ybo hq;have:j < (x0::xss).length:=by rw [len];exact (yk.mp hj).1
  exact ⟨j,_,hj,yj this⟩
 have s0:=size 0 q0 x0 rfl rfl;refine ⟨s0,at',λq hq=>?_⟩;obtain ⟨j,xs,h1,h2⟩:=at' q hq;rw [s0,size j q xs h1 h2];cases j with
 |zero=>cases h2;exact yg _
 |succ j=>exact hn xs (yv (show xss[j]?=some xs by simpa using h2))
theorem Jzl {P:S7} {w:S9} {K:Sd} {elts:List Expr} {kt:Nat} {pt:Pos} {ls:List (S1×Bool)} {z TI TO:S1} {is:List S1} (li:is.length=ls.length) (sm:ls.length<=S6) (nd:(z::TI::TO::is).Nodup) (ml:∀l∈ls,l.1∉z::TI::TO::is):
  Turn P w K (.Tuple elts kt pt) (Jtu K ls) (z::TI::TO::is) z (ZNT z TI TO is ls) where
 mem:=by simp
 obj:=λi h st=>st.obj li
 keep:=λi h h' st k=>by
  obtain ⟨h1,h2,⟨ws,lw,h3⟩,h4⟩:=st;exact ⟨k z (by simp) _ h1,k TI (by simp) _ h2,⟨ws,lw,k TO (by simp) _ h3⟩,λj i l hi hl=>(h4 j i l hi hl).at λo e=>k i (by simp [yv hi]) o e⟩
 item:=by
  intro X hP hw hK hc i pins s σ H E I hf st hg;subst hP hw hK;obtain ⟨x0,xss,sq,hn,hi⟩:=hg;obtain ⟨zs,e1,e2,e3⟩:=I.zes li sq;subst e1 e2;cases zs with
  |nil=>simp [SqN] at sq
  |cons q0 zs=>
  have len:=sq.1;rw [yf] at len sm;obtain ⟨s0,at',hn'⟩:=Yb8 len hn e3;have W:=Yaz (prog:=X.prog) (w:=X.w) (I.ok.hd hc) ⟨nd,λq hq=>ml (q.l,q.b) (yba hq)⟩ sm hn';have st0:=st;obtain ⟨s1,s2,⟨ws,lw,s3⟩,s4⟩:=st;refine W.item i s _ _ (by lia) ⟨s1,by rw [yat] at s2;exact s2,⟨ws,by simpa using lw,s3⟩,λq hq=>?_⟩ λT vals h' tk hP fT tT mid kk=>⟨_,rfl,W.go elts kt pt i T _ _ _ mid λh'' st'' kk2=>?_⟩
  ·obtain ⟨j,xs,h1,h2⟩:=at' q hq;exact ⟨s4 j q.i (q.l,q.b) (by rw [ym,h1];rfl) (by rw [ym,h1];rfl),(e3 j q xs h1 h2).2⟩
  obtain ⟨vz,va⟩:=hP;have get:∀(j:Nat) (xs:List V),(x0::xss)[j]?=some xs->i < xs.length:=λj xs h2=>by
   cases j with
   |zero=>cases h2;exact hi
   |succ j=>exact yal hi (hn xs (yv (show xss[j]?=some xs by simpa using h2)))
  have pg:∀(j:Nat) (p:V) (xs:List V),((x0::xss).map λxs=>xs.getD i .non)[j]?=some p->(x0::xss)[j]?=some xs->xs[i]?=some p:=λj p xs hp hx=>by
   rw [ym,hx] at hp;have hp':xs.getD i .non=p:=yah.inj hp;rw [<-hp',yj (get j xs hx)];simp [ybr,yj (get j xs hx)]
  have rel:Sv ((x0::xss).map λxs=>xs.getD i .non) vals.toList:=Skg (by rw [yf,len];simpa using vz.symm) λj p v hp hv=>by
   have hj:j < (x0::xss).length:=by have:=(yk.mp hp).1;simpa using this
   have hx:(x0::xss)[j]?=some (x0::xss)[j]:=yj hj;have hz:(q0::zs)[j]?=some ((q0::zs)[j]'(by lia)):=yj (by lia);have q1:=va j _ v hz (by simpa using hv);obtain ⟨u,hu,r⟩:=(e3 j _ _ hz hx).1.get (pg j p _ hp hx);rw [ycm] at hu;rw [q1] at hu;cases hu;exact r
  have kT:h''.IsTuple T vals:=by
   obtain ⟨o,q,r⟩:=tT;exact ⟨o,kk2 T o (W.apart i T h' mid) q,r⟩
  have cht:∀c,c∈z::TO::(q0::zs).map (·.i)->c∈z::TI::TO::(q0::zs).map (·.i):=λc hc=>by
   simp only [yr] at hc⊢;grind
  obtain ⟨t1,t2,t3,t4⟩:=st'';refine ⟨.ref T,upd H T (.tup ((x0::xss).map λxs=>xs.getD i .non)),I.turnTup (λc hc=>hf c (cht c hc)) (λc o hc e=>kk2 c o hc (kk c o hc e)) fT ⟨by rw [yf,len];exact sm,vals.toList,rel,by rw [Array.toArray_toList];exact kT⟩,rfl,
   ⟨T,_,I.hok.fresh fT,rfl,λxss' sq'=>?_,rfl⟩,⟨t1,by rw [yat];exact t2,by simpa using t3,λj a l ha hl=>?_⟩,λc hc=>?_⟩
  ·have ex:xss'=x0::xss:=List.ext_getElem? λj=>by
    by_cases hj:j < (x0::xss).length
    ·have hj':j < xss'.length:=by rw [sq'.1,<-sq.1];exact hj
     have hl:j < ((q0::zs).map λq=>(q.l,q.b)).length:=by rw [<-sq.1];exact hj
     rw [yj hj,yj hj'];exact congrArg some (I.seqB_inj (sq'.2 j _ _ (yj hl) (yj hj')) (sq.2 j _ _ (yj hl) (yj hj)))
    ·rw [List.getElem?_eq_none (by rw [sq'.1,<-sq.1];lia),List.getElem?_eq_none (by lia)]
   rw [ex];exact ⟨yf ..,pg⟩
  ·rw [ym] at ha hl;obtain ⟨q,hq,rfl⟩:=yca.mp ha;rw [hq] at hl;cases hl;exact (t4 q (yv hq)).1
  rw [Sy (λw'=>?_)]
  ·exact ((hf c hc).1)
  ·subst w';obtain ⟨o,e,_⟩:=ZNT.obj li st0 c hc;exact absurd (yi e) (Nat.not_lt.mpr fT)
 done:=by
  intro X hP hw hK hc i pins s σ H E I hf st hg;subst hP hw hK;obtain ⟨x0,xss,sq,hn,hi⟩:=hg;obtain ⟨zs,e1,e2,e3⟩:=I.zes li sq;subst e1 e2;cases zs with
  |nil=>simp [SqN] at sq
  |cons q0 zs=>
  have len:=sq.1;rw [yf] at len sm;obtain ⟨s0,at',hn'⟩:=Yb8 len hn e3;have W:=Yaz (prog:=X.prog) (w:=X.w) (I.ok.hd hc) ⟨nd,λq hq=>ml (q.l,q.b) (yba hq)⟩ sm hn';obtain ⟨s1,s2,⟨ws,lw,s3⟩,s4⟩:=st;obtain rfl:i=q0.its.size:=by lia
  refine W.done s _ _ ⟨s1,by rw [yat] at s2;exact s2,⟨ws,by simpa using lw,s3⟩,λq hq=>?_⟩ λh' tk kk=>⟨rfl,I.turnMany (λc hc=>hf c (by simp only [yr] at hc⊢;grind)) λc o hc e=>kk c o hc e⟩;obtain ⟨j,xs,h1,h2⟩:=at' q hq;exact ⟨s4 j q.i (q.l,q.b) (by rw [ym,h1];rfl) (by rw [ym,h1];rfl),(e3 j q xs h1 h2).2⟩
 self:=λ_ _ _ _ _ st h=>wpAny_pyIter_zip st.1 h
theorem Yd9 {X:Cx} {ls:List (S1×Bool)} {R:It->Hp->Prop} {elts:List Expr} {kt:Nat} {pt:Pos} (I:Sm X pins σ H s) (hl:∀l∈ls,l.1 < s.heap.objs.size) (sm:ls.length<=S6) (q:R (Jtu X.K ls) H):
  Sc (model X.prog X.w) X.A (pyIter (.ref (gE s.heap ls).objs.size)) (PIE X pins σ (.Tuple elts kt pt) R) X.xe {s with heap:=gF s.heap ls}:=by
 obtain ⟨z1,z2,z3,z4,kk,big,nd⟩:=Jtt (ls:=ls) s.heap;have li:(itA s.heap (zOs ls)).length=ls.length:=by rw [Ju8];simp
 refine wpAny_pyIter_zip z1 ⟨_,_,_,_,H,rfl,I.kept kk,Jzl li sm nd λl hm hn=>absurd (big _ hn) (Nat.not_le.mpr (hl l hm)),⟨z1,z2,⟨_,by rw [yf,li],z3⟩,z4⟩,λd hd=>?_,q⟩;exact I.fpOk (big d hd) (I.hok.fresh (big d hd))
noncomputable def Jzp (xss:List (List V)) (i:Nat) (ps:List V):Prop:=ps.length=xss.length/\∀(j:Nat) (p:V) (xs:List V),ps[j]?=some p->xss[j]?=some xs->xs[i]?=some p
section
variable {K:Sd} {g:TG} {σ:St} {H:Hp} {ls:List (S1×Bool)} {x0:List V} {xss:List (List V)}
theorem Jzo {B:(Nat->St->Hp->Prop)->Nat->V->St->Hp->Prop} {F:St->Hp->Prop} (Pv:Nat->St->Hp->Prop) (h0:Pv 0 σ H) (hl:∀i σ H,i<=x0.length->Pv i σ H->SqN K H ls (x0::xss)) (hn:∀xs∈xss,x0.length<=xs.length)
  (hs:∀i ps σ H T,Jzp (x0::xss) i ps->Pv i σ H->H T=none->B Pv i (.ref T) σ (upd H T (.tup ps))) (hd:∀σ H,Pv x0.length σ H->F σ H):
  ∃W:Nat->Nat->St->Hp->Prop,(∃m,W 0 m σ H)/\∀i m σ H,W i m σ H->((Jtu K ls).stop i H/\F σ H)\/((Jtu K ls).go i H/\(∀σ' H',Pv (i+1) σ' H'->∃m',m' < m/\W (i+1) m' σ' H')/\∀x H',(Jtu K ls).yld i H x H'->B Pv i x σ H'):=by
 refine ⟨λi m σ H=>m=x0.length - i/\i<=x0.length/\Pv i σ H,⟨x0.length,by simp,yw _,h0⟩,?_⟩;rintro i m σ H ⟨rfl,hi,p⟩;have sq:=hl i σ H hi p;by_cases hlt:i < x0.length
 ·refine .inr ⟨⟨x0,xss,sq,hn,hlt⟩,λσ' H' p'=>⟨x0.length - (i+1),by lia,rfl,hlt,p'⟩,λx H' y=>?_⟩;obtain ⟨T,ps,hT,rfl,hp,rfl⟩:=y;exact hs i ps σ _ T (hp _ sq) p hT
 ·obtain rfl:i=x0.length:=by lia
  exact .inl ⟨⟨x0,xss,sq,hn,rfl⟩,hd σ H p⟩
theorem Jym {tt:TT} {te:TE} {R:Hp->Prop} (Pv:Nat->St->Hp->Prop) (h0:Pv 0 σ H) (hl:∀i σ H,i<=x0.length->Pv i σ H->SqN K H ls (x0::xss)) (hn:∀xs∈xss,x0.length<=xs.length)
  (hs:∀i ps σ H T,Jzp (x0::xss) i ps->Pv i σ H->H T=none->g (.ref T) σ (upd H T (.tup ps)) λσ3 H3=>tt σ3 H3 λb H4=>if b=true then te σ3 H4 (λv H5=>∃vs,H5 D=some (.lst vs)/\vs.length < S6/\Pv (i+1) σ3 (upd H5 D (.lst (vs++ [v])))) else Pv (i+1) σ3 H4)
  (hd:∀σ H,Pv x0.length σ H->R H):
  ∃W:Nat->Nat->St->Hp->Prop,(∃m,W 0 m σ H)/\∀i m σ' H',W i m σ' H'->((Jtu K ls).stop i H'/\R H')\/((Jtu K ls).go i H'/\∃N:St->Hp->Prop,(∀σ2 H2,N σ2 H2->∃m',m' < m/\W (i+1) m' σ2 H2)/\
   ∀x H2,(Jtu K ls).yld i H' x H2->g x σ' H2 λσ3 H3=>tt σ3 H3 λb H4=>if b=true then te σ3 H4 (λv H5=>∃vs,H5 D=some (.lst vs)/\vs.length < S6/\N σ3 (upd H5 D (.lst (vs++ [v])))) else N σ3 H4):=by
 obtain ⟨W,w0,w1⟩:=Jzo (F:=λ_=>R) (B:=λPv i x σ' H2=>g x σ' H2 λσ3 H3=>tt σ3 H3 λb H4=>if b=true then te σ3 H4 (λv H5=>∃vs,H5 D=some (.lst vs)/\vs.length < S6/\Pv (i+1) σ3 (upd H5 D (.lst (vs++ [v])))) else Pv (i+1) σ3 H4) Pv h0 hl hn hs hd;exact ⟨W,w0,λi m σ H h=>(w1 i m σ H h).imp id λ⟨a,b,c⟩=>⟨a,_,b,c⟩⟩
end
theorem Sq2 {us:List S2}:∀{as:List S1},Sv (as.map V.ref) us->us=as.map Value.ref:=by
 induction us with
 |nil=>intro as h;cases as with|nil=>rfl|cons=>cases h
 |cons u us ih=>
  intro as h;cases as with
  |nil=>cases h
  |cons a as=>
   cases h with
   |cons h1 h2=>
    obtain rfl:u=Value.ref a:=h1;rw [ih h2];rfl
theorem Jv7 (a b c d):argsOk "object.__init__" ⟨[a,b,c,d],[]⟩:=by
 unfold argsOk;rw [signature?_of (n:=['_','_','t','i','n','i','_','_']) (by kernel_rfl) F.owner_object];kernel_rfl
set_option maxRecDepth 100000 in
set_option maxHeartbeats 4000000 in
theorem Jzn (l1 l2 l3:S1) (b1 b2 b3:Bool) (xs ys us):
  Meets (Builtin.«zip.__new__» ⟨[.type "zip",.ref l1,.ref l2,.ref l3],[]⟩) (λ_ R s=>IsB s.heap l1 b1 xs/\IsB s.heap l2 b2 ys/\IsB s.heap l3 b3 us/\
   R (.ok (.ret (.ref (gE s.heap [(l1,b1),(l2,b2),(l3,b3)]).objs.size))) {s with heap:=gF s.heap [(l1,b1),(l2,b2),(l3,b3)]}):=
 .of_wp λprog w A R s h=>by
  obtain ⟨hp,g,d,tk,os⟩:=s;obtain ⟨hl1,hl2,hl3,h⟩:=h;have e0:=sub_zip;have e1:=hl1;have e2:IsB (Shared.heap ⟨(hp.push (itO l1 b1)),g,d,tk,os⟩) l2 b2 ys:=IsB.push (hl2) _;have e3:IsB (Shared.heap ⟨((hp.push (itO l1 b1)).push (itO l2 b2)),g,d,tk,os⟩) l3 b3 us:=IsB.push (IsB.push (hl3) _) _
  wp_walk using Ye e1,Ye e2,Ye e3
  exact ⟨_,rfl,h⟩
theorem Jyj {prog:S7} {w:S9} {A:Sa} {E:S2->S3->Prop} {s:S3} {l1 l2 l3:S1} {b1 b2 b3:Bool} {xs ys us} {Q} (h1:IsB s.heap l1 b1 xs) (h2:IsB s.heap l2 b2 ys) (h3:IsB s.heap l3 b3 us) (h:Q (.ref (gE s.heap [(l1,b1),(l2,b2),(l3,b3)]).objs.size) {s with heap:=gF s.heap [(l1,b1),(l2,b2),(l3,b3)]}):
  Sc (model prog w) A (call (.type "zip") [.ref l1,.ref l2,.ref l3]) Q E s:=
 callType_new F.called_zip (by decide) (by kernel_rfl) (by kernel_rfl) (λobj=>Jv7 obj _ _ _) F.entry_zip_new (Jzn l1 l2 l3 b1 b2 b3 xs ys us) ⟨h1,h2,h3,⟨_,(Jtt s.heap).1,rfl⟩,h⟩
noncomputable abbrev Sik (K:Sd) (l1 l2 l3:S1) (b1 b2 b3:Bool):It:=Jtu K [(l1,b1),(l2,b2),(l3,b3)]
theorem Svo {l1 l2 l3:S1} {b1 b2 b3:Bool} {xs ys us:List V} {K:Sd} {H:Hp} (h:SqB K H l1 b1 xs/\SqB K H l2 b2 ys/\SqB K H l3 b3 us):SqN K H [(l1,b1),(l2,b2),(l3,b3)] [xs,ys,us]:=by
 obtain ⟨q1,q2,q3⟩:=h;refine ⟨rfl,λj l x e1 e2=>?_⟩
 match j with
 |0=>cases e1;cases e2;exact q1
 |1=>cases e1;cases e2;exact q2
 |2=>cases e1;cases e2;exact q3
 |j+3=>simp at e1
theorem Slq {xs ys us:List V} {i:Nat} {ps:List V} {G:List V->Prop} (h:Jzp [xs,ys,us] i ps) (k:∀x y u,xs[i]?=some x->ys[i]?=some y->us[i]?=some u->G [x,y,u]):G ps:=by
 obtain ⟨l,f⟩:=h
 match ps,l with
 | [x,y,u],_=>exact k x y u (f 0 x xs rfl rfl) (f 1 y ys rfl rfl) (f 2 u us rfl rfl)
noncomputable def Spg (K:Sd) (b1 b2 b3:Bool) (ta:TA):TI:=λσ H R=>ta σ H λvs H1=>∃a b c,vs= [.ref a,.ref b,.ref c]/\(∃xs,SqB K H1 a b1 xs)/\(∃xs,SqB K H1 b b2 xs)/\(∃xs,SqB K H1 c b3 xs)/\R (Sik K a b c b1 b2 b3) H1
theorem Yc3 (b1 b2 b3) (hg:Gl X "zip") (hm:X.mg "zip" =none) (ha:PA X [a,b,c] ta) (hs:starEach [a,b,c] X.env= [(false,eval a X.env),(false,eval b X.env),(false,eval c X.env)]:=by rfl) (hs2:starEach [b,c] X.env= [(false,eval b X.env),(false,eval c X.env)]:=by rfl):
  PI X (.Tuple elts kt pt) (.Call (.Name "zip" p) [a,b,c] [] pos) (Spg X.K b1 b2 b3 ta):=by
 intro pins s σ H R I h;refine Call_ (Jny I hg hm Sle (PyProof.Rows.callWith_type1 (thn (ha pos pins s σ H _ I h) λus s1 zq=>?_) (by rw [hs,hs2]) (by rw [hs2];rfl)));obtain ⟨vs,H1,I1,r1,q1⟩:=zq;obtain ⟨l1,l2,l3,rfl,⟨x1,q1⟩,⟨x2,q2⟩,⟨x3,q3⟩,q⟩:=q1;obtain rfl:=Sq2 (as:=[l1,l2,l3]) r1;obtain ⟨_,_,p1⟩:=I1.seqB q1;obtain ⟨_,_,p2⟩:=I1.seqB q2;obtain ⟨_,_,p3⟩:=I1.seqB q3;refine Jyj p1 p2 p3 (Yd9 I1 (λl hl=>?_) (show 3<=S6 by decide) q);simp only [yr,ybe,or_false] at hl;rcases hl with rfl|rfl|rfl
 ·exact p1.lt
 ·exact p2.lt
 ·exact p3.lt
section
variable {K:Sd} {g:TG} {σ:St} {H:Hp} {l1 l2 l3:S1} {b1 b2 b3:Bool} {xs ys us:List V}
theorem Jyl {tt:TT} {te:TE} {R:Hp->Prop} (Pv:Nat->St->Hp->Prop) (h0:Pv 0 σ H) (hl:∀i σ H,i<=xs.length->Pv i σ H->SqB K H l1 b1 xs/\SqB K H l2 b2 ys/\SqB K H l3 b3 us) (e1:xs.length=ys.length) (e2:xs.length=us.length)
  (hs:∀i x y u σ H T,xs[i]?=some x->ys[i]?=some y->us[i]?=some u->Pv i σ H->H T=none->g (.ref T) σ (upd H T (.tup [x,y,u])) λσ3 H3=>tt σ3 H3 λb H4=>if b=true then te σ3 H4 (λv H5=>∃vs,H5 D=some (.lst vs)/\vs.length < S6/\Pv (i+1) σ3 (upd H5 D (.lst (vs++ [v])))) else Pv (i+1) σ3 H4)
  (hd:∀σ H,Pv xs.length σ H->R H):
  ∃W:Nat->Nat->St->Hp->Prop,(∃m,W 0 m σ H)/\∀i m σ' H',W i m σ' H'->((Sik K l1 l2 l3 b1 b2 b3).stop i H'/\R H')\/((Sik K l1 l2 l3 b1 b2 b3).go i H'/\∃N:St->Hp->Prop,(∀σ2 H2,N σ2 H2->∃m',m' < m/\W (i+1) m' σ2 H2)/\
   ∀x H2,(Sik K l1 l2 l3 b1 b2 b3).yld i H' x H2->g x σ' H2 λσ3 H3=>tt σ3 H3 λb H4=>if b=true then te σ3 H4 (λv H5=>∃vs,H5 D=some (.lst vs)/\vs.length < S6/\N σ3 (upd H5 D (.lst (vs++ [v])))) else N σ3 H4):=
 Jym (xss:=[ys,us]) Pv h0 (λi σ H hi p=>Svo (hl i σ H hi p)) (by simp only [yr,ybe,or_false];rintro _ (rfl|rfl) <;> omega) (λi ps σ H T hp p hT=>Slq (G:=λps=>g (.ref T) σ (upd H T (.tup ps)) λσ3 H3=>tt σ3 H3 λb H4=>if b=true then te σ3 H4 (λv H5=>∃vs,H5 D=some (.lst vs)/\vs.length < S6/\Pv (i+1) σ3 (upd H5 D (.lst (vs++ [v])))) else Pv (i+1) σ3 H4) hp λx y u h1 h2 h3=>hs i x y u σ H T h1 h2 h3 p hT) hd
end
end L2
namespace L2
end L2
namespace L2
open PySem PySem.Spec PyProof.Rows PySem.W
section
variable {K:Sd} {g:TG} {σ:St} {H:Hp}
theorem Jxt {tb:TS} {D:Sca} (Pv:Nat->St->Hp->Prop) (h0:Pv 0 σ H) (hl:∀i σ H,i<=xs.length->Pv i σ H->Ss K H a xs)
  (hs:∀i x σ H T,xs[i]?=some x->Pv i σ H->H T=none->g (.ref T) σ (upd H T (.tup [.int i,x])) λσ2 H2=>tb {D with nx:=Pv (i+1),ct:=Pv (i+1),bk:=D.nx} σ2 H2) (hd:∀σ H,Pv xs.length σ H->D.nx σ H):
  ∃W:Nat->Nat->St->Hp->Prop,(∃m,W 0 m σ H)/\∀i m σ H,W i m σ H->
   ((ItE K a).stop i H/\D.nx σ H)\/((ItE K a).go i H/\∃N:St->Hp->Prop,(∀σ' H',N σ' H'->∃m',m' < m/\W (i+1) m' σ' H')/\∀x H',(ItE K a).yld i H x H'->g x σ H' λσ2 H2=>tb {D with nx:=N,ct:=N,bk:=D.nx} σ2 H2):=by
 refine ⟨λi m σ H=>m=xs.length - i/\i<=xs.length/\Pv i σ H,⟨xs.length,by simp,yw _,h0⟩,?_⟩;rintro i m σ H ⟨rfl,hi,p⟩;have q:=hl i σ H hi p;by_cases hlt:i < xs.length
 ·refine .inr ⟨⟨xs,xs[i],q,by simp [hlt]⟩,Pv (i+1),λσ' H' p'=>⟨xs.length - (i+1),by omega,rfl,hlt,p'⟩,λx H' y=>?_⟩;obtain ⟨T,u,hT,rfl,hu,rfl⟩:=y;exact hs i u σ _ T (hu xs q) p hT
 ·have e:i=xs.length:=by omega
  subst e;exact .inl ⟨⟨xs,q,rfl⟩,hd σ H p⟩
end
section
variable {X:Cx}
theorem Js6 {K} (h:X.K=K):OpR X (compareOp .In) (rIn K false):=by subst h;exact Jz2
theorem Jsq {K} (h:X.K=K):Jla X (.builtin "len") (λxs H Q=>∃p ys,xs= [.ref p]/\(Ss K H p ys\/SqT K H p ys)/\Q (.int ys.length) H):=by subst h;exact Jjr
theorem Jm7 {K} (h:X.K=K) (he:PE X e ta) (hb:attributeBase e f X.env (eval e X.env)=eval e X.env):PE X (.Attribute e f pos) (Sqq K ta f):=by subst h;exact Jlb he hb
theorem Js9 {K} (h1:X.prog=P) (h2:X.w=w) (h3:X.K=K) (h4:X.mg=mg) (h5:X.base=base) (he:PE X o ta) (hr:Sai j X.A)
  (ht:eval (.Call (.Attribute o m apos) [] [] pos) X.env=(do
   let ov<-eval o X.env
   standAt apos.atName
   let (f,first)<-holding [ov] (getMethod ov m pl)
   callWith pos f first (backTo pos (starEach [] X.env)) (backToKw pos (keywordEach [] X.env))):=by rfl):PE X (.Call (.Attribute o m apos) [] [] pos) (Yat P w K mg base j m ta Jsk):=by
 subst h1 h2 h3 h4 h5;exact Jtj he hr ht
end
section
variable {X:Cx} {pos:Pos}
theorem Jol {K} {k} (h1:X.K=K) (hc:X.calm=true) (h:PGs X es t)
  (hn:(assignEach es X.env).length=n:=by rfl) (hst:(assignEach es X.env).findIdx? (·.1)=none:=by rfl):PG X (.Tuple es k pos) (Shx K n t):=by
 subst h1;exact Jqg hc h hn hst
end
section
variable {g:TG} {tt:TT} {te:TE} {H:Hp} {D:S1} {σ:St} {R:Hp->Prop}
theorem Jvc {K} {a} {xs} (Pv:Nat->St->Hp->Prop) (h0:Pv 0 σ H) (hl:∀i σ H,i<=xs.length->Pv i σ H->SqT K H a xs)
  (hs:∀i x σ H,xs[i]?=some x->Pv i σ H->g x σ H λσ3 H3=>tt σ3 H3 λb H4=>if b=true then te σ3 H4 (λv H5=>∃ys,H5 D=some (.lst ys)/\ys.length < S6/\Pv (i+1) σ3 (upd H5 D (.lst (ys++ [v])))) else Pv (i+1) σ3 H4)
  (hd:∀σ H,Pv xs.length σ H->R H):
  ∃W:Nat->Nat->St->Hp->Prop,(∃m,W 0 m σ H)/\∀i m σ' H',W i m σ' H'->((Itt K a).stop i H'/\R H')\/((Itt K a).go i H'/\∃N:St->Hp->Prop,(∀σ2 H2,N σ2 H2->∃m',m' < m/\W (i+1) m' σ2 H2)/\
   ∀x H2,(Itt K a).yld i H' x H2->g x σ' H2 λσ3 H3=>tt σ3 H3 λb H4=>if b=true then te σ3 H4 (λv H5=>∃ys,H5 D=some (.lst ys)/\ys.length < S6/\N σ3 (upd H5 D (.lst (ys++ [v])))) else N σ3 H4):=by
 refine ⟨λi m σ H=>m=xs.length - i/\i<=xs.length/\Pv i σ H,⟨xs.length,by simp,yw _,h0⟩,?_⟩;rintro i m σ H ⟨rfl,hi,p⟩;have q:=hl i σ H hi p;by_cases hlt:i < xs.length
 ·refine .inr ⟨⟨xs,xs[i],q,by simp [hlt]⟩,Pv (i+1),λσ' H' p'=>⟨xs.length - (i+1),by omega,rfl,hlt,p'⟩,λx H' y=>?_⟩;obtain ⟨e,y⟩:=y;subst e;exact hs i x σ _ (y xs q) p
 ·have e:i=xs.length:=by omega
  subst e;exact .inl ⟨⟨xs,q,yg _⟩,hd σ H p⟩
end
theorem Joz {K} {a D} {xs} {te:TE} {R:Hp->Prop} {H} {o} {rest} (ys) (hD:H D=none) (el:ys.length=xs.length) (sz:xs.length<=2000) (hq:H a=some (.lst xs))
  (he:∀(i:Nat) x y H' Q,xs[i]?=some x->ys[i]?=some y->Si H H'->(∀H5,Si H' H5->Q y H5)->te (some x::rest) H' Q) (hd:∀H',Si H H'->H' D=some (.lst ys)->R H'):
  ∃W:Nat->Nat->St->Hp->Prop,(∃m,W 0 m (o::rest) (upd H D (.lst [])))/\∀i m σ' H',W i m σ' H'->((Itl K a).stop i H'/\R H')\/((Itl K a).go i H'/\∃N:St->Hp->Prop,(∀σ2 H2,N σ2 H2->∃m',m' < m/\W (i+1) m' σ2 H2)/\
   ∀x H2,(Itl K a).yld i H' x H2->Jly 0 x σ' H2 λσ3 H3=>Jsl σ3 H3 λb H4=>if b=true then te σ3 H4 (λv H5=>∃ys,H5 D=some (.lst ys)/\ys.length < S6/\N σ3 (upd H5 D (.lst (ys++ [v])))) else N σ3 H4):=by
 refine Jl3 (λi σ H'=>(∃o,σ=o::rest)/\H' D=some (.lst (ys.take i))/\Si H H') ⟨⟨_,rfl⟩,So,Si.upd hD⟩ (λi σ H' _ ⟨_,_,sm⟩=>Ss.of (sm _ _ hq)) ?_ ?_
 ·rintro i x σ H' hx ⟨⟨o,rfl⟩,hDs,sm⟩;have hi:i < ys.length:=by rw [el];exact (yk.mp hx).1
  refine Jkp (he i x ys[i] H' _ hx (yj hi) sm λH5 s5=>⟨_,s5 _ _ hDs,?_,⟨_,rfl⟩,?_,λc u z=>?_⟩)
  ·rw [yaf];exact Jkc (by omega)
  ·rw [So,yad,yj hi];rfl
  ·rw [Sy (Jjm z hD)];exact s5 _ _ (sm _ _ z)
 ·rintro σ H' ⟨_,hDs,sm⟩;rw [yaj (by omega)] at hDs;exact hd H' sm hDs
theorem Jmk {K} {a D} {xs} {te:TE} {R:Hp->Prop} {H} {o} {rest} (ys) (hD:H D=none) (el:ys.length=xs.length) (sz:xs.length<=2000) (hq:H a=some (.tup xs))
  (he:∀(i:Nat) x y H' Q,xs[i]?=some x->ys[i]?=some y->Si H H'->(∀H5,Si H' H5->Q y H5)->te (some x::rest) H' Q) (hd:∀H',Si H H'->H' D=some (.lst ys)->R H'):
  ∃W:Nat->Nat->St->Hp->Prop,(∃m,W 0 m (o::rest) (upd H D (.lst [])))/\∀i m σ' H',W i m σ' H'->((Itt K a).stop i H'/\R H')\/((Itt K a).go i H'/\∃N:St->Hp->Prop,(∀σ2 H2,N σ2 H2->∃m',m' < m/\W (i+1) m' σ2 H2)/\
   ∀x H2,(Itt K a).yld i H' x H2->Jly 0 x σ' H2 λσ3 H3=>Jsl σ3 H3 λb H4=>if b=true then te σ3 H4 (λv H5=>∃ys,H5 D=some (.lst ys)/\ys.length < S6/\N σ3 (upd H5 D (.lst (ys++ [v])))) else N σ3 H4):=by
 refine Jvc (λi σ H'=>(∃o,σ=o::rest)/\H' D=some (.lst (ys.take i))/\Si H H') ⟨⟨_,rfl⟩,So,Si.upd hD⟩ (λi σ H' _ ⟨_,_,sm⟩=>SqT.of (sm _ _ hq)) ?_ ?_
 ·rintro i x σ H' hx ⟨⟨o,rfl⟩,hDs,sm⟩;have hi:i < ys.length:=by rw [el];exact (yk.mp hx).1
  refine Jkp (he i x ys[i] H' _ hx (yj hi) sm λH5 s5=>⟨_,s5 _ _ hDs,?_,⟨_,rfl⟩,?_,λc u z=>?_⟩)
  ·rw [yaf];exact Jkc (by omega)
  ·rw [So,yad,yj hi];rfl
  ·rw [Sy (Jjm z hD)];exact s5 _ _ (sm _ _ z)
 ·rintro σ H' ⟨_,hDs,sm⟩;rw [yaj (by omega)] at hDs;exact hd H' sm hDs
section
variable {X:Cx}
theorem Yn {K} (h:X.K=K):MtR X "str.join" (Sk6 K):=by subst h;exact Ybs
theorem Jw5 {K} (h:X.K=K):SlR X (Sq1 K):=by subst h;exact Juu
theorem Smb {K} {apos cpos} {id} (h:X.K=K) (pa:PlainAttrs T) (slot:Slot T name id) (hty:typeOf (.builtin id)=pure (.type "method_descriptor")) (hm:MtR X id r) (ho:PE X o to) (ha:PA X (e::es) t)
  (hbase:attributeBase o name X.env (eval o X.env)=eval o X.env:=by rfl)
  (hfew:((backTo cpos (starEach (e::es) X.env)).all (λx=>!x.1)&&(backToKw cpos (keywordEach [] X.env)).all (λx=>x.1.isSome)
   &&decide ((e::es).length+([]:List Keyword).length+(if ([]:List Keyword).isEmpty then 0 else 1) < 30))=true:=by rfl)
  (hline:(apos.endLine==cpos.line)=true:=by rfl) (hs:starEach (e::es) X.env=(false,eval e X.env)::starEach es X.env:=by rfl) (hplain:(backTo cpos (starEach es X.env)).any (·.1)=false:=by rfl):
  PE X (.Call (.Attribute o name apos) (e::es) [] cpos) (tBM K T r to t):=by
 subst h;exact Jpn pa slot hty hm ho ha hbase hfew hline hs hplain
end
theorem But.new (b:But p H H') (hD:H D=none) (hp:Sb7 H p):But p H (upd H' D o):=by
 have ne:p≠D:=λe=>by obtain ⟨_,_,_,q⟩:=hp;rw [e,hD] at q;cases q
 refine ⟨λc u n e=>?_,?_⟩
 ·rw [Sy (λz=>by subst z;rw [hD] at e;cases e)];exact b.1 c u n e
 ·obtain ⟨x,y,z,q⟩:=b.2;exact ⟨x,y,z,by rw [Sy ne];exact q⟩
inductive Sps (x:V) (y:V) (H:Hp) (Q:VK):Prop where
 |mk (a:_) (b:_) (xs:_) (ys:_) (_:x= .ref a) (_:y= .ref b) (_:H a=some (.tup xs)) (_:H b=some (.tup ys)) (_:xs.length+ys.length<=S6) (_:∀p H',Si H H'->H' p=some (.tup (xs++ys))->Q (.ref p) H')
section
variable {X:Cx}
theorem Jpl:OpR X (binaryOp .Add) Sps:=by
 rintro pins s σ H x y v u Q I rx ry ⟨a,b,xs,ys,rfl,rfl,ha,hb,hz,q⟩;by_cases hx:xs= []
 ·subst hx;obtain rfl:v=Value.ref a:=rx;obtain rfl:u=Value.ref b:=ry;obtain ⟨its,r1,ht,_⟩:=I.tuple (SqT.of ha);obtain ⟨its2,r2,hb',_⟩:=I.tuple (SqT.of hb);obtain rfl:its= []:=r1.nil_iff.mpr rfl;obtain ⟨⟨cls,dd,data,sl⟩,ho,hc,n,hd⟩:=id ht;obtain ⟨⟨cls2,dd2,data2,sl2⟩,ho2,hc2,n2,hd2⟩:=id hb';subst hc hd hc2 hd2;exact concat_meets ⟨_,ho,rfl⟩ ⟨_,ho2,rfl⟩ noFill_tuple_add seq_tuple_add PySem.F.slot_tuple_add PySem.F.entry_tuple_add (PySem.F.args_tuple_add_2 _ _)
   (tuple_addW0 a b _ _ n n2 dd dd2 sl sl2 (by simp)) ⟨ho,ho2,⟨.ref b,H,I,rfl,q b H (Si.refl H) hb⟩⟩
 ·refine Ybz pins s σ H _ _ v u Q I rx ry ⟨a,b,xs,ys,rfl,rfl,SqT.of ha,SqT.of hb,hx,hz,λe=>?_,λ_ p hp=>q p _ (Si.upd hp) So⟩;subst e;exact q a H (Si.refl H) (by rw [ybg];exact ha)
noncomputable def Jnm (x:V):Prop:=Jlx x=true\/∃a,x= .ref a
theorem Jro:∀n:Nat,(yo n true).all id=true
 |0=>rfl
 |n+1=>by rw [ybu,List.all_cons,Jro n];rfl
theorem Jto {vs:List V} (h:∀v∈vs,Jnm v):∀(i:Nat) x y b,vs[i]?=some x->vs[i]?=some y->(yo vs.length true)[i]?=some b->Sbz x y b:=by
 intro i x y b e1 e2 e3;rw [e1] at e2;cases e2;have:=by
  rw [yco] at e3;split at e3
  ·exact (yah.inj e3).symm
  ·cases e3
 subst this;exact Sbz.self (h x (yv e1))
end
theorem Sv0 (h0:PE X e0 t0) (h1:PE X e1 t1) (h2:PE X e2 t2) (h3:PE X e3 t3) (h4:PE X e4 t4) (h5:PE X e5 t5) (h6:PE X e6 t6) (h7:PE X e7 t7) (h8:PE X e8 t8) (h9:PE X e9 t9) (h10:PE X e10 t10) (h11:PE X e11 t11) (h12:PE X e12 t12) (h13:PE X e13 t13) (h14:PE X e14 t14) (s0:Jjy e0=false:=by rfl) (s1:Jjy e1=false:=by rfl) (s2:Jjy e2=false:=by rfl) (s3:Jjy e3=false:=by rfl) (s4:Jjy e4=false:=by rfl) (s5:Jjy e5=false:=by rfl) (s6:Jjy e6=false:=by rfl) (s7:Jjy e7=false:=by rfl) (s8:Jjy e8=false:=by rfl) (s9:Jjy e9=false:=by rfl) (s10:Jjy e10=false:=by rfl) (s11:Jjy e11=false:=by rfl) (s12:Jjy e12=false:=by rfl) (s13:Jjy e13=false:=by rfl) (s14:Jjy e14=false:=by rfl):PA X [e0,e1,e2,e3,e4,e5,e6,e7,e8,e9,e10,e11,e12,e13,e14] (Jk8 t0 (Jk8 t1 (Jk8 t2 (Jk8 t3 (Jk8 t4 (Jk8 t5 (Jk8 t6 (Jk8 t7 (Jk8 t8 (Jk8 t9 (Jk8 t10 (Jk8 t11 (Jk8 t12 (Jk8 t13 (Jk8 t14 (Jsk)))))))))))))))):=Jkv h0 (Jkv h1 (Jkv h2 (Jkv h3 (Jkv h4 (Jkv h5 (Jkv h6 (Jkv h7 (Jkv h8 (Jkv h9 (Jkv h10 (Jkv h11 (Jkv h12 (Jkv h13 (Jkv h14 (Sl) s14) s13) s12) s11) s10) s9) s8) s7) s6) s5) s4) s3) s2) s1) s0
theorem Jsj:swapsWith (.List es p) t l env=pure false:=rfl
section
variable {K:Sd} {g:TG} {σ:St} {H:Hp} {l1 l2 l3 l4:S1} {b1 b2 b3 b4:Bool} {xs ys us vs:List V}
end
end L2
namespace L2
end L2
namespace L2
open PySem PySem.Spec PyProof.Rows PySem.W
section
variable {X:Cx}
end
theorem ft_mk {K} (X:K.In h) (G:h.Ns mainGlobals mg) {st} {dV kV ct} (a:PySem.W.nsIn K mainGlobals q=some (some (.ref f)))
  (l:K.lookup f=some ⟨oc,od,.func (PySem.W.fnOf q q (Jl5 st) (Jkq st) (Jjl st) dV kV dc pm an cd ct),sl⟩) (c:PySem.W.codeIn K cd q=true) (k:PySem.W.keepIn K (.ref f)=true)
  (hb:∀kV doc pm an cdv ct us,us.length=ps.length->bindArgs (PySem.W.fnOf q q (Jl5 st) (Jkq st) (Jjl st) dV kV doc pm an cdv ct) ⟨us,[]⟩=pure (ps.zip us)):FT K mg q st ps f (PySem.W.fnOf q q (Jl5 st) (Jkq st) (Jjl st) dV kV dc pm an cd ct):=
 ⟨PySem.W.mg_of X G a,Ju4 l c k,.all (hb kV dc pm an cd ct)⟩
theorem fm_mk {K} {st} {dV kV ct}
  (l:K.lookup f=some ⟨oc,od,.func (PySem.W.fnOf n q (Jl5 st) (Jkq st) (Jjl st) dV kV dc pm an cd ct),sl⟩) (c:PySem.W.codeIn K cd q=true) (k:PySem.W.keepIn K (.ref f)=true)
  (hb:∀kV doc pm an cdv ct us,us.length=ps.length->bindArgs (PySem.W.fnOf n q (Jl5 st) (Jkq st) (Jjl st) dV kV doc pm an cdv ct) ⟨us,[]⟩=pure (ps.zip us)):FM K n q st ps f (PySem.W.fnOf n q (Jl5 st) (Jkq st) (Jjl st) dV kV dc pm an cd ct):=
 ⟨Ju4 l c k,.all (hb kV dc pm an cd ct)⟩
theorem xc_mk {K} {sub}
  (l:K.lookup C=some (excClassObj nm q C N bs (.ref W::VEm) true sn sub ab col dd u v w x y "ValueError.__new__")) (t:PySem.W.tailIn K VEm (.ref W::VEm)=true) (a:xcB K C fI=true):Saj K C W fI:=⟨⟨_,_,_,_,_,_,_,_,_,_,_,_,_,_,l⟩,t,a⟩
theorem ec_mk {K} (l:K.lookup C=some ⟨.type "type",dd,.cls cl,s⟩) (m:Sg K C (.type "BaseException")=some true):Ssd K C:=⟨⟨_,_,_,l⟩,m⟩
section
variable {K:Sd} {g:TG} {σ:St} {H:Hp}
end
section
variable {K:Sd} {g:TG} {σ:St} {H:Hp} {l1 l2:S1} {b1 b2:Bool} {xs ys:List V}
theorem Ske {T} {x y} {σ} {H} {A B:L2.St->Hp->Prop} (hT:SqT K H T [x,y]) (h:A ((σ.set i (some x)).set j (some y)) H):
  Shx K 2 (Jqr (Jly i) (Jqr (Jly j) Sj3)) (.ref T) σ H λσ3 H3=>Jsl σ3 H3 λb H4=>if b=true then A σ3 H4 else B σ3 H4:=⟨T,_,rfl,hT,rfl,_,_,rfl,_,_,rfl,rfl,h⟩
end
section
variable {X:Cx}
theorem Jv6 {bs:List Bool} (e:n=bs.length):((yay n).all λj=>bs.getD j false)=bs.all id:=by
 subst e;rw [Bool.eq_iff_iff,yaw,yaw];constructor
 ·intro h b hb;obtain ⟨j,hj,rfl⟩:=List.getElem_of_mem hb;have:=h j (ybi.mpr hj);simpa [yj hj] using this
 ·intro h j hj;have hj':=ybi.mp hj;have:=h bs[j] (ybn hj');simpa [yj hj'] using this
theorem Jya {bs:List Bool} (r1:Sv xs its) (r2:Sv ys jts) (l1:xs.length=ys.length) (l2:bs.length=xs.length)
  (hs:∀(i:Nat) x y b,xs[i]?=some x->ys[i]?=some y->bs[i]?=some b->Sbz x y b):∀j h1 (h2:j < jts.toArray.size),SeqAt.EqAt A s its.toArray[j] jts.toArray[j] (bs.getD j false):=by
 intro j j1 j2;have e1:=r1.length;simp only [yp] at j1 j2;have a1:xs[j]?=some xs[j]:=yj (by omega);have a2:ys[j]?=some ys[j]:=yj (by omega);have a3:bs[j]?=some bs[j]:=yj (by omega);obtain ⟨u,hu1,ru⟩:=r1.get a1;obtain ⟨w',hw1,rw'⟩:=r2.get a2;have b1:its.toArray[j]=u:=by simpa [yj j1] using hu1
 have b2:jts.toArray[j]=w':=by simpa [yj j2] using hw1
 have b3:bs.getD j false=bs[j]:=by simp [a3]
 rw [b1,b2,b3];exact (hs j _ _ _ a1 a2 a3).at ru rw'
inductive Sv9 (K:Sd) (x:V) (y:V) (H:Hp) (Q:VK):Prop where
 |mk (p q:S1) (xs ys:List V) (bs:List Bool) (_:x= .ref p) (_:y= .ref q) (_:Ss K H p xs) (_:Ss K H q ys) (_:xs.length=ys.length) (_:bs.length=xs.length) (_:(∀(i:Nat) x y b,xs[i]?=some x->ys[i]?=some y->bs[i]?=some b->Sbz x y b)) (_:Q (.bl (!bs.all id)) H)
theorem Sm6 (hu:X.A.units+64 < cLine):OpR X (compareOp .NotEq) (Sv9 X.K):=by
 rintro pins s σ H x y v u Q I rx ry ⟨p,q,xs,ys,bs,rfl,rfl,h1,h2,l1,l2,hs,k⟩;obtain rfl:v=Value.ref p:=rx;obtain rfl:u=Value.ref q:=ry;obtain ⟨its,r1,p1,_⟩:=I.list h1;obtain ⟨jts,r2,p2,_⟩:=I.list h2;have e1:=r1.length;have e2:=r2.length;refine SeqAt.RcNeAt.lists p1.isList p2.isList (by simp only [yp];omega) (by omega) (Jya r1 r2 l1 l2 hs) _ _ _ _ ⟨.bl _,H,I,rfl,?_⟩;rw [Jv6 (by simp only [yp];omega)];exact k
inductive Sva (K:Sd) (x:V) (y:V) (H:Hp) (Q:VK):Prop where
 |mk (p q:S1) (xs ys:List V) (bs:List Bool) (_:x= .ref p) (_:y= .ref q) (_:SqT K H p xs) (_:SqT K H q ys) (_:xs.length=ys.length) (_:bs.length=xs.length) (_:(∀(i:Nat) x y b,xs[i]?=some x->ys[i]?=some y->bs[i]?=some b->Sbz x y b)) (_:Q (.bl (!bs.all id)) H)
theorem Sm7 (hu:X.A.units+64 < cLine):OpR X (compareOp .NotEq) (Sva X.K):=by
 rintro pins s σ H x y v u Q I rx ry ⟨p,q,xs,ys,bs,rfl,rfl,h1,h2,l1,l2,hs,k⟩;obtain rfl:v=Value.ref p:=rx;obtain rfl:u=Value.ref q:=ry;obtain ⟨its,r1,p1,_⟩:=I.tuple h1;obtain ⟨jts,r2,p2,_⟩:=I.tuple h2;have e1:=r1.length;have e2:=r2.length;refine SeqAt.RcNeAt.tuples (p1) (p2) (by omega) (Jya r1 r2 l1 l2 hs) _ _ _ _ ⟨.bl _,H,I,rfl,?_⟩;rw [Jv6 (by simp only [yp];omega),show (its.toArray.size==jts.toArray.size)=true by simp only [yp,beq_iff_eq];omega,Bool.and_true];exact k
end
end L2
namespace L2
open PySem PySem.Spec PyProof.Rows
section
variable {H:Hp} {lb:Array (Nat×Nat×Str)}
theorem Scn.triples (x:Scn H lb l):TriplesOk l:=by
 fun_induction Scn H lb l with
 |case1=>exact True.intro
 |case2 l _ c _ v r ih=>exact ih x.2
 |case3=>exact x.elim
theorem Scn.hit (x:Scn H lb l) (h:codeAmong pos l=some v):∃(q:Str) (a:S1),(pos.line,pos.col,q)∈lb/\v= .ref a/\H a=some (.cod q):=by
 fun_induction Scn H lb l with
 |case1=>cases h
 |case2 l _ c _ v' r ih=>
  obtain ⟨⟨n,m,q,a,h1,h2,h3,h4,h5⟩,h6⟩:=x;unfold codeAmong at h;split at h
  ·rename_i hc
   cases h;simp only [yag,beq_iff_eq] at hc;have e1:n=pos.line:=by omega
   have e2:m=pos.col:=by omega
   rw [e1,e2] at h1;exact ⟨q,a,h1,h4,h5⟩
  ·exact ih h6 h
 |case3=>exact x.elim
theorem Scn.snoc {pos:Pos} {q} {a} (hm:(pos.line,pos.col,q)∈lb) (ha:H a=some (.cod q)) {l} (x:Scn H lb l):Scn H lb (l++ [rawInt pos.line,rawInt pos.col,.ref a]):=by
 fun_induction Scn H lb l with
 |case1=>exact ⟨⟨_,_,q,a,hm,rfl,rfl,rfl,ha⟩,True.intro⟩
 |case2 l _ c _ v r ih=>exact ⟨x.1,ih x.2⟩
 |case3=>exact x.elim
end
noncomputable def Slf (vs:Array S2) (c P:S1):Bool:=
 (match (vs[11]?:Option S2) with|some (.ref p)=>p==P|_=>false)&&(match vs.getD 11 .none with| .ref p=>p==P|_=>false)&&(match vs.getD 18 .none with| .str _ _=>true|_=>false)&&(match vs.getD 7 .none with| .int _ _=>true|_=>false)&&
 (match vs.getD 9 .none with| .bool _=>true|_=>false)&&(match vs.getD 10 .none with| .int _ _=>true|_=>false)&&!(c==P)
structure Nst (K:Sd) (f c P:S1):Prop where
 fn:∃(oc:S2) (od:Option S1) (fd:S8) (sl:Array (Option S2)),K.lookup f=some ⟨oc,od,.func fd,sl⟩/\fd.code= .ref c
 hd:∃(od:Option S1) (vs:Array S2) (sl:Array (Option S2)),K.lookup c=some ⟨.type "code",od,.fields vs,sl⟩/\Slf vs c P=true
theorem Nst.code {K} (n:Nst K f c P) (X:K.In h):PySem.W.CodeHd h c P:=by
 obtain ⟨od,vs,sl,lk,b⟩:=n.hd;unfold Slf at b;simp only [yag] at b;obtain ⟨⟨⟨⟨⟨⟨b1,b2⟩,b3⟩,b4⟩,b5⟩,b6⟩,b7⟩:=b;have e1:vs[11]?=some (.ref P):=by
  split at b1
  ·rename_i p e;rw [e,beq_iff_eq.mp b1]
  ·cases b1
 have e2:vs.getD 11 .none= .ref P:=by
  split at b2
  ·rename_i p e;rw [e,beq_iff_eq.mp b2]
  ·cases b2
 have e3:∃x t,vs.getD 18 .none= .str x t:=by
  split at b3
  ·rename_i x t e;exact ⟨x,t,e⟩
  ·cases b3
 have e4:∃x t,vs.getD 7 .none= .int x t:=by
  split at b4
  ·rename_i x t e;exact ⟨x,t,e⟩
  ·cases b4
 have e5:∃x,vs.getD 9 .none= .bool x:=by
  split at b5
  ·rename_i x e;exact ⟨x,e⟩
  ·cases b5
 have e6:∃x t,vs.getD 10 .none= .int x t:=by
  split at b6
  ·rename_i x t e;exact ⟨x,t,e⟩
  ·cases b6
 obtain ⟨f1,t1,e3⟩:=e3;obtain ⟨f2,t2,e4⟩:=e4;obtain ⟨f3,e5⟩:=e5;obtain ⟨f4,t4,e6⟩:=e6;exact ⟨_,vs,f1,t1,f2,t2,f3,f4,t4,X _ _ lk,rfl,rfl,e1,e2,e3,e4,e5,e6,by simpa using b7⟩
noncomputable def Bmn (mg:Str->Option S2) (base:Sb):Prop:=∃bm ob,mg "__builtins__" =some (.ref bm)/\bm≠builtinsNs/\base.get? bm=some ob/\ob.cls= .type "module" /\ob.dict=some builtinsNs/\ob.data= .plain
section
variable {X:Cx} {pins:List (S1×Obj)} {σ:St} {H:Hp} {s:S3} {M:Model} {A:Sa} {E:S2->S3->Prop} {name qual:Str} {st:Stmt} {pos:Pos} {firstLine:Nat} {c P:S1} {lb:Array (Nat×Nat×Str)} {clos:List (Str×S1)} {Q:S2->S3->Prop}
end
noncomputable def Sch (H:Hp) (c:S1) (v:V):Prop:=∃o u,H c=some (Shv o)/\o.data= .cell (some u)/\Su v u
theorem Sch.same (s:Si H H') (h:Sch H c v):Sch H' c v:=by obtain ⟨o,u,a,b,d⟩:=h;exact ⟨o,u,s _ _ a,b,d⟩
noncomputable def Cx.fix (X:Cx) (cn:Str->Bool):Cx:={X with fn:=λx=>X.fn x&&!cn x}
open Classical in
noncomputable def Jrg (X:Cx) (cn:Str->Bool) (h:Sb) (H:Hp):Hp:=λb=>if ∃x,cn x=true/\X.fn x=true/\X.env.cells.lookup x=some b then (h.get? b).map Shv else H b
section
variable {X:Cx} {pins:List (S1×Obj)} {σ:St} {H:Hp} {s:S3} {cn:Str->Bool}
theorem Juz {b} {o} {x} (h1:cn x=true) (h2:X.fn x=true) (h3:X.env.cells.lookup x=some b) (e:h.get? b=some o):Jrg X cn h H b=some (Shv o):=by
 unfold Jrg;rw [if_pos ⟨x,h1,h2,h3⟩,e];rfl
theorem Jpx (n:¬∃x,cn x=true/\X.fn x=true/\X.env.cells.lookup x=some b):Jrg X cn h H b=H b:=by
 unfold Jrg;rw [if_neg n]
theorem Yav (I:Sm X pins σ H s) (e:H b=some o):Jrg X cn s.heap H b=some o:=by
 rw [Jpx]
 ·exact e
 ·rintro ⟨x,_,h2,h3⟩;rcases I.freeC x b h3 with n|⟨f,_⟩
  ·rw [n] at e;cases e
  ·rw [h2] at f;cases f
theorem Sm.fix (I:Sm X pins σ H s) (cn):Sm (X.fix cn) pins σ (Jrg X cn s.heap H) s/\Si H (Jrg X cn s.heap H):=by
 have hS:Si H (Jrg X cn s.heap H):=λb o e=>Yav I e;have hn:∀b,H b=none->(∀x,cn x=true->X.fn x=true->X.env.cells.lookup x≠some b)->Jrg X cn s.heap H b=none:=λb e n=>by
  rw [Jpx]
  ·exact e
  ·rintro ⟨x,h1,h2,h3⟩;exact n x h1 h2 h3
 refine ⟨⟨⟨I.ok.mod,I.ok.kind,I.ok.glob,I.ok.blt,I.ok.above,I.ok.inj,I.ok.has,λx c hx hc=>I.ok.cab x c ?_ hc,I.ok.hd,I.ok.frames,I.ok.stk,I.ok.exf,I.ok.bs,I.ok.bsz,I.ok.noex,I.ok.exfs,I.ok.funs,I.ok.frf⟩,I.os,I.bare,
  ⟨I.base.keep,I.base.slot,λb o e n hx=>?_,I.base.there,λb xs e=>hS _ _ (I.base.tups b xs e),λb o u e=>hS _ _ (I.base.frzs b o u e),λb ps e=>?_⟩,I.loc,I.cell,?_,λx c e=>?_,λp hp=>?_,λb u e=>?_,I.len⟩,hS⟩
 ·have hx':(X.fn x&&!cn x)=true:=hx;rw [yag] at hx';exact hx'.1
 ·exact hn b (I.base.free b o e n hx) λx _ h2 h3=>absurd (yal (yi e) (I.ok.cab x b h2 h3)) (yaq _)
 ·obtain ⟨m,q⟩:=I.base.tbls b ps e;exact ⟨m,hS _ _ q⟩
 ·exact hn _ I.free λx _ _ h3=>I.cne x _ h3 rfl
 ·have e':=e;by_cases hc:cn x=true/\X.fn x=true
  ·obtain ⟨v,o,ho,hd⟩:=I.cell x c e';refine .inr ⟨?_,o,Juz hc.1 hc.2 e' ho⟩;show (X.fn x&&!cn x)=false;rw [hc.1];simp
  ·have out:Jrg X cn s.heap H c=H c:=Jpx λ⟨y,h1,h2,h3⟩=>hc (by rw [I.ok.inj x y c e' h3];exact ⟨h1,h2⟩);rcases I.freeC x c e' with n|⟨f,o,q⟩
   ·exact .inl (out.trans n)
   ·refine .inr ⟨?_,o,out.trans q⟩;show (X.fn x&&!cn x)=false;rw [f];rfl
 ·obtain ⟨e,n,ne,nf,d⟩:=I.pin p hp;refine ⟨e,hn _ n λx _ _ h3=>?_,ne,nf,d⟩;obtain ⟨v,o,ho,hd⟩:=I.cell x _ h3;rw [e] at ho;cases ho;exact d v hd
 ·by_cases hb:∃x,cn x=true/\X.fn x=true/\X.env.cells.lookup x=some b
  ·obtain ⟨x,h1,h2,h3⟩:=hb;obtain ⟨v,o,ho,hd⟩:=I.cell x b h3;rw [Juz h1 h2 h3 ho] at e;cases e;exact ⟨ho,True.intro,⟨o,ho⟩,λ_ _ _ _=>True.intro⟩
  ·rw [Jpx hb] at e;exact (I.hok b u e).stay (λ_ _ _ q=>q) (λ_ q=>hS _ _ q) (λ_ _ q=>hS _ _ q) λ_ _ q=>hS _ _ q
theorem Sm.celAt (I:Sm X pins σ H s) (J:Sm (X.fix cn) pins σ (Jrg X cn s.heap H) s) {j:Nat} (h1:X.N[j]?=some x) (h2:σ[j]?=some (some v)) (hv:X.env.kindOf x=some .cell\/X.env.kindOf x=some .free) (hc:cn x=true) (hf:X.fn x=true):
  ∃b,X.env.cells.lookup x=some b/\Sch (Jrg X cn s.heap H) b v:=by
 obtain ⟨m,_,hl⟩:=I.loc;have hvis:Vis X.env.scope x:=hv.elim (λz=>.inr (.inl z)) λz=>.inr (.inr z);obtain ⟨u,r,l⟩:=hl j x v h1 h2 hvis;rcases l with ⟨k,_⟩|⟨k,b,e,o,ho,hd⟩
 ·rcases hv with z|z
  ·rw [k] at z;cases z
  ·rw [k] at z;cases z
 ·exact ⟨b,e,o,u,Juz hc hf e ho,hd,r⟩
end
noncomputable def Fin (X:Cx) (H:Hp) (s:S3):Prop:=s.os=X.s₀.os/\AllBare s.gens/\Un X.fs X.ex X.H₀ H X.s₀.heap s.heap/\HOk X.prog X.w H s.heap
theorem Sm.fin (I:Sm X pins σ H s):Fin X H s:=⟨I.os,I.bare,I.base,I.hok⟩
noncomputable def SB (X:Cx) (D:Sca) (f:Flow) (s':S3):Prop:=
 match f with
 | .next=>∃σ' H',Fin X H' s'/\D.nx σ' H'
 | .brk=>∃σ' H',Fin X H' s'/\D.bk σ' H'
 | .cont=>∃σ' H',Fin X H' s'/\D.ct σ' H'
 | .ret u=>∃v H',Fin X H' s'/\Su v u/\D.rt v H'
theorem SP.sb (h:SP X pins D f s'):SB X D f s':=by
 cases f with
 |next=>obtain ⟨σ',H',I,q⟩:=h;exact ⟨σ',H',I.fin,q⟩
 |brk=>obtain ⟨σ',H',I,q⟩:=h;exact ⟨σ',H',I.fin,q⟩
 |cont=>obtain ⟨σ',H',I,q⟩:=h;exact ⟨σ',H',I.fin,q⟩
 |ret u=>obtain ⟨v,σ',H',I,r,q⟩:=h;exact ⟨v,H',I.fin,r,q⟩
noncomputable def PB (X:Cx) (st:List Stmt) (t:TS):Prop:=
 ∀(pins:List (S1×Obj)) (s:S3) (σ:St) (H:Hp) (D:Sca),Sm X pins σ H s->t D σ H->Sc (model X.prog X.w) X.A (execs st X.env) (SB X D) X.xe s
section
variable {X:Cx} {st:Stmt} {rest:List Stmt} {t u:TS}
theorem PSs.pb (h:PSs X l t):PB X l t:=λpins s σ H D I q=>thn (h pins s σ H D I q) λ_ _ z=>z.sb
theorem PB.nox (h:PB X.nox l t):PB X l t:=λpins s σ H D I q=>wpAny_mono (h pins s σ H D (I.wish _) q) (λf _ z=>by cases f <;> exact z) λ_ _ z=>False.elim z
end
theorem Jmt:∀ns acc,(Jln cells ns acc).lookup x=some b->acc.lookup x=none->(x,NameKind.free)∈ns
 | [],_,e,n=>by unfold Jln at e;rw [n] at e;cases e
 | (y,k) :: r,acc,e,n=>by
  unfold Jln at e;by_cases hk:(k==NameKind.free)=true
  ·rw [if_pos hk] at e;have hk':k= .free:=by simpa using hk
   subst hk';by_cases hx:x=y
   ·subst hx;exact yy
   ·cases hc:cells.lookup y with
    |none=>rw [hc] at e;exact yq _ (Jmt r acc e n)
    |some d=>
     rw [hc] at e;refine yq _ (Jmt r _ e ?_);rw [yav,beq_eq_false_iff_ne.mpr hx];exact n
  ·rw [if_neg hk] at e;exact yq _ (Jmt r acc e n)
section
variable {X:Cx} {rest:List Stmt} {t:TS} {st:Stmt} {name qual:Str} {i:Nat} {c P:S1} {lb:Array (Nat×Nat×Str)} {caps:List (Str×Nat)}
end
theorem Fun.okN {K} {st} (F:Fun K x qual st f fd) (n:Nst K f c T) (S:Jjp N ps (Jjl st)) (len:∀vs H Q E,sp vs H Q E->vs.length=ps.length)
  (hbody:∀A outer s H vs Q E,Sai k (A.deeper (envOfC qual (Jjl st) s.heap.objs.size f (.ref c)))->sp vs H Q E->
   ∃t,PB (Ju2 CX P w K mg base N qual (Jjl st) f (.ref c) A outer s H E) (Jkq st) t/\t {nx:=λ_ H'=>Q .non H',rt:=Q} (start N vs) H):Sr P w K mg base CX (k+1) f fd ps sp:=by
 obtain ⟨dV,oc,od,kV,doc,pm,an,cdv,ct,osl,rfl,lk,hcd⟩:=F.ex;have ec:cdv= .ref c:=by
  obtain ⟨oc',od',fd',sl',l',e'⟩:=n.fn;rw [lk] at l';cases l';exact e'
 subst ec;refine ⟨len,λA outer s H args us vs Q E hr e0 hb r hsp=>?_⟩;have KX:=e0.mod.kin.keeps λb o e=>(e0.bs b o e).1;refine codeAny_call_function hr.depth (KX _ _ lk) rfl S.co S.gen rfl (PySem.W.codeRec_of KX hcd) (hb _ _ _ _ (wpAny_newFunctionEnv_cells S.kind (λ⟨y,v⟩ hy=>?_) λenv he s1 z=>?_))
 ·exact (S.par y (yby hy).1).imp id λq=>⟨q,PySem.W.cellsFrom_some _ _ _ (.inl q)⟩
 subst he;refine ⟨(e0.mod.nolimit.keeps λb o e=>(e0.bs b o e).1).keeps z.toInCall.keep,codeAny_func ?_⟩;obtain ⟨t,ht,hq⟩:=hbody A outer s H vs Q E (hr.deeper _) hsp;refine wpAny_mono (ht [] s1 (start N vs) H _ (Jtd S hr.hd e0 (len _ _ _ _ hsp) r z) hq) (λfl s' hs=>?_) λe s' hs=>hs;cases fl with
 |ret u=>
  obtain ⟨v,H',⟨a1,a2,a3,a4⟩,rv,q⟩:=hs;exact ⟨v,H',a1,a2,a3,a4,rv,q⟩
 |next=>
  obtain ⟨σ',H',⟨a1,a2,a3,a4⟩,q⟩:=hs;exact ⟨.non,H',a1,a2,a3,a4,rfl,q⟩
 |brk=>
  obtain ⟨_,_,_,q⟩:=hs;exact False.elim q
 |cont=>
  obtain ⟨_,_,_,q⟩:=hs;exact False.elim q
theorem Jm5:∀(ns:List (Str×NameKind)) (n:Nat) (acc:List (Str×S1)),cellsFrom n ns acc=cellsFrom n ns []++acc
 | [],_,_=>rfl
 | (x,k) :: r,n,acc=>by
  unfold cellsFrom;split
  ·rw [Jm5 r (n+1) ((x,n)::acc),Jm5 r (n+1) [(x,n)],List.append_assoc];rfl
  ·exact Jm5 r n acc
theorem Jn9:∀ns n acc,(cellsFrom n ns acc).lookup x=some b->acc.lookup x=none->(x,NameKind.cell)∈ns
 | [],_,_,e,m=>by unfold cellsFrom at e;rw [m] at e;cases e
 | (y,k) :: r,n,acc,e,m=>by
  unfold cellsFrom at e;split at e
  ·rename_i hk
   have hk':k= .cell:=by simpa using hk
   subst hk';by_cases hx:x=y
   ·subst hx;exact yy
   ·refine yq _ (Jn9 r _ _ e ?_);rw [yav,beq_eq_false_iff_ne.mpr hx];exact m
  ·exact yq _ (Jn9 r _ _ e m)
theorem Jm1 {α β:Type} [BEq α] {x:α}:∀(l m:List (α×β)),(l++m).lookup x=(l.lookup x).or (m.lookup x)
 | [],_=>rfl
 | (y,v) :: r,m=>by
  rw [List.cons_append,yav,yav];split
  ·rfl
  ·exact Jm1 r m
section
variable {M:Model} {A:Sa} {E:S2->S3->Prop} {s₀ s:S3} {m cm:Str->Option S2} {env:Env} {cs:List (Str×S1)}
theorem Jwg (f:Str×S2->PUnit->Sem (ForInStep PUnit)) (hf:∀n v u,f (n,v) u=(do storeName env n v;pure (.yield ⟨⟩))) (hk:env.scope.kind= .function) (sub:∀n c,cs.lookup n=some c->env.cells.lookup n=some c):
  ∀bs m cm s Q,InCallC s₀ env.locals m cs cm s->(∀x∈bs,env.kindOf x.1=some .local\/(env.kindOf x.1=some .cell/\(cs.lookup x.1).isSome=true))->
   (∀s',InCallC s₀ env.locals (bindL env.kindOf bs m) cs (bindC env.kindOf bs cm) s'->Q ⟨⟩ s')->Sc M A (forIn bs ⟨⟩ f) Q E s
 | [],m,cm,s,Q,x,_,h=>by rw [ycb];exact S5 (h s x)
 | (n,v) :: r,m,cm,s,Q,x,hb,h=>by
  rw [ybm,hf];have hr:=λy hy=>hb y (yq (n,v) hy);obtain ⟨h0,t0,e0⟩:=x.toInCall.same;rcases hb (n,v) yy with hl|⟨hl,hc⟩
  ·refine S4 (S4 (wpAny_storeName_local hl x.toInCall.ns (λh' hn hs=>S5 (Jwg f hf hk sub r (λy=>if y=n then some v else m y) cm _ Q ⟨⟨?_,hn,λb o z=>?_,x.toInCall.fresh⟩,λk c z=>?_,x.apart,x.above⟩ hr λs'' x''=>h s'' ?_)) (by rw [hk];rfl)))
   ·rw [e0];exact ⟨h',_,rfl⟩
   ·exact hs.extBut b o (yt (yal (yi z) x.toInCall.fresh)) (x.toInCall.keep b o z)
   ·exact (x.cell k c z).sameBut hs (ybd (x.above k c (mem_of_lookup z)))
   ·unfold bindL bindC;rw [if_pos hl,if_pos hl];exact x''
  ·obtain ⟨c,hc⟩:=ybz.mp hc;have hnl:¬env.kindOf n=some .local:=by rw [hl];decide
   have hL:=x.above n c (mem_of_lookup hc);refine S4 (S4 (wpAny_storeName_cell hk hl (sub n c hc) (x.cell n c hc) λh' hn hs=>S5 (Jwg f hf hk sub r m (λy=>if y=n then some v else cm y) _ Q ⟨⟨?_,x.toInCall.ns.sameBut hs (yt hL),λb o z=>?_,x.toInCall.fresh⟩,λk c' z=>?_,x.apart,x.above⟩ hr λs'' x''=>h s'' ?_)))
   ·rw [e0];exact ⟨h',_,rfl⟩
   ·exact hs.extBut b o (yt (Nat.lt_trans (yal (yi z) x.toInCall.fresh) hL)) (x.toInCall.keep b o z)
   ·by_cases w':k=n
    ·subst w';rw [hc] at z;cases z;simpa using hn
    ·rw [if_neg w'];exact (x.cell k c' z).sameBut hs λe=>w' (name_of_addr x.apart (mem_of_lookup z) (e▸mem_of_lookup hc))
   ·unfold bindL bindC;rw [if_neg hnl,if_neg hnl];exact x''
theorem Ybt {code} (hk:scope.kind= .function)
  (hb:∀x∈bs,scope.names.lookup x.1=some .local\/(scope.names.lookup x.1=some .cell/\((cellsFrom (s.heap.objs.size+1) scope.names []).lookup x.1).isSome=true))
  (hQ:∀env,env=newEnv scope s.heap.objs.size globals (cellsFrom (s.heap.objs.size+1) scope.names []++clos) qual func code none builtins->
   ∀s',InCallC s env.locals (bindL env.kindOf bs λ_=>none) (cellsFrom (s.heap.objs.size+1) scope.names []) (bindC env.kindOf bs λ_=>none) s'->Q env s'):
  Sc M A (newFunctionEnv scope globals clos bs qual func code none builtins) Q E s:=by
 simp only [newFunctionEnv,Option.isSome_none,ybh,if_false];refine S4 (wpAny_alloc (S4 (wpAny_layCells _ (λn kd cl=>by cases h:kd==NameKind.cell <;> simp [h]) _ _ _ _ ?_)));have z:{s with heap:=s.heap.push {cls:=.type "frame",data:=.dict #[]}}.heap.objs.size=s.heap.objs.size+1:=yar ..;rw [z,Jm5];have ok:=cellsFrom_ok scope.names (s.heap.push {cls:=.type "frame",data:=.dict #[]}) (s.heap.objs.size+1) [] ⟨λ_ _ hm=>(nomatch hm),.nil⟩ (Nat.le_of_eq z.symm);rw [yar ..] at ok;refine S4 (Jwg (env:=newEnv scope s.heap.objs.size globals (cellsFrom (s.heap.objs.size+1) scope.names []++clos) qual func code none builtins) _ (λ_ _ _=>rfl) hk (λn c e=>?_) bs (λ_=>none) (λ_=>none) _ _ ?_ hb λs' x=>S5 (hQ _ rfl s' x))
 ·show (cellsFrom (s.heap.objs.size+1) scope.names []++clos).lookup n=some c;rw [Jm1,e];rfl
 ·exact ⟨⟨⟨_,_,rfl⟩,(Heap.Ns.new s.heap (.type "frame")).keeps (pushCells_keeps _ _),λb o e=>pushCells_keeps _ _ b o (yh _ e),yg _⟩,λn c hc=>(ok.empty n c (mem_of_lookup hc)).1,ok.apart,λn c hm=>(ok.empty n c hm).2⟩
end
structure Jpd (N ps fr:List Str) (sc:Scope):Prop where
 kind:sc.kind= .function
 co:sc.isCoroutine=false
 gen:sc.isGenerator=false
 nd:N.Nodup
 pre:N.take (ps.length+fr.length)=ps++fr
 par:∀x∈ps,sc.names.lookup x=some .local\/sc.names.lookup x=some .cell
 frs:∀x∈fr,sc.names.lookup x=some .free
 nof:∀y∈sc.names,y.2= .cell->sc.names.lookup y.1=some .cell
noncomputable def Jxo (CX:CXT) (P:S7) (w:S9) (K:Sd) (mg:Str->Option S2) (base:Sb) (N:List Str) (qual:Str) (scope:Scope) (clos:List (Str×S1)) (f:S1) (cd:S2) (A:Sa) (outer:List Env) (s:S3) (H:Hp) (E:XK):Cx where
 prog:=P
 w:=w
 K:=K
 mg:=mg
 base:=base
 A:=A.deeper (PySem.W.envX qual scope s.heap.objs.size f cd (cellsFrom (s.heap.objs.size+1) scope.names []++clos))
 N:=N
 s₀:=s
 H₀:=H
 env:=PySem.W.envX qual scope s.heap.objs.size f cd (cellsFrom (s.heap.objs.size+1) scope.names []++clos)
 outer:=outer
 stack:=PySem.W.envX qual scope s.heap.objs.size f cd (cellsFrom (s.heap.objs.size+1) scope.names []++clos)::outer
 ex:=[]
 calm:=true
 fn:=λx=>decide (scope.names.lookup x=some .cell)
 pn:=[]
 xe:=λe s'=>Sc (model P w) (A.deeper (PySem.W.envX qual scope s.heap.objs.size f cd (cellsFrom (s.heap.objs.size+1) scope.names []++clos))) (leaving (PySem.W.envX qual scope s.heap.objs.size f cd (cellsFrom (s.heap.objs.size+1) scope.names []++clos)) e) (λ_ s''=>CX outer H s E e s'') (λe' s''=>CX outer H s E e' s'') s'
theorem Jzj {i:Nat} (h:(start N vs)[i]?=some (some v)):vs[i]?=some v:=by
 unfold start at h;by_cases hi:i < vs.length
 ·rw [ycp (by simpa using hi),ym] at h;cases e:vs[i]? with
  |none=>rw [e] at h;cases h
  |some a=>rw [e] at h;cases h;rfl
 ·rw [ych (by simpa using hi),yco] at h;split at h <;> cases h
theorem Jwr {K}
  (S:Jpd N ps fr scope) (hd:A.handled=none) (e0:Ser P w K mg base A outer s H) (hl:vs.length=ps.length) (hlc:cs.length=fr.length) (r:Sv vs us)
  (inj:∀x y b,clos.lookup x=some b->clos.lookup y=some b->x=y) (has:∀y∈scope.names,y.2= .free->∃b,clos.lookup y.1=some b) (cel:∀x b,clos.lookup x=some b->∃v,Sch H b v) (cap:∀x v,(x,v)∈fr.zip cs->∃b,clos.lookup x=some b/\Sch H b v)
  (x:InCallC s s.heap.objs.size (bindL (PySem.W.envX qual scope s.heap.objs.size f cd (cellsFrom (s.heap.objs.size+1) scope.names []++clos)).kindOf (ps.zip us) λ_=>none) (cellsFrom (s.heap.objs.size+1) scope.names []) (bindC (PySem.W.envX qual scope s.heap.objs.size f cd (cellsFrom (s.heap.objs.size+1) scope.names []++clos)).kindOf (ps.zip us) λ_=>none) s1):
  Sm (Jxo CX P w K mg base N qual scope clos f cd A outer s H E) [] (start N (vs++cs)) H s1:=by
 have hpl:=by have:=congrArg ybq S.pre;rw [yaf,yx] at this;omega
 obtain ⟨h1,tk,rfl,hk⟩:=x.done;have noA:∀b:S1,b∉(Jxo CX P w K mg base N qual scope clos f cd A outer s H E).ex:=λb z=>absurd (show b∈ [] from z) (by simp);have cobj:∀b v,Sch H b v->∃o u,H b=some (Shv o)/\s.heap.get? b=some o/\o.data= .cell (some u)/\Su v u:=λb v ⟨o,u,q1,q2,q3⟩=>⟨o,u,q1,(e0.hok b _ q1).1,q2,q3⟩;have two:∀y b,(cellsFrom (s.heap.objs.size+1) scope.names []++clos).lookup y=some b->(cellsFrom (s.heap.objs.size+1) scope.names []).lookup y=some b\/((cellsFrom (s.heap.objs.size+1) scope.names []).lookup y=none/\clos.lookup y=some b):=λy b e=>by
  rw [Jm1] at e;cases q:(cellsFrom (s.heap.objs.size+1) scope.names []).lookup y with
  |none=>rw [q] at e;exact .inr ⟨rfl,e⟩
  |some d=>rw [q] at e;exact .inl e
 have low:∀y b,clos.lookup y=some b->b < s.heap.objs.size:=λy b e=>by
  obtain ⟨v,q⟩:=cel y b e;obtain ⟨o,u,_,q2,_⟩:=cobj b v q;exact yi q2
 have high:=λy b e=>x.above y b (PySem.mem_of_lookup e);refine ⟨⟨e0.mod,S.kind,rfl,rfl,yg _,λy z c h1 h2=>?_,λy hy=>?_,λy c hy h=>?_,λ_=>hd,Around.frames_deeper e0.frames,.inr ⟨rfl,rfl⟩,λb z=>absurd z (noA b),e0.bs,e0.bsz,λb _ _=>noA b,λb z=>absurd z (noA b),e0.funs,e0.frf⟩,
  rfl,e0.bare,Un.kept hk,⟨_,x.toInCall.ns,λi y v h1 h2 h3=>?_⟩,λy c h=>?_,e0.hok.fresh (yg _),λy c h=>?_,λp hp=>absurd (show p∈ [] from hp) (by simp),e0.hok.kept hk,?_⟩
 ·rcases two y c h1 with a|⟨_,a⟩
  ·rcases two z c h2 with b|⟨_,b⟩
   ·exact name_of_addr x.apart (PySem.mem_of_lookup a) (PySem.mem_of_lookup b)
   ·exact absurd (Nat.lt_trans (high y c a) (low z c b)) (yaq _)
  ·rcases two z c h2 with b|⟨_,b⟩
   ·exact absurd (Nat.lt_trans (high z c b) (low y c a)) (yaq _)
   ·exact inj y z c a b
 ·have hy:scope.names.lookup y=some .cell\/scope.names.lookup y=some .free:=hy;show ∃c,(cellsFrom (s.heap.objs.size+1) scope.names []++clos).lookup y=some c;rw [Jm1];cases q:(cellsFrom (s.heap.objs.size+1) scope.names []).lookup y with
  |some d=>exact ⟨d,rfl⟩
  |none=>
   rcases hy with hy|hy
   ·obtain ⟨c,e⟩:=Jn4 hy;rw [q] at e;cases e
   ·exact has _ (PySem.mem_of_lookup hy) rfl
 ·rcases two y c h with a|⟨a,_⟩
  ·exact ybj (high y c a)
  ·have hy':=hy;obtain ⟨c',e⟩:=Jn4 (of_decide_eq_true hy');rw [a] at e;cases e
 ·have ha:=Jzj h2;have hi:=by have:=(yk.mp ha).1;rw [yx] at this;exact this
  have hp:(ps++fr)[i]?=some y:=by rw [<-S.pre,List.getElem?_take_of_lt (by omega)];exact h1
  by_cases hv:i < vs.length
  ·rw [ycp hv] at ha;rw [ycp (by omega)] at hp;obtain ⟨u,hu,rv⟩:=r.get ha;have ndP:=(List.nodup_append.mp (by rw [<-S.pre];exact S.nd.sublist (List.take_sublist _ _))).1;refine ⟨u,rv,?_⟩;rcases S.par y (yv hp) with k|k
   ·exact .inl ⟨k,Jq2 ndP hp hu k⟩
   ·obtain ⟨c,e⟩:=Jn4 k;refine .inr ⟨.inl k,c,?_,?_⟩
    ·show (cellsFrom (s.heap.objs.size+1) scope.names []++clos).lookup y=some c;rw [Jm1,e];rfl
    ·have q:=x.cell y c e;rw [Jq1 ndP hp hu (by show scope.names.lookup y≠_;rw [k];decide)] at q;exact q
  ·rw [ych (by omega)] at ha;rw [ych (by omega)] at hp;obtain ⟨b,e1,e2⟩:=cap y v (yv (by rw [yck];exact ⟨by rw [hl];exact hp,ha⟩));have kf:=S.frs y (yv hp);obtain ⟨o,u,_,q2,q3,q4⟩:=cobj b v e2;refine ⟨u,q4,.inr ⟨.inr kf,b,?_,o,hk _ _ q2,q3⟩⟩;show (cellsFrom (s.heap.objs.size+1) scope.names []++clos).lookup y=some b;rw [Jm1];cases q:(cellsFrom (s.heap.objs.size+1) scope.names []).lookup y with
   |none=>exact e1
   |some d=>
    have:=S.nof _ (Jn9 scope.names _ [] q rfl) rfl;rw [kf] at this;cases this
 ·rcases two y c h with a|⟨_,a⟩
  ·exact ⟨_,x.cell y c a⟩
  ·obtain ⟨v,q⟩:=cel y c a;obtain ⟨o,u,_,q2,q3,_⟩:=cobj c v q;exact ⟨_,o,hk _ _ q2,q3⟩
 ·rcases two y c h with a|⟨a1,a⟩
  ·exact .inl (e0.hok.fresh (ybj (high y c a)))
  ·obtain ⟨v,q⟩:=cel y c a;obtain ⟨o,u,q1,_⟩:=cobj c v q;refine .inr ⟨decide_eq_false λz=>?_,o,q1⟩;obtain ⟨c',e⟩:=Jn4 z;rw [a1] at e;cases e
 ·unfold start;show _=N.length;rw [yx,yf,yci,yx];omega
inductive Yaq (i:Nat) (sp:S1->Sp) (R:St->XK) (t:TA) (σ:St) (H:Hp) (Q:VK):Prop where
 |mk (f:_) (_:σ[i]?=some (some (.ref f))) (_:t σ H λvs H1=>sp f vs H1 Q (R σ))
section
variable {X:Cx} {CX:CXT} {k j i:Nat} {sp:S1->Sp} {x:Str} {p pos:Pos} {e:Expr} {es:List Expr} {t:TA} {R:St->XK}
end
theorem nst_mk {K} (l:K.lookup f=some ⟨oc,od,.func fd,sl⟩) (e:fd.code= .ref c)
  (lc:K.lookup c=some ⟨.type "code",od', .fields vs,sl'⟩) (_:vs[11]?=some (.ref P)) (hb:Slf vs c P=true):Nst K f c P:=⟨⟨oc,od,fd,sl,l,e⟩,⟨od',vs,sl',lc,hb⟩⟩
theorem Jtg {β:Type}:∀{l:List (S1×β)},(l.map (·.1)).Nodup->∀p∈l,l.lookup p.1=some p.2
 |q::r,h,p,hp=>by
  have h':(q.1::r.map (·.1)).Nodup:=h;obtain ⟨h1,h2⟩:=ybp.mp h';rw [yav];rcases yr.mp hp with rfl|hp
  ·rw [beq_self_eq_true]
  ·have ne:(p.1==q.1)=false:=beq_eq_false_iff_ne.mpr λz=>h1 (by rw [<-z];exact yba hp);rw [ne];exact Jtg h2 p hp
theorem Jrz {β:Type}:∀{l:List (S1×β)} {a:S1} {v:β},l.lookup a=some v->(a,v)∈l
 | (b,x) :: r,a,v,e=>by
  rw [yav] at e;cases hb:a==b with
  |true=>rw [hb] at e;cases e;rw [eq_of_beq hb];exact .head _
  |false=>rw [hb] at e;exact .tail _ (Jrz e)
theorem Jyy {K:Sd} {tabs:List (S1×Array (Nat×Nat×Str))}
  (KX:K.In s₁.heap) (hns:s₁.heap.Ns mainGlobals mg) (hb:s₁.heap.Ns builtinsNs mb) (hbb:∀x:Str,x≠"__name__" ->mb x=bootBuiltins x) (hlim:s₁.heap.NoLimit) (hg:s₁.gens= #[])
  (ha:s₁.heap.get? a=some {cls:=.type "list",data:=.seq vs.toArray}) (hi:IntsAre vs ns) (hl:ns.length<=S6) (hr:Sai k callerA)
  (hT:∀p∈tabs,isCodeTable s₁.heap p.1/\s₁.heap.get? p.1=some (PySem.W.tabObj #[])) (hnd:(tabs.map (·.1)).Nodup) (hK:PySem.W.noTabs K=true) (hbm:Bmn mg s₁.heap)
  (F:∀base:Sb,K.In base->base.Ns mainGlobals mg->Bmn mg base->Sr P w K mg base CX k fa fd [x] sp) (hbind:∀s u,BindsTo s fd ⟨[u],[]⟩ [(x,u)])
  (hsp:∀H:Hp,(∀p∈tabs,H p.1=some (.tbl p.2))->Ss K H a (ns.map V.int)->sp [.ref a] H (λv _=>v= .bl true) λ_ _ _=>False)
  (hCX:∀H e s',CX [] H s₁ (λ_ _ _=>False) e s'->False):
  codeAny (model P w) callerA (.call (.ref fa) ⟨[.ref a],[]⟩) (λr s'=>r= .ok (.ret (.bool true))/\OldK s₁.heap s'.heap/\s'.os=s₁.os/\AllBare s'.gens) s₁:=by
 have rv:=Jtr hi;let so:Obj:={cls:=.type "list",data:=.seq vs.toArray};let H:Hp:=λb=>if b=a/\K.lookup a=none then some (.frz so (.lst (ns.map V.int))) else (tabs.lookup b).map HO.tbl
 have three:∀b,H b=none\/(b=a/\K.lookup a=none/\H b=some (.frz so (.lst (ns.map V.int))))\/∃lb,(b,lb)∈tabs/\H b=some (.tbl lb):=λb=>by
  by_cases h:b=a/\K.lookup a=none
  ·exact .inr (.inl ⟨h.1,h.2,if_pos h⟩)
  ·have e:H b=(tabs.lookup b).map HO.tbl:=if_neg h;cases q:tabs.lookup b with
   |none=>exact .inl (by rw [e,q];rfl)
   |some lb=>exact .inr (.inr ⟨lb,Jrz q,by rw [e,q];rfl⟩)
 have hnon:∀b o,s₁.heap.get? b=some o->(∀xs n,o.data≠ .seq xs n)->(∀xs,o.data≠ .fields xs)->H b=none:=λb o e n1 n2=>by
  rcases three b with z|⟨rfl,_,_⟩|⟨lb,m,_⟩
  ·exact z
  ·rw [ha] at e;cases e;exact absurd rfl (n1 _ _)
  ·rw [(hT _ m).2] at e;cases e;exact absurd rfl (n2 _)
 have htb:∀p∈tabs,H p.1=some (.tbl p.2):=λp hp=>by
  have n:¬(p.1=a/\K.lookup a=none):=λz=>by
   have e:=(hT p hp).2;rw [z.1,ha] at e;cases e
  show (if p.1=a/\K.lookup a=none then _ else _)=_;rw [if_neg n,Jtg hnd p hp];rfl
 have hok:HOk P w H s₁.heap:=λb u z=>by
  rcases three b with e|⟨rfl,_,e⟩|⟨lb,m,e⟩
  ·rw [e] at z;cases z
  ·rw [e] at z;cases z;exact ⟨ha,by rw [yf];exact hl,vs,_,rv,ha⟩
  ·rw [e] at z;cases z;exact ⟨#[],(hT _ m).2,True.intro⟩
 have hS:Ss K H a (ns.map V.int):=by
  cases hk:K.lookup a with
  |some o=>
   have e:=KX a o hk;rw [ha] at e;cases e;exact .inr ⟨_,vs.toArray,_,hk,rfl,rfl,rfl,by rw [yp,hi.length];exact hl,by simpa using rv⟩
  |none=>exact .inl (.inr ⟨so,if_pos ⟨rfl,hk⟩⟩)
 have nsK:∀{b:S1} {m:Str->Option S2},s₁.heap.Ns b m->(Ju6 s₁.heap H).Ns b m:=λ{b m} ⟨o,es,ep,e,d,r⟩=>⟨o,es,ep,Jrw e (hnon b o e (λxs n z=>by rw [d] at z;cases z) λxs z=>by rw [d] at z;cases z),d,r⟩;have hKb:K.In (Ju6 s₁.heap H):=λb o e=>Jrw (KX b o e) (by
  rcases three b with z|⟨rfl,z,_⟩|⟨lb,m,_⟩
  ·exact z
  ·rw [z] at e;cases e
  ·exfalso;have q:=KX b o e;rw [(hT _ m).2] at q;cases q;have h2:=yaw.mp hK (b,_) (PySem.W.mem_of_lookupK e);exact absurd (h2) yai)
 have hBb:Bmn mg (Ju6 s₁.heap H):=by
  obtain ⟨bm,ob,b1,b2,b3,b4,b5,b6⟩:=hbm;exact ⟨bm,ob,b1,b2,Jrw b3 (hnon bm ob b3 (λxs n z=>by rw [b6] at z;cases z) λxs z=>by rw [b6] at z;cases z),b4,b5,b6⟩
 have hM:Mod K mg (Ju6 s₁.heap H):=⟨hKb,nsK hns,⟨mb,nsK hb,hbb⟩,let ⟨mc,h1,h2⟩:=hlim;⟨mc,nsK h1,h2⟩⟩;have e0:Ser P w K mg (Ju6 s₁.heap H) callerA [] s₁ H:=⟨rfl,hM,λb o e=>Ybx e,Nat.le_of_eq (Jyu _ _),trivial,λb hb=>absurd (show b∈ [] from hb) (by simp),hok,.of_eq hg⟩;refine codeAny_mono ((F _ hKb (nsK hns) hBb).run callerA [] s₁ H ⟨[.ref a],[]⟩ [.ref a] [.ref a] _ _ hr e0 (hbind s₁ (.ref a)) (.cons rfl .nil) (hsp H htb hS)) λr s' h=>?_;cases r with
 |error e=>exact (hCX H e s' h).elim
 |ok fl=>
  cases fl with
  |next=>exact False.elim h
  |brk=>exact False.elim h
  |cont=>exact False.elim h
  |ret u=>
   obtain ⟨v,H',os,bare,un,hok',r',q⟩:=h;subst q;obtain rfl:u=Value.bool true:=r';have all:∀b o,s₁.heap.get? b=some o->s'.heap.get? b=some o\/(isCodeTable s₁.heap b/\o=PySem.W.tabObj #[]/\∃ts,s'.heap.get? b=some (PySem.W.tabObj ts)):=λb o e=>by
    rcases three b with z|⟨rfl,_,z⟩|⟨lb,m,z⟩
    ·exact .inl (un.keep b o e z (by intro y;exact absurd (show b∈ [] from y) (by simp)) (by simp))
    ·obtain ⟨e2,_⟩:=hok' _ _ (un.frzs _ _ _ z);rw [ha] at e;cases e;exact .inl e2
    ·obtain ⟨more,z2⟩:=un.tbls b lb z;obtain ⟨ts,e2,_⟩:=hok' b _ z2;have e3:=(hT _ m).2;rw [e] at e3;cases e3;exact .inr ⟨(hT _ m).1,rfl,ts,e2⟩
   refine ⟨rfl,⟨λb o e=>?_,λb o e=>?_⟩,os,bare⟩
   ·rcases all b o e with z|⟨t,rfl,ts,z⟩
    ·exact .inl z
    ·exact .inr (.inl ⟨t,rfl,#[],ts,rfl,by rw [Array.empty_append];exact z⟩)
   ·rcases all b o e with z|⟨t,rfl,ts,z⟩
    ·exact ⟨o,z⟩
    ·exact ⟨_,z⟩
end L2
namespace L2
open PySem PySem.Spec PyProof.Rows PySem.W
theorem Slx {l c:Nat} {q:Str}:(l,c,q)∈ #[(l,c,q)]:=by simp
theorem Ybo {l c:Nat} {q:Str} (h:(l,c,q')∈ #[(l,c,q)]):q'=q:=by grind
theorem KV.get (r:KV kvs vs):∀{i:Nat} {k:Key} {x},kvs[i]?=some (k,x)->∃u,vs[i]?=some (k,u)/\Su x u:=by
 induction r with
 |nil=>intro i k x h;simp at h
 | @cons a b l1 l2 h t ih=>
  intro i k x e;cases i with
  |zero=>
   obtain rfl:a=(k,x):=by simpa using e
   obtain ⟨k',u⟩:=b;obtain ⟨e1,e2⟩:=h;cases e1;exact ⟨u,rfl,e2⟩
  |succ j=>exact ih (by simpa using e)
theorem Smi (h:(Jkd P w).is k u=true):Su (kV k) u:=by
 rw [Jww] at h;cases k with
 |inl i=>
  cases u <;> simp [Jqs,Value.isInt] at h;subst h;exact ⟨_,rfl⟩
 |inr x=>
  obtain ⟨t,e⟩:=Value.isStrOf_shape h;exact ⟨t,e⟩
section
variable {X:Cx} {pins:List (S1×Obj)} {σ:St} {H:Hp} {s:S3}
theorem Sm.frz (I:Sm X pins σ H s) (e:H a=some (.dK kvs)) (ho:s.heap.get? a=some o):Sm X pins σ (upd H a (.frz o (.dK kvs))) s:=by
 have mu:Mut (H a):=by rw [e];trivial
 exact I.un (Un.write mu (.inl rfl) (λb u _ q=>q) ⟨o,ho⟩) (HOk.write I.hok mu (.inl rfl) (λb u _ q=>q) ⟨o,ho⟩ ⟨ho,I.hok a _ e⟩)
theorem Ya (I:Sm X pins σ H s) (ea:H a=some (.frz o (.dK kvs))):
  kvs.length<=S6/\(a==sysModules)=false/\∃vs es ep,KV kvs vs/\o.data= .dict es ep/\s.heap.DictAt (Jkd X.prog X.w) a vs ep:=by
 obtain ⟨e1,z,hd,vs,rel,o',es,ep,e2,x,d,r⟩:=(I.hok a _ ea);rw [e1] at e2;cases e2;exact ⟨z,hd,vs,es,ep,rel,d,o,es,e1,x,d,r⟩
end
noncomputable def Iti (a:S1) (o:Obj) (kvs:List (Key×V)):It:=
 ⟨λi H=>H a=some (.frz o (.dK kvs))/\i < kvs.length,λi H x H'=>∃T k u,H T=none/\x= .ref T/\kvs[i]?=some (k,u)/\H'=upd H T (.tup [kV k,u]),λi H=>H a=some (.frz o (.dK kvs))/\kvs.length<=i⟩
noncomputable def ISt (it a:S1) (o:Obj) (n i:Nat) (h:Sb):Prop:=∃es ep,o.data= .dict es ep/\∃ok ov,IsItemIter h it a i n ep ok ov
theorem Jxk {K} (a it) (o) (kvs):Turn P w K (.Tuple elts kt pt) (Iti a o kvs) [it] it (ISt it a o kvs.length) where
 mem:=by simp
 obj:=λi h st b hb=>by
  have e:=by simpa using hb
  subst e;obtain ⟨es,ep,_,ok,ov,e⟩:=st;exact ⟨_,e,λv z=>by cases z⟩
 keep:=λi h h' st k=>by
  obtain ⟨es,ep,q,ok,ov,e⟩:=st;exact ⟨es,ep,q,ok,ov,k it (by simp) _ e⟩
 item:=by
  intro X hP hw hK hc i pins s σ H E I hf st hg;subst hP hw hK;obtain ⟨ea,hi⟩:=hg;obtain ⟨es,ep,ed,ok,ov,st⟩:=st;obtain ⟨_,_,vs,es',ep',rel,ed',da⟩:=Ya I ea;rw [ed] at ed';cases ed';have hl:=rel.length;have hx:kvs[i]?=some (kvs[i].1,kvs[i].2):=by simp [hi]
  obtain ⟨u,hu,ru⟩:=rel.get hx;rw [hl] at st;refine wpAny_pyNext_items_item st da hu λkey h' hk st' tT sz kk=>⟨_,rfl,wpAny_letOwnedTupleGo_items st' λh'' st'' sb=>?_⟩;have ne:s.heap.objs.size≠it:=λw'=>absurd (yi st) (by rw [<-w'];exact yaq _);refine ⟨.ref s.heap.objs.size,upd H s.heap.objs.size (.tup [kV kvs[i].1,kvs[i].2]),I.turnTup hf (λc o hc q=>(sb.2 c (by simpa using hc)).trans (kk c o (by simpa using hc) q)) (yg _)
   ⟨(show 2<=S6 by decide),[key,u],.cons (Smi hk) (.cons ru .nil),⟨_,((sb.2 _ ne).trans tT),rfl,_,rfl⟩⟩,rfl,⟨_,_,_,I.hok.fresh (yg _),rfl,hx,rfl⟩,⟨es,ep,ed,_,_,by rw [hl];exact st''⟩,λc hc=>?_⟩
  have e:=by simpa using hc
  subst e;rw [Sy (yu ne)];exact (hf c hc).1
 done:=by
  intro X hP hw hK hc i pins s σ H E I hf st hg;subst hP hw hK;obtain ⟨ea,hi⟩:=hg;obtain ⟨es,ep,ed,ok,ov,st⟩:=st;obtain ⟨_,_,vs,es',ep',rel,ed',da⟩:=Ya I ea;rw [ed] at ed';cases ed';have hl:=rel.length;obtain ⟨f0,f1,f2,f3,f4,f5⟩:=hf it (by simp);rw [hl] at st;exact wpAny_pyNext_items_end (I.ok.hd hc) st da (by simp;omega) λh' eb=>⟨rfl,I.turned (λb o hb e=>eb b o hb e) f0 f1 f3 f4 f5⟩
 self:=λ_ _ _ _ _ st h=>let ⟨_,_,_,_,_,q⟩:=st;kcp_self q h
noncomputable def Slk (td:TE):TI:=λσ H R=>td σ H λx H1=>∃a o kvs,x= .ref a/\H1 a=some (.frz o (.dK kvs))/\R (Iti a o kvs) H1
theorem Jvx {elts} {kt} {apos cpos} (ho:PE X o td) (hbase:attributeBase o "items" X.env (eval o X.env)=eval o X.env:=by rfl) (hline:(apos.endLine==cpos.line)=true:=by rfl):
  PI X (.Tuple elts kt pt) (.Call (.Attribute o "items" apos) [] [] cpos) (Slk td):=by
 intro pins s σ H R I h;refine wpAny_Call_method0_late hbase hline (thn (ho pins s σ H _ I h) λv s1 zq=>?_);obtain ⟨x,H1,I1,r1,q1⟩:=zq;obtain ⟨a,ob,kvs,rfl,ea,q⟩:=q1;obtain rfl:v=Value.ref a:=r1;obtain ⟨t1,t2,_⟩:=Slp I1 (.inl ⟨kvs,.inr ⟨ob,ea⟩⟩);refine ⟨"dict","dict.items",PySem.F.plainAttrs_dict,PySem.F.slot_dict_items,PySem.F.type_dict_items,t1,t2,Calls.callWith_builtin rfl (PySem.evalArgs_none ?_)⟩;obtain ⟨z,hd,vs,es,ep,rel,ed,da⟩:=Ya I1 ea;refine call_meetsIn PySem.F.slot_dict_items da.dictOf.typeIs PySem.F.entry_dict_items (PySem.F.args_dict_items_1 _) (meets_dict_items (Jkd X.prog X.w) a hd) ⟨⟨vs,da.dictOf⟩,wpAny_pyIter_items ⟨_,yn _ rfl,rfl,rfl⟩ (da.keep λb o e=>yh _ e) ?_⟩;refine ⟨_,[_],_,_,H1,rfl,I1.kept λb o e=>yh _ (yh _ e),Jxk a _ ob kvs,⟨es,ep,ed,.none,.none,by rw [rel.length];exact yn _ rfl⟩,λb hb=>?_,q⟩;have le:s1.heap.objs.size<=b:=by
  rw [yan.mp hb];simp [Heap.push]
 exact I1.fpOk le (I1.hok.fresh le)
section
variable {g:TG} {tt:TT} {te:TE} {H:Hp} {D:S1} {σ:St} {R:Hp->Prop}
theorem Jwm (Pv:Nat->St->Hp->Prop) (h0:Pv 0 σ H) (hl:∀i σ H,i<=kvs.length->Pv i σ H->H a=some (.frz o (.dK kvs)))
  (hs:∀i k x σ H T,kvs[i]?=some (k,x)->Pv i σ H->H T=none->g (.ref T) σ (upd H T (.tup [kV k,x])) λσ3 H3=>tt σ3 H3 λb H4=>if b=true then te σ3 H4 (λv H5=>∃ys,H5 D=some (.lst ys)/\ys.length < S6/\Pv (i+1) σ3 (upd H5 D (.lst (ys++ [v])))) else Pv (i+1) σ3 H4)
  (hd:∀σ H,Pv kvs.length σ H->R H):
  ∃W:Nat->Nat->St->Hp->Prop,(∃m,W 0 m σ H)/\∀i m σ' H',W i m σ' H'->((Iti a o kvs).stop i H'/\R H')\/((Iti a o kvs).go i H'/\∃N:St->Hp->Prop,(∀σ2 H2,N σ2 H2->∃m',m' < m/\W (i+1) m' σ2 H2)/\
   ∀x H2,(Iti a o kvs).yld i H' x H2->g x σ' H2 λσ3 H3=>tt σ3 H3 λb H4=>if b=true then te σ3 H4 (λv H5=>∃ys,H5 D=some (.lst ys)/\ys.length < S6/\N σ3 (upd H5 D (.lst (ys++ [v])))) else N σ3 H4):=by
 refine ⟨λi m σ H=>m=kvs.length - i/\i<=kvs.length/\Pv i σ H,⟨kvs.length,by simp,yw _,h0⟩,?_⟩;rintro i m σ H ⟨rfl,hi,p⟩;have q:=hl i σ H hi p;by_cases hlt:i < kvs.length
 ·refine .inr ⟨⟨q,hlt⟩,Pv (i+1),λσ' H' p'=>⟨kvs.length - (i+1),by omega,rfl,hlt,p'⟩,λx H' y=>?_⟩;obtain ⟨T,k,u,hT,rfl,y,rfl⟩:=y;exact hs i k u σ _ T y p hT
 ·have e:i=kvs.length:=by omega
  subst e;exact .inl ⟨⟨q,yg _⟩,hd σ H p⟩
end
section
variable {prog:S7} {w:S9} {A:Sa} {E:S2->S3->Prop} {s:S3} {a:S1} {its:Array S2} {n:Nat}
end
section
variable {prog:S7} {w:S9} {K:Type} [DecidableEq K] {knd:KeyKind prog w K} {A:Sa}
end
theorem Jwn (r:Paired F l₁ l₂):∀{i:Nat} {y},l₂[i]?=some y->∃x,l₁[i]?=some x/\F x y:=by
 induction r with
 |nil=>intro i y h;simp at h
 |cons h t ih=>
  intro i y e;cases i with
  |zero=>simp at e;subst e;exact ⟨_,rfl,h⟩
  |succ j=>exact ih (by simpa using e)
inductive Sv3 (K:Sd) (xs:List V) (H:Hp) (Q:VK):Prop where
 |mk (a:S1) (bs:List Bool) (_:xs= [.ref a]) (_:Ss K H a (bs.map V.bl)) (_:Q (.bl (bs.any id)) H)
theorem Jzw {K} (hK:X.K=K) (hc:X.calm=true):Jla X (.builtin "any") (Sv3 K):=by
 subst hK;rintro pins s σ H xs us Q I r ⟨a,bs,rfl,hq,q⟩;obtain ⟨u,rfl,ru⟩:=Jlz r;cases ru;obtain ⟨its,rv,pl,hz⟩:=I.list hq;have hlen:=rv.length;refine call_any_walk (wpAny_pyIter_list pl.isList ⟨s.heap.objs.size,[s.heap.objs.size,a],[s.heap.objs.size],its.toArray.size,_,_,λi=>bs.getD i false,rfl,Walks.list (A:=X.A.in1) (I.ok.hd hc) s.heap.objs.size a ?_ its.toArray,⟨⟨_,yn _ rfl,rfl,rfl⟩,pl.isList.at λo e=>yh _ e⟩,?_,λh' tk k=>?_⟩)
 ·obtain ⟨o,_,e,_⟩:=pl;exact yt (yi e)
 ·intro i v s' Q' E' hv hq';have hv':=by simpa using hv
  have hi:=(yk.mp hv').1;have hb:i < bs.length:=by rw [yf] at hlen;omega
  obtain ⟨u',hu',ru'⟩:=rv.get (by rw [ym,yj hb];rfl);rw [hv'] at hu';cases hu';cases ru';refine wpAny_truthy_bool ?_;have:bs.getD i false=bs[i]:=by rw [ybr,yj hb];rfl
  rw [<-this];exact hq'
 ·have e:((yay its.toArray.size).any λi=>bs.getD i false)=bs.any id:=by
   have hl2:its.toArray.size=bs.length:=by rw [yf] at hlen;rw [yp];exact hlen.symm
   rw [hl2,Bool.eq_iff_iff,List.any_eq_true,List.any_eq_true];constructor
   ·rintro ⟨i,hi,hh⟩;have hi':=ybi.mp hi;rw [ybr,yj hi'] at hh;exact ⟨_,ybn hi',hh⟩
   ·rintro ⟨b,hb,hh⟩;obtain ⟨i,hi,rfl⟩:=List.getElem_of_mem hb;refine ⟨i,ybi.mpr hi,?_⟩;rw [ybr,yj hi];exact hh
  rw [e];exact ⟨.bl _,H,I.kept λb o e=>k b o (λz=>by
   have z':=by simpa using z
   exact absurd (yi e) (by rw [z'];exact yaq _)) (yh _ e),rfl,q⟩
theorem Yd2 (e:xs.length=n) (h:ItemsOf P acc n) (hP:∀i v,i < n->P i v->∃x,xs[i]?=some x/\Su x v):Sv xs acc.toList:=by
 obtain ⟨h1,h2⟩:=h;have go:∀xs l,xs.length=l.length->(∀(i:Nat) v,l[i]?=some v->∃x,xs[i]?=some x/\Su x v)->Sv xs l:=by
  intro xs
  induction xs with
  |nil=>
   intro l e _;cases l with
   |nil=>exact .nil
   |cons _ _=>simp at e
  |cons x xs ih=>
   intro l e hl;cases l with
   |nil=>simp at e
   |cons v l=>
    obtain ⟨y,e1,r1⟩:=hl 0 v rfl;simp at e1;subst e1;exact .cons r1 (ih l (by simpa using e) λi v' e'=>by simpa using hl (i+1) v' (by simpa using e'))
 refine go xs acc.toList (by simp only [ybx];exact e.trans h1.symm) λi v e'=>?_;have e2:acc[i]?=some v:=by rw [<-ycm];exact e'
 exact hP i v (by have:=(ybw.mp e2).1;omega) (h2 i v e2)
theorem Jmw (hc:X.calm=true):Jla X (.type "list") (λxs H Q=>∃p i j,xs= [V.ref p]/\H p=some (.rng i j)/\ -1000<=i/\i<=1000/\ -1000<=j/\j<=1000/\
  ∀l,H l=none->Q (.ref l) (upd H l (.lst ((yay (j - i).toNat).map λk:Nat=>V.int (i+k))))):=by
 rintro pins s σ H xs us Q I r ⟨p,i,j,rfl,hp,h1,h2,h3,h4,q⟩;obtain ⟨u,rfl,r2⟩:=Jlz r;obtain rfl:u=Value.ref p:=r2;obtain ⟨t,u,v,e⟩:=(I.hok p _ hp);refine call_list_range (n:=(j - i).toNat) (I.ok.hd hc) e (small_one (by omega) (by omega) (by omega) (by omega)) (by rw [rangeSize_one];split <;> omega) (by omega) λh' tk acc c kp hl hI=>?_;have rv:Sv ((yay (j - i).toNat).map λk:Nat=>V.int (i+k)) acc.toList:=by
  refine Yd2 (by simp) hI λk w' lt hw=>?_;obtain ⟨t,rfl⟩:=hw;exact ⟨.int (i+k),by simp [lt],t,by simp⟩
 refine ⟨.ref s.heap.objs.size,_,I.laid (o:=.lst _) kp (yg _) ⟨?_,acc.toList,c,rv,by simpa using hl⟩,rfl,q _ (I.hok.fresh (yg _))⟩;rw [sizeLine_eq,yf,List.length_range];omega
section
variable {prog:S7} {w:S9} {K:Type} [DecidableEq K] {knd:KeyKind prog w K} {A:Sa} {E:S2->S3->Prop} {s:S3} {b:Bool}
end
section
variable {prog:S7} {w:S9} {A:Sa} {R:Result->S3->Prop} {I:S1} {fp wr:List S1} {n:Nat} {P:Nat->S2->Prop} {St:Nat->Sb->Prop}
end
section
variable {prog:S7} {w:S9} {A:Sa} {E:S2->S3->Prop} {s:S3}
end
section
variable {M:Model} {A:Sa} {E:S2->S3->Prop} {s:S3}
end
section
variable {prog:S7} {w:S9} {A:Sa} {E:S2->S3->Prop} {s:S3} {it a T:S1} {i ep slot next p m:Nat} {x:S2} {h0:Int} {tk:Tok} {o oT:Obj} {es:Array (Int×S2)} {t:SetTable} {ps:Array S2} {Q:Option S2->S3->Prop}
end
section
variable {prog:S7} {w:S9} {A:Sa} {E:S2->S3->Prop} {s:S3} {it a:S1} {i ep slot:Nat} {o:Obj} {es:Array (Int×S2)} {t:SetTable}
end
section
variable {prog:S7} {w:S9} {A:Sa} {E:S2->S3->Prop} {s:S3} {it a:S1}
end
section
variable {prog:S7} {w:S9} {A:Sa} {it a T:S1} {ep m:Nat} {o oT:Obj} {es:Array (Int×S2)} {t:SetTable} {ps:Array S2}
end
section
variable {prog:S7} {w:S9} {A:Sa} {E:S2->S3->Prop} {s:S3} {a:S1} {ep:Nat} {o:Obj} {es:Array (Int×S2)} {t:SetTable}
end
end L2
namespace L2
open PySem PySem.Spec PyProof.Rows PySem.W PySem.Calls
section
variable {prog:S7} {w:S9} {A:Sa} {E:S2->S3->Prop} {s:S3} {a:S1} {ep:Nat} {o:Obj} {es:Array (Int×S2)} {t:SetTable}
end
end L2
namespace L2
open PySem PySem.Spec PyProof.Rows PySem.W
section
variable {X:Cx}
end
theorem Slb:bootBuiltins "any" =some (.builtin "any"):=by decide +kernel
theorem Jrh:bootBuiltins "dict" =some (.type "dict"):=by decide +kernel
theorem Jrp:bootBuiltins "range" =some (.type "range"):=by decide +kernel
section
variable {X:Cx}
theorem Jx1 (hu:X.A.units+64 < cLine):OpR X (compareOp .In) (λy x H Q=>∃a o,x= .ref a/\Shd H a y o/\Q (.bl o.isSome) H):=by
 rintro pins s σ H y x v u Q I ry rx ⟨a,o,rfl,g,q⟩;obtain rfl:u=Value.ref a:=rx;exact Sup (by omega) I g ry λs3 I3=>⟨.bl o.isSome,H,I3,rfl,q⟩
end
section
variable {X:Cx} {CX:CXT} {k j i:Nat} {sp:S1->Sp} {x:Str} {p pos:Pos} {e:Expr} {es:List Expr} {t:TA} {R:St->XK}
end
section
variable {X:Cx} {o i value:Expr} {pos pos':Pos} {td ty tv:TE}
theorem Jz6 (hu:X.A.units+64 < cLine) (ho:PE X o td) (hi:PE X i ty) (hv:PE X value tv) (hs:swapsWith value (some (.Subscript o i pos')) pos.line X.env=pure false):
  PS X (.Assign [.Subscript o i pos'] value pos) (Sk8 td ty tv):=Yc7 (by omega) ho hi hv hs
end
section
variable {P:S7} {w:S9} {H H':Hp} {h:Sb} {a:S1} {o:Obj} {kvs:List (Key×V)}
end
section
variable {X:Cx} {pins:List (S1×Obj)} {σ:St} {H:Hp} {s:S3} {a:S1} {o:Obj} {kvs:List (Key×V)}
inductive Snb (Q:VK) (v:V) (H1:Hp):Prop where
 |mk (a:_) (kvs:_) (_:v= .ref a) (_:H1 a=some (.dK kvs)) (_:∀o,Q v (upd H1 a (.frz o (.dK kvs))))
noncomputable def Svu (te:TE):TE:=λσ H Q=>te σ H (Snb Q)
theorem Yu (he:PE X e te):PE X e (Svu te):=by
 intro pins s σ H Q I h;refine thn (he pins s σ H _ I h) λu s1 zq=>?_;obtain ⟨x,H1,I1,r1,a,kvs,ex,e1,q⟩:=zq;obtain ⟨_,_,vs,_,ob,es,ep,e2,_⟩:=(I1.hok a _ e1);exact ⟨x,_,I1.frz e1 e2,r1,q ob⟩
end
section
variable {prog:S7} {w:S9} {A:Sa} {E:S2->S3->Prop} {s:S3}
end
section
variable {X:Cx}
theorem Jq6:Jla X (.type "range") (λxs H Q=>∃j,xs= [V.int j]/\∀p,H p=none->Q (.ref p) (upd H p (.rng 0 j))):=by
 rintro pins s σ H xs us Q I r ⟨j,rfl,q⟩;obtain ⟨u,rfl,r1⟩:=Jlz r;obtain ⟨t1,rfl⟩:=r1;exact call_range_1 ⟨.ref s.heap.objs.size,_,I.laid (o:=.rng 0 j) (λb o e=>yh _ e) (yg _) ⟨_,_,_,yn _ rfl⟩,rfl,q _ (I.hok.fresh (yg _))⟩
end
section
variable {X:Cx} {x:Str} {np pos:Pos} {C0:S1} {b₀:Stmt} {suite:List Stmt} {rest:List ExceptHandler} {ts:S1->TS} {th:TH}
end
end L2
namespace L2
open PySem PySem.Spec PyProof.Rows
noncomputable def Jmg (e:Expr):Arguments:=match e with
 | .Lambda a _ _ _=>a
 |_=>{posonlyargs:=[],args:=[],vararg:=none,kwonlyargs:=[],kw_defaults:=[],kwarg:=none,defaults:=[]}
noncomputable def Jm6 (e:Expr):Expr:=match e with
 | .Lambda _ b _ _=>b
 |e=>e
noncomputable def Jk6 (e:Expr):Scope:=match e with
 | .Lambda _ _ s _=>s
 |_=>{kind:=.function,names:=[],isGenerator:=false,isCoroutine:=false}
noncomputable def Jp1 (e:Expr):Pos:=match e with
 | .Lambda _ _ _ p=>p
 |_=>⟨0,0,0,0⟩
noncomputable def Lam (f:S1) (qual:Str) (e:Expr) (clos:List (Str×S1)) (c:S1):HO:=
 .ext λh=>∃pm ct:S2,h.get? f=some {cls:=.type "function",data:=.func (PySem.W.kla_fn "<lambda>" qual (Jmg e) (Jm6 e) (Jk6 e) clos pm (.ref c) ct)}
theorem Jvk
  (q:h.get? f=some {cls:=.type "function",data:=.func (PySem.W.kla_fn "<lambda>" qual (Jmg e) (Jm6 e) (Jk6 e) clos pm (.ref c) ct)}):Sac P w H h f (Lam f qual e clos c):=
 ⟨⟨pm,ct,q⟩,⟨_,q⟩,λ_ _ ⟨p,t,z⟩ k=>⟨p,t,k _ z⟩⟩
section
variable {X:Cx} {pins:List (S1×Obj)} {σ:St} {H:Hp} {s:S3} {M:Model} {A:Sa} {E:S2->S3->Prop} {qual:Str} {e:Expr} {pos:Pos} {firstLine:Nat} {c P:S1} {lb:Array (Nat×Nat×Str)} {clos:List (Str×S1)} {Q:S2->S3->Prop}
theorem Yi (I:Sm X pins σ H s) (hcd:X.env.code= .ref c) (C:PySem.W.CodeHd X.base c P) (B:Bmn X.mg X.base) (ht:H P=some (.tbl lb)) (hm:(pos.line,pos.col,qual)∈lb) (hu:∀q,(pos.line,pos.col,q)∈lb->q=qual)
  (hcl:closureFor (Jk6 e) X.env=pure clos)
  (h:∀s' f c' H',Sm X pins σ H' s'->Si H H'->H f=none->H' f=some (Lam f qual e clos c')->H' c'=some (.cod qual)->Q (.ref f) s'):
  Sc M A (makeFunction "<lambda>" qual (Jmg e) (.expr (Jm6 e)) (Jk6 e) X.env [] [] [] pos firstLine) Q E s:=by
 obtain ⟨ts,eP,tr⟩:=I.hok P _ ht;have hg:=I.mod.glob.keeps I.bk;have CH:=C.keeps I.bk;have hgP:mainGlobals≠P:=λz=>by
  obtain ⟨o,es,ep,e1,e2,_⟩:=hg;rw [z,eP] at e1;cases e1;cases e2
 have BA:s.heap.BuiltinsAt X.mg P:=by
  obtain ⟨bm,ob,b1,b2,b3,b4,b5,b6⟩:=B;have b3':=I.bk _ _ b3;refine ⟨bm,ob,b1,b2,λz=>?_,λz=>?_,b3',b4,b5,b6⟩
  ·obtain ⟨o,es,ep,e1,e2,_⟩:=hg;rw [<-z,b3'] at e1;cases e1;rw [b6] at e2;cases e2
  ·rw [z,eP] at b3';cases b3';cases b4
 cases hq:codeAmong pos ts.toList with
 |some v=>
  obtain ⟨q,a,m1,rfl,m2⟩:=tr.hit hq;obtain rfl:=hu q m1;refine PySem.W.kla_makeFunctionHit hcl I.ok.glob hg hcd CH eP tr.triples hq BA λctv h' tk hk hsz=>?_;have hf:=I.hok.fresh hsz;have J:=I.laid (t':=tk) (h':=h'.push {cls:=.type "function",data:=.func (PySem.W.kla_fn "<lambda>" q (Jmg e) (Jm6 e) (Jk6 e) clos ((X.mg "__name__").getD .none) (.ref a) ctv)})
   (λb u z=>yh _ (hk b u z)) hsz (Jvk (yn _ rfl))
  exact h _ _ a _ J (Si.upd hf) hf So (by rw [Sy (Jjm m2 hf)];exact m2)
 |none=>
  refine PySem.W.kla_makeFunction hcl I.ok.glob hg hcd CH eP tr.triples hq hgP BA λc' ctv h' tk hx hge hlt hrec htb=>?_;have hf:=I.hok.fresh (yae hge (ybj hlt));have nfc:=ybd hlt;have nP:∀b,H b=none->b≠P:=λb z w'=>by rw [w',ht] at z;cases z
  let H':Hp:=upd (upd H c' (.cod qual)) h'.objs.size (Lam h'.objs.size qual e clos c');let o':Obj:={cls:=.type "function",data:=.func (PySem.W.kla_fn "<lambda>" qual (Jmg e) (Jm6 e) (Jk6 e) clos ((X.mg "__name__").getD .none) (.ref c') ctv)};have hS:Si H H':=(Si.upd (I.hok.fresh hge)).trans (Si.upd (by rw [Sy nfc];exact hf));have hkp:∀b o,b≠P->s.heap.get? b=some o->(h'.push o').get? b=some o:=λb o n z=>yh _ (hx b o n z);have hc1:H' c'=some (.cod qual):=by show upd (upd H c' _) _ _ c'=_;rw [Sy (yu nfc),So]
  have bl:∀b o,s.heap.get? b=some o->b≠c'/\b≠h'.objs.size:=λb o z=>by
   have q:=yal (yi z) hge;exact ⟨yt q,yt (Nat.lt_trans q hlt)⟩
  have J:Sm X pins σ H' {s with heap:=h'.push o',toks:=tk}:=by
   refine I.un ⟨λb o z n _ _=>hkp b o (nP b n) z,λb o z n _ _=>⟨o.slots,hkp b o (nP b n) z⟩,λb o z n _=>?_,λb o z _=>?_,λb xs z=>hS _ _ z,λb o u z=>hS _ _ z,λb ps z=>⟨#[],by rw [hS _ _ z];simp⟩⟩ λb u z=>?_
   ·show upd (upd H c' _) _ _ b=none;rw [Sy (bl b o z).2,Sy (bl b o z).1];exact n
   ·by_cases w':b=P
    ·exact ⟨_,by rw [w'];exact yh _ htb⟩
    ·exact ⟨o,hkp b o w' z⟩
   ·by_cases w1:b=h'.objs.size
    ·have z':H' b=some (Lam h'.objs.size qual e clos c'):=by rw [w1];exact So
     rw [z'] at z;cases z;rw [w1];exact Jvk (yn _ rfl)
    ·by_cases w2:b=c'
     ·rw [w2,hc1] at z;cases z;rw [w2];exact hrec.keeps λ_ _ z=>yh _ z
     ·have z':H b=some u:=by
       have:H' b=H b:=by show upd (upd H c' _) _ _ b=_;rw [Sy w1,Sy w2]
       rw [<-this];exact z
      by_cases w3:b=P
      ·rw [w3,ht] at z';cases z';refine ⟨_,by rw [w3];exact yh _ htb,?_⟩;rw [Array.toList_append];exact Scn.snoc hm hc1 (tr.mono λb q z=>hS _ _ z)
      ·refine (I.hok b u z').stay (λc v hc zz=>hkp c v ?_ zz) (λc zz=>hS _ _ zz) (λc xs zz=>hS _ _ zz) λc q zz=>hS _ _ zz;rcases hc with rfl|hc
       ·exact w3
       ·intro w';rw [w',ht] at hc;cases hc
  exact h _ _ c' H' J hS hf So hc1
end
noncomputable def Se8 (H:Hp) (f:S1) (qual:Str) (e:Expr) (caps:List (Str×V)):Prop:=
 ∃(clos:List (Str×S1)) (c:S1),H f=some (Lam f qual e clos c)/\H c=some (.cod qual)/\(∀x y b,clos.lookup x=some b->clos.lookup y=some b->x=y)/\(∀y∈(Jk6 e).names,y.2= .free->∃b,clos.lookup y.1=some b)/\
  (∀x b,clos.lookup x=some b->∃v,Sch H b v)/\∀x v,(x,v)∈caps->∃b,clos.lookup x=some b/\Sch H b v
theorem Se8.same (s:Si H H') (h:Se8 H f qual e caps):Se8 H' f qual e caps:=by
 obtain ⟨clos,c,a,b,d,k1,g,k⟩:=h;exact ⟨clos,c,s _ _ a,s _ _ b,d,k1,λx b z=>(g x b z).elim λv q=>⟨v,q.same s⟩,λx v z=>(k x v z).elim λb q=>⟨b,q.1,q.2.same s⟩⟩
noncomputable def IsL (H:Hp) (f:S1):Prop:=∃qual e clos c,H f=some (Lam f qual e clos c)
theorem Se8.isl (h:Se8 H f qual e caps):IsL H f:=by
 obtain ⟨clos,c,a,_⟩:=h;exact ⟨qual,e,clos,c,a⟩
noncomputable def Sdy (X:Cx) (H:Hp) (caps:List Str) (vs:List V):Prop:=caps.length=vs.length/\∀y∈caps.zip vs,∃b,X.env.cells.lookup y.1=some b/\Sch H b y.2
theorem Sdy.same (s:Si H H') (h:Sdy X H caps vs):Sdy X H' caps vs:=⟨h.1,λy hy=>(h.2 y hy).elim λb q=>⟨b,q.1,q.2.same s⟩⟩
inductive Svw (X:Cx) (P:S1) (lb:Array (Nat×Nat×Str)) (qual:Str) (e:Expr) (caps:List Str) (z0:St) (H:Hp) (Q:VK):Prop where
 |mk (_:H P=some (.tbl lb)) (_:∃vs:List V,Sdy X H caps vs/\∀f H',Si H H'->H f=none->Se8 H' f qual e (caps.zip vs)->Q (.ref f) H')
inductive Svs (X:Cx) (caps:List (Str×Nat)) (t:TS) (D:Sca) (σ:St) (H:Hp):Prop where
 |mk (vs:List V) (_:(∀y∈caps.zip vs,σ[y.1.2]?=some (some y.2))) (_:caps.length=vs.length) (_:∀H',Si H H'->Sdy X H' (caps.map (·.1)) vs->t D σ H')
section
variable {X:Cx} {t:TS} {e:Expr} {l:List Stmt} {qual:Str} {c P:S1} {lb:Array (Nat×Nat×Str)}
theorem Sma (hcap:∀y∈caps,X.N[y.2]?=some y.1/\X.fn y.1=true/\X.env.scope.names.lookup y.1=some .cell) (h:PB (X.fix λx=>(caps.map (·.1)).contains x) l t):PB X l (Svs X caps t):=by
 rintro pins s σ H D I ⟨vs,hvs,hlen,hq⟩;obtain ⟨J,sJ⟩:=I.fix (λx=>(caps.map (·.1)).contains x);refine h pins s σ _ D J (hq _ sJ ⟨by rw [yf];exact hlen,λz hz=>?_⟩);obtain ⟨k,hk⟩:=ybo hz;rw [yck,ym] at hk;obtain ⟨k1,k2⟩:=hk;obtain ⟨y,hy,ey⟩:=yca.mp k1;have my:=yv hy;obtain ⟨c1,c2,c3⟩:=hcap y my;rw [<-ey];exact I.celAt J c1 (hvs (y,z.2) (yv (by rw [yck];exact ⟨hy,k2⟩))) (.inl c3) (List.contains_iff_mem.mpr (yba my)) c2
theorem Smc (n:Nst X.K f₀ c P) (B:Bmn X.mg X.base) (hcd:X.env.code= .ref c) (he:e= .Lambda (Jmg e) (Jm6 e) (Jk6 e) (Jp1 e)) (hd:defaultsOf (Jmg e) X.env=([],[]))
  (hq:X.env.qual++"<lambda>" =qual) (hm:((Jp1 e).line,(Jp1 e).col,qual)∈lb) (hu:∀q,((Jp1 e).line,(Jp1 e).col,q)∈lb->q=qual) (hall:∀y∈(Jk6 e).names,y.2= .free->y.1∈caps)
  (hcap:∀y∈caps,(Jk6 e).names.lookup y=some .free):PE X e (Svw X P lb qual e caps):=by
 rintro pins s σ H Q I ⟨ht,vs,⟨hlen,hvs⟩,h⟩;have cel:∀x∈caps,∃(b:S1) (v:V),X.env.cells.lookup x=some b/\Sch H b v:=λx hx=>by
  obtain ⟨k,hk⟩:=ybo hx;have hk':k < vs.length:=by rw [<-hlen];exact (yk.mp hk).1
  obtain ⟨b,q⟩:=hvs (x,vs[k]) (yv (by rw [yck];exact ⟨hk,yj hk'⟩));exact ⟨b,_,q⟩
 have hfr:∀y∈(Jk6 e).names,y.2= .free->∃b,X.env.cells.lookup y.1=some b:=λy hy hyf=>by
  obtain ⟨b,v,q,_⟩:=cel y.1 (hall y hy hyf);exact ⟨b,q⟩
 have hin:∀x b,(Jln X.env.cells (Jk6 e).names []).lookup x=some b->X.env.cells.lookup x=some b:=λx b e=>Jml _ [] (λx c e=>by simp at e) x b e;rw [he];refine PySem.W.kla_eval hd ?_;rw [hq];refine Yi I hcd (n.code I.mod.kin) B ht hm hu (Jov hfr) λs1 f c' H1 I1 s01 hf hlam hcod=>⟨.ref f,H1,I1,rfl,h f H1 s01 hf ⟨_,c',hlam,hcod,λx y b h1 h2=>I.ok.inj x y b (hin x b h1) (hin y b h2),λy hy hyf=>?_,λx b z=>?_,λx v z=>?_⟩⟩
 ·have hh:=Jm0 (Jk6 e).names [] (by rw [<-hyf];exact hy) (hfr y hy hyf);exact ybz.mp hh
 ·obtain ⟨b',v,e1,e2⟩:=cel x (hall (x,.free) (Jmt (Jk6 e).names [] z (by simp)) rfl);have e3:=hin _ _ z;rw [e1] at e3;cases e3;exact ⟨v,e2.same s01⟩
 ·obtain ⟨b,e1,e2⟩:=hvs (x,v) z;obtain ⟨b',hb'⟩:=ybz.mp (Jm0 (Jk6 e).names [] (PySem.mem_of_lookup (hcap x (yby z).1)) ⟨b,e1⟩);have e3:=hin _ _ hb';rw [e1] at e3;cases e3;exact ⟨b,hb',e2.same s01⟩
end
structure Jv4 (P:S7) (w:S9) (K:Sd) (mg:Str->Option S2) (base:Sb) (CX:CXT) (k:Nat) (f:S1) (sp:Sp):Prop where
 isl:∀vs H Q E,sp vs H Q E->IsL H f
 run:∀(A:Sa) (outer:List Env) (s:S3) (H:Hp) (us:List S2) (vs:List V) (Q:VK) (E:XK),Sai k A->Ser P w K mg base A outer s H->Sv vs us->sp vs H Q E->codeAny (model P w) A (.call (.ref f) ⟨us,[]⟩) (CR CX outer P w H s Q E) s
inductive Yah (qual:Str) (e:Expr) (fr:List Str) (sp:List V->Sp) (f:S1) (vs:List V) (H:Hp) (Q:VK) (E:XK):Prop where
 |mk (cs:_) (_:Se8 H f qual e (fr.zip cs)) (_:sp cs vs H Q E)
theorem Slw {K} (S:Jpd N ps fr (Jk6 e))
  (hb:∀clos pm c ct us,us.length=ps.length->bindArgs (PySem.W.kla_fn "<lambda>" qual (Jmg e) (Jm6 e) (Jk6 e) clos pm (.ref c) ct) ⟨us,[]⟩=pure (ps.zip us))
  (len:∀cs vs H Q E,sp cs vs H Q E->vs.length=ps.length/\cs.length=fr.length)
  (hbody:∀f c clos A outer s H vs cs Q E,Sai k (A.deeper (PySem.W.envX qual (Jk6 e) s.heap.objs.size f (.ref c) (cellsFrom (s.heap.objs.size+1) (Jk6 e).names []++clos)))->sp cs vs H Q E->
   ∃t,PE (Jxo CX P w K mg base N qual (Jk6 e) clos f (.ref c) A outer s H E) (Jm6 e) t/\t (start N (vs++cs)) H Q) (f):
  Jv4 P w K mg base CX (k+1) f (Yah qual e fr sp f):=by
 refine ⟨λvs H Q E ⟨cs,h,_⟩=>h.isl,λA outer s H us vs Q E hr e0 r zq=>?_⟩;obtain ⟨cs,⟨clos,c,h1,h2,h3,h4,h5,h6⟩,hsp⟩:=zq;obtain ⟨hl,hlc⟩:=len _ _ _ _ _ hsp;have hlu:us.length=ps.length:=by rw [<-r.length];exact hl
 obtain ⟨⟨pm,ct,ho⟩,_⟩:=e0.hok f _ h1;refine PySem.W.kla_callFunE hr.depth ho rfl S.co S.gen rfl (e0.hok c _ h2) ?_;rw [hb clos pm c ct us hlu];refine S5 (Ybt S.kind (λ⟨y,v⟩ hy=>?_) λenv he s1 z=>?_)
 ·exact (S.par y (yby hy).1).imp id λq=>⟨q,PySem.W.cellsFrom_some _ _ _ (.inl q)⟩
 subst he;refine ⟨(e0.mod.nolimit.keeps λb o e=>(e0.bs b o e).1).keeps z.toInCall.keep,PySem.W.kla_codeExpr ?_⟩;obtain ⟨t,ht,hq⟩:=hbody f c clos A outer s H vs cs Q E (hr.deeper _) hsp;refine wpAny_mono (ht [] s1 (start N (vs++cs)) H Q (Jwr S hr.hd e0 hl hlc r h3 h4 h5 h6 z) hq) (λu s' hs=>?_) λe s' hs=>hs;obtain ⟨v,H',J,rv,q⟩:=hs;exact ⟨v,H',J.os,J.bare,J.base,J.hok,rv,q⟩
section
variable {X:Cx} {CX:CXT} {k j:Nat} {sp:S1->Sp} {x:Str} {p pos:Pos} {e:Expr} {es:List Expr} {t:TA}
theorem Yr (G:∀f,Jv4 X.prog X.w X.K X.mg X.base CX0 k f (sp f)) (hr:Sai j X.A) (hk:k<=j) (i) (ha:PA X (e::es) t) (hN:X.N[i]?=some x:=by rfl) (hv:Vis X.env.scope x:=by first|exact ye rfl|exact yak (ye rfl)|exact yak (yak rfl))
  (hd:(x==("__debug__" :Str))=false:=by decide) (hcd:(x==("__classdict__" :Str))=false:=by decide) (he:starEach (e::es) X.env=(false,eval e X.env)::starEach es X.env:=by rfl) (hpl:(backTo pos (starEach es X.env)).any (·.1)=false:=by rfl):
  PE X (.Call (.Name x p) (e::es) [] pos) (Yaq i sp (λ_=>E0) t):=by
 rintro pins s σ H Q I ⟨f,hf,h⟩;refine wpAny_Call_Name_kw (thn (Jx3 hN hv hd hcd pins s σ H (λv H'=>v= .ref f/\H'=H) I ⟨_,hf,rfl,rfl⟩) λu s1 zq=>?_);obtain ⟨v,H',I1,r,e1,e2⟩:=zq;subst e1 e2;cases r;have hat:∀{s2:S3} {H2:Hp},Sm X pins σ H2 s2->IsL H2 f->PySem.W.FnAt f s2.heap:=λJ ⟨qual,e,clos,c,z⟩=>by
  obtain ⟨⟨pm,ct,q⟩,_⟩:=J.hok f _ z;exact ⟨_,_,_,_,q⟩
 rw [he];refine PySem.W.callWith_of (by show ((false||(backTo pos (starEach es X.env)).any (·.1))||false)=false;rw [hpl];rfl) PySem.W.keeps_F (Calls.evalArgs_plain ?_);have ha':=ha pos pins s1 σ H' _ I1 h;rw [he] at ha';refine thn ha' λus s2 ⟨vs,H2,I2,r2,q2⟩=>⟨hat I2 ((G f).isl _ _ _ _ q2),wpAny_call (codeAny_mono ((G f).run X.A X.stack s2 H2 us vs Q E0 (hr.mono hk) I2.env0 r2 q2) λr s' hq=>?_)⟩;cases r with
 |error e=>exact hq.elim
 |ok fl=>
  cases fl with
  |ret u=>exact I2.after hq
  |next=>exact False.elim hq
  |brk=>exact False.elim hq
  |cont=>exact False.elim hq
end
theorem Ybn {K} (S:Jpd N ps fr (Jk6 e))
  (hb:∀clos pm c ct us,us.length=ps.length->bindArgs (PySem.W.kla_fn "<lambda>" qual (Jmg e) (Jm6 e) (Jk6 e) clos pm (.ref c) ct) ⟨us,[]⟩=pure (ps.zip us))
  (len:∀cs vs H Q E,sp cs vs H Q E->vs.length=ps.length/\cs.length=fr.length)
  (hbody:∀f c clos A outer s H vs cs Q E,Sai k (A.deeper (PySem.W.envX qual (Jk6 e) s.heap.objs.size f (.ref c) (cellsFrom (s.heap.objs.size+1) (Jk6 e).names []++clos)))->sp cs vs H Q E->
   ∃t,PE (Jxo CX0 P w K mg base N qual (Jk6 e) clos f (.ref c) A outer s H E).nox (Jm6 e) t/\t (start N (vs++cs)) H Q) (f):Jv4 P w K mg base CX0 (k+1) f (Yah qual e fr sp f):=
 Slw S hb len (λf c clos A outer s H vs cs Q E hr h=>(hbody f c clos A outer s H vs cs Q E hr h).elim λt q=>⟨t,q.1.nox,q.2⟩) f
theorem lvS (u:List S2) (e:u.length=n+1):∃a r,u=a::r/\r.length=n:=by
 cases u with
 |nil=>cases e
 |cons a r=>exact ⟨a,r,rfl,Nat.succ.inj e⟩
theorem lv1 (u:List S2) (e:u.length=1):∃a,u= [a]:=by
 obtain ⟨a,r,rfl,z⟩:=lvS u e;cases r with
 |nil=>exact ⟨a,rfl⟩
 |cons b r=>cases z
theorem lv2 (u:List S2) (e:u.length=2):∃a b,u= [a,b]:=by
 obtain ⟨a,r,rfl,z⟩:=lvS u e;obtain ⟨b,rfl⟩:=lv1 r z;exact ⟨a,b,rfl⟩
theorem lv3 (u:List S2) (e:u.length=3):∃a b c,u= [a,b,c]:=by
 obtain ⟨a,r,rfl,z⟩:=lvS u e;obtain ⟨b,c,rfl⟩:=lv2 r z;exact ⟨a,b,c,rfl⟩
theorem lv4 (u:List S2) (e:u.length=4):∃a b c d,u= [a,b,c,d]:=by
 obtain ⟨a,r,rfl,z⟩:=lvS u e;obtain ⟨b,c,d,rfl⟩:=lv3 r z;exact ⟨a,b,c,d,rfl⟩
theorem lv5 (u:List S2) (e:u.length=5):∃a b c d f,u= [a,b,c,d,f]:=by
 obtain ⟨a,r,rfl,z⟩:=lvS u e;obtain ⟨b,c,d,f,rfl⟩:=lv4 r z;exact ⟨a,b,c,d,f,rfl⟩
theorem lv6 (u:List S2) (e:u.length=6):∃a b c d f g,u= [a,b,c,d,f,g]:=by
 obtain ⟨a,r,rfl,z⟩:=lvS u e;obtain ⟨b,c,d,f,g,rfl⟩:=lv5 r z;exact ⟨a,b,c,d,f,g,rfl⟩
theorem lv7 (u:List S2) (e:u.length=7):∃a b c d f g i,u= [a,b,c,d,f,g,i]:=by
 obtain ⟨a,r,rfl,z⟩:=lvS u e;obtain ⟨b,c,d,f,g,i,rfl⟩:=lv6 r z;exact ⟨a,b,c,d,f,g,i,rfl⟩
section
open PySem.Builtin PySem.Builtin.Str
variable {prog:S7} {w:S9} {A:Sa} {E:S2->S3->Prop} {s:S3} {x y:Str} {t u:Tok} {Q:S2->S3->Prop}
end
theorem walk_ofM {l:PySem.W.OpenLaw} {n k} {q} {loose} {XP} {YP} {d} {K:Params->Sd} {CX} {x} {tl:List S1}
  (hn:l.most=some n) (hn2:n<=S6) (hdf:d.params.defaults= []) (hr:Sai k callerA) (hY:∀w h,YP w h->(K w.params).In h) (hTb:∀w h,YP w h->∀P∈tl,h.get? P=some (PySem.W.tabObj #[])) (hK:∀w:S9,PySem.W.noTabs (K w.params)=true)
  (F:∀w mg fa h,(K w.params).In h->h.Ns mainGlobals mg->(∀P∈tl,h.get? P=some (PySem.W.tabObj #[]))->mg d.name=some (.ref fa)->
   ∃(fd:S8) (sp:Sp) (tabs:List (S1×Array (Nat×Nat×Str))),(∀s u,BindsTo s fd ⟨[u],[]⟩ [(x,u)])/\(∀p∈tabs,isCodeTable h p.1/\h.get? p.1=some (PySem.W.tabObj #[]))/\(tabs.map (·.1)).Nodup/\
    (∀base:Sb,(K w.params).In base->base.Ns mainGlobals mg->Bmn mg base->Sr l.prog w (K w.params) mg base CX k fa fd [x] sp)/\
    ∀H a (ns:List Int),ns.length<=n->(∀p∈tabs,H p.1=some (.tbl p.2))->Ss (K w.params) H a (ns.map V.int)->sp [.ref a] H (λv _=>v= .bl true) λ_ _ _=>False)
  (hCX:∀H s e s',CX [] H s (λ_ _ _=>False) e s'->False):
  PySem.W.WalkO q loose XP YP l.row.toRowW d [] (λf vs=>PySem.call f vs):=by
 refine Att.attach_call hn hdf λw s₀ s₁ mg mb fa o pm cd doc a vs ns G Y ho hd hcd hmg hobj hints hlen hg=>?_;have KX:=hY w _ Y;obtain ⟨fd,sp,tabs,hb,hT,hnd,hF,hsp⟩:=F w mg fa _ KX G.T.g (hTb w _ Y) hmg;exact Jyy KX G.T.g G.T.b G.T.builtins G.T.nolimit hg hobj hints (yae hlen hn2) hr hT hnd (hK w) G.T.bmain hF hb (λH h1 h2=>hsp H a ns hlen h1 h2) λH e s'=>hCX H s₁ e s'
theorem tab_km {K} (n:Nst K f c P) (X:K.In h) (e:h.get? P=some (PySem.W.tabObj #[])):isCodeTable h P/\h.get? P=some (PySem.W.tabObj #[]):=⟨((n.code X).tab e).isCodeTable,e⟩
section
variable {X:Cx} {k j:Nat} {f C:S1} {fd:S8} {ps:List Str} {sp:Sp} {R:St->XK} {m:Str} {pos apos:Pos} {o:Expr} {ta:TE}
end
section
variable {X:Cx} {a b:Expr} {rest:List Expr} {pos:Pos} {ta tb:TE}
end
section
variable {X:Cx}
theorem Ys {o i:Expr} {pos:Pos} {td ty:TE} (hu:X.A.units+64 < cLine) (ho:PE X o td) (hi:PE X i ty) (hs:Sl4 i):PE X (.Subscript o i pos) (Skc td ty):=Yc2 (by omega) ho hi hs
end
section
variable {prog:S7} {w:S9} {A:Sa} {E:S2->S3->Prop} {s:S3}
end
end L2
namespace L2
open PySem PySem.Spec PyProof.Rows PySem.W
section
variable {prog:S7} {w:S9} {K:Type} [DecidableEq K] {knd:HeapKind prog w K} {A:Sa}
end
section
variable {X:Cx} {pins:List (S1×Obj)} {σ:St} {H:Hp} {s:S3}
end
end L2
namespace L2
open PySem PySem.Spec PyProof.Rows
theorem Jpw {a b:Expr}:swapsWith (.BinOp a op b p) t l env=pure false:=rfl
end L2
namespace L2
open PySem PySem.Spec PyProof.Rows PySem.W
section
variable {X:Cx}
inductive ipM (x:V) (y:V) (H:Hp) (Q:VK):Prop where
 |mk (i:Int) (j:Int) (_:x= .int i) (_:y= .int j) (_:Sih i j) (_:Q (.int (i*j)) H)
theorem Slo:PIp X .Mult ipM:=by
 rintro pins s σ H x y v u Q I r1 r2 ⟨i,j,e1,e2,hc,q⟩;subst e1;subst e2;obtain ⟨t,rfl⟩:=r1;obtain ⟨t',rfl⟩:=r2;exact imul_int ⟨.int _,H,I.tok _,⟨_,rfl⟩,q⟩ hc.ok
end
section
theorem Sus {K} (X:K.In h) (G:h.Ns mainGlobals mg) {st} {D:S1} {kV ct} {it:Array S2} {m:Nat} {o:Obj} (a:PySem.W.nsIn K mainGlobals q=some (some (.ref f)))
  (l:K.lookup f=some ⟨oc,od,.func (PySem.W.fnOf q q (Jl5 st) (Jkq st) (Jjl st) (.ref D) kV dc pm an cd ct),sl⟩) (c:PySem.W.codeIn K cd q=true) (k:PySem.W.keepIn K (.ref f)=true) (hd:K.lookup D=some o) (ho:o.data= .seq it m)
  (hb:∀us,us.length=ps.length->∃g,bindArgs (PySem.W.fnOf q q (Jl5 st) (Jkq st) (Jjl st) (.ref D) kV dc pm an cd ct) ⟨us,[]⟩=seqItems? (.ref D) >>=g/\g (some it)=pure (ps.zip us)):FT K mg q st ps f (PySem.W.fnOf q q (Jl5 st) (Jkq st) (Jjl st) (.ref D) kV dc pm an cd ct):=by
 refine ⟨PySem.W.mg_of X G a,Ju4 l c k,λs us X' hl=>?_⟩;rw [ybg] at hl⊢;obtain ⟨g,h1,h2⟩:=hb us hl;exact BindsTo.of_defaults rfl (X' _ _ hd) ho h1 h2
theorem Suq {K} {st} {D:S1} {kV ct} {it:Array S2} {m:Nat} {o:Obj}
  (l:K.lookup f=some ⟨oc,od,.func (PySem.W.fnOf n q (Jl5 st) (Jkq st) (Jjl st) (.ref D) kV dc pm an cd ct),sl⟩) (c:PySem.W.codeIn K cd q=true) (k:PySem.W.keepIn K (.ref f)=true) (hd:K.lookup D=some o) (ho:o.data= .seq it m)
  (hb:∀us,us.length=ps.length->∃g,bindArgs (PySem.W.fnOf n q (Jl5 st) (Jkq st) (Jjl st) (.ref D) kV dc pm an cd ct) ⟨us,[]⟩=seqItems? (.ref D) >>=g/\g (some it)=pure (ps.zip us)):FM K n q st ps f (PySem.W.fnOf n q (Jl5 st) (Jkq st) (Jjl st) (.ref D) kV dc pm an cd ct):=by
 refine ⟨Ju4 l c k,λs us X' hl=>?_⟩;rw [ybg] at hl⊢;obtain ⟨g,h1,h2⟩:=hb us hl;exact BindsTo.of_defaults rfl (X' _ _ hd) ho h1 h2
end
section
variable {a:S1}
theorem Jys {o} {kvs:List (Key×V)} {g:TG} {tb:TS} {D:Sca} {σ} {H} (Pv:Nat->St->Hp->Prop) (h0:Pv 0 σ H) (hl:∀i σ H,i<=kvs.length->Pv i σ H->H a=some (.frz o (.dK kvs)))
  (hs:∀i k x σ H T,kvs[i]?=some (k,x)->Pv i σ H->H T=none->g (.ref T) σ (upd H T (.tup [kV k,x])) λσ2 H2=>tb {D with nx:=Pv (i+1),ct:=Pv (i+1),bk:=D.nx} σ2 H2) (hd:∀σ H,Pv kvs.length σ H->D.nx σ H):
  ∃W:Nat->Nat->St->Hp->Prop,(∃m,W 0 m σ H)/\∀i m σ H,W i m σ H->
   ((Iti a o kvs).stop i H/\D.nx σ H)\/((Iti a o kvs).go i H/\∃N:St->Hp->Prop,(∀σ' H',N σ' H'->∃m',m' < m/\W (i+1) m' σ' H')/\∀x H',(Iti a o kvs).yld i H x H'->g x σ H' λσ2 H2=>tb {D with nx:=N,ct:=N,bk:=D.nx} σ2 H2):=by
 refine ⟨λi m σ H=>m=kvs.length - i/\i<=kvs.length/\Pv i σ H,⟨kvs.length,by simp,yw _,h0⟩,?_⟩;rintro i m σ H ⟨rfl,hi,p⟩;have q:=hl i σ H hi p;by_cases hlt:i < kvs.length
 ·refine .inr ⟨⟨q,hlt⟩,Pv (i+1),λσ' H' p'=>⟨kvs.length - (i+1),by omega,rfl,hlt,p'⟩,λx H' y=>?_⟩;obtain ⟨T,k,u,hT,rfl,y,rfl⟩:=y;exact hs i k u σ _ T y p hT
 ·have e:i=kvs.length:=by omega
  subst e;exact .inl ⟨⟨q,yg _⟩,hd σ H p⟩
end
mutual
theorem Sb1.nod {K:Sd} {H:Hp}:∀{x} {d},Sb1 K H x d->d.hasDict=false
 |_,_,.non=>by simp [PyData.hasDict]
 |_,_,.bl b=>by simp [PyData.hasDict]
 |_,_,.int i=>by simp [PyData.hasDict]
 |_,_,.str z=>by simp [PyData.hasDict]
 |_,_,.lst hq hd=>by simp only [PyData.hasDict];exact Sax.nod hd
 |_,_,.tup hq hd=>by simp only [PyData.hasDict];exact Sax.nod hd
theorem Sax.nod {K:Sd} {H:Hp}:∀{xs:List V} {ds:List PyData},Sax K H xs ds->PyData.hasDictAll ds=false
 |_,_,.nil=>by simp [PyData.hasDictAll]
 |_,_,.cons h t=>by simp only [PyData.hasDictAll,Sb1.nod h,Sax.nod t,Bool.or_self]
end
section
variable {X:Cx}
end
noncomputable def OnD (D:S1) (H H':Hp):Prop:=∀q o,(q≠D\/∀xs,o≠ .lst xs)->H q=some o->H' q=some o
noncomputable def MnD {α:Type} (D:S1) (Rel:Hp->V->α->Prop):Prop:=∀H H' v a,OnD D H H'->Rel H v a->Rel H' v a
noncomputable def Sa6 {α:Type} (Rel:Hp->V->α->Prop) (H:Hp) (vs:List V) (as:List α):Prop:=vs.length=as.length/\∀(i:Nat) (v:V) (a:α),vs[i]?=some v->as[i]?=some a->Rel H v a
theorem OnD.same {D:S1} {H H':Hp} (s:Si H H'):OnD D H H':=λq o _ e=>s q o e
theorem OnD.grow {D:S1} {H:Hp} {ys zs:List V} (h:H D=some (.lst ys)):OnD D H (upd H D (.lst zs)):=λq o c e=>by
 have n:q≠D:=by
  rcases c with c|c
  ·exact c
  ·exact λz=>by
    rw [z,h] at e;exact c _ (yah.inj e).symm
 rw [Sy n];exact e
theorem Sa6.on {α:Type} {D:S1} {Rel:Hp->V->α->Prop} {H H':Hp} {vs:List V} {as:List α} (mn:MnD D Rel) (f:OnD D H H') (h:Sa6 Rel H vs as):Sa6 Rel H' vs as:=⟨h.1,λi v a e1 e2=>mn _ _ _ _ f (h.2 i v a e1 e2)⟩
theorem Sa6.snoc {α:Type} {Rel:Hp->V->α->Prop} {H:Hp} {vs:List V} {as:List α} {v:V} {a:α} (h:Sa6 Rel H vs as) (k:Rel H v a):Sa6 Rel H (vs++ [v]) (as++ [a]):=by
 refine ⟨by rw [yx,yx,h.1];rfl,λi x b e1 e2=>?_⟩;have l:=h.1;rw [List.getElem?_append] at e1 e2;by_cases c:i < vs.length
 ·rw [if_pos c] at e1;rw [if_pos (by lia)] at e2;exact h.2 i x b e1 e2
 ·rw [if_neg c] at e1;rw [if_neg (by lia),<-l] at e2;cases ei:i - vs.length with
  |zero=>
   rw [ei] at e1 e2;cases e1;cases e2;exact k
  |succ j=>
   rw [ei] at e1;simp at e1
theorem Sa6.nil {α:Type} {Rel:Hp->V->α->Prop} {H:Hp}:Sa6 Rel H [] []:=⟨rfl,λi v a e=>by simp at e⟩
theorem Sa6.at {α:Type} {Rel:Hp->V->α->Prop} {H:Hp} {vs:List V} {as:List α} {i:Nat} {v:V} (h:Sa6 Rel H vs as) (e:vs[i]?=some v):∃a,as[i]?=some a/\Rel H v a:=by
 have hi:i < vs.length:=(yk.mp e).1;have l:=h.1;exact ⟨as[i],yj _,h.2 i v _ e (yj (by lia))⟩
theorem Sa6.imp {α:Type} {Rel Rel':Hp->V->α->Prop} {H H':Hp} {vs:List V} {as:List α} (f:∀v a,Rel H v a->Rel' H' v a) (h:Sa6 Rel H vs as):Sa6 Rel' H' vs as:=⟨h.1,λi v a e1 e2=>f v a (h.2 i v a e1 e2)⟩
theorem Sa6.append {α:Type} {Rel:Hp->V->α->Prop} {H:Hp} {vs us:List V} {as bs:List α} (h:Sa6 Rel H vs as) (k:Sa6 Rel H us bs):Sa6 Rel H (vs++us) (as++bs):=by
 refine ⟨by rw [yx,yx,h.1,k.1],λi v r e1 e2=>?_⟩;have l:=h.1;rw [List.getElem?_append] at e1 e2;by_cases c:i < vs.length
 ·rw [if_pos c] at e1;rw [if_pos (by lia)] at e2;exact h.2 i v r e1 e2
 ·rw [if_neg c] at e1;rw [if_neg (by lia),<-l] at e2;exact k.2 _ v r e1 e2
theorem Sa6.one {α:Type} {Rel:Hp->V->α->Prop} {H:Hp} {v:V} {a:α} (k:Rel H v a):Sa6 Rel H [v] [a]:=Sa6.snoc .nil k
theorem all_cons {α:Type} {Pr:α->Prop} {a:α} {l:List α} (h:Pr a) (k:∀y∈l,Pr y):∀y∈a::l,Pr y:=λy hy=>by
 rcases yr.mp hy with e|m
 ·rw [e];exact h
 ·exact k y m
section
variable {α:Type} {K:Sd} {a D:S1} {xs:List V} {te:TE} {R:Hp->Prop} {H:Hp} {o:Option V} {rest:St}
theorem Sjz {Rel:Hp->V->α->Prop} {as:List α} {i:Nat} {y:α} {vs:List V} {v:V} {H' H5:Hp} (mn:MnD D Rel) (hD:H D=none) (ey:as[i]?=some y) (hDs:H' D=some (.lst vs)) (rg:Sa6 Rel H' vs (as.take i)) (sm:Si H H') (s5:Si H' H5) (r:Rel H5 v y):
  upd H5 D (.lst (vs++ [v])) D=some (.lst (vs++ [v]))/\Sa6 Rel (upd H5 D (.lst (vs++ [v]))) (vs++ [v]) (as.take (i+1))/\Si H (upd H5 D (.lst (vs++ [v]))):=by
 refine ⟨So,?_,λc u z=>?_⟩
 ·rw [yad,ey];have f:=OnD.grow (zs:=vs++ [v]) (s5 _ _ hDs);exact Sa6.on mn f (Sa6.snoc (rg.on mn (OnD.same s5)) r)
 ·rw [Sy (Jjm z hD)];exact s5 _ _ (sm _ _ z)
theorem Jrt (Rel:Hp->V->α->Prop) (as:List α) (mn:MnD D Rel) (hD:H D=none) (el:as.length=xs.length) (sz:xs.length<=2000) (hq:H a=some (.lst xs))
  (he:∀(i:Nat) x y H' Q,xs[i]?=some x->as[i]?=some y->Si H H'->(∃vs,H' D=some (.lst vs))->(∀v H5,Si H' H5->Rel H5 v y->Q v H5)->te (some x::rest) H' Q)
  (hd:∀vs H',Si H H'->H' D=some (.lst vs)->Sa6 Rel H' vs as->R H'):
  ∃W:Nat->Nat->St->Hp->Prop,(∃m,W 0 m (o::rest) (upd H D (.lst [])))/\∀i m σ' H',W i m σ' H'->((Itl K a).stop i H'/\R H')\/((Itl K a).go i H'/\∃N:St->Hp->Prop,(∀σ2 H2,N σ2 H2->∃m',m' < m/\W (i+1) m' σ2 H2)/\
   ∀x H2,(Itl K a).yld i H' x H2->Jly 0 x σ' H2 λσ3 H3=>Jsl σ3 H3 λb H4=>if b=true then te σ3 H4 (λv H5=>∃ys,H5 D=some (.lst ys)/\ys.length < S6/\N σ3 (upd H5 D (.lst (ys++ [v])))) else N σ3 H4):=by
 refine Jl3 (λi σ H'=>(∃o,σ=o::rest)/\∃vs,H' D=some (.lst vs)/\Sa6 Rel H' vs (as.take i)/\Si H H') ⟨⟨_,rfl⟩,[],So,.nil,Si.upd hD⟩ (λi σ H' _ ⟨_,_,_,_,sm⟩=>Ss.of (sm _ _ hq)) ?_ ?_
 ·rintro i x σ H' hx ⟨⟨o,rfl⟩,vs,hDs,rg,sm⟩;have hi:i < as.length:=by rw [el];exact (yk.mp hx).1
  have l:=rg.1;rw [yaf] at l;exact Jkp (he i x as[i] H' _ hx (yj hi) sm ⟨_,hDs⟩ λv H5 s5 r=>⟨_,s5 _ _ hDs,Jkc (by lia),⟨_,rfl⟩,_,Sjz mn hD (yj hi) hDs rg sm s5 r⟩)
 ·rintro σ H' ⟨_,vs,hDs,rg,sm⟩;rw [yaj (by lia)] at rg;exact hd vs H' sm hDs rg
theorem Jt9 {lo:Int} {n:Nat} (Rel:Hp->V->α->Prop) (as:List α) (mn:MnD D Rel) (hD:H D=none) (el:as.length=n) (sz:n<=2000)
  (he:∀(i:Nat) y H' Q,as[i]?=some y->Si H H'->(∃vs,H' D=some (.lst vs))->(∀v H5,Si H' H5->Rel H5 v y->Q v H5)->te (some (.int (lo+i))::rest) H' Q)
  (hd:∀vs H',Si H H'->H' D=some (.lst vs)->Sa6 Rel H' vs as->R H'):
  ∃W:Nat->Nat->St->Hp->Prop,(∃m,W 0 m (o::rest) (upd H D (.lst [])))/\∀i m σ' H',W i m σ' H'->((Itr lo n).stop i H'/\R H')\/((Itr lo n).go i H'/\∃N:St->Hp->Prop,(∀σ2 H2,N σ2 H2->∃m',m' < m/\W (i+1) m' σ2 H2)/\
   ∀x H2,(Itr lo n).yld i H' x H2->Jly 0 x σ' H2 λσ3 H3=>Jsl σ3 H3 λb H4=>if b=true then te σ3 H4 (λv H5=>∃ys,H5 D=some (.lst ys)/\ys.length < S6/\N σ3 (upd H5 D (.lst (ys++ [v])))) else N σ3 H4):=by
 refine Jp0 (λi σ H'=>(∃o,σ=o::rest)/\∃vs,H' D=some (.lst vs)/\Sa6 Rel H' vs (as.take i)/\Si H H') ⟨⟨_,rfl⟩,[],So,.nil,Si.upd hD⟩ ?_ ?_
 ·rintro i σ H' hx ⟨⟨o,rfl⟩,vs,hDs,rg,sm⟩;have hi:i < as.length:=by lia
  have l:=rg.1;rw [yaf] at l;exact Jkp (he i as[i] H' _ (yj hi) sm ⟨_,hDs⟩ λv H5 s5 r=>⟨_,s5 _ _ hDs,Jkc (by lia),⟨_,rfl⟩,_,Sjz mn hD (yj hi) hDs rg sm s5 r⟩)
 ·rintro σ H' ⟨_,vs,hDs,rg,sm⟩;rw [yaj (by lia)] at rg;exact hd vs H' sm hDs rg
theorem Jyk {tt:TT} (Rel:Hp->V->α->Prop) (as:List α) (pr:α->Bool) (mn:MnD D Rel) (hD:H D=none) (rg:Sa6 Rel H xs as) (sz:xs.length<=2000) (hq:H a=some (.lst xs))
  (ht:∀(i:Nat) x y H' (Q:Bool->Hp->Prop),as[i]?=some y->Rel H' x y->Q (pr y) H'->tt (some x::rest) H' Q)
  (hd:∀vs H',Si H H'->H' D=some (.lst vs)->Sa6 Rel H' vs (as.filter pr)->R H'):
  ∃W:Nat->Nat->St->Hp->Prop,(∃m,W 0 m (o::rest) (upd H D (.lst [])))/\∀i m σ' H',W i m σ' H'->((Itl K a).stop i H'/\R H')\/((Itl K a).go i H'/\∃N:St->Hp->Prop,(∀σ2 H2,N σ2 H2->∃m',m' < m/\W (i+1) m' σ2 H2)/\
   ∀x H2,(Itl K a).yld i H' x H2->Jly 0 x σ' H2 λσ3 H3=>tt σ3 H3 λb H4=>if b=true then Sj9 0 σ3 H4 (λv H5=>∃ys,H5 D=some (.lst ys)/\ys.length < S6/\N σ3 (upd H5 D (.lst (ys++ [v])))) else N σ3 H4):=by
 refine Jl3 (λi σ H'=>(∃o,σ=o::rest)/\∃vs,H' D=some (.lst vs)/\vs.length<=i/\Sa6 Rel H' vs ((as.take i).filter pr)/\Si H H') ⟨⟨_,rfl⟩,[],So,yg 0,.nil,Si.upd hD⟩ (λi σ H' _ ⟨_,_,_,_,_,sm⟩=>Ss.of (sm _ _ hq)) ?_ ?_
 ·rintro i x σ H' hx ⟨⟨o,rfl⟩,vs,hDs,vl,r,sm⟩;have hi:=(yk.mp hx).1;obtain ⟨y,ey,ry⟩:=rg.at hx;have ry':=mn _ _ _ _ (OnD.same sm) ry;rw [yad,ey,List.filter_append];refine ht i x y H' _ ey ry' ?_;cases c:pr y with
  |true=>
   have f:=OnD.grow (zs:=vs++ [x]) hDs;refine Jkf ⟨x,rfl,vs,hDs,Jkc (by lia),⟨_,rfl⟩,vs++ [x],So,by rw [yx];exact Nat.succ_le_succ vl,?_,λb u e=>?_⟩
   ·rw [show List.filter pr (some y).toList= [y] from by simp [c]];exact Sa6.on mn f (r.snoc ry')
   ·rw [Sy (Jjm e hD)];exact sm _ _ e
  |false=>
   refine Jk9 ⟨⟨_,rfl⟩,vs,hDs,by lia,?_,sm⟩;rw [show List.filter pr (some y).toList= [] from by simp [c],ybg];exact r
 ·rintro σ H' ⟨_,vs,hDs,vl,r,sm⟩;have l:=rg.1;rw [yaj (by lia)] at r;exact hd vs H' sm hDs r
end
theorem Jv9:bootBuiltins "reversed" =some (.type "reversed"):=by decide +kernel
noncomputable def Shg (K:Sd) (a:S1) (n:Nat):It:=⟨λi H=>i < n/\∃xs,Ss K H a xs/\xs.length=n,λi H x H'=>H'=H/\∀xs,Ss K H a xs->xs[n - 1 - i]?=some x,λi _=>i=n⟩
theorem Yax {K} (a it) (n:Nat):Turn P w K tg (Shg K a n) [it] it (λi h=>h.IsRevIter it a ((n:Int) - 1 - i)) where
 mem:=by simp
 obj:=λi h st b hb=>by
  have e:=by simpa using hb
  subst e;obtain ⟨o,e,c,d⟩:=st;exact ⟨o,e,λv z=>by rw [d] at z;cases z⟩
 keep:=λi h h' st k=>st.at λo e=>k it (by simp) o e
 item:=by
  intro X hP hw hK hc i pins s σ H E I hf st hg;subst hP hw hK;obtain ⟨hi,xs,hq,hn⟩:=hg;obtain ⟨its,rv,p,hz⟩:=I.list hq;have hx:xs[n - 1 - i]?=some (xs[n - 1 - i]'(by omega)):=yj _;obtain ⟨u,hu,ru⟩:=rv.get hx;obtain ⟨f0,f1,f2,f3,f4,f5⟩:=hf it (by simp);have st0:s.heap.IsRevIter it a ((n:Int) - 1 - i):=st;rw [show (n:Int) - 1 - i=((n - 1 - i:Nat):Int) by omega] at st0;refine wpAny_pyNext_rev_item st0 p.isList (by simpa using hu) λh' st' sb=>?_;have I1:Sm X pins σ H {s with heap:=h'}:=I.turned (λb o hb e=>(sb.2 b hb).trans e) f0 f1 f3 f4 f5;rw [show ((n - 1 - i:Nat):Int) - 1=(n:Int) - 1 - ((i+1:Nat):Int) by omega] at st';obtain ⟨o,e,c,d⟩:=id st';exact ⟨u,rfl,Jrv e c d (by decide) ⟨_,H,I1,ru,⟨rfl,λys hy=>by rw [I.list_inj hy hq];exact hx⟩,st',λb hb=>(hf b hb).1⟩⟩
 done:=by
  intro X hP hw hK hc i pins s σ H E I hf st hg;subst hP hw hK;obtain ⟨f0,f1,f2,f3,f4,f5⟩:=hf it (by simp);have e:i=n:=hg;have st0:s.heap.IsRevIter it a ((n:Int) - 1 - i):=st;rw [show (n:Int) - 1 - i= -1 by omega] at st0;exact wpAny_pyNext_rev_end (I.ok.hd hc) st0 λh' eb=>⟨rfl,I.turned (λb o hb e=>eb b o hb e) f0 f1 f3 f4 f5⟩
 self:=λ_ _ _ _ _ st h=>wpAny_pyIter_revIter st h
section
variable {X:Cx} {tg a:Expr} {p pos:Pos} {ta:TA}
noncomputable def Suv (K:Sd) (ta:TA):TI:=λσ H R=>ta σ H λvs H1=>∃a xs,vs= [.ref a]/\Ss K H1 a xs/\R (Shg K a xs.length) H1
theorem Smd (hg:Gl X "reversed") (hm:X.mg "reversed" =none) (ha:PA X [a] ta) (hs:starEach [a] X.env= [(false,eval a X.env)]:=by rfl):
  PI X tg (.Call (.Name "reversed" p) [a] [] pos) (Suv X.K ta):=by
 intro pins s σ H R I h;refine Call_ (Jny I hg hm Jv9 (PyProof.Rows.callWith_type1 (thn (ha pos pins s σ H _ I h) λus s1 zq=>?_) (by rw [hs];rfl) rfl));obtain ⟨vs,H1,I1,r1,q1⟩:=zq;obtain ⟨l,xs,rfl,q1,q⟩:=q1;obtain ⟨u,rfl,r2⟩:=Jlz r1;obtain rfl:u=Value.ref l:=r2;obtain ⟨its,rv,p1,_⟩:=I1.list q1;have el:=rv.length;refine call_reversed_list p1.isList ?_;have kk:∀b o,s1.heap.get? b=some o->(s1.heap.push (revObj l ((its.toArray.size:Int) - 1))).get? b=some o:=λb o e=>yh _ e;have st:(s1.heap.push (revObj l ((its.toArray.size:Int) - 1))).IsRevIter s1.heap.objs.size l ((xs.length:Int) - 1 - (0:Nat)):=⟨_,yn _ rfl,rfl,by
  show Data.fields #[.ref l,rawInt ((its.toArray.size:Int) - 1)]=_;rw [show ((its.toArray.size:Nat):Int) - 1=(xs.length:Int) - 1 - (0:Nat) by simp only [yp];omega]⟩
 refine wpAny_pyIter_revIter st ⟨s1.heap.objs.size,[s1.heap.objs.size],_,_,H1,rfl,I1.kept kk,Yax l _ _,st,λb hb=>?_,q⟩;have e:=by simpa using hb
 subst e;exact I1.fpOk (yg _) (I1.hok.fresh (yg _))
end
theorem Ybg {K} {a} {xs} {g:TG} {tb:TS} {D:Sca} {σ} {H} (Pv:Nat->St->Hp->Prop) (h0:Pv 0 σ H) (hl:∀i σ H,i<=xs.length->Pv i σ H->Ss K H a xs)
  (hs:∀i x σ H,i < xs.length->xs[xs.length - 1 - i]?=some x->Pv i σ H->g x σ H λσ2 H2=>tb {D with nx:=Pv (i+1),ct:=Pv (i+1),bk:=D.nx} σ2 H2) (hd:∀σ H,Pv xs.length σ H->D.nx σ H):
  ∃W:Nat->Nat->St->Hp->Prop,(∃m,W 0 m σ H)/\∀i m σ H,W i m σ H->
   ((Shg K a xs.length).stop i H/\D.nx σ H)\/((Shg K a xs.length).go i H/\∃N:St->Hp->Prop,(∀σ' H',N σ' H'->∃m',m' < m/\W (i+1) m' σ' H')/\∀x H',(Shg K a xs.length).yld i H x H'->g x σ H' λσ2 H2=>tb {D with nx:=N,ct:=N,bk:=D.nx} σ2 H2):=by
 refine ⟨λi m σ H=>m=xs.length - i/\i<=xs.length/\Pv i σ H,⟨xs.length,by simp,yw _,h0⟩,?_⟩;rintro i m σ H ⟨rfl,hi,p⟩;have q:=hl i σ H hi p;by_cases hlt:i < xs.length
 ·refine .inr ⟨⟨hlt,xs,q,rfl⟩,Pv (i+1),λσ' H' p'=>⟨xs.length - (i+1),by omega,rfl,hlt,p'⟩,λx H' y=>?_⟩;obtain ⟨e,y⟩:=y;subst e;exact hs i x σ _ hlt (y xs q) p
 ·have e:i=xs.length:=by omega
  subst e;exact .inl ⟨rfl,hd σ H p⟩
section
variable {X:Cx} {a b:Expr} {rest:List Expr} {pos:Pos} {ta tb:TE}
end
section
variable {X:Cx} {o i value:Expr} {pos pos':Pos} {td ty tv:TE}
end
theorem Sun {K} {fd:S8} {ps:List Str} {ds:List S2} {D:S1} {it:Array S2} {m:Nat} {o:Obj} {n:Nat} (hn:n+ds.length=ps.length) (hdf:fd.defaults= .ref D) (hd:K.lookup D=some o) (ho:o.data= .seq it m)
  (hb:∀us,us.length=n->∃g,bindArgs fd ⟨us,[]⟩=seqItems? fd.defaults >>=g/\g (some it)=pure (ps.zip (us++ds))):Sbu K fd ps ds:=by
 intro s us X' hl;rw [yx] at hl;obtain ⟨g,h1,h2⟩:=hb us (by omega);exact BindsTo.of_defaults hdf (X' _ _ hd) ho h1 h2
noncomputable def Sa4 (h:Sb) (d:S1) (es:Array DictEntry) (ep:Nat):Prop:=∃o,h.get? d=some o/\o.ExactDict/\o.data= .dict es ep
section
variable {prog:S7} {w:S9} {A:Sa} {E:S2->S3->Prop} {s:S3} {it d:S1} {i ep:Nat} {es:Array DictEntry} {ok ov:S2}
theorem Sa4.typeIs (r:Sa4 s.heap d es ep):s.TypeIs (.ref d) "dict" :=by
 obtain ⟨o,h1,h2,_⟩:=r;exact ⟨o,h1,h2.1⟩
theorem Jzb (hd:(d==sysModules)=false):MeetsIn prog w (Builtin.«dict.items» ⟨[.ref d],[]⟩) (λ_ R s=>s.TypeIs (.ref d) "dict" /\R (.ok (.ret (.ref s.heap.objs.size))) {s with heap:=s.heap.push {cls:=.type "dict_items",data:=.fields #[.ref d]}}):=
 .of_wp λA R s z=>by
  unfold Builtin.«dict.items» Builtin.Dict.noArgs;refine S4 (S4 (wpAny_notOrdered_dict z.1 (S5 ?_)));unfold Builtin.Dict.showsAll;rw [if_neg (by rw [hd];decide)];exact S4 (S5 (S4 (wpAny_newObj_type (S5 ⟨_,rfl,z.2⟩))))
theorem Ya5 {v:S1} {Q:S2->S3->Prop} (hv:s.heap.IsItemsView v d) (r:Sa4 s.heap d es ep)
  (q:Q (.ref s.heap.objs.size) {s with heap:=s.heap.push {cls:=.type "dict_itemiterator",data:=.fields #[.none,.bool false,.ref d,.int 0 0,.int es.size 0,.int ep 0,.none,.none]}}):Sc (model prog w) A (pyIter (.ref v)) Q E s:=by
 have ty:=hv.typeIs;obtain ⟨ow,h1,h2,h3⟩:=hv;obtain ⟨o,h4,h5,h6⟩:=r;refine wpAny_pyIter_slot ty F.slot_dict_items_iter (wpAny_call_entry F.slot_dict_items_iter ty F.entry_dict_items_iter ?_ (F.args_dict_items_iter_1 _));unfold Builtin.«dict_items.__iter__» Builtin.Dict_items.dictOf Builtin.Dict_items.newIterator;refine S4 (S5 (S4 (S4 (wpAny_field h1 h3 (x:=.ref d) rfl (S5 (S4 (S4 (wpAny_dictEntries h4 h6 (S4 (wpAny_dictEpoch h4 h6 ?_))))))))));have e:Builtin.Dict_items.ownsTuple "dict_itemiterator" =true:=by decide
 simp only [e,if_true];refine wpAny_newObj_type (S5 ⟨_,rfl,"dict_itemiterator",_,⟨_,yn _ rfl,rfl⟩,F.slot_dict_itemiterator_next.lookup,?_⟩) (by simp only [sizeOk,Builtin.Dict_items.ownedTupleFields,yp,yx,yac,List.length_nil,sizeLine_eq];omega);simpa [rawInt,Builtin.Dict_items.ownedTupleFields] using q
theorem Yca {Q:Option S2->S3->Prop} (hh:A.handled=none) (st:IsItemIter s.heap it d i es.size ep ok ov) (r:Sa4 s.heap d es ep) (hi:es.size<=i) (q:∀h',Heap.ExtBut it s.heap h'->Q none {s with heap:=h'}):Sc (model prog w) A (pyNext (.ref it)) Q E s:=by
 have ty:s.TypeIs (.ref it) "dict_itemiterator" :=⟨_,st,rfl⟩;obtain ⟨o,h4,h5,h6⟩:=r;unfold pyNext;refine S4 (wpAny_attempt (wpAny_callSpecial?_slot (name:=Str.ofString "__next__") ty F.slot_dict_itemiterator_next (wpAny_call_entry F.slot_dict_itemiterator_next ty F.entry_dict_itemiterator_next (S4 (S5 (S4 (S4 ?_)))) (F.args_dict_itemiterator_next_1 _))))
 first|refine S4 (wpAny_typeNameOfWhole_itemiter ty (S5 (S4 (wpAny_fieldsOf st rfl ?_))))|refine S4 (wpAny_typeNameOf_itemiter ty (S5 (S4 (wpAny_fieldsOf st rfl ?_))))
 have e:Builtin.Dict_items.ownsTuple "dict_itemiterator" =true:=by decide
 simp only [e,if_true];show Sc _ _ (if (Value.ref d==Value.none)=true then _ else _) _ _ s;rw [if_neg (λz=>ycc z)];refine S4 (S5 (S4 (wpAny_dictEntries h4 h6 ?_)));rw [if_neg (by simp)];refine S4 (S5 (S4 (wpAny_dictEpoch h4 h6 ?_)));rw [if_neg (by simp)];refine S5 ?_;simp only [show ¬((i:Int) < 0) by omega,if_false,yaz,Array.getElem?_eq_none hi]
 first|refine S4 (S4 (wpAny_typeNameOfWhole_itemiter ty (S5 ?_)))|refine S4 (S4 (wpAny_typeNameOf_itemiter ty (S5 ?_)))
 show Sc _ _ (setField (.ref it) 2 .none >>=λ_=>newExc (.type "StopIteration") [] >>=_) _ _ s;refine S4 (wpAny_setField st rfl (by simp) (S4 ?_));simp only [newExc,newTuple];refine S4 (wpAny_newObj_type (S4 (m:=firstArgMember _ _) (wpAny_of_eq (a:=Value.none) (by simp only [firstArgMember];rfl) (wpAny_newObj_type ?_ (by size_fits)))) (by size_fits));simp only [raiseNew];refine S4 (wpAny_handled ?_);rw [show A.in1.handled=none from hh];refine S4 (S5 (wpAny_throw ?_));exact S4 (wpAny_isInstance (T:="StopIteration") (b:=true) ⟨_,yn _ rfl,rfl⟩ isSubtype_stop (S5 (q _ (((yz.update ..).extBut.push _).push _))))
theorem Ya4 {e:DictEntry} {Q:Option S2->S3->Prop} (st:IsItemIter s.heap it d i es.size ep ok ov) (r:Sa4 s.heap d es ep) (hx:es[i]?=some e)
  (q:∀h',IsItemIterOut h' it d (i+1) es.size ep e.key e.val s.heap.objs.size->h'.get? s.heap.objs.size=some {cls:=.type "tuple",data:=.seq #[e.key,e.val]}->
   (∀b o,b≠it->s.heap.get? b=some o->h'.get? b=some o)->Q (some (.ref s.heap.objs.size)) {s with heap:=h'}):Sc (model prog w) A (pyNext (.ref it)) Q E s:=by
 have ty:s.TypeIs (.ref it) "dict_itemiterator" :=⟨_,st,rfl⟩;have il:=yi st;obtain ⟨o,h4,h5,h6⟩:=r;unfold pyNext;refine S4 (wpAny_attempt (wpAny_callSpecial?_slot (name:=Str.ofString "__next__") ty F.slot_dict_itemiterator_next (wpAny_call_entry F.slot_dict_itemiterator_next ty F.entry_dict_itemiterator_next (S4 (S5 (S4 (S4 ?_)))) (F.args_dict_itemiterator_next_1 _))))
 first|refine S4 (wpAny_typeNameOfWhole_itemiter ty (S5 (S4 (wpAny_fieldsOf st rfl ?_))))|refine S4 (wpAny_typeNameOf_itemiter ty (S5 (S4 (wpAny_fieldsOf st rfl ?_))))
 have eo:Builtin.Dict_items.ownsTuple "dict_itemiterator" =true:=by decide
 simp only [eo,if_true];show Sc _ _ (if (Value.ref d==Value.none)=true then _ else _) _ _ s;rw [if_neg (λz=>ycc z)];refine S4 (S5 (S4 (wpAny_dictEntries h4 h6 ?_)));rw [if_neg (by simp)];refine S4 (S5 (S4 (wpAny_dictEpoch h4 h6 ?_)));rw [if_neg (by simp)];refine S5 ?_;simp only [show ¬((i:Int) < 0) by omega,if_false,yaz,hx]
 first|refine S4 (S4 (wpAny_typeNameOfWhole_itemiter ty (S5 (S4 (wpAny_isOneOf_itemiter ty ?_)))))|refine S4 (S4 (wpAny_typeNameOf_itemiter ty (S5 (S4 (wpAny_isOneOf_itemiter ty ?_)))))
 show Sc _ _ (setField (.ref it) 3 (rawInt ((i:Int)+1)) >>=_) _ _ s;refine S4 (wpAny_setField_rec st (by simp) λg1 i1 k1=>?_);have k1':yz it s.heap g1:=k1;have e1:((i+1:Nat):Int)=(i:Int)+1:=by omega
 have j1:IsItemIter g1 it d (i+1) es.size ep ok ov:=by unfold IsItemIter;rw [e1];simpa [rawInt] using i1
 have t1:Shared.TypeIs {s with heap:=g1} (.ref it) "dict_itemiterator" :=⟨_,j1,rfl⟩;refine S4 (wpAny_holding (S4 (wpAny_isOneOf_itemiter t1 (S4 (wpAny_isOneOf_itemiter t1 ?_)))));show Sc _ _ (Builtin.Dict_items.pairFromOwner (.ref it) 6 e.key e.val) _ _ _;unfold Builtin.Dict_items.pairFromOwner Builtin.Dict_items.ownedTupleIsFree;refine S4 (wpAny_newTuple ?_);have j2:IsItemIter (g1.push {cls:=.type "tuple",data:=.seq #[e.key,e.val]}) it d (i+1) es.size ep ok ov:=yh _ j1;have z1:g1.objs.size=s.heap.objs.size:=k1'.1;have n2:(g1.push {cls:=.type "tuple",data:=.seq #[e.key,e.val]}).get? s.heap.objs.size=some {cls:=.type "tuple",data:=.seq #[e.key,e.val]}:=by rw [<-z1];exact yn _ rfl
 have k2:∀b o,b≠it->s.heap.get? b=some o->(g1.push {cls:=.type "tuple",data:=.seq #[e.key,e.val]}).get? b=some o:=λb o hb z=>yh _ (k1'.extBut b o hb z);show Sc _ _ (_ >>=_) _ _ {s with heap:=g1.push {cls:=.type "tuple",data:=.seq #[e.key,e.val]}};rw [z1];generalize g1.push {cls:=.type "tuple",data:=.seq #[e.key,e.val]}=g2 at j2 n2 k2⊢;have ne:s.heap.objs.size≠it:=ybd il;refine S4 (S4 (wpAny_field j2 rfl (x:=.none) rfl (S5 ?_)));simp only [if_true];refine S4 (wpAny_field j2 rfl (x:=ok) rfl (S4 (wpAny_field j2 rfl (x:=ov) rfl (S4 (wpAny_setField_rec j2 (by simp) λg3 i3 k3=>?_)))));have j3:IsItemIter g3 it d (i+1) es.size ep e.key ov:=i3;refine S4 (wpAny_setField_rec j3 (by simp) λg4 i4 k4=>?_);have j4:IsItemIter g4 it d (i+1) es.size ep e.key e.val:=i4;refine S4 (wpAny_setField_rec j4 (by simp) λg5 i5 k5=>?_);have j5:IsItemIterOut g5 it d (i+1) es.size ep e.key e.val s.heap.objs.size:=i5;refine S4 (wpAny_setField_rec j5 (by simp) λg6 i6 k6=>?_);have up:∀b o,b≠it->g2.get? b=some o->g6.get? b=some o:=λb o hb z=>k6.extBut b o hb (k5.extBut b o hb (k4.extBut b o hb (k3.extBut b o hb z)));exact S4 (wpAny_letGo (S5 (S5 ⟨_,rfl,S5 (q g6 i6 (up _ _ ne n2) λb o hb z=>up b o hb (k2 b o hb z))⟩)))
end
theorem Juq {α β:Type} {F:α->β->Prop} {l:List α} {m:List β} (r:Paired F l m):∀{i:Nat} {x:α},l[i]?=some x->∃y,m[i]?=some y/\F x y:=by
 induction r with
 |nil=>intro i x e;simp at e
 |cons h _ ih=>
  intro i x e;cases i with
  |zero=>cases e;exact ⟨_,rfl,h⟩
  |succ i=>exact ih e
section
variable {X:Cx} {pins:List (S1×Obj)} {σ:St} {H:Hp} {s:S3} {a:S1} {o:Obj} {kvs:List (V×V)}
end
section
variable {g:TG} {tt:TT} {te:TE} {H:Hp} {D a:S1} {o:Obj} {σ:St} {R:Hp->Prop} {kvs:List (V×V)}
end
section
variable {prog:S7} {w:S9} {A:Sa} {E:S2->S3->Prop} {s:S3} {d:S1} {ep:Nat} {es:Array DictEntry} {key v:S2} {hk:Int} {n:Nat}
end
section
variable {prog:S7} {w:S9} {A:Sa} {E:S2->S3->Prop} {s:S3}
end
section
variable {X:Cx} {pins:List (S1×Obj)} {σ:St} {H:Hp} {s:S3} {a:S1} {y v:V} {u r:S2} {A:Sa} {E:S2->S3->Prop} {kvs:List (Key×V)} {Q:Unit->S3->Prop}
end
section
variable {X:Cx} {pins:List (S1×Obj)} {σ:St} {H:Hp} {s:S3} {a:S1} {v:V} {r:S2} {A:Sa} {E:S2->S3->Prop} {kvs:List (Key×V)} {Q:Unit->S3->Prop}
end
section
variable {X:Cx} {o e:Expr} {apos cpos:Pos} {td ty:TE}
end
section
variable {X:Cx} {o i value:Expr} {pos pos':Pos} {td ty tv:TE}
end
section
variable {X:Cx} {pins:List (S1×Obj)} {σ:St} {H:Hp} {s:S3}
end
section
variable {X:Cx}
end
section
variable {X:Cx} {pos:Pos} {k v:Expr} {tk tv:TE}
end
set_option genInjectivity false in
set_option genSizeOf false in
inductive Ky where
 |non|int (i:Int)|str (x:Str)|tup (ks:List Ky)
mutual
noncomputable def Ky.eqb:Ky->Ky->Bool
 | .non,.non=>true
 | .int i,.int j=>decide (i=j)
 | .str x,.str y=>decide (x=y)
 | .tup a,.tup b=>Kys.eqb a b
 |_,_=>false
noncomputable def Kys.eqb:List Ky->List Ky->Bool
 | [],[]=>true
 |a::as,b::bs=>a.eqb b&&Kys.eqb as bs
 |_,_=>false
end
mutual
theorem Ky.eqb_iff:∀(a b:Ky),a.eqb b=true↔a=b
 | .non,b=>by cases b <;> simp [Ky.eqb]
 | .int i,b=>by
  cases b with
  |int j=>exact ⟨λe=>by rw [of_decide_eq_true e],λe=>by cases e;exact decide_eq_true rfl⟩
  |_=>simp [Ky.eqb]
 | .str x,b=>by
  cases b with
  |str j=>exact ⟨λe=>by rw [of_decide_eq_true e],λe=>by cases e;exact decide_eq_true rfl⟩
  |_=>simp [Ky.eqb]
 | .tup a,b=>by
  cases b with
  |tup b=>
   have h:=Kys.eqb_iff a b;simp only [Ky.eqb];rw [h];exact ⟨λe=>by rw [e],λe=>by cases e;rfl⟩
  |_=>simp [Ky.eqb]
theorem Kys.eqb_iff:∀(a b:List Ky),Kys.eqb a b=true↔a=b
 | [],b=>by cases b <;> simp [Kys.eqb]
 |a::as,b=>by
  cases b with
  |nil=>simp [Kys.eqb]
  |cons b bs=>
   simp only [Kys.eqb,yag,Ky.eqb_iff a b,Kys.eqb_iff as bs];exact ⟨λe=>by rw [e.1,e.2],λe=>by cases e;exact ⟨rfl,rfl⟩⟩
end
noncomputable instance:DecidableEq Ky:=λa b=>decidable_of_iff _ (Ky.eqb_iff a b)
mutual
noncomputable def Ky.py:Ky->PyData
 | .non=>.none
 | .int i=>.int i
 | .str x=>.str x
 | .tup ks=>.tuple (Kys.py ks)
noncomputable def Kys.py:List Ky->List PyData
 | []=>[]
 |k::ks=>k.py::Kys.py ks
end
mutual
noncomputable def Ky.hash (w:S9):Ky->Int
 | .non=>reduceHash 0xFCA86420
 | .int i=>hashInt i
 | .str x=>hashStr w x
 | .tup ks=>reduceHash (Builtin.Tuple.tupleHashOf (Kys.hash w ks))
noncomputable def Kys.hash (w:S9):List Ky->List Int
 | []=>[]
 |k::ks=>k.hash w::Kys.hash w ks
end
mutual
noncomputable def Ky.draws:Ky->Nat
 | .tup ks=>Kys.draws ks+1
 |_=>1
noncomputable def Kys.draws:List Ky->Nat
 | []=>0
 |k::ks=>k.draws+Kys.draws ks
end
noncomputable def Ky.ok (n:Nat) (k:Ky):Bool:=k.py.canLay0&&decide (k.py.depth<=n)
mutual
theorem Ky.py_inj:∀(a b:Ky),a.py=b.py->a=b
 | .non,b,h=>by cases b <;> first|rfl|cases h
 | .int i,b,h=>by cases b <;> first|(cases h;rfl)|cases h
 | .str x,b,h=>by cases b <;> first|(cases h;rfl)|cases h
 | .tup a,b,h=>by
  cases b with
  |tup b=>rw [Kys.py_inj a b (PyData.tuple.inj h)]
  |_=>cases h
theorem Kys.py_inj:∀(a b:List Ky),Kys.py a=Kys.py b->a=b
 | [],b,h=>by cases b <;> first|rfl|cases h
 |a::as,b,h=>by
  cases b with
  |nil=>cases h
  |cons b bs=>
   have h:=List.cons.inj h;rw [Ky.py_inj a b h.1,Kys.py_inj as bs h.2]
end
mutual
theorem Ky.eqv:∀(a b:Ky),PyData.eqv a.py b.py=a.eqb b
 | .non,b=>by cases b <;> rfl
 | .int i,b=>by
  cases b with
  |int j=>show (i==j)=decide (i=j);exact Bool.beq_eq_decide_eq i j
  |_=>rfl
 | .str x,b=>by
  cases b with
  |str y=>show (x==y)=decide (x=y);by_cases h:x=y <;> simp [h]
  |_=>rfl
 | .tup a,b=>by
  cases b with
  |tup b=>show PyData.eqvAll (Kys.py a) (Kys.py b)=Kys.eqb a b;exact Kys.eqv a b
  |_=>rfl
theorem Kys.eqv:∀(a b:List Ky),PyData.eqvAll (Kys.py a) (Kys.py b)=Kys.eqb a b
 | [],b=>by cases b <;> rfl
 |a::as,b=>by
  cases b with
  |nil=>rfl
  |cons b bs=>show (PyData.eqv a.py b.py&&PyData.eqvAll (Kys.py as) (Kys.py bs))=(a.eqb b&&Kys.eqb as bs);rw [Ky.eqv a b,Kys.eqv as bs]
end
theorem Ky.eqv_dec (a b:Ky):PyData.eqv a.py b.py=decide (a=b):=by
 rw [Ky.eqv];by_cases h:a=b
 ·rw [decide_eq_true h,(Ky.eqb_iff a b).mpr h]
 ·rw [decide_eq_false h];cases e:a.eqb b with
  |false=>rfl
  |true=>exact absurd ((Ky.eqb_iff a b).mp e) h
section
variable {prog:S7} {w:S9} {E:S2->S3->Prop}
mutual
theorem Ju5:∀(k:Ky) (v:S2) (as:List S1) (A:Sa) (s:S3) (Q:Int->S3->Prop),Reads s.heap v k.py as->A.units+k.py.depth < cLine->Q (k.hash w) {s with toks:=s.toks+k.draws}->Sc (model prog w) A (pyHash v) Q E s
 | .non,v,as,A,s,Q,r,hu,h=>by
  cases r;exact PySem.W.pyHash_slot (T:="NoneType") rfl F.slot_NoneType_hash F.entry_NoneType_hash (F.args_NoneType_hash_1 _) (PySem.beq_builtin_none _) (.inl rfl) (S4 (S5 (S4 (wpAny_mkInt (S5 ⟨_,_,rfl,h⟩)))))
 | .int i,v,as,A,s,Q,r,hu,h=>by cases r;exact wpAny_pyHash_int h
 | .str x,v,as,A,s,Q,r,hu,h=>by cases r;exact wpAny_pyHash_str h
 | .tup ks,v,as,A,s,Q,r,hu,h=>by
  cases r with
  | @tuple a o vs n _ _ h1 h2 h3 h4=>
   refine PySem.W.pyHash_slot (T:="tuple") ⟨o,h1,h2⟩ F.slot_tuple_hash F.entry_tuple_hash (F.args_tuple_hash_1 _) (PySem.beq_builtin_none _) (.inr (by lia)) ?_;show Sc _ _ (Builtin.Tuple.tupleItemsOf (.ref a) >>=_) _ _ s;refine S4 (wpAny_tupleItemsOf h1 h3 ?_);refine S4 ?_;rw [<-Array.forIn_toList];refine Jvi ks vs.toList _ A.in1 s #[] _ h4 (by simp only [Ky.py,PyData.depth,Around.in1_units] at hu⊢;lia) λb hb=>?_;show Sc _ _ (retInt (Builtin.Tuple.tupleHashOf b.toList)) _ _ _;rw [hb];exact S4 (wpAny_mkInt (S5 ⟨_,_,rfl,h⟩))
theorem Jvi:∀(ks:List Ky) (vs:List S2) (as:List S1) (A:Sa) (s:S3) (b:Array Int) (Q:Array Int->S3->Prop),ReadsAll s.heap vs (Kys.py ks) as->A.units+PyData.depthAll (Kys.py ks) < cLine->
  (∀b':Array Int,b'.toList=b.toList++Kys.hash w ks->Q b' {s with toks:=s.toks+Kys.draws ks})->Sc (model prog w) A (forIn vs b λx r=>do let h<-pyHash x;pure PUnit.unit;pure (ForInStep.yield (r.push h))) Q E s
 | [],vs,as,A,s,b,Q,r,hu,h=>by cases r;exact S5 (h b (by simp [Kys.hash]))
 |k::ks,vs,as,A,s,b,Q,r,hu,h=>by
  cases r with
  | @cons v vs _ _ a1 a2 r1 r2=>
   have hm:k.py.depth<=max k.py.depth (PyData.depthAll (Kys.py ks))/\PyData.depthAll (Kys.py ks)<=max k.py.depth (PyData.depthAll (Kys.py ks)):=⟨Nat.le_max_left ..,Nat.le_max_right ..⟩;have hd:PyData.depthAll (Kys.py (k::ks))=max k.py.depth (PyData.depthAll (Kys.py ks)):=rfl;rw [ybm];refine S4 (S4 (Ju5 k v a1 A s _ r1 (by lia) ?_));refine S4 (S5 (S5 ?_));refine Jvi ks vs a2 A {s with toks:=s.toks+k.draws} _ Q r2 (by lia) λb' hb=>?_;have e:s.toks+k.draws+Kys.draws ks=s.toks+Kys.draws (k::ks):=by simp only [Kys.draws];lia
   have q:=h b' (by rw [hb];simp [Kys.hash]);rw [<-e] at q;exact q
end
mutual
theorem Jvz:∀(k:Ky) (v:S2) (as:List S1) (n:Nat) (A:Sa) (s:S3) (Q:Bool->S3->Prop),Reads s.heap v k.py as->k.py.depth<=n->Q true s->Sc (model prog w) A (eqIsQuiet n v) Q E s
 | .non,v,as,n,A,s,Q,r,hn,h=>by cases r;rw [eqIsQuiet_byValue _ rfl];exact S5 h
 | .int i,v,as,n,A,s,Q,r,hn,h=>by cases r;rw [eqIsQuiet_byValue _ rfl];exact S5 h
 | .str x,v,as,n,A,s,Q,r,hn,h=>by cases r;rw [eqIsQuiet_byValue _ rfl];exact S5 h
 | .tup ks,v,as,n,A,s,Q,r,hn,h=>by
  cases r with
  | @tuple a o vs m _ _ h1 h2 h3 h4=>
   have hT:s.TypeIs (.ref a) "tuple" :=⟨o,h1,h2⟩;cases n with
   |zero=>exact absurd hn (by simp only [Ky.py,PyData.depth];lia)
   |succ n=>
    unfold eqIsQuiet;refine S4 (wpAny_specialOf hT F.slot_tuple_eq.lookup ?_);show Sc _ _ (isInstance (.ref a) (.type "tuple") >>=_) _ _ s;refine S4 (wpAny_isInstance hT isSubtype_tuple_tuple ?_);simp only [Bool.not_true,ybh,if_false];refine S4 (wpAny_seqItems h1 h3 ?_);refine S4 ?_;show Sc _ _ (forIn vs _ _) _ _ s;rw [<-Array.forIn_toList];refine Jtm ks vs.toList _ n A s _ h4 (by simp only [Ky.py,PyData.depth] at hn;lia) ?_;exact S5 h
theorem Jtm:∀(ks:List Ky) (vs:List S2) (as:List S1) (n:Nat) (A:Sa) (s:S3) (Q:Option Bool×Unit->S3->Prop),ReadsAll s.heap vs (Kys.py ks) as->PyData.depthAll (Kys.py ks)<=n->Q (none,()) s->
  Sc (model prog w) A (forIn vs ((none,()):Option Bool×Unit) λy r=>do if (!(<-eqIsQuiet n y))=true then pure (ForInStep.done (some false,())) else pure (ForInStep.yield (none,()))) Q E s
 | [],vs,as,n,A,s,Q,r,hn,h=>by cases r;exact S5 h
 |k::ks,vs,as,n,A,s,Q,r,hn,h=>by
  cases r with
  | @cons v vs _ _ a1 a2 r1 r2=>
   have hm:k.py.depth<=max k.py.depth (PyData.depthAll (Kys.py ks))/\PyData.depthAll (Kys.py ks)<=max k.py.depth (PyData.depthAll (Kys.py ks)):=⟨Nat.le_max_left ..,Nat.le_max_right ..⟩;have hd:PyData.depthAll (Kys.py (k::ks))=max k.py.depth (PyData.depthAll (Kys.py ks)):=rfl;rw [ybm];refine S4 (S4 (Jvz k v a1 n A s _ r1 (by lia) ?_));simp only [Bool.not_true,ybh,if_false];exact S5 (Jtm ks vs a2 n A s Q r2 (by lia) h)
end
end
noncomputable def Jsr:Ky->S2->Bool
 | .non,.none=>true
 | .int i,v=>Value.isInt i v
 | .str x,v=>Value.isStrOf x v
 |_,_=>false
theorem Jlk {k:Ky} {v:S2} (h:Jsr k v=true):(k= .non/\v= .none)\/(∃i t,k= .int i/\v= .int i t)\/∃x t,k= .str x/\v= .str x t:=by
 cases k with
 |non=>cases v <;> first|exact .inl ⟨rfl,rfl⟩|cases h
 |int i=>
  obtain ⟨t,e⟩:=Value.isInt_shape (k:=i) (v:=v) h;exact .inr (.inl ⟨i,t,rfl,e⟩)
 |str x=>
  obtain ⟨t,e⟩:=Value.isStrOf_shape (x:=x) (v:=v) h;exact .inr (.inr ⟨x,t,rfl,e⟩)
 |tup _=>cases h
noncomputable def Ky.isT:Ky->Bool
 | .tup _=>true
 |_=>false
theorem Jua {h:Sb} {k:Ky} {v:S2} {as:List S1} (r:Reads h v k.py as) (ht:k.isT=false):Jsr k v=true:=by
 cases k with
 |non=>cases r;rfl
 |int i=>cases r;simp [Jsr,Value.isInt]
 |str x=>cases r;simp [Jsr,Value.isStrOf]
 |tup _=>cases ht
noncomputable def Yay (prog:S7) (w:S9):PySem.KeyKind prog w Ky where
 is:=Jsr
 hash:=Ky.hash w
 inj:=λv a b ha hb=>by
  rcases Jlk ha with ⟨rfl,rfl⟩|⟨i,t,rfl,rfl⟩|⟨x,t,rfl,rfl⟩ <;> rcases Jlk hb with ⟨rfl,e⟩|⟨j,u,rfl,e⟩|⟨y,u,rfl,e⟩ <;> first|rfl|(injection e with e1 _;rw [e1])|exact nomatch e
 byValue:=λk v h=>by rcases Jlk h with ⟨rfl,rfl⟩|⟨i,t,rfl,rfl⟩|⟨x,t,rfl,rfl⟩ <;> rfl
 pyHash:=λhv h=>by
  rcases Jlk hv with ⟨rfl,rfl⟩|⟨i,t,rfl,rfl⟩|⟨x,t,rfl,rfl⟩
  ·exact PySem.W.pyHash_slot (T:="NoneType") rfl F.slot_NoneType_hash F.entry_NoneType_hash (F.args_NoneType_hash_1 _) (PySem.beq_builtin_none _) (.inl rfl) (S4 (S5 (S4 (wpAny_mkInt (S5 ⟨_,_,rfl,h⟩)))))
  ·exact wpAny_pyHash_int h
  ·exact wpAny_pyHash_str h
 eqBool:=λhu hv h=>by
  rw [<-Ky.eqv_dec] at h;rcases Jlk hu with ⟨rfl,rfl⟩|⟨i,t,rfl,rfl⟩|⟨x,t,rfl,rfl⟩ <;> rcases Jlk hv with ⟨rfl,rfl⟩|⟨j,u,rfl,rfl⟩|⟨y,u,rfl,rfl⟩
  ·exact SeqAt.EqAt.same .none _ _ _ _ h
  ·exact SeqAt.EqAt.none_int j u _ _ _ _ h
  ·exact SeqAt.EqAt.none_str y u _ _ _ _ h
  ·exact SeqAt.EqAt.int_none i t _ _ _ _ h
  ·exact wpAny_eqBool_int h
  ·exact SeqAt.EqAt.int_str i t y u _ _ _ _ h
  ·exact SeqAt.EqAt.str_none x t _ _ _ _ h
  ·exact SeqAt.EqAt.str_int x t j u _ _ _ _ h
  ·exact SeqAt.EqAt.str_str x t y u _ _ _ _ h
 «strs»:=λk x t v h=>by
  rcases Jlk h with ⟨rfl,e⟩|⟨i,u,rfl,e⟩|⟨y,u,rfl,e⟩
  ·exact nomatch e
  ·exact nomatch e
  ·injection e with e1 _;subst e1;cases v <;> rfl
mutual
theorem Jr1 {h h':Sb} {d:S1} {o:Obj} {es ep} (ho:h.get? d=some o) (hd:o.data= .dict es ep) (hs:yz d h h'):∀(k:Ky) (v:S2) (as:List S1),Reads h v k.py as->Reads h' v k.py as
 | .non,v,as,r=>by cases r;exact .none
 | .int i,v,as,r=>by cases r;exact .int i _
 | .str x,v,as,r=>by cases r;exact .str x _
 | .tup ks,v,as,r=>by
  cases r with
  | @tuple a o' vs n _ _ h1 h2 h3 h4=>
   have ne:a≠d:=λz=>by
    rw [z,ho] at h1;cases h1;rw [hd] at h3;cases h3
   exact .tuple ((hs.2 a ne).trans h1) h2 h3 (Jpq ho hd hs ks _ _ h4)
theorem Jpq {h h':Sb} {d:S1} {o:Obj} {es ep} (ho:h.get? d=some o) (hd:o.data= .dict es ep) (hs:yz d h h'):∀(k:List Ky) (v:List S2) (as:List S1),ReadsAll h v (Kys.py k) as->ReadsAll h' v (Kys.py k) as
 | [],v,as,r=>by cases r;exact .nil
 |k::ks,v,as,r=>by
  cases r with
  |cons r1 r2=>exact .cons (Jr1 ho hd hs k _ _ r1) (Jpq ho hd hs ks _ _ r2)
end
structure Sse (h:Sb) (ks:List Ky) (a:S1):Prop where
 rd:∃as,Reads h (.ref a) (Ky.tup ks).py as
 ok:(Ky.tup ks).ok 6=true
theorem Ky.ok_of {n:Nat} {k:Ky} (h:k.ok n=true):k.py.canLay0=true/\k.py.depth<=n:=by
 unfold Ky.ok at h;rw [yag,decide_eq_true_eq] at h;exact h
noncomputable def Jxh (prog:S7) (w:S9):HeapKind prog w (List Ky) where
 is:=Sse
 hash:=λk=>(Ky.tup k).hash w
 draws:=λk=>(Ky.tup k).draws
 room:=λA=>A.units+6 < cLine
 inj:=λhx hy=>by
  obtain ⟨as,rx⟩:=hx.rd;obtain ⟨bs,ry⟩:=hy.rd;cases Ky.py_inj _ _ (SeqAt.Reads.unique _ _ _ _ _ (Ky.ok_of hx.ok).1 rx ry);rfl
 keeps:=λx ho hd hs=>let ⟨as,r⟩:=x.rd;⟨⟨as,Jr1 ho hd hs _ _ _ r⟩,x.ok⟩
 pyHash:=λhu hk h=>let ⟨as,r⟩:=hk.rd;Ju5 _ _ as _ _ _ r (by have:=(Ky.ok_of hk.ok).2;lia) h
 eqBool:=λ{A E s x y a b Q} hu hx hy h=>by
  obtain ⟨as,rx⟩:=hx.rd;obtain ⟨bs,ry⟩:=hy.rd;have e:decide (x=y)=PyData.eqv (Ky.tup x).py (Ky.tup y).py:=by
   rw [Ky.eqv_dec];by_cases z:x=y
   ·rw [decide_eq_true z,decide_eq_true (by rw [z])]
   ·rw [decide_eq_false z,decide_eq_false (λw=>z (by cases w;rfl))]
  rw [e] at h;exact SeqAt.eqAt_reads _ _ A s _ _ as bs rx ry (Ky.ok_of hx.ok).1 (Ky.ok_of hy.ok).1 (by have:=(Ky.ok_of hx.ok).2;lia) _ _ _ _ h
 quiet:=λhk h=>let ⟨as,r⟩:=hk.rd;Jvz _ _ as 8 _ _ _ r (by have:=(Ky.ok_of hk.ok).2;lia) h
structure Jr4 (w:S9) (h:Sb) (k:Ky) (e:DictEntry):Prop where
 rd:∃as,Reads h e.key k.py as
 hs:e.hash=k.hash w
noncomputable def Ky.at:List Ky->Ky->Option Nat
 | [],_=>none
 |a::ks,k=>if a=k then some 0 else (Ky.at ks k).map (·+1)
noncomputable def Jwq (k:Ky) (ks:List Ky):Bool:=(k::ks).all λj=>(j.isT==k.isT)&&j.ok 6
theorem Jxu {k:Ky} {ks:List Ky} (h:Jwq k ks=true):∀j∈k::ks,j.isT=k.isT/\j.ok 6=true:=λj hj=>by
 have q:=yaw.mp h j hj;rw [yag] at q;exact ⟨beq_iff_eq.mp q.1,q.2⟩
theorem Jzr {k:Ky}:∀{ks:List Ky} {i:Nat},Ky.at ks k=some i->ks[i]?=some k:=by
 intro ks
 induction ks with
 |nil=>intro i h;cases h
 |cons a ks ih=>
  intro i h;unfold Ky.at at h;split at h
  ·next e=>cases h;rw [e];rfl
  ·cases q:Ky.at ks k with
   |none=>rw [q] at h;cases h
   |some j=>rw [q] at h;cases h;exact ih q
theorem Sl6 {k:Ky}:∀{ks:List Ky},Ky.at ks k=none->k∉ks:=by
 intro ks
 induction ks with
 |nil=>intro _ z;cases z
 |cons a ks ih=>
  intro h z;unfold Ky.at at h;split at h
  ·cases h
  ·next e=>
   rcases yr.mp z with z|z
   ·exact e z.symm
   ·exact ih (Option.map_eq_none_iff.mp h) z
theorem Sl7 {k:Ky} {ks:List Ky} (h:k∉ks):Ky.at ks k=none:=by
 cases q:Ky.at ks k with
 |none=>rfl
 |some i=>exact absurd (yv (Jzr q)) h
theorem Sjw {k:Ky} {ks:List Ky} (nd:ks.Nodup) {i:Nat} (h:ks[i]?=some k):Ky.at ks k=some i:=by
 cases q:Ky.at ks k with
 |none=>exact absurd (yv h) (Sl6 q)
 |some j=>
  have e:=Jzr q;have hi:=(yk.mp h).1;have hj:=(yk.mp e).1;have:=(List.getElem_inj (h₀:=hj) (h₁:=hi) nd).mp ((yk.mp e).2.trans (yk.mp h).2.symm);rw [this]
section
variable {prog:S7} {w:S9} {A:Sa} {E:S2->S3->Prop} {s:S3} {d:S1} {ep:Nat} {es:Array DictEntry} {key v:S2} {ks:List Ky} {k:Ky}
theorem Slj (prog:S7) {el:List DictEntry} {h:Sb} (pk:Paired (Jr4 w h) ks el) (hv:∀j∈ks,j.isT=false):el.findIdx? (λe=>Jsr k e.key)=Ky.at ks k:=by
 induction pk with
 |nil=>rfl
 | @cons a e ks el h1 t ih=>
  obtain ⟨as,r⟩:=h1.rd;have q:Jsr k e.key=decide (k=a):=(Yay prog w).is_eq_decide (Jua r (hv a yy)) k;rw [List.findIdx?_cons,Ky.at,q,ih λj hj=>hv j (yq _ hj)];by_cases c:k=a
  ·subst c;simp
  ·rw [decide_eq_false c,if_neg (yu c)];simp
theorem Sli (prog:S7) {el:List DictEntry} {h:Sb} (pk:Paired (Jr4 w h) ks el) (ht:∀j∈ks,j.isT=true/\j.ok 6=true):∃xs:List (List Ky×S1×S2),el=xs.map (entryOfKey (Jxh prog w))/\(∀x∈xs,(Jxh prog w).is h x.1 x.2.1)/\ks=xs.map λx=>Ky.tup x.1:=by
 induction pk with
 |nil=>exact ⟨[],rfl,(λx hx=>nomatch hx),rfl⟩
 | @cons a e ks el h1 t ih=>
  obtain ⟨xs,e1,e2,e3⟩:=ih λj hj=>ht j (yq _ hj);obtain ⟨as,r⟩:=h1.rd;have ta:=ht a yy;have hh:=h1.hs;cases a with
  |tup kk=>
   obtain ⟨hs,ky,vl⟩:=e;dsimp only at r hh;have:∃b,ky= .ref b:=by cases r;exact ⟨_,rfl⟩
   obtain ⟨b,rfl⟩:=this;refine ⟨(kk,b,vl)::xs,?_,λx hx=>?_,?_⟩
   ·rw [yap,<-e1,hh];rfl
   ·rcases yr.mp hx with rfl|hx
    ·exact ⟨⟨as,r⟩,ta.2⟩
    ·exact e2 x hx
   ·rw [yap,e3]
  |_=>cases ta.1
theorem Ju3 {Q:Option Nat->S3->Prop} (hu:A.units+6 < cLine) (r:Sa4 s.heap d es ep) (pk:Paired (Jr4 w s.heap) ks es.toList) (nd:ks.Nodup) (hk:∃as,Reads s.heap key k.py as) (hom:Jwq k ks=true) (q:Q (Ky.at ks k) s):Sc (model prog w) A (dictFind d key (k.hash w)) Q E s:=by
 have ho:=Jxu hom;obtain ⟨o,h1,h2,h3⟩:=r;obtain ⟨as,rk⟩:=hk;cases hT:k.isT with
 |false=>
  refine wpAny_dictFind_of (knd:=Yay prog w) (Jua rk hT) h1 h3 (λe he=>?_) ?_
  ·obtain ⟨i,hi,rfl⟩:=Array.mem_iff_getElem.mp he;have hi':es.toList[i]?=some es[i]:=by simp [hi]
   obtain ⟨j,hj,kj⟩:=Jwn pk hi';obtain ⟨bs,rj⟩:=kj.rd;exact ⟨j,Jua rj (((ho j (yq _ (yv hj))).1).trans hT),kj.hs⟩
  ·show Q (es.findIdx? λe=>Jsr k e.key) s;rw [show (es.findIdx? λe=>Jsr k e.key)=es.toList.findIdx? λe=>Jsr k e.key from by obtain ⟨l⟩:=es;exact List.findIdx?_toArray ..,Slj prog pk λj hj=>((ho j (yq _ hj)).1).trans hT];exact q
 |true=>
  obtain ⟨xs,e1,e2,e3⟩:=Sli prog pk λj hj=>⟨((ho j (yq _ hj)).1).trans hT,(ho j (yq _ hj)).2⟩;cases k with
  |tup kk=>
   have:∃b,key= .ref b:=by cases rk;exact ⟨_,rfl⟩
   obtain ⟨b,rfl⟩:=this;subst e3;have ndx:(xs.map (·.1)).Nodup:=by
    rw [List.nodup_iff_pairwise_ne,List.pairwise_map] at nd⊢;exact nd.imp λh z=>h (by rw [z])
   refine wpAny_dictFind_heap (knd:=Jxh prog w) (xs:=xs) hu ⟨⟨as,rk⟩,(ho _ yy).2⟩ h1 h3 e1 e2 ndx (λhn=>?_) λj p hj=>?_
   ·rw [Sl7 λz=>?_] at q
    ·exact q
    ·obtain ⟨x,hx,e⟩:=yab.mp z;cases e;obtain ⟨i,hi⟩:=ybo hx;exact hn i x.2 hi
   ·rw [Sjw nd (i:=j) (by rw [ym,hj];rfl)] at q;exact q
  |_=>cases hT
theorem Jve {Q:Unit->S3->Prop} (hu:A.units+8 < cLine) (r:Sa4 s.heap d es ep) (pk:Paired (Jr4 w s.heap) ks es.toList) (nd:ks.Nodup) (hk:∃as,Reads s.heap key k.py as) (hom:Jwq k ks=true) (hz:es.size<=S6)
  (q0:Ky.at ks k=none->∀h',Sa4 h' d (es.push ⟨k.hash w,key,v⟩) (ep+1)->yz d s.heap h'->Q () {s with heap:=h',toks:=s.toks+k.draws})
  (q1:∀i,Ky.at ks k=some i->∀h',Sa4 h' d (es.modify i λe=>{e with val:=v}) ep->yz d s.heap h'->Q () {s with heap:=h',toks:=s.toks+k.draws}):Sc (model prog w) A (dictSet d key v) Q E s:=by
 obtain ⟨as,rk⟩:=hk;have r':Sa4 {s with toks:=s.toks+k.draws}.heap d es ep:=r;have dp:=(Ky.ok_of (Jxu hom k yy).2).2;unfold dictSet dictSetHashed
 try with_reducible refine wpAny_holding ?_
 refine S4 (Ju5 k key as A s _ rk (by lia) ?_)
 try with_reducible refine wpAny_holding ?_
 refine S4 (Ju3 (A:=A) (by lia) r' pk nd ⟨as,rk⟩ hom ?_);obtain ⟨o,h1,h2,h3⟩:=r;cases e:Ky.at ks k with
 |none=>exact S4 (wpAny_rule (wpAny_updateDictKeys (hz:=hz) (s:={s with toks:=s.toks+k.draws}) h1 h3 (q0 e _ ⟨_,ybc _ h1 (Obj.isFreed_of_dict (Obj.data_mapDictKeys h3 _)),h2.mapDictKeys _,Obj.data_mapDictKeys h3 _⟩ (yz.update ..))))
 |some i=>exact S4 (wpAny_rule (S4 (wpAny_updateDict (s:={s with toks:=s.toks+k.draws}) h1 h3 (wpAny_point (q1 i e _ ⟨_,ybc _ h1 (Obj.isFreed_of_dict (Obj.data_mapDict h3 _)),h2.mapDict _,Obj.data_mapDict h3 _⟩ (yz.update ..))))))
end
noncomputable def DR (p:S1) (o:Obj) (us:List V) (hs:List Int) (vs:List V):HO:=.ext λh=>h.get? p=some o/\o.ExactDict/\(p==sysModules)=false/\us.length<=S6/\∃arr ep,o.data= .dict arr ep/\Paired (λ(u:V) (e:DictEntry)=>Su u e.key) us arr.toList/\Paired (λ(i:Int) (e:DictEntry)=>e.hash=i) hs arr.toList/\Paired (λ(v:V) (e:DictEntry)=>Su v e.val) vs arr.toList
theorem Y6 {P:S7} {w:S9} {H:Hp} {h:Sb} {p:S1} {arr:Array DictEntry} {ep:Nat} {us vs:List V} {hs:List Int} (r:Sa4 h p arr ep) (n:(p==sysModules)=false) (z:us.length<=S6) (r1:Paired (λ(u:V) (e:DictEntry)=>Su u e.key) us arr.toList) (r2:Paired (λ(i:Int) (e:DictEntry)=>e.hash=i) hs arr.toList) (r3:Paired (λ(v:V) (e:DictEntry)=>Su v e.val) vs arr.toList):
  ∃o,∀{H:Hp},Sac P w H h p (DR p o us hs vs):=by
 obtain ⟨o,h1,h2,h3⟩:=r;refine ⟨o,⟨h1,h2,n,z,arr,ep,h3,r1,r2,r3⟩,⟨o,h1⟩,?_⟩;rintro g1 g2 ⟨q1,q⟩ k;exact ⟨k _ q1,q⟩
structure DcA (K:Sd) (w:S9) (H:Hp) (p:S1) (o:Obj) (ks:List Ky) (us vs:List V):Prop where
 hp:H p=some (DR p o us (ks.map (Ky.hash w)) vs)
 ku:Paired (λ(k:Ky) (u:V)=>Sb1 K H u k.py) ks us
 nd:ks.Nodup
theorem Yz {α β γ:Type} {F:α->β->Prop} {G:β->γ->Prop} {R:α->γ->Prop} (f:∀a b c,F a b->G b c->R a c) {l:List α} {m:List β} (r:Paired F l m):∀{n:List γ},Paired G m n->Paired R l n:=by
 induction r with
 |nil=>intro n q;cases q;exact .nil
 |cons h _ ih=>intro n q;cases q with|cons h2 t2=>exact .cons (f _ _ _ h h2) (ih t2)
theorem Yc5 {α β γ:Type} {F:α->γ->Prop} {G:β->γ->Prop} {R:α->γ->Prop} (g:α->β) (f:∀a c,F a c->G (g a) c->R a c) {l:List α} {n:List γ} (r:Paired F l n) (q:Paired G (l.map g) n):Paired R l n:=by
 induction r with
 |nil=>exact .nil
 |cons h _ ih=>cases q with|cons h2 t2=>exact .cons (f _ _ h h2) (ih t2)
section
variable {X:Cx} {pins:List (S1×Obj)} {σ:St} {H:Hp} {s:S3} {p:S1} {o:Obj} {ks:List Ky} {us vs:List V} {k:Ky} {y:V} {u:S2}
theorem DcA.raw (I:Sm X pins σ H s) (h:DcA X.K X.w H p o ks us vs):(p==sysModules)=false/\us.length<=S6/\∃arr ep,o.data= .dict arr ep/\Sa4 s.heap p arr ep/\Paired (Jr4 X.w s.heap) ks arr.toList/\Paired (λ(u:V) (e:DictEntry)=>Su u e.key) us arr.toList/\Paired (λ(v:V) (e:DictEntry)=>Su v e.val) vs arr.toList/\Paired (λ(i:Int) (e:DictEntry)=>e.hash=i) (ks.map (Ky.hash X.w)) arr.toList:=by
 obtain ⟨h1,h2,h3,h4,arr,ep,h5,r1,r2,r3⟩:=(show Sac X.prog X.w H s.heap p (DR p o us (ks.map (Ky.hash X.w)) vs) from I.hok p _ h.hp).1;have rd:Paired (λ(k:Ky) (e:DictEntry)=>∃as,Reads s.heap e.key k.py as) ks arr.toList:=by
  refine Yz (λa b c f g=>?_) h.ku r1;exact Sb1.reads I f g
 exact ⟨h3,h4,arr,ep,h5,⟨o,h1,h2,h5⟩,Yc5 (Ky.hash X.w) (λa c f g=>⟨f,g⟩) rd r2,r1,r3,r2⟩
theorem Slt (I:Sm X pins σ H s) (d:Sb1 X.K H y k.py) (r:Su y u):∃as,Reads s.heap u k.py as:=d.reads I r
noncomputable def Sn9:TE:=λ_ H Q=>∀p o,H p=none->Q (.ref p) (upd H p (DR p o [] [] []))
theorem Yt {pos:Pos}:PE X (.Dict [] [] pos) Sn9:=λpins s σ H Q I h=>by
 have r:Sa4 (s.heap.push {cls:=.type "dict",data:=.dict #[]}) s.heap.objs.size #[] 0:=⟨_,yn _ rfl,⟨rfl,rfl,rfl⟩,rfl⟩;obtain ⟨o,ok⟩:=Y6 (P:=X.prog) (w:=X.w) (H:=H) (us:=[]) (hs:=[]) (vs:=[]) r (beq_eq_false_iff_ne.mpr (yu (yt I.big))) (yw _) .nil .nil .nil;exact wpAny_Dict_empty ⟨.ref s.heap.objs.size,_,I.laid (λ_ _ q=>yh _ q) (yg _) ok,rfl,h _ o (I.hok.fresh (yg _))⟩
end
section
variable {X:Cx} {pins:List (S1×Obj)} {σ:St} {H:Hp} {s:S3} {p:S1} {o:Obj} {us vs:List V} {hs:List Int}
theorem Jnk (I:Sm X pins σ H s) (h:H p=some (DR p o us hs vs)):(p==sysModules)=false/\∃es ep,o.data= .dict es ep/\Sa4 s.heap p es ep/\Paired (λ(u:V) (e:DictEntry)=>Su u e.key) us es.toList/\Paired (λ(v:V) (e:DictEntry)=>Su v e.val) vs es.toList:=by
 obtain ⟨h1,h2,h3,h4,arr,ep,h5,r1,r2,r3⟩:=(show Sac X.prog X.w H s.heap p (DR p o us hs vs) from I.hok p _ h).1;exact ⟨h3,arr,ep,h5,⟨o,h1,h2,h5⟩,r1,r3⟩
theorem Y5 (I:Sm X pins σ H s) (h:H p=some (DR p o us hs vs)):s.TypeIs (.ref p) "dict" /\∀b,Value.ref p= .ref b->∃ob,s.heap.get? b=some ob/\ob.dict=none:=by
 obtain ⟨_,es,ep,_,r,_⟩:=Jnk I h;refine ⟨r.typeIs,λb q=>?_⟩;cases q;obtain ⟨ob,h1,h2,_⟩:=r;exact ⟨ob,h1,h2.2.1⟩
end
noncomputable def ItD (p:S1) (o:Obj) (us:List V) (hs:List Int) (vs:List V):It:=
 ⟨λi H=>H p=some (DR p o us hs vs)/\i < us.length,λi H x H'=>∃T k u,H T=none/\x= .ref T/\us[i]?=some k/\vs[i]?=some u/\H'=upd H T (.tup [k,u]),λi H=>H p=some (DR p o us hs vs)/\us.length<=i⟩
theorem Yd0 {K} {P w elts kt pt} (a it) (o) (us vs:List V) (hs:List Int):Turn P w K (.Tuple elts kt pt) (ItD a o us hs vs) [it] it (ISt it a o us.length) where
 mem:=by simp
 obj:=λi h st b hb=>by
  have e:=by simpa using hb
  subst e;obtain ⟨es,ep,_,ok,ov,e⟩:=st;exact ⟨_,e,λv z=>by cases z⟩
 keep:=λi h h' st k=>by
  obtain ⟨es,ep,q,ok,ov,e⟩:=st;exact ⟨es,ep,q,ok,ov,k it (by simp) _ e⟩
 item:=by
  intro X hP hw hK hc i pins s σ H E I hf st hg;subst hP hw hK;obtain ⟨ea,hi⟩:=hg;obtain ⟨es,ep,ed,ok,ov,st⟩:=st;obtain ⟨_,es',ep',ed',ra,ru,rv⟩:=Jnk I ea;rw [ed] at ed';cases ed';have hl:us.length=es.size:=by rw [ru.length];simp
  have hl2:vs.length=es.size:=by rw [rv.length];simp
  have hx:us[i]?=some us[i]:=by simp [hi]
  have hy:vs[i]?=some (vs[i]'(by lia)):=by simp
  obtain ⟨e,he,rk⟩:=Juq ru hx;obtain ⟨e',he',re⟩:=Juq rv hy;rw [he] at he';cases he';rw [hl] at st;refine Ya4 st ra (by rw [<-ycm];exact he) λh' st' tT kk=>⟨_,rfl,wpAny_letOwnedTupleGo_items st' λh'' st'' sb=>?_⟩;have ne:s.heap.objs.size≠it:=λw'=>absurd (yi st) (by rw [<-w'];exact yaq _);refine ⟨.ref s.heap.objs.size,upd H s.heap.objs.size (.tup [us[i],vs[i]'(by lia)]),I.turnTup hf (λc o hc q=>(sb.2 c (by simpa using hc)).trans (kk c o (by simpa using hc) q)) (yg _)
   ⟨(show 2<=S6 by decide),[e.key,e.val],.cons rk (.cons re .nil),⟨_,((sb.2 _ ne).trans tT),rfl,_,rfl⟩⟩,rfl,⟨_,_,_,I.hok.fresh (yg _),rfl,hx,hy,rfl⟩,⟨es,ep,ed,_,_,by rw [hl];exact st''⟩,λc hc=>?_⟩
  have e:=by simpa using hc
  subst e;rw [Sy (yu ne)];exact (hf c hc).1
 done:=by
  intro X hP hw hK hc i pins s σ H E I hf st hg;subst hP hw hK;obtain ⟨ea,hi⟩:=hg;obtain ⟨es,ep,ed,ok,ov,st⟩:=st;obtain ⟨_,es',ep',ed',ra,ru,rv⟩:=Jnk I ea;rw [ed] at ed';cases ed';have hl:us.length=es.size:=by rw [ru.length];simp
  obtain ⟨f0,f1,f2,f3,f4,f5⟩:=hf it (by simp);rw [hl] at st;exact Yca (I.ok.hd hc) st ra (by lia) λh' eb=>⟨rfl,I.turned (λb o hb e=>eb b o hb e) f0 f1 f3 f4 f5⟩
 self:=λ_ _ _ _ _ st h=>let ⟨_,_,_,_,_,q⟩:=st;kcp_self q h
noncomputable def Ybk (td:TE):TI:=λσ H R=>td σ H λx H1=>∃a o us hs vs,x= .ref a/\H1 a=some (DR a o us hs vs)/\R (ItD a o us hs vs) H1
theorem Jqh {X:Cx} {td:TE} {o:Expr} {pt elts} {kt} {apos cpos} (ho:PE X o td) (hbase:attributeBase o "items" X.env (eval o X.env)=eval o X.env:=by rfl) (hline:(apos.endLine==cpos.line)=true:=by rfl):
  PI X (.Tuple elts kt pt) (.Call (.Attribute o "items" apos) [] [] cpos) (Ybk td):=by
 intro pins s σ H R I h;refine wpAny_Call_method0_late hbase hline (thn (ho pins s σ H _ I h) λv s1 zq=>?_);obtain ⟨x,H1,I1,r1,q1⟩:=zq;obtain ⟨a,ob,us,hs,vs,rfl,ea,q⟩:=q1;obtain rfl:v=Value.ref a:=r1;obtain ⟨t1,t2⟩:=Y5 I1 ea;refine ⟨"dict","dict.items",PySem.F.plainAttrs_dict,PySem.F.slot_dict_items,PySem.F.type_dict_items,t1,t2,Calls.callWith_builtin rfl (PySem.evalArgs_none ?_)⟩;obtain ⟨hd,es,ep,ed,ra,ru,rv⟩:=Jnk I1 ea;have hl:us.length=es.size:=by rw [ru.length];simp
 have ra':∀{ob:Obj},Sa4 (s1.heap.push ob) a es ep:=λ{ob}=>by
  obtain ⟨o,e1,e2,e3⟩:=ra;exact ⟨o,yh _ e1,e2,e3⟩
 refine call_meetsIn PySem.F.slot_dict_items t1 PySem.F.entry_dict_items (PySem.F.args_dict_items_1 _) (Jzb hd) ⟨t1,Ya5 ⟨_,yn _ rfl,rfl,rfl⟩ ra' ?_⟩;refine ⟨_,[_],_,_,H1,rfl,I1.kept λb o e=>yh _ (yh _ e),Yd0 a _ ob us vs hs,⟨es,ep,ed,.none,.none,by rw [hl];exact yn _ rfl⟩,λb hb=>?_,q⟩;have le:s1.heap.objs.size<=b:=by
  rw [yan.mp hb];simp [Heap.push]
 exact I1.fpOk le (I1.hok.fresh le)
mutual
theorem Jtn {h h':Sb} (hs:∀b o,h.get? b=some o->h'.get? b=some o):∀(k:Ky) (v:S2) (as:List S1),Reads h v k.py as->Reads h' v k.py as
 | .non,v,as,r=>by cases r;exact .none
 | .int i,v,as,r=>by cases r;exact .int i _
 | .str x,v,as,r=>by cases r;exact .str x _
 | .tup ks,v,as,r=>by
  cases r with
  | @tuple a o' vs n _ _ h1 h2 h3 h4=>exact .tuple (hs _ _ h1) h2 h3 (Jsb hs ks _ _ h4)
theorem Jsb {h h':Sb} (hs:∀b o,h.get? b=some o->h'.get? b=some o):∀(k:List Ky) (v:List S2) (as:List S1),ReadsAll h v (Kys.py k) as->ReadsAll h' v (Kys.py k) as
 | [],v,as,r=>by cases r;exact .nil
 |k::ks,v,as,r=>by
  cases r with
  |cons r1 r2=>exact .cons (Jtn hs k _ _ r1) (Jsb hs ks _ _ r2)
end
section
variable {prog:S7} {w:S9} {A:Sa}
end
section
variable {prog:S7} {w:S9} {A:Sa} {E:S2->S3->Prop} {s:S3} {it d:S1} {i ep:Nat} {es:Array DictEntry}
theorem Jz8 {Q:S2->S3->Prop} (hd:(d==sysModules)=false) (r:Sa4 s.heap d es ep) (q:Q (.ref s.heap.objs.size) {s with heap:=s.heap.push {cls:=.type "dict_keyiterator",data:=.fields #[.ref d,.int 0 0,.int es.size 0,.int ep 0]}}):Sc (model prog w) A (pyIter (.ref d)) Q E s:=by
 have ty:=r.typeIs;obtain ⟨o,h1,h2,h3⟩:=r;refine wpAny_pyIter_slot ty F.slot_dict_iter (wpAny_call_entry F.slot_dict_iter ty F.entry_dict_iter ?_ (F.args_dict_iter_1 _));unfold Builtin.«dict.__iter__» Builtin.Dict.dictSlotNone;refine S4 (S4 (wpAny_notOrdered_dict ty (S5 ?_)));show Sc _ _ (Builtin.Dict.showsAll d >>=_) _ _ s;unfold Builtin.Dict.showsAll;rw [if_neg (by rw [hd];decide)];refine S4 (S5 (S4 (wpAny_dictEntries h1 h3 (S4 (wpAny_dictEpoch h1 h3 (S4 (wpAny_newObj_type (S5 ⟨_,rfl,"dict_keyiterator",_,⟨_,yn _ rfl,rfl⟩,F.slot_dict_keyiterator_next.lookup,?_⟩))))))));simpa [rawInt] using q
theorem Ya2 {Q:Option S2->S3->Prop} (hh:A.handled=none) (st:s.heap.IsKeyIter it d i es.size ep) (r:Sa4 s.heap d es ep) (hi:es.size<=i) (q:∀h',Heap.ExtBut it s.heap h'->Q none {s with heap:=h'}):Sc (model prog w) A (pyNext (.ref it)) Q E s:=by
 have ty:=st.typeIs;obtain ⟨oi,g1,g2,g3⟩:=id st;obtain ⟨o,h1,h2,h3⟩:=r;have ow:Builtin.Dict_items.ownsTuple "dict_keyiterator" =false:=by decide
 unfold pyNext;refine S4 (wpAny_attempt (wpAny_callSpecial?_slot (name:=Str.ofString "__next__") ty F.slot_dict_keyiterator_next (wpAny_call_entry F.slot_dict_keyiterator_next ty F.entry_dict_keyiterator_next (S4 (S5 (S4 (S4 ?_)))) (F.args_dict_keyiterator_next_1 _))))
 first|refine S4 (wpAny_typeNameOfWhole_keyiter ty (S5 (S4 (wpAny_fieldsOf g1 g3 ?_))))|refine S4 (wpAny_typeNameOf_keyiter ty (S5 (S4 (wpAny_fieldsOf g1 g3 ?_))))
 simp only [ow,ybh,if_false];show Sc _ _ (if (Value.ref d==Value.none)=true then _ else _) _ _ s;rw [if_neg (λz=>ycc z)];refine S4 (S5 (S4 (wpAny_dictEntries h1 h3 ?_)));rw [if_neg (by simp)];refine S4 (S5 (S4 (wpAny_dictEpoch h1 h3 ?_)));rw [if_neg (by simp)];refine S5 ?_;simp only [show ¬((i:Int) < 0) by omega,if_false,yaz,Array.getElem?_eq_none hi]
 first|refine S4 (S4 (wpAny_typeNameOfWhole_keyiter ty (S5 ?_)))|refine S4 (S4 (wpAny_typeNameOf_keyiter ty (S5 ?_)))
 show Sc _ _ (setField (.ref it) 0 .none >>=λ_=>newExc (.type "StopIteration") [] >>=_) _ _ s;refine S4 (wpAny_setField g1 g3 (by simp) (S4 ?_));simp only [newExc,newTuple];refine S4 (wpAny_newObj_type (S4 (m:=firstArgMember _ _) (wpAny_of_eq (a:=Value.none) (by simp only [firstArgMember];rfl) (wpAny_newObj_type ?_ (by size_fits)))) (by size_fits));simp only [raiseNew];refine S4 (wpAny_handled ?_);rw [show A.in1.handled=none from hh];refine S4 (S5 (wpAny_throw ?_));exact S4 (wpAny_isInstance (T:="StopIteration") (b:=true) ⟨_,yn _ rfl,rfl⟩ isSubtype_stop (S5 (q _ (((yz.update ..).extBut.push _).push _))))
theorem Jz7 {e:DictEntry} {Q:Option S2->S3->Prop} (st:s.heap.IsKeyIter it d i es.size ep) (r:Sa4 s.heap d es ep) (hx:es[i]?=some e)
  (q:∀h',h'.IsKeyIter it d (i+1) es.size ep->yz it s.heap h'->Q (some e.key) {s with heap:=h'}):Sc (model prog w) A (pyNext (.ref it)) Q E s:=by
 have ty:=st.typeIs;obtain ⟨oi,g1,g2,g3⟩:=id st;obtain ⟨o,h1,h2,h3⟩:=r;have ow:Builtin.Dict_items.ownsTuple "dict_keyiterator" =false:=by decide
 unfold pyNext;refine S4 (wpAny_attempt (wpAny_callSpecial?_slot (name:=Str.ofString "__next__") ty F.slot_dict_keyiterator_next (wpAny_call_entry F.slot_dict_keyiterator_next ty F.entry_dict_keyiterator_next (S4 (S5 (S4 (S4 ?_)))) (F.args_dict_keyiterator_next_1 _))))
 first|refine S4 (wpAny_typeNameOfWhole_keyiter ty (S5 (S4 (wpAny_fieldsOf g1 g3 ?_))))|refine S4 (wpAny_typeNameOf_keyiter ty (S5 (S4 (wpAny_fieldsOf g1 g3 ?_))))
 simp only [ow,ybh,if_false];show Sc _ _ (if (Value.ref d==Value.none)=true then _ else _) _ _ s;rw [if_neg (λz=>ycc z)];refine S4 (S5 (S4 (wpAny_dictEntries h1 h3 ?_)));rw [if_neg (by simp)];refine S4 (S5 (S4 (wpAny_dictEpoch h1 h3 ?_)));rw [if_neg (by simp)];refine S5 ?_;simp only [show ¬((i:Int) < 0) by omega,if_false,yaz,hx]
 first|refine S4 (S4 (wpAny_typeNameOfWhole_keyiter ty (S5 (S4 (wpAny_isOneOf_keyiter ty ?_)))))|refine S4 (S4 (wpAny_typeNameOf_keyiter ty (S5 (S4 (wpAny_isOneOf_keyiter ty ?_)))))
 show Sc _ _ (setField (.ref it) 1 (rawInt ((i:Int)+1)) >>=_) _ _ s;refine S4 (wpAny_setField g1 g3 (by simp) ?_);have st':(s.heap.update it (Obj.mapFields (·.setIfInBounds 1 (rawInt ((i:Int)+1))))).IsKeyIter it d (i+1) es.size ep:=⟨_,ybc _ g1 (Obj.isFreed_of_fields (Obj.data_mapFields g3 _)),(Obj.cls_mapFields ..).trans g2,by rw [Obj.data_mapFields g3];simp [rawInt]⟩;have sb:yz it s.heap (s.heap.update it (Obj.mapFields (·.setIfInBounds 1 (rawInt ((i:Int)+1))))):=yz.update ..;generalize s.heap.update it (Obj.mapFields (·.setIfInBounds 1 (rawInt ((i:Int)+1))))=hn at st' sb⊢;have tn:Shared.TypeIs {s with heap:=hn} (.ref it) "dict_keyiterator" :=Heap.IsKeyIter.typeIs (s:={s with heap:=hn}) st';refine S4 (wpAny_holding (S4 (wpAny_isOneOf_keyiter (s:={s with heap:=hn}) tn (S5 (S5 ⟨_,rfl,S5 (q _ st' sb)⟩)))))
end
noncomputable def Su5 (it a:S1) (o:Obj) (n i:Nat) (h:Sb):Prop:=∃es ep,o.data= .dict es ep/\h.IsKeyIter it a i n ep
noncomputable def Jqp (p:S1) (o:Obj) (us:List V) (hs:List Int) (vs:List V):It:=
 ⟨λi H=>H p=some (DR p o us hs vs)/\i < us.length,λi H x H'=>H'=H/\us[i]?=some x,λi H=>H p=some (DR p o us hs vs)/\us.length<=i⟩
theorem Jxi {K} {P w tg} (a it) (o) (us vs:List V) (hs:List Int):Turn P w K tg (Jqp a o us hs vs) [it] it (Su5 it a o us.length) where
 mem:=by simp
 obj:=λi h st b hb=>by
  have e:=by simpa using hb
  subst e;obtain ⟨es,ep,_,oi,e1,_,e3⟩:=st;exact ⟨oi,e1,λv z=>by rw [e3] at z;cases z⟩
 keep:=λi h h' st k=>by
  obtain ⟨es,ep,q,oi,e1,e2,e3⟩:=st;exact ⟨es,ep,q,oi,k it (by simp) _ e1,e2,e3⟩
 item:=by
  intro X hP hw hK hc i pins s σ H E I hf st hg;subst hP hw hK;obtain ⟨ea,hi⟩:=hg;obtain ⟨es,ep,ed,st⟩:=st;obtain ⟨_,es',ep',ed',ra,ru,rv⟩:=Jnk I ea;rw [ed] at ed';cases ed';have hl:us.length=es.size:=by rw [ru.length];simp
  have hl2:vs.length=es.size:=by rw [rv.length];simp
  have hx:us[i]?=some (us[i]'(by omega)):=by simp
  obtain ⟨e,he,rk⟩:=Juq ru hx;obtain ⟨f0,f1,f2,f3,f4,f5⟩:=hf it (by simp);rw [hl] at st;refine Jz7 st ra (by rw [<-ycm];exact he) λh' st' sb=>?_;have I1:Sm X pins σ H {s with heap:=h'}:=I.turned (λb o hb e=>(sb.2 b hb).trans e) f0 f1 f3 f4 f5;obtain ⟨oi,e1,e2,e3⟩:=id st';exact ⟨_,rfl,Jrv e1 e2 e3 (by decide) ⟨_,H,I1,rk,⟨rfl,hx⟩,⟨es,ep,ed,by rw [hl];exact st'⟩,λb hb=>(hf b hb).1⟩⟩
 done:=by
  intro X hP hw hK hc i pins s σ H E I hf st hg;subst hP hw hK;obtain ⟨ea,hi⟩:=hg;obtain ⟨es,ep,ed,st⟩:=st;obtain ⟨_,es',ep',ed',ra,ru,rv⟩:=Jnk I ea;rw [ed] at ed';cases ed';have hl:us.length=es.size:=by rw [ru.length];simp
  obtain ⟨f0,f1,f2,f3,f4,f5⟩:=hf it (by simp);rw [hl] at st;exact Ya2 (I.ok.hd hc) st ra (by omega) λh' eb=>⟨rfl,I.turned (λb o hb e=>eb b o hb e) f0 f1 f3 f4 f5⟩
 self:=λA i s Q E st h=>by
  obtain ⟨_,_,_,oi,e1,e2,e3⟩:=st;exact wpAny_pyIter_keyiter ⟨oi,e1,e2,e3⟩ h
section
variable {g:TG} {tt:TT} {te:TE} {H:Hp} {D a:S1} {o:Obj} {σ:St} {R:Hp->Prop} {us vs:List V} {hs:List Int}
theorem Jwk (hlen:us.length=vs.length) (Pv:Nat->St->Hp->Prop) (h0:Pv 0 σ H) (hl:∀i σ H,i<=us.length->Pv i σ H->H a=some (DR a o us hs vs))
  (hst:∀i x σ H,us[i]?=some x->Pv i σ H->g x σ H λσ3 H3=>tt σ3 H3 λb H4=>if b=true then te σ3 H4 (λv H5=>∃ys,H5 D=some (.lst ys)/\ys.length < S6/\Pv (i+1) σ3 (upd H5 D (.lst (ys++ [v])))) else Pv (i+1) σ3 H4)
  (hd:∀σ H,Pv us.length σ H->R H):
  ∃W:Nat->Nat->St->Hp->Prop,(∃m,W 0 m σ H)/\∀i m σ' H',W i m σ' H'->((Jqp a o us hs vs).stop i H'/\R H')\/((Jqp a o us hs vs).go i H'/\∃N:St->Hp->Prop,(∀σ2 H2,N σ2 H2->∃m',m' < m/\W (i+1) m' σ2 H2)/\
   ∀x H2,(Jqp a o us hs vs).yld i H' x H2->g x σ' H2 λσ3 H3=>tt σ3 H3 λb H4=>if b=true then te σ3 H4 (λv H5=>∃ys,H5 D=some (.lst ys)/\ys.length < S6/\N σ3 (upd H5 D (.lst (ys++ [v])))) else N σ3 H4):=by
 refine ⟨λi m σ H=>m=us.length - i/\i<=us.length/\Pv i σ H,⟨us.length,by simp,yw _,h0⟩,?_⟩;rintro i m σ H ⟨rfl,hi,p⟩;have q:=hl i σ H hi p;by_cases hlt:i < us.length
 ·refine .inr ⟨⟨q,hlt⟩,Pv (i+1),λσ' H' p'=>⟨us.length - (i+1),by omega,rfl,hlt,p'⟩,λx H' y=>?_⟩;obtain ⟨rfl,y⟩:=y;exact hst i x σ _ y p
 ·have e:i=us.length:=by omega
  subst e;exact .inl ⟨⟨q,yg _⟩,hd σ H p⟩
end
noncomputable def Sll (td:TE):TI:=λσ H R=>td σ H λx H1=>∃a o us hs vs,x= .ref a/\H1 a=some (DR a o us hs vs)/\R (Jqp a o us hs vs) H1
theorem Jo8 {X:Cx} {td:TE} {o tg:Expr} (ho:PE X o td):PI X tg o (Sll td):=by
 intro pins s σ H R I h;refine thn (ho pins s σ H _ I h) λv s1 zq=>?_;obtain ⟨x,H1,I1,r1,q1⟩:=zq;obtain ⟨a,ob,us,hs,vs,rfl,ea,q⟩:=q1;obtain rfl:v=Value.ref a:=r1;obtain ⟨hd,es,ep,ed,ra,ru,rv⟩:=Jnk I1 ea;have hl:us.length=es.size:=by rw [ru.length];simp
 refine Jz8 hd ra ?_;refine ⟨_,[_],_,_,H1,rfl,I1.kept λb o e=>yh _ e,Jxi a _ ob us vs hs,⟨es,ep,ed,_,yn _ rfl,rfl,by rw [hl];rfl⟩,λb hb=>?_,q⟩;have le:s1.heap.objs.size<=b:=by
  rw [yan.mp hb];exact yg _
 exact I1.fpOk le (I1.hok.fresh le)
section
variable {prog:S7} {w:S9} {A:Sa} {E:S2->S3->Prop} {s:S3} {it d:S1} {i ep:Nat} {es:Array DictEntry}
theorem Ya7 (hd:(d==sysModules)=false):MeetsIn prog w (Builtin.«dict.values» ⟨[.ref d],[]⟩) (λ_ R s=>s.TypeIs (.ref d) "dict" /\R (.ok (.ret (.ref s.heap.objs.size))) {s with heap:=s.heap.push {cls:=.type "dict_values",data:=.fields #[.ref d]}}):=
 .of_wp λA R s z=>by
  refine S4 ?_;unfold Builtin.Dict.noArgs;refine S4 (wpAny_notOrdered_dict z.1 (S5 ?_));show Sc _ _ (Builtin.Dict.showsAll d >>=_) _ _ s;unfold Builtin.Dict.showsAll;rw [if_neg (by rw [hd];decide)];exact S4 (S5 (S4 (wpAny_newObj_type (S5 ⟨_,rfl,z.2⟩))))
theorem Jza {v:S1} {Q:S2->S3->Prop} (hv:s.heap.IsValuesView v d) (r:Sa4 s.heap d es ep) (q:Q (.ref s.heap.objs.size) {s with heap:=s.heap.push {cls:=.type "dict_valueiterator",data:=.fields #[.ref d,.int 0 0,.int es.size 0,.int ep 0]}}):Sc (model prog w) A (pyIter (.ref v)) Q E s:=by
 have ty:=hv.typeIs;obtain ⟨ow,g1,g2,g3⟩:=hv;obtain ⟨o,h1,h2,h3⟩:=r;refine wpAny_pyIter_slot ty F.slot_dict_values_iter (wpAny_call_entry F.slot_dict_values_iter ty F.entry_dict_values_iter ?_ (F.args_dict_values_iter_1 _));unfold Builtin.«dict_values.__iter__» Builtin.Dict_items.dictOf Builtin.Dict_items.newIterator;refine S4 (S5 (S4 (S4 (wpAny_field g1 g3 (x:=.ref d) rfl (S5 (S4 (S4 (wpAny_dictEntries h1 h3 (S4 (wpAny_dictEpoch h1 h3 ?_))))))))));have e:Builtin.Dict_items.ownsTuple "dict_valueiterator" =false:=by decide
 simp only [e,ybh,if_false];refine wpAny_newObj_type (S5 ⟨_,rfl,"dict_valueiterator",_,⟨_,yn _ rfl,rfl⟩,F.slot_dict_valueiterator_next.lookup,?_⟩);simpa [rawInt] using q
theorem Ya3 {Q:Option S2->S3->Prop} (hh:A.handled=none) (st:s.heap.IsValIter it d i es.size ep) (r:Sa4 s.heap d es ep) (hi:es.size<=i) (q:∀h',Heap.ExtBut it s.heap h'->Q none {s with heap:=h'}):Sc (model prog w) A (pyNext (.ref it)) Q E s:=by
 have ty:=st.typeIs;obtain ⟨oi,g1,g2,g3⟩:=id st;obtain ⟨o,h1,h2,h3⟩:=r;have ow:Builtin.Dict_items.ownsTuple "dict_valueiterator" =false:=by decide
 unfold pyNext;refine S4 (wpAny_attempt (wpAny_callSpecial?_slot (name:=Str.ofString "__next__") ty F.slot_dict_valueiterator_next (wpAny_call_entry F.slot_dict_valueiterator_next ty F.entry_dict_valueiterator_next (S4 (S5 (S4 (S4 ?_)))) (F.args_dict_valueiterator_next_1 _))))
 first|refine S4 (wpAny_typeNameOfWhole_valiter ty (S5 (S4 (wpAny_fieldsOf g1 g3 ?_))))|refine S4 (wpAny_typeNameOf_valiter ty (S5 (S4 (wpAny_fieldsOf g1 g3 ?_))))
 simp only [ow,ybh,if_false];show Sc _ _ (if (Value.ref d==Value.none)=true then _ else _) _ _ s;rw [if_neg (λz=>ycc z)];refine S4 (S5 (S4 (wpAny_dictEntries h1 h3 ?_)));rw [if_neg (by simp)];refine S4 (S5 (S4 (wpAny_dictEpoch h1 h3 ?_)));rw [if_neg (by simp)];refine S5 ?_;simp only [show ¬((i:Int) < 0) by omega,if_false,yaz,Array.getElem?_eq_none hi]
 first|refine S4 (S4 (wpAny_typeNameOfWhole_valiter ty (S5 ?_)))|refine S4 (S4 (wpAny_typeNameOf_valiter ty (S5 ?_)))
 show Sc _ _ (setField (.ref it) 0 .none >>=λ_=>newExc (.type "StopIteration") [] >>=_) _ _ s;refine S4 (wpAny_setField g1 g3 (by simp) (S4 ?_));simp only [newExc,newTuple];refine S4 (wpAny_newObj_type (S4 (m:=firstArgMember _ _) (wpAny_of_eq (a:=Value.none) (by simp only [firstArgMember];rfl) (wpAny_newObj_type ?_ (by size_fits)))) (by size_fits));simp only [raiseNew];refine S4 (wpAny_handled ?_);rw [show A.in1.handled=none from hh];refine S4 (S5 (wpAny_throw ?_));exact S4 (wpAny_isInstance (T:="StopIteration") (b:=true) ⟨_,yn _ rfl,rfl⟩ isSubtype_stop (S5 (q _ (((yz.update ..).extBut.push _).push _))))
theorem Jz9 {e:DictEntry} {Q:Option S2->S3->Prop} (st:s.heap.IsValIter it d i es.size ep) (r:Sa4 s.heap d es ep) (hx:es[i]?=some e)
  (q:∀h',h'.IsValIter it d (i+1) es.size ep->yz it s.heap h'->Q (some e.val) {s with heap:=h'}):Sc (model prog w) A (pyNext (.ref it)) Q E s:=by
 have ty:=st.typeIs;obtain ⟨oi,g1,g2,g3⟩:=id st;obtain ⟨o,h1,h2,h3⟩:=r;have ow:Builtin.Dict_items.ownsTuple "dict_valueiterator" =false:=by decide
 unfold pyNext;refine S4 (wpAny_attempt (wpAny_callSpecial?_slot (name:=Str.ofString "__next__") ty F.slot_dict_valueiterator_next (wpAny_call_entry F.slot_dict_valueiterator_next ty F.entry_dict_valueiterator_next (S4 (S5 (S4 (S4 ?_)))) (F.args_dict_valueiterator_next_1 _))))
 first|refine S4 (wpAny_typeNameOfWhole_valiter ty (S5 (S4 (wpAny_fieldsOf g1 g3 ?_))))|refine S4 (wpAny_typeNameOf_valiter ty (S5 (S4 (wpAny_fieldsOf g1 g3 ?_))))
 simp only [ow,ybh,if_false];show Sc _ _ (if (Value.ref d==Value.none)=true then _ else _) _ _ s;rw [if_neg (λz=>ycc z)];refine S4 (S5 (S4 (wpAny_dictEntries h1 h3 ?_)));rw [if_neg (by simp)];refine S4 (S5 (S4 (wpAny_dictEpoch h1 h3 ?_)));rw [if_neg (by simp)];refine S5 ?_;simp only [show ¬((i:Int) < 0) by omega,if_false,yaz,hx]
 first|refine S4 (S4 (wpAny_typeNameOfWhole_valiter ty (S5 (S4 (wpAny_isOneOf_valiter ty ?_)))))|refine S4 (S4 (wpAny_typeNameOf_valiter ty (S5 (S4 (wpAny_isOneOf_valiter ty ?_)))))
 show Sc _ _ (setField (.ref it) 1 (rawInt ((i:Int)+1)) >>=_) _ _ s;refine S4 (wpAny_setField g1 g3 (by simp) ?_);have st':(s.heap.update it (Obj.mapFields (·.setIfInBounds 1 (rawInt ((i:Int)+1))))).IsValIter it d (i+1) es.size ep:=⟨_,ybc _ g1 (Obj.isFreed_of_fields (Obj.data_mapFields g3 _)),(Obj.cls_mapFields ..).trans g2,by rw [Obj.data_mapFields g3];simp [rawInt]⟩;have sb:yz it s.heap (s.heap.update it (Obj.mapFields (·.setIfInBounds 1 (rawInt ((i:Int)+1))))):=yz.update ..;generalize s.heap.update it (Obj.mapFields (·.setIfInBounds 1 (rawInt ((i:Int)+1))))=hn at st' sb⊢;have tn:Shared.TypeIs {s with heap:=hn} (.ref it) "dict_valueiterator" :=Heap.IsValIter.typeIs (s:={s with heap:=hn}) st';refine S4 (wpAny_holding (S4 (wpAny_isOneOf_valiter (s:={s with heap:=hn}) tn (S4 (wpAny_isOneOf_valiter (s:={s with heap:=hn}) tn (S5 (S5 ⟨_,rfl,S5 (q _ st' sb)⟩)))))))
end
noncomputable def Su6 (it a:S1) (o:Obj) (n i:Nat) (h:Sb):Prop:=∃es ep,o.data= .dict es ep/\h.IsValIter it a i n ep
noncomputable def Jqq (p:S1) (o:Obj) (us:List V) (hs:List Int) (vs:List V):It:=
 ⟨λi H=>H p=some (DR p o us hs vs)/\i < us.length,λi H x H'=>H'=H/\vs[i]?=some x,λi H=>H p=some (DR p o us hs vs)/\us.length<=i⟩
theorem Jxj {K} {P w tg} (a it) (o) (us vs:List V) (hs:List Int):Turn P w K tg (Jqq a o us hs vs) [it] it (Su6 it a o us.length) where
 mem:=by simp
 obj:=λi h st b hb=>by
  have e:=by simpa using hb
  subst e;obtain ⟨es,ep,_,oi,e1,_,e3⟩:=st;exact ⟨oi,e1,λv z=>by rw [e3] at z;cases z⟩
 keep:=λi h h' st k=>by
  obtain ⟨es,ep,q,oi,e1,e2,e3⟩:=st;exact ⟨es,ep,q,oi,k it (by simp) _ e1,e2,e3⟩
 item:=by
  intro X hP hw hK hc i pins s σ H E I hf st hg;subst hP hw hK;obtain ⟨ea,hi⟩:=hg;obtain ⟨es,ep,ed,st⟩:=st;obtain ⟨_,es',ep',ed',ra,ru,rv⟩:=Jnk I ea;rw [ed] at ed';cases ed';have hl:us.length=es.size:=by rw [ru.length];simp
  have hl2:vs.length=es.size:=by rw [rv.length];simp
  have hx:vs[i]?=some (vs[i]'(by omega)):=by simp
  obtain ⟨e,he,rk⟩:=Juq rv hx;obtain ⟨f0,f1,f2,f3,f4,f5⟩:=hf it (by simp);rw [hl] at st;refine Jz9 st ra (by rw [<-ycm];exact he) λh' st' sb=>?_;have I1:Sm X pins σ H {s with heap:=h'}:=I.turned (λb o hb e=>(sb.2 b hb).trans e) f0 f1 f3 f4 f5;obtain ⟨oi,e1,e2,e3⟩:=id st';exact ⟨_,rfl,Jrv e1 e2 e3 (by decide) ⟨_,H,I1,rk,⟨rfl,hx⟩,⟨es,ep,ed,by rw [hl];exact st'⟩,λb hb=>(hf b hb).1⟩⟩
 done:=by
  intro X hP hw hK hc i pins s σ H E I hf st hg;subst hP hw hK;obtain ⟨ea,hi⟩:=hg;obtain ⟨es,ep,ed,st⟩:=st;obtain ⟨_,es',ep',ed',ra,ru,rv⟩:=Jnk I ea;rw [ed] at ed';cases ed';have hl:us.length=es.size:=by rw [ru.length];simp
  obtain ⟨f0,f1,f2,f3,f4,f5⟩:=hf it (by simp);rw [hl] at st;exact Ya3 (I.ok.hd hc) st ra (by omega) λh' eb=>⟨rfl,I.turned (λb o hb e=>eb b o hb e) f0 f1 f3 f4 f5⟩
 self:=λA i s Q E st h=>by
  obtain ⟨_,_,_,oi,e1,e2,e3⟩:=st;exact wpAny_pyIter_valiter ⟨oi,e1,e2,e3⟩ h
section
variable {g:TG} {tt:TT} {te:TE} {H:Hp} {D a:S1} {o:Obj} {σ:St} {R:Hp->Prop} {us vs:List V} {hs:List Int}
theorem Jwl (hlen:us.length=vs.length) (Pv:Nat->St->Hp->Prop) (h0:Pv 0 σ H) (hl:∀i σ H,i<=us.length->Pv i σ H->H a=some (DR a o us hs vs))
  (hst:∀i x σ H,vs[i]?=some x->Pv i σ H->g x σ H λσ3 H3=>tt σ3 H3 λb H4=>if b=true then te σ3 H4 (λv H5=>∃ys,H5 D=some (.lst ys)/\ys.length < S6/\Pv (i+1) σ3 (upd H5 D (.lst (ys++ [v])))) else Pv (i+1) σ3 H4)
  (hd:∀σ H,Pv us.length σ H->R H):
  ∃W:Nat->Nat->St->Hp->Prop,(∃m,W 0 m σ H)/\∀i m σ' H',W i m σ' H'->((Jqq a o us hs vs).stop i H'/\R H')\/((Jqq a o us hs vs).go i H'/\∃N:St->Hp->Prop,(∀σ2 H2,N σ2 H2->∃m',m' < m/\W (i+1) m' σ2 H2)/\
   ∀x H2,(Jqq a o us hs vs).yld i H' x H2->g x σ' H2 λσ3 H3=>tt σ3 H3 λb H4=>if b=true then te σ3 H4 (λv H5=>∃ys,H5 D=some (.lst ys)/\ys.length < S6/\N σ3 (upd H5 D (.lst (ys++ [v])))) else N σ3 H4):=by
 refine ⟨λi m σ H=>m=us.length - i/\i<=us.length/\Pv i σ H,⟨us.length,by simp,yw _,h0⟩,?_⟩;rintro i m σ H ⟨rfl,hi,p⟩;have q:=hl i σ H hi p;by_cases hlt:i < us.length
 ·refine .inr ⟨⟨q,hlt⟩,Pv (i+1),λσ' H' p'=>⟨us.length - (i+1),by omega,rfl,hlt,p'⟩,λx H' y=>?_⟩;obtain ⟨rfl,y⟩:=y;exact hst i x σ _ y p
 ·have e:i=us.length:=by omega
  subst e;exact .inl ⟨⟨q,yg _⟩,hd σ H p⟩
end
noncomputable def Slm (td:TE):TI:=λσ H R=>td σ H λx H1=>∃a o us hs vs,x= .ref a/\H1 a=some (DR a o us hs vs)/\R (Jqq a o us hs vs) H1
theorem Yv {X:Cx} {td:TE} {o tg:Expr} {apos cpos} (ho:PE X o td) (hbase:attributeBase o "values" X.env (eval o X.env)=eval o X.env:=by rfl) (hline:(apos.endLine==cpos.line)=true:=by rfl):
  PI X tg (.Call (.Attribute o "values" apos) [] [] cpos) (Slm td):=by
 intro pins s σ H R I h;refine wpAny_Call_method0_late hbase hline (thn (ho pins s σ H _ I h) λv s1 zq=>?_);obtain ⟨x,H1,I1,r1,q1⟩:=zq;obtain ⟨a,ob,us,hs,vs,rfl,ea,q⟩:=q1;obtain rfl:v=Value.ref a:=r1;obtain ⟨t1,t2⟩:=Y5 I1 ea;refine ⟨"dict","dict.values",PySem.F.plainAttrs_dict,PySem.F.slot_dict_values,PySem.F.type_dict_values,t1,t2,Calls.callWith_builtin rfl (PySem.evalArgs_none ?_)⟩;obtain ⟨hd,es,ep,ed,ra,ru,rv⟩:=Jnk I1 ea;have hl:us.length=es.size:=by rw [ru.length];simp
 have ra':∀{ob:Obj},Sa4 (s1.heap.push ob) a es ep:=λ{ob}=>by
  obtain ⟨o,e1,e2,e3⟩:=ra;exact ⟨o,yh _ e1,e2,e3⟩
 refine call_meetsIn PySem.F.slot_dict_values t1 PySem.F.entry_dict_values (PySem.F.args_dict_values_1 _) (Ya7 hd) ⟨t1,Jza ⟨_,yn _ rfl,rfl,rfl⟩ ra' ?_⟩;refine ⟨_,[_],_,_,H1,rfl,I1.kept λb o e=>yh _ (yh _ e),Jxj a _ ob us vs hs,⟨es,ep,ed,_,yn _ rfl,rfl,by rw [hl];rfl⟩,λb hb=>?_,q⟩;have le:s1.heap.objs.size<=b:=by
  rw [yan.mp hb];simp [Heap.push]
 exact I1.fpOk le (I1.hok.fresh le)
section
variable {prog:S7} {w:S9} {A:Sa} {E:S2->S3->Prop} {s:S3} {env:Env} {k v:Expr} {pos:Pos}
theorem Yb3 {Q:S2->S3->Prop} (h:Sc (model prog w) A (eval k env) (λkv s1=>Sc (model prog w) A (eval v env) (λvv s2=>Sc (model prog w) A (dictSet s.heap.objs.size kv vv) (λ_ s3=>Q (.ref s.heap.objs.size) s3) E s2) E s1) E {s with heap:=s.heap.push {cls:=.type "dict",data:=.dict #[]}}):
  Sc (model prog w) A (eval (.Dict [some k] [v] pos) env) Q E s:=by
 rw [arm_eval_Dict,zip_pairTrees [some k] [v] env pos rfl rfl,dictDisplay_pairs (pairTrees [some k] [v] env pos) (λz=>by cases z) (show 1 < 17 by decide)];refine S4 (wpAny_standAt (S4 ?_));unfold subDict;refine S4 (wpAny_alloc (S4 (wpAny_holding ?_)));rw [if_pos (show (pairTrees [some k] [v] env pos).length<=15 from show 1<=15 by decide)];refine S4 (pairTrees_cons_walk (thn h λkv s1 h1=>thn h1 λvv s2 h2=>pairTrees_nil_walk (wpAny_holding ?_)));rw [ybm];refine S4 (S4 ?_);show Sc _ _ (dictSet s.heap.objs.size kv vv >>=_) _ _ _;refine S4 (thn h2 λ_ s3 h3=>S5 ?_);show Sc _ _ (forIn [] PUnit.unit _) _ _ _;rw [ycb];exact S5 (S5 (S5 (S5 h3)))
theorem Ycb {d:S1} (hd:(d==sysModules)=false):MeetsIn prog w (Builtin.«dict.__len__» ⟨[.ref d],[]⟩) (λ_ R s=>∃es ep,Sa4 s.heap d es ep/\R (.ok (.ret (.int es.size s.toks))) {s with toks:=s.toks+1}):=
 .of_wp λA R s ⟨es,ep,⟨o,h1,h2,h3⟩,q⟩=>by
  show Sc _ _ (dictSize d >>=_) _ _ s;unfold dictSize;refine S4 (S4 (wpAny_dictEntries h1 h3 (S5 ?_)));show Sc _ _ (Builtin.Dict.pendingCount d >>=_) _ _ s;refine S4 (wpAny_pendingCount_other hd (wpAny_ret_mkInt ?_));rw [Nat.add_zero];exact q
theorem Jw1 {d:S1} {es:Array DictEntry} {ep:Nat} {Q:S2->S3->Prop} (hd:(d==sysModules)=false) (r:Sa4 s.heap d es ep) (hf:(es.size:Int) < 2^63) (q:Q (.int es.size (s.toks+1)) {s with toks:=s.toks+1+1}):Sc (model prog w) A (call (.builtin "len") [.ref d]) Q E s:=by
 refine Calls.call_function_entry kind_len plain_len entry_len (args_len1 _) ?_;unfold Builtin.«len»;refine S4 (m:=oneArg "len" _) (S5 (S4 (m:=callSpecial? (.ref d) (Str.ofString "__len__")) (wpAny_callSpecial?_slot (name:=Str.ofString "__len__") r.typeIs F.slot_dict_len (call_meetsIn F.slot_dict_len r.typeIs F.entry_dict_len (F.args_dict_len_1 _) (Ycb hd) ⟨es,ep,r,?_⟩))));show Sc _ _ _ _ _ {s with toks:=s.toks+1};refine S4 (wpAny_holding (S5 (S4 (wpAny_letGo ?_))));show Sc _ _ (if ((es.size:Nat):Int) < 0 then _ else _) _ _ _;rw [if_neg (by omega)];show Sc _ _ (if ((es.size:Nat):Int)≥2^63 then _ else _) _ _ _;rw [if_neg (by omega)];exact S4 (wpAny_mkInt (S5 ⟨_,rfl,q⟩))
end
section
variable {X:Cx}
theorem Sm.adopt {pins:List (S1×Obj)} {σ:List (Option V)} {H:Hp} {s:S3} {a:S1} {o:HO} (I:Sm X pins σ H s) (hn:H a=none) (hL:a≠X.env.locals) (h1:a∈X.ex\/X.s₀.heap.objs.size<=a) (h2:∀x c,X.env.cells.lookup x=some c->c≠a) (h3:∀p∈X.pn++pins,p.1≠a)
  (new:Sac X.prog X.w (upd H a o) s.heap a o):Sm X pins σ (upd H a o) s:=by
 have sm:=Si.upd (o:=o) hn;refine I.step (ch:=[a]) (λb hb=>by rw [yan.mp hb];exact ⟨h1,hL,h2,h3⟩) (λb o _ _ _ e _=>e) (λb o _ _ _ e _=>⟨o.slots,e⟩) (λb o hc e n=>by rw [Sy (λz=>hc (by simp [z]))];exact n) (λb o _ e=>⟨o,e⟩) (λb xs e=>sm _ _ e) (λb o u e=>sm _ _ e) (λb ps e=>⟨#[],by rw [sm _ _ e];simp⟩) (λm hm=>hm) (λb u e=>?_) I.bare;by_cases z:b=a
 ·subst z;rw [So] at e;cases e;exact new
 ·rw [Sy z] at e;exact (I.hok b u e).stay (λc v _ q=>q) (λc q=>sm _ _ q) (λc xs q=>sm _ _ q) λc q' q=>sm _ _ q
noncomputable def Sn8 (K:Sd) (w:S9) (tk tv:TE):TE:=λσ H Q=>tk σ H λy H1=>tv σ H1 λv H2=>∃kk:Ky,Sb1 K H2 y kk.py/\kk.ok 6=true/\∀p o H',H2 p=none->Si H2 H'->H' p=some (DR p o [y] [kk.hash w] [v])->Q (.ref p) H'
theorem Js8 {k v:Expr} {pos:Pos} {tk tv:TE} (hu:X.A.units+64 < cLine) (hk:PE X k tk) (hv:PE X v tv):PE X (.Dict [some k] [v] pos) (Sn8 X.K X.w tk tv):=λpins s σ H Q I h=>by
 have le:=yg s.heap.objs.size;obtain ⟨f0,f1,f2,f3,f4,f5⟩:=I.fpOk le (I.hok.fresh le);have I0:Sm X ((s.heap.objs.size,{cls:=.type "dict",data:=.dict #[]})::pins) σ H {s with heap:=s.heap.push {cls:=.type "dict",data:=.dict #[]}}:=Sm.pins_of (I.kept λ_ _ q=>yh _ q) λp hp=>by
  rcases yr.mp hp with rfl|hp
  ·exact ⟨yn _ rfl,f0,f1,f2,λv z=>by cases z⟩
  ·obtain ⟨e1,e2⟩:=I.pin p (yau _ hp);exact ⟨yh _ e1,e2⟩
 refine Yb3 (thn (hk _ _ σ _ _ I0 h) λkv s1 g=>?_);obtain ⟨y,H1,I1,ry,g⟩:=g;refine thn (hv _ s1 σ H1 _ I1 g) λvv s2 g=>?_;obtain ⟨x,H2,I2,rx,kk,dk,ko,q⟩:=g;obtain ⟨g0,n2,_⟩:=I2.pin _ (yau _ yy);have ra:Sa4 s2.heap s.heap.objs.size #[] 0:=⟨_,g0,⟨rfl,rfl,rfl⟩,rfl⟩;have hom:Jwq kk []=true:=by
  unfold Jwq;simp [ko]
 refine Jve (ks:=[]) (by omega) ra .nil ycd (Slt I2 dk ry) hom (yw _) (λ_ h' r' sb=>?_) (λi e=>by cases e);have I3:=Sm.turned (t':=s2.toks+kk.draws) (I2.pins_of (pins':=pins) λp hp=>I2.pin p (yau _ (yq _ hp))) (h':=h') (λb o hb e=>(sb.2 b hb).trans e) n2 f1 f3 f4 f5;obtain ⟨o',ok'⟩:=Y6 (P:=X.prog) (w:=X.w) (H:=H2) (us:=[y]) (hs:=[kk.hash X.w]) (vs:=[x]) r' (beq_eq_false_iff_ne.mpr (yu (yt I.big))) (show 1<=S6 by decide) (.cons ry .nil) (.cons rfl .nil) (.cons rx .nil);exact ⟨.ref s.heap.objs.size,_,Sm.adopt I3 n2 f1 f3 f4 f5 ok',rfl,q _ o' _ n2 (Si.upd n2) So⟩
theorem Jyi:Jla X (.builtin "len") (λxs H Q=>∃p o us hs vs,xs= [.ref p]/\H p=some (DR p o us hs vs)/\us.length<=1000/\Q (.int us.length) H):=by
 rintro pins s σ H xs us Q I r ⟨p,o,ks,hs,vs,rfl,hp,hl,q⟩;obtain ⟨u,rfl,rx⟩:=Jlz r;cases rx;obtain ⟨hd,es,ep,ed,ra,ru,rv⟩:=Jnk I hp;have hz:ks.length=es.size:=by rw [ru.length];simp
 exact Jw1 hd ra (by omega) ⟨.int ks.length,H,I.tok _,⟨s.toks+1,by rw [hz]⟩,q⟩
inductive Spw (K:Sd) (xs:List V) (H:Hp) (Q:VK):Prop where
 |mk (x:_) (_:xs= [x,.ty "dict"]) (_:((∃a o us hs vs,x= .ref a/\H a=some (DR a o us hs vs)/\Q (.bl true) H)\/∃t,TyX K H x t/\Se K t (.type "dict")=some false/\Q (.bl false) H))
theorem Jq4:Jla X (.builtin "isinstance") (Spw X.K):=by
 rintro pins s σ H vs us Q I r ⟨x,rfl,⟨a,o,us',hs,vs',rfl,ea,k⟩|⟨t,ty,e,k⟩⟩
 ·obtain ⟨v,w',rfl,r1,r2⟩:=Jwb r;obtain rfl:v=Value.ref a:=r1;cases r2;obtain ⟨_,es,ep,_,⟨o,h1,h2,_⟩,_⟩:=Jnk I ea;exact PySem.W.kia_one PySem.W.kitx_dict I.kIn ⟨o,h1,h2.1⟩ rfl (λz=>nomatch z) λtk=>⟨.bl true,H,I.tok _,rfl,k⟩
 ·exact Jl2 pins s σ H _ us Q I r ⟨x,_,_,t,false,rfl,rfl,ty,e,k⟩
end
section
variable {prog:S7} {w:S9} {A:Sa} {E:S2->S3->Prop} {s:S3} {d o:S1} {ep epo:Nat}
theorem Ya6 {e:DictEntry} {k:Ky} {Q:Unit->S3->Prop} (hu:A.units+6 < cLine) (r:Sa4 s.heap d #[] ep) (ke:Jr4 w s.heap k e) (ko:k.ok 6=true) (q:∀h' ep',Sa4 h' d #[e] ep'->yz d s.heap h'->Q () {s with heap:=h'}):
  Sc (model prog w) A (dictSetHashed d e.key e.hash e.val) Q E s:=by
 unfold dictSetHashed
 try with_reducible refine wpAny_holding ?_
 rw [ke.hs];refine S4 (Ju3 (A:=A) hu r (ks:=[]) .nil ycd ke.rd (by unfold Jwq;simp [ko]) ?_);obtain ⟨o,h1,h2,h3⟩:=r;have ee:(#[]:Array DictEntry).push ⟨k.hash w,e.key,e.val⟩= #[e]:=by
  rw [<-ke.hs];rfl
 show Sc _ _ (rule "dict.set.new-key-at-the-end" >>=_) _ _ _;refine S4 (wpAny_rule (wpAny_updateDictKeys (hz:=yw _) h1 h3 (q _ (ep+1) ?_ (yz.update ..))));rw [<-ee];exact ⟨_,ybc _ h1 (Obj.isFreed_of_dict (Obj.data_mapDictKeys h3 _)),h2.mapDictKeys _,Obj.data_mapDictKeys h3 _⟩
theorem Jx9 {nm:String} {e:DictEntry} {k:Ky} {Q:Unit->S3->Prop} (hu:A.units+16 < cLine) (ne:d≠o) (hoS:(o==sysModules)=false) (rd:Sa4 s.heap d #[] ep) (ro:Sa4 s.heap o #[e] epo) (ke:Jr4 w s.heap k e) (ko:k.ok 6=true)
  (q:∀h' ep',Sa4 h' d #[e] ep'->yz d s.heap h'->Q () {s with heap:=h'}):Sc (model prog w) A (Builtin.Dict.mergeDict nm d o) Q E s:=by
 obtain ⟨oo,g1,g2,g3⟩:=id ro;obtain ⟨od,h1,h2,h3⟩:=id rd;unfold Builtin.Dict.mergeDict;rw [if_neg (by simpa using ne)];unfold Builtin.Dict.showsAll;rw [if_neg (by rw [hoS];decide)];refine S4 (S5 (S4 (wpAny_dictEntries g1 g3 ?_)));cases hk:(keyPart e.key).isSome with
 |true=>
  rw [if_neg (by simp [hk])];refine S4 (wpAny_dictEpoch g1 g3 (S4 (wpAny_dictEntries g1 g3 (S4 ?_))));rw [Std.Legacy.Range.forIn_eq_forIn_range'];simp only [Std.Legacy.Range.size,Nat.sub_zero,Nat.add_sub_cancel,Nat.div_one];rw [show List.range' 0 (#[e]:Array DictEntry).size= [0] from rfl,ybm];refine S4 (S4 (wpAny_dictEntries g1 g3 ?_));show Sc _ _ (holding [e.key,e.val] (dictSetHashed d e.key e.hash e.val) >>=_) _ _ _;refine S4 (wpAny_holding (Ya6 (by omega) rd ke ko λh' ep' r' sb=>?_));have g1':h'.get? o=some oo:=(sb.2 o (yu ne)).trans g1;refine S4 (wpAny_dictEpoch (s:={s with heap:=h'}) g1' g3 ?_);rw [if_neg (by simp)];refine S5 ?_;show Sc _ _ (forIn [] PUnit.unit _) _ _ _;rw [ycb];exact S5 (S5 (q h' ep' r' sb))
 |false=>
  rw [if_pos (by simp [hk])];refine S4 (wpAny_dictEntries h1 h3 ?_);rw [if_pos (show (#[]:Array DictEntry).isEmpty=true from rfl)];unfold Builtin.Dict.entriesForEmpty;refine S4 (S4 (wpAny_dictEntries g1 g3 (S4 ?_)));have tt:∃a,e.key= .ref a/\s.TypeIs (.ref a) "tuple" :=by
   obtain ⟨as,r⟩:=ke.rd;generalize e.key=ky at r hk;cases k with
   |non=>cases r;cases hk
   |int i=>cases r;cases hk
   |str x=>cases r;cases hk
   |tup ks=>
    cases r with
    | @tuple a o' vs n _ _ z1 z2 z3 z4=>exact ⟨a,rfl,o',z1,z2⟩
  obtain ⟨a,ea,ty⟩:=tt;rw [<-Array.forIn_toList];show Sc _ _ (forIn [e] PUnit.unit _) _ _ _;rw [ybm];unfold Builtin.Dict.quietEq;rw [ea];dsimp only;refine S4 (S4 (S4 (wpAny_specialOf ty F.slot_tuple_eq.lookup (S5 ?_))));rw [if_pos (by decide),if_neg (by have h:(Array.filter (λx:DictEntry=>x.hash==e.hash) #[e]).size<=1:=Array.size_filter_le;omega)];refine S5 ?_;show Sc _ _ (forIn [] PUnit.unit _) _ _ _;rw [ycb];refine S5 (S5 ?_);rw [if_pos (show (!(#[e]:Array DictEntry).isEmpty)=true from rfl)];refine S4 (wpAny_updateDictKeys (hz:=yw _) (hf:=yg _) h1 h3 (S5 (q _ (ep+1) ?_ (yz.update ..))));exact ⟨_,ybc _ h1 (Obj.isFreed_of_dict (Obj.data_mapDictKeys h3 _)),h2.mapDictKeys _,Obj.data_mapDictKeys h3 _⟩
end
section
variable {X:Cx}
theorem Jqf {α:Type} {F:α->DictEntry->Prop} {a:α} {arr:Array DictEntry} (h:Paired F [a] arr.toList):∃e,arr= #[e]/\F a e:=by
 obtain ⟨l⟩:=arr;cases h with
 |cons h1 t=>
  cases t;exact ⟨_,rfl,h1⟩
theorem Jwj (hu:X.A.units+64 < cLine):Jla X (.type "dict") (λxs H Q=>∃a o y k v,xs= [V.ref a]/\DcA X.K X.w H a o [k] [y] [v]/\k.ok 6=true/\∀p o',H p=none->Q (.ref p) (upd H p (DR p o' [y] [k.hash X.w] [v]))):=by
 rintro pins s σ H xs us Q I r ⟨a,o,y,k,v,rfl,dc,ko,q⟩;obtain ⟨u,rfl,r2⟩:=Jlz r;obtain rfl:u=Value.ref a:=r2;obtain ⟨hd,z,arr,ep,ed,ra,pk,pu,pv,ph⟩:=dc.raw I;obtain ⟨e,rfl,ke⟩:=Jqf pk;have ru:Su y e.key:=by cases pu with|cons h _=>exact h
 have rv:Su v e.val:=by cases pv with|cons h _=>exact h
 refine callType_codes (Q₁:=λobj s₁=>obj= .ref s.heap.objs.size/\s₁={s with heap:=s.heap.push {cls:=.type "dict",data:=.dict #[]}}) PySem.F.kt_called_dict (PySem.F.kt_typeCall_dict_1 _) PySem.F.entry_dict_init (kt_code_dict_new _ ⟨rfl,rfl⟩) ?_;rintro obj s₁ ⟨rfl,rfl⟩;have rn:Sa4 (s.heap.push {cls:=.type "dict",data:=.dict #[]}) s.heap.objs.size #[] 0:=⟨_,yn _ rfl,⟨rfl,rfl,rfl⟩,rfl⟩;have ra1:Sa4 (s.heap.push {cls:=.type "dict",data:=.dict #[]}) a #[e] ep:=by
  obtain ⟨o,e1,e2,e3⟩:=ra;exact ⟨o,yh _ e1,e2,e3⟩
 have ke1:Jr4 X.w (s.heap.push {cls:=.type "dict",data:=.dict #[]}) k e:=⟨let ⟨as,r⟩:=ke.rd;⟨as,Jtn (λ_ _ q=>yh _ q) _ _ _ r⟩,ke.hs⟩;have ne:s.heap.objs.size≠a:=yu (yt (by obtain ⟨o,e,_⟩:=ra;exact yi e));have tn:Shared.TypeIs {s with heap:=s.heap.push {cls:=.type "dict",data:=.dict #[]}} (.ref s.heap.objs.size) "dict" :=Sa4.typeIs (s:={s with heap:=s.heap.push {cls:=.type "dict",data:=.dict #[]}}) rn;have ta:Shared.TypeIs {s with heap:=s.heap.push {cls:=.type "dict",data:=.dict #[]}} (.ref a) "dict" :=Sa4.typeIs (s:={s with heap:=s.heap.push {cls:=.type "dict",data:=.dict #[]}}) ra1;refine ⟨tn,PySem.F.args_dict_init_2 _ _,?_⟩;refine S4 (S4 (wpAny_notOrdered_dict tn (S5 (S4 (wpAny_typeOf ta ?_)))));dsimp only;rw [if_neg (by decide)];unfold Builtin.Dict.merge Builtin.Dict.readDirectly;refine S4 (S4 (S4 (wpAny_isInstance ta isSubtype_dict_dict ?_)));simp only [Bool.not_true,ybh,if_false];refine S4 (wpAny_specialOf ta F.slot_dict_iter.lookup (S5 ?_));simp only [beq_self_eq_true,if_true];refine S4 (S5 ?_);refine Jx9 (s:={s with heap:=s.heap.push {cls:=.type "dict",data:=.dict #[]}}) ?hu ne hd rn ra1 ke1 ko λh' ep' r' sb=>?_
 case hu=>simp only [Around.in1_units];omega
 show Sc _ _ (Builtin.Dict.addKeywords s.heap.objs.size [] >>=_) _ _ _;refine S4 (S5 (S5 ⟨rfl,?_⟩));have kp:∀b o,s.heap.get? b=some o->h'.get? b=some o:=λb o e=>(sb.2 b (λz=>absurd (yi e) (by rw [z];exact yaq _))).trans (yh _ e);obtain ⟨o',ok⟩:=Y6 (P:=X.prog) (w:=X.w) (H:=H) (us:=[y]) (hs:=[k.hash X.w]) (vs:=[v]) r' (beq_eq_false_iff_ne.mpr (yu (yt I.big))) (show 1<=S6 by decide) (.cons ru .nil) (.cons ke.hs .nil) (.cons rv .nil);exact ⟨.ref s.heap.objs.size,_,I.laid kp (yg _) ok,rfl,q _ o' (I.hok.fresh (yg _))⟩
end
section
variable {prog:S7} {w:S9} {A:Sa} {E:S2->S3->Prop} {s:S3} {a b:S1} {ep ep':Nat} {e e':DictEntry} {k:Ky}
theorem Ybb (k:Ky):Ky.at [k] k=some 0:=Sjw (by simp) rfl
theorem Jzc {nm:String} {Q:Bool->S3->Prop} (hu:A.units+16 < cLine) (ha:(a==sysModules)=false) (hb:(b==sysModules)=false) (ra:Sa4 s.heap a #[e] ep) (rb:Sa4 s.heap b #[e'] ep') (ke:Jr4 w s.heap k e) (ke':Jr4 w s.heap k e') (ko:k.ok 6=true) (he:SeqAt.EqAt A s e.val e'.val true) (q:Q true s):
  Sc (model prog w) A (Builtin.Dict.samePairs nm a b) Q E s:=by
 obtain ⟨oa,h1,h2,h3⟩:=id ra;obtain ⟨ob,g1,g2,g3⟩:=id rb;unfold Builtin.Dict.samePairs Builtin.Dict.showsAll;rw [if_neg (by rw [ha];decide),if_neg (by rw [hb];decide)];refine S4 (S5 (S4 (S5 (S4 (wpAny_dictEntries h1 h3 ?_)))));dsimp only;refine S4 (wpAny_dictEntries g1 g3 ?_);rw [if_neg (by simp)];refine S4 (wpAny_dictEpoch h1 h3 (S4 ?_));rw [Std.Legacy.Range.forIn_eq_forIn_range'];simp only [Std.Legacy.Range.size,Nat.sub_zero,Nat.add_sub_cancel,Nat.div_one];rw [show List.range' 0 (#[e]:Array DictEntry).size= [0] from rfl,ybm];refine S4 (S4 (wpAny_dictEntries h1 h3 ?_));rw [show (#[e]:Array DictEntry)[0]?=some e from rfl];dsimp only;rw [ke.hs];refine S4 (wpAny_holding (S4 (Ju3 (by omega) rb (ks:=[k]) (.cons ke' .nil) (by simp) ke.rd (by unfold Jwq;simp [ko]) ?_)));rw [Ybb];dsimp only;refine S4 (wpAny_dictEntries g1 g3 ?_);rw [show (#[e']:Array DictEntry)[0]?=some e' from rfl];dsimp only;refine wpAny_holding (he prog w _ _ ?_);show Sc _ _ (if (!true)=true then _ else _) _ _ _;rw [if_neg (by decide)];refine S4 (wpAny_dictEpoch h1 h3 ?_);rw [if_neg (by simp)];refine S5 ?_;show Sc _ _ (forIn [] _ _) _ _ _;rw [ycb];exact S5 (S5 q)
theorem Ycc {Q:S2->S3->Prop} (hu:A.units+64 < cLine) (ha:(a==sysModules)=false) (hb:(b==sysModules)=false) (ra:Sa4 s.heap a #[e] ep) (rb:Sa4 s.heap b #[e'] ep') (ke:Jr4 w s.heap k e) (ke':Jr4 w s.heap k e') (ko:k.ok 6=true) (he:SeqAt.EqAt A.in1 s e.val e'.val true) (q:Q (.bool false) s):
  Sc (model prog w) A (compareOp .NotEq (.ref a) (.ref b)) Q E s:=by
 refine wpAny_richCompare_same_room (op:=.NotEq) ra.typeIs rb.typeIs PySem.F.slot_dict_ne (wpAny_call_entry PySem.F.slot_dict_ne ra.typeIs PySem.F.entry_dict_ne ?_ (PySem.F.args_dict_ne_2 _ _)) (by omega);show Sc _ _ (Builtin.Dict.dictSlotArgs "__ne__" ⟨[.ref a,.ref b],[]⟩ >>=_) _ _ s;unfold Builtin.Dict.dictSlotArgs;refine S4 (S4 (wpAny_notOrdered_dict ra.typeIs ?_));refine S5 (S4 (wpAny_isInstance (T:="dict") rb.typeIs PySem.F.sub_dict_dict ?_));simp only [Bool.not_true,ybh,if_false];refine S4 (S5 (S4 (S5 (S4 (Jzc (by simp only [Around.in1_units];omega) ha hb ra rb ke ke' ko he (S5 ⟨_,rfl,(λx=>by cases x),q⟩))))))
end
theorem Sm4 {X:Cx} (hu:X.A.units+64 < cLine):OpR X (compareOp .NotEq) (λx y H Q=>∃a b o o' k u v,x= .ref a/\y= .ref b/\DcA X.K X.w H a o [k] [u] [v]/\DcA X.K X.w H b o' [k] [u] [v]/\k.ok 6=true/\(Jlx v=true\/∃a,v= .ref a)/\Q (.bl false) H):=by
 rintro pins s σ H x y v u Q I rx ry ⟨a,b,o,o',k,y',v',rfl,rfl,d1,d2,ko,fv,q⟩;obtain rfl:v=Value.ref a:=rx;obtain rfl:u=Value.ref b:=ry;obtain ⟨n1,_,arr,ep,_,ra,pk,_,pv,_⟩:=d1.raw I;obtain ⟨n2,_,arr2,ep2,_,rb,pk2,_,pv2,_⟩:=d2.raw I;obtain ⟨e,rfl,ke⟩:=Jqf pk;obtain ⟨e2,rfl,ke2⟩:=Jqf pk2;have r1:Su v' e.val:=by cases pv with|cons h _=>exact h
 have r2:Su v' e2.val:=by cases pv2 with|cons h _=>exact h
 exact Ycc hu n1 n2 ra rb ke ke2 ko ((Sbz.self fv).at r1 r2) ⟨.bl false,H,I,rfl,q⟩
theorem Jmj {a D} {o':Obj} {us vs:List V} {hs:List Int} {te:TE} {R:Hp->Prop} {H} {o} {rest} (ys) (hD:H D=none) (el:ys.length=us.length) (sz:us.length<=2000) (ll:us.length=vs.length) (hq:H a=some (DR a o' us hs vs))
  (he:∀(i:Nat) x y H' Q,us[i]?=some x->ys[i]?=some y->Si H H'->(∀H5,Si H' H5->Q y H5)->te (some x::rest) H' Q) (hd:∀H',Si H H'->H' D=some (.lst ys)->R H'):
  ∃W:Nat->Nat->St->Hp->Prop,(∃m,W 0 m (o::rest) (upd H D (.lst [])))/\∀i m σ' H',W i m σ' H'->((Jqp a o' us hs vs).stop i H'/\R H')\/((Jqp a o' us hs vs).go i H'/\∃N:St->Hp->Prop,(∀σ2 H2,N σ2 H2->∃m',m' < m/\W (i+1) m' σ2 H2)/\
   ∀x H2,(Jqp a o' us hs vs).yld i H' x H2->Jly 0 x σ' H2 λσ3 H3=>Jsl σ3 H3 λb H4=>if b=true then te σ3 H4 (λv H5=>∃ys,H5 D=some (.lst ys)/\ys.length < S6/\N σ3 (upd H5 D (.lst (ys++ [v])))) else N σ3 H4):=by
 refine Jwk ll (λi σ H'=>(∃o,σ=o::rest)/\H' D=some (.lst (ys.take i))/\Si H H') ⟨⟨_,rfl⟩,So,Si.upd hD⟩ (λi σ H' _ ⟨_,_,sm⟩=>sm _ _ hq) ?_ ?_
 ·rintro i x σ H' hx ⟨⟨o,rfl⟩,hDs,sm⟩;have hi:i < ys.length:=by have:=(yk.mp hx).1;omega
  refine Jkp (he i x ys[i] H' _ hx (yj hi) sm λH5 s5=>⟨_,s5 _ _ hDs,?_,⟨_,rfl⟩,?_,λc u z=>?_⟩)
  ·rw [yaf];exact Jkc (by omega)
  ·rw [So,yad,yj hi];rfl
  ·rw [Sy (Jjm z hD)];exact s5 _ _ (sm _ _ z)
 ·rintro σ H' ⟨_,hDs,sm⟩;rw [yaj (by omega)] at hDs;exact hd H' sm hDs
theorem Jta {a D} {o':Obj} {us vs:List V} {hs:List Int} {te:TE} {R:Hp->Prop} {H} {o} {rest} (ys) (hD:H D=none) (el:ys.length=us.length) (sz:us.length<=2000) (ll:us.length=vs.length) (hq:H a=some (DR a o' us hs vs))
  (he:∀(i:Nat) x y H' Q,vs[i]?=some x->ys[i]?=some y->Si H H'->(∀H5,Si H' H5->Q y H5)->te (some x::rest) H' Q) (hd:∀H',Si H H'->H' D=some (.lst ys)->R H'):
  ∃W:Nat->Nat->St->Hp->Prop,(∃m,W 0 m (o::rest) (upd H D (.lst [])))/\∀i m σ' H',W i m σ' H'->((Jqq a o' us hs vs).stop i H'/\R H')\/((Jqq a o' us hs vs).go i H'/\∃N:St->Hp->Prop,(∀σ2 H2,N σ2 H2->∃m',m' < m/\W (i+1) m' σ2 H2)/\
   ∀x H2,(Jqq a o' us hs vs).yld i H' x H2->Jly 0 x σ' H2 λσ3 H3=>Jsl σ3 H3 λb H4=>if b=true then te σ3 H4 (λv H5=>∃ys,H5 D=some (.lst ys)/\ys.length < S6/\N σ3 (upd H5 D (.lst (ys++ [v])))) else N σ3 H4):=by
 refine Jwl ll (λi σ H'=>(∃o,σ=o::rest)/\H' D=some (.lst (ys.take i))/\Si H H') ⟨⟨_,rfl⟩,So,Si.upd hD⟩ (λi σ H' _ ⟨_,_,sm⟩=>sm _ _ hq) ?_ ?_
 ·rintro i x σ H' hx ⟨⟨o,rfl⟩,hDs,sm⟩;have hi:i < ys.length:=by have:=(yk.mp hx).1;omega
  refine Jkp (he i x ys[i] H' _ hx (yj hi) sm λH5 s5=>⟨_,s5 _ _ hDs,?_,⟨_,rfl⟩,?_,λc u z=>?_⟩)
  ·rw [yaf];exact Jkc (by omega)
  ·rw [So,yad,yj hi];rfl
  ·rw [Sy (Jjm z hD)];exact s5 _ _ (sm _ _ z)
 ·rintro σ H' ⟨_,hDs,sm⟩;rw [yaj (by omega)] at hDs;exact hd H' sm hDs
theorem Jn5 {K} {a D} {o':Obj} {us vs:List V} {hs:List Int} {te:TE} {R:Hp->Prop} {H} {o p} {rest} (ys) (hD:H D=none) (el:ys.length=us.length) (sz:us.length<=2000) (ll:us.length=vs.length) (hq:H a=some (DR a o' us hs vs))
  (he:∀(i:Nat) x u y H' Q,us[i]?=some x->vs[i]?=some u->ys[i]?=some y->Si H H'->(∀H5,Si H' H5->Q y H5)->te (some x::some u::rest) H' Q) (hd:∀H',Si H H'->H' D=some (.lst ys)->R H'):
  ∃W:Nat->Nat->St->Hp->Prop,(∃m,W 0 m (o::p::rest) (upd H D (.lst [])))/\∀i m σ' H',W i m σ' H'->((ItD a o' us hs vs).stop i H'/\R H')\/((ItD a o' us hs vs).go i H'/\∃N:St->Hp->Prop,(∀σ2 H2,N σ2 H2->∃m',m' < m/\W (i+1) m' σ2 H2)/\
   ∀x H2,(ItD a o' us hs vs).yld i H' x H2->Shx K 2 (Jqr (Jly 0) (Jqr (Jly 1) Sj3)) x σ' H2 λσ3 H3=>Jsl σ3 H3 λb H4=>if b=true then te σ3 H4 (λv H5=>∃ys,H5 D=some (.lst ys)/\ys.length < S6/\N σ3 (upd H5 D (.lst (ys++ [v])))) else N σ3 H4):=by
 refine ⟨λi m σ H'=>m=us.length - i/\i<=us.length/\(∃o p,σ=o::p::rest)/\H' D=some (.lst (ys.take i))/\Si H H',⟨us.length,by simp,yw _,⟨_,_,rfl⟩,So,Si.upd hD⟩,?_⟩;rintro i m σ H' ⟨rfl,hi,⟨o,p,rfl⟩,hDs,sm⟩;by_cases hlt:i < us.length
 ·refine .inr ⟨⟨sm _ _ hq,hlt⟩,λσ H'=>(∃o p,σ=o::p::rest)/\H' D=some (.lst (ys.take (i+1)))/\Si H H',λσ' H' p'=>⟨us.length - (i+1),by omega,rfl,hlt,p'⟩,λx H2 y=>?_⟩;obtain ⟨T,k,u,hT,rfl,h1,h2,rfl⟩:=y;have sT:=Si.upd (o:=.tup [k,u]) hT;have hj:i < ys.length:=by omega
  refine Ske (SqT.of So) (he i k u ys[i] _ _ h1 h2 (yj hj) (sm.trans sT) λH5 s5=>⟨_,s5 _ _ (sT _ _ hDs),?_,⟨_,_,rfl⟩,?_,λc u z=>?_⟩)
  ·rw [yaf];exact Jkc (by omega)
  ·rw [So,yad,yj hj];rfl
  ·rw [Sy (Jjm z hD)];exact s5 _ _ (sT _ _ (sm _ _ z))
 ·have e:i=us.length:=by omega
  subst e;rw [yaj (by omega)] at hDs;exact .inl ⟨⟨sm _ _ hq,yg _⟩,hd _ sm hDs⟩
end L2
namespace L2
open PySem PySem.Spec PyProof.Rows
section
variable {X:Cx} {P:S7} {w:S9} {K:Sd} {mg:Str->Option S2} {base:Sb} {k j l:Nat} {f:S1} {fd:S8} {ps:List Str} {sp:Sp} {sq:S1->Sp} {x y:Str} {st:Stmt} {p pos:Pos} {e:Expr} {es:List Expr} {t:TA}
inductive Yap (i:Nat) (f:S1) (sp:Sp) (t:TA) (σ:St) (H:Hp) (Q:VK):Prop where
 |mk (_:σ[i]?=some (some (.ref f))) (_:t σ H λvs H1=>sp vs H1 Q E0)
theorem Yq (F:FT X.K X.mg y st ps f fd) (G:Sr X.prog X.w X.K X.mg X.base CX0 k f fd ps sp) (hr:Sai j X.A) (hk:k<=j) (i) (ha:PA X (e::es) t) (hN:X.N[i]?=some x:=by rfl) (hv:Vis X.env.scope x:=by first|exact ye rfl|exact yak (ye rfl)|exact yak (yak rfl))
  (hd:(x==("__debug__" :Str))=false:=by decide) (hcd:(x==("__classdict__" :Str))=false:=by decide) (he:starEach (e::es) X.env=(false,eval e X.env)::starEach es X.env:=by rfl) (hpl:(backTo pos (starEach es X.env)).any (·.1)=false:=by rfl):
  PE X (.Call (.Name x p) (e::es) [] pos) (Yap i f sp t):=by
 rintro pins s σ H Q I ⟨hf,h⟩;refine wpAny_Call_Name_kw (thn (Jx3 hN hv hd hcd pins s σ H (λv H'=>v= .ref f/\H'=H) I ⟨_,hf,rfl,rfl⟩) λu s1 zq=>?_);obtain ⟨v,H',I1,r,e1,e2⟩:=zq;subst e1 e2;cases r;exact PySem.W.callWith_K I1.kIn F.fn.kp (thn (ha pos pins s1 σ H' _ I1 h) λus s2 ⟨vs,H2,I2,r,q2⟩=>⟨I2.kIn,Jxa G (hr.mono hk) F.bd .nil Jox I2 r (by rw [ybg];exact q2)⟩) he hpl
theorem Jz4 (eP:X.prog=P) (ew:X.w=w) (eK:X.K=K) (em:X.mg=mg) (eb:X.base=base) (F:FT K mg y st ps f fd) (G:Sr P w K mg base CX0 k f fd ps sp) (GL:∀f,Jv4 P w K mg base CX0 l f (sq f)) (hr:Sai j X.A) (hk:k<=j) (hl:l<=j) (i) (ha:PA X (e::es) t) (hN:X.N[i]?=some x:=by rfl) (hv:Vis X.env.scope x:=by first|exact ye rfl|exact yak (ye rfl)|exact yak (yak rfl))
  (hd:(x==("__debug__" :Str))=false:=by decide) (hcd:(x==("__classdict__" :Str))=false:=by decide) (he:starEach (e::es) X.env=(false,eval e X.env)::starEach es X.env:=by rfl) (hpl:(backTo pos (starEach es X.env)).any (·.1)=false:=by rfl):
  PE X (.Call (.Name x p) (e::es) [] pos) (λσ H Q=>Yap i f sp t σ H Q\/Yaq i sq (λ_=>E0) t σ H Q):=by
 subst eP ew eK em eb;rintro pins s σ H Q I (h|h)
 ·exact Yq F G hr hk i ha hN hv hd hcd he hpl pins s σ H Q I h
 ·exact Yr GL hr hl i ha hN hv hd hcd he hpl pins s σ H Q I h
theorem Yc1 (F:FT X.K X.mg x st ps f fd) (hg:Gl X x:=by rfl) (hdb:(x==("__debug__" :Str))=false:=by decide):PE X (.Name x p) (tC (.ref f)):=λpins s σ H Q I h=>Joi I hg F.mgx ⟨.ref f,H,I,rfl,h⟩ hdb
end
noncomputable def Si1 (s:Stmt):Expr:=match ((Jkq s)[1]?:Option Stmt) with
 |some (.If (.UnaryOp _ (.Call _ es _ _) _) _ _ _)=>((es[3]?:Option Expr)).getD (.Constant .none 0 ⟨0,0,0,0⟩)
 |_=>.Constant .none 0 ⟨0,0,0,0⟩
end L2
namespace L2
open PySem PySem.Spec PyProof.Rows PySem.W
noncomputable def Spy (K:Sd) (w:S9):R2:=λx y H Q=>(x=y/\Jlx x=true/\Q (.bl false) H)\/(∃p vs,x= .ref p/\y= .ref p/\H p=some (.tup vs)/\(∀v∈vs,Jnm v)/\Q (.bl false) H)\/(∃p q vs,x= .ref p/\y= .ref q/\H p=some (.lst vs)/\H q=some (.lst vs)/\(∀v∈vs,Jnm v)/\Q (.bl false) H)\/
 ∃a b o o' k u v,x= .ref a/\y= .ref b/\DcA K w H a o [k] [u] [v]/\DcA K w H b o' [k] [u] [v]/\k.ok 6=true/\Jnm v/\Q (.bl false) H
theorem Sm5 {X:Cx} (hu:X.A.units+64 < cLine):OpR X (compareOp .NotEq) (Spy X.K X.w):=by
 rintro pins s σ H x y v u Q I rx ry (⟨rfl,h,q⟩|⟨p,vs,rfl,rfl,h,hv,q⟩|⟨p,p',vs,rfl,rfl,h1,h2,hv,q⟩|h)
 ·have z:Smj x x=true:=by
   cases x with
   |non=>rfl
   |bl b=>rfl
   |int i=>rfl
   |str i=>rfl
   |_=>cases h
  exact Jy1 pins s σ H x x v u Q I rx ry ⟨z,by simpa using q⟩
 ·exact Sm7 hu pins s σ H _ _ v u Q I rx ry ⟨p,p,vs,vs,yo vs.length true,rfl,rfl,SqT.of h,SqT.of h,rfl,by simp,Jto hv,by rw [Jro];exact q⟩
 ·exact Sm6 hu pins s σ H _ _ v u Q I rx ry ⟨p,p',vs,vs,yo vs.length true,rfl,rfl,Ss.of h1,Ss.of h2,rfl,by simp,Jto hv,by rw [Jro];exact q⟩
 ·exact Sm4 hu pins s σ H _ _ v u Q I rx ry h
section
variable {X:Cx} {es:List Expr} {t:TA} {pos:Pos} {x1:Nat}
inductive Ycz (Q:VK) (xs:List V) (H1:Hp):Prop where
 |mk (_:xs.length<=40) (_:∀p H',H1 p=none->Si H1 H'->H' p=some (.tup xs)->Q (.ref p) H')
noncomputable def Sqw (t:TA):TE:=λσ H Q=>t σ H (Ycz Q)
inductive Ycv (Q:VK) (xs:List V) (H1:Hp):Prop where
 |mk (_:xs.length<=40) (_:∀p H',H1 p=none->Si H1 H'->H' p=some (.lst xs)->Q (.ref p) H')
noncomputable def Sqr (t:TA):TE:=λσ H Q=>t σ H (Ycv Q)
theorem s40 {n:Nat} (h:n<=40):n<=S6:=yae h (by decide)
theorem Jk7 (h:PA X es t):PE X (.Tuple es x1 pos) (Sqw t):=by
 intro pins s σ H Q I hq;refine wpAny_Tuple_spliced (thn (h pos pins s σ H _ I hq) λus s1 ⟨xs,H1,I1,r,z,q⟩=>⟨by rw [<-r.length];exact s40 z,⟨.ref s1.heap.objs.size,upd H1 s1.heap.objs.size (.tup xs),I1.laid (λb u e=>yh _ e) (yg _) ?_,rfl,q _ _ I1.fresh (Si.upd I1.fresh) So⟩⟩);exact ⟨s40 z,us,r,⟨_,yn _ rfl,rfl,_,rfl⟩⟩
theorem Jke (h:PA X es t):PE X (.List es pos) (Sqr t):=by
 intro pins s σ H Q I hq;refine wpAny_List_spliced (thn (h pos pins s σ H _ I hq) λus s1 ⟨xs,H1,I1,r,z,q⟩=>⟨by rw [<-r.length];exact s40 z,⟨.ref s1.heap.objs.size,upd H1 s1.heap.objs.size (.lst xs),I1.laid (λb u e=>yh _ e) (yg _) ?_,rfl,q _ _ I1.fresh (Si.upd I1.fresh) So⟩⟩);exact ⟨s40 z,us,0,r,yn _ rfl⟩
noncomputable def Sn6:TE:=λ_ H Q=>∀p H',H p=none->Si H H'->H' p=some (.dK [])->Q (.ref p) H'
theorem Jma:PE X (.Dict [] [] pos) Sn6:=λpins s σ H Q I h=>Jpp pins s σ H Q I λp n=>h p _ n (Si.upd n) So
inductive Spt (x:V) (y:V) (H:Hp) (Q:VK):Prop where
 |mk (l:_) (b:_) (xs:_) (zs:_) (_:x= .ref l) (_:y= .ref b) (_:H l=some (.lst xs)) (_:H b=some (.lst zs)) (_:xs.length+zs.length<=40) (_:∀p H',H p=none->Si H H'->H' p=some (.lst (xs++zs))->Q (.ref p) H')
theorem Jok:OpR X (binaryOp .Add) Spt:=by
 rintro pins s σ H x y v u Q I rx ry ⟨l,b,xs,zs,e1,e2,h1,h2,hz,q⟩;exact Jup pins s σ H x y v u Q I rx ry ⟨l,b,xs,zs,e1,e2,h1,h2,s40 hz,λp n=>q p _ n (Si.upd n) So⟩
inductive Spz (x:V) (y:V) (H:Hp) (Q:VK):Prop where
 |mk (l:S1) (v:V) (k:Nat) (_:x= .ref l) (_:y= .int k) (_:H l=some (.lst [v])) (_:k<=40) (_:∀p H',H p=none->Si H H'->H' p=some (.lst (yo k v))->Q (.ref p) H')
theorem Jy8 (v:V):∀k:Nat,(yo k [v]).flatten=yo k v
 |0=>rfl
 |k+1=>by rw [ybu,ybu,List.flatten_cons,Jy8 v k];rfl
theorem Jpm:OpR X (binaryOp .Mult) Spz:=by
 rintro pins s σ H x y v u Q I rx ry ⟨l,z,k,e1,e2,h1,hk,q⟩;refine Sm8 pins s σ H x y v u Q I rx ry ⟨l,k,[z],e1,e2,h1,by omega,by omega,?_,λp n=>?_⟩
 ·rw [List.length_singleton,Nat.one_mul];exact s40 (by omega)
 ·have e:(yo (k:Int).toNat [z]).flatten=yo k z:=Jy8 z k;rw [e];exact q p _ n (Si.upd n) So
inductive Svc (K:Sd) (x:V) (lo:Option Int) (hi:Option Int) (H:Hp) (Q:VK):Prop where
 |mk (a:_) (xs:_) (_:x= .ref a) (_:SqT K H a xs) (_:¬(HT.sIx xs.length 0 lo=0/\HT.sIx xs.length xs.length hi=xs.length)) (_:∀p H',H p=none->Si H H'->H' p=some (.tup (Jon xs lo hi))->Q (.ref p) H')
theorem Juv:SlR X (Svc X.K):=by
 rintro pins s σ H x v vl vu lo hi sl Q I rx hs pl pu ⟨a,xs,e,h,n,q⟩;exact Smk pins s σ H x v vl vu lo hi sl Q I rx hs pl pu ⟨a,xs,e,h,n,λp hp=>q p _ hp (Si.upd hp) So⟩
end
section
variable {X:Cx} {pos:Pos}
noncomputable def Ycu:TE:=λ_ H Q=>∀p o H',H p=none->Si H H'->H' p=some (DR p o [] [] [])->Q (.ref p) H'
theorem Jm4:PE X (.Dict [] [] pos) Ycu:=λpins s σ H Q I h=>Yt pins s σ H Q I λp o n=>h p o _ n (Si.upd n) So
end
end L2

namespace K55
local macro_rules|`(tactic|omega)=>`(tactic|first|lia|omega)
open PySem L2 PyProof.Rows PySem.NumText
noncomputable def top (i:Nat):Stmt:=PySem.Challenge.pw_weirwatch_k55_whatever_as_tables.main.body.getD i (.Pass ⟨0,0,0,0⟩)
set_option genInjectivity false in
structure Ad where
 Jel:S1
 Jem:S8
 Jen:S1
 Jeo:S8
 Jep:S1
 Jeq:S8
 Jer:S1
 Jes:S8
 Jet:S1
 Jeu:S8
 Jev:S1
 Jew:S8
 Jex:S1
 Jey:S8
 Jez:S1
 Jf0:S8
 Jf1:S1
 Jf2:S8
 Jf3:S1
 Jf4:S8
 Jf5:S1
 Jf6:S8
 Jf7:S1
 Jf8:S8
 Jf9:S1
 Jfa:S8
 Jfb:S1
 Jfc:S8
 Jfd:S1
 Jfe:S8
 Jff:S1
 Jfg:S8
 Jfh:S1
 Jfi:S8
 Jfj:S1
 Jfk:S8
 Jfl:S1
 Jfm:S8
 Jfn:S1
 Jfo:S8
 Jfp:S1
 Jfq:S8
 Jfr:S1
 Jfs:S8
 Jft:S1
 Jfu:S8
 Jfv:S1
 Jfw:S8
 Jfx:S1
 Jfy:S8
 Jfz:S1
 Jg0:S8
 Jg1:S1
 Jg2:S8
 Jg3:S1
 Jg4:S8
 Jg5:S1
 Jg6:S8
 Jg7:S1
 Jg8:S8
 Jg9:S1
 Jga:S8
 Jgb:S1
 Jgc:S8
 Jgd:S1
 Jge:S8
 Jgf:S1
 Jgg:S8
 Jgh:S1
 Jgi:S8
 Jgj:S1
 Jgk:S8
 Jgl:S1
 Jgm:S8
 Jgn:S1
 Jgo:S8
 Jgp:S1
 Jgq:S8
 Jgr:S1
 Jgs:S8
 Jgt:S1
 Jgu:S8
 Jgv:S1
 Jgw:S8
 Jgx:S1
 Jgy:S8
 Jgz:S1
 Jh0:S8
 Jh1:S1
 Jh2:S8
 Jh3:S1
 Jh4:S8
 Jh5:S1
 Jh6:S8
 Jh7:S1
 Jh8:S8
 Jh9:S1
 Jha:S8
 Jhb:S1
 Jhc:S8
 Jhd:S1
 Jhe:S8
 Jhf:S1
 Jhg:S8
 Jhh:S1
 Jhi:S8
 Jhj:S1
 Jhk:S8
 Jhl:S1
 Jhm:S8
 Jhn:S1
 Jho:S8
 Jhp:S1
 Jhq:S8
 Jhr:S1
 Jhs:S8
 Jht:S1
 Jhu:S8
 Jhv:S1
 Jhw:S8
 Jhx:S1
 Jhy:S8
 Jhz:S1
 Ji0:S8
 Ji1:S1
 Ji2:S8
 Ji3:S1
 Ji4:S8
 Ji5:S1
 Ji6:S8
 Ji7:S1
 Ji8:S8
 Ji9:S1
 Jia:S8
 Jib:S1
 Jic:S8
 Jid:S1
 Jie:S8
 Jif:S1
 Jig:S8
 Jih:S1
 Jii:S8
 a_law:S1
 d_law:S8
 Jij:Tok
 Jik:Tok
 Jil:Tok
 Jim:Tok
 Jin:Tok
 Jio:Tok
 Jip:Tok
 Jiq:Tok
 Jir:Tok
 Jis:Tok
 Jit:S1
 Jiu:S1
 Jiv:S1
 Jiw:S1
 Jix:S1
 Jiy:S1
 Jiz:S1
 Jj0:S1
 Jj1:S1
 Jj2:S1
 Jj3:S1
 Jj4:S1
 Jj5:S1
 Jj6:S1
 Jj7:S1
 Jj8:S1
 Jj9:S1
 Jja:S1
 Jjb:S1
 Jjc:S1
structure Tx (K:Sd) (mg:Str->Option S2) (a:Ad):Prop where
 J0:FT K mg "is_whole" (top 14) ["thing","low","high"] a.Jez a.Jf0
 J1:FT K mg "is_made_of" (top 15) ["text","signs"] a.Jf1 a.Jf2
 J2:FT K mg "is_name" (top 16) ["thing"] a.Jf3 a.Jf4
 J3:FT K mg "is_row" (top 18) ["thing","lows","highs"] a.Jf5 a.Jf6
 J4:FT K mg "is_row_up_to" (top 19) ["thing","highs"] a.Jf7 a.Jf8
 J5:FT K mg "is_pair" (top 20) ["thing"] a.Jf9 a.Jfa
 J6:FT K mg "is_standing" (top 21) ["river","thing"] a.Jfb a.Jfc
 J7:FT K mg "is_choice" (top 22) ["river","thing"] a.Jfd a.Jfe
 J8:FT K mg "forced_rain" (top 23) ["river","wet"] a.Jff a.Jfg
 J9:FT K mg "is_rain" (top 24) ["river","standing","thing"] a.Jfh a.Jfi
 Ja:FT K mg "is_choice_let" (top 34) ["river","stuck","thing"] a.Jfj a.Jfk
 Jb:FT K mg "settings_let" (top 35) ["river","stuck"] a.Jfl a.Jfm
 Jc:FT K mg "product" (top 36) ["numbers"] a.Jfn a.Jfo
 Jd:FT K mg "choices_many" (top 37) ["river","stuck"] a.Jfp a.Jfq
 Je:FT K mg "is_from_one" (top 42) ["thing"] a.Jfr a.Jfs
 Jf:FT K mg "has_standings" (top 43) ["river","table"] a.Jft a.Jfu
 Jg:FT K mg "leads_to_keys" (top 45) ["river","standing","choice","table"] a.Jfv a.Jfw
 Jh:FT K mg "is_keeper_table" (top 46) ["river","stuck","table"] a.Jfx a.Jfy
 Ji:FT K mg "are_answers" (top 47) ["river","stuck","standing","thing"] a.Jfz a.Jg0
 Jj:FT K mg "has_answers" (top 48) ["river","stuck","table","is_head"] a.Jg1 a.Jg2
 Jk:FT K mg "is_sky_table" (top 49) ["river","stuck","table"] a.Jg3 a.Jg4
 Jl:FT K mg "breaks_down" (top 50) ["river","table","standing"] a.Jg5 a.Jg6
 Jm:FT K mg "is_serving_row" (top 51) ["river","stuck","thing"] a.Jg7 a.Jg8
 Jn:FT K mg "are_serving_rows" (top 52) ["river","stuck","thing"] a.Jg9 a.Jga
 Jo:FT K mg "is_serving_table" (top 53) ["river","stuck","table"] a.Jgb a.Jgc
 Jp:FT K mg "serves_all" (top 54) ["river","table","standing"] a.Jgd a.Jge
 Jq:FT K mg "is_town_pair" (top 56) ["river","thing"] a.Jgf a.Jgg
 Jr:FT K mg "is_unserved_table" (top 57) ["river","stuck","sky_table","table"] a.Jgh a.Jgi
 Js:FT K mg "keeps_unpaid" (top 58) ["river","sky_table","table","standing"] a.Jgj a.Jgk
 Jt:FT K mg "are_marks" (top 64) ["thing","lowest"] a.Jgl a.Jgm
 Ju:FT K mg "kept_marks" (top 65) ["marks","lowest"] a.Jgn a.Jgo
 Jv:FT K mg "refuse_no_level" (top 79) ["thing","low","high"] a.Jh5 a.Jh6
 Jw:FT K mg "are_unlike" (top 82) ["names"] a.Jhb a.Jhc
 Jx:FT K mg "are_basins" (top 83) ["thing"] a.Jhd a.Jhe
 Jy:FT K mg "are_towns" (top 84) ["thing","basins"] a.Jhf a.Jhg
 Jz:FT K mg "_law_cell" (top 87) ["_law_script","_law_k"] a.Jhj a.Jhk
 Ja0:FT K mg "_law_stream" (top 88) ["_law_cell_here"] a.Jhl a.Jhm
 Ja1:FT K mg "_law_take" (top 89) ["_law_stream_here","_law_many"] a.Jhn a.Jho
 Ja2:FT K mg "_law_names" (top 90) ["_law_stream_here","_law_many"] a.Jhp a.Jhq
 Ja3:FT K mg "_law_gate" (top 91) ["_law_stream_here","_law_most"] a.Jhr a.Jhs
 Ja4:FT K mg "_law_basin" (top 92) ["_law_stream_here","_law_name","_law_many"] a.Jht a.Jhu
 Ja5:FT K mg "_law_great" (top 93) ["_law_stream_here"] a.Jhv a.Jhw
 Ja6:FT K mg "_law_river" (top 94) ["_law_cell_here"] a.Jhx a.Jhy
 Ja7:FT K mg "_law_made_gate" (top 95) ["_law_told"] a.Jhz a.Ji0
 Ja8:FT K mg "_law_made" (top 96) ["_law_told"] a.Ji1 a.Ji2
 Ja9:FT K mg "_law_choices" (top 102) ["_law_told","_law_stuck_here"] a.Ji3 a.Ji4
 Jaa:FT K mg "_law_standings" (top 103) ["_law_told"] a.Ji5 a.Ji6
 Jab:FT K mg "_law_stuck" (top 104) ["_law_cell_here","_law_told"] a.Ji7 a.Ji8
 Jac:FT K mg "_law_plain" (top 105) ["_law_stream_here"] a.Ji9 a.Jia
 Jad:FT K mg "_law_odd_key" (top 106) ["_law_stream_here","_law_standing"] a.Jib a.Jic
 Jae:FT K mg "_law_odd_value" (top 107) ["_law_stream_here","_law_choice"] a.Jid a.Jie
 Jaf:FT K mg "_law_thing" (top 108) ["_law_stream_here","_law_told"] a.Jif a.Jig
 Jag:FT K mg "_law_kept" (top 109) ["_law_thing_here"] a.Jih a.Jii
 f_law:FT K mg "law" (top 110) ["_law_script"] a.a_law a.d_law
 Jah:mg "LETTERS" =some (.str "abcdefghijklmnopqrstuvwxyz" a.Jij)
 Jai:mg "MOST_LETTERS" =some (.int 8 a.Jik)
 Jaj:mg "MOST_SETTINGS" =some (.int 4 a.Jil)
 Jak:mg "HIGHEST_MARK" =some (.int 12 a.Jim)
 Jal:mg "HIGHEST" =some (.int 12 a.Jin)
 Jam:mg "MOST_RAIN" =some (.int 6 a.Jio)
 Jan:mg "MOST_WANT" =some (.int 6 a.Jip)
 Jao:mg "MOST_CLOUD" =some (.int 12 a.Jiq)
 Jap:mg "MOST_BASINS" =some (.int 16 a.Jir)
 Jaq:mg "MOST_TOWNS" =some (.int 3 a.Jis)
 Jar:mg "all" =none
 Jas:mg "any" =none
 Jat:mg "bool" =none
 Jau:mg "dict" =none
 Jav:mg "enumerate" =none
 Jaw:mg "int" =none
 Jax:mg "isinstance" =none
 Jay:mg "len" =none
 Jaz:mg "list" =none
 Jb0:mg "max" =none
 Jb1:mg "min" =none
 Jb2:mg "range" =none
 Jb3:mg "reversed" =none
 Jb4:mg "set" =none
 Jb5:mg "str" =none
 Jb6:mg "sum" =none
 Jb7:mg "tuple" =none
 Jb8:mg "zip" =none
 q82:mg "WeirError" =some (.ref a.Jit)
 Jb9:mg "NoName" =some (.ref a.Jiu)
 Jba:mg "NoGate" =some (.ref a.Jiv)
 Jbb:mg "NoBasin" =some (.ref a.Jiw)
 Jbc:mg "NoTown" =some (.ref a.Jix)
 Jbd:mg "NoCloud" =some (.ref a.Jiy)
 Jbe:mg "NoRiver" =some (.ref a.Jiz)
 Jbf:mg "NoStanding" =some (.ref a.Jj0)
 q90:mg "NoNumber" =some (.ref a.Jj1)
 q91:mg "Turn" =some (.ref a.Jj2)
 Jbg:mg "Gate" =some (.ref a.Jj3)
 Jbh:mg "StepGate" =some (.ref a.Jj4)
 Jbi:mg "FlapGate" =some (.ref a.Jj5)
 Jbj:mg "PartGate" =some (.ref a.Jj6)
 Jbk:mg "StuckGate" =some (.ref a.Jj7)
 Jbl:mg "Basin" =some (.ref a.Jj8)
 Jbm:mg "Town" =some (.ref a.Jj9)
 Jbn:mg "River" =some (.ref a.Jja)
 Jbo:Sf K (.ref a.Jiu) "__init__" =some (some (.ref a.Jel))
 Jbp:Sf K (.ref a.Jiv) "__init__" =some (some (.ref a.Jen))
 Jbq:Sf K (.ref a.Jiw) "__init__" =some (some (.ref a.Jep))
 Jbr:Sf K (.ref a.Jix) "__init__" =some (some (.ref a.Jer))
 Jbs:Sf K (.ref a.Jiy) "__init__" =some (some (.ref a.Jet))
 Jbt:Sf K (.ref a.Jiz) "__init__" =some (some (.ref a.Jev))
 Jbu:Sf K (.ref a.Jj0) "__init__" =some (some (.ref a.Jex))
 Jbv:Sf K (.ref a.Jj4) "__init__" =some (some (.ref a.Jgp))
 Jbw:Sf K (.ref a.Jj4) "settings" =some (some (.ref a.Jgr))
 Jbx:Sf K (.ref a.Jj5) "__init__" =some (some (.ref a.Jgt))
 Jby:Sf K (.ref a.Jj5) "settings" =some (some (.ref a.Jgv))
 Jbz:Sf K (.ref a.Jj6) "__init__" =some (some (.ref a.Jgx))
 Jc0:Sf K (.ref a.Jj6) "settings" =some (some (.ref a.Jgz))
 Jc1:Sf K (.ref a.Jj7) "__init__" =some (some (.ref a.Jh1))
 Jc2:Sf K (.ref a.Jj7) "settings" =some (some (.ref a.Jh3))
 Jc3:Sf K (.ref a.Jj8) "__init__" =some (some (.ref a.Jh7))
 Jc4:Sf K (.ref a.Jj9) "__init__" =some (some (.ref a.Jh9))
 Jc5:Sf K (.ref a.Jja) "__init__" =some (some (.ref a.Jhh))
 Jc6:FM K "__init__" "NoName.__init__" (Jjz (top 3) 0) ["self","thing"] a.Jel a.Jem
 Jc7:FM K "__init__" "NoGate.__init__" (Jjz (top 4) 0) ["self","thing"] a.Jen a.Jeo
 Jc8:FM K "__init__" "NoBasin.__init__" (Jjz (top 5) 0) ["self","thing"] a.Jep a.Jeq
 Jc9:FM K "__init__" "NoTown.__init__" (Jjz (top 6) 0) ["self","thing"] a.Jer a.Jes
 Jca:FM K "__init__" "NoCloud.__init__" (Jjz (top 7) 0) ["self","thing"] a.Jet a.Jeu
 Jcb:FM K "__init__" "NoRiver.__init__" (Jjz (top 8) 0) ["self","thing"] a.Jev a.Jew
 Jcc:FM K "__init__" "NoStanding.__init__" (Jjz (top 9) 0) ["self","thing"] a.Jex a.Jey
 Jcd:FM K "__init__" "StepGate.__init__" (Jjz (top 68) 0) ["self","marks"] a.Jgp a.Jgq
 Jce:FM K "settings" "StepGate.settings" (Jjz (top 68) 1) ["self"] a.Jgr a.Jgs
 Jcf:FM K "__init__" "FlapGate.__init__" (Jjz (top 69) 0) ["self","marks"] a.Jgt a.Jgu
 Jcg:FM K "settings" "FlapGate.settings" (Jjz (top 69) 1) ["self"] a.Jgv a.Jgw
 Jch:FM K "__init__" "PartGate.__init__" (Jjz (top 70) 0) ["self","marks"] a.Jgx a.Jgy
 Jci:FM K "settings" "PartGate.settings" (Jjz (top 70) 1) ["self"] a.Jgz a.Jh0
 Jcj:FM K "__init__" "StuckGate.__init__" (Jjz (top 71) 0) ["self","gate","setting"] a.Jh1 a.Jh2
 Jck:FM K "settings" "StuckGate.settings" (Jjz (top 71) 1) ["self"] a.Jh3 a.Jh4
 Jcl:FM K "__init__" "Basin.__init__" (Jjz (top 80) 0) ["self","name","low","high","start","rain","gate"] a.Jh7 a.Jh8
 Jcm:FM K "__init__" "Town.__init__" (Jjz (top 81) 0) ["self","name","basin","want"] a.Jh9 a.Jha
 Jcn:FM K "__init__" "River.__init__" (Jjz (top 85) 0) ["self","cloud","gain","basins","towns"] a.Jhh a.Jhi
 Jco:Saj K a.Jiu a.Jit a.Jel
 Jcp:Saj K a.Jiv a.Jit a.Jen
 Jcq:Saj K a.Jiw a.Jit a.Jep
 Jcr:Saj K a.Jix a.Jit a.Jer
 Jcs:Saj K a.Jiy a.Jit a.Jet
 Jct:Saj K a.Jiz a.Jit a.Jev
 Jcu:Saj K a.Jj0 a.Jit a.Jex
 Jcv:Cls K a.Jj4
 Jcw:Sfs K a.Jj4
 Jcx:Mk K a.Jj4 a.Jgp
 Jcy:Jwd K a.Jj4 "settings" a.Jgr
 Jcz:Cls K a.Jj5
 Jd0:Sfs K a.Jj5
 Jd1:Mk K a.Jj5 a.Jgt
 Jd2:Jwd K a.Jj5 "settings" a.Jgv
 Jd3:Cls K a.Jj6
 Jd4:Sfs K a.Jj6
 Jd5:Mk K a.Jj6 a.Jgx
 Jd6:Jwd K a.Jj6 "settings" a.Jgz
 Jd7:Cls K a.Jj7
 Jd8:Sfs K a.Jj7
 Jd9:Mk K a.Jj7 a.Jh1
 Jda:Jwd K a.Jj7 "settings" a.Jh3
 Jdb:Cls K a.Jj8
 Jdc:Sfs K a.Jj8
 Jdd:Mk K a.Jj8 a.Jh7
 Jde:Cls K a.Jj9
 Jdf:Sfs K a.Jj9
 Jdg:Mk K a.Jj9 a.Jh9
 Jdh:Cls K a.Jja
 Jdi:Mk K a.Jja a.Jhh
 Jdj:NoAttr K a.Jiu "thing"
 Jdk:NoAttr K a.Jiv "thing"
 Jdl:NoAttr K a.Jiw "thing"
 Jdm:NoAttr K a.Jix "thing"
 Jdn:NoAttr K a.Jj0 "thing"
 Jdo:NoAttr K a.Jj4 "marks"
 Jdp:NoAttr K a.Jj5 "marks"
 Jdq:NoAttr K a.Jj6 "marks"
 Jdr:NoAttr K a.Jj7 "gate"
 Jds:NoAttr K a.Jj7 "setting"
 Jdt:NoAttr K a.Jj8 "name"
 Jdu:NoAttr K a.Jj8 "low"
 Jdv:NoAttr K a.Jj8 "high"
 Jdw:NoAttr K a.Jj8 "start"
 Jdx:NoAttr K a.Jj8 "rain"
 Jdy:NoAttr K a.Jj8 "gate"
 Jdz:NoAttr K a.Jj9 "name"
 Je0:NoAttr K a.Jj9 "basin"
 Je1:NoAttr K a.Jj9 "want"
 Je2:NoAttr K a.Jja "cloud"
 Je3:NoAttr K a.Jja "gain"
 Je4:NoAttr K a.Jja "basins"
 Je5:NoAttr K a.Jja "towns"
 Je6:Nst K a.Jgh a.Jjb a.Jjc
 tnd: [a.Jjc].Nodup
 Je7:Se K (.ref a.Jj4) (.ref a.Jj3)=some true
 Je8:Se K (.ref a.Jj5) (.ref a.Jj3)=some true
 Je9:Se K (.ref a.Jj6) (.ref a.Jj3)=some true
 Jea:Se K (.ref a.Jj7) (.ref a.Jj3)=some true
 Jeb:Se K (.ref a.Jj8) (.ref a.Jj8)=some true
 Jec:Se K (.ref a.Jj9) (.ref a.Jj9)=some true
 Jed:Se K (.ref a.Jj4) (.type "bool")=some false
 Jee:Se K (.ref a.Jj5) (.type "bool")=some false
 Jef:Se K (.ref a.Jj6) (.type "bool")=some false
 Jeg:Se K (.ref a.Jj7) (.type "bool")=some false
 Jeh:W.kitAny K (.ref a.Jj4) [.ref a.Jj4,.ref a.Jj5,.ref a.Jj6,.ref a.Jj7]=some true
 Jei:W.kitAny K (.ref a.Jj5) [.ref a.Jj4,.ref a.Jj5,.ref a.Jj6,.ref a.Jj7]=some true
 Jej:W.kitAny K (.ref a.Jj6) [.ref a.Jj4,.ref a.Jj5,.ref a.Jj6,.ref a.Jj7]=some true
 Jek:W.kitAny K (.ref a.Jj7) [.ref a.Jj4,.ref a.Jj5,.ref a.Jj6,.ref a.Jj7]=some true
noncomputable def Jl7:Int->List V->Bool
 |_,[]=>true
 |lo,.int i::r=>(decide (lo<=i)&&decide (i<=12))&&Jl7 (i+1) r
 |_,_::_=>false
noncomputable def Jnt (lo:Int) (xs:List V):Bool:=decide (1<=xs.length/\xs.length<=4)&&Jl7 lo xs
theorem Jqw (lo:Int) (x:V) (r:List V):Jl7 lo (x::r)=(Jjw x lo 12&&match x with| .int i=>Jl7 (i+1) r|_=>false):=by
 cases x <;> simp [Jl7,Jjw]
inductive Sq (H:Hp):V->List V->Prop where
 |lst {p:S1} {xs:List V}:H p=some (.lst xs)->Sq H (.ref p) xs
 |tup {p:S1} {xs:List V}:H p=some (.tup xs)->Sq H (.ref p) xs
theorem Sq.same {H H':Hp} {x:V} {xs:List V} (s:Si H H') (h:Sq H x xs):Sq H' x xs:=by
 cases h with
 |lst e=>exact .lst (s _ _ e)
 |tup e=>exact .tup (s _ _ e)
theorem Sq.ty {K:Sd} {H:Hp} {x:V} {xs:List V} (h:Sq H x xs):∃t,TyX K H x t/\tpB t=true/\W.kitAny K t [.type "list",.type "tuple"]=some true:=by
 cases h with
 |lst e=>exact ⟨_,.of (.lst e),rfl,rfl⟩
 |tup e=>exact ⟨_,.of (.tup e),rfl,rfl⟩
inductive Shp (K:Sd) (H:Hp) (lo:Int):V->Bool->Prop where
 |seq {x:V} {xs:List V}:Sq H x xs->(∀y∈xs,Tm K H y)->Shp K H lo x (Jnt lo xs)
 |non {x:V} {t:S2}:TyX K H x t->W.kitAny K t [.type "list",.type "tuple"]=some false->Shp K H lo x false
inductive Sq7 (K:Sd) (vs:List V) (H:Hp) (Q:VK) (z3:XK):Prop where
 |mk (x:V) (lo:Int) (b:Bool) (_:vs= [x,.int lo]) (_:Shp K H lo x b) (_:∀H',Si H H'->Q (.bl b) H')
inductive Rf (a:Ad) (H H':Hp) (x:V) (c:S2) (eo:Option S1):Prop where
 |mk (e:_) (dx:_) (_:c= .ref a.Jiv) (_:eo=some e) (_:Si H H') (_:H' e=some (XO e a.Jiv (some dx) false)) (_:H' dx=some (XD dx [("thing",x)]))
theorem Rf.of {a:Ad} {H H1 H':Hp} {x:V} {c:S2} {eo:Option S1} (s:Si H H1) (h:Rf a H1 H' x c eo):Rf a H H' x c eo:=by
 obtain ⟨e,dx,h1,h2,h3,h4,h5⟩:=h;exact ⟨e,dx,h1,h2,s.trans h3,h4,h5⟩
theorem Rf.new {a:Ad} {H:Hp} {x:V} {e dx:S1} (h1:H e=none) (h2:H dx=none) (ne:dx≠e):Rf a H (upd (upd (upd H dx (XD dx [("thing",x)])) e (XO e a.Jiv (some dx) true)) e (XO e a.Jiv (some dx) false)) x (.ref a.Jiv) (some e):=by
 refine ⟨e,dx,rfl,rfl,?_,So,?_⟩
 ·rw [Jm8];intro b o q;rw [Sy (Jjm q h1),Sy (Jjm q h2)];exact q
 ·rw [Sy ne,Sy ne,So]
inductive Smo (K:Sd) (a:Ad) (vs:List V) (H:Hp) (Q:VK) (E:XK):Prop where
 |mk (x:V) (lo:Int) (_:vs= [x,.int lo]) (_:((∃xs,Sq H x xs/\(∀y∈xs,Tm K H y)/\Jnt lo xs=true/\∀t H',Si H H'->H' t=some (.tup xs)->Q (.ref t) H')\/(Shp K H lo x false/\∀c eo H',Rf a H H' x c eo->E c eo H')))
noncomputable def IsC (a:Ad) (C:S1):Prop:=C=a.Jj4\/C=a.Jj5\/C=a.Jj6
inductive Sd1 (C:S1) (H:Hp) (g:S1) (xs:List V):Prop where
 |mk (dx:_) (t:_) (_:H g=some (.ins C dx [("marks",.ref t)])) (_:H t=some (.tup xs))
theorem Sd1.same {C:S1} {H H':Hp} {g:S1} {xs:List V} (s:Si H H') (h:Sd1 C H g xs):Sd1 C H' g xs:=by obtain ⟨dx,t,h1,h2⟩:=h;exact ⟨dx,t,s _ _ h1,s _ _ h2⟩
inductive Jux (K:Sd) (a:Ad) (lo:Int) (vs:List V) (H:Hp) (Q:VK) (E:XK):Prop where
 |mk (p C dx:S1) (x:V) (_:vs= [.ref p,x]) (_:H p=some (.ins C dx [])) (_:Cls K C) (_:NoAttr K C "marks") (_:((∃xs,Sq H x xs/\(∀y∈xs,Tm K H y)/\Jnt lo xs=true/\∀t H',Si H H'->H' t=some (.tup xs)->Q .non (upd H' p (.ins C dx [("marks",.ref t)])))\/(Shp K H lo x false/\∀c eo H',Rf a H H' x c eo->E c eo H')))
inductive Yaj (C:S1) (vs:List V) (H:Hp) (Q:VK) (z3:XK):Prop where
 |mk (p:S1) (xs:List V) (_:vs= [.ref p]) (_:Sd1 C H p xs) (_:Q (.int xs.length) H)
inductive Sqc (vs:List V) (H:Hp) (Q:VK) (z3:XK):Prop where
 |mk (x:_) (_:vs= [x]) (_:Q (.int 1) H)
inductive GS (K:Sd) (a:Ad) (H:Hp):V->Nat->Prop where
 |plain {g C:S1} {xs:List V}:IsC a C->Sd1 C H g xs->xs.length<=4->GS K a H (.ref g) xs.length
 |stuck {g dx:S1} {x y:V}:H g=some (.ins a.Jj7 dx [("gate",x),("setting",y)])->GS K a H (.ref g) 1
theorem GS.same {K:Sd} {a:Ad} {H H':Hp} {x:V} {n:Nat} (s:Si H H') (h:GS K a H x n):GS K a H' x n:=by
 cases h with
 |plain i g l=>exact .plain i (g.same s) l
 |stuck e=>exact .stuck (s _ _ e)
inductive Ycj (K:Sd) (a:Ad) (vs:List V) (H:Hp) (Q:VK) (E:XK):Prop where
 |mk (p dx:S1) (x y:V) (_:vs= [.ref p,x,y]) (_:H p=some (.ins a.Jj7 dx [])) (_:((∃t,TyX K H x t/\Se K t (.ref a.Jj3)=some false/\∀c eo H',Rf a H H' x c eo->E c eo H')\/(∃n,GS K a H x n/\Tm K H y/\Jjw y 0 (n - 1)=false/\∀c eo H',Rf a H H' y c eo->E c eo H')\/(∃n,GS K a H x n/\Tm K H y/\Jjw y 0 (n - 1)=true/\Q .non (upd H p (.ins a.Jj7 dx [("gate",x),("setting",y)])))))
noncomputable def Knd (z:Str):Prop:=z=("step" :Str)\/z=("flap" :Str)\/z=("part" :Str)
noncomputable def Jnz (z:Str):Int:=if z=("part" :Str) then 1 else 0
noncomputable def cOf (a:Ad) (z:Str):S1:=if z=("step" :Str) then a.Jj4 else if z=("flap" :Str) then a.Jj5 else a.Jj6
theorem Jzv {a:Ad} {z:Str}:IsC a (cOf a z):=by
 unfold cOf;split
 ·exact .inl rfl
 ·split
  ·exact .inr (.inl rfl)
  ·exact .inr (.inr rfl)
theorem Sk4:¬(("part" :Str)="step"):=by decide +kernel
theorem Sk3:¬(("part" :Str)="flap"):=by decide +kernel
theorem Sk1:¬(("flap" :Str)="step"):=by decide +kernel
theorem Spk:¬(("flap" :Str)="part"):=by decide +kernel
theorem Spl:¬(("step" :Str)="part"):=by decide +kernel
theorem Sn4 {x y:Str} (h:¬x=y):¬V.str x=V.str y:=λe=>h (V.str.inj e)
noncomputable def LET:Str:="abcdefghijklmnopqrstuvwxyz"
noncomputable def Jt4 (g z:Str):Bool:=z.cps.toList.all λc=>decide (c∈g.cps.toList)
noncomputable def Jnl (z:Str):Bool:=decide (1<=z.length/\z.length<=8)&&Jt4 LET z
structure Wd (n:Nat) (z:Str):Prop where
 len:z.length<=n
 low:∀c∈z.cps.toList,c < 128
theorem Jxx (z:Str):z.cps.toList.length=z.length:=ybx
theorem Jzs {g:Str} {r:Int} (h0:0<=r) (h1:r < g.length):∃c,c∈g.cps.toList/\atI g.cps.toList r=some c:=by
 obtain ⟨n,rfl⟩:=yce h0;have hn:n < g.cps.toList.length:=by rw [Jxx];omega
 exact ⟨g.cps.toList[n],ybn hn,Jpf (yj hn)⟩
theorem Snn {z:Str} {n:Nat} (h:(decide (z.length<=n)&&z.cps.toList.all (λc=>decide (c < 128)))=true):Wd n z:=by
 rw [yag] at h;exact ⟨of_decide_eq_true h.1,λc hc=>of_decide_eq_true (yaw.mp h.2 c hc)⟩
theorem Snm:Wd 26 LET:=Snn (by decide +kernel)
noncomputable def Jme:V->Bool
 | .str z=>Jnl z
 |_=>false
noncomputable def Nmd (K:Sd) (H:Hp) (x:V):Prop:=Tm K H x/\∀z,x= .str z->Wd 50 z
inductive Sms (vs:List V) (H:Hp) (Q:VK) (z3:XK):Prop where
 |mk (z g:Str) (_:vs= [.str z,.str g]) (_:z.length<=2000) (_:∀H',Si H H'->Q (.bl (Jt4 g z)) H')
inductive Smt (K:Sd) (vs:List V) (H:Hp) (Q:VK) (z3:XK):Prop where
 |mk (x:V) (_:vs= [x]) (_:Nmd K H x) (_:∀H',Si H H'->Q (.bl (Jme x)) H')
inductive RfC (C:S1) (H H':Hp) (x:V) (c:S2) (eo:Option S1):Prop where
 |mk (e:_) (dx:_) (_:c= .ref C) (_:eo=some e) (_:Si H H') (_:H' e=some (XO e C (some dx) false)/\H' dx=some (XD dx [("thing",x)]))
theorem RfC.of {C:S1} {H H1 H':Hp} {x:V} {c:S2} {eo:Option S1} (s:Si H H1) (h:RfC C H1 H' x c eo):RfC C H H' x c eo:=by
 obtain ⟨e,dx,h1,h2,h3,h4,h5⟩:=h;exact ⟨e,dx,h1,h2,s.trans h3,h4,h5⟩
theorem RfC.new {C:S1} {H:Hp} {x:V} {e dx:S1} (h1:H e=none) (h2:H dx=none) (ne:dx≠e):RfC C H (upd (upd (upd H dx (XD dx [("thing",x)])) e (XO e C (some dx) true)) e (XO e C (some dx) false)) x (.ref C) (some e):=by
 refine ⟨e,dx,rfl,rfl,?_,So,?_⟩
 ·rw [Jm8];intro b o q;rw [Sy (Jjm q h1),Sy (Jjm q h2)];exact q
 ·rw [Sy ne,Sy ne,So]
inductive Jzh (K:Sd) (a:Ad) (vs:List V) (H:Hp) (Q:VK) (E:XK):Prop where
 |mk (x:V) (lo hi:Int) (_:vs= [x,.int lo,.int hi]) (_:Tm K H x) (_:((Jjw x lo hi=true/\Q .non H)\/(Jjw x lo hi=false/\∀c eo H',RfC a.Jiw H H' x c eo->E c eo H')))
inductive Due (n lo hi st rn g:V) (gb:Bool):Option (Nat×V)->Prop
 |name:Jme n=false->Due n lo hi st rn g gb (some (0,n))
 |low:Jme n=true->Jjw lo 0 12=false->Due n lo hi st rn g gb (some (1,lo))
 |high (l:Int):Jme n=true->lo= .int l->Jjw lo 0 12=true->Jjw hi l 12=false->Due n lo hi st rn g gb (some (1,hi))
 |start (l h:Int):Jme n=true->lo= .int l->hi= .int h->Jjw lo 0 12=true->Jjw hi l 12=true->Jjw st l h=false->Due n lo hi st rn g gb (some (1,st))
 |rain (l h:Int):Jme n=true->lo= .int l->hi= .int h->Jjw lo 0 12=true->Jjw hi l 12=true->Jjw st l h=true->Jjw rn 0 6=false->Due n lo hi st rn g gb (some (1,rn))
 |gate (l h:Int):Jme n=true->lo= .int l->hi= .int h->Jjw lo 0 12=true->Jjw hi l 12=true->Jjw st l h=true->Jjw rn 0 6=true->gb=false->Due n lo hi st rn g gb (some (2,g))
 |good (l h:Int):Jme n=true->lo= .int l->hi= .int h->Jjw lo 0 12=true->Jjw hi l 12=true->Jjw st l h=true->Jjw rn 0 6=true->gb=true->Due n lo hi st rn g gb none
theorem Jts {x:V} {lo hi:Int} (h:Jjw x lo hi=true):∃i,x= .int i:=by
 cases x with
 |int i=>exact ⟨i,rfl⟩
 |_=>cases h
inductive Shf (n b wt:V):Option (Nat×V)->Prop
 |name:Jme n=false->Shf n b wt (some (0,n))
 |basin:Jme n=true->Jme b=false->Shf n b wt (some (0,b))
 |want:Jme n=true->Jme b=true->Jjw wt 1 6=false->Shf n b wt (some (3,wt))
 |good:Jme n=true->Jme b=true->Jjw wt 1 6=true->Shf n b wt none
noncomputable def Suo (a:Ad):Nat->S1
 |0=>a.Jiu
 |1=>a.Jiw
 |2=>a.Jiv
 |_=>a.Jix
inductive GtI (K:Sd) (a:Ad) (H:Hp) (g:V) (gb:Bool):Prop where
 |mk (t:_) (_:TyX K H g t) (_:Se K t (.ref a.Jj3)=some gb/\W.kitAny K t [.ref a.Jj4,.ref a.Jj5,.ref a.Jj6,.ref a.Jj7]=some gb/\∃b,Se K t (.type "bool")=some b/\(gb=true->b=false)/\t≠ .type "float")
noncomputable def Sl8 (n lo hi st rn g:V):List (Str×V):=[("name",n),("low",lo),("high",hi),("start",st),("rain",rn),("gate",g)]
noncomputable def twnF (n b wt:V):List (Str×V):=[("name",n),("basin",b),("want",wt)]
noncomputable def Sje (a:Ad) (d:Option (Nat×V)) (H:Hp) (E:XK) (G:Prop):Prop:=match d with
 |none=>G
 |some (k,x)=>∀c eo H',RfC (Suo a k) H H' x c eo->E c eo H'
inductive Ych (K:Sd) (a:Ad) (vs:List V) (H:Hp) (Q:VK) (E:XK):Prop where
 |mk (p dx:S1) (n lo hi st rn g:V) (gb:Bool) (d:Option (Nat×V)) (_:vs= [.ref p,n,lo,hi,st,rn,g]) (_:H p=some (.ins a.Jj8 dx [])) (_:Nmd K H n) (_:Tm K H lo) (_:Tm K H hi) (_:Tm K H st) (_:Tm K H rn) (_:GtI K a H g gb) (_:Due n lo hi st rn g gb d) (_:Sje a d H E (∀H',Si H H'->Q .non (upd H' p (.ins a.Jj8 dx (Sl8 n lo hi st rn g)))))
inductive Sn0 (K:Sd) (a:Ad) (vs:List V) (H:Hp) (Q:VK) (E:XK):Prop where
 |mk (p dx:S1) (n b wt:V) (d:Option (Nat×V)) (_:vs= [.ref p,n,b,wt]) (_:H p=some (.ins a.Jj9 dx [])) (_:Nmd K H n) (_:Nmd K H b) (_:Tm K H wt) (_:Shf n b wt d) (_:Sje a d H E (∀H',Si H H'->Q .non (upd H' p (.ins a.Jj9 dx (twnF n b wt)))))
theorem Nmd.same {K:Sd} {H H':Hp} {x:V} (s:Si H H') (h:Nmd K H x):Nmd K H' x:=⟨h.1.same s,h.2⟩
theorem Jli {K:Sd} {H H':Hp} {x:V} {t:S2} (s:Si H H') (h:TyX K H x t):TyX K H' x t:=h.same (λb o _ q=>s b o q) (λb fs q=>s b _ q)
theorem GtI.same {K:Sd} {a:Ad} {H H':Hp} {g:V} {gb:Bool} (s:Si H H') (h:GtI K a H g gb):GtI K a H' g gb:=by obtain ⟨t,ty,r⟩:=h;exact ⟨t,Jli s ty,r⟩
theorem Snj {K:Sd} {H:Hp} {x:V} {t:S2} (h:TyX K H x t) (e:t= .type "str"):∃z,x= .str z:=by
 cases h with
 |exc=>cases e
 |dct=>exact absurd (Value.type.inj e) (by decide)
 |of ty=>
  cases ty with
  |str z=>exact ⟨z,rfl⟩
  |ins=>cases e
  |non=>exact absurd (Value.type.inj e) (by decide)
  |bl=>exact absurd (Value.type.inj e) (by decide)
  |int=>exact absurd (Value.type.inj e) (by decide)
  |flt=>exact absurd (Value.type.inj e) (by decide)
  |lst=>exact absurd (Value.type.inj e) (by decide)
  |frz=>exact absurd (Value.type.inj e) (by decide)
  |tup=>exact absurd (Value.type.inj e) (by decide)
  |dK=>exact absurd (Value.type.inj e) (by decide)
  |dT=>exact absurd (Value.type.inj e) (by decide)
structure Bsn where
 z:Str
 lo:Int
 hi:Int
 st:Int
 rn:Int
 g:V
 n:Nat
inductive Sc6 (K:Sd) (a:Ad) (H:Hp) (o:S1) (B:Bsn):Prop where
 |mk (dx:_) (_:H o=some (.ins a.Jj8 dx (Sl8 (.str B.z) (.int B.lo) (.int B.hi) (.int B.st) (.int B.rn) B.g))) (_:GS K a H B.g B.n)
theorem Sc6.same {K:Sd} {a:Ad} {H H':Hp} {o:S1} {B:Bsn} (s:Si H H') (h:Sc6 K a H o B):Sc6 K a H' o B:=by obtain ⟨dx,h1,h2⟩:=h;exact ⟨dx,s _ _ h1,h2.same s⟩
structure Twn where
 z:Str
 b:Str
 wt:Int
inductive Sc8 (a:Ad) (H:Hp) (o:S1) (B:Twn):Prop where
 |mk (dx:_) (_:H o=some (.ins a.Jj9 dx (twnF (.str B.z) (.str B.b) (.int B.wt))))
theorem Sc8.same {a:Ad} {H H':Hp} {o:S1} {B:Twn} (s:Si H H') (h:Sc8 a H o B):Sc8 a H' o B:=by obtain ⟨dx,h1⟩:=h;exact ⟨dx,s _ _ h1⟩
noncomputable def Sbm (K:Sd) (a:Ad) (H:Hp):List S1->List Bsn->Prop
 | [],[]=>True
 |o::os,B::Bs=>Sc6 K a H o B/\Sbm K a H os Bs
 |_,_=>False
noncomputable def Sc3 (a:Ad) (H:Hp):List S1->List Twn->Prop
 | [],[]=>True
 |o::os,B::Bs=>Sc8 a H o B/\Sc3 a H os Bs
 |_,_=>False
theorem Sbm.same {K:Sd} {a:Ad} {H H':Hp} (s:Si H H'):∀{os:List S1} {Bs:List Bsn},Sbm K a H os Bs->Sbm K a H' os Bs:=by
 intro os
 induction os with
 |nil=>
  intro Bs h;cases Bs with
  |nil=>exact True.intro
  |cons B Bs=>exact False.elim h
 |cons o os ih=>
  intro Bs h;cases Bs with
  |nil=>exact False.elim h
  |cons B Bs=>exact ⟨(yas h).same s,ih (yao h)⟩
theorem Sc3.same {a:Ad} {H H':Hp} (s:Si H H'):∀{os:List S1} {Bs:List Twn},Sc3 a H os Bs->Sc3 a H' os Bs:=by
 intro os
 induction os with
 |nil=>
  intro Bs h;cases Bs with
  |nil=>exact True.intro
  |cons B Bs=>exact False.elim h
 |cons o os ih=>
  intro Bs h;cases Bs with
  |nil=>exact False.elim h
  |cons B Bs=>exact ⟨(yas h).same s,ih (yao h)⟩
theorem Sbm.len {K:Sd} {a:Ad} {H:Hp} {os:List S1}:∀{Bs:List Bsn},Sbm K a H os Bs->os.length=Bs.length:=by
 induction os with
 |nil=>
  intro Bs h;cases Bs with
  |nil=>rfl
  |cons B Bs=>exact h.elim
 |cons o os ih=>
  intro Bs h;cases Bs with
  |nil=>exact h.elim
  |cons B Bs=>rw [yac,yac,ih h.2]
theorem Sc3.len {a:Ad} {H:Hp} {os:List S1}:∀{Bs:List Twn},Sc3 a H os Bs->os.length=Bs.length:=by
 induction os with
 |nil=>
  intro Bs h;cases Bs with
  |nil=>rfl
  |cons B Bs=>exact h.elim
 |cons o os ih=>
  intro Bs h;cases Bs with
  |nil=>exact h.elim
  |cons B Bs=>rw [yac,yac,ih h.2]
theorem Sbm.get {K:Sd} {a:Ad} {H:Hp}:∀{os:List S1} {Bs:List Bsn} {i:Nat} {v:V},Sbm K a H os Bs->(os.map V.ref)[i]?=some v->∃o B,v= .ref o/\Bs[i]?=some B/\Sc6 K a H o B:=by
 intro os
 induction os with
 |nil=>intro Bs i v h e;simp at e
 |cons o os ih=>
  intro Bs i v h e;cases Bs with
  |nil=>exact False.elim h
  |cons B Bs=>
   cases i with
   |zero=>exact ⟨o,B,by simpa using e.symm,rfl,yas h⟩
   |succ i=>exact ih (Bs:=Bs) (i:=i) (yao h) (by simpa using e)
theorem Sc3.get {a:Ad} {H:Hp}:∀{os:List S1} {Bs:List Twn} {i:Nat} {v:V},Sc3 a H os Bs->(os.map V.ref)[i]?=some v->∃o B,v= .ref o/\Bs[i]?=some B/\Sc8 a H o B:=by
 intro os
 induction os with
 |nil=>intro Bs i v h e;simp at e
 |cons o os ih=>
  intro Bs i v h e;cases Bs with
  |nil=>exact False.elim h
  |cons B Bs=>
   cases i with
   |zero=>exact ⟨o,B,by simpa using e.symm,rfl,yas h⟩
   |succ i=>exact ih (Bs:=Bs) (i:=i) (yao h) (by simpa using e)
inductive Yal (K:Sd) (vs:List V) (H:Hp) (Q:VK) (z3:XK):Prop where
 |mk (l:S1) (zs:List Str) (_:vs= [.ref l]) (_:Ss K H l (zs.map V.str)) (_:zs.length<=2000) (_:∀H',Si H H'->Q (.bl (decide ((uq zs).length=zs.length))) H')
inductive Yac (K:Sd) (a:Ad) (vs:List V) (H:Hp) (Q:VK) (z3:XK):Prop where
 |mk (l:S1) (os:List S1) (Bs:List Bsn) (_:vs= [.ref l]) (_:H l=some (.lst (os.map V.ref))) (_:Sbm K a H os Bs) (_:(1<=Bs.length/\Bs.length<=16)) (_:(Bs.map (·.z)).Nodup) (_:∀H',Si H H'->Q (.bl true) H')
inductive Ycp (K:Sd) (a:Ad) (vs:List V) (H:Hp) (Q:VK) (z3:XK):Prop where
 |mk (l m:S1) (os ts:List S1) (Bs:List Bsn) (Ts:List Twn) (_:vs= [.ref m,.ref l]) (_:H l=some (.lst (os.map V.ref))) (_:Sbm K a H os Bs) (_:Bs.length<=16) (_:H m=some (.lst (ts.map V.ref))) (_:Sc3 a H ts Ts) (_:Ts.length<=3) (_:(Ts.map (·.z)).Nodup) (_:(∀t∈Ts,t.b∈Bs.map (·.z))) (_:∀H',Si H H'->Q (.bl true) H')
section
variable {P:S7} {w:S9} {K:Sd} {mg:Str->Option S2} {base:Sb} {a:Ad}
theorem Jp8:Jjp ["self","thing"] ["self","thing"] (Jjl (Jjz (top 4) 0)):=%[|0]
theorem Jmn (T:Tx K mg a):Sr P w K mg base CX0 1 a.Jen a.Jeo ["self","thing"] (Jnj K "thing"):=by
 refine %[T.Jc7.fn.ok,Jp8|2]
 ·obtain ⟨e,C,W,fI,y,rfl,_⟩:=h;rfl
 ·obtain ⟨e,C,W,fI,y,rfl,q,c,n,k⟩:=h;refine ⟨_,(Jjj (Jng (pv 0) (pv 1) rfl)),?_⟩;exact ⟨_,rfl,_,rfl,e,C,W,fI,true,rfl,q,c,n,k⟩
theorem Jr2:Jjp ["thing","low","high"] ["thing","low","high"] (Jjl (top 14)):=%[|0]
theorem Jkz (T:Tx K mg a):Sr P w K mg base CX0 1 a.Jez a.Jf0 ["thing","low","high"] (Ycq K):=by
 refine %[T.J0.fn.ok,Jr2|2]
 ·obtain ⟨x,lo,hi,rfl,_⟩:=h;rfl
 ·obtain ⟨x,lo,hi,rfl,tm,k⟩:=h;refine ⟨_,(Sx (Jk4 (PW.pt (Joy (Jk0 (Jjn Jl2 (by rfl) T.Jax Jjv (Sj (pv 0) (Sj (Jkr (v:=.ty "bool") (by rfl) T.Jat Jty rfl) Sl)))) (Jnh (Jk5 (Jk0 (Jjn Jl2 (by rfl) T.Jax Jjv (Sj (pv 0) (Sj (Jkr (v:=.ty "int") (by rfl) T.Jaw Jwh rfl) Sl)))))))) (Jjj (Jjo Jko)) Jjs)
   (Jjj (Jjo (Jpo Jnp Jnp (pv 1) (pv 0) (pv 2))))),?_⟩
  rcases tm with ⟨i,rfl⟩|⟨t,ty,ht⟩
  ·refine ⟨_,rfl,_,_,_,_,_,rfl,rfl,.of (.int i),(by rfl:Se K (.type "int") (.type "bool")=some false),_,rfl,Jk9 ⟨_,rfl,_,_,_,_,_,rfl,rfl,.of (.int i),(by rfl:Se K (.type "int") (.type "int")=some true),_,rfl,Jk9 ?_⟩⟩;refine ⟨_,rfl,_,rfl,_,_,rfl,rfl,_,rfl,?_⟩;have k':Q (.bl (decide (lo<=i)&&decide (i<=hi))) H:=k;by_cases h1:lo<=i
   ·rw [decide_eq_true h1] at k'⊢;exact Jkf ⟨_,rfl,_,_,rfl,rfl,by simpa using k'⟩
   ·rw [decide_eq_false h1] at k'⊢;exact Jk9 (by simpa using k')
  ·rw [Jxz ty ht] at k;have e:=Yau (K:=K) ht;cases eb:(t== .type "bool") with
   |true=>
    rw [eb] at e;exact ⟨_,rfl,_,_,_,_,_,rfl,rfl,ty,e.2,_,rfl,Jkf (Jkf k)⟩
   |false=>
    rw [eb] at e;exact ⟨_,rfl,_,_,_,_,_,rfl,rfl,ty,e.2,_,rfl,Jk9 ⟨_,rfl,_,_,_,_,_,rfl,rfl,ty,e.1,_,rfl,Jkf k⟩⟩
theorem Sbl:Jjp ["thing","lowest","least","mark"] ["thing","lowest"] (Jjl (top 64)):=%[|0]
theorem Jue (T:Tx K mg a):Sr P w K mg base CX0 2 a.Jgl a.Jgm ["thing","lowest"] (Sq7 K):=by
 have Sw:=%[Jkz|1];refine %[T.Jt.fn.ok,Sbl|2]
 ·obtain ⟨x,lo,b,rfl,_⟩:=h;rfl
 ·obtain ⟨x,lo,b,rfl,sh,k⟩:=h;refine ⟨_,(Sx (Jk4 (Jk5 (Jk0 (Jjn Jrq (by rfl) T.Jax Jjv (Sj (pv 0) (Sj (Jkw (Sj (Jkr (v:=.ty "list") (by rfl) T.Jaz Jlg rfl) (Sj (Jkr (v:=.ty "tuple") (by rfl) T.Jb7 Jm9 rfl) Sl))) Sl))))) (Jjj (Jjo Jko)) Jjs)
   (Sx (Jk4 (Jk5 (Jvy Jnp Jnp Sn (Jjn Jjr (by rfl) T.Jay Jkh (Sj (pv 0) Sl)) (Jl6 (by rfl) T.Jaj (v:=.int 4) ⟨_,rfl⟩))) (Jjj (Jjo Jko)) Jjs)
   (Sx (Jjt (i:=2) Sbl.nd rfl (ye rfl) (pv 1))
   (Sx (Jlm PassesOwn.never rfl (Sme (pv 0)) (Jjq (i:=3) Sbl.nd rfl (ye rfl)) (Sx (Jk4 (Jk5 (Jk0 (Jji T.J0 Sw hr (by decide) (Sj (pv 3) (Sj (pv 2) (Sj (Jl6 (by rfl) T.Jak (v:=.int 12) ⟨_,rfl⟩) Sl)))))) (Jjj (Jjo Jko)) Jjs)
    (Jjj (Jjt (i:=2) Sbl.nd rfl (ye rfl) (Jju Jkl (pv 3) Sn)))))
   (Jjj (Jjo Jko)))))),?_⟩
  cases sh with
  | @non t ty e=>
   refine ⟨_,rfl,(show 2<=S6 by decide),λp hp=>⟨_,p,_,_,t,_,rfl,So,rfl,ty.same (λb o _ q=>Si.upd hp b o q) (λb fs q=>Si.upd hp b _ q),e,_,rfl,Jkf (k _ (Si.upd hp))⟩⟩
  | @seq xs sq tms=>
   obtain ⟨t,ty,_,e⟩:=sq.ty (K:=K);refine ⟨_,rfl,(show 2<=S6 by decide),λp hp=>⟨_,p,_,_,t,_,rfl,So,rfl,ty.same (λb o _ q=>Si.upd hp b o q) (λb fs q=>Si.upd hp b _ q),e,_,rfl,Jk9 ?_⟩⟩;have s1:=Si.upd (o:=.tup [.ty "list",.ty "tuple"]) hp;have sq1:=sq.same s1;obtain ⟨q,rfl⟩:∃q,x= .ref q:=by cases sq <;> exact ⟨_,rfl⟩
   have len:Ss K (upd H p (.tup [.ty "list",.ty "tuple"])) q xs\/SqT K (upd H p (.tup [.ty "list",.ty "tuple"])) q xs:=by
    cases sq1 with
    |lst e=>exact .inl (Ss.of e)
    |tup e=>exact .inr (SqT.of e)
   refine ⟨_,rfl,q,xs,rfl,len,_,_,rfl,rfl,_,rfl,?_⟩;have no:Jnt lo xs=false->∀H',Si H H'->Q (.bl false) H':=λz H' s'=>by
    have:=k H' s';rw [z] at this;exact this
   by_cases h1:(1:Int)<=(xs.length:Int)
   ·rw [decide_eq_true h1];refine Jkf ⟨_,_,rfl,rfl,_,rfl,?_⟩;by_cases h2:(xs.length:Int)<=4
    ·rw [decide_eq_true h2];refine Jk9 ⟨_,rfl,?_⟩;have lz:decide (1<=xs.length/\xs.length<=4)=true:=decide_eq_true (by omega);have ar:Jnt lo xs=Jl7 lo xs:=by unfold Jnt;rw [lz,ybf]
     refine ⟨_,rfl,q,rfl,Ybh (xs:=xs) (λi σ H'=>∃(l:Int) (o:Option V),σ= [some (.ref q),some (.int lo),some (.int l),o]/\H'=upd H p (.tup [.ty "list",.ty "tuple"])/\Jl7 lo xs=Jl7 l (xs.drop i)) ⟨lo,_,rfl,rfl,rfl⟩ ?_ ?_ ?_⟩
     ·rcases len with z|z
      ·exact .inl λi σ H' _ ⟨_,_,_,e,_⟩=>by rw [e];exact z
      ·exact .inr λi σ H' _ ⟨_,_,_,e,_⟩=>by rw [e];exact z
     ·rintro i y σ H' hy ⟨l,o,rfl,rfl,em⟩;have hd:xs.drop i=y::xs.drop (i+1):=by
       obtain ⟨hi,rfl⟩:=yk.mp hy;exact List.drop_eq_getElem_cons hi
      refine ⟨_,rfl,_,rfl,y,l,12,rfl,(tms y (yv hy)).same s1,_,rfl,?_⟩;cases z:Jjw y l 12 with
      |false=>
       refine Jkf (no ?_ _ s1);rw [ar,em,hd,Jqw,z,yax]
      |true=>
       rw [hd,Jqw,z,ybf] at em;cases y with
       |int i'=>exact Jk9 ⟨_,rfl,_,_,rfl,rfl,i'+1,_,rfl,rfl,em⟩
       |_=>cases z
     ·rintro σ H' ⟨l,o,rfl,rfl,em⟩;have e:Jnt lo xs=true:=by rw [ar,em,List.drop_of_length_le (yg _)];rfl
      have:=k _ s1;rw [e] at this;exact this
    ·rw [decide_eq_false h2];refine Jkf (no ?_ _ s1);unfold Jnt;rw [decide_eq_false (by omega:¬(1<=xs.length/\xs.length<=4)),yax]
   ·rw [decide_eq_false h1];refine Jk9 ⟨_,rfl,Jkf (no ?_ _ s1)⟩;unfold Jnt;rw [decide_eq_false (by omega:¬(1<=xs.length/\xs.length<=4)),yax]
theorem Jt0:Jjp ["marks","lowest"] ["marks","lowest"] (Jjl (top 65)):=%[|0]
theorem Jmy (T:Tx K mg a):Sr P w K mg base (CXX P w) 3 a.Jgn a.Jgo ["marks","lowest"] (Smo K a):=by
 have Sfk:=%[Jue|1];have Sa7:=%[Jmn|1];refine %[T.Ju.fn.okX,Jt0|2]
 ·obtain ⟨x,lo,rfl,_⟩:=h;rfl
 ·obtain ⟨x,lo,rfl,h⟩:=h;refine ⟨_,(Sx (Jk4 (Jk5 (Jk0 (Jji T.Jt Sfk hr (by decide) (Sj (pv 0) (Sj (pv 1) Sl))))) (Jjj (Jl0 Jl1 rfl (Jlt T.Jcp Sa7 hr (by decide) T.Jc7.bd T.Jba (Sj (pv 0) Sl)))) Jjs)
   (Jjj (Jjo (Jkk Jmx (by rfl) T.Jb7 Jm9 (Sj (pv 0) Sl))))),?_⟩
  rcases h with ⟨xs,sq,tms,e,k⟩|⟨sh,k⟩
  ·have sh:=Shp.seq (lo:=lo) sq tms;rw [e] at sh;refine ⟨_,rfl,_,rfl,x,lo,true,rfl,sh,λH1 s1=>⟨_,rfl,Jk9 ?_⟩⟩;cases sq with
   |lst e=>exact ⟨_,rfl,_,xs,rfl,.inl ⟨Ss.of (s1 _ _ e),λl hl=>k l _ (s1.trans (Si.upd hl)) So⟩⟩
   |tup e=>exact ⟨_,rfl,_,xs,rfl,.inr ⟨SqT.of (s1 _ _ e),k _ _ s1 (s1 _ _ e)⟩⟩
  ·exact ⟨_,rfl,_,rfl,x,lo,false,rfl,sh,λH1 s1=>⟨_,rfl,Jkf (Jle T.Jcp T.Jdk rfl λe dx h1 h2 h3=>k _ _ _ ((Rf.new h1 h2 h3).of s1))⟩⟩
theorem Jod:Jjp ["self","marks"] ["self","marks"] (Jjl (Jjz (top 68) 0)):=%[|0]
theorem Jqb (T:Tx K mg a):Sr P w K mg base (CXX P w) 4 a.Jgp a.Jgq ["self","marks"] (Jux K a 0):=by
 have Sb9:=%[Jmy|1];refine %[T.Jcd.fn.okX,Jod|2]
 ·obtain ⟨p,C,dx,x,rfl,_⟩:=h;rfl
 ·obtain ⟨p,C,dx,x,rfl,hp,c,n,h⟩:=h;refine ⟨_,(Jjj (Jl8 (pv 0) (Jmq T.Ju Sb9 Jl1 hr (by decide) (Sj (pv 1) (Sj Sn Sl))) rfl)),?_⟩;rcases h with ⟨xs,sq,tms,e,k⟩|⟨sh,k⟩
  ·exact ⟨_,rfl,x,0,rfl,.inl ⟨xs,sq,tms,e,λt H' s' ht=>⟨_,rfl,p,C,dx,[],rfl,s' _ _ hp,c,n,by simp,k t H' s' ht⟩⟩⟩
  ·exact ⟨_,rfl,x,0,rfl,.inr ⟨sh,k⟩⟩
theorem Joe:Jjp ["self"] ["self"] (Jjl (Jjz (top 68) 1)):=%[|0]
theorem Jo4 (T:Tx K mg a):Sr P w K mg base CX0 1 a.Jgr a.Jgs ["self"] (Yaj a.Jj4):=by
 refine %[T.Jce.fn.ok,Joe|2]
 ·obtain ⟨p,xs,rfl,_⟩:=h;rfl
 ·obtain ⟨p,xs,rfl,⟨dx,t,h1,h2⟩,k⟩:=h;refine ⟨_,(Jjj (Jjo (Jjn Jjr (by rfl) T.Jay Jkh (Sj (Jlb (pv 0) (by rfl)) Sl)))),?_⟩;exact ⟨_,rfl,p,_,dx,_,_,rfl,h1,T.Jcv,T.Jdo,rfl,t,xs,rfl,.inr (SqT.of h2),k⟩
theorem Jo9:Jjp ["self","marks"] ["self","marks"] (Jjl (Jjz (top 69) 0)):=%[|0]
theorem Jq9 (T:Tx K mg a):Sr P w K mg base (CXX P w) 4 a.Jgt a.Jgu ["self","marks"] (Jux K a 0):=by
 have Sb9:=%[Jmy|1];refine %[T.Jcf.fn.okX,Jo9|2]
 ·obtain ⟨p,C,dx,x,rfl,_⟩:=h;rfl
 ·obtain ⟨p,C,dx,x,rfl,hp,c,n,h⟩:=h;refine ⟨_,(Jjj (Jl8 (pv 0) (Jmq T.Ju Sb9 Jl1 hr (by decide) (Sj (pv 1) (Sj Sn Sl))) rfl)),?_⟩;rcases h with ⟨xs,sq,tms,e,k⟩|⟨sh,k⟩
  ·exact ⟨_,rfl,x,0,rfl,.inl ⟨xs,sq,tms,e,λt H' s' ht=>⟨_,rfl,p,C,dx,[],rfl,s' _ _ hp,c,n,by simp,k t H' s' ht⟩⟩⟩
  ·exact ⟨_,rfl,x,0,rfl,.inr ⟨sh,k⟩⟩
theorem Joa:Jjp ["self"] ["self"] (Jjl (Jjz (top 69) 1)):=%[|0]
theorem Jo1 (T:Tx K mg a):Sr P w K mg base CX0 1 a.Jgv a.Jgw ["self"] (Yaj a.Jj5):=by
 refine %[T.Jcg.fn.ok,Joa|2]
 ·obtain ⟨p,xs,rfl,_⟩:=h;rfl
 ·obtain ⟨p,xs,rfl,⟨dx,t,h1,h2⟩,k⟩:=h;refine ⟨_,(Jjj (Jjo (Jjn Jjr (by rfl) T.Jay Jkh (Sj (Jlb (pv 0) (by rfl)) Sl)))),?_⟩;exact ⟨_,rfl,p,_,dx,_,_,rfl,h1,T.Jcz,T.Jdp,rfl,t,xs,rfl,.inr (SqT.of h2),k⟩
theorem Job:Jjp ["self","marks"] ["self","marks"] (Jjl (Jjz (top 70) 0)):=%[|0]
theorem Jqa (T:Tx K mg a):Sr P w K mg base (CXX P w) 4 a.Jgx a.Jgy ["self","marks"] (Jux K a 1):=by
 have Sb9:=%[Jmy|1];refine %[T.Jch.fn.okX,Job|2]
 ·obtain ⟨p,C,dx,x,rfl,_⟩:=h;rfl
 ·obtain ⟨p,C,dx,x,rfl,hp,c,n,h⟩:=h;refine ⟨_,(Jjj (Jl8 (pv 0) (Jmq T.Ju Sb9 Jl1 hr (by decide) (Sj (pv 1) (Sj Sn Sl))) rfl)),?_⟩;rcases h with ⟨xs,sq,tms,e,k⟩|⟨sh,k⟩
  ·exact ⟨_,rfl,x,1,rfl,.inl ⟨xs,sq,tms,e,λt H' s' ht=>⟨_,rfl,p,C,dx,[],rfl,s' _ _ hp,c,n,by simp,k t H' s' ht⟩⟩⟩
  ·exact ⟨_,rfl,x,1,rfl,.inr ⟨sh,k⟩⟩
theorem Joc:Jjp ["self"] ["self"] (Jjl (Jjz (top 70) 1)):=%[|0]
theorem Jo3 (T:Tx K mg a):Sr P w K mg base CX0 1 a.Jgz a.Jh0 ["self"] (Yaj a.Jj6):=by
 refine %[T.Jci.fn.ok,Joc|2]
 ·obtain ⟨p,xs,rfl,_⟩:=h;rfl
 ·obtain ⟨p,xs,rfl,⟨dx,t,h1,h2⟩,k⟩:=h;refine ⟨_,(Jjj (Jjo (Jjn Jjr (by rfl) T.Jay Jkh (Sj (Jlb (pv 0) (by rfl)) Sl)))),?_⟩;exact ⟨_,rfl,p,_,dx,_,_,rfl,h1,T.Jd3,T.Jdq,rfl,t,xs,rfl,.inr (SqT.of h2),k⟩
theorem Jnw:Jjp ["self"] ["self"] (Jjl (Jjz (top 71) 1)):=%[|0]
theorem Jnu (T:Tx K mg a):Sr P w K mg base CX0 1 a.Jh3 a.Jh4 ["self"] Sqc:=by
 refine %[T.Jck.fn.ok,Jnw|2]
 ·obtain ⟨x,rfl,_⟩:=h;rfl
 ·obtain ⟨x,rfl,k⟩:=h;refine ⟨_,(Jjj (Jjo Sn)),?_⟩;exact k
theorem Jlf {j:Nat} {σ:L2.St} {H:Hp} {x:V} {n:Nat} {Q:VK} (T:Tx K mg a) (g:GS K a H x n) (k:Q (.int n) H) (hj:1<=j):
  ∃g' C dx fs f fd ps sp k',x= .ref g'/\H g'=some (.ins C dx fs)/\fs.lookup ("settings" :Str)=none/\Cls K C/\Jwd K C "settings" f/\Sr P w K mg base CX0 k' f fd ps sp/\k'<=j/\Sbu K fd ps []/\Jsk σ H λvs H2=>sp (x::vs) H2 Q E0:=by
 cases g with
 | @plain g C xs i ga l=>
  obtain ⟨dx,t,h1,h2⟩:=ga;rcases i with rfl|rfl|rfl
  ·exact ⟨g,_,dx,_,_,_,_,_,_,rfl,h1,rfl,T.Jcv,T.Jcy,Jo4 T,hj,T.Jce.bd,g,xs,rfl,⟨dx,t,h1,h2⟩,k⟩
  ·exact ⟨g,_,dx,_,_,_,_,_,_,rfl,h1,rfl,T.Jcz,T.Jd2,Jo1 T,hj,T.Jcg.bd,g,xs,rfl,⟨dx,t,h1,h2⟩,k⟩
  ·exact ⟨g,_,dx,_,_,_,_,_,_,rfl,h1,rfl,T.Jd3,T.Jd6,Jo3 T,hj,T.Jci.bd,g,xs,rfl,⟨dx,t,h1,h2⟩,k⟩
 | @stuck g dx x y h1=>exact ⟨g,_,dx,_,_,_,_,_,_,rfl,h1,rfl,T.Jd7,T.Jda,Jnu T,hj,T.Jck.bd,_,rfl,k⟩
theorem GS.ty {H:Hp} {x:V} {n:Nat} (T:Tx K mg a) (g:GS K a H x n):∃t,TyX K H x t/\Se K t (.ref a.Jj3)=some true:=by
 cases g with
 |plain i ga l=>
  obtain ⟨dx,t,h1,h2⟩:=ga;rcases i with rfl|rfl|rfl
  ·exact ⟨_,.of (T.Jcw.ty T.Jcv h1),T.Je7⟩
  ·exact ⟨_,.of (T.Jd0.ty T.Jcz h1),T.Je8⟩
  ·exact ⟨_,.of (T.Jd4.ty T.Jd3 h1),T.Je9⟩
 |stuck h1=>exact ⟨_,.of (T.Jd8.ty T.Jd7 h1),T.Jea⟩
theorem Sv1 (x y:V):Jld ("setting" :Str) y [(("gate" :Str),x)]= [(("gate" :Str),x),(("setting" :Str),y)]:=by
 have h:¬(("gate" :Str)="setting"):=by decide +kernel
 simp [Jld,h]
theorem Jnv:Jjp ["self","gate","setting"] ["self","gate","setting"] (Jjl (Jjz (top 71) 0)):=%[|0]
theorem Jpi (T:Tx K mg a):Sr P w K mg base (CXX P w) 4 a.Jh1 a.Jh2 ["self","gate","setting"] (Ycj K a):=by
 have Sw:=%[Jkz|1];have Sa7:=%[Jmn|1];refine %[T.Jcj.fn.okX,Jnv|2]
 ·obtain ⟨p,dx,x,y,rfl,_⟩:=h;rfl
 ·obtain ⟨p,dx,x,y,rfl,hp,h⟩:=h;refine ⟨_,(Sx (Jk4 (Jk5 (Jk0 (Jjn Jl2 (by rfl) T.Jax Jjv (Sj (pv 1) (Sj (Jl6 (by rfl) T.Jbg (v:=.ref _) rfl) Sl))))) (Jjj (Jl0 Jl1 rfl (Jlt T.Jcp Sa7 hr (by decide) T.Jc7.bd T.Jba (Sj (pv 1) Sl)))) Jjs)
   (Sx (Jk4 (Jk5 (Jk0 (Jji T.J0 Sw hr (by decide) (Sj (pv 2) (Sj Sn (Sj (Jju Jmc (Jtj (pv 1) hr) Sn) Sl)))))) (Jjj (Jl0 Jl1 rfl (Jlt T.Jcp Sa7 hr (by decide) T.Jc7.bd T.Jba (Sj (pv 2) Sl)))) Jjs)
   (Sx (Jl8 (pv 0) (pv 1) rfl)
   (Jjj (Jl8 (pv 0) (pv 2) rfl))))),?_⟩
  rcases h with ⟨t,ty,e,k⟩|⟨n,g,tm,e,k⟩|⟨n,g,tm,e,k⟩
  ·exact ⟨_,rfl,x,_,_,t,_,rfl,rfl,ty,e,_,rfl,Jkf (Jle T.Jcp T.Jdk rfl λe dx h1 h2 h3=>k _ _ _ (Rf.new h1 h2 h3))⟩
  ·obtain ⟨t,ty,et⟩:=g.ty T;refine ⟨_,rfl,x,_,_,t,_,rfl,rfl,ty,et,_,rfl,Jk9 ⟨_,rfl,_,rfl,Jlf T g ⟨_,_,rfl,rfl,y,0,(n:Int) - 1,rfl,tm,_,rfl,?_⟩ (by decide)⟩⟩;rw [e];exact Jkf (Jle T.Jcp T.Jdk rfl λe dx h1 h2 h3=>k _ _ _ (Rf.new h1 h2 h3))
  ·obtain ⟨t,ty,et⟩:=g.ty T;refine ⟨_,rfl,x,_,_,t,_,rfl,rfl,ty,et,_,rfl,Jk9 ⟨_,rfl,_,rfl,Jlf T g ⟨_,_,rfl,rfl,y,0,(n:Int) - 1,rfl,tm,_,rfl,?_⟩ (by decide)⟩⟩;rw [e];refine Jk9 ⟨_,rfl,_,rfl,p,_,dx,[],rfl,hp,T.Jd7,T.Jdr,by simp,_,rfl,_,rfl,p,_,dx,_,rfl,So,T.Jd7,T.Jds,by simp [Jld],?_⟩;show Q .non _;rw [Jm8];exact Sv1 x y▸k
theorem Jw3:Jjp ["_law_script","_law_k"] ["_law_script","_law_k"] (Jjl (top 87)):=%[|0]
theorem Jvs (T:Tx K mg a):Sr P w K mg base CX0 1 a.Jhj a.Jhk ["_law_script","_law_k"] (Smn K):=by
 refine %[T.Jz.fn.ok,Jw3|2]
 ·obtain ⟨x,ns,i,rfl,_⟩:=h;rfl
 ·obtain ⟨x,ns,i,rfl,hS,k⟩:=h;refine ⟨_,(Sx (Jk4 (Jkj Spn (pv 1) (Jjn Jjr (by rfl) T.Jay Jkh (Sj (pv 0) Sl)) (Jkn _)) (Jjj (Jjo (Jjx Jkg (pv 0) (pv 1) (λ_ _=>rfl)))) Jjs)
   (Jjj (Jjo (Jju Jkl (Jju Jp7 Sn (pv 1)) Sn)))),?_⟩
  refine ⟨_,rfl,_,rfl,x,_,rfl,.inl hS,_,_,rfl,rfl,_,rfl,Si0 (λq=>?_) (λq=>?_)⟩
  ·have hi:i < ns.length:=by
    have q':=of_decide_eq_true q;rw [yf] at q';omega
   exact ⟨_,rfl,_,rfl,x,_,_,_,rfl,rfl,hS,Ju7 hi,k _⟩
  ·exact ⟨_,rfl,_,_,rfl,rfl,.inl ⟨by decide,by decide⟩,_,_,rfl,rfl,k _⟩
theorem Jt1:Jjp ["_law_cell_here"] ["_law_cell_here"] (Jjl (top 88)):=%[|0]
theorem Jmz (T:Tx K mg a):Sr P w K mg base CX0 1 a.Jhl a.Jhm ["_law_cell_here"] Yak:=by
 refine %[T.Ja0.fn.ok,Jt1|2]
 ·obtain ⟨c,rfl,_⟩:=h;rfl
 ·obtain ⟨c,rfl,k⟩:=h;refine ⟨_,(Jjj (Jjo (Jki (Sj (Jjn (Jq5 rfl) (by rfl) T.Jb0 Jwi (Sj Sn (Sj (Jju Jmc (pv 0) (Jju Yp Sn Sn)) Sl))) (Sj (Jju Jp6 (pv 0) Sn) (Sj Sn Sl)))))),?_⟩;refine ⟨_,rfl,_,_,rfl,rfl,⟨by decide,by decide,by decide⟩,_,_,rfl,rfl,_,_,rfl,_,rfl,_,_,rfl,rfl,(by show (0:Int) < 2147483647;decide),Jkt _ (by show 3<=2000;decide),λp hp=>?_⟩;exact k p _ hp (Si.upd hp) ⟨_,_,_,So⟩
theorem Sbw:Jjp ["_law_stream_here","_law_many","_law_digit","_law_number"] ["_law_stream_here","_law_many"] (Jjl (top 89)):=%[|0]
theorem Jks (T:Tx K mg a):Sr P w K mg base CX0 1 a.Jhn a.Jho ["_law_stream_here","_law_many"] Smz:=by
 refine %[T.Ja1.fn.ok,Sbw|2]
 ·obtain ⟨p,m,rfl,_⟩:=h;rfl
 ·obtain ⟨p,m,rfl,⟨a0,b0,c0,hp⟩,hm,hl,k⟩:=h;refine ⟨_,(Sx (Jur (Jju Jkl (Jjx Jkg (pv 0) Sn (λ_ _=>rfl)) Sn) (Jx4 (pv 0) Sn Jsg))
   (Sx (Jk4 (Jkj Yo (Jjx Jkg (pv 0) Sn (λ_ _=>rfl)) Sn (Jkn _)) (Sx (Jjt (i:=2) Sbw.nd rfl (ye rfl) (Jju Jp6 (Jjx Jkg (pv 0) Sn (λ_ _=>rfl)) (pv 1)))
    (Sx (Jur (Jju Jvv (Jjx Jkg (pv 0) Sn (λ_ _=>rfl)) (pv 1)) (Jx4 (pv 0) Sn Jsg))
    (Jjj (Jjo (pv 2))))) Jjs)
   (Sx (Jjt (i:=3) Sbw.nd rfl (ye rfl) (Jju Jp6 (Jju Jp7 (Jju Jkl (Jjx Jkg (pv 0) Sn (λ_ _=>rfl)) (Jju Jp7 Sn (Jjx Jkg (pv 0) Sn (λ_ _=>rfl)))) Sn) Sn))
   (Sx (Jjt (i:=3) Sbw.nd rfl (ye rfl) (Jju Jp6 (Jju Jp7 (pv 3) (pv 3)) Sn))
   (Jjj (Jjo (Jju Jp6 (Jju Jvv (Jju Jp6 (Jju Jkl (Jju Jp7 (pv 3) (Jju Jkl (pv 3) Sn)) (Jju Jp7 Sn (Jjx Jkg (pv 0) Sn (λ_ _=>rfl)))) Sn) Sn) (pv 1)))))))),?_⟩
  refine ⟨_,rfl,p,_,_,_,rfl,rfl,Ss.of hp,rfl,_,_,rfl,rfl,_,rfl,p,_,_,_,rfl,rfl,hp,rfl,?_⟩;refine ⟨_,rfl,p,_,_,_,rfl,rfl,Ss.of So,rfl,_,_,rfl,rfl,_,rfl,Si0 (λ_=>?_) (λ_=>?_)⟩
  ·refine ⟨_,rfl,p,_,_,_,rfl,rfl,Ss.of So,rfl,_,rfl,_,_,rfl,rfl,hm,?_⟩;refine ⟨_,rfl,p,_,_,_,rfl,rfl,Ss.of So,rfl,_,rfl,_,_,rfl,rfl,⟨hm,hl⟩,_,rfl,p,_,_,_,rfl,rfl,So,rfl,?_⟩;refine ⟨_,rfl,k _ _ (Int.emod_nonneg _ (by omega)) (Int.emod_lt_of_pos _ hm) ⟨λb o ne e=>?_,_,_,_,So⟩⟩;rw [Sy ne,Sy ne];exact e
  ·refine ⟨_,rfl,p,_,_,_,rfl,rfl,Ss.of So,rfl,_,rfl,p,_,_,_,rfl,rfl,Ss.of So,rfl,_,_,rfl,rfl,.inl ⟨by decide,by decide⟩,_,_,rfl,rfl,_,_,rfl,rfl,.inr ⟨by decide,by decide⟩,_,_,rfl,rfl,(by show (0:Int) < 2147483629;decide),?_⟩;have n1:∀x:Int,-(2^64) < x%2147483629/\x%2147483629 < 2^64:=λx=>by
    have h1:=Int.emod_nonneg x (show (2147483629:Int)≠0 by decide);have h2:=Int.emod_lt_of_pos x (show (0:Int) < 2147483629 by decide);constructor <;> omega
   have n2:∀x:Int,-(2^64) < x%2147483587/\x%2147483587 < 2^64:=λx=>by
    have h1:=Int.emod_nonneg x (show (2147483587:Int)≠0 by decide);have h2:=Int.emod_lt_of_pos x (show (0:Int) < 2147483587 by decide);constructor <;> omega
   refine ⟨_,rfl,_,rfl,_,_,rfl,rfl,.inl (n1 _),_,_,rfl,rfl,(by show (0:Int) < 2147483587;decide),?_⟩;refine ⟨_,rfl,_,rfl,_,_,rfl,rfl,_,_,rfl,rfl,.inl (n2 _),_,rfl,p,_,_,_,rfl,rfl,Ss.of So,rfl,_,_,rfl,rfl,.inl ⟨by decide,by decide⟩,_,_,rfl,rfl,_,_,rfl,rfl,(by show (0:Int) < 2147483647;decide),_,_,rfl,rfl,⟨by decide,by decide⟩,_,rfl,_,_,rfl,rfl,hm,?_⟩;refine k _ _ (Int.emod_nonneg _ (by omega)) (Int.emod_lt_of_pos _ hm) ⟨λb o ne e=>?_,_,_,_,So⟩;rw [Sy ne];exact e
theorem Jp9:Jjp ["self","thing"] ["self","thing"] (Jjl (Jjz (top 3) 0)):=%[|0]
theorem Jo2 (T:Tx K mg a):Sr P w K mg base CX0 1 a.Jel a.Jem ["self","thing"] (Jnj K "thing"):=by
 refine %[T.Jc6.fn.ok,Jp9|2]
 ·obtain ⟨e,C,W,fI,y,rfl,_⟩:=h;rfl
 ·obtain ⟨e,C,W,fI,y,rfl,q,c,n,k⟩:=h;refine ⟨_,(Jjj (Jng (pv 0) (pv 1) rfl)),?_⟩;exact ⟨_,rfl,_,rfl,e,C,W,fI,true,rfl,q,c,n,k⟩
theorem Joq:Jjp ["self","thing"] ["self","thing"] (Jjl (Jjz (top 5) 0)):=%[|0]
theorem Jr6 (T:Tx K mg a):Sr P w K mg base CX0 1 a.Jep a.Jeq ["self","thing"] (Jnj K "thing"):=by
 refine %[T.Jc8.fn.ok,Joq|2]
 ·obtain ⟨e,C,W,fI,y,rfl,_⟩:=h;rfl
 ·obtain ⟨e,C,W,fI,y,rfl,q,c,n,k⟩:=h;refine ⟨_,(Jjj (Jng (pv 0) (pv 1) rfl)),?_⟩;exact ⟨_,rfl,_,rfl,e,C,W,fI,true,rfl,q,c,n,k⟩
theorem Jpa:Jjp ["self","thing"] ["self","thing"] (Jjl (Jjz (top 6) 0)):=%[|0]
theorem Js0 (T:Tx K mg a):Sr P w K mg base CX0 1 a.Jer a.Jes ["self","thing"] (Jnj K "thing"):=by
 refine %[T.Jc9.fn.ok,Jpa|2]
 ·obtain ⟨e,C,W,fI,y,rfl,_⟩:=h;rfl
 ·obtain ⟨e,C,W,fI,y,rfl,q,c,n,k⟩:=h;refine ⟨_,(Jjj (Jng (pv 0) (pv 1) rfl)),?_⟩;exact ⟨_,rfl,_,rfl,e,C,W,fI,true,rfl,q,c,n,k⟩
theorem Jsz:Jjp ["text","signs"] ["text","signs"] (Jjl (top 15)):=%[|0]
theorem Jsv (T:Tx K mg a):Sr P w K mg base CX0 1 a.Jf1 a.Jf2 ["text","signs"] Sms:=by
 refine %[T.J1.fn.ok,Jsz|2]
 ·obtain ⟨z,g,rfl,_⟩:=h;rfl
 ·obtain ⟨z,g,rfl,hz,k⟩:=h;refine ⟨_,(Jjj (Jjo (Jjn (Jku rfl) (by rfl) T.Jar Jlj (Sj (Jk2 (N:=(["sign","signs"]:List Str)) (ini:=[none,some 1]) rfl (Smf (pv 0)) (λ_ _ _ _ _=>(Jjq (i:=0) (by decide +kernel:(["sign","signs"]:List Str).Nodup) rfl (ye rfl))) (λ_ _ _ _ _=>Jk1) (λ_ _ _ _ _=>(Jmv Jz3 (pv 0) (pv 1) (by with_unfolding_all rfl)))) Sl)))),?_⟩;refine ⟨_,rfl,z,rfl,λD hD=>?_⟩;refine Jzz (z:=z) (D:=D) (λi σ H'=>∃o,σ= [o,some (.str g)]/\H'=upd H D (.lst ((z.cps.toList.take i).map λc=>V.bl (decide (c∈g.cps.toList))))) ?_ ?_ ?_
  ·exact ⟨none,rfl,rfl⟩
  ·rintro i c σ H' hc ⟨o,rfl,rfl⟩;refine Jkp ⟨_,rfl,_,rfl,⟨#[c]⟩,g,rfl,rfl,_,So,?_,_,rfl,?_⟩
   ·rw [yf,yaf,Jxx];exact Jkc (by omega)
   ·rw [Jm8,StrLaws.found_one];have e:z.cps.toList[i]?=some c:=by simpa using hc
    rw [yad,e];simp
  ·rintro σ H' ⟨o,rfl,rfl⟩;have e:z.cps.toList.take z.cps.size=z.cps.toList:=yaj (by simp);refine ⟨D,z.cps.toList.map λc=>decide (c∈g.cps.toList),rfl,Ss.of (by rw [So,e,yat];rfl),?_⟩;have e2:(z.cps.toList.map λc=>decide (c∈g.cps.toList)).all id=Jt4 g z:=by
    unfold Jt4;rw [List.all_map];rfl
   rw [e2];exact k _ (Si.upd hD)
theorem Ybu {H:Hp} {x:V} (h:Tm K H x) (n:∀z,x≠ .str z):∃t,TyX K H x t/\Se K t (.type "str")=some false:=by
 rcases h with ⟨i,rfl⟩|⟨t,ty,ht⟩
 ·exact ⟨_,.of (.int i),rfl⟩
 ·refine ⟨t,ty,?_⟩;unfold tpB at ht;simp only [List.contains_cons,List.contains_nil,Bool.or_false,Bool.or_eq_true,beq_iff_eq] at ht;rcases ht with rfl|rfl|rfl|rfl|rfl|rfl
  ·rfl
  ·obtain ⟨z,e⟩:=Snj ty rfl;exact absurd e (n z)
  ·rfl
  ·rfl
  ·rfl
  ·rfl
theorem Jxb:Jjp ["thing"] ["thing"] (Jjl (top 16)):=%[|0]
theorem Js3 (T:Tx K mg a):Sr P w K mg base CX0 2 a.Jf3 a.Jf4 ["thing"] (Smt K):=by
 have Sez:=%[Jsv|1];refine %[T.J2.fn.ok,Jxb|2]
 ·obtain ⟨x,rfl,_⟩:=h;rfl
 ·obtain ⟨x,rfl,nm,k⟩:=h;refine ⟨_,(Sx (Jk4 (Jk5 (Jk0 (Jjn Jl2 (by rfl) T.Jax Jjv (Sj (pv 0) (Sj (Jkr (v:=.ty "str") (by rfl) T.Jb5 Sld rfl) Sl))))) (Jjj (Jjo Jko)) Jjs)
   (Jjj (Jjo (Jmd (Jpo Jnp Jnp Sn (Jjn Ju0 (by rfl) T.Jay Jkh (Sj (pv 0) Sl)) (Jl6 (by rfl) T.Jai (v:=.int 8) ⟨_,rfl⟩)) (Jn0 (Jji T.J1 Sez hr (by decide) (Sj (pv 0) (Sj (Jl6 (by rfl) T.Jah (v:=.str "abcdefghijklmnopqrstuvwxyz") ⟨_,rfl⟩) Sl)))))))),?_⟩
  by_cases hx:∃z,x= .str z
  ·obtain ⟨z,rfl⟩:=hx;have k:∀H',Si H H'->Q (.bl (Jnl z)) H':=k;have hz:z.length<=2000:=by have:=(nm.2 z rfl).len;omega
   refine ⟨_,rfl,_,_,_,_,_,rfl,rfl,.of (.str z),(by rfl:Se K (.type "str") (.type "str")=some true),_,rfl,Jk9 ?_⟩;refine ⟨_,rfl,z,rfl,Jkt _ hz,_,_,rfl,rfl,_,rfl,?_⟩;have no:¬(1<=z.length/\z.length<=8)->Q (.bl false) H:=λq=>by
    have k':=k H (Si.refl H);unfold Jnl at k';rw [decide_eq_false q,yax] at k';exact k'
   by_cases h1:(1:Int)<=(z.length:Int)
   ·rw [decide_eq_true h1];refine Jkf ⟨_,_,rfl,rfl,_,rfl,?_⟩;by_cases h2:(z.length:Int)<=8
    ·rw [decide_eq_true h2];refine Jkf ⟨_,rfl,z,_,rfl,hz,λH' s'=>?_⟩;have e:Jnl z=Jt4 LET z:=by
      unfold Jnl;rw [decide_eq_true (by omega:1<=z.length/\z.length<=8),ybf]
     have k':=k H' s';rw [e] at k';exact k'
    ·rw [decide_eq_false h2];exact Jk9 (no (by omega))
   ·rw [decide_eq_false h1];exact Jk9 ⟨_,rfl,Jk9 (no (by omega))⟩
  ·obtain ⟨t,ty,e1⟩:=Ybu nm.1 λz e=>hx ⟨z,e⟩;have k':=k H (Si.refl H);have e:Jme x=false:=by
    cases x with
    |str z=>exact absurd ⟨z,rfl⟩ hx
    |_=>rfl
   rw [e] at k';exact ⟨_,rfl,_,_,_,_,_,rfl,rfl,ty,e1,_,rfl,Jkf k'⟩
theorem Jpc:Jjp ["thing","low","high"] ["thing","low","high"] (Jjl (top 79)):=%[|0]
theorem Jp5 (T:Tx K mg a):Sr P w K mg base (CXX P w) 3 a.Jh5 a.Jh6 ["thing","low","high"] (Jzh K a):=by
 have Sw:=%[Jkz|1];have Scz:=%[Jr6|1];refine %[T.Jv.fn.okX,Jpc|2]
 ·obtain ⟨x,lo,hi,rfl,_⟩:=h;rfl
 ·obtain ⟨x,lo,hi,rfl,tm,h⟩:=h;refine ⟨_,(Jjj (Jk4 (Jk5 (Jk0 (Jji T.J0 Sw hr (by decide) (Sj (pv 0) (Sj (pv 1) (Sj (pv 2) Sl)))))) (Jjj (Jl0 Jl1 rfl (Jlt T.Jcq Scz hr (by decide) T.Jc8.bd T.Jbb (Sj (pv 0) Sl)))) Jjs)),?_⟩;refine ⟨_,rfl,_,rfl,_,rfl,x,lo,hi,rfl,tm,_,rfl,?_⟩;rcases h with ⟨e,k⟩|⟨e,k⟩
  ·rw [e];exact Jk9 k
  ·rw [e];exact Jkf (Jle T.Jcq T.Jdl rfl λe dx h1 h2 h3=>k _ _ _ (RfC.new h1 h2 h3))
theorem Jlc {f:Str} {v:V}:∀{fs:List (Str×V)},(fs.map (·.1)).contains f=false->Jld f v fs=fs++ [(f,v)]
 | [],_=>rfl
 | (g,x) :: r,h=>by
  rw [yap,List.contains_cons,Bool.or_eq_false_iff] at h;have ne:¬g=f:=λe=>by
   have:=h.1;rw [e] at this;simp at this
  show (if g=f then (g,v)::r else (g,x)::Jld f v r)=_;rw [if_neg ne,Jlc h.2];rfl
theorem Jpr:Jjp ["self","name","low","high","start","rain","gate"] ["self","name","low","high","start","rain","gate"] (Jjl (Jjz (top 80) 0)):=%[|0]
theorem Jss (T:Tx K mg a):Sr P w K mg base (CXX P w) 4 a.Jh7 a.Jh8 ["self","name","low","high","start","rain","gate"] (Ych K a):=by
 have Scp:=%[Js3|1];have Sal:=%[Jp5|1];have Sak:=%[Jo2|1];have Sa7:=%[Jmn|1];refine %[T.Jcl.fn.okX,Jpr|2]
 ·obtain ⟨p,dx,n,lo,hi,st,rn,g,gb,d,rfl,_⟩:=h;rfl
 ·obtain ⟨p,dx,n,lo,hi,st,rn,g,gb,d,rfl,hp,nm,tlo,thi,tst,trn,gt,du,k⟩:=h;refine ⟨?t,?B,?C⟩
  case B=>
   refine' Sx (Jk4 (Jk5 (Jk0 (Jji T.J2 Scp hr (by decide) (Sj (pv 1) Sl)))) (Jjj (Jl0 Jl1 rfl (Jlt T.Jco Sak hr (by decide) T.Jc6.bd T.Jb9 (Sj (pv 1) Sl)))) Jjs) ?_
   rotate_left
   refine' Sx (Jlh (Jmq T.Jv Sal Jl1 hr (by decide) (Sj (pv 2) (Sj Sn (Sj (Jl6 (by rfl) T.Jal (v:=.int 12) ⟨_,rfl⟩) Sl))))) ?_
   rotate_left
   refine' Sx (Jlh (Jmq T.Jv Sal Jl1 hr (by decide) (Sj (pv 3) (Sj (pv 2) (Sj (Jl6 (by rfl) T.Jal (v:=.int 12) ⟨_,rfl⟩) Sl))))) ?_
   rotate_left
   refine' Sx (Jlh (Jmq T.Jv Sal Jl1 hr (by decide) (Sj (pv 4) (Sj (pv 2) (Sj (pv 3) Sl))))) ?_
   rotate_left
   refine' Sx (Jlh (Jmq T.Jv Sal Jl1 hr (by decide) (Sj (pv 5) (Sj Sn (Sj (Jl6 (by rfl) T.Jam (v:=.int 6) ⟨_,rfl⟩) Sl))))) ?_
   rotate_left
   refine' Sx (Jk4 (Jk5 (Jk0 (Jjn Jl2 (by rfl) T.Jax Jjv (Sj (pv 6) (Sj (Jl6 (by rfl) T.Jbg (v:=.ref _) rfl) Sl))))) (Jjj (Jl0 Jl1 rfl (Jlt T.Jcp Sa7 hr (by decide) T.Jc7.bd T.Jba (Sj (pv 6) Sl)))) Jjs) ?_
   rotate_left
   refine' Sx (Jl8 (pv 0) (pv 1) rfl) ?_
   rotate_left
   refine' Sx (Jl8 (pv 0) (pv 2) rfl) ?_
   rotate_left
   refine' Sx (Jl8 (pv 0) (pv 3) rfl) ?_
   rotate_left
   refine' Sx (Jl8 (pv 0) (pv 4) rfl) ?_
   rotate_left
   refine' Sx (Jl8 (pv 0) (pv 5) rfl) ?_
   rotate_left
   exact (Jjj (Jl8 (pv 0) (pv 6) rfl))
  refine ⟨_,rfl,n,rfl,nm,λH1 s1=>⟨_,rfl,?_⟩⟩;cases du with
  |name e=>
   rw [e];exact Jkf (Jle T.Jco T.Jdj rfl λe dx h1 h2 h3=>k _ _ _ ((RfC.new h1 h2 h3).of s1))
  |low e1 e2=>
   rw [e1];exact Jk9 ⟨_,rfl,lo,0,12,rfl,tlo.same s1,.inr ⟨e2,λc eo H' rf=>k c eo H' (rf.of s1)⟩⟩
  |high l e1 e2 e3 e4=>
   subst e2;rw [e1];refine Jk9 ⟨_,rfl,_,0,12,rfl,tlo.same s1,.inl ⟨e3,?_⟩⟩;exact ⟨_,rfl,_,rfl,hi,l,12,rfl,thi.same s1,.inr ⟨e4,λc eo H' rf=>k c eo H' (rf.of s1)⟩⟩
  |start l h e1 e2 e3 e4 e5 e6=>
   subst e2 e3;rw [e1];refine Jk9 ⟨_,rfl,_,0,12,rfl,tlo.same s1,.inl ⟨e4,?_⟩⟩;refine ⟨_,rfl,_,rfl,_,l,12,rfl,thi.same s1,.inl ⟨e5,?_⟩⟩;exact ⟨_,rfl,_,rfl,_,rfl,st,l,h,rfl,tst.same s1,.inr ⟨e6,λc eo H' rf=>k c eo H' (rf.of s1)⟩⟩
  |rain l h e1 e2 e3 e4 e5 e6 e7=>
   subst e2 e3;rw [e1];refine Jk9 ⟨_,rfl,_,0,12,rfl,tlo.same s1,.inl ⟨e4,?_⟩⟩;refine ⟨_,rfl,_,rfl,_,l,12,rfl,thi.same s1,.inl ⟨e5,?_⟩⟩;refine ⟨_,rfl,_,rfl,_,rfl,st,l,h,rfl,tst.same s1,.inl ⟨e6,?_⟩⟩;exact ⟨_,rfl,rn,0,6,rfl,trn.same s1,.inr ⟨e7,λc eo H' rf=>k c eo H' (rf.of s1)⟩⟩
  |gate l h e1 e2 e3 e4 e5 e6 e7 e8=>
   subst e2 e3 e8;obtain ⟨t,ty,g1,g2,g3⟩:=gt;rw [e1];refine Jk9 ⟨_,rfl,_,0,12,rfl,tlo.same s1,.inl ⟨e4,?_⟩⟩;refine ⟨_,rfl,_,rfl,_,l,12,rfl,thi.same s1,.inl ⟨e5,?_⟩⟩;refine ⟨_,rfl,_,rfl,_,rfl,st,l,h,rfl,tst.same s1,.inl ⟨e6,?_⟩⟩;refine ⟨_,rfl,rn,0,6,rfl,trn.same s1,.inl ⟨e7,?_⟩⟩;exact ⟨_,rfl,g,_,_,t,_,rfl,rfl,Jli s1 ty,g1,_,rfl,Jkf (Jle T.Jcp T.Jdk rfl λe dx h1 h2 h3=>k _ _ _ ((RfC.new h1 h2 h3).of s1))⟩
  |good l h e1 e2 e3 e4 e5 e6 e7 e8=>
   subst e2 e3 e8;obtain ⟨t,ty,g1,g2,g3⟩:=gt;rw [e1];refine Jk9 ⟨_,rfl,_,0,12,rfl,tlo.same s1,.inl ⟨e4,?_⟩⟩;refine ⟨_,rfl,_,rfl,_,l,12,rfl,thi.same s1,.inl ⟨e5,?_⟩⟩;refine ⟨_,rfl,_,rfl,_,rfl,st,l,h,rfl,tst.same s1,.inl ⟨e6,?_⟩⟩;refine ⟨_,rfl,rn,0,6,rfl,trn.same s1,.inl ⟨e7,?_⟩⟩;refine ⟨_,rfl,g,_,_,t,_,rfl,rfl,Jli s1 ty,g1,_,rfl,Jk9 ?_⟩;refine ⟨_,rfl,_,rfl,p,_,dx,[],rfl,s1 _ _ hp,T.Jdb,T.Jdt,by simp,?_⟩;rw [show Jld "name" n []=([("name",n)]:List (Str×V)) from rfl];refine ⟨_,rfl,_,rfl,p,_,dx,_,rfl,So,T.Jdb,T.Jdu,by simp,?_⟩;rw [show Jld "low" (.int l) [("name",n)]=([("name",n),("low",(.int l))]:List (Str×V)) from Jlc (fs:=[("name",n)]) (show (["name"]:List Str).contains "low" =false by decide +kernel)];refine ⟨_,rfl,_,rfl,p,_,dx,_,rfl,So,T.Jdb,T.Jdv,by simp,?_⟩;rw [show Jld "high" (.int h) [("name",n),("low",.int l)]=([("name",n),("low",.int l),("high",(.int h))]:List (Str×V)) from Jlc (fs:=[("name",n),("low",.int l)]) (show (["name","low"]:List Str).contains "high" =false by decide +kernel)];refine ⟨_,rfl,_,rfl,p,_,dx,_,rfl,So,T.Jdb,T.Jdw,by simp,?_⟩;rw [show Jld "start" st [("name",n),("low",.int l),("high",.int h)]=([("name",n),("low",.int l),("high",.int h),("start",st)]:List (Str×V)) from Jlc (fs:=[("name",n),("low",.int l),("high",.int h)]) (show (["name","low","high"]:List Str).contains "start" =false by decide +kernel)];refine ⟨_,rfl,_,rfl,p,_,dx,_,rfl,So,T.Jdb,T.Jdx,by simp,?_⟩;rw [show Jld "rain" rn [("name",n),("low",.int l),("high",.int h),("start",st)]=([("name",n),("low",.int l),("high",.int h),("start",st),("rain",rn)]:List (Str×V)) from Jlc (fs:=[("name",n),("low",.int l),("high",.int h),("start",st)]) (show (["name","low","high","start"]:List Str).contains "rain" =false by decide +kernel)];refine ⟨_,rfl,_,rfl,p,_,dx,_,rfl,So,T.Jdb,T.Jdy,by simp,?_⟩;rw [show Jld "gate" g [("name",n),("low",.int l),("high",.int h),("start",st),("rain",rn)]=([("name",n),("low",.int l),("high",.int h),("start",st),("rain",rn),("gate",g)]:List (Str×V)) from Jlc (fs:=[("name",n),("low",.int l),("high",.int h),("start",st),("rain",rn)]) (show (["name","low","high","start","rain"]:List Str).contains "gate" =false by decide +kernel)];show Q .non _;simp only [Jm8];exact k _ s1
theorem Jqk:Jjp ["self","name","basin","want"] ["self","name","basin","want"] (Jjl (Jjz (top 81) 0)):=%[|0]
theorem Jud (T:Tx K mg a):Sr P w K mg base (CXX P w) 4 a.Jh9 a.Jha ["self","name","basin","want"] (Sn0 K a):=by
 have Scp:=%[Js3|1];have Sw:=%[Jkz|1];have Sak:=%[Jo2|1];have Sd8:=%[Js0|1];refine %[T.Jcm.fn.okX,Jqk|2]
 ·obtain ⟨p,dx,n,b,wt,d,rfl,_⟩:=h;rfl
 ·obtain ⟨p,dx,n,b,wt,d,rfl,hp,nm,nb,tw,du,k⟩:=h;refine ⟨?t,?B,?C⟩
  case B=>
   refine' Sx (Jk4 (Jk5 (Jk0 (Jji T.J2 Scp hr (by decide) (Sj (pv 1) Sl)))) (Jjj (Jl0 Jl1 rfl (Jlt T.Jco Sak hr (by decide) T.Jc6.bd T.Jb9 (Sj (pv 1) Sl)))) Jjs) ?_
   rotate_left
   refine' Sx (Jk4 (Jk5 (Jk0 (Jji T.J2 Scp hr (by decide) (Sj (pv 2) Sl)))) (Jjj (Jl0 Jl1 rfl (Jlt T.Jco Sak hr (by decide) T.Jc6.bd T.Jb9 (Sj (pv 2) Sl)))) Jjs) ?_
   rotate_left
   refine' Sx (Jk4 (Jk5 (Jk0 (Jji T.J0 Sw hr (by decide) (Sj (pv 3) (Sj Sn (Sj (Jl6 (by rfl) T.Jan (v:=.int 6) ⟨_,rfl⟩) Sl)))))) (Jjj (Jl0 Jl1 rfl (Jlt T.Jcr Sd8 hr (by decide) T.Jc9.bd T.Jbc (Sj (pv 3) Sl)))) Jjs) ?_
   rotate_left
   refine' Sx (Jl8 (pv 0) (pv 1) rfl) ?_
   rotate_left
   refine' Sx (Jl8 (pv 0) (pv 2) rfl) ?_
   rotate_left
   exact (Jjj (Jl8 (pv 0) (pv 3) rfl))
  refine ⟨_,rfl,n,rfl,nm,λH1 s1=>⟨_,rfl,?_⟩⟩;cases du with
  |name e=>
   rw [e];exact Jkf (Jle T.Jco T.Jdj rfl λe dx h1 h2 h3=>k _ _ _ ((RfC.new h1 h2 h3).of s1))
  |basin e1 e2=>
   rw [e1];refine Jk9 ⟨_,rfl,b,rfl,nb.same s1,λH2 s2=>⟨_,rfl,?_⟩⟩;rw [e2];exact Jkf (Jle T.Jco T.Jdj rfl λe dx h1 h2 h3=>k _ _ _ ((RfC.new h1 h2 h3).of (s1.trans s2)))
  |want e1 e2 e3=>
   rw [e1];refine Jk9 ⟨_,rfl,b,rfl,nb.same s1,λH2 s2=>⟨_,rfl,?_⟩⟩;rw [e2];refine Jk9 ⟨_,rfl,wt,1,6,rfl,tw.same (s1.trans s2),_,rfl,?_⟩;rw [e3];exact Jkf (Jle T.Jcr T.Jdm rfl λe dx h1 h2 h3=>k _ _ _ ((RfC.new h1 h2 h3).of (s1.trans s2)))
  |good e1 e2 e3=>
   rw [e1];refine Jk9 ⟨_,rfl,b,rfl,nb.same s1,λH2 s2=>⟨_,rfl,?_⟩⟩;rw [e2];refine Jk9 ⟨_,rfl,wt,1,6,rfl,tw.same (s1.trans s2),_,rfl,?_⟩;rw [e3];refine Jk9 ⟨_,rfl,_,rfl,p,_,dx,[],rfl,s2 _ _ (s1 _ _ hp),T.Jde,T.Jdz,by simp,?_⟩;rw [show Jld "name" n []=([("name",n)]:List (Str×V)) from rfl];refine ⟨_,rfl,_,rfl,p,_,dx,_,rfl,So,T.Jde,T.Je0,by simp,?_⟩;rw [show Jld "basin" b [("name",n)]=([("name",n),("basin",b)]:List (Str×V)) from Jlc (fs:=[("name",n)]) (show (["name"]:List Str).contains "basin" =false by decide +kernel)];refine ⟨_,rfl,_,rfl,p,_,dx,_,rfl,So,T.Jde,T.Je1,by simp,?_⟩;rw [show Jld "want" wt [("name",n),("basin",b)]=([("name",n),("basin",b),("want",wt)]:List (Str×V)) from Jlc (fs:=[("name",n),("basin",b)]) (show (["name","basin"]:List Str).contains "want" =false by decide +kernel)];show Q .non _;simp only [Jm8];exact k _ (s1.trans s2)
theorem ifF {b:Bool} {A B:Prop} (h:b=false) (k:B):if b=true then A else B:=by rw [h];exact Jk9 k
theorem ifT {b:Bool} {A B:Prop} (h:b=true) (k:A):if b=true then A else B:=by rw [h];exact Jkf k
theorem Jsy:Jjp ["names"] ["names"] (Jjl (top 82)):=%[|0]
theorem Jow (T:Tx K mg a):Sr P w K mg base CX0 1 a.Jhb a.Jhc ["names"] (Yal K):=by
 refine %[T.Jw.fn.ok,Jsy|2]
 ·obtain ⟨l,zs,rfl,_⟩:=h;rfl
 ·obtain ⟨l,zs,rfl,hq,hz,k⟩:=h;refine ⟨_,(Jjj (Jjo (Jmv Jn8 (Jjn Jrr (by rfl) T.Jay Jkh (Sj (Jkk (Jrs rfl) (by rfl) T.Jb4 Slc (Sj (pv 0) Sl)) Sl)) (Jjn Jjr (by rfl) T.Jay Jkh (Sj (pv 0) Sl)) (Jkn _)))),?_⟩;refine ⟨_,rfl,l,zs,rfl,hq,hz,λt ht=>⟨t,zs,rfl,So,?_⟩⟩;have s1:=Si.upd (o:=TxS P w t zs) ht;refine ⟨_,rfl,l,_,rfl,.inl (s1.seq hq),rfl,?_⟩;have e:decide (V.int ((uq zs).length:Nat)=V.int ((zs.map V.str).length:Nat))=decide ((uq zs).length=zs.length):=by
   rw [yf];by_cases h:(uq zs).length=zs.length
   ·rw [decide_eq_true h,decide_eq_true (by rw [h])]
   ·rw [decide_eq_false h,decide_eq_false (λq=>h (by have:=V.int.inj q;omega))]
  rw [e];exact k _ s1
theorem Jsx:Jjp ["thing"] ["thing"] (Jjl (top 83)):=%[|0]
theorem Jsu (T:Tx K mg a):Sr P w K mg base CX0 2 a.Jhd a.Jhe ["thing"] (Yac K a):=by
 have Sc4:=%[Jow|1];refine %[T.Jx.fn.ok,Jsx|2]
 ·obtain ⟨l,os,Bs,rfl,_⟩:=h;rfl
 ·obtain ⟨l,os,Bs,rfl,hl,bl,hn,nd,k⟩:=h;have len:=bl.len;refine ⟨?t,?B,?C⟩
  case B=>
   refine' Sx ?O0 ?O1
   case O0=>
    refine' Jk4 ?O2 ?O3 ?O4
    case O2=>exact (PW.pt (Joy (Jk5 (Jk0 (Jjn Jrq (by rfl) T.Jax Jjv (Sj (pv 0) (Sj (Jkw (Sj (Jkr (v:=.ty "list") (by rfl) T.Jaz Jlg rfl) (Sj (Jkr (v:=.ty "tuple") (by rfl) T.Jb7 Jm9 rfl) Sl))) Sl))))) (Jnh (Jk5 (Jvy Jnp Jnp Sn (Jjn Jjr (by rfl) T.Jay Jkh (Sj (pv 0) Sl)) (Jl6 (by rfl) T.Jap (v:=.int 16) ⟨_,rfl⟩))))))
    case O3=>
     refine' Jjj ?O5
     case O5=>exact (Jjo Jko)
    case O4=>exact Jjs
   case O1=>
   refine' Sx ?O6 ?O7
   case O6=>
    refine' Jk4 ?O8 ?O9 ?Oa
    case O8=>exact (Jk5 (Jk0 (Jjn (Jku rfl) (by rfl) T.Jar Jlj (Sj (Jk2 (N:=(["basin"]:List Str)) (ini:=[none]) rfl (Jkm (pv 0)) (λ_ _ _ _ _=>(Jjq (i:=0) (by decide +kernel:(["basin"]:List Str).Nodup) rfl (ye rfl))) (λ_ _ _ _ _=>Jk1) (λ_ _ _ _ _=>(Jjn (Jq3 (K:=K) rfl) (by rfl) T.Jax Jjv (Sj (pv 0) (Sj (Jl6 (by rfl) T.Jbl (v:=.ref _) rfl) Sl))))) Sl))))
    case O9=>
     refine' Jjj ?Ob
     case Ob=>exact (Jjo Jko)
    case Oa=>exact Jjs
   case O7=>
   refine' Jjj ?Oc
   case Oc=>exact (Jjo (Jji T.Jw Sc4 hr (by decide) (Sj (Jk2 (N:=(["basin"]:List Str)) (ini:=[none]) rfl (Jkm (pv 0)) (λ_ _ _ _ _=>(Jjq (i:=0) (by decide +kernel:(["basin"]:List Str).Nodup) rfl (ye rfl))) (λ_ _ _ _ _=>Jk1) (λ_ _ _ _ _=>(Jm7 (K:=K) rfl (pv 0) (by rfl)))) Sl)))
  refine ⟨_,rfl,(show 2<=S6 by decide),λp hp=>⟨_,p,_,_,.type "list",true,rfl,So,rfl,.of (.lst (Si.upd hp _ _ hl)),rfl,_,rfl,Jk9 ?_⟩⟩;have s1:=Si.upd (o:=.tup [.ty "list",.ty "tuple"]) hp;refine ⟨_,rfl,l,_,rfl,.inl (Ss.of (s1 _ _ hl)),_,_,rfl,rfl,_,rfl,ifT (by rw [yf];simp;omega) ⟨_,_,rfl,rfl,_,rfl,ifF (by rw [yf];simp;omega) ?_⟩⟩;refine ⟨_,rfl,l,rfl,⟨_,Ss.of (s1 _ _ hl)⟩,λD hD=>?_⟩;refine Jl3 (K:=K) (a:=l) (xs:=os.map V.ref) (D:=D) (λi σ H'=>∃o,σ= [o]/\H' D=some (.lst ((yo i true).map V.bl))/\Si (upd H p (.tup [.ty "list",.ty "tuple"])) H') ⟨_,rfl,So,Si.upd hD⟩ (λi σ H' _ ⟨o,_,_,sm⟩=>Ss.of (sm _ _ (s1 _ _ hl))) ?_ ?_
  ·rintro i v σ H' hv ⟨o,rfl,hDs,sm⟩;obtain ⟨ob,B,rfl,hB,dx,hb,gs⟩:=(bl.same (s1.trans sm)).get hv;have hi:i < os.length:=by have:=(yk.mp hv).1;rwa [yf] at this
   refine Jkp ⟨_,rfl,_,_,_,_,true,rfl,rfl,.of (T.Jdc.ty T.Jdb hb),T.Jeb,_,hDs,?_,_,rfl,?_,λc o z=>?_⟩
   ·rw [yf,yci];exact Jkc (by omega)
   ·rw [So,List.replicate_succ',yam];rfl
   ·rw [Sy (Jjm z hD)];exact sm _ _ z
  rintro σ H1 ⟨o,rfl,hDs,sm⟩;refine ⟨D,_,rfl,Ss.of hDs,_,rfl,ifF (by simp) ?_⟩;have s2:=s1.trans sm;refine ⟨_,rfl,l,rfl,⟨_,Ss.of (s2 _ _ hl)⟩,λD2 hD2=>?_⟩;refine Jl3 (K:=K) (a:=l) (xs:=os.map V.ref) (D:=D2) (λi σ H'=>∃o,σ= [o]/\H' D2=some (.lst (((Bs.take i).map (·.z)).map V.str))/\Si H1 H') ⟨_,rfl,So,Si.upd hD2⟩ (λi σ H' _ ⟨o,_,_,sm⟩=>Ss.of (sm _ _ (s2 _ _ hl))) ?_ ?_
  ·rintro i v σ H' hv ⟨o,rfl,hDs,sm3⟩;obtain ⟨ob,B,rfl,hB,dx,hb,gs⟩:=(bl.same (s2.trans sm3)).get hv;refine Jkp ⟨_,rfl,ob,_,dx,_,_,rfl,hb,T.Jdb,T.Jdt,rfl,_,hDs,?_,_,rfl,?_,λc o z=>?_⟩
   ·rw [yf,yf,yaf];exact Jkc (by omega)
   ·rw [So,yad,hB];simp
   ·rw [Sy (Jjm z hD2)];exact sm3 _ _ z
  rintro σ H2 ⟨o,rfl,hDs,sm3⟩;rw [yf,yaj (by omega)] at hDs;refine ⟨D2,Bs.map (·.z),rfl,Ss.of hDs,by rw [yf];omega,λH3 s3=>?_⟩;rw [Jwa nd,decide_eq_true rfl];exact k _ ((s2.trans sm3).trans s3)
theorem Sdb:Jjp ["thing","basins","names"] ["thing","basins"] (Jjl (top 84)):=%[|0]
theorem Juf (T:Tx K mg a):Sr P w K mg base CX0 2 a.Jhf a.Jhg ["thing","basins"] (Ycp K a):=by
 have Sc4:=%[Jow|1];refine %[T.Jy.fn.ok,Sdb|2]
 ·obtain ⟨l,m,os,ts,Bs,Ts,rfl,_⟩:=h;rfl
 ·obtain ⟨l,m,os,ts,Bs,Ts,rfl,hl,bl,hn,hm,tl,tn,nd,inn,k⟩:=h;have len:=bl.len;have tlen:=tl.len;refine ⟨?t,?B,?C⟩
  case B=>
   refine' Sx ?O0 ?O1
   case O0=>
    refine' Jk4 ?O2 ?O3 ?O4
    case O2=>exact (PW.pt (Joy (Jk5 (Jk0 (Jjn Jrq (by rfl) T.Jax Jjv (Sj (pv 0) (Sj (Jkw (Sj (Jkr (v:=.ty "list") (by rfl) T.Jaz Jlg rfl) (Sj (Jkr (v:=.ty "tuple") (by rfl) T.Jb7 Jm9 rfl) Sl))) Sl))))) (Jnh (Jkj Yo (Jjn Jjr (by rfl) T.Jay Jkh (Sj (pv 0) Sl)) (Jl6 (by rfl) T.Jaq (v:=.int 3) ⟨_,rfl⟩) (Jkn _)))))
    case O3=>
     refine' Jjj ?O5
     case O5=>exact (Jjo Jko)
    case O4=>exact Jjs
   case O1=>
   refine' Sx ?O6 ?O7
   case O6=>
    refine' Jk4 ?O8 ?O9 ?Oa
    case O8=>exact (Jk5 (Jk0 (Jjn (Jku rfl) (by rfl) T.Jar Jlj (Sj (Jk2 (N:=(["town"]:List Str)) (ini:=[none]) rfl (Jkm (pv 0)) (λ_ _ _ _ _=>(Jjq (i:=0) (by decide +kernel:(["town"]:List Str).Nodup) rfl (ye rfl))) (λ_ _ _ _ _=>Jk1) (λ_ _ _ _ _=>(Jjn (Jq3 (K:=K) rfl) (by rfl) T.Jax Jjv (Sj (pv 0) (Sj (Jl6 (by rfl) T.Jbm (v:=.ref _) rfl) Sl))))) Sl))))
    case O9=>
     refine' Jjj ?Ob
     case Ob=>exact (Jjo Jko)
    case Oa=>exact Jjs
   case O7=>
   refine' Sx ?Oc ?Od
   case Oc=>exact (Jjt (i:=2) Sdb.nd rfl (yak rfl) (Jk2 (N:=(["basin"]:List Str)) (ini:=[none]) rfl (Jkm (pv 1)) (λ_ _ _ _ _=>(Jjq (i:=0) (by decide +kernel:(["basin"]:List Str).Nodup) rfl (ye rfl))) (λ_ _ _ _ _=>Jk1) (λ_ _ _ _ _=>(Jm7 (K:=K) rfl (pv 0) (by rfl)))))
   case Od=>
   refine' Jjj ?Oe
   case Oe=>exact (Jjo (Jmd (Jji T.Jw Sc4 hr (by decide) (Sj (Jk2 (N:=(["town"]:List Str)) (ini:=[none]) rfl (Jkm (pv 0)) (λ_ _ _ _ _=>(Jjq (i:=0) (by decide +kernel:(["town"]:List Str).Nodup) rfl (ye rfl))) (λ_ _ _ _ _=>Jk1) (λ_ _ _ _ _=>(Jm7 (K:=K) rfl (pv 0) (by rfl)))) Sl)) (Jn0 (Jjn (Jku rfl) (by rfl) T.Jar Jlj (Sj (Jk2 (N:=(["town","names"]:List Str)) (ini:=[none,some 2]) rfl (Jkm (pv 0)) (λ_ _ _ _ _=>(Jjq (i:=0) (by decide +kernel:(["town","names"]:List Str).Nodup) rfl (ye rfl))) (λ_ _ _ _ _=>Jk1) (λ_ _ _ _ _=>(Jmv (Js6 (K:=K) rfl) (Jm7 (K:=K) rfl (pv 0) (by rfl)) (pv 1) (by with_unfolding_all rfl)))) Sl)))))
  refine ⟨_,rfl,(show 2<=S6 by decide),λp hp=>⟨_,p,_,_,.type "list",true,rfl,So,rfl,.of (.lst (Si.upd hp _ _ hm)),rfl,_,rfl,Jk9 ?_⟩⟩;have s1:=Si.upd (o:=.tup [.ty "list",.ty "tuple"]) hp;refine ⟨_,rfl,m,_,rfl,.inl (Ss.of (s1 _ _ hm)),_,_,rfl,rfl,_,rfl,ifF (by rw [yf];simp;omega) ?_⟩;refine ⟨_,rfl,m,rfl,⟨_,Ss.of (s1 _ _ hm)⟩,λD hD=>?_⟩;refine Jl3 (K:=K) (a:=m) (xs:=ts.map V.ref) (D:=D) (λi σ H'=>∃o,σ= [o]/\H' D=some (.lst ((yo i true).map V.bl))/\Si (upd H p (.tup [.ty "list",.ty "tuple"])) H') ⟨_,rfl,So,Si.upd hD⟩ (λi σ H' _ ⟨o,_,_,sm⟩=>Ss.of (sm _ _ (s1 _ _ hm))) ?_ ?_
  ·rintro i v σ H' hv ⟨o,rfl,hDs,sm⟩;obtain ⟨ob,B,rfl,hB,dx,hb⟩:=(tl.same (s1.trans sm)).get hv;have hi:i < ts.length:=by have:=(yk.mp hv).1;rwa [yf] at this
   refine Jkp ⟨_,rfl,_,_,_,_,true,rfl,rfl,.of (T.Jdf.ty T.Jde hb),T.Jec,_,hDs,?_,_,rfl,?_,λc o z=>?_⟩
   ·rw [yf,yci];exact Jkc (by omega)
   ·rw [So,List.replicate_succ',yam];rfl
   ·rw [Sy (Jjm z hD)];exact sm _ _ z
  rintro σ H1 ⟨o,rfl,hDs,sm⟩;refine ⟨D,_,rfl,Ss.of hDs,_,rfl,ifF (by simp) ?_⟩;have s2:=s1.trans sm;refine ⟨_,rfl,l,rfl,⟨_,Ss.of (s2 _ _ hl)⟩,λD2 hD2=>?_⟩;refine Jl3 (K:=K) (a:=l) (xs:=os.map V.ref) (D:=D2) (λi σ H'=>∃o,σ= [o]/\H' D2=some (.lst (((Bs.take i).map (·.z)).map V.str))/\Si H1 H') ⟨_,rfl,So,Si.upd hD2⟩ (λi σ H' _ ⟨o,_,_,sm⟩=>Ss.of (sm _ _ (s2 _ _ hl))) ?_ ?_
  ·rintro i v σ H' hv ⟨o,rfl,hDs,sm3⟩;obtain ⟨ob,B,rfl,hB,dx,hb,gs⟩:=(bl.same (s2.trans sm3)).get hv;refine Jkp ⟨_,rfl,ob,_,dx,_,_,rfl,hb,T.Jdb,T.Jdt,rfl,_,hDs,?_,_,rfl,?_,λc o z=>?_⟩
   ·rw [yf,yf,yaf];exact Jkc (by omega)
   ·rw [So,yad,hB];simp
   ·rw [Sy (Jjm z hD2)];exact sm3 _ _ z
  rintro σ H2 ⟨o,rfl,hD2s,sm3⟩;rw [yf,yaj (by omega)] at hD2s;have s3:=s2.trans sm3;refine ⟨_,rfl,m,rfl,⟨_,Ss.of (s3 _ _ hm)⟩,λD3 hD3=>?_⟩;refine Jl3 (K:=K) (a:=m) (xs:=ts.map V.ref) (D:=D3) (λi σ H'=>∃o,σ= [o]/\H' D3=some (.lst (((Ts.take i).map (·.z)).map V.str))/\Si H2 H') ⟨_,rfl,So,Si.upd hD3⟩ (λi σ H' _ ⟨o,_,_,sm⟩=>Ss.of (sm _ _ (s3 _ _ hm))) ?_ ?_
  ·rintro i v σ H' hv ⟨o,rfl,hDs,sm4⟩;obtain ⟨ob,B,rfl,hB,dx,hb⟩:=(tl.same (s3.trans sm4)).get hv;refine Jkp ⟨_,rfl,ob,_,dx,_,_,rfl,hb,T.Jde,T.Jdz,rfl,_,hDs,?_,_,rfl,?_,λc o z=>?_⟩
   ·rw [yf,yf,yaf];exact Jkc (by omega)
   ·rw [So,yad,hB];simp
   ·rw [Sy (Jjm z hD3)];exact sm4 _ _ z
  rintro σ H3 ⟨o,rfl,hD3s,sm4⟩;rw [yf,yaj (by omega)] at hD3s;refine ⟨D3,Ts.map (·.z),rfl,Ss.of hD3s,by rw [yf];omega,λH4 s4=>⟨_,rfl,ifT (by rw [Jwa nd,decide_eq_true rfl]) ?_⟩⟩;have s5:=(s3.trans sm4).trans s4;have hD24:=s4 _ _ (sm4 _ _ hD2s);refine ⟨_,rfl,m,rfl,⟨_,Ss.of (s5 _ _ hm)⟩,λD4 hD4=>?_⟩;refine Jl3 (K:=K) (a:=m) (xs:=ts.map V.ref) (D:=D4) (λi σ H'=>∃o,σ= [o,some (.ref D2)]/\H' D4=some (.lst ((yo i true).map V.bl))/\Si H4 H') ⟨_,rfl,So,Si.upd hD4⟩ (λi σ H' _ ⟨o,_,_,sm⟩=>Ss.of (sm _ _ (s5 _ _ hm))) ?_ ?_
  ·rintro i v σ H' hv ⟨o,rfl,hDs,sm6⟩;obtain ⟨ob,B,rfl,hB,dx,hb⟩:=(tl.same (s5.trans sm6)).get hv;have hi:i < ts.length:=by have:=(yk.mp hv).1;rwa [yf] at this
   refine Jkp ⟨_,rfl,ob,_,dx,_,_,rfl,hb,T.Jde,T.Je0,rfl,_,rfl,D2,_,rfl,.inl (Ss.of (sm6 _ _ hD24)),rfl,by simp [Jlx],?_⟩;have e:inV (V.str B.b) ((Bs.map (·.z)).map V.str)=true:=by
    obtain ⟨z,hz,ez⟩:=yab.mp (inn B (yv hB));unfold inV;refine List.any_eq_true.mpr ⟨V.str z.z,yab.mpr ⟨z.z,yab.mpr ⟨z,hz,rfl⟩,rfl⟩,?_⟩;simp [eqV,ez]
   show ∃ys,_;rw [if_neg yai,e];refine ⟨_,hDs,?_,_,rfl,?_,λc o z=>?_⟩
   ·rw [yf,yci];exact Jkc (by omega)
   ·rw [So,List.replicate_succ',yam];rfl
   ·rw [Sy (Jjm z hD4)];exact sm6 _ _ z
  rintro σ H5 ⟨o,rfl,hD4s,sm6⟩;refine ⟨D4,_,rfl,Ss.of hD4s,?_⟩;rw [show (yo (ts.map V.ref).length true).all id=true by simp];exact k _ (s5.trans sm6)
theorem Jor:Jjp ["self","thing"] ["self","thing"] (Jjl (Jjz (top 7) 0)):=%[|0]
theorem Jr7 (T:Tx K mg a):Sr P w K mg base CX0 1 a.Jet a.Jeu ["self","thing"] (Jnj K "thing"):=by
 refine %[T.Jca.fn.ok,Jor|2]
 ·obtain ⟨e,C,W,fI,y,rfl,_⟩:=h;rfl
 ·obtain ⟨e,C,W,fI,y,rfl,q,c,n,k⟩:=h;refine ⟨_,(Jjj (Jng (pv 0) (pv 1) rfl)),?_⟩;exact ⟨_,rfl,_,rfl,e,C,W,fI,true,rfl,q,c,n,k⟩
theorem Jos:Jjp ["self","thing"] ["self","thing"] (Jjl (Jjz (top 8) 0)):=%[|0]
theorem Jr8 (T:Tx K mg a):Sr P w K mg base CX0 1 a.Jev a.Jew ["self","thing"] (Jnj K "thing"):=by
 refine %[T.Jcb.fn.ok,Jos|2]
 ·obtain ⟨e,C,W,fI,y,rfl,_⟩:=h;rfl
 ·obtain ⟨e,C,W,fI,y,rfl,q,c,n,k⟩:=h;refine ⟨_,(Jjj (Jng (pv 0) (pv 1) rfl)),?_⟩;exact ⟨_,rfl,_,rfl,e,C,W,fI,true,rfl,q,c,n,k⟩
theorem Jw9 {H:Hp} {p q:S1} {o u:HO} (h:p≠q):upd (upd H p o) q u=upd (upd H q u) p o:=by
 funext c;by_cases h1:c=p
 ·subst h1;rw [So,Sy h,So]
 ·rw [Sy h1];by_cases h2:c=q
  ·subst h2;rw [So,So]
  ·rw [Sy h2,Sy h2,Sy h1]
noncomputable def Sj6 (c g b t:V):List (Str×V):=[("cloud",c),("gain",g),("basins",b),("towns",t)]
inductive Ycn (K:Sd) (a:Ad) (vs:List V) (H:Hp) (Q:VK) (z3:XK):Prop where
 |mk (p dx l m:S1) (c g:Int) (os ts:List S1) (Bs:List Bsn) (Ts:List Twn) (_:vs= [.ref p,.int c,.int g,.ref l,.ref m]) (_:H p=some (.ins a.Jja dx [])) (_:(0<=c/\c<=12)) (_:(0<=g/\g<=c)) (_:H l=some (.lst (os.map V.ref))) (_:Sbm K a H os Bs) (_:(1<=Bs.length/\Bs.length<=16)) (_:(Bs.map (·.z)).Nodup) (_:H m=some (.lst (ts.map V.ref))) (_:Sc3 a H ts Ts) (_:Ts.length<=3) (_:(Ts.map (·.z)).Nodup) (_:(∀t∈Ts,t.b∈Bs.map (·.z))) (_:∀H' b t,Si H H'->H' b=some (.tup (os.map V.ref))->H' t=some (.tup (ts.map V.ref))->b≠p->t≠p->Q .non (upd H' p (.ins a.Jja dx (Sj6 (.int c) (.int g) (.ref b) (.ref t)))))
theorem Jms {i lo hi:Int} (h1:lo<=i) (h2:i<=hi):Jjw (.int i) lo hi=true:=by
 show (decide (lo<=i)&&decide (i<=hi))=true;rw [decide_eq_true h1,decide_eq_true h2];rfl
theorem Jps:Jjp ["self","cloud","gain","basins","towns"] ["self","cloud","gain","basins","towns"] (Jjl (Jjz (top 85) 0)):=%[|0]
theorem Jst (T:Tx K mg a):Sr P w K mg base (CXX P w) 4 a.Jhh a.Jhi ["self","cloud","gain","basins","towns"] (Ycn K a):=by
 have Sw:=%[Jkz|1];have Sey:=%[Jsu|1];have Sfl:=%[Juf|1];have Sbn:=%[Jr7|1];have Sbo:=%[Jr8|1];refine %[T.Jcn.fn.okX,Jps|2]
 ·obtain ⟨p,dx,l,m,c,g,os,ts,Bs,Ts,rfl,_⟩:=h;rfl
 ·obtain ⟨p,dx,l,m,c,g,os,ts,Bs,Ts,rfl,hp,hc,hg,hl,bl,hn,nd,hm,tl,tn,tnd,inn,k⟩:=h;refine ⟨?t,?B,?C⟩
  case B=>
   refine' Sx ?O0 ?O1
   case O0=>
    refine' Jk4 ?O2 ?O3 ?O4
    case O2=>exact (Jk5 (Jk0 (Jji T.J0 Sw hr (by decide) (Sj (pv 1) (Sj Sn (Sj (Jl6 (by rfl) T.Jao (v:=.int 12) ⟨_,rfl⟩) Sl))))))
    case O3=>
     refine' Jjj ?O5
     case O5=>exact (Jl0 Jl1 rfl (Jlt T.Jcs Sbn hr (by decide) T.Jca.bd T.Jbd (Sj (pv 1) Sl)))
    case O4=>exact Jjs
   case O1=>
   refine' Sx ?O6 ?O7
   case O6=>
    refine' Jk4 ?O8 ?O9 ?Oa
    case O8=>exact (Jk5 (Jk0 (Jji T.J0 Sw hr (by decide) (Sj (pv 2) (Sj Sn (Sj (pv 1) Sl))))))
    case O9=>
     refine' Jjj ?Ob
     case Ob=>exact (Jl0 Jl1 rfl (Jlt T.Jcs Sbn hr (by decide) T.Jca.bd T.Jbd (Sj (pv 2) Sl)))
    case Oa=>exact Jjs
   case O7=>
   refine' Sx ?Oc ?Od
   case Oc=>
    refine' Jk4 ?Oe ?Of ?Og
    case Oe=>exact (Jk5 (Jk0 (Jji T.Jx Sey hr (by decide) (Sj (pv 3) Sl))))
    case Of=>
     refine' Jjj ?Oh
     case Oh=>exact (Jl0 Jl1 rfl (Jlt T.Jct Sbo hr (by decide) T.Jcb.bd T.Jbe (Sj (pv 3) Sl)))
    case Og=>exact Jjs
   case Od=>
   refine' Sx ?Oi ?Oj
   case Oi=>
    refine' Jk4 ?Ok ?Ol ?Om
    case Ok=>exact (Jk5 (Jk0 (Jji T.Jy Sfl hr (by decide) (Sj (pv 4) (Sj (pv 3) Sl)))))
    case Ol=>
     refine' Jjj ?On
     case On=>exact (Jl0 Jl1 rfl (Jlt T.Jct Sbo hr (by decide) T.Jcb.bd T.Jbe (Sj (pv 4) Sl)))
    case Om=>exact Jjs
   case Oj=>
   refine' Sx ?Oo ?Op
   case Oo=>exact (Jl8 (pv 0) (pv 1) rfl)
   case Op=>
   refine' Sx ?Oq ?Or
   case Oq=>exact (Jl8 (pv 0) (pv 2) rfl)
   case Or=>
   refine' Sx ?Os ?Ot
   case Os=>exact (Jl8 (pv 0) (Jkk Jmx (by rfl) T.Jb7 Jm9 (Sj (pv 3) Sl)) rfl)
   case Ot=>
   refine' Jjj ?Ou
   case Ou=>exact (Jl8 (pv 0) (Jkk Jmx (by rfl) T.Jb7 Jm9 (Sj (pv 4) Sl)) rfl)
  refine ⟨_,rfl,_,0,12,rfl,.inl ⟨_,rfl⟩,_,rfl,ifF (by rw [Jms hc.1 hc.2];rfl) ?_⟩;refine ⟨_,rfl,_,rfl,_,0,c,rfl,.inl ⟨_,rfl⟩,_,rfl,ifF (by rw [Jms hg.1 hg.2];rfl) ?_⟩;refine ⟨_,rfl,l,os,Bs,rfl,hl,bl,hn,nd,λH1 s1=>⟨_,rfl,Jk9 ?_⟩⟩;refine ⟨_,rfl,_,rfl,l,m,os,ts,Bs,Ts,rfl,s1 _ _ hl,bl.same s1,hn.2,s1 _ _ hm,tl.same s1,tn,tnd,inn,λH2 s2=>⟨_,rfl,Jk9 ?_⟩⟩;have s3:=s1.trans s2;have hp2:=s3 _ _ hp;refine ⟨_,rfl,_,rfl,p,_,dx,[],rfl,hp2,T.Jdh,T.Je2,by simp,?_⟩;rw [show Jld "cloud" (.int c) []=([("cloud",.int c)]:List (Str×V)) from rfl];refine ⟨_,rfl,_,rfl,p,_,dx,_,rfl,So,T.Jdh,T.Je3,by simp,?_⟩;rw [show Jld "gain" (.int g) [("cloud",.int c)]=([("cloud",.int c),("gain",.int g)]:List (Str×V)) from Jlc (fs:=[("cloud",.int c)]) (show (["cloud"]:List Str).contains "gain" =false by decide +kernel),Jm8];have nl:l≠p:=λe=>by subst e;rw [hl] at hp;cases hp
  have nm:m≠p:=λe=>by subst e;rw [hm] at hp;cases hp
  refine ⟨_,rfl,l,_,rfl,.inl ⟨Ss.of (by rw [Sy nl];exact s3 _ _ hl),λb hb=>?_⟩⟩;have nb:b≠p:=λe=>by subst e;rw [So] at hb;cases hb
  rw [Sy nb] at hb;rw [Jw9 nb.symm];refine ⟨_,rfl,p,_,dx,_,rfl,So,T.Jdh,T.Je4,by simp,?_⟩;rw [show Jld "basins" (.ref b) [("cloud",.int c),("gain",.int g)]=([("cloud",.int c),("gain",.int g),("basins",.ref b)]:List (Str×V)) from Jlc (fs:=[("cloud",.int c),("gain",.int g)]) (show (["cloud","gain"]:List Str).contains "basins" =false by decide +kernel),Jm8];have s4:=s3.trans (Si.upd (o:=.tup (os.map V.ref)) hb);refine ⟨_,rfl,m,_,rfl,.inl ⟨Ss.of (by rw [Sy nm];exact s4 _ _ hm),λt ht=>?_⟩⟩;have nt:t≠p:=λe=>by subst e;rw [So] at ht;cases ht
  rw [Sy nt] at ht;rw [Jw9 nt.symm];refine ⟨_,rfl,p,_,dx,_,rfl,So,T.Jdh,T.Je5,by simp,?_⟩;rw [show Jld "towns" (.ref t) [("cloud",.int c),("gain",.int g),("basins",.ref b)]=(Sj6 (.int c) (.int g) (.ref b) (.ref t)) from Jlc (fs:=[("cloud",.int c),("gain",.int g),("basins",.ref b)]) (show (["cloud","gain","basins"]:List Str).contains "towns" =false by decide +kernel),Jm8];have s5:=Si.upd (o:=.tup (ts.map V.ref)) ht;exact k _ b t (s4.trans s5) (s5 _ _ So) So nb nt
noncomputable def wl:List V->List Int->List Int->List Bool
 |v::vs,l::ls,h::hs=>Jjw v l h::wl vs ls hs
 |_,_,_=>[]
theorem Yb2:∀{vs:List V} {ls hs:List Int},vs.length=ls.length->ls.length=hs.length->(wl vs ls hs).length=vs.length
 | [],_,_,_,_=>rfl
 |_::_,[],_,e,_=>by simp at e
 |_::_,_::_,[],_,e=>by simp at e
 |_::vs,_::ls,_::hs,e1,e2=>by
  show (wl vs ls hs).length+1=vs.length+1;rw [Yb2 (by simpa using e1) (by simpa using e2)]
theorem Yb1:∀{vs:List V} {ls hs:List Int} {i:Nat} {v x y:V},vs[i]?=some v->(ls.map V.int)[i]?=some x->(hs.map V.int)[i]?=some y->∃l h,x= .int l/\y= .int h/\(wl vs ls hs)[i]?=some (Jjw v l h)
 |_::_,l::_,h::_,0,v,x,y,e1,e2,e3=>⟨l,h,by simpa using e2.symm,by simpa using e3.symm,by cases e1;rfl⟩
 |_::vs,_::ls,_::hs,i+1,v,x,y,e1,e2,e3=>by
  obtain ⟨l,h,a1,a2,a3⟩:=Yb1 (vs:=vs) (ls:=ls) (hs:=hs) (i:=i) (v:=v) (x:=x) (y:=y) (by simpa using e1) (by simpa using e2) (by simpa using e3);exact ⟨l,h,a1,a2,a3⟩
 | [],_,_,_,_,_,_,e,_,_=>by simp at e
 |_::_,[],_,_,_,_,_,_,e,_=>by simp at e
 |_::_,_::_,[],_,_,_,_,_,_,e=>by simp at e
noncomputable def Sdu (K:Sd) (H:Hp) (x:V):Option (List V)->Prop
 |some vs=>∃p,x= .ref p/\H p=some (.tup vs)/\(∀v∈vs,Tm K H v)/\vs.length<=40
 |none=>∃t,TyX K H x t/\Se K t (.type "tuple")=some false
theorem Sdu.same {K:Sd} {H H':Hp} {x:V} (s:Si H H'):∀{r:Option (List V)},Sdu K H x r->Sdu K H' x r
 |some _,⟨p,e,h1,h2,h3⟩=>⟨p,e,s _ _ h1,λv hv=>(h2 v hv).same s,h3⟩
 |none,⟨t,h1,h2⟩=>⟨t,Jli s h1,h2⟩
noncomputable def Jn1:Option (List V)->List Int->List Int->Bool
 |some vs,ls,hs=>decide (vs.length=ls.length)&&(wl vs ls hs).all id
 |none,_,_=>false
inductive Sqe (K:Sd) (vs:List V) (H:Hp) (Q:VK) (z3:XK):Prop where
 |mk (x:V) (r:Option (List V)) (l m:S1) (ls hs:List Int) (_:vs= [x,.ref l,.ref m]) (_:Sdu K H x r) (_:H l=some (.lst (ls.map V.int))) (_:H m=some (.lst (hs.map V.int))) (_:ls.length=hs.length) (_:ls.length<=40) (_:∀H',Si H H'->Q (.bl (Jn1 r ls hs)) H')
inductive Yco (K:Sd) (vs:List V) (H:Hp) (Q:VK) (z3:XK):Prop where
 |mk (x:V) (r:Option (List V)) (m:S1) (hs:List Int) (_:vs= [x,.ref m]) (_:Sdu K H x r) (_:H m=some (.lst (hs.map V.int))) (_:hs.length<=40) (_:∀H',Si H H'->Q (.bl (Jn1 r (yo hs.length 0) hs)) H')
noncomputable def Jy3:Option (List V)->Bool
 |some vs=>decide (vs.length=2)
 |none=>false
inductive Smw (K:Sd) (vs:List V) (H:Hp) (Q:VK) (z3:XK):Prop where
 |mk (x:V) (r:Option (List V)) (_:vs= [x]) (_:(match r with|some vs=>∃p,x= .ref p/\H p=some (.tup vs)|none=>∃t,TyX K H x t/\Se K t (.type "tuple")=some false)) (_:Q (.bl (Jy3 r)) H)
theorem Skf {i j k:Nat} {T:S1} {x y u:V} {σ:L2.St} {H:Hp} {A B:L2.St->Hp->Prop} (hT:SqT K H T [x,y,u]) (h:A (((σ.set i (some x)).set j (some y)).set k (some u)) H):
  Shx K 3 (Jqr (Jly i) (Jqr (Jly j) (Jqr (Jly k) Sj3))) (.ref T) σ H λσ3 H3=>Jsl σ3 H3 λb H4=>if b=true then A σ3 H4 else B σ3 H4:=by
 refine ⟨T,_,rfl,hT,rfl,_,_,rfl,_,_,rfl,_,_,rfl,rfl,?_⟩;show if true=true then A (((σ.set i (some x)).set j (some y)).set k (some u)) H else B (((σ.set i (some x)).set j (some y)).set k (some u)) H
 rw [if_pos rfl];exact h
theorem Jzd:Jjp ["thing","lows","highs"] ["thing","lows","highs"] (Jjl (top 18)):=%[|0]
theorem Jti (T:Tx K mg a):Sr P w K mg base CX0 2 a.Jf5 a.Jf6 ["thing","lows","highs"] (Sqe K):=by
 have Sw:=%[Jkz|1];refine %[T.J3.fn.ok,Jzd|2]
 ·obtain ⟨x,r,l,m,ls,hs,rfl,_⟩:=h;rfl
 ·obtain ⟨x,r,l,m,ls,hs,rfl,rt,hl,hm,e1,e2,k⟩:=h;refine ⟨?t,?B,?C⟩
  case B=>
   refine' Sx ?O0 ?O1
   case O0=>
    refine' Jk4 ?O2 ?O3 ?O4
    case O2=>exact (PW.pt (Joy (Jk5 (Jk0 (Jjn Jl2 (by rfl) T.Jax Jjv (Sj (pv 0) (Sj (Jkr (v:=.ty "tuple") (by rfl) T.Jb7 Jm9 rfl) Sl))))) (Jnh (Jkj Jy1 (Jjn Jjr (by rfl) T.Jay Jkh (Sj (pv 0) Sl)) (Jjn Jjr (by rfl) T.Jay Jkh (Sj (pv 1) Sl)) (Jkn _)))))
    case O3=>
     refine' Jjj ?O5
     case O5=>exact (Jjo Jko)
    case O4=>exact Jjs
   case O1=>
   refine' Jjj ?O6
   case O6=>exact (Jjo (Jjn (Jku rfl) (by rfl) T.Jar Jlj (Sj (Jk2 (N:=(["number","low","high"]:List Str)) (ini:=[none,none,none]) rfl (Yc3 true false false (by rfl) T.Jb8 (Sj (pv 0) (Sj (pv 1) (Sj (pv 2) Sl)))) (λ_ _ _ _ _=>(Jol (K:=K) (n:=3) rfl rfl (Jk3 (Jjq (i:=0) (by decide +kernel:(["number","low","high"]:List Str).Nodup) rfl (ye rfl)) (Jk3 (Jjq (i:=1) (by decide +kernel:(["number","low","high"]:List Str).Nodup) rfl (ye rfl)) (Jk3 (Jjq (i:=2) (by decide +kernel:(["number","low","high"]:List Str).Nodup) rfl (ye rfl)) Jlv))))) (λ_ _ _ _ _=>Jk1) (λ_ _ _ _ _=>(Jji T.J0 Sw hr (by decide) (Sj (pv 0) (Sj (pv 1) (Sj (pv 2) Sl)))))) Sl)))
  cases r with
  |none=>
   obtain ⟨t,ty,ek⟩:=rt;refine ⟨_,rfl,x,_,_,t,_,rfl,rfl,ty,ek,_,rfl,Jkf ?_⟩;refine Jkf ?_;exact k _ (λ_ _ h=>h)
  |some vs=>
   obtain ⟨p,rfl,hp,tms,hn⟩:=rt;refine ⟨_,rfl,_,_,_,.type "tuple",true,rfl,rfl,.of (.tup hp),rfl,_,rfl,Jk9 ?_⟩;refine ⟨_,rfl,p,_,rfl,.inr (SqT.of hp),_,rfl,l,_,rfl,.inl (Ss.of hl),rfl,?_⟩;by_cases en:vs.length=ls.length
   ·refine ⟨_,rfl,ifF (by simp [en]) ?_⟩;refine ⟨_,rfl,_,rfl,_,rfl,p,l,m,rfl,⟨_,SqT.of hp⟩,⟨_,Ss.of hl⟩,⟨_,Ss.of hm⟩,λD hD=>?_⟩;have s0:=Si.upd (o:=.lst []) hD;refine Jyl (K:=K) (l1:=p) (l2:=l) (l3:=m) (b1:=true) (b2:=false) (b3:=false) (xs:=vs) (ys:=ls.map V.int) (us:=hs.map V.int) (D:=D) (λi σ H'=>(∃o1 o2 o3,σ= [o1,o2,o3])/\H' D=some (.lst (((wl vs ls hs).take i).map V.bl))/\Si H H') ⟨⟨_,_,_,rfl⟩,So,s0⟩ (λi σ H' _ ⟨_,_,sm⟩=>⟨SqT.of (sm _ _ hp),Ss.of (sm _ _ hl),Ss.of (sm _ _ hm)⟩) (by rw [yf];exact en) (by rw [yf];omega) ?_ ?_
    ·rintro i x y u σ H' Ta hx hy hu ⟨⟨o1,o2,o3,rfl⟩,hDs,sm⟩ hT;obtain ⟨lo,hi,rfl,rfl,ew⟩:=Yb1 hx hy hu;have sT:=Si.upd (o:=.tup [x,.int lo,.int hi]) hT;have hi':i < vs.length:=(yk.mp hx).1;refine Skf (SqT.of So) ⟨_,rfl,_,rfl,_,rfl,_,lo,hi,rfl,(tms _ (yv hx)).same (sm.trans sT),_,sT _ _ hDs,?_,⟨_,_,_,rfl⟩,?_,?_⟩
     ·rw [yf,yaf];exact Jkc (by omega)
     ·rw [So,yad,ew];simp
     ·intro c o z;rw [Sy (Jjm z hD)];exact sT _ _ (sm _ _ z)
    rintro σ H1 ⟨_,hDs,sm⟩;rw [yaj (by rw [Yb2 en e1];omega)] at hDs;refine ⟨D,_,rfl,Ss.of hDs,?_⟩;have e:Jn1 (some vs) ls hs=(wl vs ls hs).all id:=by
     show (decide (vs.length=ls.length)&&_)=_;rw [decide_eq_true en,ybf]
    rw [<-e];exact k _ sm
   ·refine ⟨_,rfl,ifT (by simp;omega) ?_⟩;have e:Jn1 (some vs) ls hs=false:=by
     show (decide (vs.length=ls.length)&&_)=_;rw [decide_eq_false en,yax]
    rw [e] at k;exact k _ (λ_ _ h=>h)
theorem Jrd:Jjp ["thing","highs"] ["thing","highs"] (Jjl (top 19)):=%[|0]
theorem Jnn (T:Tx K mg a):Sr P w K mg base CX0 3 a.Jf7 a.Jf8 ["thing","highs"] (Yco K):=by
 have Se2:=%[Jti|1];refine %[T.J4.fn.ok,Jrd|2]
 ·obtain ⟨x,r,m,hs,rfl,_⟩:=h;rfl
 ·obtain ⟨x,r,m,hs,rfl,rt,hm,e2,k⟩:=h;refine ⟨?t,?B,?C⟩
  case B=>
   refine' Jjj ?O0
   case O0=>exact (Jjo (Jji T.J3 Se2 hr (by decide) (Sj (pv 0) (Sj (Jk2 (N:=(["high"]:List Str)) (ini:=[none]) rfl (Jkm (pv 1)) (λ_ _ _ _ _=>(Jjq (i:=0) (by decide +kernel:(["high"]:List Str).Nodup) rfl (ye rfl))) (λ_ _ _ _ _=>Jk1) (λ_ _ _ _ _=>Sn)) (Sj (pv 1) Sl)))))
  refine ⟨_,rfl,_,rfl,m,rfl,⟨_,Ss.of hm⟩,λD hD=>?_⟩;refine Joz ((yo hs.length (0:Int)).map V.int) hD (by simp) (by rw [yf];omega) hm ?_ ?_
  ·intro i x y H' Q' hx hy sm k';have e:y= .int 0:=by
    rw [List.map_replicate,yco] at hy;split at hy
    ·exact (yah.inj hy).symm
    ·cases hy
   subst e;exact k' _ (λ_ _ h=>h)
  ·intro H' sm hDs;refine ⟨_,rfl,x,r,D,m,yo hs.length 0,hs,rfl,rt.same sm,hDs,sm _ _ hm,by simp,by simpa using e2,λH2 s2=>k _ (sm.trans s2)⟩
theorem Jxc:Jjp ["thing"] ["thing"] (Jjl (top 20)):=%[|0]
theorem Jmp (T:Tx K mg a):Sr P w K mg base CX0 1 a.Jf9 a.Jfa ["thing"] (Smw K):=by
 refine %[T.J5.fn.ok,Jxc|2]
 ·obtain ⟨x,r,rfl,_⟩:=h;rfl
 ·obtain ⟨x,r,rfl,rt,k⟩:=h;refine ⟨?t,?B,?C⟩
  case B=>
   refine' Jjj ?O0
   case O0=>exact (Jjo (Jmd (Jjn Jl2 (by rfl) T.Jax Jjv (Sj (pv 0) (Sj (Jkr (v:=.ty "tuple") (by rfl) T.Jb7 Jm9 rfl) Sl))) (Jn0 (Jmv Jn8 (Jjn Jjr (by rfl) T.Jay Jkh (Sj (pv 0) Sl)) Sn (Jkn _)))))
  cases r with
  |none=>
   obtain ⟨t,ty,ek⟩:=rt;refine ⟨_,rfl,x,_,_,t,_,rfl,rfl,ty,ek,_,rfl,?_⟩;exact Jk9 k
  |some vs=>
   obtain ⟨p,rfl,hp⟩:=rt;refine ⟨_,rfl,_,_,_,.type "tuple",true,rfl,rfl,.of (.tup hp),rfl,_,rfl,Jkf ?_⟩;refine ⟨_,rfl,p,_,rfl,.inr (SqT.of hp),rfl,?_⟩;have e:decide (V.int (vs.length:Nat)=V.int 2)=Jy3 (some vs):=by
    show _=decide (vs.length=2);by_cases h:vs.length=2
    ·rw [decide_eq_true h,decide_eq_true (by rw [h];rfl)]
    ·rw [decide_eq_false h,decide_eq_false (λq=>h (by have:=V.int.inj q;omega))]
   rw [e];exact k
structure Riv where
 c:Int
 g:Int
 Bs:List Bsn
 Ts:List Twn
inductive Sb4 (K:Sd) (a:Ad) (H:Hp) (o:S1) (R:Riv):Prop where
 |mk (dx b t:S1) (os ts:List S1) (_:H o=some (.ins a.Jja dx (Sj6 (.int R.c) (.int R.g) (.ref b) (.ref t)))) (_:H b=some (.tup (os.map V.ref))) (_:Sbm K a H os R.Bs) (_:H t=some (.tup (ts.map V.ref))) (_:Sc3 a H ts R.Ts) (_:R.Bs.length<=16/\R.Ts.length<=3/\∀B∈R.Bs,0<=B.rn/\B.rn<=6)
theorem Sb4.same {K:Sd} {a:Ad} {H H':Hp} {o:S1} {R:Riv} (s:Si H H') (h:Sb4 K a H o R):Sb4 K a H' o R:=
 let ⟨dx,b,t,os,ts,h1,h2,h3,h4,h5,h6⟩:=h
 ⟨dx,b,t,os,ts,s _ _ h1,s _ _ h2,h3.same s,s _ _ h4,h5.same s,h6⟩
inductive Pr where
 |no
 |oth (vs:List V)
 |two (u w:V) (r:Option (List V))
noncomputable def PrT (K:Sd) (H:Hp) (x:V):Pr->Prop
 | .no=>∃t,TyX K H x t/\Se K t (.type "tuple")=some false
 | .oth vs=>∃p,x= .ref p/\H p=some (.tup vs)/\vs.length≠2
 | .two u w r=>∃p,x= .ref p/\H p=some (.tup [u,w])/\Sdu K H u r/\Tm K H w
theorem PrT.same {K:Sd} {H H':Hp} {x:V} (s:Si H H'):∀{r:Pr},PrT K H x r->PrT K H' x r
 | .no,⟨t,h1,h2⟩=>⟨t,Jli s h1,h2⟩
 | .oth _,⟨p,e,h1,h2⟩=>⟨p,e,s _ _ h1,h2⟩
 | .two _ _ _,⟨p,e,h1,h2,h3⟩=>⟨p,e,s _ _ h1,h2.same s,h3.same s⟩
noncomputable def stB (R:Riv):Pr->Bool
 | .two _ w r=>Jjw w 0 R.c&&Jn1 r (R.Bs.map (·.lo)) (R.Bs.map (·.hi))
 |_=>false
noncomputable def Jr3 (n:Nat):V->Bool
 | .non=>true
 |w=>Jjw w 0 (n - 1)
noncomputable def chB (R:Riv):Pr->Bool
 | .two _ w r=>Jr3 R.Ts.length w&&Jn1 r (yo R.Bs.length 0) (R.Bs.map λB=>(B.n:Int) - 1)
 |_=>false
inductive Jxf (K:Sd) (a:Ad) (vs:List V) (H:Hp) (Q:VK) (z3:XK):Prop where
 |mk (o:S1) (R:Riv) (x:V) (r:Pr) (_:vs= [.ref o,x]) (_:Sb4 K a H o R) (_:PrT K H x r) (_:∀H',Si H H'->Q (.bl (stB R r)) H')
inductive Yad (K:Sd) (a:Ad) (vs:List V) (H:Hp) (Q:VK) (z3:XK):Prop where
 |mk (o:S1) (R:Riv) (x:V) (r:Pr) (_:vs= [.ref o,x]) (_:Sb4 K a H o R) (_:PrT K H x r) (_:∀H',Si H H'->Q (.bl (chB R r)) H')
theorem Jsf:Jjp ["river","thing"] ["river","thing"] (Jjl (top 21)):=%[|0]
theorem Jo6 (T:Tx K mg a):Sr P w K mg base CX0 3 a.Jfb a.Jfc ["river","thing"] (Jxf K a):=by
 have Se2:=%[Jti|1];have Sar:=%[Jmp|1];have Sw:=%[Jkz|1];refine %[T.J6.fn.ok,Jsf|2]
 ·obtain ⟨o,R,x,r,rfl,_⟩:=h;rfl
 ·obtain ⟨o,R,x,r,rfl,ro,rx,k⟩:=h;refine ⟨?t,?B,?C⟩
  case B=>
   refine' Sx ?O0 ?O1
   case O0=>
    refine' Jk4 ?O2 ?O3 ?O4
    case O2=>exact (PW.pt (Joy (Jk5 (Jk0 (Jji T.J5 Sar hr (by decide) (Sj (pv 1) Sl)))) (Jnh (Jk5 (Jk0 (Jji T.J0 Sw hr (by decide) (Sj (Jjx Jka (pv 1) Sn (λ_ _=>rfl)) (Sj Sn (Sj (Jlb (pv 0) (by rfl)) Sl)))))))))
    case O3=>
     refine' Jjj ?O5
     case O5=>exact (Jjo Jko)
    case O4=>exact Jjs
   case O1=>
   refine' Jjj ?O6
   case O6=>exact (Jjo (Jji T.J3 Se2 hr (by decide) (Sj (Jjx Jka (pv 1) Sn (λ_ _=>rfl)) (Sj (Jk2 (N:=(["basin"]:List Str)) (ini:=[none]) rfl (Jqi (Jlb (pv 0) (by rfl))) (λ_ _ _ _ _=>(Jjq (i:=0) (by decide +kernel:(["basin"]:List Str).Nodup) rfl (ye rfl))) (λ_ _ _ _ _=>Jk1) (λ_ _ _ _ _=>(Jm7 (K:=K) rfl (pv 0) (by rfl)))) (Sj (Jk2 (N:=(["basin"]:List Str)) (ini:=[none]) rfl (Jqi (Jlb (pv 0) (by rfl))) (λ_ _ _ _ _=>(Jjq (i:=0) (by decide +kernel:(["basin"]:List Str).Nodup) rfl (ye rfl))) (λ_ _ _ _ _=>Jk1) (λ_ _ _ _ _=>(Jm7 (K:=K) rfl (pv 0) (by rfl)))) Sl)))))
  cases r with
  |no=>
   refine ⟨_,rfl,x,none,rfl,rx,_,rfl,Jkf ?_⟩;exact Jkf (k _ λ_ _ h=>h)
  |oth vs=>
   obtain ⟨p,rfl,hp,ne⟩:=rx;refine ⟨_,rfl,_,some vs,rfl,⟨p,rfl,hp⟩,_,rfl,ifT (by rw [show Jy3 (some vs)=false from decide_eq_false ne];rfl) ?_⟩;exact Jkf (k _ λ_ _ h=>h)
  |two u y r=>
   obtain ⟨p,rfl,hp,rt,ty⟩:=rx;obtain ⟨dx,b,t,os,ts,ho,hb,bl,ht,tl,n1,n2,n3⟩:=ro;refine ⟨_,rfl,_,some [u,y],rfl,⟨p,rfl,hp⟩,_,rfl,Jk9 ?_⟩;refine ⟨_,rfl,p,_,1,y,rfl,rfl,SqT.of hp,rfl,_,rfl,o,_,dx,_,_,rfl,ho,T.Jdh,T.Je2,rfl,y,0,R.c,rfl,ty,_,rfl,?_⟩;cases ew:Jjw y 0 R.c with
   |false=>
    have e:stB R (.two u y r)=false:=by
     show (Jjw y 0 R.c&&_)=false;rw [ew,yax]
    rw [e] at k;exact Jkf (k _ λ_ _ h=>h)
   |true=>
    have e:stB R (.two u y r)=Jn1 r (R.Bs.map (·.lo)) (R.Bs.map (·.hi)):=by
     show (Jjw y 0 R.c&&_)=_;rw [ew,ybf]
    rw [e] at k;have len:=bl.len;refine Jk9 ⟨_,rfl,p,_,0,u,rfl,rfl,SqT.of hp,rfl,?_⟩;refine ⟨_,rfl,o,_,dx,_,_,rfl,ho,T.Jdh,T.Je4,rfl,b,rfl,⟨_,SqT.of hb⟩,λD hD=>?_⟩;refine Jmk ((R.Bs.map (·.lo)).map V.int) hD (by simp [len]) (by rw [yf];omega) hb ?_ ?_
    ·intro i x y H' Q' hx hy sm k';obtain ⟨ob,B,rfl,hB,dx,hb,gs⟩:=(bl.same sm).get hx;rw [ym,ym,hB] at hy;cases hy;exact ⟨_,rfl,ob,_,dx,_,_,rfl,hb,T.Jdb,T.Jdu,rfl,k' _ λ_ _ h=>h⟩
    intro H1 s1 hD1;refine ⟨_,rfl,o,_,dx,_,_,rfl,s1 _ _ ho,T.Jdh,T.Je4,rfl,b,rfl,⟨_,SqT.of (s1 _ _ hb)⟩,λD2 hD2=>?_⟩;refine Jmk ((R.Bs.map (·.hi)).map V.int) hD2 (by simp [len]) (by rw [yf];omega) (s1 _ _ hb) ?_ ?_
    ·intro i x y H' Q' hx hy sm k';obtain ⟨ob,B,rfl,hB,dx,hb,gs⟩:=(bl.same (s1.trans sm)).get hx;rw [ym,ym,hB] at hy;cases hy;exact ⟨_,rfl,ob,_,dx,_,_,rfl,hb,T.Jdb,T.Jdv,rfl,k' _ λ_ _ h=>h⟩
    intro H2 s2 hD3;exact ⟨u,r,D,D2,_,_,rfl,rt.same (s1.trans s2),s2 _ _ hD1,hD3,by simp,by rw [yf];omega,λH3 s3=>k _ ((s1.trans s2).trans s3)⟩
theorem Jut:Jjp ["river","thing"] ["river","thing"] (Jjl (top 22)):=%[|0]
theorem Jug (T:Tx K mg a):Sr P w K mg base CX0 4 a.Jfd a.Jfe ["river","thing"] (Yad K a):=by
 have Sbp:=%[Jnn|1];have Sar:=%[Jmp|1];have Sw:=%[Jkz|1];refine %[T.J7.fn.ok,Jut|2]
 ·obtain ⟨o,R,x,r,rfl,_⟩:=h;rfl
 ·obtain ⟨o,R,x,r,rfl,ro,rx,k⟩:=h;refine ⟨?t,?B,?C⟩
  case B=>
   refine' Sx ?O0 ?O1
   case O0=>
    refine' Jk4 ?O2 ?O3 ?O4
    case O2=>exact (Jk5 (Jk0 (Jji T.J5 Sar hr (by decide) (Sj (pv 1) Sl))))
    case O3=>
     refine' Jjj ?O5
     case O5=>exact (Jjo Jko)
    case O4=>exact Jjs
   case O1=>
   refine' Sx ?O6 ?O7
   case O6=>
    refine' Jk4 ?O8 ?O9 ?Oa
    case O8=>exact (PW.pt (Ya1 (Jkj Jy2 (Jjx Jka (pv 1) Sn (λ_ _=>rfl)) Jll (Jkn _)) (Jy7 (Jk5 (Jk0 (Jji T.J0 Sw hr (by decide) (Sj (Jjx Jka (pv 1) Sn (λ_ _=>rfl)) (Sj Sn (Sj (Jju Jmc (Jjn Jjr (by rfl) T.Jay Jkh (Sj (Jlb (pv 0) (by rfl)) Sl)) Sn) Sl)))))))))
    case O9=>
     refine' Jjj ?Ob
     case Ob=>exact (Jjo Jko)
    case Oa=>exact Jjs
   case O7=>
   refine' Jjj ?Oc
   case Oc=>exact (Jjo (Jji T.J4 Sbp hr (by decide) (Sj (Jjx Jka (pv 1) Sn (λ_ _=>rfl)) (Sj (Jk2 (N:=(["basin"]:List Str)) (ini:=[none]) rfl (Jqi (Jlb (pv 0) (by rfl))) (λ_ _ _ _ _=>(Jjq (i:=0) (by decide +kernel:(["basin"]:List Str).Nodup) rfl (ye rfl))) (λ_ _ _ _ _=>Jk1) (λ_ _ _ _ _=>(Jju Jmc (Js9 (P:=P) (w:=w) (K:=K) (mg:=mg) (base:=base) rfl rfl rfl rfl rfl (Jm7 (K:=K) rfl (pv 0) (by rfl)) hr) Sn))) Sl))))
  cases r with
  |no=>
   refine ⟨_,rfl,x,none,rfl,rx,_,rfl,Jkf ?_⟩;exact k _ λ_ _ h=>h
  |oth vs=>
   obtain ⟨p,rfl,hp,ne⟩:=rx;refine ⟨_,rfl,_,some vs,rfl,⟨p,rfl,hp⟩,_,rfl,ifT (by rw [show Jy3 (some vs)=false from decide_eq_false ne];rfl) ?_⟩;exact k _ λ_ _ h=>h
  |two u y r=>
   obtain ⟨p,rfl,hp,rt,ty⟩:=rx;obtain ⟨dx,b,t,os,ts,ho,hb,bl,ht,tl,n1,n2,n3⟩:=ro;refine ⟨_,rfl,_,some [u,y],rfl,⟨p,rfl,hp⟩,_,rfl,Jk9 ?_⟩;refine ⟨_,rfl,p,_,1,y,rfl,rfl,SqT.of hp,rfl,?_⟩;have len:=bl.len;have tlen:=tl.len;by_cases hy:y= .non
   ·have et:Jr3 R.Ts.length y=true:=by rw [hy];rfl
    refine ⟨rfl,_,rfl,ifF (by rw [decide_eq_true hy];rfl) ?_⟩;refine Jk9 ?_;have e:chB R (.two u y r)=Jn1 r (yo R.Bs.length 0) (R.Bs.map λB=>(B.n:Int) - 1):=by
     show (Jr3 R.Ts.length y&&_)=_;rw [et,ybf]
    rw [e] at k;refine ⟨_,rfl,p,_,0,u,rfl,rfl,SqT.of hp,rfl,?_⟩;refine ⟨_,rfl,o,_,dx,_,_,rfl,ho,T.Jdh,T.Je4,rfl,b,rfl,⟨_,SqT.of hb⟩,λD hD=>?_⟩;refine Jmk ((R.Bs.map λB=>(B.n:Int) - 1).map V.int) hD (by simp [len]) (by rw [yf];omega) hb ?_ ?_
    ·intro i x y H' Q' hx hy sm k';obtain ⟨ob,B,rfl,hB,dx,hb,gs⟩:=(bl.same sm).get hx;rw [ym,ym,hB] at hy;cases hy;exact ⟨_,rfl,ob,_,dx,_,_,rfl,hb,T.Jdb,T.Jdy,rfl,Jlf T gs ⟨_,_,rfl,rfl,k' _ λ_ _ h=>h⟩ (by decide)⟩
    intro H1 s1 hD1;exact ⟨u,r,D,_,rfl,rt.same s1,hD1,by rw [yf];omega,λH3 s3=>by rw [yf];exact k _ (s1.trans s3)⟩
   ·refine ⟨rfl,_,rfl,ifT (by rw [decide_eq_false hy];rfl) ?_⟩;have eT:Jr3 R.Ts.length y=Jjw y 0 ((R.Ts.length:Int) - 1):=by
     cases y <;> first|rfl|exact absurd rfl hy
    refine ⟨_,rfl,p,_,1,y,rfl,rfl,SqT.of hp,rfl,?_⟩;refine ⟨_,rfl,o,_,dx,_,_,rfl,ho,T.Jdh,T.Je5,rfl,t,_,rfl,.inr (SqT.of ht),_,_,rfl,rfl,y,0,(R.Ts.length:Int) - 1,by rw [yf,tlen];rfl,ty,_,rfl,?_⟩;cases ew:Jjw y 0 ((R.Ts.length:Int) - 1) with
    |false=>
     have e:chB R (.two u y r)=false:=by
      show (Jr3 R.Ts.length y&&_)=false;rw [eT,ew,yax]
     rw [e] at k;exact Jkf (k _ λ_ _ h=>h)
    |true=>
     have et:=eT.trans ew;refine Jk9 ?_;have e:chB R (.two u y r)=Jn1 r (yo R.Bs.length 0) (R.Bs.map λB=>(B.n:Int) - 1):=by
      show (Jr3 R.Ts.length y&&_)=_;rw [et,ybf]
     rw [e] at k;refine ⟨_,rfl,p,_,0,u,rfl,rfl,SqT.of hp,rfl,?_⟩;refine ⟨_,rfl,o,_,dx,_,_,rfl,ho,T.Jdh,T.Je4,rfl,b,rfl,⟨_,SqT.of hb⟩,λD hD=>?_⟩;refine Jmk ((R.Bs.map λB=>(B.n:Int) - 1).map V.int) hD (by simp [len]) (by rw [yf];omega) hb ?_ ?_
     ·intro i x y H' Q' hx hy sm k';obtain ⟨ob,B,rfl,hB,dx,hb,gs⟩:=(bl.same sm).get hx;rw [ym,ym,hB] at hy;cases hy;exact ⟨_,rfl,ob,_,dx,_,_,rfl,hb,T.Jdb,T.Jdy,rfl,Jlf T gs ⟨_,_,rfl,rfl,k' _ λ_ _ h=>h⟩ (by decide)⟩
     intro H1 s1 hD1;exact ⟨u,r,D,_,rfl,rt.same s1,hD1,by rw [yf];omega,λH3 s3=>by rw [yf];exact k _ (s1.trans s3)⟩
noncomputable def Jru (R:Riv) (wet:Int):Int:=
 if (R.Bs.map (·.rn)).sum < (if 0 > wet+R.g - R.c then 0 else wet+R.g - R.c) then (R.Bs.map (·.rn)).sum else (if 0 > wet+R.g - R.c then 0 else wet+R.g - R.c)
inductive Yae (K:Sd) (a:Ad) (vs:List V) (H:Hp) (Q:VK) (z3:XK):Prop where
 |mk (o:S1) (R:Riv) (wet:Int) (_:vs= [.ref o,.int wet]) (_:Sb4 K a H o R) (_:∀H',Si H H'->Q (.int (Jru R wet)) H')
theorem Jzg {Bs:List Bsn} (n1:Bs.length<=16) (n3:∀B∈Bs,0<=B.rn/\B.rn<=6):Sml (Bs.map (·.rn)):=by
 refine ⟨by rw [yf];omega,λn hn=>?_⟩;obtain ⟨B,hB,rfl⟩:=yab.mp hn;have:=n3 B hB;omega
noncomputable def Yd:V->Int
 | .int i=>i
 |_=>0
noncomputable def Yb0:Pr->Int
 | .two _ w _=>Yd w
 |_=>0
noncomputable def Si2 (vs:List V):Int:=(vs.map Yd).sum
noncomputable def rnB (R:Riv) (wet:Int):Option (List V)->Bool
 |some vs=>Jn1 (some vs) (yo R.Bs.length 0) (R.Bs.map (·.rn))&&(decide (Jru R wet<=Si2 vs)&&decide (Si2 vs<=wet))
 |none=>false
inductive Smy (K:Sd) (a:Ad) (vs:List V) (H:Hp) (Q:VK) (E:XK):Prop where
 |mk (o:S1) (R:Riv) (z:V) (q:Pr) (x:V) (r:Option (List V)) (_:vs= [.ref o,z,x]) (_:Sb4 K a H o R) (_:PrT K H z q) (_:Sdu K H x r) (_:(if stB R q=true then ∀H',Si H H'->Q (.bl (rnB R (Yb0 q) r)) H' else ∀c eo H',RfC a.Jj0 H H' z c eo->E c eo H'))
theorem Sn3 {R:Riv} {q:Pr} (h:stB R q=true):∃u wt rr,q= .two u (.int wt) rr/\(0<=wt/\wt<=R.c):=by
 cases q with
 |no=>cases h
 |oth vs=>cases h
 |two u w r=>
  have h1:Jjw w 0 R.c=true:=by
   cases e:Jjw w 0 R.c with
   |true=>rfl
   |false=>
    have:(Jjw w 0 R.c&&Jn1 r (R.Bs.map (·.lo)) (R.Bs.map (·.hi)))=true:=h;rw [e,yax] at this;exact this
  obtain ⟨i,rfl⟩:=Jts h1;refine ⟨u,i,r,rfl,?_⟩;have h2:(decide (0<=i)&&decide (i<=R.c))=true:=h1;simpa using h2
theorem Jv2:∀{vs:List V} {n:Nat} {hs:List Int},vs.length=n->n=hs.length->(wl vs (yo n 0) hs).all id=true->∃ns:List Int,vs=ns.map V.int/\ns.length=n/\∀k∈ns,0<=k/\∃h∈hs,k<=h
 | [],_,_,e,_,_=>⟨[],rfl,e,λ_ h=>nomatch h⟩
 |_::_,0,_,e,_,_=>by simp at e
 |_::_,_+1,[],_,e,_=>by simp at e
 |v::vs,n+1,h::hs,e1,e2,a=>by
  have a':(Jjw v 0 h&&(wl vs (yo n 0) hs).all id)=true:=a;rw [yag] at a';obtain ⟨ns,rfl,l,q⟩:=Jv2 (vs:=vs) (n:=n) (hs:=hs) (by simpa using e1) (by simpa using e2) a'.2;obtain ⟨i,rfl⟩:=Jts a'.1;have h2:(decide (0<=i)&&decide (i<=h))=true:=a'.1;have h3:0<=i/\i<=h:=by simpa using h2
  refine ⟨i::ns,rfl,by rw [yac,l],λk hk=>?_⟩;rcases yr.mp hk with rfl|hk
  ·exact ⟨h3.1,h,yy ..,h3.2⟩
  ·obtain ⟨g1,x,hx,g2⟩:=q k hk;exact ⟨g1,x,yq _ hx,g2⟩
theorem Ya8 {R:Riv} {r:Option (List V)} (h:Jn1 r (yo R.Bs.length 0) (R.Bs.map (·.rn))=true) (n1:R.Bs.length<=16) (n3:∀B∈R.Bs,0<=B.rn/\B.rn<=6):∃(vs:List V) (ns:List Int),r=some vs/\vs=ns.map V.int/\Sml ns:=by
 cases r with
 |none=>cases h
 |some vs=>
  have h':(decide (vs.length=(yo R.Bs.length (0:Int)).length)&&(wl vs (yo R.Bs.length 0) (R.Bs.map (·.rn))).all id)=true:=h;rw [yag] at h';have e1:vs.length=R.Bs.length:=by simpa using h'.1
  obtain ⟨ns,rfl,l,q⟩:=Jv2 e1 (by simp) h'.2;refine ⟨_,ns,rfl,rfl,by omega,λn hn=>?_⟩;obtain ⟨g1,x,hx,g2⟩:=q n hn;obtain ⟨B,hB,rfl⟩:=yab.mp hx;have:=n3 B hB;omega
theorem Jzk (ns:List Int):Si2 (ns.map V.int)=ns.sum:=by
 show ((ns.map V.int).map Yd).sum=_;rw [yat];congr 1;exact (List.map_congr_left λ_ _=>rfl).trans (List.map_id _)
theorem Sco:Jjp ["river","wet","too_many"] ["river","wet"] (Jjl (top 23)):=%[|0]
theorem Js2 (T:Tx K mg a):Sr P w K mg base CX0 1 a.Jff a.Jfg ["river","wet"] (Yae K a):=by
 refine %[T.J8.fn.ok,Sco|2]
 ·obtain ⟨o,R,wet,rfl,_⟩:=h;rfl
 ·obtain ⟨o,R,wet,rfl,ro,k⟩:=h;refine ⟨?t,?B,?C⟩
  case B=>
   refine' Sx ?O0 ?O1
   case O0=>exact (Jjt (i:=2) Sco.nd rfl (ye rfl) (Jjn (Jq5 rfl) (by rfl) T.Jb0 Jwi (Sj (Jju Jmc (Jju Jkl (pv 1) (Jlb (pv 0) (by rfl))) (Jlb (pv 0) (by rfl))) (Sj Sn Sl))))
   case O1=>
   refine' Jjj ?O2
   case O2=>exact (Jjo (Jjn (Jt7 rfl) (by rfl) T.Jb1 Jzt (Sj (pv 2) (Sj (Jjn (Jva rfl) (by rfl) T.Jb6 Jzu (Sj (Jk2 (N:=(["basin"]:List Str)) (ini:=[none]) rfl (Jqi (Jlb (pv 0) (by rfl))) (λ_ _ _ _ _=>(Jjq (i:=0) (by decide +kernel:(["basin"]:List Str).Nodup) rfl (ye rfl))) (λ_ _ _ _ _=>Jk1) (λ_ _ _ _ _=>(Jm7 (K:=K) rfl (pv 0) (by rfl)))) Sl)) Sl))))
  obtain ⟨dx,b,t,os,ts,ho,hb,bl,ht,tl,n1,n2,n3⟩:=ro;have len:=bl.len;refine ⟨_,rfl,_,rfl,o,_,dx,_,_,rfl,ho,T.Jdh,T.Je3,rfl,_,_,rfl,rfl,?_⟩;refine ⟨_,rfl,o,_,dx,_,_,rfl,ho,T.Jdh,T.Je2,rfl,_,_,rfl,rfl,_,_,rfl,?_⟩;refine ⟨_,rfl,_,rfl,o,_,dx,_,_,rfl,ho,T.Jdh,T.Je4,rfl,b,rfl,⟨_,SqT.of hb⟩,λD hD=>?_⟩;refine Jmk ((R.Bs.map (·.rn)).map V.int) hD (by simp [len]) (by rw [yf];omega) hb ?_ ?_
  ·intro i x y H' Q' hx hy sm k';obtain ⟨ob,B,rfl,hB,dx,hb,gs⟩:=(bl.same sm).get hx;rw [ym,ym,hB] at hy;cases hy;exact ⟨_,rfl,ob,_,dx,_,_,rfl,hb,T.Jdb,T.Jdx,rfl,k' _ λ_ _ h=>h⟩
  intro H1 s1 hD1;exact ⟨D,_,rfl,.inl (Ss.of hD1),Jzg n1 n3,_,_,rfl,k _ s1⟩
theorem Jni:Jjp ["self","thing"] ["self","thing"] (Jjl (Jjz (top 9) 0)):=%[|0]
theorem Jp3 (T:Tx K mg a):Sr P w K mg base CX0 1 a.Jex a.Jey ["self","thing"] (Jnj K "thing"):=by
 refine %[T.Jcc.fn.ok,Jni|2]
 ·obtain ⟨e,C,W,fI,y,rfl,_⟩:=h;rfl
 ·obtain ⟨e,C,W,fI,y,rfl,q,c,n,k⟩:=h;refine ⟨_,(Jjj (Jng (pv 0) (pv 1) rfl)),?_⟩;exact ⟨_,rfl,_,rfl,e,C,W,fI,true,rfl,q,c,n,k⟩
theorem Jxd:Jjp ["river","standing","thing"] ["river","standing","thing"] (Jjl (top 24)):=%[|0]
theorem Jwz (T:Tx K mg a):Sr P w K mg base (CXX P w) 4 a.Jfh a.Jfi ["river","standing","thing"] (Smy K a):=by
 have Sbp:=%[Jnn|1];have Sby:=%[Jo6|1];have Sec:=%[Js2|1];have Scb:=%[Jp3|1];refine %[T.J9.fn.okX,Jxd|2]
 ·obtain ⟨o,R,z,q,x,r,rfl,_⟩:=h;rfl
 ·obtain ⟨o,R,z,q,x,r,rfl,ro,pz,rx,k⟩:=h;refine ⟨?t,?B,?C⟩
  case B=>
   refine' Sx ?O0 ?O1
   case O0=>
    refine' Jk4 ?O2 ?O3 ?O4
    case O2=>exact (Jk5 (Jk0 (Jji T.J6 Sby hr (by decide) (Sj (pv 0) (Sj (pv 1) Sl)))))
    case O3=>
     refine' Jjj ?O5
     case O5=>exact (Jl0 Jl1 rfl (Jlt T.Jcu Scb hr (by decide) T.Jcc.bd T.Jbf (Sj (pv 1) Sl)))
    case O4=>exact Jjs
   case O1=>
   refine' Sx ?O6 ?O7
   case O6=>
    refine' Jk4 ?O8 ?O9 ?Oa
    case O8=>exact (Jk5 (Jk0 (Jji T.J4 Sbp hr (by decide) (Sj (pv 2) (Sj (Jk2 (N:=(["basin"]:List Str)) (ini:=[none]) rfl (Jqi (Jlb (pv 0) (by rfl))) (λ_ _ _ _ _=>(Jjq (i:=0) (by decide +kernel:(["basin"]:List Str).Nodup) rfl (ye rfl))) (λ_ _ _ _ _=>Jk1) (λ_ _ _ _ _=>(Jm7 (K:=K) rfl (pv 0) (by rfl)))) Sl)))))
    case O9=>
     refine' Jjj ?Ob
     case Ob=>exact (Jjo Jko)
    case Oa=>exact Jjs
   case O7=>
   refine' Jjj ?Oc
   case Oc=>exact (Jjo (Jpo Jnp Jnp (Jji T.J8 Sec hr (by decide) (Sj (pv 0) (Sj (Jjx Jka (pv 1) Sn (λ_ _=>rfl)) Sl))) (Jjn (Jva rfl) (by rfl) T.Jb6 Jzu (Sj (pv 2) Sl)) (Jjx Jka (pv 1) Sn (λ_ _=>rfl))))
  refine ⟨_,rfl,_,rfl,o,R,z,q,rfl,ro,pz,λH1 s1=>⟨_,rfl,?_⟩⟩;cases es:stB R q with
  |false=>
   rw [es] at k;exact Jkf (Jle T.Jcu T.Jdn rfl λe dx h1 h2 h3=>k _ _ _ ((RfC.new h1 h2 h3).of s1))
  |true=>
   rw [if_pos es] at k;obtain ⟨u,wt,rr,rfl,ew⟩:∃u wt rr,q= .two u (.int wt) rr/\(0<=wt/\wt<=R.c):=Sn3 es;obtain ⟨p,rfl,hp,_,_⟩:=pz;obtain ⟨dx,b,t,os,ts,ho,hb,bl,ht,tl,n1,n2,n3⟩:=ro.same s1;have len:=bl.len;refine Jk9 ⟨_,rfl,_,rfl,o,_,dx,_,_,rfl,ho,T.Jdh,T.Je4,rfl,b,rfl,⟨_,SqT.of hb⟩,λD hD=>?_⟩;refine Jmk ((R.Bs.map (·.rn)).map V.int) hD (by simp [len]) (by rw [yf];omega) hb ?_ ?_
   ·intro i x y H' Q' hx hy sm k';obtain ⟨ob,B,rfl,hB,dx,hb,gs⟩:=(bl.same sm).get hx;rw [ym,ym,hB] at hy;cases hy;exact ⟨_,rfl,ob,_,dx,_,_,rfl,hb,T.Jdb,T.Jdx,rfl,k' _ λ_ _ h=>h⟩
   intro H2 s2 hD1;refine ⟨x,r,D,_,rfl,rx.same (s1.trans s2),hD1,by rw [yf];omega,λH3 s3=>⟨_,rfl,?_⟩⟩;rw [yf];have s13:=(s1.trans s2).trans s3;cases er:Jn1 r (yo R.Bs.length 0) (R.Bs.map (·.rn)) with
   |false=>
    have e:rnB R (Yb0 (.two u (.int wt) rr)) r=false:=by
     cases r with
     |none=>rfl
     |some vs=>
      show (Jn1 (some vs) _ _&&_)=false;rw [er,yax]
    rw [e] at k;exact Jkf (k _ s13)
   |true=>
    obtain ⟨vs,ns,rfl,rfl,hns⟩:=Ya8 er n1 n3;obtain ⟨px,rfl,hpx,_,_⟩:=rx;refine Jk9 ⟨_,rfl,_,rfl,p,_,1,_,rfl,rfl,SqT.of (s13 _ _ hp),rfl,o,R,wt,rfl,ro.same s13,λH4 s4=>?_⟩;have s14:=s13.trans s4;refine ⟨_,rfl,px,ns,rfl,.inr (SqT.of (s14 _ _ hpx)),hns,?_⟩;have e:rnB R (Yb0 (.two u (.int wt) rr)) (some (ns.map V.int))=(decide (Jru R wt<=ns.sum)&&decide (ns.sum<=wt)):=by
     show (Jn1 (some (ns.map V.int)) _ _&&(decide (Jru R wt<=Si2 (ns.map V.int))&&decide (Si2 (ns.map V.int)<=wt)))=_;rw [er,ybf,Jzk]
    rw [e] at k;refine ⟨_,_,rfl,rfl,_,rfl,?_⟩;cases ef:decide (Jru R wt<=ns.sum) with
    |false=>
     rw [ef,yax] at k;exact Jk9 (k _ s14)
    |true=>
     rw [ef,ybf] at k;exact Jkf ⟨_,rfl,p,_,1,_,rfl,rfl,SqT.of (s14 _ _ hp),rfl,_,_,rfl,rfl,k _ s14⟩
theorem Y1 (xs:List V) (k:Nat) (h:k<=xs.length):Jon xs none (some (k:Int))=xs.take k:=by
 unfold Jon;rw [HT.sIx_none,HT.sIx_nat];simp [ycf h]
theorem Y0 (xs:List V) (k:Nat) (h:k<=xs.length):Jon xs (some (k:Int)) none=xs.drop k:=by
 unfold Jon;rw [HT.sIx_none,HT.sIx_nat,ycf h];exact yaj (by rw [ycj];exact yg _)
theorem Jq0 {xs:List V} {r:Int} (h0:0<=r) (h1:r < xs.length):∃v,v∈xs/\atI xs r=some v:=by
 obtain ⟨n,rfl⟩:=yce h0;have hn:n < xs.length:=by omega
 exact ⟨xs[n],ybn hn,Jpf (yj hn)⟩
theorem Jlp {i:Int} (h:i.natAbs<=1000):i.natAbs.log2 < 9000:=Nat.lt_of_le_of_lt (Nat.log2_le_self _) (by omega)
noncomputable def one (c:Nat):Str:=⟨#[c]⟩
theorem Joh (cs:List Nat):(Txt.join ("" :Str) (cs.map one)).cps.toList=cs:=by
 have e1:Txt.join ("" :Str) (cs.map one)=Str.join ("" :Str) (cs.map one):=beq_iff_eq.mp (join_plain_closes ("" :Str) _);rw [e1]
 induction cs with
 |nil=>rfl
 |cons c r ih=>
  cases r with
  |nil=>rfl
  |cons d r'=>
   have e:Str.join ("" :Str) ((c::d::r').map one)=one c++("" :Str)++Str.join ("" :Str) ((d::r').map one):=rfl;rw [e];have a:∀x y:Str,(x++y).cps.toList=x.cps.toList++y.cps.toList:=λx y=>by
    show (x.cps++y.cps).toList=_;exact Array.toList_append
   rw [a,a,ih (beq_iff_eq.mp (join_plain_closes ("" :Str) _))];have z:("" :Str).cps.toList= []:=by decide +kernel
   rw [z];rfl
theorem Yao (cs:List Nat):((cs.map one).map (·.length)).sum=cs.length:=by
 induction cs with
 |nil=>rfl
 |cons c r ih=>
  rw [yap,yap,List.sum_cons,ih,yac];show 1+_=_;omega
structure Ltr (n:Nat) (z:Str):Prop where
 len:z.length<=n
 inn:∀c∈z.cps.toList,c∈LET.cps.toList
theorem Ltr.wd {n:Nat} {z:Str} (a:Ltr n z):Wd n z:=⟨a.len,λc hc=>Snm.low c (a.inn c hc)⟩
theorem Ybq {i j:Int} {c:Nat} (i0:0<=i) (i1:i < 26) (j0:0<=j) (j1:j < 26) (hi:atI LET.cps.toList i=some c) (hj:atI LET.cps.toList j=some c):i=j:=by
 have all:(yay 26).all (λp=>(yay 26).all λq=>decide (p=q)||!decide (atI LET.cps.toList (p:Int)=atI LET.cps.toList (q:Int)))=true:=by decide +kernel
 obtain ⟨p,rfl⟩:=yce i0;obtain ⟨q,rfl⟩:=yce j0;have h1:=yaw.mp all p (ybi.mpr (by omega));have h2:=yaw.mp h1 q (ybi.mpr (by omega));rw [hi,hj] at h2;have h3:p=q:=by simpa using h2
 rw [h3]
noncomputable def NmK (f:Int) (n:Nat) (k:Nat) (z:Str):Prop:=1<=z.cps.toList.length/\z.cps.toList.length<=8/\(∀c∈z.cps.toList,c∈LET.cps.toList)/\∃c,atI LET.cps.toList ((f+(k:Int))%26)=some c/\z.cps.toList[n]?=some c
noncomputable def Nms (zs:List Str):Prop:=zs.Nodup/\∀z∈zs,Jnl z=true/\Ltr 8 z
theorem Sm0 {f:Int} {n:Nat} {zs:List Str} (hl:zs.length<=26) (h:∀(k:Nat) z,zs[k]?=some z->NmK f n k z):Nms zs:=by
 refine ⟨List.pairwise_iff_getElem.mpr λi j hi hj lt e=>?_,λz hz=>?_⟩
 ·obtain ⟨_,_,_,c,h1,h2⟩:=h i _ (yj hi);obtain ⟨_,_,_,d,h3,h4⟩:=h j _ (yj hj);rw [e,h4] at h2;cases h2;have:=Ybq (by omega) (by omega) (by omega) (by omega) h1 h3;omega
 ·obtain ⟨k,hk⟩:=ybo hz;obtain ⟨h1,h2,h3,_⟩:=h k z hk;have el:z.length=z.cps.toList.length:=by rw [ybx];rfl
  refine ⟨?_,by omega,h3⟩;unfold Jnl Jt4;rw [yag];exact ⟨decide_eq_true (by omega),yaw.mpr λd hd=>decide_eq_true (h3 d hd)⟩
inductive Ycm (vs:List V) (H:Hp) (Q:VK) (z3:XK):Prop where
 |mk (p:S1) (m:Nat) (_:vs= [.ref p,.int m]) (_:Sb7 H p) (_:m<=26) (_:∀(l:S1) (zs:List Str) (H':Hp),H l=none->But p H H'->H' l=some (.lst (zs.map V.str))->zs.length=m->Nms zs->Q (.ref l) H')
theorem Sau:Jjp ["_law_stream_here","_law_many","_law_letters","_law_size","_law_at","_law_base","_law_first"] ["_law_stream_here","_law_many"] (Jjl (top 90)):=%[|0]
theorem Jpk (T:Tx K mg a):Sr P w K mg base CX0 2 a.Jhp a.Jhq ["_law_stream_here","_law_many"] Ycm:=by
 have Sk:=%[Jks|1];refine %[T.Ja2.fn.ok,Sau|2]
 ·obtain ⟨p,m,rfl,_⟩:=h;rfl
 ·obtain ⟨p,m,rfl,st,hm,k⟩:=h;refine ⟨?t,?B,?C⟩
  case B=>
   refine' Sx ?O0 ?O1
   case O0=>exact (Jjt (i:=2) Sau.nd rfl (yak rfl) Jlu)
   case O1=>
   refine' Sx ?O2 ?O3
   case O2=>exact (Jjt (i:=3) Sau.nd rfl (ye rfl) (Jju Jkl Sn (Jji T.Ja1 Sk hr (by decide) (Sj (pv 0) (Sj Sn Sl)))))
   case O3=>
   refine' Sx ?O4 ?O5
   case O4=>exact (Jjt (i:=4) Sau.nd rfl (yak rfl) (Jji T.Ja1 Sk hr (by decide) (Sj (pv 0) (Sj (pv 3) Sl))))
   case O5=>
   refine' Sx ?O6 ?O7
   case O6=>exact (Jjt (i:=5) Sau.nd rfl (yak rfl) (Jk2 (N:=(["_law_k","_law_letters","_law_stream_here"]:List Str)) (ini:=[none,some 2,some 0]) rfl (Jom (by rfl) T.Jb2 (Sj (pv 3) Sl)) (λ_ _ _ _ _=>(Jjq (i:=0) (by decide +kernel:(["_law_k","_law_letters","_law_stream_here"]:List Str).Nodup) rfl (ye rfl))) (λ_ _ _ _ _=>Jk1) (λ_ _ _ _ _=>(Jjx Yf (pv 1) (Jji T.Ja1 Sk hr (by decide) (Sj (pv 2) (Sj Sn Sl))) (λ_ _=>rfl)))))
   case O7=>
   refine' Sx ?O8 ?O9
   case O8=>exact (Jjt (i:=6) Sau.nd rfl (yak rfl) (Jji T.Ja1 Sk hr (by decide) (Sj (pv 0) (Sj Sn Sl))))
   case O9=>
   refine' Jjj ?Oa
   case Oa=>exact (Jjo (Jk2 (N:=(["_law_k","_law_base","_law_at","_law_letters","_law_first"]:List Str)) (ini:=[none,some 5,some 4,some 2,some 6]) rfl (Jom (by rfl) T.Jb2 (Sj (pv 1) Sl)) (λ_ _ _ _ _=>(Jjq (i:=0) (by decide +kernel:(["_law_k","_law_base","_law_at","_law_letters","_law_first"]:List Str).Nodup) rfl (ye rfl))) (λ_ _ _ _ _=>Jk1) (λ_ _ _ _ _=>(Smb (K:=K) rfl F.plainAttrs_str F.slot_str_join F.type_str_join (Yn (K:=K) rfl) Jlu (Sj (Jju Jup (Jju Jup (Jmr (Jw5 (K:=K) rfl) (pv 1) Jne (Jnf (pv 2))) (Jki (Sj (Jjx Yf (pv 3) (Jju Jp6 (Jju Jkl (pv 4) (pv 0)) Sn) (λ_ _=>rfl)) Sl))) (Jmr (Jw5 (K:=K) rfl) (pv 1) (Jnf (Jju Jkl (pv 2) Sn)) Jne)) Sl)))))
  refine ⟨_,rfl,p,8,rfl,st,by decide,by decide,λsz H1 z0 z1 b1=>⟨_,_,rfl,rfl,?_⟩⟩;refine ⟨_,rfl,_,rfl,p,_,rfl,b1.2,by omega,Jlp (by omega),λat_ H2 a0 a1 b2=>?_⟩;have b12:=b1.trans b2;refine ⟨_,rfl,_,rfl,by omega,by omega,λD hD=>?_⟩;have neD:D≠p:=b12.2.ne hD;refine Jp0 (D:=D) (λi σ H'=>∃(o:Option V) (cs:List Nat),σ= [o,some (.str LET),some (.ref p)]/\H' D=some (.lst (cs.map sgn))/\cs.length=i/\(∀c∈cs,c∈LET.cps.toList)/\But p H2 H')
   ?_ ?_ ?_
  ·exact ⟨none,[],rfl,So,rfl,(λy hy=>absurd hy (by simp)),But.of b12.2 (Si.upd hD)⟩
  ·rintro i σ H' hi ⟨o,cs,rfl,hDs,hl,hw,b⟩;refine Jkp ⟨_,rfl,_,rfl,p,26,rfl,b.2,by decide,by decide,λr H3 r0 r1 b3=>?_⟩;obtain ⟨c,hc,hat⟩:=Jzs (g:=LET) r0 (by
    have:LET.length=26:=by decide +kernel
    omega)
   refine ⟨LET,r,c,rfl,rfl,Jkt _ (by decide +kernel),hat,cs.map sgn,b3.1 D _ neD hDs,?_,_,cs++ [c],rfl,?_,?_,?_,(b.trans b3).new hD b12.2⟩
   ·rw [yf];exact Jkc (by omega)
   ·rw [So,yam];rfl
   ·rw [yx];show cs.length+1=i+1;omega
   ·intro y hy;rcases ybb.mp hy with hy|hy
    ·exact hw y hy
    ·rw [yan.mp hy];exact hc
  rintro σ H3 ⟨o,cs,rfl,hDs,hl,hw,b3⟩;have hl':cs.length=(1+sz).toNat:=hl;have b13:=b12.trans b3;refine ⟨_,rfl,p,26,rfl,b13.2,by decide,by decide,λf H4 f0 f1 b4=>?_⟩;have hD4:=b4.1 _ _ neD hDs;have b14:=b13.trans b4;obtain ⟨n,rfl⟩:=yce a0;have hn:n < cs.length:=by omega
  have e1:Jon (cs.map sgn) none (some (n:Int))=(cs.take n).map sgn:=by rw [Y1 _ n (by rw [yf];omega),List.map_take]
  have e2:Jon (cs.map sgn) (some ((n:Int)+1)) none=(cs.drop (n+1)).map sgn:=by rw [show ((n:Int)+1)=((n+1:Nat):Int) from rfl,Y0 _ (n+1) (by rw [yf];omega),List.map_drop]
  refine ⟨_,rfl,_,rfl,by omega,by omega,λD2 hD2=>?_⟩;have s4:=Si.upd (o:=.lst []) hD2;refine Jp0 (D:=D2) (λi σ H'=>∃(o:Option V) (zs:List Str),σ= [o,some (.ref D),some (.int n),some (.str LET),some (.int f)]/\H' D2=some (.lst (zs.map V.str))/\zs.length=i/\(∀(k:Nat) z,zs[k]?=some z->NmK f n k z)/\Si H4 H') ?_ ?_ ?_
  ·exact ⟨_,[],rfl,So,rfl,(λk z e=>by simp at e),s4⟩
  ·rintro i σ H' hi ⟨o,zs,rfl,hDs2,hzl,hz,sm⟩;obtain ⟨c,hc,hat⟩:=Jzs (g:=LET) (r:=(f+(0+(i:Int)))%26) (by omega) (by
    have:LET.length=26:=by decide +kernel
    omega)
   have hD':=sm _ _ hD4;refine Jkp ?_;refine ⟨rfl,_,rfl,_,rfl,_,rfl,D,_,rfl,Ss.of hD',λq1 hq1=>?_⟩;rw [e1];have t1:=Si.upd (o:=.lst ((cs.take n).map sgn)) hq1;have g1:=So (H:=H') (a:=q1) (o:=.lst ((cs.take n).map sgn));generalize upd H' q1 (.lst ((cs.take n).map sgn))=K1 at*;refine ⟨_,rfl,_,rfl,_,rfl,_,_,rfl,rfl,_,_,rfl,rfl,(show (0:Int) < 26 by decide),LET,_,c,rfl,rfl,Jkt _ (by decide +kernel),hat,(show 1<=S6 by decide),λq2 hq2=>?_⟩;have t2:=Si.upd (o:=.lst [.str ⟨#[c]⟩]) hq2;have g2:=So (H:=K1) (a:=q2) (o:=.lst [.str ⟨#[c]⟩]);generalize upd K1 q2 (.lst [.str ⟨#[c]⟩])=K2 at*;have hl3:((cs.take n).map sgn).length+ [V.str ⟨#[c]⟩].length<=S6:=Jkt _ (by rw [yf,yaf];show _+1<=2000;omega);refine ⟨q1,q2,_,_,rfl,rfl,t2 _ _ g1,g2,hl3,λq3 hq3=>?_⟩;have t3:=Si.upd (o:=.lst ((cs.take n).map sgn++ [.str ⟨#[c]⟩])) hq3;have g3:=So (H:=K2) (a:=q3) (o:=.lst ((cs.take n).map sgn++ [.str ⟨#[c]⟩]));generalize upd K2 q3 (.lst ((cs.take n).map sgn++ [.str ⟨#[c]⟩]))=K3 at*;have t13:=(t1.trans t2).trans t3;refine ⟨_,rfl,_,rfl,_,_,rfl,rfl,_,rfl,D,_,rfl,Ss.of (t13 _ _ hD'),λq4 hq4=>?_⟩;rw [e2];have t4:=Si.upd (o:=.lst ((cs.drop (n+1)).map sgn)) hq4;have g4:=So (H:=K3) (a:=q4) (o:=.lst ((cs.drop (n+1)).map sgn));generalize upd K3 q4 (.lst ((cs.drop (n+1)).map sgn))=K4 at*;have hl5:((cs.take n).map sgn++ [V.str ⟨#[c]⟩]).length+((cs.drop (n+1)).map sgn).length<=S6:=Jkt _ (by rw [yx,yf,yf,yaf,ycj];show _+1+_<=2000;omega);refine ⟨q3,q4,_,_,rfl,rfl,t4 _ _ g3,g4,hl5,λq5 hq5=>?_⟩;obtain ⟨ws,ew,wl,wn,wi⟩:∃ws:List Nat,(cs.take n).map sgn++ [.str ⟨#[c]⟩]++(cs.drop (n+1)).map sgn=ws.map sgn/\ws.length=cs.length/\ws[n]?=some c/\∀d∈ws,d∈LET.cps.toList:=by
    refine ⟨cs.take n++ [c]++cs.drop (n+1),by simp [sgn],by simp;omega,?_,λd hd=>?_⟩
    ·rw [List.append_assoc,ych (by simp;omega)];simp [ycf (ybj hn)]
    ·rcases ybb.mp hd with hd|hd
     ·rcases ybb.mp hd with hd|hd
      ·exact hw d (List.mem_of_mem_take hd)
      ·rw [yan.mp hd];exact hc
     ·exact hw d (List.mem_of_mem_drop hd)
   rw [ew];have t5:=Si.upd (o:=.lst (ws.map sgn)) hq5;have g5:=So (H:=K4) (a:=q5) (o:=.lst (ws.map sgn));generalize upd K4 q5 (.lst (ws.map sgn))=K5 at*;have t15:=(t13.trans t4).trans t5;have hsg:ws.map sgn=(ws.map one).map V.str:=by rw [yat];rfl
   refine ⟨"",q5,ws.map one,rfl,rfl,Ss.of (by rw [<-hsg];exact g5),?_,_,t15 _ _ hDs2,?_,_,zs++ [Txt.join ("" :Str) (ws.map one)],rfl,?_,?_,λk z e=>?_,?_⟩
   ·have:("" :Str).length=0:=by decide +kernel
    rw [this,Yao];omega
   ·rw [yf];exact Jkc (by omega)
   ·rw [So,yam];rfl
   ·rw [yx,hzl];rfl
   ·rw [List.getElem?_append] at e;split at e
    ·exact hz k z e
    ·have hk:k=i:=by
      have:=(yk.mp e).1;simp at this;omega
     subst hk;rw [hzl,Nat.sub_self] at e;cases e;rw [Int.zero_add] at hat;refine ⟨?_,?_,?_,c,hat,?_⟩
     ·rw [Joh];omega
     ·rw [Joh];omega
     ·rw [Joh];exact wi
     ·rw [Joh];exact wn
   ·exact λb o e=>by
     have nb:b≠D2:=Jjm e hD2;rw [Sy nb];exact t15 _ _ (sm b o e)
  ·rintro σ H5 ⟨o,zs,rfl,hDs2,hzl,hz,sm⟩;have ez:zs.length=m:=by rw [hzl];exact yaz m
   exact k D2 zs H5 (But.free st b14 hD2) (b14.same sm) hDs2 ez (Sm0 (by omega) hz)
theorem Ybr {ns:List Int} {s:Int} (h:0<=s/\s < ns.length):atI (ns.map V.int) s=some (.int (ns.getD s.toNat 0))/\ns.getD s.toNat 0∈ns:=by
 obtain ⟨n,rfl⟩:∃n:Nat,s=n:=⟨s.toNat,by omega⟩;have hn:n < ns.length:=by omega
 have e:ns.getD (n:Int).toNat 0=ns[n]:=by rw [yaz];simp [ybr,hn]
 rw [e];exact ⟨Ju7 hn,ybn hn⟩
theorem Jqy:∀(ns:List Int) (lo m n:Int),Jl7 lo (ns.map V.int)=true->ns.getLast?=some m->m+1<=n->n<=12->Jl7 lo ((ns++ [n]).map V.int)=true
 | [],_,_,_,_,h,_,_=>by simp at h
 | [x],lo,m,n,h,hl,h1,h2=>by
  have e:x=m:=by simpa using hl
  subst e;simp [Jl7] at h⊢;omega
 |x::y::r,lo,m,n,h,hl,h1,h2=>by
  have hl':(y::r).getLast?=some m:=by simpa using hl
  have h':((decide (lo<=x)&&decide (x<=12))&&Jl7 (x+1) ((y::r).map V.int))=true:=h;rw [yag] at h';have ih:=Jqy (y::r) (x+1) m n h'.2 hl' h1 h2;show ((decide (lo<=x)&&decide (x<=12))&&Jl7 (x+1) (((y::r)++ [n]).map V.int))=true;rw [h'.1,ih];rfl
theorem Jqx:∀(ns:List Int) (lo m:Int),Jl7 lo (ns.map V.int)=true->ns.getLast?=some m->lo<=m/\m<=12
 | [],_,_,_,h=>by simp at h
 | [x],lo,m,h,hl=>by
  have e:x=m:=by simpa using hl
  subst e;simpa [Jl7] using h
 |x::y::r,lo,m,h,hl=>by
  have hl':(y::r).getLast?=some m:=by simpa using hl
  have h':((decide (lo<=x)&&decide (x<=12))&&Jl7 (x+1) ((y::r).map V.int))=true:=h;rw [yag,yag,decide_eq_true_eq,decide_eq_true_eq] at h';have ih:=Jqx (y::r) (x+1) m h'.2 hl';omega
structure Jl9 where
 kd:Str
 ns:List Int
 sv:Option Int
structure Sd7 (G:Jl9):Prop where
 kd:Knd G.kd
 ns:Jnt (Jnz G.kd) (G.ns.map V.int)=true
 sv:∀i,G.sv=some i->0<=i/\i < G.ns.length
noncomputable def G1 (G:Jl9):List Int:=match G.sv with
 |none=>G.ns
 |some j=>[G.ns.getD j.toNat 0]
inductive Scu (p:S1) (H:Hp) (x:V) (G:Jl9):Prop where
 |mk (t m:S1) (_:x= .ref t) (_:H m=some (.lst ((G1 G).map V.int))) (_:m≠p) (_:(G.sv=none/\H t=some (.tup [.str G.kd,.ref m])\/∃(j:Int) (m2:S1),G.sv=some j/\H t=some (.tup [.str G.kd,.ref m,.ref m2,.int j])/\H m2=some (.lst (G.ns.map V.int))/\m2≠p))
theorem Scu.on {p q:S1} {H H':Hp} {x:V} {G:Jl9} (f:∀b o,H b=some o->(b≠p\/∀xs,o≠ .lst xs)->H' b=some o) (n:∀b o,H b=some o->b≠p->b≠q) (h:Scu p H x G):Scu q H' x G:=by
 obtain ⟨t,m,e,h1,n1,h2⟩:=h;refine ⟨t,m,e,f _ _ h1 (.inl n1),n _ _ h1 n1,?_⟩;rcases h2 with ⟨a,h2⟩|⟨j,m2,a,h2,h3,n2⟩
 ·exact .inl ⟨a,f _ _ h2 (.inr λ_ z=>by cases z)⟩
 ·exact .inr ⟨j,m2,a,f _ _ h2 (.inr λ_ z=>by cases z),f _ _ h3 (.inl n2),n _ _ h3 n2⟩
theorem Scu.same {p:S1} {H H':Hp} {x:V} {G:Jl9} (s:Si H H') (h:Scu p H x G):Scu p H' x G:=h.on (λb o e _=>s b o e) λ_ _ _ n=>n
theorem Scu.but {p:S1} {H H':Hp} {x:V} {G:Jl9} (st:Sb7 H p) (b:But p H H') (h:Scu p H x G):Scu p H' x G:=h.on (λc o e d=>b.1 c o (d.elim id λd=>Jls st e λ_ _ _ z=>d _ z) e) λ_ _ _ n=>n
inductive Yck (vs:List V) (H:Hp) (Q:VK) (z3:XK):Prop where
 |mk (p:S1) (mo:Int) (_:vs= [.ref p,.int mo]) (_:(1<=mo/\mo<=4)) (_:Sb7 H p) (_:∀(x:V) (G:Jl9) (H':Hp),But p H H'->Scu p H' x G->Sd7 G->(G.ns.length:Int)<=mo->Q x H')
theorem Sap:Jjp ["_law_stream_here","_law_most","_law_kind","_law_mark","_law_marks","_law_k","_law_at"] ["_law_stream_here","_law_most"] (Jjl (top 91)):=%[|0]
theorem Jr0 (T:Tx K mg a):Sr P w K mg base CX0 2 a.Jhr a.Jhs ["_law_stream_here","_law_most"] Yck:=by
 have Sk:=%[Jks|1];refine %[T.Ja3.fn.ok,Sap|2]
 ·obtain ⟨p,mo,rfl,_⟩:=h;rfl
 ·obtain ⟨p,mo,rfl,hmo,st,k⟩:=h;refine ⟨?t,?B,?C⟩
  case B=>
   refine' Sx ?O0 ?O1
   case O0=>exact (Jjt (i:=2) Sap.nd rfl (ye rfl) (Jjx Jkg (Jki (Sj Jlu (Sj Jlu (Sj Jlu Sl)))) (Jji T.Ja1 Sk hr (by decide) (Sj (pv 0) (Sj Sn Sl))) (λ_ _=>rfl)))
   case O1=>
   refine' Sx ?O2 ?O3
   case O2=>exact (Jjt (i:=3) Sap.nd rfl (ye rfl) (Jju Jkl (Jji T.Ja1 Sk hr (by decide) (Sj (pv 0) (Sj Sn Sl))) (Jkk Jyh (by rfl) T.Jaw Jwh (Sj (Jmv Jn8 (pv 2) Jlu (Jkn _)) Sl))))
   case O3=>
   refine' Sx ?O4 ?O5
   case O4=>exact (Jjt (i:=4) Sap.nd rfl (ye rfl) (Jki (Sj (pv 3) Sl)))
   case O5=>
   refine' Sx ?O6 ?O7
   case O6=>
    refine' Jlm ?O8 ?O9 ?Oa ?Ob ?Oc
    case O8=>exact PassesOwn.never
    case O9=>exact rfl
    case Oa=>exact (Jom (by rfl) T.Jb2 (Sj (Jji T.Ja1 Sk hr (by decide) (Sj (pv 0) (Sj (pv 1) Sl))) Sl))
    case Ob=>exact (Jjq (i:=5) Sap.nd rfl (ye rfl))
    case Oc=>
    refine' Sx ?Od ?Oe
    case Od=>exact (Jjt (i:=3) Sap.nd rfl (ye rfl) (Jju Jkl (Jju Jkl (pv 3) Sn) (Jji T.Ja1 Sk hr (by decide) (Sj (pv 0) (Sj Sn Sl)))))
    case Oe=>
    refine' Jjj ?Of
    case Of=>exact (Jlh (Jpn F.plainAttrs_list F.slot_list_append F.type_list_append Jn7 (pv 4) (Sj (pv 3) Sl)))
   case O7=>
   refine' Sx ?Og ?Oh
   case Og=>
    refine' Jk4 ?Oi ?Oj ?Ok
    case Oi=>exact (Jkj Yo (Jji T.Ja1 Sk hr (by decide) (Sj (pv 0) (Sj Sn Sl))) Sn (Jkn _))
    case Oj=>
     refine' Jjj ?Ol
     case Ol=>exact (Jjo (Jkw (Sj (pv 2) (Sj (pv 4) Sl))))
    case Ok=>exact Jjs
   case Oh=>
   refine' Sx ?Om ?On
   case Om=>exact (Jjt (i:=6) Sap.nd rfl (ye rfl) (Jji T.Ja1 Sk hr (by decide) (Sj (pv 0) (Sj (Jjn Jjr (by rfl) T.Jay Jkh (Sj (pv 4) Sl)) Sl))))
   case On=>
   refine' Jjj ?Oo
   case Oo=>
   refine' Jjo ?Op
   case Op=>
   refine' Jkw ?Oq
   case Oq=>
   refine' pa4 ?Or ?Os ?Ot ?Ou
   case Or=>exact (pv 2)
   case Os=>exact (Jki (Sj (Jjx Jkg (pv 4) (pv 6) (λ_ _=>rfl)) Sl))
   case Ot=>exact (pv 4)
   case Ou=>exact (pv 6)
  refine ⟨(show 3<=S6 by decide),λL hL=>?_⟩;have sL:=Si.upd (o:=.lst [.str "step",.str "flap",.str "part"]) hL;have bL:=But.of st sL;have nL:L≠p:=st.ne hL;refine ⟨_,rfl,p,3,rfl,bL.2,by decide,by decide,λr H1 r0 r1 b1=>?_⟩;obtain ⟨kd,hat,hk⟩:∃kd:Str,atI [V.str "step",.str "flap",.str "part"] r=some (.str kd)/\Knd kd:=by
   have cs:r=0\/r=1\/r=2:=by omega
   rcases cs with rfl|rfl|rfl
   ·exact ⟨_,rfl,.inl rfl⟩
   ·exact ⟨_,rfl,.inr (.inl rfl)⟩
   ·exact ⟨_,rfl,.inr (.inr rfl)⟩
  refine ⟨L,_,r,_,rfl,rfl,Ss.of (b1.1 _ _ nL So),hat,?_⟩;have bK:=bL.trans b1;have el:Jnz kd=if decide (V.str kd=V.str "part")=true then 1 else 0:=by
   unfold Jnz;by_cases h:kd=("part" :Str)
   ·rw [if_pos h,if_pos (decide_eq_true (by rw [h]))]
   ·rw [if_neg h,if_neg (by rw [decide_eq_false (λe=>h (V.str.inj e))];decide)]
  have hlo:Jnz kd=0\/Jnz kd=1:=by unfold Jnz;split <;> simp
  refine ⟨_,rfl,p,3,rfl,bK.2,by decide,by decide,λr2 H2 s0 s1 b2=>?_⟩;refine ⟨_,rfl,rfl,.inr ⟨_,rfl,_,_,rfl,rfl,?_⟩⟩;rw [<-el];have b02:=bK.trans b2;refine ⟨_,rfl,(show 1<=S6 by decide),λl hl=>?_⟩;have hl0:H l=none:=But.free st b02 hl;have nlp:l≠p:=st.ne hl0;have b3:But p H (upd H2 l (.lst [.int (r2+Jnz kd)])):=b02.updD hl0 nlp;refine ⟨_,rfl,_,rfl,p,mo,rfl,b3.2,by omega,Jlp (by omega),λj H3 j0 j1 b4=>⟨j,rfl,by omega,by omega,?_⟩⟩;refine Jtc (λi σ H'=>∃(o o':Option V) (ns:List Int) (m:Int),σ= [some (.ref p),some (.int mo),some (.str kd),some (.int m),some (.ref l),o,o']/\But p H H'/\H' l=some (.lst (ns.map V.int))/\Jl7 (Jnz kd) (ns.map V.int)=true/\ns.getLast?=some m/\ns.length=i+1/\m<=3+3*i)
   ⟨_,_,[r2+Jnz kd],r2+Jnz kd,rfl,b3.trans b4,b4.1 _ _ nlp So,?_,rfl,by simp,by omega⟩ ?_ ?_
  ·simp [Jl7];omega
  ·rintro i σ H4 hi ⟨o,o',ns,m,rfl,b5,h5,hmk,hla,hle,hmi⟩;have hb:=Jqx ns (Jnz kd) m hmk hla;refine ⟨_,rfl,_,_,rfl,rfl,_,rfl,p,3,rfl,b5.2,by decide,by decide,λr' H5 t0 t1 b6=>?_⟩;refine ⟨_,_,rfl,rfl,?_⟩;have h6:=b6.1 _ _ nlp h5;refine ⟨_,rfl,.inl ⟨rfl,_,Ss.of h6⟩,_,rfl,l,_,_,rfl,rfl,h6,by rw [yf];exact Jkc (by omega),?_⟩;refine ⟨_,_,ns++ [m+1+r'],m+1+r',rfl,(b5.trans b6).updD hl0 nlp,?_,Jqy ns (Jnz kd) m _ hmk hla (by omega) (by omega),by simp,by simp;omega,by omega⟩;rw [So];simp
  ·rintro σ H4 ⟨o,o',ns,m,rfl,b5,h5,hmk,hla,hle,hmi⟩;have hn:(ns.length:Int)<=mo:=by omega
   have har:Jnt (Jnz kd) (ns.map V.int)=true:=by
    unfold Jnt;rw [hmk,Bool.and_true,yf];exact decide_eq_true (by omega)
   refine ⟨_,rfl,p,6,rfl,b5.2,by decide,by decide,λr6 H6 _ _ b6=>⟨_,_,rfl,rfl,_,rfl,Si0 (λ_=>?_) (λ_=>?_)⟩⟩
   ·have h6:=b6.1 _ _ nlp h5;refine ⟨_,rfl,_,rfl,(show 2<=S6 by decide),λt ht=>?_⟩;have sT:=Si.upd (o:=.tup [.str kd,.ref l]) ht;exact k (.ref t) ⟨kd,ns,none⟩ _ ((b5.trans b6).same sT) ⟨t,l,rfl,sT _ _ h6,nlp,.inl ⟨rfl,So⟩⟩ ⟨hk,har,λi e=>by cases e⟩ hn
   ·have h6:=b6.1 _ _ nlp h5;refine ⟨_,rfl,_,rfl,l,_,rfl,.inl (Ss.of h6),p,_,rfl,(b5.trans b6).2,by rw [yf];omega,by rw [yf];exact Jlp (by omega),λr7 H7 u0 u1 b7=>?_⟩;rw [yf] at u1;have h7:=b7.1 _ _ nlp h6;have hat7:=(Ybr (ns:=ns) (s:=r7) ⟨u0,u1⟩).1;refine ⟨_,rfl,_,rfl,_,rfl,l,_,r7,_,rfl,rfl,Ss.of h7,hat7,(show 1<=S6 by decide),λm1 hm1=>?_⟩;have sM:=Si.upd (o:=.lst [.int (ns.getD r7.toNat 0)]) hm1;have b57:=(b5.trans b6).trans b7;have nm1:m1≠p:=b57.2.ne hm1;refine ⟨_,rfl,_,rfl,(show 4<=S6 by decide),λt ht=>?_⟩;have sT:=Si.upd (o:=.tup [.str kd,.ref m1,.ref l,.int r7]) ht;refine k (.ref t) ⟨kd,ns,some r7⟩ _ ((b57.same sM).same sT) ⟨t,m1,rfl,sT _ _ So,nm1,.inr ⟨r7,l,rfl,So,sT _ _ (sM _ _ h7),nlp⟩⟩ ⟨hk,har,λi e=>?_⟩ hn;cases e;exact ⟨u0,u1⟩
structure Jlq where
 z:Str
 lo:Int
 hi:Int
 st:Int
 rn:Int
 G:Jl9
structure Jt3 (B:Jlq):Prop where
 lo:0<=B.lo/\B.lo<=12
 hi:B.lo<=B.hi/\B.hi<=12
 st:B.lo<=B.st/\B.st<=B.hi
 rn:0<=B.rn/\B.rn<=6
 G:Sd7 B.G
inductive Sct (p:S1) (H:Hp) (x:V) (B:Jlq):Prop where
 |mk (t:S1) (g:V) (_:x= .ref t) (_:H t=some (.tup [.str B.z,.int B.lo,.int B.hi,.int B.st,.int B.rn,g])/\Scu p H g B.G)
theorem Sct.same {p:S1} {H H':Hp} {x:V} {B:Jlq} (s:Si H H') (h:Sct p H x B):Sct p H' x B:=by
 obtain ⟨t,g,e,h1,h2⟩:=h;exact ⟨t,g,e,s _ _ h1,h2.same s⟩
theorem Sct.but {p:S1} {H H':Hp} {x:V} {B:Jlq} (st:Sb7 H p) (b:But p H H') (h:Sct p H x B):Sct p H' x B:=by
 obtain ⟨t,g,e,h1,h2⟩:=h;exact ⟨t,g,e,b.1 _ _ (Jls st h1 (λ_ _ _ z=>by cases z)) h1,h2.but st b⟩
noncomputable def Cap (n:Nat) (s r m:Int):Prop:=n=1/\s=7/\r=5/\m=4\/n=2/\s=4/\r=3/\m=2\/n=3/\s=3/\r=2/\m=2\/n=4/\s=2/\r=2/\m=2
theorem Cap.at {n:Nat} {s r m:Int} (h:Cap n s r m):atI [V.int 7,.int 4,.int 3,.int 2] ((n:Int) - 1)=some (.int s)/\atI [V.int 5,.int 3,.int 2,.int 2] ((n:Int) - 1)=some (.int r)/\atI [V.int 4,.int 2,.int 2,.int 2] ((n:Int) - 1)=some (.int m)/\(2<=s/\s<=7)/\(2<=r/\r<=5)/\2<=m/\m<=4:=by
 rcases h with ⟨rfl,rfl,rfl,rfl⟩|⟨rfl,rfl,rfl,rfl⟩|⟨rfl,rfl,rfl,rfl⟩|⟨rfl,rfl,rfl,rfl⟩ <;> exact ⟨rfl,rfl,rfl,by decide,by decide,by decide⟩
structure Lgt (s r m:Int) (B:Jlq):Prop where
 s:B.hi - B.lo < s
 r:B.rn < r
 m:(B.G.ns.length:Int)<=m
inductive Yaf (vs:List V) (H:Hp) (Q:VK) (z3:XK):Prop where
 |mk (p:S1) (z:Str) (n:Nat) (s r m:Int) (_:vs= [.ref p,.str z,.int n]) (_:Sb7 H p) (_:Cap n s r m) (_:∀(x:V) (B:Jlq) (H':Hp),But p H H'->Sct p H' x B->Jt3 B->B.z=z->Lgt s r m B->Q x H')
theorem Sba:Jjp ["_law_stream_here","_law_name","_law_many","_law_low","_law_span","_law_start","_law_rain"] ["_law_stream_here","_law_name","_law_many"] (Jjl (top 92)):=%[|0]
theorem Jui (T:Tx K mg a):Sr P w K mg base CX0 3 a.Jht a.Jhu ["_law_stream_here","_law_name","_law_many"] Yaf:=by
 have Sk:=%[Jks|1];have Sck:=%[Jr0|1];refine %[T.Ja4.fn.ok,Sba|2]
 ·obtain ⟨p,z,n,s,r,m,rfl,_⟩:=h;rfl
 ·obtain ⟨p,z,n,cs,cr,cm,rfl,st,cap,k⟩:=h;obtain ⟨a1,a2,a3,bs,br,bm⟩:=cap.at;refine ⟨?t,?B,?C⟩
  case B=>
   refine' Sx ?O0 ?O1
   case O0=>exact (Jjt (i:=3) Sba.nd rfl (ye rfl) (Jji T.Ja1 Sk hr (by decide) (Sj (pv 0) (Sj Sn Sl))))
   case O1=>
   refine' Sx ?O2 ?O3
   case O2=>exact (Jjt (i:=4) Sba.nd rfl (ye rfl) (Jji T.Ja1 Sk hr (by decide) (Sj (pv 0) (Sj (Jjx Jkg (Jki (pa4 Sn Sn Sn Sn)) (Jju Jmc (pv 2) Sn) (λ_ _=>rfl)) Sl))))
   case O3=>
   refine' Sx ?O4 ?O5
   case O4=>exact (Jjt (i:=5) Sba.nd rfl (ye rfl) (Jju Jkl (pv 3) (Jji T.Ja1 Sk hr (by decide) (Sj (pv 0) (Sj (Jju Jkl (pv 4) Sn) Sl)))))
   case O5=>
   refine' Sx ?O6 ?O7
   case O6=>exact (Jjt (i:=6) Sba.nd rfl (ye rfl) (Jji T.Ja1 Sk hr (by decide) (Sj (pv 0) (Sj (Jjx Jkg (Jki (pa4 Sn Sn Sn Sn)) (Jju Jmc (pv 2) Sn) (λ_ _=>rfl)) Sl))))
   case O7=>
   refine' Jjj ?O8
   case O8=>
   refine' Jjo ?O9
   case O9=>
   refine' Jkw ?Oa
   case Oa=>
   refine' pa6 ?Ob ?Oc ?Od ?Oe ?Of ?Og
   case Ob=>exact (pv 1)
   case Oc=>exact (pv 3)
   case Od=>exact (Jju Jkl (pv 3) (pv 4))
   case Oe=>exact (pv 5)
   case Of=>exact (pv 6)
   case Og=>exact (Jji T.Ja3 Sck hr (by decide) (Sj (pv 0) (Sj (Jjx Jkg (Jki (pa4 Sn Sn Sn Sn)) (Jju Jmc (pv 2) Sn) (λ_ _=>rfl)) Sl)))
  refine ⟨_,rfl,p,4,rfl,st,by decide,by decide,λlo H1 l0 l1 b1=>?_⟩;refine ⟨_,rfl,(show 4<=S6 by decide),λL1 hL1=>?_⟩;have c1:=b1.same (Si.upd (o:=.lst [V.int 7,.int 4,.int 3,.int 2]) hL1);refine ⟨_,rfl,_,_,rfl,rfl,L1,_,_,_,rfl,rfl,Ss.of So,a1,p,cs,rfl,c1.2,by omega,Jlp (by omega),λhi H2 h0 h1 b2=>?_⟩;refine ⟨_,rfl,_,rfl,_,rfl,_,_,rfl,rfl,p,hi+1,rfl,b2.2,by omega,Jlp (by omega),λsv H3 s0 s1 b3=>⟨_,_,rfl,rfl,?_⟩⟩;refine ⟨_,rfl,(show 4<=S6 by decide),λL2 hL2=>?_⟩;have c3:=b3.same (Si.upd (o:=.lst [V.int 5,.int 3,.int 2,.int 2]) hL2);refine ⟨_,rfl,_,_,rfl,rfl,L2,_,_,_,rfl,rfl,Ss.of So,a2,p,cr,rfl,c3.2,by omega,Jlp (by omega),λrn H4 n0 n1 b4=>?_⟩;refine ⟨_,rfl,_,rfl,_,rfl,_,rfl,_,_,rfl,rfl,_,rfl,_,rfl,_,rfl,(show 4<=S6 by decide),λL3 hL3=>?_⟩;have c4:=b4.same (Si.upd (o:=.lst [V.int 4,.int 2,.int 2,.int 2]) hL3);refine ⟨_,rfl,_,_,rfl,rfl,L3,_,_,_,rfl,rfl,Ss.of So,a3,p,cm,rfl,by omega,c4.2,λg G H5 b5 gt gg gm=>?_⟩;refine ⟨(show 6<=S6 by decide),λt ht=>?_⟩;have sT:=Si.upd (o:=.tup [.str z,.int lo,.int (lo+hi),.int (lo+sv),.int rn,g]) ht;exact k (.ref t) ⟨z,lo,lo+hi,lo+sv,rn,G⟩ _ (((((c1.trans b2).trans c3).trans c4).trans b5).same sT) ⟨t,g,rfl,So,gt.same sT⟩ ⟨by dsimp only;omega,by dsimp only;omega,by dsimp only;omega,by dsimp only;omega,gg⟩ rfl ⟨by dsimp only;omega,by dsimp only;omega,gm⟩
theorem Ycd {bs:List V} {ns:List Int} (h:∀b∈bs,∃o,b=V.ref o) (hn:1<=ns.length):bs≠ns.map V.int:=by
 intro e;cases ns with
 |nil=>simp at hn
 |cons n r=>
  obtain ⟨o,q⟩:=h (.int n) (by rw [e];simp);cases q
theorem Sd7.len {G:Jl9} (h:Sd7 G):1<=G.ns.length/\G.ns.length<=4:=by
 have q:=h.ns;unfold Jnt at q;rw [yag,decide_eq_true_eq,yf] at q;exact q.1
theorem G1.len {G:Jl9} (h:Sd7 G):1<=(G1 G).length:=by
 unfold G1;split
 ·exact h.len.1
 ·exact yg 1
theorem Scu.put {p D:S1} {H:Hp} {x:V} {G:Jl9} {bs:List V} {o:HO} (g:Sd7 G) (hD:H D=some (.lst bs)) (hb:∀b∈bs,∃o,b=V.ref o) (h:Scu p H x G):Scu p (upd H D o) x G:=by
 obtain ⟨t,m,e,h1,n1,h2⟩:=h;have tp:∀xs,H t=some (.tup xs)->upd H D o t=some (.tup xs):=λxs h=>by
  rw [Sy (λz=>by rw [z,hD] at h;cases h)];exact h
 have ls:∀(q:S1) (ns:List Int),1<=ns.length->H q=some (.lst (ns.map V.int))->upd H D o q=some (.lst (ns.map V.int)):=λq ns hn h=>by
  rw [Sy (λz=>by rw [z,hD] at h;cases h;exact Ycd hb hn rfl)];exact h
 refine ⟨t,m,e,ls _ _ (G1.len g) h1,n1,?_⟩;rcases h2 with ⟨a,h2⟩|⟨j,m2,a,h2,h3,n2⟩
 ·exact .inl ⟨a,tp _ h2⟩
 ·exact .inr ⟨j,m2,a,tp _ h2,ls _ _ g.len.1 h3,n2⟩
theorem Sct.put {p D:S1} {H:Hp} {x:V} {B:Jlq} {bs:List V} {o:HO} (g:Jt3 B) (hD:H D=some (.lst bs)) (hb:∀b∈bs,∃o,b=V.ref o) (h:Sct p H x B):Sct p (upd H D o) x B:=by
 obtain ⟨t,y,e,h1,h2⟩:=h;refine ⟨t,y,e,?_,h2.put g.G hD hb⟩;rw [Sy (λz=>by rw [z,hD] at h1;cases h1)];exact h1
noncomputable def BTL (p:S1) (H:Hp):List V->List Jlq->Prop
 | [],[]=>True
 |x::xs,B::Bs=>Sct p H x B/\BTL p H xs Bs
 |_,_=>False
theorem BTL.map {p q:S1} {H H':Hp} (f:∀x B,Jt3 B->Sct p H x B->Sct q H' x B):∀{xs:List V} {Bs:List Jlq},(∀B∈Bs,Jt3 B)->BTL p H xs Bs->BTL q H' xs Bs:=by
 intro xs
 induction xs with
 |nil=>
  intro Bs g h;cases Bs with
  |nil=>exact True.intro
  |cons B Bs=>exact False.elim h
 |cons x xs ih=>
  intro Bs g h;cases Bs with
  |nil=>exact False.elim h
  |cons B Bs=>exact ⟨f _ _ (g _ yy) (yas h),ih (λB hB=>g B (yq _ hB)) (yao h)⟩
theorem BTL.snoc {p:S1} {H:Hp} {x:V} {B:Jlq} (h:Sct p H x B):∀{xs:List V} {Bs:List Jlq},BTL p H xs Bs->BTL p H (xs++ [x]) (Bs++ [B]):=by
 intro xs
 induction xs with
 |nil=>
  intro Bs q;cases Bs with
  |nil=>exact ⟨h,True.intro⟩
  |cons B Bs=>exact False.elim q
 |cons x xs ih=>
  intro Bs q;cases Bs with
  |nil=>exact False.elim q
  |cons B Bs=>exact ⟨yas q,ih (yao q)⟩
theorem BTL.refs {p:S1} {H:Hp}:∀{xs:List V} {Bs:List Jlq},BTL p H xs Bs->∀b∈xs,∃o,b=V.ref o:=by
 intro xs
 induction xs with
 |nil=>exact λ_ b hb=>absurd hb (by simp)
 |cons x xs ih=>
  intro Bs h b hb;cases Bs with
  |nil=>exact False.elim h
  |cons B Bs=>
   rcases yr.mp hb with rfl|hb
   ·obtain ⟨⟨t,g,e,_⟩,_⟩:=h;exact ⟨t,e⟩
   ·exact ih (yao h) b hb
theorem BTL.len {p:S1} {H:Hp}:∀{xs:List V} {Bs:List Jlq},BTL p H xs Bs->xs.length=Bs.length:=by
 intro xs
 induction xs with
 |nil=>
  intro Bs h;cases Bs with
  |nil=>rfl
  |cons B Bs=>exact False.elim h
 |cons x xs ih=>
  intro Bs h;cases Bs with
  |nil=>exact False.elim h
  |cons B Bs=>rw [yac,yac,ih (yao h)]
structure Jn3 where
 z:Str
 b:Str
 wt:Int
inductive Sd4 (H:Hp) (x:V) (B:Jn3):Prop where
 |mk (t:S1) (_:x= .ref t) (_:H t=some (.tup [.str B.z,.str B.b,.int B.wt]))
theorem Sd4.same {H H':Hp} {x:V} {B:Jn3} (s:Si H H') (h:Sd4 H x B):Sd4 H' x B:=by obtain ⟨t,e,h1⟩:=h;exact ⟨t,e,s _ _ h1⟩
theorem Sd4.but {p:S1} {H H':Hp} {x:V} {B:Jn3} (st:Sb7 H p) (b:But p H H') (h:Sd4 H x B):Sd4 H' x B:=
 let ⟨t,e,h1⟩:=h
 ⟨t,e,b.1 _ _ (Jls st h1 (λ_ _ _ z=>by cases z)) h1⟩
theorem Sd4.put {D:S1} {H:Hp} {x:V} {B:Jn3} {bs:List V} {o:HO} (hD:H D=some (.lst bs)) (h:Sd4 H x B):Sd4 (upd H D o) x B:=by
 obtain ⟨t,e,h1⟩:=h;refine ⟨t,e,?_⟩;rw [Sy (λz=>by rw [z,hD] at h1;cases h1)];exact h1
noncomputable def TTL (H:Hp):List V->List Jn3->Prop
 | [],[]=>True
 |x::xs,B::Bs=>Sd4 H x B/\TTL H xs Bs
 |_,_=>False
theorem TTL.map {H H':Hp} (f:∀x B,Sd4 H x B->Sd4 H' x B):∀{xs:List V} {Bs:List Jn3},TTL H xs Bs->TTL H' xs Bs:=by
 intro xs
 induction xs with
 |nil=>
  intro Bs h;cases Bs with
  |nil=>exact True.intro
  |cons B Bs=>exact False.elim h
 |cons x xs ih=>
  intro Bs h;cases Bs with
  |nil=>exact False.elim h
  |cons B Bs=>exact ⟨f _ _ (yas h),ih (yao h)⟩
theorem TTL.snoc {H:Hp} {x:V} {B:Jn3} (h:Sd4 H x B):∀{xs:List V} {Bs:List Jn3},TTL H xs Bs->TTL H (xs++ [x]) (Bs++ [B]):=by
 intro xs
 induction xs with
 |nil=>
  intro Bs q;cases Bs with
  |nil=>exact ⟨h,True.intro⟩
  |cons B Bs=>exact False.elim q
 |cons x xs ih=>
  intro Bs q;cases Bs with
  |nil=>exact False.elim q
  |cons B Bs=>exact ⟨yas q,ih (yao q)⟩
theorem TTL.len {H:Hp}:∀{xs:List V} {Bs:List Jn3},TTL H xs Bs->xs.length=Bs.length:=by
 intro xs
 induction xs with
 |nil=>
  intro Bs h;cases Bs with
  |nil=>rfl
  |cons B Bs=>exact False.elim h
 |cons x xs ih=>
  intro Bs h;cases Bs with
  |nil=>exact False.elim h
  |cons B Bs=>rw [yac,yac,ih (yao h)]
structure Jlw where
 c:Int
 g:Int
 Bs:List Jlq
 Ts:List Jn3
structure Jpe (R:Jlw):Prop where
 c:0<=R.c/\R.c<=12
 g:0<=R.g/\R.g<=R.c
 n:1<=R.Bs.length/\R.Bs.length<=16
 Bs:∀B∈R.Bs,Jt3 B/\Jnl B.z=true/\Ltr 8 B.z
 nd:(R.Bs.map (·.z)).Nodup
 tn:R.Ts.length<=3
 Ts:∀B∈R.Ts,Jnl B.z=true/\Ltr 8 B.z/\B.b∈R.Bs.map (·.z)/\1<=B.wt/\B.wt<=6
 td:(R.Ts.map (·.z)).Nodup
inductive Seh (p:S1) (H:Hp) (x:V) (R:Jlw):Prop where
 |mk (t lb lt:S1) (bs ts:List V) (_:x= .ref t) (_:H t=some (.tup [.int R.c,.int R.g,.ref lb,.ref lt])) (_:H lb=some (.lst bs)) (_:BTL p H bs R.Bs) (_:H lt=some (.lst ts)) (_:TTL H ts R.Ts) (_:lb≠p) (_:lt≠p)
inductive Jzq (R:Jlw):Prop where
 |mk (n L C S T r:Nat) (_:(n,L,C,S,T,r)∈ [(1,7,5,4,3,5),(1,4,13,2,2,7),(2,4,3,2,3,3),(3,3,2,2,2,2),(4,2,2,2,1,2)]) (_:R.Bs.length=n) (_:R.c < C) (_:R.Ts.length < T) (_:∀B∈R.Bs,Lgt L r S B)
inductive Yci (vs:List V) (H:Hp) (Q:VK) (z3:XK):Prop where
 |mk (p:S1) (_:vs= [.ref p]) (_:Sb7 H p) (_:∀(x:V) (R:Jlw) (H':Hp),But p H H'->Seh p H' x R->Jpe R->Jzq R->Q x H')
theorem Sa8:Jjp ["_law_stream_here","_law_cloud","_law_gain","_law_name","_law_low","_law_high","_law_start","_law_basin_here","_law_towns"] ["_law_stream_here"] (Jjl (top 93)):=%[|0]
theorem Juj (T:Tx K mg a):Sr P w K mg base CX0 3 a.Jhv a.Jhw ["_law_stream_here"] Yci:=by
 have Sk:=%[Jks|1];have Sbj:=%[Jpk|1];have Sck:=%[Jr0|1];refine %[T.Ja5.fn.ok,Sa8|2]
 ·obtain ⟨p,rfl,_⟩:=h;rfl
 ·obtain ⟨p,rfl,st,k⟩:=h;refine ⟨?t,?B,?C⟩
  case B=>
   refine' Sx ?O0 ?O1
   case O0=>exact (Jjt (i:=1) Sa8.nd rfl (ye rfl) (Jju Jkl Sn (Jji T.Ja1 Sk hr (by decide) (Sj (pv 0) (Sj Sn Sl)))))
   case O1=>
   refine' Sx ?O2 ?O3
   case O2=>exact (Jjt (i:=2) Sa8.nd rfl (ye rfl) (Jji T.Ja1 Sk hr (by decide) (Sj (pv 0) (Sj (Jju Jkl (pv 1) Sn) Sl))))
   case O3=>
   refine' Sx ?O4 ?O5
   case O4=>exact (Jjt (i:=3) Sa8.nd rfl (ye rfl) (Jjx Jkg (Jji T.Ja2 Sbj hr (by decide) (Sj (pv 0) (Sj Sn Sl))) Sn (λ_ _=>rfl)))
   case O5=>
   refine' Sx ?O6 ?O7
   case O6=>exact (Jjt (i:=4) Sa8.nd rfl (ye rfl) (Jji T.Ja1 Sk hr (by decide) (Sj (pv 0) (Sj Sn Sl))))
   case O7=>
   refine' Sx ?O8 ?O9
   case O8=>exact (Jjt (i:=5) Sa8.nd rfl (ye rfl) (Jju Jkl (pv 4) (Jji T.Ja1 Sk hr (by decide) (Sj (pv 0) (Sj Sn Sl)))))
   case O9=>
   refine' Sx ?Oa ?Ob
   case Oa=>exact (Jjt (i:=6) Sa8.nd rfl (ye rfl) (Jju Jkl (pv 4) (Jji T.Ja1 Sk hr (by decide) (Sj (pv 0) (Sj (Jju Jkl (Jju Jmc (pv 5) (pv 4)) Sn) Sl)))))
   case Ob=>
   refine' Sx ?Oc ?Od
   case Oc=>exact (Jjt (i:=7) Sa8.nd rfl (ye rfl) (Jkw (pa6 (pv 3) (pv 4) (pv 5) (pv 6) (Jji T.Ja1 Sk hr (by decide) (Sj (pv 0) (Sj Sn Sl))) (Jji T.Ja3 Sck hr (by decide) (Sj (pv 0) (Sj Sn Sl))))))
   case Od=>
   refine' Sx ?Oe ?Of
   case Oe=>exact (Jjt (i:=8) Sa8.nd rfl (ye rfl) (Jmr Juu (Jki (Sj (Jkw (Sj Jlu (Sj (pv 3) (Sj (Jju Jkl Sn (Jji T.Ja1 Sk hr (by decide) (Sj (pv 0) (Sj Sn Sl)))) Sl)))) Sl)) Jne (Jnf (Jji T.Ja1 Sk hr (by decide) (Sj (pv 0) (Sj Sn Sl))))))
   case Of=>
   refine' Jjj ?Og
   case Og=>
   refine' Jjo ?Oh
   case Oh=>
   refine' Jkw ?Oi
   case Oi=>
   refine' pa4 ?Oj ?Ok ?Ol ?Om
   case Oj=>exact (pv 1)
   case Ok=>exact (pv 2)
   case Ol=>exact (Jki (Sj (pv 7) Sl))
   case Om=>exact (pv 8)
  refine ⟨_,rfl,p,4,rfl,st,by decide,by decide,λcl H1 c0 c1 b1=>⟨_,_,rfl,rfl,?_⟩⟩;refine ⟨_,rfl,_,rfl,_,_,rfl,rfl,p,9+cl+1,rfl,b1.2,by omega,Jlp (by omega),λgn H2 g0 g1 b2=>?_⟩;have b12:=b1.trans b2;refine ⟨_,rfl,p,1,rfl,b12.2,by omega,λl zs H3 hl b3 hl3 len nms=>?_⟩;have b13:=b12.trans b3;obtain ⟨z,rfl⟩:∃z,zs= [z]:=by
   match zs,len with
   | [z],_=>exact ⟨z,rfl⟩
  refine ⟨l,_,0,_,rfl,rfl,Ss.of hl3,rfl,?_⟩;refine ⟨_,rfl,p,10,rfl,b13.2,by decide,by decide,λlo H4 l0 l1 b4=>?_⟩;refine ⟨_,rfl,_,rfl,p,4,rfl,b4.2,by decide,by decide,λhi H5 h0 h1 b5=>⟨_,_,rfl,rfl,?_⟩⟩;refine ⟨_,rfl,_,rfl,_,rfl,_,rfl,_,_,rfl,rfl,_,_,rfl,rfl,p,lo+hi - lo+1,rfl,b5.2,by omega,Jlp (by omega),λsv H6 s0 s1 b6=>⟨_,_,rfl,rfl,?_⟩⟩;refine ⟨_,rfl,_,rfl,_,rfl,_,rfl,_,rfl,p,7,rfl,b6.2,by decide,by decide,λrn H7 n0 n1 b7=>?_⟩;refine ⟨_,rfl,p,2,rfl,by omega,b7.2,λg G H8 b8 gt gg gm=>⟨(show 6<=S6 by decide),λt ht=>?_⟩⟩;have b18:=(((b13.trans b4).trans (b5.trans b6)).trans b7).trans b8;have sT:=Si.upd (o:=.tup [.str z,.int lo,.int (lo+hi),.int (lo+sv),.int rn,g]) ht;have bt:Sct p (upd H8 t (.tup [.str z,.int lo,.int (lo+hi),.int (lo+sv),.int rn,g])) (.ref t) ⟨z,lo,lo+hi,lo+sv,rn,G⟩:=⟨t,g,rfl,So,gt.same sT⟩;have b19:=b18.same sT;generalize upd H8 t (.tup [.str z,.int lo,.int (lo+hi),.int (lo+sv),.int rn,g])=H9 at*;refine ⟨_,rfl,_,rfl,p,6,rfl,b19.2,by decide,by decide,λwt HA w0 w1 bA=>⟨_,_,rfl,rfl,(show 3<=S6 by decide),λtt htt=>⟨(show 1<=S6 by decide),λL hL=>?_⟩⟩⟩;have sB:=Si.upd (o:=.tup [.str "mill",.str z,.int (1+wt)]) htt;have gB:=So (H:=HA) (a:=tt) (o:=.tup [.str "mill",.str z,.int (1+wt)]);generalize upd HA tt (.tup [.str "mill",.str z,.int (1+wt)])=HB at*;have sC:=Si.upd (o:=.lst [.ref tt]) hL;have gC:=So (H:=HB) (a:=L) (o:=.lst [.ref tt]);generalize upd HB L (.lst [.ref tt])=HC at*;have b1C:=((b19.trans bA).same sB).same sC;have nL:L≠p:=(((b19.trans bA).same sB)).2.ne hL;have ntt:tt≠p:=(b19.trans bA).2.ne htt;refine ⟨_,rfl,p,2,rfl,b1C.2,by decide,by decide,λr2 HD d0 d1 bD=>⟨_,rfl,L,_,rfl,Ss.of (bD.1 _ _ nL gC),λlt hlt=>?_⟩⟩;have b1D:=b1C.trans bD;obtain ⟨Ts,ts,ets,ttl,tn,tgd,td⟩:∃(Ts:List Jn3) (ts:List V),Jon [.ref tt] none (some r2)=ts/\TTL HD ts Ts/\Ts.length<=1/\(∀B∈Ts,Jnl B.z=true/\Ltr 8 B.z/\B.b∈ [z]/\1<=B.wt/\B.wt<=6)/\(Ts.map (·.z)).Nodup:=by
   have cs:r2=0\/r2=1:=by omega
   rcases cs with rfl|rfl
   ·exact ⟨[],[],rfl,True.intro,yw _,λB hB=>absurd hB (by simp),ycd⟩
   ·refine ⟨[⟨"mill",z,1+wt⟩],[.ref tt],rfl,⟨⟨tt,rfl,bD.1 _ _ ntt (sC _ _ gB)⟩,True.intro⟩,yg _,λB hB=>?_,by simp⟩;rw [yan.mp hB];exact ⟨(show Jnl "mill" =true by decide +kernel),⟨(show ("mill" :Str).length<=8 by decide +kernel),(show ∀c∈("mill" :Str).cps.toList,c∈LET.cps.toList by decide +kernel)⟩,by simp,by dsimp only;omega,by dsimp only;omega⟩
  rw [ets];have sE:=Si.upd (o:=.lst ts) hlt;have gE:=So (H:=HD) (a:=lt) (o:=.lst ts);generalize upd HD lt (.lst ts)=HE at*;have nlt:lt≠p:=b1D.2.ne hlt;refine ⟨_,rfl,_,rfl,_,rfl,(show 1<=S6 by decide),λlb hlb=>⟨_,rfl,(show 4<=S6 by decide),λq hq=>?_⟩⟩;have b1E:=b1D.same sE;have nlb:lb≠p:=b1E.2.ne hlb;have sF:=Si.upd (o:=.lst [.ref t]) hlb;have gF:=So (H:=HE) (a:=lb) (o:=.lst [.ref t]);generalize upd HE lb (.lst [.ref t])=HF at*;have sG:=Si.upd (o:=.tup [.int (9+cl),.int gn,.ref lb,.ref lt]) hq;have gG:=So (H:=HF) (a:=q) (o:=.tup [.int (9+cl),.int gn,.ref lb,.ref lt]);generalize upd HF q (.tup [.int (9+cl),.int gn,.ref lb,.ref lt])=HG at*;have sEG:=(sE.trans sF).trans sG;have btG:=(((bt.but b19.2 (((bA.same sB).same sC).trans bD)).same sE).same sF).same sG;have nz:=nms.2 z yy;refine k (.ref q) ⟨9+cl,gn,[⟨z,lo,lo+hi,lo+sv,rn,G⟩],Ts⟩ HG ((b1E.same sF).same sG) ⟨q,lb,lt,[.ref t],ts,rfl,gG,sG _ _ gF,⟨btG,True.intro⟩,sG _ _ (sF _ _ gE),TTL.map (λx B h=>h.same sEG) ttl,nlb,nlt⟩ ⟨by dsimp only;omega,by dsimp only;omega,by simp,λB hB=>?_,by simp,yae tn (by decide),tgd,td⟩ ⟨1,4,13,2,2,7,by decide,rfl,by dsimp only;omega,by dsimp only;omega,λB hB=>?_⟩
  ·rw [yan.mp hB];exact ⟨⟨by dsimp only;omega,by dsimp only;omega,by dsimp only;omega,by dsimp only;omega,gg⟩,nz.1,nz.2⟩
  ·rw [yan.mp hB];exact ⟨by dsimp only;omega,by dsimp only;omega,gm⟩
theorem Cap.tn {n:Nat} {s r m:Int} (h:Cap n s r m):∃L C S T:Nat,s=L/\r=C/\m=S/\atI [V.int 3,.int 3,.int 2,.int 1] ((n:Int) - 1)=some (.int T)/\1<=T/\T<=3/\(n,L,C,S,T,C)∈ [(1,7,5,4,3,5),(1,4,13,2,2,7),(2,4,3,2,3,3),(3,3,2,2,2,2),(4,2,2,2,1,2)]/\1<=n/\n<=4:=by
 rcases h with ⟨rfl,rfl,rfl,rfl⟩|⟨rfl,rfl,rfl,rfl⟩|⟨rfl,rfl,rfl,rfl⟩|⟨rfl,rfl,rfl,rfl⟩
 ·exact ⟨7,5,4,3,rfl,rfl,rfl,rfl,by decide⟩
 ·exact ⟨4,3,2,3,rfl,rfl,rfl,rfl,by decide⟩
 ·exact ⟨3,2,2,2,rfl,rfl,rfl,rfl,by decide⟩
 ·exact ⟨2,2,2,1,rfl,rfl,rfl,rfl,by decide⟩
inductive Yag (vs:List V) (H:Hp) (Q:VK) (z3:XK):Prop where
 |mk (c:Int) (_:vs= [.int c]) (_:∀(x:V) (R:Jlw) (p:S1) (H':Hp),H p=none->Si H H'->Sb7 H' p->Seh p H' x R->Jpe R->Jzq R->Q x H')
theorem Jyb {t1 t2:TS} {D:Sca} {σ:L2.St} {H:Hp} (Mid:L2.St->Hp->Prop) (h1:∀R,(∀σ H,Mid σ H->R σ H)->t1 {D with nx:=R} σ H) (h2:∀σ H,Mid σ H->t2 D σ H):Sj8 t1 t2 D σ H:=h1 _ h2
theorem Jvp {i:Nat} {v:V} {σ:L2.St} {H:Hp} {t1 t2:TS} {D:Sca} (h:Sj8 t1 t2 D (σ.set i (some v)) H):Jly i v σ H (Sca.nx {D with nx:=Sj8 t1 t2 D}):=h
theorem Sa9:Jjp ["_law_cell_here","_law_stream_here","_law_many","_law_cloud","_law_gain","_law_names_here","_law_basins","_law_towns","_law_name"] ["_law_cell_here"] (Jjl (top 94)):=%[|0]
theorem Jum (T:Tx K mg a):Sr P w K mg base CX0 4 a.Jhx a.Jhy ["_law_cell_here"] Yag:=by
 have Sk:=%[Jks|1];have Sbj:=%[Jpk|1];have Ses:=%[Jui|1];have Set:=%[Juj|1];have Sb2:=%[Jmz|1];refine %[T.Ja6.fn.ok,Sa9|2]
 ·obtain ⟨c,rfl,_⟩:=h;rfl
 ·obtain ⟨c,rfl,k⟩:=h;refine ⟨?t,?B,?C⟩
  case B=>
   refine' Sx ?O0 ?O1
   case O0=>exact (Jjt (i:=1) Sa9.nd rfl (yak rfl) (Jji T.Ja0 Sb2 hr (by decide) (Sj (pv 0) Sl)))
   case O1=>
   refine' Sx ?O2 ?O3
   case O2=>exact (Jjt (i:=2) Sa9.nd rfl (yak rfl) (Jju Jkl Sn (Jjx Jkg (Jki (pa8 Sn Sn Sn Sn Sn Sn Sn Sn)) (Jji T.Ja1 Sk hr (by decide) (Sj (pv 1) (Sj Sn Sl))) (λ_ _=>rfl))))
   case O3=>
   refine' Sx ?O4 ?O5
   case O4=>
    refine' Jk4 ?O6 ?O7 ?O8
    case O6=>exact (PW.pt (Ya1 (Jkj Jn8 (pv 2) Sn (Jkn _)) (Jy7 (Jkj Jn8 (Jji T.Ja1 Sk hr (by decide) (Sj (pv 1) (Sj Sn Sl))) Sn (Jkn _)))))
    case O7=>
     refine' Jjj ?O9
     case O9=>exact (Jjo (Jji T.Ja5 Set hr (by decide) (Sj (pv 1) Sl)))
    case O8=>exact Jjs
   case O5=>
   refine' Sx ?Oa ?Ob
   case Oa=>exact (Jjt (i:=3) Sa9.nd rfl (ye rfl) (Jji T.Ja1 Sk hr (by decide) (Sj (pv 1) (Sj (Jjx Jkg (Jki (pa4 Sn Sn Sn Sn)) (Jju Jmc (pv 2) Sn) (λ_ _=>rfl)) Sl))))
   case Ob=>
   refine' Sx ?Oc ?Od
   case Oc=>exact (Jjt (i:=4) Sa9.nd rfl (ye rfl) (Jji T.Ja1 Sk hr (by decide) (Sj (pv 1) (Sj (Jju Jkl (pv 3) Sn) Sl))))
   case Od=>
   refine' Sx ?Oe ?Of
   case Oe=>exact (Jjt (i:=5) Sa9.nd rfl (ye rfl) (Jji T.Ja2 Sbj hr (by decide) (Sj (pv 1) (Sj (pv 2) Sl))))
   case Of=>
   refine' Sx ?Og ?Oh
   case Og=>exact (Jy6 (i:=6) (N:=(["_law_name","_law_stream_here","_law_many"]:List Str)) (ini:=[none,some 1,some 2]) Sa9.nd rfl (ye rfl) rfl (Jkm (pv 5)) (λ_ _ _ _ _=>(Jjq (i:=0) (by decide +kernel:(["_law_name","_law_stream_here","_law_many"]:List Str).Nodup) rfl (ye rfl))) (λ_ _ _ _ _=>Jk1) (λ_ _ _ _ _=>(Jji T.Ja4 Ses hr (by decide) (Sj (pv 1) (Sj (pv 0) (Sj (pv 2) Sl))))))
   case Oh=>
   refine' Sx ?Oi ?Oj
   case Oi=>exact (Jjt (i:=7) Sa9.nd rfl (ye rfl) (Jki Sl))
   case Oj=>
   refine' Sx ?Ok ?Ol
   case Ok=>
    refine' Jlm ?Om ?On ?Oo ?Op ?Oq
    case Om=>exact PassesOwn.never
    case On=>exact rfl
    case Oo=>exact (Jkm (Jmr Juu (Jji T.Ja2 Sbj hr (by decide) (Sj (pv 1) (Sj Sn Sl))) Jne (Jnf (Jji T.Ja1 Sk hr (by decide) (Sj (pv 1) (Sj (Jjx Jkg (Jki (pa4 Sn Sn Sn Sn)) (Jju Jmc (pv 2) Sn) (λ_ _=>rfl)) Sl))))))
    case Op=>exact (Jjq (i:=8) Sa9.nd rfl (ye rfl))
    case Oq=>
    refine' Jjj ?Or
    case Or=>exact (Jlh (Jpn F.plainAttrs_list F.slot_list_append F.type_list_append Jn7 (pv 7) (Sj (Jkw (Sj (pv 8) (Sj (Jjx Jkg (pv 5) (Jji T.Ja1 Sk hr (by decide) (Sj (pv 1) (Sj (pv 2) Sl))) (λ_ _=>rfl)) (Sj (Jju Jkl Sn (Jji T.Ja1 Sk hr (by decide) (Sj (pv 1) (Sj Sn Sl)))) Sl)))) Sl)))
   case Ol=>
   refine' Jjj ?Os
   case Os=>
   refine' Jjo ?Ot
   case Ot=>
   refine' Jkw ?Ou
   case Ou=>
   refine' pa4 ?Ov ?Ow ?Ox ?Oy
   case Ov=>exact (pv 3)
   case Ow=>exact (pv 4)
   case Ox=>exact (pv 6)
   case Oy=>exact (pv 7)
  refine ⟨_,rfl,c,rfl,λp H1 hp s1 st=>?_⟩;refine ⟨(show 8<=S6 by decide),λL0 hL0=>?_⟩;have nL0:L0≠p:=st.ne hL0;have b0:=But.of st (Si.upd (o:=.lst [V.int 0,V.int 0,V.int 1,V.int 1,V.int 1,V.int 2,V.int 2,V.int 3]) hL0);refine ⟨_,rfl,p,8,rfl,b0.2,by decide,by decide,λr3 H4 r30 r31 b1=>?_⟩;obtain ⟨n,m0,cs,cr,cm,hat,em,cap⟩:∃(n:Nat) (m0 cs cr cm:Int),atI [V.int 0,V.int 0,V.int 1,V.int 1,V.int 1,V.int 2,V.int 2,V.int 3] r3=some (.int m0)/\1+m0=n/\Cap n cs cr cm:=by
   have cs:r3=0\/r3=1\/r3=2\/r3=3\/r3=4\/r3=5\/r3=6\/r3=7:=by omega
   rcases cs with rfl|rfl|rfl|rfl|rfl|rfl|rfl|rfl
   ·exact ⟨1,0,_,_,_,rfl,rfl,.inl ⟨rfl,rfl,rfl,rfl⟩⟩
   ·exact ⟨1,0,_,_,_,rfl,rfl,.inl ⟨rfl,rfl,rfl,rfl⟩⟩
   ·exact ⟨2,1,_,_,_,rfl,rfl,.inr (.inl ⟨rfl,rfl,rfl,rfl⟩)⟩
   ·exact ⟨2,1,_,_,_,rfl,rfl,.inr (.inl ⟨rfl,rfl,rfl,rfl⟩)⟩
   ·exact ⟨2,1,_,_,_,rfl,rfl,.inr (.inl ⟨rfl,rfl,rfl,rfl⟩)⟩
   ·exact ⟨3,2,_,_,_,rfl,rfl,.inr (.inr (.inl ⟨rfl,rfl,rfl,rfl⟩))⟩
   ·exact ⟨3,2,_,_,_,rfl,rfl,.inr (.inr (.inl ⟨rfl,rfl,rfl,rfl⟩))⟩
   ·exact ⟨4,3,_,_,_,rfl,rfl,.inr (.inr (.inr ⟨rfl,rfl,rfl,rfl⟩))⟩
  refine ⟨L0,_,r3,_,rfl,rfl,Ss.of (b1.1 _ _ nL0 So),hat,_,_,rfl,rfl,?_⟩;rw [em];obtain ⟨a1,a2,a3,bs_,br,bm⟩:=cap.at;obtain ⟨CL,CC,CS,CT,e1,e2,e3,a4,ct1,ct3,mem,n1,n4⟩:=cap.tn;have b5:=b0.trans b1;refine Jvp ?_;refine Jyb (λσ H'=>σ= [some (.int c),some (.ref p),some (.int n),none,none,none,none,none,none]/\But p H1 H') (λR hR=>?_) ?_
  ·refine ⟨_,rfl,rfl,_,rfl,Si0 (λ_=>?_) (λ_=>hR _ _ ⟨rfl,b5⟩)⟩;refine ⟨_,rfl,p,6,rfl,b5.2,by decide,by decide,λr6 H5 _ _ b6=>⟨rfl,_,rfl,Si0 (λ_=>?_) (λ_=>hR _ _ ⟨rfl,b5.trans b6⟩)⟩⟩;have b56:=b5.trans b6;exact ⟨_,rfl,p,rfl,b6.2,λx R' H6 b7 rt rg rl=>k x R' p H6 hp (λy u e=>(b56.trans b7).1 _ _ (Jjm e hp) (s1 _ _ e)) (b56.trans b7).2 rt rg rl⟩
  rintro σ H5' ⟨rfl,b5'⟩;refine ⟨_,rfl,(show 4<=S6 by decide),λL1 hL1=>?_⟩;have c5:=b5'.same (Si.upd (o:=.lst [V.int 5,.int 3,.int 2,.int 2]) hL1);refine ⟨_,rfl,_,_,rfl,rfl,L1,_,_,_,rfl,rfl,Ss.of So,a2,p,cr,rfl,c5.2,by omega,Jlp (by omega),λcl H5 c0 c1 b6=>?_⟩;refine ⟨_,rfl,_,rfl,_,_,rfl,rfl,p,cl+1,rfl,b6.2,by omega,Jlp (by omega),λgn H6 g0 g1 b7=>?_⟩;refine ⟨_,rfl,_,rfl,p,n,rfl,b7.2,by omega,λl zs H7 hl b8 hl7 len nms=>?_⟩;have b57:=(c5.trans b6).trans (b7.trans b8);have nlp:l≠p:=b7.2.ne hl;refine ⟨_,rfl,l,rfl,⟨_,Ss.of hl7⟩,λD hD=>?_⟩;have nD:D≠p:=b57.2.ne hD;refine Jl3 (K:=K) (a:=l) (xs:=zs.map V.str) (D:=D) (λi σ H'=>∃(o:Option V) (bs:List V) (Bs:List Jlq),σ= [o,some (.ref p),some (.int n)]/\H' D=some (.lst bs)/\BTL p H' bs Bs/\Bs.length=i/\(∀B∈Bs,Jt3 B)/\(∀B∈Bs,Lgt cs cr cm B)/\Bs.map (·.z)=zs.take i/\But p H7 H') ?_ ?_ ?_ ?_
  ·exact ⟨_,[],[],rfl,So,True.intro,rfl,(λB hB=>absurd hB (by simp)),(λB hB=>absurd hB (by simp)),rfl,But.of b57.2 (Si.upd hD)⟩
  ·rintro i σ H' _ ⟨o,bs,Bs,rfl,_,_,_,_,_,_,b⟩;exact Ss.of (b.1 _ _ nlp hl7)
  ·rintro i x σ H' hx ⟨o,bs,Bs,rfl,hDs,btl,hln,good,lgt,names,b⟩;rw [ym] at hx;cases ez:zs[i]? with
   |none=>rw [ez] at hx;cases hx
   |some z=>
    rw [ez] at hx;cases hx;have hi:i < zs.length:=(yk.mp ez).1;refine Jkp ⟨_,rfl,_,rfl,_,rfl,p,z,n,cs,cr,cm,rfl,b.2,cap,λx B H8 b9 bt bg bz bl=>?_⟩;have btl8:=BTL.map (λx B _ h=>h.but b.2 b9) good btl;have hD8:=b9.1 _ _ nD hDs;have blen:=btl.len;refine ⟨bs,hD8,Jkc (by omega),_,bs++ [x],Bs++ [B],rfl,So,?_,by rw [yx];show Bs.length+1=i+1;omega,?_,?_,?_,(b.trans b9).updD hD nD⟩
    ·exact BTL.snoc (bt.put bg hD8 btl.refs) (BTL.map (λx B g h=>h.put g hD8 btl.refs) good btl8)
    ·intro B' hB';rcases ybb.mp hB' with h|h
     ·exact good B' h
     ·rw [yan.mp h];exact bg
    ·intro B' hB';rcases ybb.mp hB' with h|h
     ·exact lgt B' h
     ·rw [yan.mp h];exact bl
    ·rw [yam,names,yad,ez,List.map_singleton,bz];rfl
  rintro σ H8 ⟨o,bs,Bs,rfl,hDs,btl,hln,good,lgt,names,b9⟩;rw [yf] at hln names;rw [ycn] at names;have st8:Sb7 H8 p:=b9.2;have hl8:=b9.1 _ _ nlp hl7;refine ⟨(show 0<=S6 by decide),λlt hlt=>?_⟩;have nlt:lt≠p:=st8.ne hlt;have sA:=Si.upd (o:=.lst []) hlt;have bA:=But.of st8 sA;refine ⟨_,rfl,p,2,rfl,bA.2,by omega,λl2 ys HB hl2 bB hB len2 nms2=>?_⟩;have nl2:l2≠p:=bA.2.ne hl2;refine ⟨_,rfl,(show 4<=S6 by decide),λL4 hL4=>?_⟩;have cB:=bB.same (Si.upd (o:=.lst [V.int 3,.int 3,.int 2,.int 1]) hL4);refine ⟨_,rfl,_,_,rfl,rfl,L4,_,_,_,rfl,rfl,Ss.of So,a4,p,CT,rfl,cB.2,by omega,Jlp (by omega),λr4 HC r40 r41 bC=>⟨_,rfl,l2,_,rfl,Ss.of (bC.1 _ _ nl2 ((Si.upd hL4) _ _ hB)),λq hq=>?_⟩⟩;obtain ⟨us,eu,hus,ul4⟩:∃us:List Str,Jon (ys.map V.str) none (some r4)=us.map V.str/\us.Sublist ys/\us.length < CT:=by
   obtain ⟨k4,rfl⟩:=yce r40;refine ⟨ys.take k4,by rw [Y1 _ k4 (by rw [yf];omega),List.map_take],List.take_sublist _ _,?_⟩;rw [yaf];omega
  rw [eu];have bD:=(bA.trans cB).trans bC;have nq:q≠p:=bD.2.ne hq;have hltC:HC lt=some (.lst []):=bC.1 _ _ nlt (cB.1 _ _ nlt So);have nql:q≠lt:=λe=>by rw [e,hltC] at hq;cases hq
  have sq:=Si.upd (o:=.lst (us.map V.str)) hq;have ul:us.length<=3:=by
   have:=hus.length_le;omega
  refine ⟨q,rfl,⟨_,Ss.of So⟩,?_⟩;refine Jlr (xs:=us.map V.str) (λi σ H'=>∃(o:Option V) (ts:List V) (Ts:List Jn3),σ= [some (.int c),some (.ref p),some (.int n),some (.int cl),some (.int gn),some (.ref l),some (.ref D),some (.ref lt),o]/\H' lt=some (.lst ts)/\TTL H' ts Ts/\Ts.length=i/\Ts.map (·.z)=us.take i/\(∀B∈Ts,B.b∈zs/\1<=B.wt/\B.wt<=6)/\But p H8 H'/\H' q=some (.lst (us.map V.str))) ?_ ?_ ?_ ?_
  ·exact ⟨_,[],[],rfl,sq _ _ hltC,True.intro,rfl,rfl,λB hB=>absurd hB (by simp),bD.same sq,So⟩
  ·rintro i σ H' _ ⟨_,_,_,_,_,_,_,_,_,_,h⟩;exact Ss.of h
  ·rintro i x σ H' hx ⟨o,ts,Ts,rfl,hts,ttl,tln,tnm,tgd,b,hq'⟩;rw [ym] at hx;cases ez:us[i]? with
   |none=>rw [ez] at hx;cases hx
   |some u=>
    rw [ez] at hx;cases hx;have hi:i < us.length:=(yk.mp ez).1;have tlen:=ttl.len;refine ⟨_,rfl,.inl ⟨rfl,_,Ss.of hts⟩,_,rfl,_,rfl,_,rfl,_,rfl,p,n,rfl,b.2,by omega,Jlp (by omega),λr5 HE e0 e1 bE=>?_⟩;have hr5:r5.toNat < zs.length:=by omega
    refine ⟨l,_,r5,.str zs[r5.toNat],rfl,rfl,Ss.of (bE.1 _ _ nlp (b.1 _ _ nlp hl8)),Jwf (j:=r5.toNat) (by omega) (by rw [ym,yj hr5];rfl),?_⟩;refine ⟨_,rfl,p,3,rfl,bE.2,by decide,by decide,λr6 HF f0 f1 bF=>⟨_,_,rfl,rfl,(show 3<=S6 by decide),λt ht=>?_⟩⟩;have bG:=bE.trans bF;have htsF:=bG.1 _ _ nlt hts;have sT:=Si.upd (o:=.tup [.str u,.str zs[r5.toNat],.int (1+r6)]) ht;refine ⟨lt,_,_,rfl,rfl,sT _ _ htsF,Jkc (by omega),?_⟩;refine ⟨_,ts++ [.ref t],Ts++ [⟨u,zs[r5.toNat],1+r6⟩],rfl,So,?_,by rw [yx];show Ts.length+1=i+1;omega,?_,?_,((b.trans bG).same sT).updD hlt nlt,?_⟩
    ·refine TTL.snoc ?_ (TTL.map (λx B h=>(((h.but b.2 bG).same sT).put (sT _ _ htsF))) ttl);exact Sd4.put (sT _ _ htsF) ⟨t,rfl,So⟩
    ·rw [yam,tnm,yad,ez];rfl
    ·intro B hB;rcases ybb.mp hB with h|h
     ·exact tgd B h
     ·rw [yan.mp h];exact ⟨ybn hr5,by dsimp only;omega,by dsimp only;omega⟩
    ·rw [Sy nql];exact sT _ _ (bG.1 _ _ nq hq')
  ·rintro σ HZ ⟨o,ts,Ts,rfl,hts,ttl,tln,tnm,tgd,b,_⟩;rw [yf] at tln tnm;rw [ycn] at tnm;refine ⟨_,rfl,_,rfl,_,rfl,_,rfl,(show 4<=S6 by decide),λt ht=>?_⟩;have sT:=Si.upd (o:=.tup [.int cl,.int gn,.ref D,.ref lt]) ht;have bZ:=((b57.trans b9).trans b).same sT;refine k (.ref t) ⟨cl,gn,Bs,Ts⟩ p _ hp (λx u e=>bZ.1 _ _ (Jjm e hp) (s1 _ _ e)) bZ.2 ⟨t,D,lt,bs,ts,rfl,So,sT _ _ (b.1 _ _ nD hDs),BTL.map (λx B _ h=>(h.but st8 b).same sT) good btl,sT _ _ hts,TTL.map (λx B h=>h.same sT) ttl,nD,nlt⟩ ?_ ?_
   ·refine ⟨by dsimp only;omega,by dsimp only;omega,by dsimp only;omega,λB hB=>⟨good B hB,nms.2 _ (by rw [<-names];exact yba hB)⟩,by dsimp only;rw [names];exact nms.1,by dsimp only;omega,λB hB=>?_,?_⟩
    ·have hu:B.z∈us:=by rw [<-tnm];exact yba hB
     have h1:=nms2.2 _ (hus.subset hu);have h2:=tgd B hB;exact ⟨h1.1,h1.2,by dsimp only;rw [names];exact h2.1,h2.2⟩
    ·dsimp only;rw [tnm];exact hus.nodup nms2.1
   ·exact ⟨n,CL,CC,CS,CT,CC,mem,by dsimp only;omega,by dsimp only;omega,by dsimp only;omega,by rw [<-e1,<-e2,<-e3];exact lgt⟩
noncomputable def nOf (G:Jl9):Nat:=match G.sv with
 |some _=>1
 |none=>G.ns.length
inductive GX (a:Ad) (H:Hp) (x:V) (G:Jl9):Prop where
 |mk (g:S1) (_:Sd1 (cOf a G.kd) H g (G.ns.map V.int)) (_:match G.sv with|none=>x= .ref g|some j=>∃s dx,x= .ref s/\H s=some (.ins a.Jj7 dx [("gate",.ref g),("setting",.int j)]))
theorem GX.same {a:Ad} {H H':Hp} {x:V} {G:Jl9} (s:Si H H') (h:GX a H x G):GX a H' x G:=by
 obtain ⟨g,ga,r⟩:=h;refine ⟨g,ga.same s,?_⟩;cases e:G.sv with
 |none=>rw [e] at r;exact r
 |some j=>
  rw [e] at r;obtain ⟨q,dx,r1,r2⟩:=r;exact ⟨q,dx,r1,s _ _ r2⟩
theorem GX.gs {K:Sd} {a:Ad} {H:Hp} {x:V} {G:Jl9} (gg:Sd7 G) (h:GX a H x G):GS K a H x (nOf G):=by
 obtain ⟨g,ga,r⟩:=h;unfold nOf;cases e:G.sv with
 |none=>
  rw [e] at r;subst r;have q:=GS.plain (K:=K) Jzv ga (by rw [yf];exact gg.len.2);rw [yf] at q;exact q
 |some j=>
  rw [e] at r;obtain ⟨q,dx,rfl,r2⟩:=r;exact .stuck r2
inductive Yai (a:Ad) (b:Nat) (vs:List V) (H:Hp) (Q:VK) (z3:XK):Prop where
 |mk (p:S1) (x:V) (G:Jl9) (_:vs= [x]) (_:Scu p H x G) (_:Sd7 G) (_:1<=b) (_:(G.sv=none\/2<=b)) (_:∀(g:V) (H':Hp),Si H H'->GX a H' g G->Q g H')
inductive Svk (K:Sd) (a:Ad) (vs:List V) (H:Hp) (Q:VK) (z3:XK):Prop where
 |mk (p:S1) (x:V) (G:Jl9) (_:vs= [x]) (_:Scu p H x G) (_:Sd7 G) (_:∀(g:V) (H':Hp),Si H H'->GX a H' g G->Q g H')
theorem Juy {H:Hp} {ns:List Int} {y:V} (h:y∈ns.map V.int):Tm K H y:=by
 obtain ⟨i,_,rfl⟩:=yab.mp h;exact .inl ⟨i,rfl⟩
theorem Jrx {C:S1} {lo:Int} {x:V} {H:Hp} {Q1:Hp->Prop} {E:XK} {g dx:S1} (c:Cls K C) (n:NoAttr K C "marks") (hg:H g=none) (hd:H dx=none) (ne:dx≠g)
  (h:∃xs,Sq H x xs/\(∀y∈xs,Tm K H y)/\Jnt lo xs=true/\∀H',Si H H'->Sd1 C H' g xs->Q1 H'):
  Jux K a lo [.ref g,x] (upd (upd H dx (.own g)) g (.ins C dx [])) (λv H2=>v= .non/\Q1 H2) E:=by
 have s1:Si H (upd (upd H dx (.own g)) g (.ins C dx [])):=λb o e=>by rw [Sy (Jjm e hg),Sy (Jjm e hd)];exact e
 refine ⟨g,C,dx,x,rfl,So,c,n,?_⟩;obtain ⟨xs,sq,tms,e,k⟩:=h;refine .inl ⟨xs,sq.same s1,λy hy=>(tms y hy).same s1,e,λt H' s' ht=>⟨rfl,?_⟩⟩;have ng:t≠g:=Sk2 ht (s' _ _ So) (by intro z;cases z);exact k _ (λb o e=>by rw [Sy (Jjm e hg)];exact s' _ _ (s1 _ _ e)) ⟨dx,t,So,by rw [Sy ng];exact ht⟩
theorem Jqn:Jjp ["_law_told"] ["_law_told"] (Jjl (top 95)):=%[|0]
theorem Jmu (T:Tx K mg a) (b:Nat) (Sbe:Sr P w K mg base CX0 (5+b) a.Jhz a.Ji0 ["_law_told"] (Yai a b)):Sr P w K mg base CX0 (5+b+1) a.Jhz a.Ji0 ["_law_told"] (Yai a (b+1)):=by
 have Scx:=%[Jqb|1];have Scv:=%[Jq9|1];have Scw:=%[Jqa|1];have Sci:=%[Jpi|1];refine %[T.Ja7.fn.ok,Jqn|2]
 ·obtain ⟨p,x,G,rfl,_⟩:=h;rfl
 ·obtain ⟨p,x,⟨kd,ns,sv⟩,rfl,⟨t,m,rfl,hm,nm,hc⟩,gg,hb1,hb2,k⟩:=h;refine ⟨?t,?B,?C⟩
  case B=>
   refine' Sx ?O0 ?O1
   case O0=>
    refine' Jk4 ?O2 ?O3 ?O4
    case O2=>exact (Jkj Jn8 (Jjn Jjr (by rfl) T.Jay Jkh (Sj (pv 0) Sl)) Sn (Jkn _))
    case O3=>
     refine' Jjj ?O5
     case O5=>exact (Jjo (Jnd T.Jd9 Sci.calm (hr.mono (by omega)) (by rfl) T.Jbk T.Jcj.bd .nil Jox (Sj (Jji T.Ja7 Sbe hr (yg _) (Sj (Jkw (Sj (Jjx Jka (pv 0) Sn (λ_ _=>rfl)) (Sj (Jjx Jka (pv 0) Sn (λ_ _=>rfl)) Sl))) Sl)) (Sj (Jjx Jka (pv 0) Sn (λ_ _=>rfl)) Sl))))
    case O4=>exact Jjs
   case O1=>
   refine' Sx ?O6 ?O7
   case O6=>
    refine' Jk4 ?O8 ?O9 ?Oa
    case O8=>exact (Jkj Jn8 (Jjx Jka (pv 0) Sn (λ_ _=>rfl)) Jlu (Jkn _))
    case O9=>
     refine' Jjj ?Ob
     case Ob=>exact (Jjo (Jnd T.Jcx Scx.calm (hr.mono (by omega)) (by rfl) T.Jbh T.Jcd.bd .nil Jox (Sj (Jkk Jmf (by rfl) T.Jaz Jlg (Sj (Jjx Jka (pv 0) Sn (λ_ _=>rfl)) Sl)) Sl)))
    case Oa=>exact Jjs
   case O7=>
   refine' Sx ?Oc ?Od
   case Oc=>
    refine' Jk4 ?Oe ?Of ?Og
    case Oe=>exact (Jkj Jn8 (Jjx Jka (pv 0) Sn (λ_ _=>rfl)) Jlu (Jkn _))
    case Of=>
     refine' Jjj ?Oh
     case Oh=>exact (Jjo (Jnd T.Jd1 Scv.calm (hr.mono (by omega)) (by rfl) T.Jbi T.Jcf.bd .nil Jox (Sj (Jkk Jmf (by rfl) T.Jaz Jlg (Sj (Jjx Jka (pv 0) Sn (λ_ _=>rfl)) Sl)) Sl)))
    case Og=>exact Jjs
   case Od=>
   refine' Jjj ?Oi
   case Oi=>exact (Jjo (Jnd T.Jd5 Scw.calm (hr.mono (by omega)) (by rfl) T.Jbj T.Jch.bd .nil Jox (Sj (Jkk Jmf (by rfl) T.Jaz Jlg (Sj (Jjx Jka (pv 0) Sn (λ_ _=>rfl)) Sl)) Sl)))
  have hkd:Knd kd:=gg.kd;have har:Jnt (Jnz kd) (ns.map V.int)=true:=gg.ns;have hsv:∀i,sv=some i->0<=i/\i < (ns.length:Int):=gg.sv;have hlen:=gg.len;dsimp only at hc hlen;rcases hc with ⟨rfl,ht⟩|⟨j,m2,rfl,ht,hm2,nm2⟩
  ·have hm':H m=some (.lst (ns.map V.int)):=hm;refine ⟨_,rfl,t,_,rfl,.inr (SqT.of ht),rfl,_,rfl,Jvj (λz=>absurd (V.int.inj z) (show (2:Int)≠4 by decide)) ?_⟩;rcases hkd with rfl|rfl|rfl
   ·have e1:Jnz "step" =0:=if_neg Spl;have e2:cOf a "step" =a.Jj4:=if_pos rfl;have hr':Jnt (0) (ns.map V.int)=true:=by rw [<-e1];exact har
    refine ⟨_,rfl,t,_,0,_,rfl,rfl,SqT.of ht,rfl,rfl,_,rfl,Jws rfl ⟨_,rfl,t,_,1,_,rfl,rfl,SqT.of ht,rfl,m,_,rfl,.inl (Ss.of hm'),λl hl g dx hg hd ne=>Jrx T.Jcv T.Jdo hg hd ne ⟨ns.map V.int,.lst So,λy hy=>Juy hy,hr',λH' s' ga=>?_⟩⟩⟩;exact k _ _ ((Si.upd hl).trans s') ⟨g,by rw [e2];exact ga,rfl⟩
   ·have e1:Jnz "flap" =0:=if_neg Spk;have e2:cOf a "flap" =a.Jj5:=by unfold cOf;rw [if_neg Sk1,if_pos rfl]
    have hr':Jnt (0) (ns.map V.int)=true:=by rw [<-e1];exact har
    refine ⟨_,rfl,t,_,0,_,rfl,rfl,SqT.of ht,rfl,rfl,_,rfl,Jvj (Sn4 Sk1) ⟨_,rfl,t,_,0,_,rfl,rfl,SqT.of ht,rfl,rfl,_,rfl,Jws rfl ⟨_,rfl,t,_,1,_,rfl,rfl,SqT.of ht,rfl,m,_,rfl,.inl (Ss.of hm'),λl hl g dx hg hd ne=>Jrx T.Jcz T.Jdp hg hd ne ⟨ns.map V.int,.lst So,λy hy=>Juy hy,hr',λH' s' ga=>?_⟩⟩⟩⟩;exact k _ _ ((Si.upd hl).trans s') ⟨g,by rw [e2];exact ga,rfl⟩
   ·have e1:Jnz "part" =1:=if_pos rfl;have e2:cOf a "part" =a.Jj6:=by unfold cOf;rw [if_neg Sk4,if_neg Sk3]
    have hr':Jnt (1) (ns.map V.int)=true:=by rw [<-e1];exact har
    refine ⟨_,rfl,t,_,0,_,rfl,rfl,SqT.of ht,rfl,rfl,_,rfl,Jvj (Sn4 Sk4) ⟨_,rfl,t,_,0,_,rfl,rfl,SqT.of ht,rfl,rfl,_,rfl,Jvj (Sn4 Sk3) ⟨_,rfl,t,_,1,_,rfl,rfl,SqT.of ht,rfl,m,_,rfl,.inl (Ss.of hm'),λl hl g dx hg hd ne=>Jrx T.Jd3 T.Jdq hg hd ne ⟨ns.map V.int,.lst So,λy hy=>Juy hy,hr',λH' s' ga=>?_⟩⟩⟩⟩;exact k _ _ ((Si.upd hl).trans s') ⟨g,by rw [e2];exact ga,rfl⟩
  ·have hj:=hsv j rfl;have b1:1<=b:=by
    rcases hb2 with h|h
    ·cases h
    ·omega
   refine ⟨_,rfl,t,_,rfl,.inr (SqT.of ht),rfl,_,rfl,Jws rfl ?_⟩;refine ⟨_,rfl,t,_,0,_,rfl,rfl,SqT.of ht,rfl,_,rfl,t,_,2,_,rfl,rfl,SqT.of ht,rfl,(show 2<=S6 by decide),λq hq=>?_⟩;have sq:=Si.upd (o:=.tup [.str kd,.ref m2]) hq;refine ⟨p,_,⟨kd,ns,none⟩,rfl,⟨q,m2,rfl,sq _ _ hm2,nm2,.inl ⟨rfl,So⟩⟩,⟨hkd,har,λ_ z=>by cases z⟩,b1,.inl rfl,λgv H1 s1 gx=>?_⟩;obtain ⟨g,ga,rfl⟩:=gx;have s01:=sq.trans s1;have gs:GS K a H1 (.ref g) ns.length:=by
    have q:=GS.plain (K:=K) Jzv ga (by rw [yf];exact hlen.2);rw [yf] at q;exact q
   refine ⟨_,rfl,t,_,3,_,rfl,rfl,SqT.of (s01 _ _ ht),rfl,λx dx hx hdx ne=>?_⟩;have sn:Si H1 (upd (upd H1 dx (.own x)) x (.ins a.Jj7 dx [])):=λb o e=>by rw [Sy (Jjm e hx),Sy (Jjm e hdx)];exact e
   refine ⟨x,dx,_,.int j,rfl,So,.inr (.inr ⟨ns.length,gs.same sn,.inl ⟨j,rfl⟩,by simp [Jjw];omega,rfl,?_⟩)⟩;have sx:Si H1 (upd (upd (upd H1 dx (.own x)) x (.ins a.Jj7 dx [])) x (.ins a.Jj7 dx [("gate",.ref g),("setting",.int j)])):=by
    rw [Jm8];exact λb o e=>by rw [Sy (Jjm e hx),Sy (Jjm e hdx)];exact e
   exact k _ _ (s01.trans sx) ⟨g,ga.same sx,x,dx,rfl,So⟩
theorem Jqc (T:Tx K mg a):Sr P w K mg base CX0 7 a.Jhz a.Ji0 ["_law_told"] (Svk K a):=by
 have h0:Sr P w K mg base CX0 (5+0) a.Jhz a.Ji0 ["_law_told"] (Yai a 0):=by
  refine ⟨λvs H Q E h=>?_,λA outer s H args us vs Q E hr he hb hv h=>?_⟩ <;>
  ·obtain ⟨_,_,_,_,_,_,z,_⟩:=h;exact absurd z (by omega)
 refine (Jmu T 1 (Jmu T 0 h0)).imp λvs H Q E h=>?_;obtain ⟨p,x,G,e,gt,gg,k⟩:=h;exact ⟨p,x,G,e,gt,gg,by omega,.inr (by omega),k⟩
theorem GS.put {K:Sd} {a:Ad} {H:Hp} {x:V} {n:Nat} {D:S1} {bs:List V} {o:HO} (hD:H D=some (.lst bs)) (h:GS K a H x n):GS K a (upd H D o) x n:=by
 cases h with
 |plain i g l=>
  obtain ⟨dx,t,h1,h2⟩:=g;exact .plain i ⟨dx,t,by rw [Sy (λz=>by rw [z,hD] at h1;cases h1)];exact h1,by rw [Sy (λz=>by rw [z,hD] at h2;cases h2)];exact h2⟩ l
 |stuck e=>exact .stuck (by rw [Sy (λz=>by rw [z,hD] at e;cases e)];exact e)
theorem Sc6.put {K:Sd} {a:Ad} {H:Hp} {b D:S1} {B:Bsn} {bs:List V} {o:HO} (hD:H D=some (.lst bs)) (h:Sc6 K a H b B):Sc6 K a (upd H D o) b B:=by
 obtain ⟨dx,h1,h2⟩:=h;exact ⟨dx,by rw [Sy (λz=>by rw [z,hD] at h1;cases h1)];exact h1,h2.put hD⟩
theorem Sbm.map {K:Sd} {a:Ad} {H H':Hp} (f:∀x B,Sc6 K a H x B->Sc6 K a H' x B):∀{xs:List S1} {Bs:List Bsn},Sbm K a H xs Bs->Sbm K a H' xs Bs:=by
 intro xs
 induction xs with
 |nil=>
  intro Bs h;cases Bs with
  |nil=>exact True.intro
  |cons B Bs=>exact False.elim h
 |cons x xs ih=>
  intro Bs h;cases Bs with
  |nil=>exact False.elim h
  |cons B Bs=>exact ⟨f _ _ (yas h),ih (yao h)⟩
theorem Sbm.snoc {K:Sd} {a:Ad} {H:Hp} {x:S1} {B:Bsn} (h:Sc6 K a H x B):∀{xs:List S1} {Bs:List Bsn},Sbm K a H xs Bs->Sbm K a H (xs++ [x]) (Bs++ [B]):=by
 intro xs
 induction xs with
 |nil=>
  intro Bs q;cases Bs with
  |nil=>exact ⟨h,True.intro⟩
  |cons B Bs=>exact False.elim q
 |cons x xs ih=>
  intro Bs q;cases Bs with
  |nil=>exact False.elim q
  |cons B Bs=>exact ⟨yas q,ih (yao q)⟩
theorem Sc8.put {a:Ad} {H:Hp} {b D:S1} {B:Twn} {bs:List V} {o:HO} (hD:H D=some (.lst bs)) (h:Sc8 a H b B):Sc8 a (upd H D o) b B:=by
 obtain ⟨dx,h1⟩:=h;exact ⟨dx,by rw [Sy (λz=>by rw [z,hD] at h1;cases h1)];exact h1⟩
theorem Sc3.map {a:Ad} {H H':Hp} (f:∀x B,Sc8 a H x B->Sc8 a H' x B):∀{xs:List S1} {Bs:List Twn},Sc3 a H xs Bs->Sc3 a H' xs Bs:=by
 intro xs
 induction xs with
 |nil=>
  intro Bs h;cases Bs with
  |nil=>exact True.intro
  |cons B Bs=>exact False.elim h
 |cons x xs ih=>
  intro Bs h;cases Bs with
  |nil=>exact False.elim h
  |cons B Bs=>exact ⟨f _ _ (yas h),ih (yao h)⟩
theorem Sc3.snoc {a:Ad} {H:Hp} {x:S1} {B:Twn} (h:Sc8 a H x B):∀{xs:List S1} {Bs:List Twn},Sc3 a H xs Bs->Sc3 a H (xs++ [x]) (Bs++ [B]):=by
 intro xs
 induction xs with
 |nil=>
  intro Bs q;cases Bs with
  |nil=>exact ⟨h,True.intro⟩
  |cons B Bs=>exact False.elim q
 |cons x xs ih=>
  intro Bs q;cases Bs with
  |nil=>exact False.elim q
  |cons B Bs=>exact ⟨yas q,ih (yao q)⟩
theorem BTL.get {p:S1} {H:Hp}:∀{xs:List V} {Bs:List Jlq} {i:Nat} {x:V},BTL p H xs Bs->xs[i]?=some x->∃B,Bs[i]?=some B/\Sct p H x B:=by
 intro xs
 induction xs with
 |nil=>intro Bs i x h e;simp at e
 |cons x xs ih=>
  intro Bs i y h e;cases Bs with
  |nil=>exact False.elim h
  |cons B Bs=>
   cases i with
   |zero=>cases e;exact ⟨B,rfl,yas h⟩
   |succ i=>exact @ih Bs i _ (yao h) (by simpa using e)
theorem TTL.get {H:Hp}:∀{xs:List V} {Bs:List Jn3} {i:Nat} {x:V},TTL H xs Bs->xs[i]?=some x->∃B,Bs[i]?=some B/\Sd4 H x B:=by
 intro xs
 induction xs with
 |nil=>intro Bs i x h e;simp at e
 |cons x xs ih=>
  intro Bs i y h e;cases Bs with
  |nil=>exact False.elim h
  |cons B Bs=>
   cases i with
   |zero=>cases e;exact ⟨B,rfl,yas h⟩
   |succ i=>exact @ih Bs i _ (yao h) (by simpa using e)
theorem GX.put {a:Ad} {H:Hp} {x:V} {G:Jl9} {D:S1} {bs:List V} {o:HO} (hD:H D=some (.lst bs)) (h:GX a H x G):GX a (upd H D o) x G:=by
 obtain ⟨g,⟨dx,t,h1,h2⟩,r⟩:=h;refine ⟨g,⟨dx,t,by rw [Sy (λz=>by rw [z,hD] at h1;cases h1)];exact h1,by rw [Sy (λz=>by rw [z,hD] at h2;cases h2)];exact h2⟩,?_⟩;cases e:G.sv with
 |none=>rw [e] at r;exact r
 |some j=>
  rw [e] at r;obtain ⟨q,dx,r1,r2⟩:=r;exact ⟨q,dx,r1,by rw [Sy (λz=>by rw [z,hD] at r2;cases r2)];exact r2⟩
noncomputable def GXL (a:Ad) (H:Hp):List V->List Jl9->Prop
 | [],[]=>True
 |x::xs,G::Gs=>GX a H x G/\GXL a H xs Gs
 |_,_=>False
theorem GXL.map {a:Ad} {H H':Hp} (f:∀x G,GX a H x G->GX a H' x G):∀{xs:List V} {Gs:List Jl9},GXL a H xs Gs->GXL a H' xs Gs:=by
 intro xs
 induction xs with
 |nil=>
  intro Bs h;cases Bs with
  |nil=>exact True.intro
  |cons B Bs=>exact False.elim h
 |cons x xs ih=>
  intro Bs h;cases Bs with
  |nil=>exact False.elim h
  |cons B Bs=>exact ⟨f _ _ (yas h),ih (yao h)⟩
theorem GXL.snoc {a:Ad} {H:Hp} {x:V} {G:Jl9} (h:GX a H x G):∀{xs:List V} {Gs:List Jl9},GXL a H xs Gs->GXL a H (xs++ [x]) (Gs++ [G]):=by
 intro xs
 induction xs with
 |nil=>
  intro Bs q;cases Bs with
  |nil=>exact ⟨h,True.intro⟩
  |cons B Bs=>exact False.elim q
 |cons x xs ih=>
  intro Bs q;cases Bs with
  |nil=>exact False.elim q
  |cons B Bs=>exact ⟨yas q,ih (yao q)⟩
theorem GXL.same {a:Ad} {H H':Hp} {xs:List V} {Gs:List Jl9} (s:Si H H') (h:GXL a H xs Gs):GXL a H' xs Gs:=h.map λ_ _ h=>h.same s
noncomputable def Jv8 (B:Bsn):Str×Int×Int×Int×Int×Nat:=(B.z,B.lo,B.hi,B.st,B.rn,B.n)
noncomputable def Jw6 (B:Jlq):Str×Int×Int×Int×Int×Nat:=(B.z,B.lo,B.hi,B.st,B.rn,nOf B.G)
structure Jtv (R:Jlw) (S:Riv):Prop where
 c:S.c=R.c
 g:S.g=R.g
 Bs:S.Bs.map Jv8=R.Bs.map Jw6
 Ts:S.Ts.map (λB=>(B.z,B.b,B.wt))=R.Ts.map (λB=>(B.z,B.b,B.wt))
inductive Ycl (K:Sd) (a:Ad) (vs:List V) (H:Hp) (Q:VK) (z3:XK):Prop where
 |mk (p:S1) (x:V) (R:Jlw) (_:vs= [x]) (_:Seh p H x R) (_:Jpe R) (_:∀(o:S1) (S:Riv) (H':Hp),Si H H'->Sb4 K a H' o S->Jtv R S->GXL a H' (S.Bs.map (·.g)) (R.Bs.map (·.G))->Q (.ref o) H')
theorem GS.gti {H:Hp} {x:V} {n:Nat} (T:Tx K mg a) (g:GS K a H x n):GtI K a H x true:=by
 cases g with
 |plain i ga l=>
  obtain ⟨dx,t,h1,h2⟩:=ga;rcases i with rfl|rfl|rfl
  ·exact ⟨_,.of (T.Jcw.ty T.Jcv h1),T.Je7,T.Jeh,_,T.Jed,λ_=>rfl,by intro w';cases w'⟩
  ·exact ⟨_,.of (T.Jd0.ty T.Jcz h1),T.Je8,T.Jei,_,T.Jee,λ_=>rfl,by intro w';cases w'⟩
  ·exact ⟨_,.of (T.Jd4.ty T.Jd3 h1),T.Je9,T.Jej,_,T.Jef,λ_=>rfl,by intro w';cases w'⟩
 |stuck h1=>exact ⟨_,.of (T.Jd8.ty T.Jd7 h1),T.Jea,T.Jek,_,T.Jeg,λ_=>rfl,by intro w';cases w'⟩
theorem Jwx {H:Hp} {z:Str} (h:Ltr 8 z):Nmd K H (.str z):=⟨.inr ⟨_,.of (.str z),rfl⟩,λy e=>by cases e;exact ⟨yae h.len (by omega),h.wd.low⟩⟩
theorem Sae:Jjp ["_law_told","_law_basins","_law_name","_law_low","_law_high","_law_start","_law_rain","_law_gate_here"] ["_law_told"] (Jjl (top 96)):=%[|0]
theorem Jvu (T:Tx K mg a):Sr P w K mg base CX0 8 a.Ji1 a.Ji2 ["_law_told"] (Ycl K a):=by
 have Sbe:=%[Jqc|1];have Sdh:=%[Jss|1];have Sdr:=%[Jud|1];have Sdi:=%[Jst|1];refine %[T.Ja8.fn.ok,Sae|2]
 ·obtain ⟨p,x,R,rfl,_⟩:=h;rfl
 ·obtain ⟨p,x,R,rfl,⟨t,lb,lt,bs,ts,rfl,ht,hb,btl,htt,ttl,_,_⟩,rg,k⟩:=h;refine ⟨?t,?B,?C⟩
  case B=>
   refine' Sx ?O0 ?O1
   case O0=>exact (Jjt (i:=1) Sae.nd rfl (ye rfl) (Jki Sl))
   case O1=>
   refine' Sx ?O2 ?O3
   case O2=>
    refine' Jlm ?O4 ?O5 ?O6 ?O7 ?O8
    case O4=>exact PassesOwn.never
    case O5=>exact rfl
    case O6=>exact (Jkm (Jjx Jka (pv 0) Sn (λ_ _=>rfl)))
    case O7=>exact (Jqg rfl (Jk3 (Jjq (i:=2) Sae.nd rfl (ye rfl)) (Jk3 (Jjq (i:=3) Sae.nd rfl (ye rfl)) (Jk3 (Jjq (i:=4) Sae.nd rfl (ye rfl)) (Jk3 (Jjq (i:=5) Sae.nd rfl (ye rfl)) (Jk3 (Jjq (i:=6) Sae.nd rfl (ye rfl)) (Jk3 (Jjq (i:=7) Sae.nd rfl (ye rfl)) Jlv)))))))
    case O8=>
    refine' Jjj ?O9
    case O9=>exact (Jlh (Jpn F.plainAttrs_list F.slot_list_append F.type_list_append Jn7 (pv 1) (Sj (Jnd T.Jdd Sdh.calm (hr.mono (by decide)) (by rfl) T.Jbl T.Jcl.bd .nil Jox (pa6 (pv 2) (pv 3) (pv 4) (pv 5) (pv 6) (Jji T.Ja7 Sbe hr (by decide) (Sj (pv 7) Sl)))) Sl)))
   case O3=>
   refine' Jjj ?Oa
   case Oa=>
   refine' Jjo ?Ob
   case Ob=>exact (Jnd T.Jdi Sdi.calm (hr.mono (by decide)) (by rfl) T.Jbn T.Jcn.bd .nil Jox (pa4 (Jjx Jka (pv 0) Sn (λ_ _=>rfl)) (Jjx Jka (pv 0) Sn (λ_ _=>rfl)) (pv 1) (Jk2 (N:=(["_law_name","_law_basin_here","_law_want"]:List Str)) (ini:=[none,none,none]) rfl (Jkm (Jjx Jka (pv 0) Sn (λ_ _=>rfl))) (λ_ _ _ _ _=>(Jol (K:=K) (n:=3) rfl rfl (Jk3 (Jjq (i:=0) (by decide +kernel:(["_law_name","_law_basin_here","_law_want"]:List Str).Nodup) rfl (ye rfl)) (Jk3 (Jjq (i:=1) (by decide +kernel:(["_law_name","_law_basin_here","_law_want"]:List Str).Nodup) rfl (ye rfl)) (Jk3 (Jjq (i:=2) (by decide +kernel:(["_law_name","_law_basin_here","_law_want"]:List Str).Nodup) rfl (ye rfl)) Jlv))))) (λ_ _ _ _ _=>Jk1) (λ_ _ _ _ _=>(Jnd T.Jdg Sdr.calm (hr.mono (by decide)) (by rfl) T.Jbm T.Jcm.bd .nil Jox (Sj (pv 0) (Sj (pv 1) (Sj (pv 2) Sl))))))))
  refine ⟨(show 0<=S6 by decide),λnb hnb=>?_⟩;have s0:=Si.upd (o:=.lst []) hnb;refine ⟨_,rfl,t,_,2,_,rfl,rfl,SqT.of (s0 _ _ ht),rfl,lb,rfl,⟨_,Ss.of (s0 _ _ hb)⟩,?_⟩;have blen:=btl.len;refine Jlr (xs:=bs) (λi σ H'=>∃(o1 o2 o3 o4 o5 o6:Option V) (os:List S1) (Bs:List Bsn),σ= [some (.ref t),some (.ref nb),o1,o2,o3,o4,o5,o6]/\H' nb=some (.lst (os.map V.ref))/\Sbm K a H' os Bs/\Bs.length=i/\Bs.map Jv8=(R.Bs.take i).map Jw6/\GXL a H' (Bs.map (·.g)) ((R.Bs.take i).map (·.G))/\Si H H') ?_ ?_ ?_ ?_
  ·exact ⟨_,_,_,_,_,_,[],[],rfl,So,True.intro,rfl,rfl,True.intro,s0⟩
  ·rintro i σ H' _ ⟨_,_,_,_,_,_,_,_,_,_,_,_,_,_,sm⟩;exact Ss.of (sm _ _ hb)
  ·rintro i x σ H' hx ⟨o1,o2,o3,o4,o5,o6,os,Bs,rfl,hnbs,bl,bln,bkey,gxl,sm⟩;obtain ⟨B,eB,⟨tb,g,rfl,htb,gt⟩⟩:=btl.get hx;have hB:B∈R.Bs:=yv eB;obtain ⟨bg,bnm,blt⟩:=rg.Bs B hB;have olen:=bl.len;have hi:i < R.Bs.length:=(yk.mp eB).1;have hn:=rg.n;refine ⟨tb,_,rfl,SqT.of (sm _ _ htb),rfl,_,_,rfl,_,_,rfl,_,_,rfl,_,_,rfl,_,_,rfl,_,_,rfl,rfl,?_⟩;refine ⟨_,rfl,.inl ⟨rfl,_,Ss.of hnbs⟩,_,rfl,_,rfl,_,rfl,_,rfl,_,rfl,_,rfl,p,g,B.G,rfl,gt.same sm,bg.G,λgv H1 s1 gx=>?_⟩;have gs:GS K a H1 gv (nOf B.G):=gx.gs bg.G;intro x dx hx1 hd1 ne;have sn:Si H1 (upd (upd H1 dx (.own x)) x (.ins a.Jj8 dx [])):=λb o e=>by rw [Sy (Jjm e hx1),Sy (Jjm e hd1)];exact e
   refine ⟨x,dx,.str B.z,.int B.lo,.int B.hi,.int B.st,.int B.rn,gv,true,none,rfl,So,Jwx blt,.inl ⟨_,rfl⟩,.inl ⟨_,rfl⟩,.inl ⟨_,rfl⟩,.inl ⟨_,rfl⟩,(gs.gti T).same sn,.good B.lo B.hi bnm rfl rfl (Jms bg.lo.1 bg.lo.2) (Jms bg.hi.1 bg.hi.2) (Jms bg.st.1 bg.st.2) (Jms bg.rn.1 bg.rn.2) rfl,λH2 s2=>⟨rfl,?_⟩⟩;have s3:Si H1 (upd H2 x (.ins a.Jj8 dx (Sl8 (.str B.z) (.int B.lo) (.int B.hi) (.int B.st) (.int B.rn) gv))):=λb o e=>by rw [Sy (Jjm e hx1)];exact s2 _ _ (sn _ _ e)
   have s13:=s1.trans s3;have hnb3:=s13 _ _ hnbs;refine ⟨nb,_,_,rfl,rfl,hnb3,by rw [yf];exact Jkc (by omega),?_⟩;refine ⟨_,_,_,_,_,_,os++ [x],Bs++ [⟨B.z,B.lo,B.hi,B.st,B.rn,gv,nOf B.G⟩],rfl,by rw [So,yam];rfl,?_,by rw [yx];show Bs.length+1=i+1;omega,?_,?_,?_⟩
   ·exact Sbm.snoc (Sc6.put hnb3 ⟨dx,So,gs.same s3⟩) (Sbm.map (λx B h=>(h.same s13).put hnb3) bl)
   ·rw [yam,bkey,yad,eB,yam];rfl
   ·rw [yam,yad,eB,yam];exact GXL.snoc (GX.put hnb3 (gx.same s3)) (GXL.map (λx G h=>(h.same s13).put hnb3) gxl)
   ·intro b o e;rw [Sy (Jjm e hnb)];exact s13 _ _ (sm _ _ e)
  ·rintro σ H1 ⟨o1,o2,o3,o4,o5,o6,os,Bs,rfl,hnbs,bl,bln,bkey,gxl,sm⟩;rw [yaj (by omega)] at bkey gxl;refine ⟨_,rfl,t,_,0,_,rfl,rfl,SqT.of (sm _ _ ht),rfl,?_⟩;refine ⟨_,rfl,t,_,1,_,rfl,rfl,SqT.of (sm _ _ ht),rfl,?_⟩;refine ⟨_,rfl,_,rfl,t,_,3,_,rfl,rfl,SqT.of (sm _ _ ht),rfl,lt,rfl,⟨_,Ss.of (sm _ _ htt)⟩,λD hD=>?_⟩;have tlen:=ttl.len;refine Jl3 (K:=K) (a:=lt) (xs:=ts) (D:=D) (λi σ H'=>∃(o1 o2 o3:Option V) (ws:List S1) (Ws:List Twn),σ= [o1,o2,o3]/\H' D=some (.lst (ws.map V.ref))/\Sc3 a H' ws Ws/\Ws.length=i/\Ws.map (λB=>(B.z,B.b,B.wt))=(R.Ts.take i).map (λB=>(B.z,B.b,B.wt))/\Si H1 H') ?_ ?_ ?_ ?_
   ·exact ⟨_,_,_,[],[],rfl,So,True.intro,rfl,rfl,Si.upd hD⟩
   ·rintro i σ H' _ ⟨_,_,_,_,_,_,_,_,_,_,s1⟩;exact Ss.of (s1 _ _ (sm _ _ htt))
   ·rintro i x σ H' hx ⟨p1,p2,p3,ws,Ws,rfl,hDs,wl,wln,wkey,s1⟩;obtain ⟨B,eB,⟨tb,rfl,htb⟩⟩:=ttl.get hx;obtain ⟨bnm,blt,bin,bw⟩:=rg.Ts B (yv eB);have hi:i < R.Ts.length:=(yk.mp eB).1;have h3:=rg.tn;have wlen:=wl.len;obtain ⟨Bb,hBb,ebb⟩:=yab.mp bin;have blb:Ltr 8 B.b:=by rw [<-ebb];exact (rg.Bs Bb hBb).2.2
    have bnb:Jnl B.b=true:=by rw [<-ebb];exact (rg.Bs Bb hBb).2.1
    refine Skf (SqT.of (s1 _ _ (sm _ _ htb))) ⟨_,rfl,_,rfl,_,rfl,λx dx hx1 hd1 ne=>?_⟩;have sn:Si H' (upd (upd H' dx (.own x)) x (.ins a.Jj9 dx [])):=λb o e=>by rw [Sy (Jjm e hx1),Sy (Jjm e hd1)];exact e
    refine ⟨x,dx,.str B.z,.str B.b,.int B.wt,none,rfl,So,Jwx blt,Jwx blb,.inl ⟨_,rfl⟩,.good bnm bnb (Jms bw.1 bw.2),λH2 s2=>⟨rfl,?_⟩⟩;have s3:Si H' (upd H2 x (.ins a.Jj9 dx (twnF (.str B.z) (.str B.b) (.int B.wt)))):=λb o e=>by rw [Sy (Jjm e hx1)];exact s2 _ _ (sn _ _ e)
    have hD3:=s3 _ _ hDs;refine ⟨_,hD3,by rw [yf];exact Jkc (by omega),_,_,_,ws++ [x],Ws++ [⟨B.z,B.b,B.wt⟩],rfl,by rw [So,yam];rfl,?_,by rw [yx];show Ws.length+1=i+1;omega,?_,?_⟩
    ·exact Sc3.snoc (Sc8.put hD3 ⟨dx,So⟩) (Sc3.map (λx B h=>(h.same s3).put hD3) wl)
    ·rw [yam,wkey,yad,eB,yam];rfl
    ·intro b o e;rw [Sy (Jjm e hD)];exact s3 _ _ (s1 _ _ e)
   ·rintro σ H2 ⟨p1,p2,p3,ws,Ws,rfl,hDs,wl,wln,wkey,s1⟩;rw [yaj (by omega)] at wkey;intro x dx hx1 hd1 ne;have sn:Si H2 (upd (upd H2 dx (.own x)) x (.ins a.Jja dx [])):=λb o e=>by rw [Sy (Jjm e hx1),Sy (Jjm e hd1)];exact e
    have hz:Bs.map (·.z)=R.Bs.map (·.z):=by
     have:=congrArg (List.map (·.1)) bkey;simpa [yat,Jv8,Jw6,Function.comp_def] using this
    have hr:Bs.map (·.rn)=R.Bs.map (·.rn):=by
     have:=congrArg (List.map (·.2.2.2.2.1)) bkey;simpa [yat,Jv8,Jw6,Function.comp_def] using this
    have hw:Ws.map (·.z)=R.Ts.map (·.z):=by
     have:=congrArg (List.map (·.1)) wkey;simpa [yat,Function.comp_def] using this
    have hwb:Ws.map (·.b)=R.Ts.map (·.b):=by
     have:=congrArg (List.map (·.2.1)) wkey;simpa [yat,Function.comp_def] using this
    have n1:=rg.n;have n2:=rg.tn;refine ⟨x,dx,nb,D,R.c,R.g,os,ws,Bs,Ws,rfl,So,rg.c,rg.g,sn _ _ (s1 _ _ hnbs),(bl.same s1).same sn,by omega,by rw [hz];exact rg.nd,sn _ _ hDs,wl.same sn,by omega,by rw [hw];exact rg.td,λB hB=>?_,λH3 b t s3 hb3 ht3 nb3 nt3=>⟨rfl,?_⟩⟩
    ·have:B.b∈R.Ts.map (·.b):=by rw [<-hwb];exact yba hB
     obtain ⟨C,hC,e⟩:=yab.mp this;rw [hz,<-e];exact (rg.Ts C hC).2.2.1
    ·have s4:Si H2 (upd H3 x (.ins a.Jja dx (Sj6 (.int R.c) (.int R.g) (.ref b) (.ref t)))):=λb o e=>by rw [Sy (Jjm e hx1)];exact s3 _ _ (sn _ _ e)
     refine k x ⟨R.c,R.g,Bs,Ws⟩ _ ((sm.trans s1).trans s4) ⟨dx,b,t,os,ws,So,by rw [Sy nb3];exact hb3,(bl.same s1).same s4,by rw [Sy nt3];exact ht3,wl.same s4,by dsimp only;omega,by dsimp only;omega,λB hB=>?_⟩ ⟨rfl,rfl,bkey,wkey⟩ ((gxl.same s1).same s4);have:B.rn∈R.Bs.map (·.rn):=by rw [<-hr];exact yba hB
     obtain ⟨C,hC,e⟩:=yab.mp this;rw [<-e];exact (rg.Bs C hC).1.rn
noncomputable def Jnq (ns:List Int):Int:=ns.foldl (·*·) 1
theorem Jx7 (ns:List Int) (n:Int):Jnq (ns++ [n])=Jnq ns*n:=by
 unfold Jnq;rw [List.foldl_append];rfl
inductive Smx (vs:List V) (H:Hp) (Q:VK) (z3:XK):Prop where
 |mk (l:S1) (ns:List Int) (_:vs= [.ref l]) (_:H l=some (.lst (ns.map V.int))) (_:(∀n∈ns,0<=n/\n<=1000)) (_:Q (.int (Jnq ns)) H)
noncomputable def lvN (B:Bsn):Int:=B.hi - B.lo+1
noncomputable def stN (R:Riv):Int:=Jnq (R.Bs.map lvN)*(R.c+1)
theorem Sc5:Jjp ["numbers","result","number"] ["numbers"] (Jjl (top 36)):=%[|0]
theorem Jx0 (T:Tx K mg a):Sr P w K mg base CX0 1 a.Jfn a.Jfo ["numbers"] Smx:=by
 refine %[T.Jc.fn.ok,Sc5|2]
 ·obtain ⟨l,ns,rfl,_⟩:=h;rfl
 ·obtain ⟨l,ns,rfl,hl,hb,k⟩:=h;refine ⟨?t,?B,?C⟩
  case B=>
   refine' Sx ?O0 ?O1
   case O0=>exact (Jjt (i:=1) Sc5.nd rfl (ye rfl) Sn)
   case O1=>
   refine' Sx ?O2 ?O3
   case O2=>
    refine' Jlm ?O4 ?O5 ?O6 ?O7 ?O8
    case O4=>exact PassesOwn.never
    case O5=>exact rfl
    case O6=>exact (Jkm (pv 0))
    case O7=>exact (Jjq (i:=2) Sc5.nd rfl (ye rfl))
    case O8=>
    refine' Jjj ?O9
    case O9=>exact (Smg (i:=1) Sc5.nd rfl (ye rfl) (pv 2) Slo)
   case O3=>
   refine' Jjj ?Oa
   case Oa=>exact (Jjo (pv 1))
  refine ⟨_,rfl,l,rfl,⟨_,Ss.of hl⟩,?_⟩;refine Jlr (xs:=ns.map V.int) (λi σ H'=>∃(o:Option V),σ= [some (.ref l),some (.int (Jnq (ns.take i))),o]/\H'=H) ?_ ?_ ?_ ?_
  ·exact ⟨_,rfl,rfl⟩
  ·rintro i σ H' _ ⟨_,_,rfl⟩;exact Ss.of hl
  ·rintro i x σ H' hx ⟨o,rfl,rfl⟩;rw [ym] at hx;cases en:ns[i]? with
   |none=>rw [en] at hx;cases hx
   |some n=>
    rw [en] at hx;cases hx;have hn:=hb n (yv en);refine ⟨_,rfl,_,rfl,_,_,rfl,rfl,.inr ⟨by omega,by omega⟩,some (.int n),?_,rfl⟩;rw [yad,en,show (some n).toList= [n] from rfl,Jx7];rfl
  ·rintro σ H' ⟨o,rfl,rfl⟩;rw [yf,ycn];exact ⟨_,rfl,k⟩
noncomputable def Sc2 (H:Hp) (x:V):Option (List (Int×Int))->Prop
 |none=>x= .non
 |some l=>∃(d:S1) (o:Obj),x= .ref d/\H d=some (.frz o (.dK (l.map λp=>(yaa p.1,V.int p.2))))
theorem Sc2.same {H H':Hp} {x:V} {sk:Option (List (Int×Int))} (s:Si H H') (h:Sc2 H x sk):Sc2 H' x sk:=by
 cases sk with
 |none=>exact h
 |some l=>
  obtain ⟨d,o,e,h⟩:=h;exact ⟨d,o,e,s _ _ h⟩
noncomputable def SkB (R:Riv) (p:Int×Int):Prop:=0<=p.1/\∃B:Bsn,R.Bs[p.1.toNat]?=some B/\0<=p.2/\p.2 < B.n
noncomputable def Jrn (R:Riv) (sk:Option (List (Int×Int))):Prop:=∀l,sk=some l->l.length<=16/\(l.map (·.1)).Nodup/\∀p∈l,SkB R p
noncomputable def rgI (n:Nat):List Int:=(yay n).map λk:Nat=>(k:Int)
noncomputable def Jmb (R:Riv) (sk:Option (List (Int×Int))):List (List Int):=(sk.getD []).foldl (λrs p=>rs.set p.1.toNat [p.2]) (R.Bs.map λB=>rgI B.n)
noncomputable def RwL (H:Hp) (D:S1) (vs:List V) (rs:List (List Int)):Prop:=vs.length=rs.length/\∀(i:Nat) (v:V) (r:List Int),vs[i]?=some v->rs[i]?=some r->∃q,v= .ref q/\q≠D/\H q=some (.lst (r.map V.int))
theorem RwL.on {H H':Hp} {D:S1} {vs:List V} {rs:List (List Int)} (f:∀q u,q≠D->H q=some u->H' q=some u) (h:RwL H D vs rs):RwL H' D vs rs:=by
 refine ⟨h.1,λi v r e1 e2=>?_⟩;obtain ⟨q,rfl,n,g⟩:=h.2 i v r e1 e2;exact ⟨q,rfl,n,f _ _ n g⟩
theorem RwL.snoc {H:Hp} {D q:S1} {vs:List V} {rs:List (List Int)} {r:List Int} (h:RwL H D vs rs) (n:q≠D) (g:H q=some (.lst (r.map V.int))):RwL H D (vs++ [.ref q]) (rs++ [r]):=by
 refine ⟨by rw [yx,yx,h.1];rfl,λi v r' e1 e2=>?_⟩;rw [List.getElem?_append] at e1 e2;have l:=h.1;by_cases c:i < vs.length
 ·rw [if_pos c] at e1;rw [if_pos (by omega)] at e2;exact h.2 i v r' e1 e2
 ·rw [if_neg c] at e1;rw [if_neg (by omega)] at e2;rw [l] at e1;have z:i - rs.length=0:=by
   have:=(yk.mp e2).1;simp at this;omega
  rw [z] at e1 e2;cases e1;cases e2;exact ⟨q,rfl,n,g⟩
theorem RwL.set {H:Hp} {D q:S1} {vs:List V} {rs:List (List Int)} {r:List Int} {j:Nat} (h:RwL H D vs rs) (n:q≠D) (g:H q=some (.lst (r.map V.int))):RwL H D (vs.set j (.ref q)) (rs.set j r):=by
 refine ⟨by rw [ybt,ybt,h.1],λi v r' e1 e2=>?_⟩;have l:=h.1;rw [List.getElem?_set] at e1 e2;by_cases c:j=i
 ·rw [if_pos c] at e1 e2;split at e1
  ·rw [if_pos (by omega)] at e2;cases e1;cases e2;exact ⟨q,rfl,n,g⟩
  ·cases e1
 ·rw [if_neg c] at e1 e2;exact h.2 i v r' e1 e2
theorem Ybm {n j:Nat} (h:j < n):ixN n (j:Int)=some j:=by
 unfold ixN;rw [if_pos (by omega),if_pos (by omega)];rfl
inductive Sqb (K:Sd) (a:Ad) (vs:List V) (H:Hp) (Q:VK) (z3:XK):Prop where
 |mk (o:S1) (R:Riv) (x:V) (sk:Option (List (Int×Int))) (_:vs= [.ref o,x]) (_:Sb4 K a H o R) (_:Sc2 H x sk) (_:Jrn R sk) (_:∀(l:S1) (us:List V) (H':Hp),H l=none->Si H H'->H' l=some (.lst us)->RwL H' l us (Jmb R sk)->Q (.ref l) H')
theorem GS.le {K:Sd} {a:Ad} {H:Hp} {x:V} {n:Nat} (h:GS K a H x n):n<=4:=by
 cases h with
 |plain _ _ l=>exact l
 |stuck _=>decide
theorem Sb6:Jjp ["river","stuck","let","place","setting"] ["river","stuck"] (Jjl (top 35)):=%[|0]
theorem Jrb (T:Tx K mg a):Sr P w K mg base CX0 2 a.Jfl a.Jfm ["river","stuck"] (Sqb K a):=by
 refine %[T.Jb.fn.ok,Sb6|2]
 ·obtain ⟨o,R,x,sk,rfl,_⟩:=h;rfl
 ·obtain ⟨o,R,x,sk,rfl,⟨dx,b,t,os,ts,ho,hb,bl,ht,tl,n1,n2,n3⟩,sa,so,k⟩:=h;refine ⟨?t,?B,?C⟩
  case B=>
   refine' Sx ?O0 ?O1
   case O0=>exact (Jy6 (i:=2) (N:=(["basin"]:List Str)) (ini:=[none]) Sb6.nd rfl (ye rfl) rfl (Jqi (Jlb (pv 0) (by rfl))) (λ_ _ _ _ _=>(Jjq (i:=0) (by decide +kernel:(["basin"]:List Str).Nodup) rfl (ye rfl))) (λ_ _ _ _ _=>Jk1) (λ_ _ _ _ _=>(Jkk (Jmw rfl) (by rfl) T.Jaz Jlg (Sj (Jkk Jq6 (by rfl) T.Jb2 Jrp (Sj (Js9 (P:=P) (w:=w) (K:=K) (mg:=mg) (base:=base) rfl rfl rfl rfl rfl (Jm7 (K:=K) rfl (pv 0) (by rfl)) hr) Sl)) Sl))))
   case O1=>
   refine' Sx ?O2 ?O3
   case O2=>
    refine' Jk4 ?O4 ?O5 ?O6
    case O4=>exact (Jkj Jy2 (pv 1) Jll (Jkn _))
    case O5=>
     refine' Jjj ?O7
     case O7=>
     refine' Jlm ?O8 ?O9 ?Oa ?Ob ?Oc
     case O8=>exact PassesOwn.never
     case O9=>exact rfl
     case Oa=>exact (Jvx (pv 1))
     case Ob=>exact (Jqg rfl (Jk3 (Jjq (i:=3) Sb6.nd rfl (ye rfl)) (Jk3 (Jjq (i:=4) Sb6.nd rfl (ye rfl)) Jlv)))
     case Oc=>
     refine' Jjj ?Od
     case Od=>exact (Jur (Jki (Sj (pv 4) Sl)) (Jx4 (pv 2) (pv 3) Jsg))
    case O6=>exact Jjs
   case O3=>
   refine' Jjj ?Oe
   case Oe=>exact (Jjo (pv 2))
  have len:=bl.len;refine ⟨_,rfl,o,_,dx,_,_,rfl,ho,T.Jdh,T.Je4,rfl,b,rfl,⟨_,SqT.of hb⟩,λD hD=>?_⟩;refine Jvc (K:=K) (a:=b) (xs:=os.map V.ref) (D:=D) (λi σ H'=>∃(q:Option V) (us:List V),σ= [q]/\H' D=some (.lst us)/\RwL H' D us ((R.Bs.take i).map λB=>rgI B.n)/\Si H H') ?_ ?_ ?_ ?_
  ·exact ⟨_,[],rfl,So,⟨rfl,λi v r e=>by simp at e⟩,Si.upd hD⟩
  ·rintro i σ H' _ ⟨_,_,_,_,_,sm⟩;exact SqT.of (sm _ _ hb)
  ·rintro i x σ H' hx ⟨q,us,rfl,hDs,rw_,sm⟩;have hi:i < os.length:=by
    have:=(yk.mp hx).1
    rwa [yf] at this
   obtain ⟨ob,B,rfl,hB,dx',hb',gs⟩:=(bl.same sm).get hx;have h4:=gs.le;refine Jkp ⟨_,rfl,ob,_,dx',_,_,rfl,hb',T.Jdb,T.Jdy,rfl,Jlf T gs ⟨_,rfl,λp hp=>⟨p,_,_,rfl,So,by omega,by omega,by omega,by omega,λl hl=>?_⟩⟩ (by decide)⟩;have er:((yay ((B.n:Int) - 0).toNat).map λk:Nat=>V.int (0+k))=(rgI B.n).map V.int:=by
    unfold rgI;rw [yat,Int.sub_zero,yaz];exact List.map_congr_left λk _=>by simp
   rw [er];have s1:=Si.upd (o:=.rng 0 (B.n:Int)) hp;have s2:=Si.upd (o:=.lst ((rgI B.n).map V.int)) hl;have hD2:=s2 _ _ (s1 _ _ hDs);have nl:l≠D:=λz=>by
    rw [z,s1 _ _ hDs] at hl;cases hl
   refine ⟨us,hD2,?_,_,us++ [.ref l],rfl,So,?_,λc u e=>?_⟩
   ·have:=rw_.1;rw [yf,yaf] at this;exact Jkc (by omega)
   ·rw [yad,hB,yam];refine RwL.snoc (RwL.on (λq u n g=>?_) rw_) nl (by rw [Sy nl];exact So);rw [Sy n];exact s2 _ _ (s1 _ _ g)
   ·rw [Sy (Jjm e hD)];exact s2 _ _ (s1 _ _ (sm _ _ e))
  rintro σ H1 ⟨_,us,_,hDs,rw_,sm⟩;rw [yaj (by rw [yf];omega)] at rw_;cases sk with
  |none=>
   cases sa;exact ⟨_,rfl,rfl,_,rfl,ifF (by simp) ⟨_,rfl,k D us H1 hD sm hDs rw_⟩⟩
  |some l=>
   obtain ⟨d,ob,rfl,hd⟩:=sa;obtain ⟨l16,lnd,lok⟩:=so l rfl;refine ⟨_,rfl,rfl,_,rfl,ifT (by simp) ?_⟩;refine ⟨_,rfl,d,ob,_,rfl,sm _ _ hd,?_⟩;refine Jys (λi σ H'=>∃(o3 o4:Option V) (us:List V),σ= [some (.ref o),some (.ref d),some (.ref D),o3,o4]/\H' D=some (.lst us)/\us.length=R.Bs.length/\RwL H' D us (Jmb R (some (l.take i)))/\Si H H') ?_ ?_ ?_ ?_
   ·exact ⟨_,_,us,rfl,hDs,by rw [rw_.1,yf],rw_,sm⟩
   ·rintro i σ H' _ ⟨_,_,_,_,_,_,_,sm⟩;exact sm _ _ hd
   ·rintro i kk x σ H' Ta hx ⟨o3,o4,us,rfl,hDs,ul,rw_,sm⟩ hT;rw [ym] at hx;cases ep:l[i]? with
    |none=>rw [ep] at hx;cases hx
    |some p=>
     rw [ep] at hx;cases hx;have sT:=Si.upd (o:=.tup [kV (.inl p.1),V.int p.2]) hT;obtain ⟨p0,B,eB,_⟩:=lok p (yv ep);have hp:p.1.toNat < R.Bs.length:=(yk.mp eB).1;refine ⟨Ta,_,rfl,SqT.of So,rfl,_,_,rfl,_,_,rfl,rfl,?_⟩;refine ⟨_,rfl,(show 1<=S6 by decide),λq hq=>?_⟩;have s2:=Si.upd (o:=.lst [V.int p.2]) hq;have hD2:=s2 _ _ (sT _ _ hDs);have nq:q≠D:=λz=>by
      rw [z,sT _ _ hDs] at hq;cases hq
     refine ⟨_,rfl,_,rfl,D,us,p.1,p.1.toNat,rfl,rfl,hD2,?_,_,_,us.set p.1.toNat (.ref q),rfl,So,by rw [ybt,ul],?_,λc u e=>?_⟩
     ·have:=Ybm (n:=us.length) (j:=p.1.toNat) (by omega)
      rwa [Int.toNat_of_nonneg p0] at this
     ·have ef:Jmb R (some (l.take (i+1)))=(Jmb R (some (l.take i))).set p.1.toNat [p.2]:=by
       unfold Jmb;show List.foldl _ _ (l.take (i+1))=List.set (List.foldl _ _ (l.take i)) _ _;rw [yad,ep,List.foldl_append];rfl
      rw [ef];refine RwL.on (λb u n g=>by rw [Sy n];exact g) (RwL.set (RwL.on (λb u n g=>s2 _ _ (sT _ _ g)) rw_) nq So)
     ·rw [Sy (Jjm e hD)];exact s2 _ _ (sT _ _ (sm _ _ e))
   ·rintro σ H2 ⟨o3,o4,us,rfl,hDs,ul,rw_,sm⟩;rw [yf,ycn] at rw_;exact ⟨_,rfl,k D us H2 hD sm hDs rw_⟩
theorem Jvl (R:Riv) (sk:Option (List (Int×Int))) (h:∀B∈R.Bs,B.n<=4):∀r∈Jmb R sk,r.length<=4:=by
 unfold Jmb;have go:∀(l:List (Int×Int)) (rs:List (List Int)),(∀r∈rs,r.length<=4)->∀r∈l.foldl (λrs p=>rs.set p.1.toNat [p.2]) rs,r.length<=4:=by
  intro l
  induction l with
  |nil=>exact λrs h=>h
  |cons p l ih=>
   intro rs h;refine ih _ λr hr=>?_;rcases List.mem_or_eq_of_mem_set hr with hr|rfl
   ·exact h r hr
   ·exact (show 1<=4 by decide)
 refine go _ _ λr hr=>?_;obtain ⟨B,hB,rfl⟩:=yab.mp hr;unfold rgI;rw [yf,List.length_range];exact h B hB
theorem Sbm.n4 {K:Sd} {a:Ad} {H:Hp} {os:List S1} {Bs:List Bsn} (h:Sbm K a H os Bs):∀B∈Bs,B.n<=4:=λB hB=>by
 obtain ⟨i,hi⟩:=ybo hB;have lt:i < os.length:=by
  rw [h.len];exact (yk.mp hi).1
 obtain ⟨ob,B',_,e,dx,_,gs⟩:=h.get (i:=i) (v:=.ref os[i]) (by rw [ym,yj lt];rfl);rw [hi] at e;cases e;exact gs.le
noncomputable def chN (R:Riv) (sk:Option (List (Int×Int))):Int:=Jnq ((Jmb R sk).map λr=>(r.length:Int))*(R.Ts.length+1)
inductive Sq8 (K:Sd) (a:Ad) (vs:List V) (H:Hp) (Q:VK) (z3:XK):Prop where
 |mk (o:S1) (R:Riv) (x:V) (sk:Option (List (Int×Int))) (_:vs= [.ref o,x]) (_:Sb4 K a H o R) (_:Sc2 H x sk) (_:Jrn R sk) (_:∀H',Si H H'->Q (.int (chN R sk)) H')
theorem Jrc:Jjp ["river","stuck"] ["river","stuck"] (Jjl (top 37)):=%[|0]
theorem Jr9 (T:Tx K mg a):Sr P w K mg base CX0 3 a.Jfp a.Jfq ["river","stuck"] (Sq8 K a):=by
 have Sgl:=%[Jx0|1];have Se4:=%[Jrb|1];refine %[T.Jd.fn.ok,Jrc|2]
 ·obtain ⟨o,R,x,sk,rfl,_⟩:=h;rfl
 ·obtain ⟨o,R,x,sk,rfl,ro,sa,so,k⟩:=h;refine ⟨?t,?B,?C⟩
  case B=>
   refine' Jjj ?O0
   case O0=>exact (Jjo (Jju Jp7 (Jji T.Jc Sgl hr (by decide) (Sj (Jk2 (N:=(["settings"]:List Str)) (ini:=[none]) rfl (Jkm (Jji T.Jb Se4 hr (by decide) (Sj (pv 0) (Sj (pv 1) Sl)))) (λ_ _ _ _ _=>(Jjq (i:=0) (by decide +kernel:(["settings"]:List Str).Nodup) rfl (ye rfl))) (λ_ _ _ _ _=>Jk1) (λ_ _ _ _ _=>(Jjn (Jsq (K:=K) rfl) (by rfl) T.Jay Jkh (Sj (pv 0) Sl)))) Sl)) (Jju Jkl (Jjn Jjr (by rfl) T.Jay Jkh (Sj (Jlb (pv 0) (by rfl)) Sl)) Sn)))
  refine ⟨_,rfl,_,rfl,o,R,x,sk,rfl,ro,sa,so,λl us H1 hl s1 hl1 rw_=>?_⟩;obtain ⟨dx,b,t,os,ts,ho,hb,bl,ht,tl,n1,n2,n3⟩:=ro;have r4:=Jvl R sk bl.n4;refine ⟨l,rfl,⟨_,Ss.of hl1⟩,λD hD=>?_⟩;have ll:(Jmb R sk).length=R.Bs.length:=by
   unfold Jmb;have go:∀(l:List (Int×Int)) (rs:List (List Int)),(l.foldl (λrs p=>rs.set p.1.toNat [p.2]) rs).length=rs.length:=by
    intro l
    induction l with
    |nil=>exact λrs=>rfl
    |cons p l ih=>exact λrs=>(ih _).trans ybt
   rw [go,yf]
  have ul:us.length=R.Bs.length:=by rw [rw_.1,ll]
  have bll:=bl.len;refine Joz (((Jmb R sk).map λr=>(r.length:Int)).map V.int) hD (by rw [yf,yf];omega) (by omega) hl1 ?_ ?_
  ·intro i x y H' Q' hx hy sm k';rw [ym,ym] at hy;cases er:(Jmb R sk)[i]? with
   |none=>rw [er] at hy;cases hy
   |some r=>
    rw [er] at hy;cases hy;obtain ⟨q,rfl,_,g⟩:=rw_.2 i x r hx er;refine ⟨_,rfl,q,_,rfl,.inl (Ss.of (sm _ _ g)),?_⟩;rw [yf];exact k' _ λ_ _ h=>h
  intro H2 s2 hD2;have s02:=s1.trans s2;refine ⟨D,_,rfl,hD2,λn hn=>?_,?_⟩
  ·obtain ⟨r,hr',rfl⟩:=yab.mp hn;have:=r4 r hr';omega
  have tln:=tl.len;refine ⟨_,rfl,o,_,dx,_,_,rfl,s02 _ _ ho,T.Jdh,T.Je5,rfl,t,_,rfl,.inr (SqT.of (s02 _ _ ht)),_,_,rfl,rfl,_,_,rfl,rfl,.inr ?_,?_⟩
  ·rw [yf];omega
  ·rw [yf,tln];exact k _ s02
inductive Tb where
 |nd
 |e0
 |e1 (y v:V) (r:Pr)
noncomputable def TbT (K:Sd) (H:Hp) (x:V):Tb->Prop
 | .nd=>∃t,TyX K H x t/\Se K t (.type "dict")=some false
 | .e0=>∃a o,x= .ref a/\H a=some (DR a o [] [] [])
 | .e1 y v r=>∃a o h,x= .ref a/\H a=some (DR a o [y] [h] [v])/\PrT K H y r
theorem TbT.same {K:Sd} {H H':Hp} {x:V} (s:Si H H'):∀{r:Tb},TbT K H x r->TbT K H' x r
 | .nd,⟨t,h1,h2⟩=>⟨t,Jli s h1,h2⟩
 | .e0,⟨a,o,e,h⟩=>⟨a,o,e,s _ _ h⟩
 | .e1 _ _ _,⟨a,o,h,e,h1,h2⟩=>⟨a,o,h,e,s _ _ h1,h2.same s⟩
noncomputable def hsB (R:Riv):Tb->Bool
 | .nd=>false
 | .e0=>true
 | .e1 _ _ r=>stB R r
inductive Sqa (K:Sd) (a:Ad) (vs:List V) (H:Hp) (Q:VK) (z3:XK):Prop where
 |mk (o:S1) (R:Riv) (x:V) (t:Tb) (_:vs= [.ref o,x]) (_:Sb4 K a H o R) (_:TbT K H x t) (_:∀H',Si H H'->Q (.bl (hsB R t)) H')
theorem Jql:Jjp ["river","table"] ["river","table"] (Jjl (top 43)):=%[|0]
theorem Jm2 (T:Tx K mg a):Sr P w K mg base CX0 4 a.Jft a.Jfu ["river","table"] (Sqa K a):=by
 have Sby:=%[Jo6|1];refine %[T.Jf.fn.ok,Jql|2]
 ·obtain ⟨o,R,x,t,rfl,_⟩:=h;rfl
 ·obtain ⟨o,R,x,t,rfl,ro,tb,k⟩:=h;refine ⟨?t,?B,?C⟩
  case B=>
   refine' Jjj ?O0
   case O0=>exact (Jjo (Jmd (Jjn Jq4 (by rfl) T.Jax Jjv (Sj (pv 1) (Sj (Jkr (v:=.ty "dict") (by rfl) T.Jau Jrh rfl) Sl))) (Jn0 (Jjn (Jku rfl) (by rfl) T.Jar Jlj (Sj (Jk2 (N:=(["key","river"]:List Str)) (ini:=[none,some 0]) rfl (Jo8 (pv 1)) (λ_ _ _ _ _=>(Jjq (i:=0) (by decide +kernel:(["key","river"]:List Str).Nodup) rfl (ye rfl))) (λ_ _ _ _ _=>Jk1) (λ_ _ _ _ _=>(Jji T.J6 Sby hr (by decide) (Sj (pv 1) (Sj (pv 0) Sl))))) Sl)))))
  cases t with
  |nd=>
   obtain ⟨t,ty,ek⟩:=tb;exact ⟨_,rfl,x,rfl,.inr ⟨t,ty,ek,_,rfl,Jk9 (k _ λ_ _ h=>h)⟩⟩
  |e0=>
   obtain ⟨d,o',rfl,hd⟩:=tb;refine ⟨_,rfl,_,rfl,.inl ⟨d,o',_,_,_,rfl,hd,_,rfl,Jkf ?_⟩⟩;refine ⟨_,rfl,d,o', [],[],[],rfl,hd,λD hD=>?_⟩;refine Jmj [] hD rfl (yw _) rfl hd (λi x y H' Q' hx=>nomatch hx) λH1 s1 hD1=>?_;exact ⟨D,[],rfl,Ss.of hD1,k _ s1⟩
  |e1 y v r=>
   obtain ⟨d,o',h,rfl,hd,pr⟩:=tb;refine ⟨_,rfl,_,rfl,.inl ⟨d,o',_,_,_,rfl,hd,_,rfl,Jkf ?_⟩⟩;refine ⟨_,rfl,d,o', [y],[h],[v],rfl,hd,λD hD=>?_⟩;refine Jmj [.bl (stB R r)] hD rfl (show 1<=2000 by decide) rfl hd (λi x z H' Q' hx hz sm k'=>?_) λH1 s1 hD1=>?_
   ·obtain rfl:i=0:=by
     have:=(yk.mp hx).1;simpa using this
    cases hx;cases hz;exact ⟨_,rfl,_,rfl,o,R,y,r,rfl,ro.same sm,pr.same sm,λH5 s5=>k' _ s5⟩
   ·exact ⟨D,[stB R r],rfl,Ss.of hD1,by rw [show [stB R r].all id=stB R r by simp];exact k _ s1⟩
noncomputable def Jsw:V->Bool
 | .int i=>decide (1<=i)
 |_=>false
theorem Yby {K:Sd} {H:Hp} {x:V} {t:S2} (ty:TyX K H x t) (ht:tpB t=true):Jsw x=false:=by
 have e:=Jxz (lo:=1) (hi:=1) ty ht;cases x <;> first|rfl|skip
 next i=>
  cases ty with
  |of ty=>cases ty;cases ht
inductive Smv (K:Sd) (vs:List V) (H:Hp) (Q:VK) (z3:XK):Prop where
 |mk (x:V) (_:vs= [x,.int 1,x]) (_:Tm K H x) (_:Q (.bl (Jsw x)) H)
inductive Sq9 (K:Sd) (vs:List V) (H:Hp) (Q:VK) (z3:XK):Prop where
 |mk (x:V) (_:vs= [x]) (_:Tm K H x) (_:Q (.bl (Jsw x)) H)
theorem Juh (T:Tx K mg a):Sr P w K mg base CX0 1 a.Jez a.Jf0 ["thing","low","high"] (Smv K):=by
 refine %[T.J0.fn.ok,Jr2|2]
 ·obtain ⟨x,rfl,_⟩:=h;rfl
 ·obtain ⟨x,rfl,tm,k⟩:=h;refine ⟨_,(Sx (Jk4 (PW.pt (Joy (Jk0 (Jjn Jl2 (by rfl) T.Jax Jjv (Sj (pv 0) (Sj (Jkr (v:=.ty "bool") (by rfl) T.Jat Jty rfl) Sl)))) (Jnh (Jk5 (Jk0 (Jjn Jl2 (by rfl) T.Jax Jjv (Sj (pv 0) (Sj (Jkr (v:=.ty "int") (by rfl) T.Jaw Jwh rfl) Sl)))))))) (Jjj (Jjo Jko)) Jjs)
   (Jjj (Jjo (Jpo Jnp Jnp (pv 1) (pv 0) (pv 2))))),?_⟩
  rcases tm with ⟨i,rfl⟩|⟨t,ty,ht⟩
  ·refine ⟨_,rfl,_,_,_,_,_,rfl,rfl,.of (.int i),(by rfl:Se K (.type "int") (.type "bool")=some false),_,rfl,Jk9 ⟨_,rfl,_,_,_,_,_,rfl,rfl,.of (.int i),(by rfl:Se K (.type "int") (.type "int")=some true),_,rfl,Jk9 ?_⟩⟩;refine ⟨_,rfl,_,rfl,_,_,rfl,rfl,_,rfl,?_⟩;have k':Q (.bl (decide (1<=i))) H:=k;by_cases h1:1<=i
   ·rw [decide_eq_true h1] at k'⊢;exact Jkf ⟨_,rfl,_,_,rfl,rfl,by rw [decide_eq_true (Int.le_refl i)];exact k'⟩
   ·rw [decide_eq_false h1] at k'⊢;exact Jk9 k'
  ·rw [Yby ty ht] at k;have e:=Yau (K:=K) ht;cases eb:(t== .type "bool") with
   |true=>
    rw [eb] at e;exact ⟨_,rfl,_,_,_,_,_,rfl,rfl,ty,e.2,_,rfl,Jkf (Jkf k)⟩
   |false=>
    rw [eb] at e;exact ⟨_,rfl,_,_,_,_,_,rfl,rfl,ty,e.2,_,rfl,Jk9 ⟨_,rfl,_,_,_,_,_,rfl,rfl,ty,e.1,_,rfl,Jkf k⟩⟩
theorem Jse:Jjp ["thing"] ["thing"] (Jjl (top 42)):=%[|0]
theorem Jmo (T:Tx K mg a):Sr P w K mg base CX0 2 a.Jfr a.Jfs ["thing"] (Sq9 K):=by
 have Sw:=%[Juh|1];refine %[T.Je.fn.ok,Jse|2]
 ·obtain ⟨x,rfl,_⟩:=h;rfl
 ·obtain ⟨x,rfl,tm,k⟩:=h;refine ⟨?t,?B,?C⟩
  case B=>
   refine' Jjj ?O0
   case O0=>exact (Jjo (Jji T.J0 Sw hr (by decide) (Sj (pv 0) (Sj Sn (Sj (pv 0) Sl)))))
  exact ⟨_,rfl,_,rfl,x,rfl,tm,k⟩
inductive Smm (K:Sd) (a:Ad) (vs:List V) (H:Hp) (Q:VK) (z3:XK):Prop where
 |mk (o:S1) (R:Riv) (x y:V) (sk:Option (List (Int×Int))) (r:Pr) (_:vs= [.ref o,x,y]) (_:Sb4 K a H o R) (_:Sc2 H x sk) (_:Jrn R sk) (_:PrT K H y r) (_:∀b H',Si H H'->(chB R r=false->b=false)->Q (.bl b) H')
theorem Ybe {R:Riv} {r:Pr} (h:chB R r=true):∃u w' ns,r= .two u w' (some (List.map V.int ns))/\ns.length=R.Bs.length:=by
 cases r with
 |no=>cases h
 |oth vs=>cases h
 |two u y r=>
  have h':(Jr3 R.Ts.length y&&Jn1 r (yo R.Bs.length 0) (R.Bs.map λB=>(B.n:Int) - 1))=true:=h;rw [yag] at h';cases r with
  |none=>cases h'.2
  |some vs=>
   have h2:(decide (vs.length=(yo R.Bs.length (0:Int)).length)&&(wl vs (yo R.Bs.length 0) (R.Bs.map λB=>(B.n:Int) - 1)).all id)=true:=h'.2;rw [yag] at h2;obtain ⟨ns,rfl,l,_⟩:=Jv2 (vs:=vs) (n:=R.Bs.length) (hs:=R.Bs.map λB=>(B.n:Int) - 1) (by simpa using h2.1) (by simp) h2.2;exact ⟨u,y,ns,rfl,l⟩
theorem Jqm:Jjp ["river","stuck","thing"] ["river","stuck","thing"] (Jjl (top 34)):=%[|0]
theorem Jm3 (T:Tx K mg a):Sr P w K mg base CX0 5 a.Jfj a.Jfk ["river","stuck","thing"] (Smm K a):=by
 have Sfm:=%[Jug|1];refine %[T.Ja.fn.ok,Jqm|2]
 ·obtain ⟨o,R,x,y,sk,r,rfl,_⟩:=h;rfl
 ·obtain ⟨o,R,x,y,sk,r,rfl,ro,sa,so,pr,k⟩:=h;refine ⟨?t,?B,?C⟩
  case B=>
   refine' Sx ?O0 ?O1
   case O0=>
    refine' Jk4 ?O2 ?O3 ?O4
    case O2=>exact (Jk5 (Jk0 (Jji T.J7 Sfm hr (by decide) (Sj (pv 0) (Sj (pv 2) Sl)))))
    case O3=>
     refine' Jjj ?O5
     case O5=>exact (Jjo Jko)
    case O4=>exact Jjs
   case O1=>
   refine' Jjj ?O6
   case O6=>exact (Jjo (Spp (Jmv Sm3 (pv 1) Jll (Jkn _)) (Jn0 (Jjn (Jku rfl) (by rfl) T.Jar Jlj (Sj (Jk2 (N:=(["place","setting","thing"]:List Str)) (ini:=[none,none,some 2]) rfl (Jvx (pv 1)) (λ_ _ _ _ _=>(Jol (K:=K) (n:=2) rfl rfl (Jk3 (Jjq (i:=0) (by decide +kernel:(["place","setting","thing"]:List Str).Nodup) rfl (ye rfl)) (Jk3 (Jjq (i:=1) (by decide +kernel:(["place","setting","thing"]:List Str).Nodup) rfl (ye rfl)) Jlv)))) (λ_ _ _ _ _=>Jk1) (λ_ _ _ _ _=>(Jmv Jn8 (Jjx (Jrk (K:=K) rfl) (Jjx (Jrk (K:=K) rfl) (pv 2) Sn (λ_ _=>rfl)) (pv 0) (λ_ _=>rfl)) (pv 1) (Jkn _)))) Sl)))))
  refine ⟨_,rfl,_,rfl,o,R,y,r,rfl,ro,pr,λH1 s1=>⟨_,rfl,?_⟩⟩;cases ec:chB R r with
  |false=>
   exact Jkf (k false H1 s1 λ_=>rfl)
  |true=>
   refine Jk9 ?_;have fr:∀b,chB R r=false->b=false:=λb z=>by rw [ec] at z;cases z
   cases sk with
   |none=>
    cases sa;exact ⟨_,rfl,rfl,_,rfl,ifT (by simp) (k _ H1 s1 (fr _))⟩
   |some l=>
    obtain ⟨d,ob,rfl,hd⟩:=sa;obtain ⟨l16,lnd,lok⟩:=so l rfl;obtain ⟨u,w',ns,rfl,nl⟩:∃u w' ns,r= .two u w' (some (List.map V.int ns))/\ns.length=R.Bs.length:=Ybe ec;obtain ⟨p,rfl,hp,⟨p2,rfl,hp2,_,_⟩,_⟩:=pr;refine ⟨_,rfl,rfl,_,rfl,ifF (by simp) ?_⟩;refine ⟨_,rfl,d,ob,_,rfl,s1 _ _ hd,λD hD=>?_⟩;have hp1:=s1 _ _ hp;have hp21:=s1 _ _ hp2;have hd1:=s1 _ _ hd;refine Jwm (λi σ H'=>∃(o1 o2:Option V) (bs:List Bool),σ= [o1,o2,some (.ref p)]/\H' D=some (.lst (bs.map V.bl))/\bs.length=i/\Si H1 H') ?_ ?_ ?_ ?_
    ·exact ⟨_,_,[],rfl,So,rfl,Si.upd hD⟩
    ·rintro i σ H' _ ⟨_,_,_,_,_,_,sm⟩;exact sm _ _ hd1
    ·rintro i kk x σ H' Ta hx ⟨o1,o2,bs,rfl,hDs,bl,sm⟩ hT;rw [ym] at hx;cases ep:l[i]? with
     |none=>rw [ep] at hx;cases hx
     |some q=>
      rw [ep] at hx;cases hx;have sT:=Si.upd (o:=.tup [kV (.inl q.1),V.int q.2]) hT;have smT:=sm.trans sT;obtain ⟨q0,B,eB,_⟩:=lok q (yv ep);have hq:q.1.toNat < ns.length:=by rw [nl];exact (yk.mp eB).1
      have hi:i < l.length:=(yk.mp ep).1;have ea:atI (ns.map V.int) q.1=some (.int ns[q.1.toNat]):=by
       have:=Ju7 hq
       rwa [Int.toNat_of_nonneg q0] at this
      refine Ske (SqT.of So) ⟨_,rfl,p,_,0,_,rfl,rfl,SqT.of (smT _ _ hp1),rfl,_,rfl,p2,_,q.1,_,rfl,rfl,SqT.of (smT _ _ hp21),ea,_,rfl,rfl,_,sT _ _ hDs,?_,_,_,bs++ [decide (V.int ns[q.1.toNat]=V.int q.2)],rfl,?_,by rw [yx,bl];rfl,λc u e=>?_⟩
      ·rw [yf];exact Jkc (by omega)
      ·rw [So,yam];rfl
      ·rw [Sy (Jjm e hD)];exact smT _ _ e
    ·rintro σ H2 ⟨_,_,bs,_,hDs,_,sm⟩;exact ⟨D,bs,rfl,Ss.of hDs,k _ H2 (s1.trans sm) (fr _)⟩
noncomputable def emB:Tb->Bool
 | .e0=>true
 |_=>false
inductive Svj (K:Sd) (a:Ad) (vs:List V) (H:Hp) (Q:VK) (z3:XK):Prop where
 |mk (o:S1) (R:Riv) (x z:V) (sk:Option (List (Int×Int))) (t:Tb) (_:vs= [.ref o,x,z]) (_:Sb4 K a H o R) (_:Sc2 H x sk) (_:Jrn R sk) (_:TbT K H z t) (_:(∀y v r,t= .e1 y v r->stB R r=true->∃r',PrT K H v r'/\chB R r'=false)) (_:∀H',Si H H'->Q (.bl (emB t)) H')
theorem Jpb:Jjp ["river","stuck","table"] ["river","stuck","table"] (Jjl (top 46)):=%[|0]
theorem Jp4 (T:Tx K mg a):Sr P w K mg base CX0 6 a.Jfx a.Jfy ["river","stuck","table"] (Svj K a):=by
 have Saf:=%[Jm2|1];have Sag:=%[Jm3|1];have G_leads_to_keys:Sr P w K mg base CX0 1 a.Jfv a.Jfw ["river","standing","choice","table"] (λ_ _ _ _=>False):=⟨λ_ _ _ _ h=>h.elim,λ_ _ _ _ _ _ _ _ _ _ _ _ _ h=>h.elim⟩;refine %[T.Jh.fn.ok,Jpb|2]
 ·obtain ⟨o,R,x,z,sk,t,rfl,_⟩:=h;rfl
 ·obtain ⟨o,R,x,z,sk,t,rfl,ro,sa,so,tb,nv,k⟩:=h;refine ⟨?t,?B,?C⟩
  case B=>
   refine' Sx ?O0 ?O1
   case O0=>
    refine' Jk4 ?O2 ?O3 ?O4
    case O2=>exact (Jk5 (Jk0 (Jji T.Jf Saf hr (by decide) (Sj (pv 0) (Sj (pv 2) Sl)))))
    case O3=>
     refine' Jjj ?O5
     case O5=>exact (Jjo Jko)
    case O4=>exact Jjs
   case O1=>
   refine' Jjj ?O6
   case O6=>
   refine' Jjo ?O7
   case O7=>exact (Jjn (Jku rfl) (by rfl) T.Jar Jlj (Sj (Jk2 (N:=(["standing","choice","river","stuck","table"]:List Str)) (ini:=[none,none,some 0,some 1,some 2]) rfl (Jqh (pv 2)) (λ_ _ _ _ _=>(Jol (K:=K) (n:=2) rfl rfl (Jk3 (Jjq (i:=0) (by decide +kernel:(["standing","choice","river","stuck","table"]:List Str).Nodup) rfl (ye rfl)) (Jk3 (Jjq (i:=1) (by decide +kernel:(["standing","choice","river","stuck","table"]:List Str).Nodup) rfl (ye rfl)) Jlv)))) (λ_ _ _ _ _=>Jk1) (λ_ _ _ _ _=>(Jmd (Jji T.Ja Sag hr (by decide) (Sj (pv 2) (Sj (pv 3) (Sj (pv 1) Sl)))) (Jn0 (Jji T.Jg G_leads_to_keys hr (by decide) (pa4 (pv 2) (pv 0) (pv 1) (pv 4))))))) Sl))
  refine ⟨_,rfl,_,rfl,o,R,z,t,rfl,ro,tb,λH1 s1=>⟨_,rfl,?_⟩⟩;cases eh:hsB R t with
  |false=>
   have e:emB t=false:=by
    cases t <;> first|rfl|cases eh
   rw [e] at k;exact Jkf (k _ s1)
  |true=>
   refine Jk9 ?_;cases t with
   |nd=>cases eh
   |e0=>
    obtain ⟨d,o',rfl,hd⟩:=tb;refine ⟨_,rfl,d,o', [],[],[],rfl,s1 _ _ hd,λD hD=>?_⟩;refine Jn5 [] hD rfl (yw _) rfl (s1 _ _ hd) (λi x u y H' Q' hx=>nomatch hx) λH2 s2 hD1=>?_;exact ⟨D,[],rfl,Ss.of hD1,k _ (s1.trans s2)⟩
   |e1 y v r=>
    obtain ⟨d,o',h,rfl,hd,pr⟩:=tb;obtain ⟨r',pv',ec⟩:=nv y v r rfl eh;refine ⟨_,rfl,d,o', [y],[h],[v],rfl,s1 _ _ hd,λD hD=>?_⟩;refine Jn5 [.bl false] hD rfl (show 1<=2000 by decide) rfl (s1 _ _ hd) (λi x u z H' Q' hx hu hz sm k'=>?_) λH2 s2 hD1=>?_
    ·obtain rfl:i=0:=by
      have:=(yk.mp hx).1;simpa using this
     cases hx;cases hu;cases hz;have sm':=s1.trans sm;exact ⟨_,rfl,_,rfl,_,rfl,o,R,_,_,sk,r',rfl,ro.same sm',sa.same sm',so,pv'.same sm',λb H5 s5 eb=>⟨_,rfl,by rw [eb ec];exact Jk9 (k' _ s5)⟩⟩
    ·exact ⟨D,[false],rfl,Ss.of hD1,k _ (s1.trans s2)⟩
noncomputable def BdR (K:Sd) (H:Hp) (y:V):Prop:=(∃t,TyX K H y t/\Se K t (.type "tuple")=some false)\/∃p u w',y= .ref p/\H p=some (.tup [u,w'])/\Tm K H u/\Jsw u=false
theorem BdR.same {K:Sd} {H H':Hp} {y:V} (s:Si H H') (h:BdR K H y):BdR K H' y:=by
 rcases h with ⟨t,h1,h2⟩|⟨p,u,w',e,h1,h2,h3⟩
 ·exact .inl ⟨t,Jli s h1,h2⟩
 ·exact .inr ⟨p,u,w',e,s _ _ h1,h2.same s,h3⟩
noncomputable def BdL (K:Sd) (H:Hp) (n:Nat) (v:V):Prop:=(∃t,TyX K H v t/\Se K t (.type "list")=some false)\/∃p xs,v= .ref p/\H p=some (.lst xs)/\xs.length<=40/\(xs.length=n->xs≠ []/\∀x∈xs,BdR K H x)
theorem BdL.same {K:Sd} {H H':Hp} {n:Nat} {v:V} (s:Si H H') (h:BdL K H n v):BdL K H' n v:=by
 rcases h with ⟨t,h1,h2⟩|⟨p,xs,e,h1,h2,h3⟩
 ·exact .inl ⟨t,Jli s h1,h2⟩
 ·exact .inr ⟨p,xs,e,s _ _ h1,h2,λz=>⟨(h3 z).1,λx hx=>((h3 z).2 x hx).same s⟩⟩
inductive Svm (K:Sd) (vs:List V) (H:Hp) (Q:VK) (z3:XK):Prop where
 |mk (x z y:V) (_:vs= [x,z,y]) (_:BdR K H y) (_:Q (.bl false) H)
inductive Sqf (K:Sd) (a:Ad) (vs:List V) (H:Hp) (Q:VK) (z3:XK):Prop where
 |mk (o:S1) (R:Riv) (z v:V) (_:vs= [.ref o,z,v]) (_:Sb4 K a H o R) (_:BdL K H R.Ts.length v) (_:∀H',Si H H'->Q (.bl false) H')
inductive Svn (K:Sd) (a:Ad) (vs:List V) (H:Hp) (Q:VK) (z3:XK):Prop where
 |mk (o:S1) (R:Riv) (x z:V) (t:Tb) (_:vs= [.ref o,x,z]) (_:Sb4 K a H o R) (_:TbT K H z t) (_:(∀y v r,t= .e1 y v r->stB R r=true->BdL K H R.Ts.length v)) (_:∀H',Si H H'->Q (.bl (emB t)) H')
theorem Jpt:Jjp ["river","stuck","thing"] ["river","stuck","thing"] (Jjl (top 51)):=%[|0]
theorem Jpj (T:Tx K mg a):Sr P w K mg base CX0 6 a.Jg7 a.Jg8 ["river","stuck","thing"] (Svm K):=by
 have Sar:=%[Jmp|1];have Sb3:=%[Jmo|1];have Sag:=%[Jm3|1];refine %[T.Jm.fn.ok,Jpt|2]
 ·obtain ⟨x,z,y,rfl,_⟩:=h;rfl
 ·obtain ⟨x,z,y,rfl,bd,k⟩:=h;refine ⟨?t,?B,?C⟩
  case B=>
   refine' Jjj ?O0
   case O0=>exact (Jjo (Jmd (Jji T.J5 Sar hr (by decide) (Sj (pv 2) Sl)) (Jmd (Jji T.Je Sb3 hr (by decide) (Sj (Jjx Jka (pv 2) Sn (λ_ _=>rfl)) Sl)) (Jn0 (Jji T.Ja Sag hr (by decide) (Sj (pv 0) (Sj (pv 1) (Sj (Jjx Jka (pv 2) Sn (λ_ _=>rfl)) Sl))))))))
  rcases bd with ⟨t,ty,ek⟩|⟨p,u,w',rfl,hp,tm,eo⟩
  ·exact ⟨_,rfl,y,none,rfl,⟨t,ty,ek⟩,_,rfl,Jk9 k⟩
  ·refine ⟨_,rfl,_,some [u,w'],rfl,⟨p,rfl,hp⟩,_,rfl,Jkf ?_⟩;refine ⟨_,rfl,p,_,0,u,rfl,rfl,SqT.of hp,rfl,u,rfl,tm,_,rfl,?_⟩;rw [eo];exact Jk9 k
theorem Jot:Jjp ["river","stuck","thing"] ["river","stuck","thing"] (Jjl (top 52)):=%[|0]
theorem Joo (T:Tx K mg a):Sr P w K mg base CX0 7 a.Jg9 a.Jga ["river","stuck","thing"] (Sqf K a):=by
 have Sdl:=%[Jpj|1];refine %[T.Jn.fn.ok,Jot|2]
 ·obtain ⟨o,R,z,v,rfl,_⟩:=h;rfl
 ·obtain ⟨o,R,z,v,rfl,ro,bd,k⟩:=h;refine ⟨?t,?B,?C⟩
  case B=>
   refine' Sx ?O0 ?O1
   case O0=>
    refine' Jk4 ?O2 ?O3 ?O4
    case O2=>exact (PW.pt (Joy (Jk5 (Jk0 (Jjn Jl2 (by rfl) T.Jax Jjv (Sj (pv 2) (Sj (Jkr (v:=.ty "list") (by rfl) T.Jaz Jlg rfl) Sl))))) (Jnh (Jkj Jy1 (Jjn Jjr (by rfl) T.Jay Jkh (Sj (pv 2) Sl)) (Jjn Jjr (by rfl) T.Jay Jkh (Sj (Jlb (pv 0) (by rfl)) Sl)) (Jkn _)))))
    case O3=>
     refine' Jjj ?O5
     case O5=>exact (Jjo Jko)
    case O4=>exact Jjs
   case O1=>
   refine' Jjj ?O6
   case O6=>exact (Jjo (Jjn (Jku rfl) (by rfl) T.Jar Jlj (Sj (Jk2 (N:=(["row","river","stuck"]:List Str)) (ini:=[none,some 0,some 1]) rfl (Jkm (pv 2)) (λ_ _ _ _ _=>(Jjq (i:=0) (by decide +kernel:(["row","river","stuck"]:List Str).Nodup) rfl (ye rfl))) (λ_ _ _ _ _=>Jk1) (λ_ _ _ _ _=>(Jji T.Jm Sdl hr (by decide) (Sj (pv 1) (Sj (pv 2) (Sj (pv 0) Sl)))))) Sl)))
  rcases bd with ⟨t,ty,ek⟩|⟨p,xs,rfl,hp,l40,hb⟩
  ·refine ⟨_,rfl,v,_,_,t,_,rfl,rfl,ty,ek,_,rfl,Jkf ?_⟩;exact Jkf (k _ λ_ _ h=>h)
  ·obtain ⟨dx,b,t,os,ts,ho,hb',bl,ht,tl,n1,n2,n3⟩:=ro;have tln:=tl.len;refine ⟨_,rfl,_,_,_,.type "list",true,rfl,rfl,.of (.lst hp),rfl,_,rfl,Jk9 ?_⟩;refine ⟨_,rfl,p,_,rfl,.inl (Ss.of hp),_,rfl,o,_,dx,_,_,rfl,ho,T.Jdh,T.Je5,rfl,t,_,rfl,.inr (SqT.of ht),rfl,?_⟩;by_cases en:xs.length=R.Ts.length
   ·obtain ⟨ne,hr'⟩:=hb en;refine ⟨_,rfl,ifF (by simp [en,tln]) ?_⟩;refine ⟨_,rfl,p,rfl,⟨_,Ss.of hp⟩,λD hD=>?_⟩;refine Joz (xs.map λ_=>V.bl false) hD (by simp) (by omega) hp (λi x y H' Q' hx hy sm k'=>?_) λH1 s1 hD1=>?_
    ·obtain rfl:y= .bl false:=by
      rw [ym,hx] at hy;exact (yah.inj hy).symm
     exact ⟨_,rfl,_,rfl,_,rfl,_,_,x,rfl,(hr' x (yv hx)).same sm,k' _ λ_ _ h=>h⟩
    ·refine ⟨D,xs.map λ_=>false,rfl,Ss.of (by rw [hD1,yat];rfl),?_⟩;have e:(xs.map λ_=>false).all id=false:=by
      cases xs with
      |nil=>exact absurd rfl ne
      |cons x xs=>rfl
     rw [e];exact k _ s1
   ·exact ⟨_,rfl,ifT (by simp [tln];omega) (k _ λ_ _ h=>h)⟩
theorem Jou:Jjp ["river","stuck","table"] ["river","stuck","table"] (Jjl (top 53)):=%[|0]
theorem Jop (T:Tx K mg a):Sr P w K mg base CX0 8 a.Jgb a.Jgc ["river","stuck","table"] (Svn K a):=by
 have Saf:=%[Jm2|1];have Sd0:=%[Joo|1];have G_serves_all:Sr P w K mg base CX0 1 a.Jgd a.Jge ["river","table","standing"] (λ_ _ _ _=>False):=⟨λ_ _ _ _ h=>h.elim,λ_ _ _ _ _ _ _ _ _ _ _ _ _ h=>h.elim⟩;refine %[T.Jo.fn.ok,Jou|2]
 ·obtain ⟨o,R,x,z,t,rfl,_⟩:=h;rfl
 ·obtain ⟨o,R,x,z,t,rfl,ro,tb,nv,k⟩:=h;refine ⟨?t,?B,?C⟩
  case B=>
   refine' Sx ?O0 ?O1
   case O0=>
    refine' Jk4 ?O2 ?O3 ?O4
    case O2=>exact (Jk5 (Jk0 (Jji T.Jf Saf hr (by decide) (Sj (pv 0) (Sj (pv 2) Sl)))))
    case O3=>
     refine' Jjj ?O5
     case O5=>exact (Jjo Jko)
    case O4=>exact Jjs
   case O1=>
   refine' Sx ?O6 ?O7
   case O6=>
    refine' Jk4 ?O8 ?O9 ?Oa
    case O8=>exact (Jk5 (Jk0 (Jjn (Jku rfl) (by rfl) T.Jar Jlj (Sj (Jk2 (N:=(["rows","river","stuck"]:List Str)) (ini:=[none,some 0,some 1]) rfl (Yv (pv 2)) (λ_ _ _ _ _=>(Jjq (i:=0) (by decide +kernel:(["rows","river","stuck"]:List Str).Nodup) rfl (ye rfl))) (λ_ _ _ _ _=>Jk1) (λ_ _ _ _ _=>(Jji T.Jn Sd0 hr (by decide) (Sj (pv 1) (Sj (pv 2) (Sj (pv 0) Sl)))))) Sl))))
    case O9=>
     refine' Jjj ?Ob
     case Ob=>exact (Jjo Jko)
    case Oa=>exact Jjs
   case O7=>
   refine' Jjj ?Oc
   case Oc=>exact (Jjo (Jjn (Jku rfl) (by rfl) T.Jar Jlj (Sj (Jk2 (N:=(["standing","river","table"]:List Str)) (ini:=[none,some 0,some 2]) rfl (Jo8 (pv 2)) (λ_ _ _ _ _=>(Jjq (i:=0) (by decide +kernel:(["standing","river","table"]:List Str).Nodup) rfl (ye rfl))) (λ_ _ _ _ _=>Jk1) (λ_ _ _ _ _=>(Jji T.Jp G_serves_all hr (by decide) (Sj (pv 1) (Sj (pv 2) (Sj (pv 0) Sl)))))) Sl)))
  refine ⟨_,rfl,_,rfl,o,R,z,t,rfl,ro,tb,λH1 s1=>⟨_,rfl,?_⟩⟩;cases eh:hsB R t with
  |false=>
   have e:emB t=false:=by
    cases t <;> first|rfl|cases eh
   rw [e] at k;exact Jkf (k _ s1)
  |true=>
   refine Jk9 ?_;cases t with
   |nd=>cases eh
   |e0=>
    obtain ⟨d,o',rfl,hd⟩:=tb;refine ⟨_,rfl,d,o', [],[],[],rfl,s1 _ _ hd,λD hD=>?_⟩;refine Jta [] hD rfl (yw _) rfl (s1 _ _ hd) (λi x y H' Q' hx=>nomatch hx) λH2 s2 hD1=>?_;have s12:=s1.trans s2;refine ⟨D,[],rfl,Ss.of hD1,_,rfl,Jk9 ?_⟩;refine ⟨_,rfl,d,o', [],[],[],rfl,s12 _ _ hd,λD2 hD2=>?_⟩;refine Jmj [] hD2 rfl (yw _) rfl (s12 _ _ hd) (λi x y H' Q' hx=>nomatch hx) λH3 s3 hD3=>?_;exact ⟨D2,[],rfl,Ss.of hD3,k _ (s12.trans s3)⟩
   |e1 y v r=>
    obtain ⟨d,o',h,rfl,hd,pr⟩:=tb;have bd:=nv y v r rfl eh;refine ⟨_,rfl,d,o', [y],[h],[v],rfl,s1 _ _ hd,λD hD=>?_⟩;refine Jta [.bl false] hD rfl (show 1<=2000 by decide) rfl (s1 _ _ hd) (λi x z H' Q' hx hz sm k'=>?_) λH2 s2 hD1=>?_
    ·obtain rfl:i=0:=by
      have:=(yk.mp hx).1;simpa using this
     cases hx;cases hz;have sm':=s1.trans sm;exact ⟨_,rfl,_,rfl,_,rfl,o,R,_,_,rfl,ro.same sm',bd.same sm',λH5 s5=>k' _ s5⟩
    ·exact ⟨D,[false],rfl,Ss.of hD1,_,rfl,Jkf (k _ (s1.trans s2))⟩
inductive TpR (H:Hp) (v:V) (r:List Int):Prop where
 |mk (q:_) (_:v= .ref q) (_:H q=some (.tup (r.map V.int)))
noncomputable abbrev TpL (H:Hp) (vs:List V) (rs:List (List Int)):Prop:=Sa6 TpR H vs rs
theorem TpR.mn (D:S1):MnD D TpR:=by
 rintro H H' v a f ⟨q,rfl,g⟩;exact ⟨q,rfl,f q _ (.inr λ_ z=>by cases z) g⟩
theorem TpL.on {H H':Hp} {vs:List V} {rs:List (List Int)} (f:∀q xs,H q=some (.tup xs)->H' q=some (.tup xs)) (h:TpL H vs rs):TpL H' vs rs:=h.imp λv r q=>by
 obtain ⟨q,rfl,g⟩:=q;exact ⟨q,rfl,f _ _ g⟩
theorem TpL.one {H:Hp} {q:S1} {r:List Int} (g:H q=some (.tup (r.map V.int))):TpL H [.ref q] [r]:=Sa6.one ⟨q,rfl,g⟩
noncomputable def lgR (rs:List (List Int)) (ns:List Int):List (List Int):=rs.flatMap λr=>ns.map λn=>r++ [n]
theorem Jxy (rs:List (List Int)) (ns:List Int):(lgR rs ns).length=rs.length*ns.length:=by
 unfold lgR
 induction rs with
 |nil=>simp
 |cons r rs ih=>rw [List.flatMap_cons,yx,ih,yf,yac,Nat.succ_mul,Nat.add_comm]
theorem Yl {rs:List (List Int)} {ns:List Int} {i:Nat} {r:List Int} (h:rs[i]?=some r):lgR (rs.take (i+1)) ns=lgR (rs.take i) ns++ns.map λn=>r++ [n]:=by
 unfold lgR;rw [yad,h,List.flatMap_append];simp
theorem Jkx (n:Nat):(rgI n).length=n:=by
 unfold rgI;rw [yf,List.length_range]
inductive Sbs (H:Hp) (x:V) (ls:List Int) (wt:Int):Prop where
 |mk (t r:S1) (_:x= .ref t) (_:H t=some (.tup [.ref r,.int wt])) (_:H r=some (.tup (ls.map V.int)))
structure Jyg (S:Riv):Prop where
 n4:S.Bs.length<=4
 lv:∀B∈S.Bs,(1<=lvN B/\lvN B<=13)/\0<=B.lo/\B.lo<=12
 c:0<=S.c/\S.c<=12
noncomputable abbrev StR:Hp->V->List Int×Int->Prop:=λH v p=>Sbs H v p.1 p.2
noncomputable def lvL:List Bsn->List (List Int)
 | []=>[[]]
 |B::Bs=>(lvL Bs).flatMap λls=>(rgI (lvN B).toNat).map λk=>(B.lo+k)::ls
theorem Jn6 {α β:Type} {m:Nat} {f:α->List β}:∀{l:List α},(∀x∈l,(f x).length=m)->(l.flatMap f).length=l.length*m:=by
 intro l
 induction l with
 |nil=>exact λ_=>by simp
 |cons y l ih=>
  intro h;rw [List.flatMap_cons,yx,h y yy,ih λx hx=>h x (yq _ hx),yac,Nat.succ_mul,Nat.add_comm]
noncomputable def prN:List Bsn->Nat
 | []=>1
 |B::Bs=>prN Bs*(lvN B).toNat
theorem Jmh:∀Bs:List Bsn,(lvL Bs).length=prN Bs:=by
 intro Bs
 induction Bs with
 |nil=>rfl
 |cons B Bs ih=>
  show ((lvL Bs).flatMap _).length=prN Bs*_;rw [Jn6 (m:=(lvN B).toNat) λx _=>by rw [yf,Jkx],ih]
theorem Jx6 (ns:List Int):∀c:Int,ns.foldl (·*·) c=c*Jnq ns:=by
 unfold Jnq
 induction ns with
 |nil=>intro c;simp
 |cons n ns ih=>
  intro c;rw [List.foldl_cons,List.foldl_cons,ih (c*n),ih (1*n),Int.one_mul,Int.mul_assoc]
theorem Yy:∀Bs:List Bsn,(∀B∈Bs,1<=lvN B)->Jnq (Bs.map lvN)=prN Bs:=by
 intro Bs
 induction Bs with
 |nil=>exact λ_=>rfl
 |cons B Bs ih=>
  intro h;have q:=h B yy;show (Bs.map lvN).foldl (·*·) (1*lvN B)=_;rw [Jx6,ih λx hx=>h x (yq _ hx)];show _=((prN Bs*(lvN B).toNat:Nat):Int);rw [Int.natCast_mul,Int.one_mul,Int.mul_comm,Int.toNat_of_nonneg (by omega)]
noncomputable def stL (R:Riv):List (List Int×Int):=(lvL R.Bs).flatMap λls=>(rgI (R.c+1).toNat).map λwt=>(ls,wt)
theorem Jyc (R:Riv) (hl:∀B∈R.Bs,1<=lvN B) (hc:0<=R.c):((stL R).length:Int)=stN R:=by
 unfold stL stN;rw [Jn6 (m:=(R.c+1).toNat) λx _=>by rw [yf,Jkx],Jmh,Yy _ hl,Int.natCast_mul,Int.toNat_of_nonneg (by omega)]
theorem Jpg {R:Jlw} {S:Riv} (h:Jtv R S):S.Bs.length=R.Bs.length:=by
 have:=congrArg ybq h.Bs;simpa using this
theorem Juc {R:Jlw} {S:Riv} (h:Jtv R S) {i:Nat} {C:Jlq} (e:R.Bs[i]?=some C):∃B,S.Bs[i]?=some B/\Jv8 B=Jw6 C:=by
 have q:(S.Bs.map Jv8)[i]?=some (Jw6 C):=by rw [h.Bs,ym,e];rfl
 rw [ym] at q;exact yca.mp q
noncomputable def kvI (l:List (Int×Int)):List (Key×V):=l.map λp=>(yaa p.1,V.int p.2)
inductive Sii (H:Hp) (x:V) (l:List (Int×Int)):Prop where
 |mk (d:_) (_:x= .ref d) (_:Rd H d (.dK (kvI l)))
theorem Sii.same {H H':Hp} {x:V} {l:List (Int×Int)} (s:Si H H') (h:Sii H x l):Sii H' x l:=by
 obtain ⟨d,e,h|⟨o,h⟩⟩:=h
 ·exact ⟨d,e,.inl (s _ _ h)⟩
 ·exact ⟨d,e,.inr ⟨o,s _ _ h⟩⟩
theorem Jyf (i:Int):∀l:List (Int×Int),(Jmi (kvI l) (yaa i)).isSome=decide (i∈l.map (·.1)):=by
 intro l;unfold Jmi kvI
 induction l with
 |nil=>rfl
 |cons p l ih=>
  rw [yap,List.find?_cons];by_cases c:p.1=i
  ·subst c;simp
  ·have e:decide ((yaa p.1:Key)=yaa i)=false:=decide_eq_false λz=>c (yaa.inj z);rw [e];refine Eq.trans ih ?_;have:¬i=p.1:=λz=>c z.symm;simp [this]
theorem Jwc (G:Jl9):(G1 G).length=nOf G:=by
 unfold G1 nOf;cases G.sv <;> rfl
noncomputable def SkT (R:Jlw) (l:List (Int×Int)):Prop:=(l.map (·.1)).Nodup/\∀q∈l,0<=q.1/\∃C:Jlq,R.Bs[q.1.toNat]?=some C/\0<=q.2/\q.2 < nOf C.G
inductive Smq (vs:List V) (H:Hp) (Q:VK) (z3:XK):Prop where
 |mk (c:Int) (p:S1) (x:V) (R:Jlw) (_:vs= [.int c,x]) (_:Seh p H x R) (_:Jpe R) (_:∀(x':V) (l:List (Int×Int)) (H':Hp),Si H H'->Sc2 H' x' (some l)->SkT R l->l.length<=R.Bs.length->(∃d,x'= .ref d/\H d=none)->Q x' H')
theorem Sbb:Jjp ["_law_cell_here","_law_told","_law_stream_here","_law_stuck_here","_law_place","_law_one"] ["_law_cell_here","_law_told"] (Jjl (top 104)):=%[|0]
theorem Jun (T:Tx K mg a):Sr P w K mg base CX0 2 a.Ji7 a.Ji8 ["_law_cell_here","_law_told"] Smq:=by
 have Sb2:=%[Jmz|1];have Sk:=%[Jks|1];refine %[T.Jab.fn.ok,Sbb|2]
 ·obtain ⟨c,p,x,R,rfl,_⟩:=h;rfl
 ·obtain ⟨c,p,x,R,rfl,⟨t,lb,lt,bs,ts,rfl,ht,hb,btl,htt,ttl,nb,nt⟩,rg,k⟩:=h;have hu64:=Jog hr;refine ⟨?t,?B,?C⟩
  case B=>
   refine' Sx ?O0 ?O1
   case O0=>exact (Jjt (i:=2) Sbb.nd rfl (ye rfl) (Jji T.Ja0 Sb2 hr (by decide) (Sj (pv 0) Sl)))
   case O1=>
   refine' Sx ?O2 ?O3
   case O2=>exact (Jjt (i:=3) Sbb.nd rfl (ye rfl) Jpp)
   case O3=>
   refine' Sx ?O4 ?O5
   case O4=>
    refine' Jlm ?O6 ?O7 ?O8 ?O9 ?Oa
    case O6=>exact PassesOwn.never
    case O7=>exact rfl
    case O8=>exact (Jy5 (by rfl) T.Jav (Sj (Jjx Jka (pv 1) Sn (λ_ _=>rfl)) Sl))
    case O9=>exact (Jqg rfl (Jk3 (Jjq (i:=4) Sbb.nd rfl (ye rfl)) (Jk3 (Jjq (i:=5) Sbb.nd rfl (ye rfl)) Jlv)))
    case Oa=>
    refine' Jjj ?Ob
    case Ob=>
    refine' Jk4 ?Oc ?Od ?Oe
    case Oc=>exact (Jkj Jn8 (Jji T.Ja1 Sk hr (by decide) (Sj (pv 2) (Sj Sn Sl))) Sn (Jkn _))
    case Od=>
     refine' Jjj ?Of
     case Of=>exact (Jz6 hu64 (pv 3) (pv 4) (Jji T.Ja1 Sk hr (by decide) (Sj (pv 2) (Sj (Jjn Jjr (by rfl) T.Jay Jkh (Sj (Jjx Jka (Jjx Jka (pv 5) Sn (λ_ _=>rfl)) Sn (λ_ _=>rfl)) Sl)) Sl))) rfl)
    case Oe=>exact Jjs
   case O5=>
   refine' Jjj ?Og
   case Og=>exact (Jjo (Yu (pv 3)))
  have bll:=btl.len;have n16:=rg.n.2;refine ⟨_,rfl,c,rfl,λp2 H1 hp2 s1 st1=>λd hd=>?_⟩;have s2:=Si.upd (o:=.dK []) hd;have s12:=s1.trans s2;have hd0:H d=none:=by
   cases e:H d with
   |none=>rfl
   |some u=>rw [s1 _ _ e] at hd;cases hd
  refine ⟨_,rfl,t,_,2,_,rfl,rfl,SqT.of (s12 _ _ ht),rfl,lb,rfl,⟨_,Ss.of (s12 _ _ hb)⟩,?_⟩;refine Jxt (xs:=bs) (λi σ H'=>∃(o4 o5:Option V) (l:List (Int×Int)),σ= [some (.int c),some (.ref t),some (.ref p2),some (.ref d),o4,o5]/\H' d=some (.dK (kvI l))/\(∀q∈l,q.1 < i)/\SkT R l/\l.length<=i/\Sb7 H' p2/\Si H H') ?_ ?_ ?_ ?_
  ·exact ⟨_,_,[],rfl,So,(λq hq=>nomatch hq),⟨ycd,(λq hq=>nomatch hq)⟩,yg 0,st1.same s2,s12⟩
  ·rintro i σ H' _ ⟨_,_,_,_,_,_,_,_,_,sm⟩;exact Ss.of (sm _ _ hb)
  ·rintro i x σ H' Ta hx ⟨o4,o5,l,rfl,hds,lt',sk,ll,st,sm⟩ hT;obtain ⟨C,hC,t5,gv,rfl,ht5,gt⟩:=btl.get hx;have sT:=Si.upd (o:=.tup [V.int i,.ref t5]) hT;have smT:=sm.trans sT;have stT:=st.same sT;have hdT:=sT _ _ hds;have hi:i < bs.length:=(yk.mp hx).1;refine ⟨Ta,_,rfl,SqT.of So,rfl,_,_,rfl,_,_,rfl,rfl,?_⟩;refine ⟨_,rfl,p2,5,rfl,stT,by decide,Jlp (by decide),λr H3 r0 r1 b3=>⟨rfl,_,rfl,?_⟩⟩;have ndp:d≠p2:=Jls stT hdT (λ_ _ _ z=>by cases z);have hd3:=b3.1 _ _ ndp hdT;have keep:∀{Ha Hb:Hp},Si H Ha->But p2 Ha Hb->Si H Hb:=λs b c o e=>b.1 c o (Jjm e hp2) (s _ _ e);have sm3:=keep smT b3;by_cases c0:r=0
   ·subst c0;obtain ⟨tg,m,eg,hm,nm,hg⟩:=gt;subst eg;have htg:∃g2,H tg=some (.tup ([.str C.G.kd,.ref m]++g2)):=by
     rcases hg with ⟨_,q⟩|⟨j,m2,_,q,_⟩
     ·exact ⟨[],q⟩
     ·exact ⟨[.ref m2,.int j],q⟩
    obtain ⟨g2,htg⟩:=htg;have gl:=(rg.Bs C (yv hC)).1.G.len;have n4:1<=nOf C.G/\nOf C.G<=4:=by unfold nOf;split <;> omega
    have gn:=Jwc C.G;refine Jws rfl ⟨_,rfl,_,rfl,t5,_,5,_,rfl,rfl,SqT.of (sm3 _ _ ht5),rfl,tg,_,1,_,rfl,rfl,SqT.of (sm3 _ _ htg),Jwf (j:=1) rfl rfl,m,_,rfl,.inl (Ss.of (sm3 _ _ hm)),p2,_,rfl,b3.2,by rw [yf];omega,Jlp (by rw [yf];omega),λr2 H4 q0 q1 b4=>?_⟩;have hd4:=b4.1 _ _ ndp hd3;rw [yf,gn] at q1;refine ⟨_,rfl,_,rfl,d,_,rfl,She.k (k:=yaa (i:Int)) hd4 (by unfold kvI;rw [yf];exact Jkc (by omega)),_,_,l++ [((i:Int),r2)],rfl,?_,?_,⟨?_,?_⟩,by rw [yx];exact Nat.succ_le_succ ll,?_,?_⟩
    ·have nv:Jmi (kvI l) (yaa (i:Int))=none:=by
      have e:=Jyf (i:Int) l;rw [decide_eq_false (λz=>by
       obtain ⟨q,hq,e⟩:=yab.mp z;have:=lt' q hq;omega)] at e
      cases ev:Jmi (kvI l) (yaa (i:Int)) with
      |none=>rfl
      |some v=>rw [ev] at e;cases e
     rw [So,Ya0 _ nv];unfold kvI;rw [yam];rfl
    ·intro q hq;rcases ybb.mp hq with hq|hq
     ·have:=lt' q hq;omega
     ·rw [yan.mp hq];show (i:Int) < ((i+1:Nat):Int);omega
    ·rw [yam,List.nodup_append];refine ⟨sk.1,by simp,λx hx y hy e=>?_⟩;obtain ⟨q,hq,rfl⟩:=yab.mp hx;have:=lt' q hq;have hy':y=(i:Int):=by simpa using hy
     omega
    ·intro q hq;rcases ybb.mp hq with hq|hq
     ·exact sk.2 q hq
     ·rw [yan.mp hq];exact ⟨by show (0:Int)<=(i:Int);omega,C,hC,q0,q1⟩
    ·obtain ⟨x1,x2,x3,e⟩:=b4.2;exact ⟨x1,x2,x3,by rw [Sy (yu ndp)];exact e⟩
    ·intro b o e;rw [Sy (Jjm e hd0)];exact keep sm3 b4 _ _ e
   ·exact Jvj (λz=>c0 (V.int.inj z)) ⟨_,_,l,rfl,hd3,λq hq=>by have:=lt' q hq;omega,sk,by omega,b3.2,sm3⟩
  ·rintro σ H' ⟨o4,o5,l,rfl,hds,lt',sk,ll,st,sm⟩;rw [bll] at ll;refine ⟨_,rfl,d,_,rfl,hds,λo=>k _ l _ (λb u e=>?_) ⟨d,o,rfl,So⟩ sk ll ⟨d,rfl,hd0⟩⟩;rw [Sy (Jjm e hd0)];exact sm _ _ e
theorem Seh.same {p:S1} {H H':Hp} {x:V} {R:Jlw} (rg:Jpe R) (s:Si H H') (h:Seh p H x R):Seh p H' x R:=by
 obtain ⟨t,lb,lt,bs,ts,e,ht,hb,btl,htt,ttl,nb,nt⟩:=h;exact ⟨t,lb,lt,bs,ts,e,s _ _ ht,s _ _ hb,btl.map (λ_ _ _ h=>h.same s) (λB hB=>(rg.Bs B hB).1),s _ _ htt,ttl.map λ_ _ h=>h.same s,nb,nt⟩
theorem Sq5 {R:Jlw} {S:Riv} {l:List (Int×Int)} (lk:Jtv R S) (rg:Jpe R) (h:SkT R l) (hl:l.length<=R.Bs.length):Jrn S (some l):=by
 intro l' e;cases e;refine ⟨yae hl rg.n.2,h.1,λq hq=>?_⟩;obtain ⟨h0,C,hC,c0,c1⟩:=h.2 q hq;obtain ⟨B,hB,ek⟩:=Juc lk hC;have e:B.n=nOf C.G:=congrArg (·.2.2.2.2.2) ek;exact ⟨h0,B,hB,c0,by rw [e];exact c1⟩
noncomputable def rwN (R:Riv) (sk:Option (List (Int×Int))) (i:Nat):List (List Int):=((Jmb R sk).take i).foldl lgR [[]]
theorem Jw2 {R:Riv} {sk:Option (List (Int×Int))} {i:Nat} {r:List Int} (h:(Jmb R sk)[i]?=some r):rwN R sk (i+1)=lgR (rwN R sk i) r:=by
 unfold rwN;rw [yad,h,List.foldl_append];rfl
theorem Yaa {R:Riv} {sk:Option (List (Int×Int))} (h4:∀r∈Jmb R sk,r.length<=4):∀i,i<=(Jmb R sk).length->(rwN R sk i).length<=4^i/\∀r∈rwN R sk i,r.length=i:=by
 intro i
 induction i with
 |zero=>
  refine λ_=>⟨yg 1,λr hr=>?_⟩;have hr':r∈ [([]:List Int)]:=hr;rw [yan.mp hr'];rfl
 |succ i ih=>
  intro h;obtain ⟨h1,h2⟩:=ih (by omega);have er:(Jmb R sk)[i]?=some (Jmb R sk)[i]:=yj (by omega);rw [Jw2 er];refine ⟨?_,λr hr=>?_⟩
  ·rw [Jxy,Nat.pow_succ];exact Nat.mul_le_mul h1 (h4 _ (ybn _))
  ·unfold lgR at hr;obtain ⟨r0,hr0,hr⟩:=List.mem_flatMap.mp hr;obtain ⟨n,_,rfl⟩:=yab.mp hr;rw [yx,h2 r0 hr0];rfl
theorem Yj (R:Riv) (sk:Option (List (Int×Int))):(Jmb R sk).length=R.Bs.length:=by
 unfold Jmb;have go:∀(l:List (Int×Int)) (rs:List (List Int)),(l.foldl (λrs p=>rs.set p.1.toNat [p.2]) rs).length=rs.length:=by
  intro l
  induction l with
  |nil=>exact λrs=>rfl
  |cons p l ih=>exact λrs=>(ih _).trans ybt
 rw [go,yf]
noncomputable def twV:Option Int->V
 |none=>.non
 |some i=>.int i
noncomputable def twL (R:Riv):List (Option Int):=none::(rgI R.Ts.length).map some
noncomputable def chL (R:Riv) (sk:Option (List (Int×Int))):List (List Int×Option Int):=(rwN R sk R.Bs.length).flatMap λr=>(twL R).map λt=>(r,t)
inductive CcR (H:Hp) (v:V) (c:List Int×Option Int):Prop where
 |mk (t:_) (q:_) (_:v= .ref t) (_:H t=some (.tup [.ref q,twV c.2])) (_:H q=some (.tup (c.1.map V.int)))
noncomputable abbrev CcL (H:Hp) (vs:List V) (cs:List (List Int×Option Int)):Prop:=Sa6 CcR H vs cs
theorem CcR.mn (D:S1):MnD D CcR:=by
 rintro H H' v a f ⟨t,q,rfl,g1,g2⟩;exact ⟨t,q,rfl,f t _ (.inr λ_ z=>by cases z) g1,f q _ (.inr λ_ z=>by cases z) g2⟩
theorem Spq {i:Nat} (h:i<=4):4^i<=256:=by
 have cs:i=0\/i=1\/i=2\/i=3\/i=4:=by omega
 rcases cs with rfl|rfl|rfl|rfl|rfl <;> decide
theorem Spr {i:Nat} (h:i+1<=4):4^i*4<=256:=by
 rw [<-Nat.pow_succ];exact Spq h
theorem Yx {Bs:List Bsn} (h:∀B∈Bs,1<=lvN B):∀k,prN (Bs.drop k)<=prN Bs:=by
 induction Bs with
 |nil=>intro k;simp
 |cons B Bs ih=>
  intro k;cases k with
  |zero=>exact yg _
  |succ k=>
   have q:=h B yy;refine yae (ih (λx hx=>h x (yq _ hx)) k) ?_;show prN Bs<=prN Bs*(lvN B).toNat;exact Nat.le_mul_of_pos_right _ (by omega)
theorem StR.mn (D:S1):MnD D StR:=by
 rintro H H' v a f ⟨t,r,e,h1,h2⟩;exact ⟨t,r,e,f _ _ (.inr λ_ z=>by cases z) h1,f _ _ (.inr λ_ z=>by cases z) h2⟩
inductive Smr (K:Sd) (vs:List V) (H:Hp) (Q:VK) (z3:XK):Prop where
 |mk (p:S1) (x:V) (R:Jlw) (S:Riv) (_:vs= [x]) (_:Seh p H x R) (_:Jtv R S) (_:Jyg S) (_:stN S<=2000) (_:∀(L:S1) (us:List V) (H':Hp),H L=none->Si H H'->H' L=some (.lst us)->Sa6 StR H' us (stL S)->Q (.ref L) H')
theorem Sa2:Jjp ["_law_told","_law_found","_law_one","_law_longer","_law_levels","_law_every"] ["_law_told"] (Jjl (top 103)):=%[|0]
theorem Jqe (T:Tx K mg a):Sr P w K mg base CX0 1 a.Ji5 a.Ji6 ["_law_told"] (Smr K):=by
 refine %[T.Jaa.fn.ok,Sa2|2]
 ·obtain ⟨p,x,R,S,rfl,_⟩:=h;rfl
 ·obtain ⟨p,x,R,S,rfl,⟨t,lb,lt,bs,ts,rfl,ht,hb,btl,htt,ttl,nb,nt⟩,lk,s4,st,k⟩:=h;refine ⟨?t,?B,?C⟩
  case B=>
   refine' Sx ?O0 ?O1
   case O0=>exact (Jjt (i:=1) Sa2.nd rfl (ye rfl) (Jki (Sj (Jkw Sl) Sl)))
   case O1=>
   refine' Sx ?O2 ?O3
   case O2=>
    refine' Jlm ?O4 ?O5 ?O6 ?O7 ?O8
    case O4=>exact PassesOwn.never
    case O5=>exact rfl
    case O6=>exact (Smd (by rfl) T.Jb3 (Sj (Jjx Jka (pv 0) Sn (λ_ _=>rfl)) Sl))
    case O7=>exact (Jjq (i:=2) Sa2.nd rfl (ye rfl))
    case O8=>
    refine' Sx ?O9 ?Oa
    case O9=>exact (Jjt (i:=3) Sa2.nd rfl (ye rfl) (Jki Sl))
    case Oa=>
    refine' Sx ?Ob ?Oc
    case Ob=>
     refine' Jlm ?Od ?Oe ?Of ?Og ?Oh
     case Od=>exact PassesOwn.never
     case Oe=>exact rfl
     case Of=>exact (Jkm (pv 1))
     case Og=>exact (Jjq (i:=4) Sa2.nd rfl (yak rfl))
     case Oh=>
     refine' Jjj ?Oi
     case Oi=>exact (Jlh (Jpn F.plainAttrs_list F.slot_list_extend F.type_list_extend Joj (pv 3) (Sj (Jk2 (N:=(["_law_level","_law_levels"]:List Str)) (ini:=[none,some 4]) rfl (Jtk (by rfl) T.Jb2 (Sj (Jjx Jka (pv 2) Sn (λ_ _=>rfl)) (Sj (Jju Jkl (Jjx Jka (pv 2) Sn (λ_ _=>rfl)) Sn) Sl))) (λ_ _ _ _ _=>(Jjq (i:=0) (by decide +kernel:(["_law_level","_law_levels"]:List Str).Nodup) rfl (ye rfl))) (λ_ _ _ _ _=>Jk1) (λ_ _ _ _ _=>(Jju Jpl (Jkw (Sj (pv 0) Sl)) (pv 1)))) Sl)))
    case Oc=>
    refine' Jjj ?Oj
    case Oj=>exact (Jjt (i:=1) Sa2.nd rfl (ye rfl) (pv 3))
   case O3=>
   refine' Sx ?Ok ?Ol
   case Ok=>exact (Jjt (i:=5) Sa2.nd rfl (ye rfl) (Jki Sl))
   case Ol=>
   refine' Sx ?Om ?On
   case Om=>
    refine' Jlm ?Oo ?Op ?Oq ?Or ?Os
    case Oo=>exact PassesOwn.never
    case Op=>exact rfl
    case Oq=>exact (Jkm (pv 1))
    case Or=>exact (Jjq (i:=4) Sa2.nd rfl (yak rfl))
    case Os=>
    refine' Jjj ?Ot
    case Ot=>exact (Jlh (Jpn F.plainAttrs_list F.slot_list_extend F.type_list_extend Joj (pv 5) (Sj (Jk2 (N:=(["_law_wet","_law_levels"]:List Str)) (ini:=[none,some 4]) rfl (Jom (by rfl) T.Jb2 (Sj (Jju Jkl (Jjx Jka (pv 0) Sn (λ_ _=>rfl)) Sn) Sl)) (λ_ _ _ _ _=>(Jjq (i:=0) (by decide +kernel:(["_law_wet","_law_levels"]:List Str).Nodup) rfl (ye rfl))) (λ_ _ _ _ _=>Jk1) (λ_ _ _ _ _=>(Jkw (Sj (pv 1) (Sj (pv 0) Sl))))) Sl)))
   case On=>
   refine' Jjj ?Ou
   case Ou=>exact (Jjo (pv 5))
  have hc:=s4.c;have lv1:∀B∈S.Bs,1<=lvN B:=λB hB=>(s4.lv B hB).1.1;have bll:=btl.len;have ll:=Jpg lk;have sl:=Jyc S lv1 hc.1;have pr:prN S.Bs<=2000:=by
   have e:=Jn6 (m:=(S.c+1).toNat) (f:=λls=>(rgI (S.c+1).toNat).map λwt:Int=>(ls,wt)) (l:=lvL S.Bs) λx _=>by rw [yf,Jkx]
   have e':(stL S).length=prN S.Bs*(S.c+1).toNat:=by rw [<-Jmh];exact e
   have:=Nat.le_mul_of_pos_right (prN S.Bs) (show 0 < (S.c+1).toNat by omega);omega
  refine ⟨(show 0<=S6 by decide),λe0 he0=>⟨(show 1<=S6 by decide),λl0 hl0=>?_⟩⟩;have s0:Si H (upd (upd H e0 (.tup [])) l0 (.lst [.ref e0])):=(Si.upd he0).trans (Si.upd hl0);have tp0:Sa6 TpR (upd (upd H e0 (.tup [])) l0 (.lst [.ref e0])) [.ref e0] [[]]:=TpL.one ((Si.upd hl0) _ _ So);have g0:=So (H:=upd H e0 (.tup [])) (a:=l0) (o:=.lst [.ref e0]);generalize upd (upd H e0 (.tup [])) l0 (.lst [.ref e0])=H0 at*;refine ⟨_,rfl,t,_,2,_,rfl,rfl,SqT.of (s0 _ _ ht),rfl,lb,bs,rfl,Ss.of (s0 _ _ hb),?_⟩;refine Ybg (K:=K) (a:=lb) (xs:=bs) (λi σ H'=>∃(Rw:S1) (vs:List V) (o2 o3 o4:Option V),σ= [some (.ref t),some (.ref Rw),o2,o3,o4,none]/\H' Rw=some (.lst vs)/\Sa6 TpR H' vs (lvL (S.Bs.drop (S.Bs.length - i)))/\Si H H') ?_ ?_ ?_ ?_
  ·refine ⟨l0,[.ref e0],_,_,_,rfl,g0,?_,s0⟩;rw [Nat.sub_zero,List.drop_length];exact tp0
  ·rintro i σ H' _ ⟨_,_,_,_,_,_,_,_,sm⟩;exact Ss.of (sm _ _ hb)
  ·rintro i x σ H' hi hx ⟨Rw,vs,o2,o3,o4,rfl,hRw,tp,sm⟩;obtain ⟨C,hC,t5,gv,rfl,ht5,gt⟩:=btl.get hx;obtain ⟨B,hB,ek⟩:=Juc lk hC;have e1:B.lo=C.lo:=congrArg (·.2.1) ek;have e2:B.hi=C.hi:=congrArg (·.2.2.1) ek;rw [show bs.length - 1 - i=S.Bs.length - (i+1) by omega] at hB;have hlt:S.Bs.length - (i+1) < S.Bs.length:=by omega
   have ed:S.Bs.drop (S.Bs.length - (i+1))=B::S.Bs.drop (S.Bs.length - i):=by
    rw [List.drop_eq_getElem_cons hlt,show S.Bs.length - (i+1)+1=S.Bs.length - i by omega];rw [yj hlt] at hB;rw [yah.inj hB]
   have hBm:=yv hB;obtain ⟨⟨b1,b2⟩,b3,b4⟩:=s4.lv B hBm;have elv:lvN B=B.hi - B.lo+1:=rfl;have pd:=Yx lv1 (S.Bs.length - (i+1));rw [ed] at pd;have pd':prN (S.Bs.drop (S.Bs.length - i))*(lvN B).toNat<=prN S.Bs:=pd;rw [ed];generalize S.Bs.drop (S.Bs.length - i)=Ds at*;have vl:=tp.1;rw [Jmh] at vl;refine ⟨(show 0<=S6 by decide),λL hL=>?_⟩;have sL:=Si.upd (o:=.lst []) hL;refine ⟨_,rfl,Rw,rfl,⟨_,Ss.of (sL _ _ hRw)⟩,?_⟩;refine Jlr (xs:=vs) (λj σ H2=>∃(o4:Option V) (ws:List V),σ= [some (.ref t),some (.ref Rw),some (.ref t5),some (.ref L),o4,none]/\H2 L=some (.lst ws)/\Sa6 TpR H2 ws (((lvL Ds).take j).flatMap λls=>(rgI (lvN B).toNat).map λk=>(B.lo+k)::ls)/\Si H' H2) ?_ ?_ ?_ ?_
   ·exact ⟨_,[],rfl,So,.nil,sL⟩
   ·rintro j σ H2 _ ⟨_,_,_,_,_,s2⟩;exact Ss.of (s2 _ _ hRw)
   ·rintro j y σ H2 hy ⟨o4,ws,rfl,hLs,tw,s2⟩;have hj:j < vs.length:=(yk.mp hy).1;obtain ⟨r,er,q,rfl,hq⟩:=tp.at hy;have wl:ws.length=j*(lvN B).toNat:=by
     rw [tw.1,Jn6 (m:=(lvN B).toNat) λx _=>by rw [yf,Jkx],yaf,Jmh,ycf (by omega)]
    have wl2:j*(lvN B).toNat+(lvN B).toNat<=prN Ds*(lvN B).toNat:=by
     rw [<-Nat.succ_mul];exact Nat.mul_le_mul_right _ (by omega)
    have s02:=sm.trans s2;refine ⟨_,rfl,.inl ⟨rfl,_,Ss.of hLs⟩,_,rfl,t5,_,1,_,rfl,rfl,SqT.of (s02 _ _ ht5),rfl,_,rfl,t5,_,2,_,rfl,rfl,SqT.of (s02 _ _ ht5),rfl,_,_,rfl,rfl,_,_,rfl,⟨by omega,by omega,by omega,by omega⟩,λD hD=>?_⟩;have en:(C.hi+1 - C.lo).toNat=(lvN B).toNat:=by omega
    have rlen:r.length<=16:=by
     have q1:∀(Ds:List Bsn) (r:List Int),r∈lvL Ds->r.length=Ds.length:=by
      intro Ds
      induction Ds with
      |nil=>intro r hr;rw [yan.mp hr];rfl
      |cons B Ds ih=>
       intro r hr;obtain ⟨l,hl,hr⟩:=List.mem_flatMap.mp hr;obtain ⟨n,_,rfl⟩:=yab.mp hr;rw [yac,ih l hl];rfl
     have q2:=q1 Ds r (yv er);have q3:=congrArg ybq ed;rw [ycj,yac] at q3;have:=s4.n4;omega
    refine Jt9 TpR ((rgI (lvN B).toNat).map λk=>(B.lo+k)::r) (TpR.mn D) hD (by rw [yf,Jkx,en]) (by omega) ?_ ?_
    ·intro m y H3 Q' hy sm3 _ k';have hm:m < (lvN B).toNat:=by
      have:=(yk.mp hy).1;rw [yf,Jkx] at this;exact this
     rw [ym] at hy;unfold rgI at hy;rw [ym,List.getElem?_range hm] at hy;cases hy;refine ⟨_,rfl,(show 1<=S6 by decide),λp1 hp1=>?_⟩;have sp:=Si.upd (o:=.tup [V.int (C.lo+(m:Int))]) hp1;refine ⟨_,rfl,p1,q,_,_,rfl,rfl,So,sp _ _ (sm3 _ _ (s2 _ _ hq)),Jkt _ (by rw [yf];show 1+_<=2000;omega),λz H4 s4' hz=>k' _ _ (sp.trans s4') ⟨z,rfl,?_⟩⟩;rw [hz,e1];rfl
    ·intro ys H3 s3 hD3 ty;have yl:=ty.1;rw [yf,Jkx] at yl;have hL3:=s3 _ _ hLs;refine ⟨L,D,ws,ys,rfl,rfl,hL3,hD3,Jkt _ (by omega),_,ws++ys,rfl,So,?_,λc u e=>?_⟩
     ·have tk:=OnD.grow (zs:=ws++ys) hL3;rw [yad,er,List.flatMap_append];refine Sa6.on (TpR.mn L) tk (Sa6.append (tw.on (TpR.mn L) (OnD.same s3)) ?_);show Sa6 TpR _ ys (List.flatMap _ [r]);rw [List.flatMap_singleton];exact ty
     ·rw [Sy (Jjm e hL)];exact s3 _ _ (s2 _ _ e)
   ·rintro σ H2 ⟨o4,ws,rfl,hLs,tw,s2⟩;rw [vl,yaj (by rw [Jmh];exact yg _)] at tw;exact ⟨_,rfl,L,ws,_,_,_,rfl,hLs,tw,sm.trans s2⟩
  rintro σ H2 ⟨Rw,vs,o2,o3,o4,rfl,hRw,tp,s2⟩;rw [bll,<-ll,Nat.sub_self,List.drop_zero] at tp;have vl:=tp.1;rw [Jmh] at vl;refine ⟨(show 0<=S6 by decide),λL hL=>?_⟩;have sL:=Si.upd (o:=.lst []) hL;refine ⟨_,rfl,Rw,rfl,⟨_,Ss.of (sL _ _ hRw)⟩,?_⟩;refine Jlr (xs:=vs) (λj σ H'=>∃(o4:Option V) (ws:List V),σ= [some (.ref t),some (.ref Rw),o2,o3,o4,some (.ref L)]/\H' L=some (.lst ws)/\Sa6 StR H' ws (((lvL S.Bs).take j).flatMap λls=>(rgI (S.c+1).toNat).map λwt=>(ls,wt))/\Si H2 H') ?_ ?_ ?_ ?_
  ·exact ⟨_,[],rfl,So,.nil,sL⟩
  ·rintro j σ H' _ ⟨_,_,_,_,_,sm⟩;exact Ss.of (sm _ _ hRw)
  ·rintro j y σ H' hy ⟨o4,ws,rfl,hLs,tw,sm⟩;have hj:j < vs.length:=(yk.mp hy).1;obtain ⟨r,er,q,rfl,hq⟩:=tp.at hy;have s02:=s2.trans sm;have wl:ws.length=j*(S.c+1).toNat:=by
    rw [tw.1,Jn6 (m:=(S.c+1).toNat) λx _=>by rw [yf,Jkx],yaf,Jmh,ycf (by omega)]
   have wl2:j*(S.c+1).toNat+(S.c+1).toNat<=(stL S).length:=by
    have e:=Jn6 (m:=(S.c+1).toNat) (f:=λls=>(rgI (S.c+1).toNat).map λwt:Int=>(ls,wt)) (l:=lvL S.Bs) λx _=>by rw [yf,Jkx]
    have e':(stL S).length=prN S.Bs*(S.c+1).toNat:=by rw [<-Jmh];exact e
    rw [e',<-Nat.succ_mul];exact Nat.mul_le_mul_right _ (by omega)
   have ec:=lk.c;refine ⟨_,rfl,.inl ⟨rfl,_,Ss.of hLs⟩,_,rfl,t,_,0,_,rfl,rfl,SqT.of (s02 _ _ ht),rfl,_,_,rfl,rfl,_,rfl,by omega,by omega,λD hD=>?_⟩;refine Jt9 StR ((rgI (S.c+1).toNat).map λwt=>(r,wt)) (StR.mn D) hD (by rw [yf,Jkx,ec]) (by omega) ?_ ?_
   ·intro m y H3 Q' hy sm3 _ k';have hm:m < (S.c+1).toNat:=by
     have:=(yk.mp hy).1;rw [yf,Jkx] at this;exact this
    rw [ym] at hy;unfold rgI at hy;rw [ym,List.getElem?_range hm] at hy;cases hy;refine ⟨_,rfl,_,rfl,(show 2<=S6 by decide),λp1 hp1=>?_⟩;have sp:=Si.upd (o:=.tup [.ref q,V.int (0+(m:Int))]) hp1;refine k' _ _ sp ⟨p1,q,rfl,?_,sp _ _ (sm3 _ _ (sm _ _ hq))⟩;rw [So,Int.zero_add]
   ·intro ys H3 s3 hD3 ty;have yl:=ty.1;rw [yf,Jkx] at yl;have hL3:=s3 _ _ hLs;refine ⟨L,D,ws,ys,rfl,rfl,hL3,hD3,Jkt _ (by omega),_,ws++ys,rfl,So,?_,λc u e=>?_⟩
    ·have tk:=OnD.grow (zs:=ws++ys) hL3;rw [yad,er,List.flatMap_append];refine Sa6.on (StR.mn L) tk (Sa6.append (tw.on (StR.mn L) (OnD.same s3)) ?_);show Sa6 StR _ ys (List.flatMap _ [r]);rw [List.flatMap_singleton];exact ty
    ·rw [Sy (Jjm e hL)];exact s3 _ _ (sm _ _ e)
  ·rintro σ H' ⟨o4,ws,rfl,hLs,tw,sm⟩;rw [vl,yaj (by rw [Jmh];exact yg _)] at tw;have h0:H L=none:=by
    cases e:H L with
    |none=>rfl
    |some u=>rw [s2 _ _ e] at hL;cases hL
   exact ⟨_,rfl,k L ws H' h0 (s2.trans sm) hLs tw⟩
theorem Yk {R:Riv} {l:List (Int×Int)} (h0:∀p∈l,0<=p.1) (nd:(l.map (·.1)).Nodup) {i:Nat} {B:Bsn} (e:R.Bs[i]?=some B):(∃v,Jmi (kvI l) (yaa (i:Int))=some (.int v)/\(Jmb R (some l))[i]?=some [v])\/(Jmi (kvI l) (yaa (i:Int))=none/\(Jmb R (some l))[i]?=some (rgI B.n)):=by
 have go:∀(l:List (Int×Int)) (rs:List (List Int)) (r:List Int),(∀p∈l,0<=p.1)->(l.map (·.1)).Nodup->rs[i]?=some r->(∃v,Jmi (kvI l) (yaa (i:Int))=some (.int v)/\(l.foldl (λrs p=>rs.set p.1.toNat [p.2]) rs)[i]?=some [v])\/(Jmi (kvI l) (yaa (i:Int))=none/\(l.foldl (λrs p=>rs.set p.1.toNat [p.2]) rs)[i]?=some r):=by
  intro l
  induction l with
  |nil=>exact λrs r _ _ e=>.inr ⟨rfl,e⟩
  |cons p l ih=>
   intro rs r hp nd e;rw [yap,ybp] at nd;have p0:=hp p yy;have hi:i < rs.length:=(yk.mp e).1;by_cases c:(i:Int)=p.1
   ·have e1:Jmi (kvI (p::l)) (yaa (i:Int))=some (.int p.2):=by
     unfold Jmi kvI;rw [yap,List.find?_cons,decide_eq_true (show ((yaa p.1,V.int p.2):Key×V).1=yaa (i:Int) by rw [c])];rfl
    refine .inl ⟨p.2,e1,?_⟩;rcases ih (rs.set p.1.toNat [p.2]) [p.2] (λq hq=>hp q (yq _ hq)) nd.2 (by rw [List.getElem?_set,if_pos (by omega),if_pos (by omega)]) with ⟨v,q1,_⟩|⟨_,q2⟩
    ·exfalso;have q:=Jyf (i:Int) l;rw [q1,decide_eq_false (by rw [c];exact nd.1)] at q;cases q
    ·exact q2
   ·have e1:Jmi (kvI (p::l)) (yaa (i:Int))=Jmi (kvI l) (yaa (i:Int)):=by
     unfold Jmi kvI;rw [yap,List.find?_cons,decide_eq_false (show ¬((yaa p.1,V.int p.2):Key×V).1=yaa (i:Int) from λz=>c (yaa.inj z).symm)]
    rw [e1];exact ih (rs.set p.1.toNat [p.2]) r (λq hq=>hp q (yq _ hq)) nd.2 (by rw [List.getElem?_set,if_neg (by omega)];exact e)
 exact go l (R.Bs.map λB=>rgI B.n) (rgI B.n) h0 nd (by rw [ym,e];rfl)
inductive Smp (vs:List V) (H:Hp) (Q:VK) (z3:XK):Prop where
 |mk (p:S1) (x y:V) (R:Jlw) (S:Riv) (l:List (Int×Int)) (_:vs= [x,y]) (_:Seh p H x R) (_:Jpe R) (_:Jtv R S) (_:Jyg S) (_:Sii H y l) (_:SkT R l) (_:(∀B∈S.Bs,B.n<=4)) (_:∀(L:S1) (us:List V) (H':Hp),H L=none->Si H H'->H' L=some (.lst us)->CcL H' us (chL S (some l))->Q (.ref L) H')
theorem Sz:Jjp ["_law_told","_law_stuck_here","_law_found","_law_place","_law_one","_law_some","_law_longer","_law_settings","_law_every"] ["_law_told","_law_stuck_here"] (Jjl (top 102)):=%[|0]
theorem Js4 (T:Tx K mg a):Sr P w K mg base CX0 1 a.Ji3 a.Ji4 ["_law_told","_law_stuck_here"] Smp:=by
 refine %[T.Ja9.fn.ok,Sz|2]
 ·obtain ⟨p,x,y,R,S,l,rfl,_⟩:=h;rfl
 ·obtain ⟨p,x,y,R,S,l,rfl,⟨t,lb,lt,bs,ts,rfl,ht,hb,btl,htt,ttl,nb,nt⟩,rg,lk,s4,dk,sk,n4',k⟩:=h;have hu64:=Jog hr;refine ⟨?t,?B,?C⟩
  case B=>
   refine' Sx ?O0 ?O1
   case O0=>exact (Jjt (i:=2) Sz.nd rfl (ye rfl) (Jki (Sj (Jkw Sl) Sl)))
   case O1=>
   refine' Sx ?O2 ?O3
   case O2=>
    refine' Jlm ?O4 ?O5 ?O6 ?O7 ?O8
    case O4=>exact PassesOwn.never
    case O5=>exact rfl
    case O6=>exact (Jy5 (by rfl) T.Jav (Sj (Jjx Jka (pv 0) Sn (λ_ _=>rfl)) Sl))
    case O7=>exact (Jqg rfl (Jk3 (Jjq (i:=3) Sz.nd rfl (ye rfl)) (Jk3 (Jjq (i:=4) Sz.nd rfl (ye rfl)) Jlv)))
    case O8=>
    refine' Sx ?O9 ?Oa
    case O9=>exact (Jjt (i:=5) Sz.nd rfl (ye rfl) (Jkk (Jmw rfl) (by rfl) T.Jaz Jlg (Sj (Jkk Jq6 (by rfl) T.Jb2 Jrp (Sj (Jjn Jjr (by rfl) T.Jay Jkh (Sj (Jjx Jka (Jjx Jka (pv 4) Sn (λ_ _=>rfl)) Sn (λ_ _=>rfl)) Sl)) Sl)) Sl)))
    case Oa=>
    refine' Sx ?Ob ?Oc
    case Ob=>
     refine' Jk4 ?Od ?Oe ?Of
     case Od=>exact (Jkj (Jx1 hu64) (pv 3) (pv 1) (by with_unfolding_all rfl))
     case Oe=>
      refine' Jjj ?Og
      case Og=>exact (Jjt (i:=5) Sz.nd rfl (ye rfl) (Jki (Sj (Ys hu64 (pv 1) (pv 3) (λ_ _=>rfl)) Sl)))
     case Of=>exact Jjs
    case Oc=>
    refine' Sx ?Oh ?Oi
    case Oh=>exact (Jjt (i:=6) Sz.nd rfl (ye rfl) (Jki Sl))
    case Oi=>
    refine' Sx ?Oj ?Ok
    case Oj=>
     refine' Jlm ?Ol ?Om ?On ?Oo ?Op
     case Ol=>exact PassesOwn.never
     case Om=>exact rfl
     case On=>exact (Jkm (pv 2))
     case Oo=>exact (Jjq (i:=7) Sz.nd rfl (yak rfl))
     case Op=>
     refine' Jjj ?Oq
     case Oq=>exact (Jlh (Jpn F.plainAttrs_list F.slot_list_extend F.type_list_extend Joj (pv 6) (Sj (Jk2 (N:=(["_law_setting","_law_settings"]:List Str)) (ini:=[none,some 7]) rfl (Jkm (pv 5)) (λ_ _ _ _ _=>(Jjq (i:=0) (by decide +kernel:(["_law_setting","_law_settings"]:List Str).Nodup) rfl (ye rfl))) (λ_ _ _ _ _=>Jk1) (λ_ _ _ _ _=>(Jju Jpl (pv 1) (Jkw (Sj (pv 0) Sl))))) Sl)))
    case Ok=>
    refine' Jjj ?Or
    case Or=>exact (Jjt (i:=2) Sz.nd rfl (ye rfl) (pv 6))
   case O3=>
   refine' Sx ?Os ?Ot
   case Os=>exact (Jjt (i:=8) Sz.nd rfl (ye rfl) (Jki Sl))
   case Ot=>
   refine' Sx ?Ou ?Ov
   case Ou=>
    refine' Jlm ?Ow ?Ox ?Oy ?Oz ?U0
    case Ow=>exact PassesOwn.never
    case Ox=>exact rfl
    case Oy=>exact (Jkm (pv 2))
    case Oz=>exact (Jjq (i:=7) Sz.nd rfl (yak rfl))
    case U0=>
    refine' Jjj ?U1
    case U1=>exact (Jlh (Jpn F.plainAttrs_list F.slot_list_extend F.type_list_extend Joj (pv 8) (Sj (Jk2 (N:=(["_law_town","_law_settings"]:List Str)) (ini:=[none,some 7]) rfl (Jkm (Jju Jup (Jki (Sj Jll Sl)) (Jkk (Jmw rfl) (by rfl) T.Jaz Jlg (Sj (Jkk Jq6 (by rfl) T.Jb2 Jrp (Sj (Jjn Jjr (by rfl) T.Jay Jkh (Sj (Jjx Jka (pv 0) Sn (λ_ _=>rfl)) Sl)) Sl)) Sl)))) (λ_ _ _ _ _=>(Jjq (i:=0) (by decide +kernel:(["_law_town","_law_settings"]:List Str).Nodup) rfl (ye rfl))) (λ_ _ _ _ _=>Jk1) (λ_ _ _ _ _=>(Jkw (Sj (pv 1) (Sj (pv 0) Sl))))) Sl)))
   case Ov=>
   refine' Jjj ?U2
   case U2=>exact (Jjo (pv 8))
  obtain ⟨d,rfl,rd⟩:=id dk;have bll:=btl.len;have ll:=Jpg lk;have n4:=s4.n4;have r4:=Jvl S (some l) n4';have ln:=Yj S (some l);have l0:∀q∈l,0<=q.1:=λq hq=>(sk.2 q hq).1;refine ⟨(show 0<=S6 by decide),λe0 he0=>⟨(show 1<=S6 by decide),λl0' hl0=>?_⟩⟩;have s0:Si H (upd (upd H e0 (.tup [])) l0' (.lst [.ref e0])):=(Si.upd he0).trans (Si.upd hl0);have tp0:TpL (upd (upd H e0 (.tup [])) l0' (.lst [.ref e0])) [.ref e0] [[]]:=TpL.one ((Si.upd hl0) _ _ So);have g0:=So (H:=upd H e0 (.tup [])) (a:=l0') (o:=.lst [.ref e0]);generalize upd (upd H e0 (.tup [])) l0' (.lst [.ref e0])=H0 at*;refine ⟨_,rfl,t,_,2,_,rfl,rfl,SqT.of (s0 _ _ ht),rfl,lb,rfl,⟨_,Ss.of (s0 _ _ hb)⟩,?_⟩;refine Jxt (xs:=bs) (λi σ H'=>∃(Rw:S1) (vs:List V) (o3 o4 o5 o6 o7:Option V),σ= [some (.ref t),some (.ref d),some (.ref Rw),o3,o4,o5,o6,o7,none]/\H' Rw=some (.lst vs)/\TpL H' vs (rwN S (some l) i)/\Si H H') ⟨l0', [.ref e0],_,_,_,_,_,rfl,g0,tp0,s0⟩ (λi σ H' _ ⟨_,_,_,_,_,_,_,_,_,_,sm⟩=>Ss.of (sm _ _ hb)) ?_ ?_
  ·rintro i x σ H' Ta hx ⟨Rw,vs,o3,o4,o5,o6,o7,rfl,hRw,tp,sm⟩ hT;obtain ⟨C,hC,t5,gv,rfl,ht5,gt⟩:=btl.get hx;obtain ⟨B,hB,ek⟩:=Juc lk hC;have hi:i < S.Bs.length:=(yk.mp hB).1;have e5:B.n=nOf C.G:=congrArg (·.2.2.2.2.2) ek;have hn4:=n4' B (yv hB);have sT:=Si.upd (o:=.tup [V.int i,.ref t5]) hT;have smT:=sm.trans sT;have h5:=smT _ _ ht5;obtain ⟨tg,mg,eg,hm,nm,hg⟩:=gt;subst eg;have htg:∃g2,H tg=some (.tup ([.str C.G.kd,.ref mg]++g2)):=by
    rcases hg with ⟨_,q⟩|⟨j,m2,_,q,_⟩
    ·exact ⟨[],q⟩
    ·exact ⟨[.ref m2,.int j],q⟩
   obtain ⟨g2,htg⟩:=htg;refine ⟨Ta,_,rfl,SqT.of So,rfl,_,_,rfl,_,_,rfl,rfl,?_⟩;refine ⟨_,rfl,t5,_,5,_,rfl,rfl,SqT.of h5,rfl,tg,_,1,_,rfl,rfl,SqT.of (smT _ _ htg),Jwf (j:=1) rfl rfl,mg,_,rfl,.inl (Ss.of (smT _ _ hm)),_,rfl,λp1 hp1=>⟨p1,_,_,rfl,So,by omega,by omega,by omega,?_,λl2 hl2=>?_⟩⟩
   ·rw [yf,Jwc,<-e5];omega
   have er:((yay ((((G1 C.G).map V.int).length:Int) - 0).toNat).map λk:Nat=>V.int (0+k))=(rgI B.n).map V.int:=by
    unfold rgI;rw [yat,Int.sub_zero,yaz,yf,Jwc,e5];exact List.map_congr_left λk _=>by simp
   rw [er];have s3:Si (upd H' Ta (.tup [V.int i,.ref t5])) (upd (upd (upd H' Ta (.tup [V.int i,.ref t5])) p1 (.rng 0 (((G1 C.G).map V.int).length:Int))) l2 (.lst ((rgI B.n).map V.int))):=(Si.upd hp1).trans (Si.upd hl2);have g3:=So (H:=upd (upd H' Ta (.tup [V.int i,.ref t5])) p1 (.rng 0 (((G1 C.G).map V.int).length:Int))) (a:=l2) (o:=.lst ((rgI B.n).map V.int));generalize upd (upd (upd H' Ta (.tup [V.int i,.ref t5])) p1 (.rng 0 (((G1 C.G).map V.int).length:Int))) l2 (.lst ((rgI B.n).map V.int))=H3 at*;have sm3:=smT.trans s3;obtain ⟨d',ed,rd3⟩:=dk.same sm3;cases ed;refine Jvp (Jyb (λσ Hb=>∃(N:S1) (ns:List Int),σ= [some (.ref t),some (.ref d),some (.ref Rw),some (.int i),some (.ref t5),some (.ref N),o6,o7,none]/\Hb N=some (.lst (ns.map V.int))/\(Jmb S (some l))[i]?=some ns/\Si H3 Hb) (λM hM=>?_) ?_)
   ·rcases Yk l0 sk.1 hB with ⟨v,v1,v2⟩|⟨v1,v2⟩
    ·refine ⟨_,rfl,_,rfl,d,_,rfl,.inl ⟨_,yaa (i:Int),rd3,rfl,rfl⟩,_,rfl,ifT (by rw [v1];rfl) ?_⟩;refine ⟨_,rfl,_,rfl,d,_,rfl,.inl ⟨_,yaa (i:Int),rd3,rfl,v1.symm⟩,(show 1<=S6 by decide),λN hN=>hM _ _ ⟨N,[v],rfl,So,v2,Si.upd hN⟩⟩
    ·exact ⟨_,rfl,_,rfl,d,_,rfl,.inl ⟨_,yaa (i:Int),rd3,rfl,rfl⟩,_,rfl,ifF (by rw [v1];rfl) (hM _ _ ⟨l2,_,rfl,g3,v2,Si.refl _⟩)⟩
   rintro σ H4 ⟨N,ns,rfl,hN4,ens,s34⟩;have sm4:=sm3.trans s34;have sR4:=(sT.trans s3).trans s34;have rl:=r4 ns (yv ens);obtain ⟨b1,b2⟩:=Yaa (R:=S) (sk:=some l) r4 i (by omega);have b3:=Nat.mul_le_mul b1 rl;have b4:=Spr (i:=i) (by omega);have vl:=tp.1;have tp4:=TpL.on (λq xs e=>sR4 _ _ e) tp;have hRw4:=sR4 _ _ hRw;rw [Jw2 ens];refine ⟨(show 0<=S6 by decide),λL hL=>?_⟩;have sL:=Si.upd (o:=.lst []) hL;refine ⟨_,rfl,Rw,rfl,⟨_,Ss.of (sL _ _ hRw4)⟩,?_⟩;refine Jlr (xs:=vs) (λj σ H2=>∃(o7:Option V) (ws:List V),σ= [some (.ref t),some (.ref d),some (.ref Rw),some (.int i),some (.ref t5),some (.ref N),some (.ref L),o7,none]/\H2 L=some (.lst ws)/\TpL H2 ws (lgR ((rwN S (some l) i).take j) ns)/\Si H4 H2) ⟨_,[],rfl,So,.nil,sL⟩ (λj σ H2 _ ⟨_,_,_,_,_,s2⟩=>Ss.of (s2 _ _ hRw4)) ?_ ?_
   ·rintro j y σ H2 hy ⟨o7,ws,rfl,hLs,tw,s2⟩;have hj:j < vs.length:=(yk.mp hy).1;obtain ⟨r,er,q,rfl,hq⟩:=tp4.at hy;have r100:=b2 r (yv er);have wl:ws.length+ns.length<=(rwN S (some l) i).length*ns.length:=by
     rw [tw.1,Jxy,yaf,ycf (by omega)];have:=Nat.mul_le_mul_right ns.length (show j+1<=(rwN S (some l) i).length by omega);rw [Nat.succ_mul] at this;exact this
    refine ⟨_,rfl,.inl ⟨rfl,_,Ss.of hLs⟩,_,rfl,N,rfl,⟨_,Ss.of (s2 _ _ hN4)⟩,λD hD=>?_⟩;refine Jrt (K:=K) (xs:=ns.map V.int) TpR (ns.map λn=>r++ [n]) (TpR.mn D) hD (by simp) (by rw [yf];omega) (s2 _ _ hN4) ?_ ?_
    ·intro j y e H3 Q' hy he s3' _ k';rw [ym] at hy he;cases en:ns[j]? with
     |none=>rw [en] at hy;cases hy
     |some n=>
      rw [en] at hy he;cases hy;cases he;refine ⟨_,rfl,_,rfl,(show 1<=S6 by decide),λp hp=>?_⟩;have sp:=Si.upd (o:=.tup [V.int n]) hp;refine ⟨q,p,_,_,rfl,rfl,sp _ _ (s3' _ _ (s2 _ _ hq)),So,Jkt _ (by rw [yf];show _+1<=2000;omega),λz H4 s4' hz=>k' _ _ (sp.trans s4') ⟨z,rfl,?_⟩⟩;rw [hz,yam];rfl
    ·intro ys H3 s3' hDs ty;have yl:=ty.1;rw [yf] at yl;have hL2:=s3' _ _ hLs;refine ⟨L,D,ws,ys,rfl,rfl,hL2,hDs,Jkt _ (by omega),_,ws++ys,rfl,So,?_,λc u e=>?_⟩
     ·rw [Yl er];exact Sa6.on (TpR.mn L) (OnD.grow hL2) (Sa6.append (Sa6.on (TpR.mn L) (OnD.same s3') tw) ty)
     ·rw [Sy (Jjm e hL)];exact s3' _ _ (s2 _ _ e)
   ·rintro σ H2 ⟨o7,ws,rfl,hLs,tw,s2⟩;rw [yaj (by omega)] at tw;exact ⟨_,rfl,L,ws,_,_,_,_,_,rfl,hLs,tw,sm4.trans s2⟩
  rintro σ H2 ⟨Rw,vs,o3,o4,o5,o6,o7,rfl,hRw,tp,s2⟩;rw [bll,<-ll] at tp;have vl:=tp.1;obtain ⟨b1,b2⟩:=Yaa (R:=S) (sk:=some l) r4 S.Bs.length (by omega);have b5:=Spq n4;have tll:=ttl.len;have tl2:S.Ts.length=R.Ts.length:=by have:=congrArg ybq lk.Ts;simpa using this
  have t3:=rg.tn;have twl:(twL S).length<=4:=by
   unfold twL;rw [yac,yf,Jkx];omega
  refine ⟨(show 0<=S6 by decide),λL hL=>?_⟩;have sL:=Si.upd (o:=.lst []) hL;refine ⟨_,rfl,Rw,rfl,⟨_,Ss.of (sL _ _ hRw)⟩,?_⟩;refine Jlr (xs:=vs) (λi σ H'=>∃(o7:Option V) (ws:List V),σ= [some (.ref t),some (.ref d),some (.ref Rw),o3,o4,o5,o6,o7,some (.ref L)]/\H' L=some (.lst ws)/\CcL H' ws (((rwN S (some l) S.Bs.length).take i).flatMap λr=>(twL S).map λt=>(r,t))/\ws.length<=4*i/\Si H2 H') ⟨_,[],rfl,So,.nil,yg 0,sL⟩ (λi σ H' _ ⟨_,_,_,_,_,_,sm⟩=>Ss.of (sm _ _ hRw)) ?_ ?_
  ·rintro i y σ H' hy ⟨o7,ws,rfl,hLs,cc,wl,sm⟩;have hi:i < vs.length:=(yk.mp hy).1;obtain ⟨r,err,q,rfl,hq⟩:=tp.at hy;have s02:=s2.trans sm;refine ⟨_,rfl,.inl ⟨rfl,_,Ss.of hLs⟩,(show 1<=S6 by decide),λa1 ha1=>?_⟩;have s3:=Si.upd (o:=.lst [V.non]) ha1;refine ⟨_,rfl,t,_,3,_,rfl,rfl,SqT.of (s3 _ _ (s02 _ _ ht)),rfl,lt,_,rfl,.inl (Ss.of (s3 _ _ (s02 _ _ htt))),_,rfl,λp hp=>⟨p,_,_,rfl,So,by omega,by omega,by omega,by omega,λl2 hl2=>?_⟩⟩;have er:((yay ((ts.length:Int) - 0).toNat).map λk:Nat=>V.int (0+k))=((rgI S.Ts.length).map some).map twV:=by
    unfold rgI;rw [yat,yat,Int.sub_zero,yaz,tll,tl2];exact List.map_congr_left λk _=>by simp [twV]
   rw [er];have s4':=Si.upd (o:=.rng 0 (ts.length:Int)) hp;have s5:=Si.upd (o:=.lst (((rgI S.Ts.length).map some).map twV)) hl2;have tz: [V.non].length+(((rgI S.Ts.length).map some).map twV).length<=S6:=Jkt _ (by rw [yf,yf,Jkx];show 1+_<=2000;omega);refine ⟨a1,l2,_,_,rfl,rfl,s5 _ _ (s4' _ _ So),So,tz,λTW hTW=>?_⟩;have e6: [V.non]++((rgI S.Ts.length).map some).map twV=(twL S).map twV:=rfl;rw [e6];have s36:=((s3.trans s4').trans s5).trans (Si.upd (o:=.lst ((twL S).map twV)) hTW);have g6:=So (H:=upd (upd (upd H' a1 (.lst [V.non])) p (.rng 0 (ts.length:Int))) l2 (.lst (((rgI S.Ts.length).map some).map twV))) (a:=TW) (o:=.lst ((twL S).map twV));generalize upd (upd (upd (upd H' a1 (.lst [V.non])) p (.rng 0 (ts.length:Int))) l2 (.lst (((rgI S.Ts.length).map some).map twV))) TW (.lst ((twL S).map twV))=H6 at*;refine ⟨TW,rfl,⟨_,Ss.of g6⟩,λD hD=>?_⟩;refine Jrt (K:=K) (xs:=(twL S).map twV) CcR ((twL S).map λt=>(r,t)) (CcR.mn D) hD (by simp) (by rw [yf];omega) g6 ?_ ?_
   ·intro j z e H7 Q' hz he s7 _ k';rw [ym] at hz he;cases en:(twL S)[j]? with
    |none=>rw [en] at hz;cases hz
    |some n=>
     rw [en] at hz he;cases hz;cases he;refine ⟨_,rfl,_,rfl,(show 2<=S6 by decide),λp hp=>?_⟩;have sp:=Si.upd (o:=.tup [.ref q,twV n]) hp;exact k' _ _ sp ⟨p,q,rfl,So,sp _ _ (s7 _ _ (s36 _ _ (sm _ _ hq)))⟩
   ·intro ys H7 s7 hDs ty;have yl:=ty.1;rw [yf] at yl;have s67:=s36.trans s7;have hL2:=s67 _ _ hLs;refine ⟨L,D,ws,ys,rfl,rfl,hL2,hDs,Jkt _ (by omega),_,ws++ys,rfl,So,?_,by rw [yx];omega,λc u e=>?_⟩
    ·rw [yad,err,List.flatMap_append];refine Sa6.on (CcR.mn L) (OnD.grow hL2) (Sa6.append (Sa6.on (CcR.mn L) (OnD.same s67) cc) ?_);show CcL _ ys (List.flatMap _ [r]);rw [List.flatMap_singleton];exact ty
    ·rw [Sy (Jjm e hL)];exact s67 _ _ (sm _ _ e)
  ·rintro σ H' ⟨o7,ws,rfl,hLs,cc,wl,sm⟩;rw [vl,ycn] at cc;have h0:H L=none:=by
    cases e:H L with
    |none=>rfl
    |some u=>rw [s2 _ _ e] at hL;cases hL
   exact ⟨_,rfl,k L ws H' h0 (s2.trans sm) hLs cc⟩
theorem Yc6 {b:Int} (b1:1<=b):∀(ns:List Int),(∀n∈ns,0<=n/\n<=b)->0<=Jnq ns/\Jnq ns<=b^ns.length:=by
 have go:∀(ns:List Int) (c A:Int),0<=c->c<=A->(∀n∈ns,0<=n/\n<=b)->0<=ns.foldl (·*·) c/\ns.foldl (·*·) c<=A*b^ns.length:=by
  intro ns
  induction ns with
  |nil=>
   intro c A c0 cA _;rw [List.length_nil,Int.pow_zero,Int.mul_one];exact ⟨c0,cA⟩
  |cons n ns ih=>
   intro c A c0 cA h;have h2:=h n yy;have q:=ih (c*n) (A*b) (Int.mul_nonneg c0 h2.1) (Int.mul_le_mul cA h2.2 h2.1 (Int.le_trans c0 cA)) λm hm=>h m (yq _ hm);rw [yac,Int.pow_succ,Int.mul_comm (b^ns.length) b,<-Int.mul_assoc];exact q
 intro ns h;have q:=go ns 1 1 (by decide) (by decide) h;rw [Int.one_mul] at q;exact q
theorem Jvm {R:Jlw} {S:Riv} (lk:Jtv R S) {B:Bsn} (h:B∈S.Bs):∃C∈R.Bs,Jv8 B=Jw6 C:=by
 have q:Jv8 B∈R.Bs.map Jw6:=by rw [<-lk.Bs];exact yba h
 obtain ⟨C,hC,e⟩:=yab.mp q;exact ⟨C,hC,e.symm⟩
theorem Spj {R:Jlw} {S:Riv} (lg:Jzq R) (rg:Jpe R) (lk:Jtv R S):Jyg S/\stN S<=2000:=by
 obtain ⟨n,L,C,M,T,r,hm,hn,hC,hT,hB⟩:=lg;have ll:=Jpg lk;have ec:=lk.c;have gc:=rg.c;have bas:∀B∈S.Bs,(1<=lvN B/\lvN B<=(L:Int))/\(0<=B.lo/\B.lo<=12)/\lvN B<=13:=λB hB'=>by
  obtain ⟨D,hD,ek⟩:=Jvm lk hB';have e1:B.lo=D.lo:=congrArg (·.2.1) ek;have e2:B.hi=D.hi:=congrArg (·.2.2.1) ek;have g:=(rg.Bs D hD).1;have g1:=g.lo;have g2:=g.hi;have l:=hB D hD;have l1:=l.s;unfold lvN;omega
 have main:n<=4->1<=L->(L:Int)^n*C<=2000->Jyg S/\stN S<=2000:=λh4 l1 k2=>by
  refine ⟨⟨by omega,λB hB'=>?_,by omega⟩,?_⟩
  ·have:=bas B hB';omega
  ·have q1:=Yc6 (b:=(L:Int)) (by omega) (S.Bs.map lvN) λx hx=>by
    obtain ⟨B,hB',rfl⟩:=yab.mp hx;have:=bas B hB';omega
   rw [yf,ll,hn] at q1;exact Int.le_trans (Int.mul_le_mul q1.2 (by omega) (by omega) (Int.le_trans q1.1 q1.2)) k2
 simp only [yr,ybe,or_false,Prod.mk.injEq] at hm;rcases hm with ⟨rfl,rfl,rfl,rfl,rfl,rfl⟩|⟨rfl,rfl,rfl,rfl,rfl,rfl⟩|⟨rfl,rfl,rfl,rfl,rfl,rfl⟩|⟨rfl,rfl,rfl,rfl,rfl,rfl⟩|⟨rfl,rfl,rfl,rfl,rfl,rfl⟩
 all_goals exact main (by decide) (by decide) (by decide)
noncomputable def Flt (x:V):Prop:=Jlx x=true\/∃a,x= .ref a
inductive NdT (H:Hp):V->Prop where
 |non:NdT H .non
 |bl (b:Bool):NdT H (.bl b)
 |int (i:Int):NdT H (.int i)
 |str (x:Str):NdT H (.str x)
 |tup {p:S1} {xs:List V}:H p=some (.tup xs)->(∀x∈xs,Flt x)->xs.length<=40->NdT H (.ref p)
 |lst {p:S1} {xs:List V}:H p=some (.lst xs)->(∀x∈xs,Flt x)->xs.length<=40->NdT H (.ref p)
theorem NdT.ty {K:Sd} {H:Hp} {x:V} (h:NdT H x):∃t,TyX K H x t/\Se K t (.type "dict")=some false:=by
 cases h with
 |non=>exact ⟨_,.of .non,rfl⟩
 |bl b=>exact ⟨_,.of (.bl b),rfl⟩
 |int i=>exact ⟨_,.of (.int i),rfl⟩
 |str x=>exact ⟨_,.of (.str x),rfl⟩
 |tup e _ _=>exact ⟨_,.of (.tup e),rfl⟩
 |lst e _ _=>exact ⟨_,.of (.lst e),rfl⟩
theorem NdT.but {p:S1} {H H':Hp} {x:V} (n:x≠ .ref p) (b:But p H H') (h:NdT H x):NdT H' x:=by
 cases h with
 |non=>exact .non
 |bl b=>exact .bl b
 |int i=>exact .int i
 |str x=>exact .str x
 |tup e f l=>exact .tup (b.1 _ _ (λz=>n (by rw [z])) e) f l
 |lst e f l=>exact .lst (b.1 _ _ (λz=>n (by rw [z])) e) f l
inductive Sqd (vs:List V) (H:Hp) (Q:VK) (z3:XK):Prop where
 |mk (p:S1) (_:vs= [.ref p]) (_:Sb7 H p) (_:∀(x:V) (H':Hp),But p H H'->NdT H' x->Q x H')
theorem Sdc:Jjp ["_law_stream_here","_law_some"] ["_law_stream_here"] (Jjl (top 105)):=%[|0]
theorem Jul (T:Tx K mg a):Sr P w K mg base CX0 2 a.Ji9 a.Jia ["_law_stream_here"] Sqd:=by
 have Sk:=%[Jks|1];refine %[T.Jac.fn.ok,Sdc|2]
 ·obtain ⟨p,rfl,_⟩:=h;rfl
 ·obtain ⟨p,rfl,st,k⟩:=h;refine ⟨?t,?B,?C⟩
  case B=>
   refine' Sx ?O0 ?O1
   case O0=>
    refine' Jjt (i:=1) ?O2 ?O3 ?O4 ?O5 ?O6 ?O7
    case O2=>exact Sdc.nd
    case O3=>exact rfl
    case O4=>exact (ye rfl)
    case O6=>exact Jsj
    case O7=>first|exact .inl rfl|exact .inr rfl
    case O5=>
    refine' Jki ?O8
    case O8=>
    refine' Sv0 ?O9 ?Oa ?Ob ?Oc ?Od ?Oe ?Of ?Og ?Oh ?Oi ?Oj ?Ok ?Ol ?Om ?On
    case O9=>exact Jll
    case Oa=>exact Sn
    case Ob=>exact Jko
    case Oc=>exact Jko
    case Od=>exact Jlu
    case Oe=>exact Jlu
    case Of=>exact (Jy4 Jv1 Sn)
    case Og=>exact (Jju Yp Sn Sn)
    case Oh=>exact (Jkw Sl)
    case Oi=>exact (Jki Sl)
    case Oj=>exact (Jkw (Sj (Jkw Sl) Sl))
    case Ok=>exact (Jki (Sj (Jki Sl) Sl))
    case Ol=>exact (Jkw (Sj Sn (Sj Jpp Sl)))
    case Om=>exact (Jkw (Sj (Jki Sl) (Sj (Jki Sl) Sl)))
    case On=>exact Jlu
   case O1=>
   refine' Jjj ?Oo
   case Oo=>exact (Jjo (Jjx Jkg (pv 1) (Jji T.Ja1 Sk hr (by decide) (Sj (pv 0) (Sj (Jjn Jjr (by rfl) T.Jay Jkh (Sj (pv 1) Sl)) Sl))) (λ_ _=>rfl)))
  have sm:Si H H:=λ_ _ h=>h;refine ⟨_,rfl,_,_,rfl,rfl,⟨by decide,by decide,by decide⟩,(show 0<=S6 by decide),λt0 n_t0=>?_⟩;have m_t0:=Si.upd (o:=.tup []) n_t0;have g_t0:=So (H:=H) (a:=t0) (o:=.tup []);generalize upd H t0 (.tup [])=H_t0 at*;replace sm:=sm.trans m_t0;refine ⟨(show 0<=S6 by decide),λl0 n_l0=>?_⟩;have m_l0:=Si.upd (o:=.lst []) n_l0;have g_l0:=So (H:=H_t0) (a:=l0) (o:=.lst []);generalize upd H_t0 l0 (.lst [])=H_l0 at*;replace g_t0:=m_l0 _ _ g_t0;replace sm:=sm.trans m_l0;refine ⟨(show 0<=S6 by decide),λa0 n_a0=>?_⟩;have m_a0:=Si.upd (o:=.tup []) n_a0;have g_a0:=So (H:=H_l0) (a:=a0) (o:=.tup []);generalize upd H_l0 a0 (.tup [])=H_a0 at*;replace g_t0:=m_a0 _ _ g_t0;replace g_l0:=m_a0 _ _ g_l0;replace sm:=sm.trans m_a0;refine ⟨(show 1<=S6 by decide),λa1 n_a1=>?_⟩;have m_a1:=Si.upd (o:=.tup [.ref a0]) n_a1;have g_a1:=So (H:=H_a0) (a:=a1) (o:=.tup [.ref a0]);generalize upd H_a0 a1 (.tup [.ref a0])=H_a1 at*;replace g_t0:=m_a1 _ _ g_t0;replace g_l0:=m_a1 _ _ g_l0;replace g_a0:=m_a1 _ _ g_a0;replace sm:=sm.trans m_a1;refine ⟨(show 0<=S6 by decide),λb0 n_b0=>?_⟩;have m_b0:=Si.upd (o:=.lst []) n_b0;have g_b0:=So (H:=H_a1) (a:=b0) (o:=.lst []);generalize upd H_a1 b0 (.lst [])=H_b0 at*;replace g_t0:=m_b0 _ _ g_t0;replace g_l0:=m_b0 _ _ g_l0;replace g_a0:=m_b0 _ _ g_a0;replace g_a1:=m_b0 _ _ g_a1;replace sm:=sm.trans m_b0;refine ⟨(show 1<=S6 by decide),λb1 n_b1=>?_⟩;have m_b1:=Si.upd (o:=.lst [.ref b0]) n_b1;have g_b1:=So (H:=H_b0) (a:=b1) (o:=.lst [.ref b0]);generalize upd H_b0 b1 (.lst [.ref b0])=H_b1 at*;replace g_t0:=m_b1 _ _ g_t0;replace g_l0:=m_b1 _ _ g_l0;replace g_a0:=m_b1 _ _ g_a0;replace g_a1:=m_b1 _ _ g_a1;replace g_b0:=m_b1 _ _ g_b0;replace sm:=sm.trans m_b1;refine λd0 n_d0=>?_;have m_d0:=Si.upd (o:=.dK []) n_d0;have g_d0:=So (H:=H_b1) (a:=d0) (o:=.dK []);generalize upd H_b1 d0 (.dK [])=H_d0 at*;replace g_t0:=m_d0 _ _ g_t0;replace g_l0:=m_d0 _ _ g_l0;replace g_a0:=m_d0 _ _ g_a0;replace g_a1:=m_d0 _ _ g_a1;replace g_b0:=m_d0 _ _ g_b0;replace g_b1:=m_d0 _ _ g_b1;replace sm:=sm.trans m_d0;refine ⟨(show 2<=S6 by decide),λe1 n_e1=>?_⟩;have m_e1:=Si.upd (o:=.tup [.int 1,.ref d0]) n_e1;have g_e1:=So (H:=H_d0) (a:=e1) (o:=.tup [.int 1,.ref d0]);generalize upd H_d0 e1 (.tup [.int 1,.ref d0])=H_e1 at*;replace g_t0:=m_e1 _ _ g_t0;replace g_l0:=m_e1 _ _ g_l0;replace g_a0:=m_e1 _ _ g_a0;replace g_a1:=m_e1 _ _ g_a1;replace g_b0:=m_e1 _ _ g_b0;replace g_b1:=m_e1 _ _ g_b1;replace g_d0:=m_e1 _ _ g_d0;replace sm:=sm.trans m_e1;refine ⟨(show 0<=S6 by decide),λf0 n_f0=>?_⟩;have m_f0:=Si.upd (o:=.lst []) n_f0;have g_f0:=So (H:=H_e1) (a:=f0) (o:=.lst []);generalize upd H_e1 f0 (.lst [])=H_f0 at*;replace g_t0:=m_f0 _ _ g_t0;replace g_l0:=m_f0 _ _ g_l0;replace g_a0:=m_f0 _ _ g_a0;replace g_a1:=m_f0 _ _ g_a1;replace g_b0:=m_f0 _ _ g_b0;replace g_b1:=m_f0 _ _ g_b1;replace g_d0:=m_f0 _ _ g_d0;replace g_e1:=m_f0 _ _ g_e1;replace sm:=sm.trans m_f0;refine ⟨(show 0<=S6 by decide),λf1 n_f1=>?_⟩;have m_f1:=Si.upd (o:=.lst []) n_f1;have g_f1:=So (H:=H_f0) (a:=f1) (o:=.lst []);generalize upd H_f0 f1 (.lst [])=H_f1 at*;replace g_t0:=m_f1 _ _ g_t0;replace g_l0:=m_f1 _ _ g_l0;replace g_a0:=m_f1 _ _ g_a0;replace g_a1:=m_f1 _ _ g_a1;replace g_b0:=m_f1 _ _ g_b0;replace g_b1:=m_f1 _ _ g_b1;replace g_d0:=m_f1 _ _ g_d0;replace g_e1:=m_f1 _ _ g_e1;replace g_f0:=m_f1 _ _ g_f0;replace sm:=sm.trans m_f1;refine ⟨(show 2<=S6 by decide),λf2 n_f2=>?_⟩;have m_f2:=Si.upd (o:=.tup [.ref f0,.ref f1]) n_f2;have g_f2:=So (H:=H_f1) (a:=f2) (o:=.tup [.ref f0,.ref f1]);generalize upd H_f1 f2 (.tup [.ref f0,.ref f1])=H_f2 at*;replace g_t0:=m_f2 _ _ g_t0;replace g_l0:=m_f2 _ _ g_l0;replace g_a0:=m_f2 _ _ g_a0;replace g_a1:=m_f2 _ _ g_a1;replace g_b0:=m_f2 _ _ g_b0;replace g_b1:=m_f2 _ _ g_b1;replace g_d0:=m_f2 _ _ g_d0;replace g_e1:=m_f2 _ _ g_e1;replace g_f0:=m_f2 _ _ g_f0;replace g_f1:=m_f2 _ _ g_f1;replace sm:=sm.trans m_f2;refine ⟨(show 15<=S6 by decide),λL n_L=>?_⟩;have m_L:=Si.upd (o:=.lst [.non,.int 5,.bl true,.bl false,.str "",.str "table",.int (-1),.int (10^(60:Int).toNat),.ref t0,.ref l0,.ref a1,.ref b1,.ref e1,.ref f2,.str "{}"]) n_L;have g_L:=So (H:=H_f2) (a:=L) (o:=.lst [.non,.int 5,.bl true,.bl false,.str "",.str "table",.int (-1),.int (10^(60:Int).toNat),.ref t0,.ref l0,.ref a1,.ref b1,.ref e1,.ref f2,.str "{}"]);generalize upd H_f2 L (.lst [.non,.int 5,.bl true,.bl false,.str "",.str "table",.int (-1),.int (10^(60:Int).toNat),.ref t0,.ref l0,.ref a1,.ref b1,.ref e1,.ref f2,.str "{}"])=H_L at*;replace g_t0:=m_L _ _ g_t0;replace g_l0:=m_L _ _ g_l0;replace g_a0:=m_L _ _ g_a0;replace g_a1:=m_L _ _ g_a1;replace g_b0:=m_L _ _ g_b0;replace g_b1:=m_L _ _ g_b1;replace g_d0:=m_L _ _ g_d0;replace g_e1:=m_L _ _ g_e1;replace g_f0:=m_L _ _ g_f0;replace g_f1:=m_L _ _ g_f1;replace g_f2:=m_L _ _ g_f2;replace sm:=sm.trans m_L;have st':=st.same sm;refine ⟨_,rfl,_,rfl,_,rfl,L,_,rfl,.inl (Ss.of g_L),p,15,rfl,st',by decide,Jlp (by decide),λr H3 r0 r1 b3=>?_⟩;have nl:∀{H1:Hp} {q:S1},Si H H1->H1 q=none->V.ref q≠ .ref p:=λs1 e z=>by
   obtain ⟨x,y,z',h⟩:=st;cases z;rw [s1 _ _ h] at e;cases e
  have fr:∀q:S1,Flt (.ref q):=λq=>.inr ⟨q,rfl⟩;have fi:∀i:Int,Flt (.int i):=λi=>.inl rfl;have m1:=m_t0;have m2:=m1.trans m_l0;have m3:=m2.trans m_a0;have m5:=(m3.trans m_a1).trans m_b0;have m7:=(m5.trans m_b1).trans m_d0;have m10:=((m7.trans m_e1).trans m_f0).trans m_f1;have all:∀v∈([.non,.int 5,.bl true,.bl false,.str "",.str "table",.int (-1),.int (10^(60:Int).toNat),.ref t0,.ref l0,.ref a1,.ref b1,.ref e1,.ref f2,.str "{}"]:List V),NdT H_L v/\v≠ .ref p:=
   all_cons ⟨.non,nofun⟩ <|all_cons ⟨.int _,nofun⟩ <|all_cons ⟨.bl _,nofun⟩ <|all_cons ⟨.bl _,nofun⟩ <|all_cons ⟨.str _,nofun⟩ <|all_cons ⟨.str _,nofun⟩ <|all_cons ⟨.int _,nofun⟩ <|all_cons ⟨.int _,nofun⟩ <|
   all_cons ⟨.tup g_t0 (λ_ z=>nomatch z) (by decide),nl (λ_ _ h=>h) n_t0⟩ <|all_cons ⟨.lst g_l0 (λ_ z=>nomatch z) (by decide),nl m1 n_l0⟩ <|
   all_cons ⟨.tup g_a1 (all_cons (fr _) λ_ z=>nomatch z) (show 1<=40 by decide),nl m3 n_a1⟩ <|all_cons ⟨.lst g_b1 (all_cons (fr _) λ_ z=>nomatch z) (show 1<=40 by decide),nl m5 n_b1⟩ <|
   all_cons ⟨.tup g_e1 (all_cons (fi _) (all_cons (fr _) λ_ z=>nomatch z)) (show 2<=40 by decide),nl m7 n_e1⟩ <|all_cons ⟨.tup g_f2 (all_cons (fr _) (all_cons (fr _) λ_ z=>nomatch z)) (show 2<=40 by decide),nl m10 n_f2⟩ <|
   all_cons ⟨.str _,nofun⟩ λ_ z=>nomatch z
  obtain ⟨v,hv,e⟩:=Jq0 (xs:=([.non,.int 5,.bl true,.bl false,.str "",.str "table",.int (-1),.int (10^(60:Int).toNat),.ref t0,.ref l0,.ref a1,.ref b1,.ref e1,.ref f2,.str "{}"]:List V)) r0 r1;obtain ⟨nd,np⟩:=all v hv;have nL:L≠p:=λz=>nl ((m10.trans m_f2)) n_L (by rw [z]);exact ⟨L,_,r,v,rfl,rfl,Ss.of (b3.1 _ _ nL g_L),e,k v H3 ((But.of st sm).trans b3) (nd.but np b3)⟩
inductive KyT (K:Sd) (H:Hp) (n:Nat) (x:V):Prop where
 |mk (kk:Ky) (_:Sb1 K H x kk.py) (_:kk.py.canLay0=true) (_:kk.py.depth<=n)
theorem KyT.ok {K:Sd} {H:Hp} {n:Nat} {x:V} (h:KyT K H n x) (l:n<=6):∃kk:Ky,Sb1 K H x kk.py/\kk.ok 6=true:=by
 obtain ⟨kk,h1,h2,h3⟩:=h;refine ⟨kk,h1,?_⟩;unfold Ky.ok;rw [h2,decide_eq_true (yae h3 l)];rfl
theorem Yg {K:Sd} {H:Hp}:KyT K H 1 .non:=⟨.non,.non,rfl,by decide⟩
theorem Jub {K:Sd} {H:Hp} (i:Int):KyT K H 1 (.int i):=⟨.int i,.int i,rfl,by simp [Ky.py,PyData.depth]⟩
theorem Yh {K:Sd} {H:Hp} {n:Nat}:∀{vs:List V},(∀v∈vs,KyT K H n v)->∃ks:List Ky,Sax K H vs (Kys.py ks)/\PyData.canLayAll0 (Kys.py ks)=true/\PyData.depthAll (Kys.py ks)<=n
 | [],_=>⟨[],.nil,rfl,by simp [Kys.py,PyData.depthAll]⟩
 |v::vs,h=>by
  obtain ⟨kk,h1,h2,h3⟩:=h v yy;obtain ⟨ks,g1,g2,g3⟩:=Yh λx hx=>h x (yq _ hx);refine ⟨kk::ks,.cons h1 g1,?_,?_⟩
  ·show (kk.py.canLay0&&PyData.canLayAll0 (Kys.py ks))=true;rw [h2,g2];rfl
  ·simp only [Kys.py,PyData.depthAll];omega
theorem Jmm {K:Sd} {H:Hp} {n:Nat} {p:S1} {vs:List V} (h:H p=some (.tup vs)) (g:∀v∈vs,KyT K H n v):KyT K H (n+1) (.ref p):=by
 obtain ⟨ks,g1,g2,g3⟩:=Yh g;refine ⟨.tup ks,.tup (SqT.of h) g1,g2,?_⟩;simp only [Ky.py,PyData.depth];omega
noncomputable def KpT (H:Hp) (x y:V):Prop:=y=x\/∃p q xs,x= .ref p/\y= .ref q/\H p=some (.lst xs)/\H q=some (.lst xs)
inductive Ska (K:Sd) (w:S9) (vs:List V) (H:Hp) (Q:VK) (z3:XK):Prop where
 |mk (x:V) (_:vs= [x]) (_:((NdT H x/\∀y H',Si H H'->KpT H' x y->Q y H')\/∃d o k u v,x= .ref d/\DcA K w H d o [k] [u] [v]/\k.ok 6=true/\∀b o' H',Si H H'->H' b=some (DR b o' [u] [k.hash w] [v])->Q (.ref b) H'))
theorem Jw4:Jjp ["_law_thing_here"] ["_law_thing_here"] (Jjl (top 109)):=%[|0]
theorem Jvt (T:Tx K mg a):Sr P w K mg base CX0 1 a.Jih a.Jii ["_law_thing_here"] (Ska K w):=by
 refine %[T.Jag.fn.ok,Jw4|2]
 ·obtain ⟨x,rfl,_⟩:=h;rfl
 ·obtain ⟨x,rfl,h⟩:=h;have hu64:=Jog hr;refine ⟨?t,?B,?C⟩
  case B=>
   refine' Sx ?O0 ?O1
   case O0=>
    refine' Jk4 ?O2 ?O3 ?O4
    case O2=>exact (Jk0 (Jjn Jq4 (by rfl) T.Jax Jjv (Sj (pv 0) (Sj (Jkr (v:=.ty "dict") (by rfl) T.Jau Jrh rfl) Sl))))
    case O3=>
     refine' Jjj ?O5
     case O5=>exact (Jjo (Jkk (Jwj hu64) (by rfl) T.Jau Jrh (Sj (pv 0) Sl)))
    case O4=>exact Jjs
   case O1=>
   refine' Sx ?O6 ?O7
   case O6=>
    refine' Jk4 ?O8 ?O9 ?Oa
    case O8=>exact (Jk0 (Jjn Jl2 (by rfl) T.Jax Jjv (Sj (pv 0) (Sj (Jkr (v:=.ty "list") (by rfl) T.Jaz Jlg rfl) Sl))))
    case O9=>
     refine' Jjj ?Ob
     case Ob=>exact (Jjo (Jkk Jmf (by rfl) T.Jaz Jlg (Sj (pv 0) Sl)))
    case Oa=>exact Jjs
   case O7=>
   refine' Jjj ?Oc
   case Oc=>exact (Jjo (pv 0))
  rcases h with ⟨nd,k⟩|⟨d,o,kk,u,v,rfl,dc,ko,k⟩
  ·obtain ⟨t,ty,e⟩:=nd.ty (K:=K);refine ⟨_,rfl,x,rfl,.inr ⟨t,ty,e,_,rfl,Jk9 ?_⟩⟩;by_cases c:∃p xs,x= .ref p/\H p=some (.lst xs)
   ·obtain ⟨p,xs,rfl,hp⟩:=c;refine ⟨_,rfl,_,_,_,.type "list",true,rfl,rfl,.of (.lst hp),rfl,_,rfl,Jkf ?_⟩;exact ⟨_,rfl,p,xs,rfl,.inl (Ss.of hp),λl hl=>k _ _ (Si.upd hl) (.inr ⟨p,l,xs,rfl,rfl,Si.upd hl _ _ hp,So⟩)⟩
   ·obtain ⟨t',ty',e'⟩:∃t,TyX K H x t/\Se K t (.type "list")=some false:=by
     cases nd with
     |non=>exact ⟨_,.of .non,rfl⟩
     |bl b=>exact ⟨_,.of (.bl b),rfl⟩
     |int i=>exact ⟨_,.of (.int i),rfl⟩
     |str x=>exact ⟨_,.of (.str x),rfl⟩
     |tup e _ _=>exact ⟨_,.of (.tup e),rfl⟩
     |lst e _ _=>exact absurd ⟨_,_,rfl,e⟩ c
    exact ⟨_,rfl,x,_,_,t',_,rfl,rfl,ty',e',_,rfl,Jk9 ⟨_,rfl,k x H (λ_ _ h=>h) (.inl rfl)⟩⟩
  ·refine ⟨_,rfl,_,rfl,.inl ⟨d,o,_,_,_,rfl,dc.hp,_,rfl,Jkf ?_⟩⟩;exact ⟨_,rfl,d,o,u,kk,v,rfl,dc,ko,λp o' hp=>k p o' _ (Si.upd hp) So⟩
noncomputable def BdA (K:Sd) (H:Hp) (v:V):Prop:=(∃t,TyX K H v t/\Se K t (.type "dict")=some false)\/∃d o h c r,v= .ref d/\H d=some (DR d o [c] [h] [.non])/\PrT K H c r
theorem BdA.same {K:Sd} {H H':Hp} {v:V} (s:Si H H') (h:BdA K H v):BdA K H' v:=by
 rcases h with ⟨t,h1,h2⟩|⟨d,o,h,c,r,e,h1,h2⟩
 ·exact .inl ⟨t,Jli s h1,h2⟩
 ·exact .inr ⟨d,o,h,c,r,e,s _ _ h1,h2.same s⟩
inductive Sq6 (K:Sd) (a:Ad) (vs:List V) (H:Hp) (Q:VK) (z3:XK):Prop where
 |mk (o:S1) (R:Riv) (x y v:V) (sk:Option (List (Int×Int))) (r:Pr) (_:vs= [.ref o,x,y,v]) (_:Sb4 K a H o R) (_:Sc2 H x sk) (_:Jrn R sk) (_:PrT K H y r) (_:stB R r=true) (_:BdA K H v) (_:∀H',Si H H'->Q (.bl false) H')
theorem Jsc:Jjp ["river","stuck","standing","thing"] ["river","stuck","standing","thing"] (Jjl (top 47)):=%[|0]
theorem Js1 (T:Tx K mg a):Sr P w K mg base CX0 6 a.Jfz a.Jg0 ["river","stuck","standing","thing"] (Sq6 K a):=by
 have Se1:=%[Jr9|1];have Sag:=%[Jm3|1];have Sgk:=%[Jwz|1];refine %[T.Ji.fn.ok,Jsc|2]
 ·obtain ⟨o,R,x,y,v,sk,r,rfl,_⟩:=h;rfl
 ·obtain ⟨o,R,x,y,v,sk,r,rfl,ro,sa,so,py,es,bd,k⟩:=h;refine ⟨?t,?B,?C⟩
  case B=>
   refine' Sx ?O0 ?O1
   case O0=>
    refine' Jk4 ?O2 ?O3 ?O4
    case O2=>exact (PW.pt (Joy (Jk5 (Jk0 (Jjn Jq4 (by rfl) T.Jax Jjv (Sj (pv 3) (Sj (Jkr (v:=.ty "dict") (by rfl) T.Jau Jrh rfl) Sl))))) (Jnh (Jkj Jy1 (Jjn Jyi (by rfl) T.Jay Jkh (Sj (pv 3) Sl)) (Jji T.Jd Se1 hr (by decide) (Sj (pv 0) (Sj (pv 1) Sl))) (Jkn _)))))
    case O3=>
     refine' Jjj ?O5
     case O5=>exact (Jjo Jko)
    case O4=>exact Jjs
   case O1=>
   refine' Jjj ?O6
   case O6=>exact (Jjo (Jjn (Jku rfl) (by rfl) T.Jar Jlj (Sj (Jk2 (N:=(["choice","rain","river","stuck","standing"]:List Str)) (ini:=[none,none,some 0,some 1,some 2]) rfl (Jqh (pv 3)) (λ_ _ _ _ _=>(Jol (K:=K) (n:=2) rfl rfl (Jk3 (Jjq (i:=0) (by decide +kernel:(["choice","rain","river","stuck","standing"]:List Str).Nodup) rfl (ye rfl)) (Jk3 (Jjq (i:=1) (by decide +kernel:(["choice","rain","river","stuck","standing"]:List Str).Nodup) rfl (ye rfl)) Jlv)))) (λ_ _ _ _ _=>Jk1) (λ_ _ _ _ _=>(Jmd (Jji T.Ja Sag hr (by decide) (Sj (pv 2) (Sj (pv 3) (Sj (pv 0) Sl)))) (Jn0 (Jji T.J9 Sgk.calm hr (by decide) (Sj (pv 2) (Sj (pv 4) (Sj (pv 1) Sl)))))))) Sl)))
  rcases bd with ⟨t,ty,ek⟩|⟨d,o',h,c,rc,rfl,hd,pc⟩
  ·refine ⟨_,rfl,v,rfl,.inr ⟨t,ty,ek,_,rfl,Jkf ?_⟩⟩;exact Jkf (k _ λ_ _ h=>h)
  ·refine ⟨_,rfl,_,rfl,.inl ⟨d,o',_,_,_,rfl,hd,_,rfl,Jk9 ?_⟩⟩;refine ⟨_,rfl,d,o',_,_,_,rfl,hd,(show 1<=1000 by decide),_,rfl,_,rfl,o,R,x,sk,rfl,ro,sa,so,λH1 s1=>?_⟩;by_cases en:chN R sk=1
   ·refine ⟨rfl,_,rfl,ifF (by simp [en]) ?_⟩;refine ⟨_,rfl,d,o', [c],[h],[.non],rfl,s1 _ _ hd,λD hD=>?_⟩;refine Jn5 [.bl false] hD rfl (show 1<=2000 by decide) rfl (s1 _ _ hd) (λi x' u z H' Q' hx hu hz sm k'=>?_) λH2 s2 hD1=>?_
    ·obtain rfl:i=0:=by
      have:=(yk.mp hx).1;simpa using this
     cases hx;cases hu;cases hz;have sm':=s1.trans sm;refine ⟨_,rfl,_,rfl,_,rfl,o,R,x,_,sk,rc,rfl,ro.same sm',sa.same sm',so,pc.same sm',λb H5 s5 eb=>⟨_,rfl,?_⟩⟩;cases b with
     |false=>exact Jk9 (k' _ s5)
     |true=>
      have s6:=sm'.trans s5;refine Jkf ⟨_,rfl,_,rfl,_,rfl,o,R,y,r,.non,none,rfl,ro.same s6,py.same s6,⟨_,.of .non,rfl⟩,?_⟩;rw [if_pos es];exact λH6 s7=>k' _ (s5.trans s7)
    ·exact ⟨D,[false],rfl,Ss.of hD1,k _ (s1.trans s2)⟩
   ·exact ⟨rfl,_,rfl,ifT (by simp;omega) (k _ s1)⟩
noncomputable def twB (R:Riv):Option (List V)->Bool
 |some [u,v]=>Jsw u&&Jjw v 0 ((R.Ts.length:Int) - 1)
 |_=>false
inductive Sqi (K:Sd) (a:Ad) (vs:List V) (H:Hp) (Q:VK) (z3:XK):Prop where
 |mk (o:S1) (R:Riv) (u:V) (rp:Option (List V)) (_:vs= [.ref o,u]) (_:Sb4 K a H o R) (_:Sdu K H u rp) (_:∀H',Si H H'->Q (.bl (twB R rp)) H')
theorem Jrf:Jjp ["river","thing"] ["river","thing"] (Jjl (top 56)):=%[|0]
theorem Jra (T:Tx K mg a):Sr P w K mg base CX0 3 a.Jgf a.Jgg ["river","thing"] (Sqi K a):=by
 have Sar:=%[Jmp|1];have Sb3:=%[Jmo|1];have Sw:=%[Jkz|1];refine %[T.Jq.fn.ok,Jrf|2]
 ·obtain ⟨o,R,u,rp,rfl,_⟩:=h;rfl
 ·obtain ⟨o,R,u,rp,rfl,ro,rt,k⟩:=h;refine ⟨?t,?B,?C⟩
  case B=>
   refine' Jjj ?O0
   case O0=>exact (Jjo (Jmd (Jji T.J5 Sar hr (by decide) (Sj (pv 1) Sl)) (Jmd (Jji T.Je Sb3 hr (by decide) (Sj (Jjx Jka (pv 1) Sn (λ_ _=>rfl)) Sl)) (Jn0 (Jji T.J0 Sw hr (by decide) (Sj (Jjx Jka (pv 1) Sn (λ_ _=>rfl)) (Sj Sn (Sj (Jju Jmc (Jjn Jjr (by rfl) T.Jay Jkh (Sj (Jlb (pv 0) (by rfl)) Sl)) Sn) Sl))))))))
  have k0:=k H λ_ _ h=>h;cases rp with
  |none=>exact ⟨_,rfl,u,none,rfl,rt,_,rfl,Jk9 k0⟩
  |some vs=>
   obtain ⟨p,rfl,hp,tms,_⟩:=rt;by_cases l2:vs.length=2
   ·obtain ⟨x,y,rfl⟩:∃x y,vs= [x,y]:=by
     match vs,l2 with
     | [x,y],_=>exact ⟨x,y,rfl⟩
    refine ⟨_,rfl,_,some [x,y],rfl,⟨p,rfl,hp⟩,_,rfl,Jkf ?_⟩;refine ⟨_,rfl,p,_,0,x,rfl,rfl,SqT.of hp,rfl,x,rfl,tms x (by simp),_,rfl,?_⟩;have k1:Q (.bl (Jsw x&&Jjw y 0 ((R.Ts.length:Int) - 1))) H:=k0;cases eo:Jsw x with
    |false=>
     rw [eo,yax] at k1;exact Jk9 k1
    |true=>
     rw [eo,ybf] at k1;obtain ⟨dx,b,t,os,ts,ho,hb,bl,ht,tl,n1,n2,n3⟩:=ro;have tln:=tl.len;refine Jkf ⟨_,rfl,p,_,1,y,rfl,rfl,SqT.of hp,rfl,_,rfl,o,_,dx,_,_,rfl,ho,T.Jdh,T.Je5,rfl,t,_,rfl,.inr (SqT.of ht),_,_,rfl,rfl,y,0,(R.Ts.length:Int) - 1,by rw [yf,tln];rfl,tms y (by simp),k1⟩
   ·have e:twB R (some vs)=false:=by
     match vs,l2 with
     | [],_=>rfl
     | [_],_=>rfl
     | [_,_],z=>exact absurd rfl z
     |_::_::_::_,_=>rfl
    rw [e] at k0;exact ⟨_,rfl,_,some vs,rfl,⟨p,rfl,hp⟩,_,rfl,ifF (decide_eq_false l2) k0⟩
noncomputable abbrev lb_is_unserved_table:Array (Nat×Nat×Str):=#[((Jp1 (Si1 (top 57))).line,(Jp1 (Si1 (top 57))).col,"is_unserved_table.<locals>.<lambda>")]
inductive Svi (K:Sd) (a:Ad) (cs:List V) (vs:List V) (H:Hp) (Q:VK) (z4:XK):Prop where
 |mk (o:S1) (R:Riv) (u:V) (rp:Option (List V)) (_:cs= [.ref o]) (_:vs= [u]) (_:Sb4 K a H o R) (_:Sdu K H u rp) (_:∀H',Si H H'->Q (.bl (twB R rp)) H')
noncomputable def Sqk (K:Sd) (a:Ad) (f:S1):Sp:=Yah "is_unserved_table.<locals>.<lambda>" (Si1 (top 57)) ["river"] (Svi K a) f
noncomputable def HdC (K:Sd) (a:Ad) (H:Hp) (fh:S1) (u:V) (b:Bool):Prop:=(fh=a.Jfr/\Tm K H u/\Jsw u=b)\/∀H' Q',Si H H'->(∀H'',Si H' H''->Q' (.bl b) H'')->Sqk K a fh [u] H' Q' E0
noncomputable def PvB (K:Sd) (a:Ad) (H:Hp) (fh:S1) (v:V):Prop:=(∃t,TyX K H v t/\Se K t (.type "tuple")=some false)\/(∃p vs,v= .ref p/\H p=some (.tup vs)/\vs.length≠2)\/∃p u w' b,v= .ref p/\H p=some (.tup [u,w'])/\HdC K a H fh u b/\(b=true->BdA K H w')
inductive Svh (K:Sd) (a:Ad) (vs:List V) (H:Hp) (Q:VK) (z3:XK):Prop where
 |mk (o:S1) (R:Riv) (x z:V) (sk:Option (List (Int×Int))) (t:Tb) (fh:S1) (_:vs= [.ref o,x,z,.ref fh]) (_:Sb4 K a H o R) (_:Sc2 H x sk) (_:Jrn R sk) (_:TbT K H z t) (_:(∀y v r,t= .e1 y v r->stB R r=true->PvB K a H fh v)) (_:∀H',Si H H'->Q (.bl (emB t)) H')
theorem Jn2:Jpd ["head","river"] ["head"] ["river"] (Jk6 (Si1 (top 57))):=⟨rfl,rfl,rfl,by decide +kernel,rfl,by decide +kernel,by decide +kernel,by decide +kernel⟩
theorem Jz1 (T:Tx K mg a) (f:S1):Jv4 P w K mg base CX0 4 f (Sqk K a f):=by
 have Se3:=%[Jra|1];refine Ybn Jn2 (λ_ _ _ _ us hl=>by obtain ⟨_,rfl⟩:=lv1 us hl;rfl) (λcs vs H Q E h=>?_) (λf c clos A outer s H vs cs Q E hr h=>?_) f
 ·obtain ⟨o,R,u,rp,rfl,rfl,_⟩:=h;exact ⟨rfl,rfl⟩
 ·obtain ⟨o,R,u,rp,rfl,rfl,ro,rt,k⟩:=h;refine ⟨_,(Jji T.Jq Se3 hr (by decide) (Sj (pv 1) (Sj (pv 0) Sl))),?_⟩;exact ⟨_,rfl,_,rfl,o,R,u,rp,rfl,ro,rt,k⟩
theorem Jsd:Jjp ["river","stuck","table","is_head"] ["river","stuck","table","is_head"] (Jjl (top 48)):=%[|0]
theorem Jo5 (T:Tx K mg a):Sr P w K mg base CX0 7 a.Jg1 a.Jg2 ["river","stuck","table","is_head"] (Svh K a):=by
 have Saf:=%[Jm2|1];have Sar:=%[Jmp|1];have Sb3:=%[Jmo|1];have Seb:=%[Js1|1];have GL_head:=λf=>Jz1 (P:=P) (w:=w) (base:=base) T f;refine %[T.Jj.fn.ok,Jsd|2]
 ·obtain ⟨o,R,x,z,sk,t,fh,rfl,_⟩:=h;rfl
 ·obtain ⟨o,R,x,z,sk,t,fh,rfl,ro,sa,so,tb,nv,k⟩:=h;refine ⟨?t,?B,?C⟩
  case B=>
   refine' Sx ?O0 ?O1
   case O0=>
    refine' Jk4 ?O2 ?O3 ?O4
    case O2=>exact (Jk5 (Jk0 (Jji T.Jf Saf hr (by decide) (Sj (pv 0) (Sj (pv 2) Sl)))))
    case O3=>
     refine' Jjj ?O5
     case O5=>exact (Jjo Jko)
    case O4=>exact Jjs
   case O1=>
   refine' Jjj ?O6
   case O6=>
   refine' Jjo ?O7
   case O7=>exact (Jjn (Jku rfl) (by rfl) T.Jar Jlj (Sj (Jk2 (N:=(["standing","value","is_head","river","stuck"]:List Str)) (ini:=[none,none,some 3,some 0,some 1]) rfl (Jqh (pv 2)) (λ_ _ _ _ _=>(Jol (K:=K) (n:=2) rfl rfl (Jk3 (Jjq (i:=0) (by decide +kernel:(["standing","value","is_head","river","stuck"]:List Str).Nodup) rfl (ye rfl)) (Jk3 (Jjq (i:=1) (by decide +kernel:(["standing","value","is_head","river","stuck"]:List Str).Nodup) rfl (ye rfl)) Jlv)))) (λ_ _ _ _ _=>Jk1) (λ_ _ _ _ _=>(Jmd (Jji T.J5 Sar hr (by decide) (Sj (pv 1) Sl)) (Jmd (Jz4 rfl rfl rfl rfl rfl T.Je Sb3 GL_head hr (by decide) (by decide) 2 (Sj (Jjx (Jrk (K:=K) rfl) (pv 1) Sn (λ_ _=>rfl)) Sl)) (Jn0 (Jji T.Ji Seb hr (by decide) (pa4 (pv 3) (pv 4) (pv 0) (Jjx (Jrk (K:=K) rfl) (pv 1) Sn (λ_ _=>rfl))))))))) Sl))
  refine ⟨_,rfl,_,rfl,o,R,z,t,rfl,ro,tb,λH1 s1=>⟨_,rfl,?_⟩⟩;cases eh:hsB R t with
  |false=>
   have e:emB t=false:=by
    cases t <;> first|rfl|cases eh
   rw [e] at k;exact Jkf (k _ s1)
  |true=>
   refine Jk9 ?_;cases t with
   |nd=>cases eh
   |e0=>
    obtain ⟨d,o',rfl,hd⟩:=tb;refine ⟨_,rfl,d,o', [],[],[],rfl,s1 _ _ hd,λD hD=>?_⟩;refine Jn5 [] hD rfl (yw _) rfl (s1 _ _ hd) (λi x u y H' Q' hx=>nomatch hx) λH2 s2 hD1=>?_;exact ⟨D,[],rfl,Ss.of hD1,k _ (s1.trans s2)⟩
   |e1 y v r=>
    obtain ⟨d,o',h,rfl,hd,pr⟩:=tb;have pv':=nv y v r rfl eh;refine ⟨_,rfl,d,o', [y],[h],[v],rfl,s1 _ _ hd,λD hD=>?_⟩;refine Jn5 [.bl false] hD rfl (show 1<=2000 by decide) rfl (s1 _ _ hd) (λi x' u z H' Q' hx hu hz sm k'=>?_) λH2 s2 hD1=>?_
    ·obtain rfl:i=0:=by
      have:=(yk.mp hx).1;simpa using this
     cases hx;cases hu;cases hz;have sm':=s1.trans sm;have kk:=k' H' λ_ _ h=>h;rcases pv' with ⟨t,ty,ek⟩|⟨p,vs,rfl,hp,ne⟩|⟨p,u,w',b,rfl,hp,hc,hb⟩
     ·exact ⟨_,rfl,_,none,rfl,⟨t,Jli sm' ty,ek⟩,_,rfl,Jk9 kk⟩
     ·exact ⟨_,rfl,_,some vs,rfl,⟨p,rfl,sm' _ _ hp⟩,_,rfl,ifF (decide_eq_false ne) kk⟩
     ·refine ⟨_,rfl,_,some [u,w'],rfl,⟨p,rfl,sm' _ _ hp⟩,_,rfl,Jkf ?_⟩;have hp':=sm' _ _ hp;rcases hc with ⟨rfl,tm,eo⟩|hc
      ·refine .inl ⟨rfl,_,rfl,p,_,0,u,rfl,rfl,SqT.of hp',rfl,u,rfl,tm.same sm',_,rfl,?_⟩;rw [eo];cases b with
       |false=>exact Jk9 kk
       |true=>exact Jkf ⟨_,rfl,_,rfl,_,rfl,_,rfl,p,_,1,w',rfl,rfl,SqT.of hp',rfl,o,R,x,_,w',sk,r,rfl,ro.same sm',sa.same sm',so,pr.same sm',eh,(hb rfl).same sm',λH6 s6=>k' _ s6⟩
      ·refine .inr ⟨fh,rfl,_,rfl,p,_,0,u,rfl,rfl,SqT.of hp',rfl,hc H' _ sm' λH5 s5=>⟨_,rfl,?_⟩⟩;have s6:=sm'.trans s5;cases b with
       |false=>exact Jk9 (k' _ s5)
       |true=>exact Jkf ⟨_,rfl,_,rfl,_,rfl,_,rfl,p,_,1,w',rfl,rfl,SqT.of (s6 _ _ hp),rfl,o,R,x,_,w',sk,r,rfl,ro.same s6,sa.same s6,so,pr.same s6,eh,(hb rfl).same s6,λH7 s7=>k' _ (s5.trans s7)⟩
    ·exact ⟨D,[false],rfl,Ss.of hD1,k _ (s1.trans s2)⟩
noncomputable def PvS (K:Sd) (H:Hp) (v:V):Prop:=(∃t,TyX K H v t/\Se K t (.type "tuple")=some false)\/(∃p vs,v= .ref p/\H p=some (.tup vs)/\vs.length≠2)\/∃p u w',v= .ref p/\H p=some (.tup [u,w'])/\Tm K H u/\(Jsw u=true->BdA K H w')
noncomputable def PvU (K:Sd) (H:Hp) (R:Riv) (v:V):Prop:=(∃t,TyX K H v t/\Se K t (.type "tuple")=some false)\/(∃p vs,v= .ref p/\H p=some (.tup vs)/\vs.length≠2)\/∃p u w' rp,v= .ref p/\H p=some (.tup [u,w'])/\Sdu K H u rp/\(twB R rp=true->BdA K H w')
theorem PvS.same {K:Sd} {H H':Hp} {v:V} (s:Si H H') (h:PvS K H v):PvS K H' v:=by
 rcases h with ⟨t,h1,h2⟩|⟨p,vs,e,h1,h2⟩|⟨p,u,w',e,h1,h2,h3⟩
 ·exact .inl ⟨t,Jli s h1,h2⟩
 ·exact .inr (.inl ⟨p,vs,e,s _ _ h1,h2⟩)
 ·exact .inr (.inr ⟨p,u,w',e,s _ _ h1,h2.same s,λz=>(h3 z).same s⟩)
theorem PvU.same {K:Sd} {H H':Hp} {R:Riv} {v:V} (s:Si H H') (h:PvU K H R v):PvU K H' R v:=by
 rcases h with ⟨t,h1,h2⟩|⟨p,vs,e,h1,h2⟩|⟨p,u,w',rp,e,h1,h2,h3⟩
 ·exact .inl ⟨t,Jli s h1,h2⟩
 ·exact .inr (.inl ⟨p,vs,e,s _ _ h1,h2⟩)
 ·exact .inr (.inr ⟨p,u,w',rp,e,s _ _ h1,h2.same s,λz=>(h3 z).same s⟩)
theorem PvS.b {K:Sd} {a:Ad} {H:Hp} {v:V} (h:PvS K H v):PvB K a H a.Jfr v:=by
 rcases h with h|h|⟨p,u,w',e,h1,h2,h3⟩
 ·exact .inl h
 ·exact .inr (.inl h)
 ·exact .inr (.inr ⟨p,u,w',_,e,h1,.inl ⟨rfl,h2,rfl⟩,h3⟩)
inductive Sqg (K:Sd) (a:Ad) (vs:List V) (H:Hp) (Q:VK) (z3:XK):Prop where
 |mk (o:S1) (R:Riv) (x z:V) (sk:Option (List (Int×Int))) (t:Tb) (_:vs= [.ref o,x,z]) (_:Sb4 K a H o R) (_:Sc2 H x sk) (_:Jrn R sk) (_:TbT K H z t) (_:(∀y v r,t= .e1 y v r->stB R r=true->PvS K H v)) (_:∀H',Si H H'->Q (.bl (emB t)) H')
inductive Sqj (K:Sd) (a:Ad) (vs:List V) (H:Hp) (Q:VK) (z3:XK):Prop where
 |mk (o:S1) (R:Riv) (x z1 z2:V) (sk:Option (List (Int×Int))) (t1 t2:Tb) (_:vs= [.ref o,x,z1,z2]) (_:H a.Jjc=some (.tbl lb_is_unserved_table)) (_:Sb4 K a H o R) (_:Sc2 H x sk) (_:Jrn R sk) (_:TbT K H z1 t1) (_:(∀y v r,t1= .e1 y v r->stB R r=true->PvS K H v)) (_:TbT K H z2 t2) (_:(∀y v r,t2= .e1 y v r->stB R r=true->PvU K H R v)) (_:∀H',Si H H'->Q (.bl (emB t1&&emB t2)) H')
theorem Jre:Jjp ["river","stuck","table"] ["river","stuck","table"] (Jjl (top 49)):=%[|0]
theorem Jno (T:Tx K mg a):Sr P w K mg base CX0 8 a.Jg3 a.Jg4 ["river","stuck","table"] (Sqg K a):=by
 have Sbx:=%[Jo5|1];have G_breaks_down:Sr P w K mg base CX0 1 a.Jg5 a.Jg6 ["river","table","standing"] (λ_ _ _ _=>False):=⟨λ_ _ _ _ h=>h.elim,λ_ _ _ _ _ _ _ _ _ _ _ _ _ h=>h.elim⟩;refine %[T.Jk.fn.ok,Jre|2]
 ·obtain ⟨o,R,x,z,sk,t,rfl,_⟩:=h;rfl
 ·obtain ⟨o,R,x,z,sk,t,rfl,ro,sa,so,tb,nv,k⟩:=h;refine ⟨?t,?B,?C⟩
  case B=>
   refine' Sx ?O0 ?O1
   case O0=>
    refine' Jk4 ?O2 ?O3 ?O4
    case O2=>exact (Jk5 (Jk0 (Jji T.Jj Sbx hr (by decide) (pa4 (pv 0) (pv 1) (pv 2) (Yc1 T.Je)))))
    case O3=>
     refine' Jjj ?O5
     case O5=>exact (Jjo Jko)
    case O4=>exact Jjs
   case O1=>
   refine' Jjj ?O6
   case O6=>exact (Jjo (Jjn (Jku rfl) (by rfl) T.Jar Jlj (Sj (Jk2 (N:=(["standing","river","table"]:List Str)) (ini:=[none,some 0,some 2]) rfl (Jo8 (pv 2)) (λ_ _ _ _ _=>(Jjq (i:=0) (by decide +kernel:(["standing","river","table"]:List Str).Nodup) rfl (ye rfl))) (λ_ _ _ _ _=>Jk1) (λ_ _ _ _ _=>(Jji T.Jl G_breaks_down hr (by decide) (Sj (pv 1) (Sj (pv 2) (Sj (pv 0) Sl)))))) Sl)))
  refine ⟨_,rfl,_,rfl,_,rfl,o,R,x,z,sk,t,a.Jfr,rfl,ro,sa,so,tb,λy v r e es=>(nv y v r e es).b,λH1 s1=>⟨_,rfl,?_⟩⟩;cases t with
  |nd=>exact Jkf (k _ s1)
  |e1 y v r=>exact Jkf (k _ s1)
  |e0=>
   refine Jk9 ?_;obtain ⟨d,o',rfl,hd⟩:=tb;refine ⟨_,rfl,d,o', [],[],[],rfl,s1 _ _ hd,λD hD=>?_⟩;refine Jmj [] hD rfl (yw _) rfl (s1 _ _ hd) (λi x y H' Q' hx=>nomatch hx) λH2 s2 hD1=>?_;exact ⟨D,[],rfl,Ss.of hD1,k _ (s1.trans s2)⟩
theorem Jof:Jjp ["river","stuck","sky_table","table"] ["river","stuck","sky_table","table"] (Jjl (top 57)):=%[|0]
theorem Jo7 (T:Tx K mg a) (B:Bmn mg base):Sr P w K mg base CX0 9 a.Jgh a.Jgi ["river","stuck","sky_table","table"] (Sqj K a):=by
 have Sb8:=%[Jno|1];have Sbx:=%[Jo5|1];have G_keeps_unpaid:Sr P w K mg base CX0 1 a.Jgj a.Jgk ["river","sky_table","table","standing"] (λ_ _ _ _=>False):=⟨λ_ _ _ _ h=>h.elim,λ_ _ _ _ _ _ _ _ _ _ _ _ _ h=>h.elim⟩;refine T.Jr.fn.okN T.Je6 Jof (λvs H Q E h=>?_) (λA outer s H vs Q E hr h=>?_)
 ·obtain ⟨o,R,x,z1,z2,sk,t1,t2,rfl,_⟩:=h;rfl
 ·obtain ⟨o,R,x,z1,z2,sk,t1,t2,rfl,ht,ro,sa,so,tb1,nv1,tb2,nv2,k⟩:=h;refine ⟨?t,PB.nox ?B,?C⟩
  case B=>
   refine' Sma (caps:=[("river",0)]) (by intro y hy;simp only [yr,ybe,or_false] at hy;rcases hy with rfl <;> exact ⟨rfl,rfl,rfl⟩) ?O0
   case O0=>
   refine' PSs.pb ?O1
   case O1=>
   refine' Sx ?O2 ?O3
   case O2=>
    refine' Jk4 ?O4 ?O5 ?O6
    case O4=>exact (Jk5 (Jk0 (Jji T.Jk Sb8 hr (by decide) (Sj (pv 0) (Sj (pv 1) (Sj (pv 2) Sl))))))
    case O5=>
     refine' Jjj ?O7
     case O7=>exact (Jjo Jko)
    case O6=>exact Jjs
   case O3=>
   refine' Sx ?O8 ?O9
   case O8=>
    refine' Jk4 ?Oa ?Ob ?Oc
    case Oa=>exact (Jk5 (Jk0 (Jji T.Jj Sbx hr (by decide) (pa4 (pv 0) (pv 1) (pv 3) (Smc (e:=Si1 (top 57)) (qual:="is_unserved_table.<locals>.<lambda>") (lb:=lb_is_unserved_table) (caps:=["river"]) T.Je6 B rfl rfl rfl rfl Slx (λ_=>Ybo) (by decide +kernel) (by decide +kernel))))))
    case Ob=>
     refine' Jjj ?Od
     case Od=>exact (Jjo Jko)
    case Oc=>exact Jjs
   case O9=>
   refine' Sx ?Oe ?Of
   case Oe=>
    refine' Jk4 ?Og ?Oh ?Oi
    case Og=>exact (Jk0 (Jjn (Jzw rfl rfl) (by rfl) T.Jas Slb (Sj (Jk2 (N:=(["standing","sky_table"]:List Str)) (ini:=[none,some 2]) rfl (Jo8 (pv 3)) (λ_ _ _ _ _=>(Jjq (i:=0) (by decide +kernel:(["standing","sky_table"]:List Str).Nodup) rfl (ye rfl))) (λ_ _ _ _ _=>Jk1) (λ_ _ _ _ _=>(Jmv (Js6 (K:=K) rfl) (pv 0) (pv 1) (by with_unfolding_all rfl)))) Sl)))
    case Oh=>
     refine' Jjj ?Oj
     case Oj=>exact (Jjo Jko)
    case Oi=>exact Jjs
   case Of=>
   refine' Jjj ?Ok
   case Ok=>
   refine' Jjo ?Ol
   case Ol=>exact (Jjn (Jku rfl) (by rfl) T.Jar Jlj (Sj (Jk2 (N:=(["standing","river","sky_table","table"]:List Str)) (ini:=[none,some 0,some 2,some 3]) rfl (Jo8 (pv 3)) (λ_ _ _ _ _=>(Jjq (i:=0) (by decide +kernel:(["standing","river","sky_table","table"]:List Str).Nodup) rfl (ye rfl))) (λ_ _ _ _ _=>Jk1) (λ_ _ _ _ _=>(Jji T.Js G_keeps_unpaid hr (by decide) (pa4 (pv 1) (pv 2) (pv 3) (pv 0))))) Sl))
  refine ⟨[.ref o],?_,rfl,λH0 s0 ce=>?_⟩
  ·intro y hy;simp only [List.zip_cons_cons,List.zip_nil_right,yr,ybe,or_false] at hy;subst hy;rfl
  refine ⟨_,rfl,_,rfl,_,rfl,o,R,x,z1,sk,t1,rfl,ro.same s0,sa.same s0,so,tb1.same s0,(λy v r e es=>(nv1 y v r e es).same s0),λH1 s1=>⟨_,rfl,?_⟩⟩;have s01:=s0.trans s1;have nd1:emB t1=false->Q (.bl false) H1:=λe=>by
   have:=k _ s01
   rwa [e] at this
  cases e1:emB t1 with
  |false=>exact Jkf (nd1 e1)
  |true=>
   refine Jk9 ?_;have k2:∀H',Si H H'->Q (.bl (emB t2)) H':=λH' s'=>by
    have:=k H' s'
    rwa [e1,ybf] at this
   refine ⟨_,rfl,_,rfl,_,rfl,s01 _ _ ht,[.ref o],ce.same s1,λf H2 s2 hf la=>?_⟩;have s02:=s01.trans s2;refine ⟨o,R,x,z2,sk,t2,f,rfl,ro.same s02,sa.same s02,so,tb2.same s02,(λy v r e es=>?_),λH3 s3=>⟨_,rfl,?_⟩⟩
   ·rcases (nv2 y v r e es).same s02 with h|h|⟨p,u,w',rp,e',h1,h2,h3⟩
    ·exact .inl h
    ·exact .inr (.inl h)
    ·exact .inr (.inr ⟨p,u,w',_,e',h1,.inr λH' Q' s' kq=>⟨[.ref o],la.same s',o,R,u,rp,rfl,rfl,(ro.same s02).same s',h2.same s',kq⟩,h3⟩)
   ·have s03:=s02.trans s3;cases t2 with
    |nd=>exact Jkf (k2 _ s03)
    |e1 y v r=>exact Jkf (k2 _ s03)
    |e0=>
     refine Jk9 ?_;obtain ⟨d,o',rfl,hd⟩:=tb2;refine ⟨_,rfl,d,o', [],[],[],rfl,s03 _ _ hd,λD hD=>?_⟩;refine Jmj [] hD rfl (yw _) rfl (s03 _ _ hd) (λi x y H' Q' hx=>nomatch hx) λH4 s4 hD1=>?_;have s04:=s03.trans s4;refine ⟨D,[],rfl,Ss.of hD1,_,rfl,Jk9 ?_⟩;refine ⟨_,rfl,d,o', [],[],[],rfl,s04 _ _ hd,λD2 hD2=>?_⟩;refine Jmj [] hD2 rfl (yw _) rfl (s04 _ _ hd) (λi x y H' Q' hx=>nomatch hx) λH5 s5 hD3=>?_;exact ⟨D2,[],rfl,Ss.of hD3,k2 _ (s04.trans s5)⟩
theorem Jus {vs:List V} {ls hs:List Int} (h:vs.length≠ls.length):Jn1 (some vs) ls hs=false:=by
 show (decide (vs.length=ls.length)&&(wl vs ls hs).all id)=false;rw [decide_eq_false h];rfl
theorem Jy9 {v:V} {vs:List V} {ls hs:List Int} (e:ls.length=hs.length) (b:∀l h,l∈ls->h∈hs->Jjw v l h=false):Jn1 (some (v::vs)) ls hs=false:=by
 cases ls with
 |nil=>exact Jus (by simp)
 |cons l ls=>
  cases hs with
  |nil=>simp at e
  |cons h hs=>
   show (decide ((v::vs).length=(l::ls).length)&&(Jjw v l h&&(wl vs ls hs).all id))=false;rw [b l h yy yy,yax,ybv]
inductive OdK (K:Sd) (H:Hp) (S:Riv) (x:V):Prop where
 |mk (r:Pr) (kk:Ky) (_:PrT K H x r) (_:stB S r=false) (_:Sb1 K H x kk.py) (_:kk.ok 6=true)
noncomputable def Nn (v:V):Prop:=v= .non\/∃i,v= .int i
theorem Jph {ns:List Int}:∀v∈ns.map V.int,Nn v:=λv hv=>by
 obtain ⟨n,_,rfl⟩:=yab.mp hv;exact .inr ⟨n,rfl⟩
theorem Ybw {n:Nat} (h:1<=n):¬(HT.sIx n 0 none=0/\HT.sIx n n (some (-1))=n):=by
 rintro ⟨_,z⟩;unfold HT.sIx at z;simp at z;omega
theorem Sm1 {n:Nat} (h:1<=n):¬(HT.sIx n 0 (some 1)=0/\HT.sIx n n none=n):=by
 rintro ⟨z,_⟩;unfold HT.sIx at z;simp at z;omega
theorem Jvd {vs:List V}:(Jon vs none (some (-1))).length=vs.length - 1:=by
 unfold Jon HT.sIx;simp;omega
section
variable {K:Sd} {H:Hp} {S:Riv} {t u:S1} {v y:V} {vs:List V}
theorem Nn.ky (h:Nn v):KyT K H 1 v:=by
 rcases h with rfl|⟨i,rfl⟩
 ·exact Yg
 ·exact Jub i
theorem Nn.ty (h:Nn v):∃t,TyX K H v t/\Se K t (.type "tuple")=some false:=by
 rcases h with rfl|⟨i,rfl⟩
 ·exact ⟨_,.of .non,rfl⟩
 ·exact ⟨_,.of (.int i),rfl⟩
theorem Nn.tm (h:Nn v):Tm K H v:=by
 rcases h with rfl|⟨i,rfl⟩
 ·exact .inr ⟨_,.of .non,rfl⟩
 ·exact .inl ⟨i,rfl⟩
theorem Jqz {n:Nat} {r:Pr} (h:PrT K H y r) (e:stB S r=false) (k:KyT K H n y) (l:n<=6):OdK K H S y:=
 let ⟨kk,h1,h2⟩:=k.ok l
 ⟨r,kk,h,e,h1,h2⟩
theorem Jy0 (h:H t=some (.tup vs)) (f:∀v∈vs,Nn v):OdK K H S (.ref t):=by
 have ky:=Jmm (K:=K) h λv hv=>(f v hv).ky;by_cases l:vs.length=2
 ·obtain ⟨x,y,rfl⟩:∃x y,vs= [x,y]:=by
   match vs,l with
   | [x,y],_=>exact ⟨x,y,rfl⟩
  exact Jqz (r:=.two x y none) ⟨t,rfl,h,(f x (by simp)).ty,(f y (by simp)).tm⟩ (ybv _) ky (by decide)
 ·exact Jqz (r:=.oth vs) ⟨t,rfl,h,l⟩ rfl ky (by decide)
theorem Jp2 (ht:H t=some (.tup [.ref u,y])) (hu:H u=some (.tup vs)) (f:∀v∈vs,Nn v) (l:vs.length<=40) (fy:Nn y) (b:Jjw y 0 S.c=false\/Jn1 (some vs) (S.Bs.map (·.lo)) (S.Bs.map (·.hi))=false):OdK K H S (.ref t):=by
 refine Jqz (r:=.two (.ref u) y (some vs)) (n:=3) ⟨t,rfl,ht,⟨u,rfl,hu,λv hv=>(f v hv).tm,l⟩,fy.tm⟩ ?_ (Jmm ht (all_cons (Jmm hu λv hv=>(f v hv).ky) (all_cons ?_ λ_ z=>nomatch z))) (by decide)
 ·show (Jjw y 0 S.c&&Jn1 (some vs) (S.Bs.map (·.lo)) (S.Bs.map (·.hi)))=false;rcases b with b|b
  ·rw [b,yax]
  ·rw [b,ybv]
 ·obtain ⟨kk,h1,h2,h3⟩:=fy.ky (K:=K) (H:=H);exact ⟨kk,h1,h2,yae h3 (by decide)⟩
end
inductive Smu (K:Sd) (vs:List V) (H:Hp) (Q:VK) (z3:XK):Prop where
 |mk (p:S1) (x:V) (S:Riv) (ls:List Int) (wt:Int) (_:vs= [.ref p,x]) (_:Sb7 H p) (_:Sbs H x ls wt) (_:ls.length=S.Bs.length) (_:1<=ls.length) (_:ls.length<=16) (_:S.c<=12) (_:(∀B∈S.Bs,B.hi<=12)) (_:∀(y:V) (H':Hp),But p H H'->OdK K H' S y->Q y H')
theorem Sad:Jjp ["_law_stream_here","_law_standing","_law_levels","_law_wet","_law_some"] ["_law_stream_here","_law_standing"] (Jjl (top 106)):=%[|0]
theorem Js5 (T:Tx K mg a):Sr P w K mg base CX0 2 a.Jib a.Jic ["_law_stream_here","_law_standing"] (Smu K):=by
 have Sk:=%[Jks|1];refine %[T.Jad.fn.ok,Sad|2]
 ·obtain ⟨p,x,S,ls,wt,rfl,_⟩:=h;rfl
 ·obtain ⟨p,x,S,ls,wt,rfl,st,sd,ll,l1,l2,sc,hh,k⟩:=h;refine ⟨?t,?B,?C⟩
  case B=>
   refine' Sx ?O0 ?O1
   case O0=>exact (Jur (pv 1) (Jqg rfl (Jk3 (Jjq (i:=2) Sad.nd rfl (ye rfl)) (Jk3 (Jjq (i:=3) Sad.nd rfl (ye rfl)) Jlv))))
   case O1=>
   refine' Sx ?O2 ?O3
   case O2=>exact (Jjt (i:=4) Sad.nd rfl (ye rfl) (Jke (pa6 (pv 2) (Jk7 (Sj (pv 2) Sl)) (Jk7 (Sj (pv 2) (Sj Sn Sl))) (Jk7 (Sj (pv 2) (Sj Jll Sl))) (Jk7 (Sj (Jju Jpl (pv 2) (Jk7 (Sj Sn Sl))) (Sj (pv 3) Sl))) (Jk7 (Sj (Jmr Juv (pv 2) Jne (Jnf (Jy4 Jv1 Sn))) (Sj (pv 3) Sl))))))
   case O3=>
   refine' Sx ?O4 ?O5
   case O4=>
    refine' Jjt (i:=4) ?O6 ?O7 ?O8 ?O9 ?Oa ?Ob
    case O6=>exact Sad.nd
    case O7=>exact rfl
    case O8=>exact (ye rfl)
    case Oa=>exact Jpw
    case Ob=>first|exact .inl rfl|exact .inr rfl
    case O9=>
    refine' Jju Jok ?Oc ?Od
    case Oc=>exact (pv 4)
    case Od=>
    refine' Jke ?Oe
    case Oe=>
    refine' pa4 ?Of ?Og ?Oh ?Oi
    case Of=>exact (Jk7 (Sj (pv 3) (Sj (pv 2) Sl)))
    case Og=>exact (Jk7 (Sj (Jju Jpl (Jk7 (Sj Jll Sl)) (Jmr Juv (pv 2) (Jnf Sn) Jne)) (Sj (pv 3) Sl)))
    case Oh=>exact (Jk7 (Sj (Jju Jpl (Jk7 (Sj Sn Sl)) (Jmr Juv (pv 2) (Jnf Sn) Jne)) (Sj (pv 3) Sl)))
    case Oi=>exact (Jk7 (Sj (pv 2) (Sj (Jy4 Jv1 Sn) Sl)))
   case O5=>
   refine' Sx ?Oj ?Ok
   case Oj=>
    refine' Jjt (i:=4) ?Ol ?Om ?On ?Oo ?Op ?Oq
    case Ol=>exact Sad.nd
    case Om=>exact rfl
    case On=>exact (ye rfl)
    case Op=>exact Jpw
    case Oq=>first|exact .inl rfl|exact .inr rfl
    case Oo=>
    refine' Jju Jok ?Or ?Os
    case Or=>exact (pv 4)
    case Os=>
    refine' Jke ?Ot
    case Ot=>
    refine' pa4 ?Ou ?Ov ?Ow ?Ox
    case Ou=>exact Jll
    case Ov=>exact Sn
    case Ow=>exact Jlu
    case Ox=>exact (Jk7 Sl)
   case Ok=>
   refine' Jjj ?Oy
   case Oy=>exact (Jjo (Jjx Jkg (pv 4) (Jji T.Ja1 Sk hr (by decide) (Sj (pv 0) (Sj (Jjn Jjr (by rfl) T.Jay Jkh (Sj (pv 4) Sl)) Sl))) (λ_ _=>rfl)))
  obtain ⟨t,u,rfl,ht,hu⟩:=sd;have nv:∀v∈ls.map V.int,Nn v:=Jph;have lv:(ls.map V.int).length=ls.length:=yf ..;have nw1:=Ybw (n:=(ls.map V.int).length) (by omega);have nw2:=Sm1 (n:=(ls.map V.int).length) (by omega);refine ⟨_,rfl,t,_,rfl,SqT.of ht,rfl,_,_,rfl,_,_,rfl,rfl,?_⟩;refine ⟨_,rfl,_,rfl,(show 1<=40 by decide),λt1 H1 n1 s1 g1=>⟨_,rfl,(show 2<=40 by decide),λt2 H2 n2 s2 g2=>⟨_,rfl,(show 2<=40 by decide),λt3 H3 n3 s3 g3=>⟨_,rfl,(show 1<=40 by decide),λz4 H4 n4 s4 g4=>?_⟩⟩⟩⟩;have m4:=((s1.trans s2).trans s3).trans s4;refine ⟨u,z4,_,_,rfl,rfl,m4 _ _ hu,g4,s40 (by rw [lv];simp;omega),λc5 H5 s5 g5=>⟨_,rfl,(show 2<=40 by decide),λt6 H6 n6 s6 g6=>?_⟩⟩;have m6:=(m4.trans s5).trans s6;refine ⟨_,rfl,1,rfl,-1,rfl,u,_,rfl,SqT.of (m6 _ _ hu),nw1,λc7 H7 n7 s7 g7=>⟨_,rfl,(show 2<=40 by decide),λt8 H8 n8 s8 g8=>⟨(show 6<=40 by decide),λL9 H9 n9 s9 g9=>?_⟩⟩⟩;refine ⟨_,rfl,_,rfl,_,rfl,(show 2<=40 by decide),λt10 H10 n10 s10 g10=>⟨(show 1<=40 by decide),λz11 H11 n11 s11 g11=>?_⟩⟩;have m11:=((((m6.trans s7).trans s8).trans s9).trans s10).trans s11;refine ⟨_,rfl,1,rfl,u,_,rfl,SqT.of (m11 _ _ hu),nw2,λc12 H12 n12 s12 g12=>⟨z11,c12,_,_,rfl,rfl,s12 _ _ g11,g12,s40 ?_,λd13 H13 s13 g13=>⟨_,rfl,(show 2<=40 by decide),λt14 H14 n14 s14 g14=>⟨(show 1<=40 by decide),λz15 H15 n15 s15 g15=>?_⟩⟩⟩⟩
  ·have:=Jlo (ls.map V.int) (some 1) none;simp only [yac,List.length_nil];omega
  have m15:=(((m11.trans s12).trans s13).trans s14).trans s15;refine ⟨_,rfl,1,rfl,u,_,rfl,SqT.of (m15 _ _ hu),nw2,λc16 H16 n16 s16 g16=>⟨z15,c16,_,_,rfl,rfl,s16 _ _ g15,g16,s40 ?_,λd17 H17 s17 g17=>⟨_,rfl,(show 2<=40 by decide),λt18 H18 n18 s18 g18=>?_⟩⟩⟩
  ·have:=Jlo (ls.map V.int) (some 1) none;simp only [yac,List.length_nil];omega
  refine ⟨_,rfl,1,rfl,(show 2<=40 by decide),λt19 H19 n19 s19 g19=>⟨(show 4<=40 by decide),λL20 H20 n20 s20 g20=>?_⟩⟩;have e19:=s20;have e18:=s19.trans e19;have e17:=s18.trans e18;have e14:=((s15.trans s16).trans s17).trans e17;have e13:=s14.trans e14;have e10:=((s11.trans s12).trans s13).trans e13;have e9:=s10.trans e10;refine ⟨L9,L20,_,_,rfl,rfl,e9 _ _ g9,g20,(show 10<=40 by decide),λM21 H21 n21 s21 g21=>?_⟩;refine ⟨_,rfl,(show 0<=40 by decide),λt22 H22 n22 s22 g22=>⟨(show 4<=40 by decide),λL23 H23 n23 s23 g23=>⟨M21,L23,_,_,rfl,rfl,s23 _ _ (s22 _ _ g21),g23,(show 14<=40 by decide),λM24 H24 n24 s24 g24=>?_⟩⟩⟩;have f22:=s23.trans s24;have f20:=(s21.trans s22).trans f22;have f9:=e9.trans f20;have f8:=s9.trans f9;have f7:=s8.trans f8;have f6:=s7.trans f7;have f5:=s6.trans f6;have f3:=(s4.trans s5).trans f5;have f2:=s3.trans f3;have f1:=s2.trans f2;have f0:=s1.trans f1;have st':=st.same f0;refine ⟨_,rfl,_,rfl,_,rfl,M24,_,rfl,.inl (Ss.of g24),p,14,rfl,st',by decide,Jlp (by decide),λr Hr r0 r1 b=>?_⟩;have tp:∀q xs,H24 q=some (.tup xs)->Hr q=some (.tup xs):=λq xs h=>b.1 _ _ (Jls st' h (λ_ _ _ z=>by cases z)) h;have hu':=tp _ _ (f0 _ _ hu);have l40:(ls.map V.int).length<=40:=by omega
  have ct:∀(lo hi:Option Int),∀v∈Jon (ls.map V.int) lo hi,Nn v:=λlo hi v hv=>nv v (List.mem_of_mem_drop (List.mem_of_mem_take hv));have bd:(S.Bs.map (·.lo)).length=(S.Bs.map (·.hi)).length:=by simp
  have bl:(S.Bs.map (·.lo)).length=ls.length:=by simp [ll]
  have all:∀v∈([.ref u,.ref t1,.ref t2,.ref t3,.ref t6,.ref t8,.ref t10,.ref t14,.ref t18,.ref t19,.non,.int 5,.str "key",.ref t22]:List V),OdK K Hr S v:=by
   refine all_cons (Jy0 hu' nv) <|all_cons (Jqz (r:=.oth [.ref u]) (n:=3) ⟨t1,rfl,tp _ _ (f1 _ _ g1),by simp⟩ rfl (Jmm (tp _ _ (f1 _ _ g1)) (all_cons (Jmm hu' λv hv=>(nv v hv).ky) λ_ z=>nomatch z)) (by decide)) <|
    all_cons (Jp2 (tp _ _ (f2 _ _ g2)) hu' nv l40 (.inr ⟨_,rfl⟩) (.inl ?_)) <|all_cons (Jp2 (tp _ _ (f3 _ _ g3)) hu' nv l40 (.inl rfl) (.inl rfl)) <|
    all_cons (Jp2 (tp _ _ (f6 _ _ g6)) (tp _ _ (f5 _ _ g5)) ?_ ?_ (.inr ⟨_,rfl⟩) (.inr (Jus ?_))) <|all_cons (Jp2 (tp _ _ (f8 _ _ g8)) (tp _ _ (f7 _ _ g7)) (ct _ _) ?_ (.inr ⟨_,rfl⟩) (.inr (Jus ?_))) <|
    all_cons (Jqz (r:=.two (.int wt) (.ref u) none) (n:=3) ⟨t10,rfl,tp _ _ ((e10.trans f20) _ _ g10),⟨_,.of (.int _),rfl⟩,.inr ⟨_,.of (.tup hu'),rfl⟩⟩ rfl (Jmm (tp _ _ ((e10.trans f20) _ _ g10)) (all_cons ?_ (all_cons (Jmm hu' λv hv=>(nv v hv).ky) λ_ z=>nomatch z))) (by decide)) <|
    all_cons (Jp2 (tp _ _ ((e14.trans f20) _ _ g14)) (tp _ _ ((e13.trans f20) _ _ g13)) (all_cons (.inl rfl) (ct _ _)) ?_ (.inr ⟨_,rfl⟩) (.inr (Jy9 bd λ_ _ _ _=>rfl))) <|
    all_cons (Jp2 (tp _ _ ((e18.trans f20) _ _ g18)) (tp _ _ ((e17.trans f20) _ _ g17)) (all_cons (.inr ⟨_,rfl⟩) (ct _ _)) ?_ (.inr ⟨_,rfl⟩) (.inr (Jy9 bd λl h _ hm=>?_))) <|
    all_cons (Jp2 (tp _ _ ((e19.trans f20) _ _ g19)) hu' nv l40 (.inr ⟨_,rfl⟩) (.inl rfl)) <|
    all_cons (Jqz (r:=.no) ⟨_,.of .non,rfl⟩ rfl Yg (by decide)) <|all_cons (Jqz (r:=.no) ⟨_,.of (.int _),rfl⟩ rfl (Jub _) (by decide)) <|all_cons (Jqz (r:=.no) (n:=1) ⟨_,.of (.str _),rfl⟩ rfl ⟨.str "key",.str _,by decide +kernel,by decide +kernel⟩ (by decide)) <|
    all_cons (Jy0 (tp _ _ (f22 _ _ g22)) λ_ z=>nomatch z) λ_ z=>nomatch z
   ·show (decide ((0:Int)<=13)&&decide ((13:Int)<=S.c))=false;rw [decide_eq_false (show ¬(13:Int)<=S.c by omega),ybv]
   ·intro v hv;rcases ybb.mp hv with hv|hv
    ·exact nv v hv
    ·exact .inr ⟨0,yan.mp hv⟩
   ·simp;omega
   ·rw [bl];simp
   ·rw [Jvd];omega
   ·rw [Jvd,bl];omega
   ·obtain ⟨kk,h1,h2,h3⟩:=Jub (K:=K) (H:=Hr) wt;exact ⟨kk,h1,h2,yae h3 (by decide)⟩
   ·have:=Jlo (ls.map V.int) (some 1) none;simp;omega
   ·have:=Jlo (ls.map V.int) (some 1) none;simp;omega
   ·obtain ⟨B,hB,rfl⟩:=yab.mp hm;have:=hh B hB;show (decide (l<=13)&&decide ((13:Int)<=B.hi))=false;rw [decide_eq_false (show ¬(13:Int)<=B.hi by omega),ybv]
  obtain ⟨v,hv,e⟩:=Jq0 (xs:=([.ref u,.ref t1,.ref t2,.ref t3,.ref t6,.ref t8,.ref t10,.ref t14,.ref t18,.ref t19,.non,.int 5,.str "key",.ref t22]:List V)) r0 r1;have nM:M24≠p:=λz=>by
   obtain ⟨x,y,z',h⟩:=st.same (s1.trans (s2.trans (s3.trans ((s4.trans s5).trans (s6.trans (s7.trans (s8.trans (s9.trans (e9.trans ((s21.trans s22).trans s23))))))))));rw [<-z,n24] at h;cases h
  exact ⟨M24,_,r,v,rfl,rfl,Ss.of (b.1 _ _ nM g24),e,k v Hr ((But.of st f0).trans b) (all v hv)⟩
inductive Sda (K:Sd) (H:Hp) (S:Riv) (v:V):Prop where
 |mk (r:_) (_:PrT K H v r) (_:chB S r=false) (_:PvS K H v) (_:PvU K H S v) (_:BdL K H S.Ts.length v) (_:Jnm v)
theorem Sda.same {K:Sd} {H H':Hp} {S:Riv} {v:V} (s:Si H H') (h:Sda K H S v):Sda K H' S v:=by
 obtain ⟨r,h1,h2,h3,h4,h5,h6⟩:=h;exact ⟨r,h1.same s,h2,h3.same s,h4.same s,h5.same s,h6⟩
section
variable {K:Sd} {H:Hp} {S:Riv} {p:S1} {u v w':V} {vs:List V}
theorem Jvw {t:S2} (ty:TyX K H v t) (e1:Se K t (.type "tuple")=some false) (e2:Se K t (.type "list")=some false) (n:Jnm v):Sda K H S v:=
 ⟨.no,⟨t,ty,e1⟩,rfl,.inl ⟨t,ty,e1⟩,.inl ⟨t,ty,e1⟩,.inl ⟨t,ty,e2⟩,n⟩
theorem Js7 (h:H p=some (.lst vs)) (l:vs.length<=40) (b:vs.length=S.Ts.length->vs≠ []/\∀x∈vs,BdR K H x):Sda K H S (.ref p):=
 ⟨.no,⟨_,.of (.lst h),rfl⟩,rfl,.inl ⟨_,.of (.lst h),rfl⟩,.inl ⟨_,.of (.lst h),rfl⟩,.inr ⟨p,vs,rfl,h,l,b⟩,.inr ⟨_,rfl⟩⟩
theorem Sm9 (h:H p=some (.tup vs)) (l:vs.length≠2):Sda K H S (.ref p):=
 ⟨.oth vs,⟨p,rfl,h,l⟩,rfl,.inr (.inl ⟨p,vs,rfl,h,l⟩),.inr (.inl ⟨p,vs,rfl,h,l⟩),.inl ⟨_,.of (.tup h),rfl⟩,.inr ⟨_,rfl⟩⟩
theorem Sq3 (v:V):∀x y z:Int,HO.lst (yo 9 v)≠ .lst [.int x,.int y,.int z]:=λx y z e=>nomatch congrArg ybq (HO.lst.inj e)
theorem Jnc {rp:Option (List V)} (h:H p=some (.tup [u,w'])) (hr:Sdu K H u rp) (tu:Tm K H u) (tw:Tm K H w') (c:rp=none\/∃a,w'= .ref a) (bs:Jsw u=true->BdA K H w') (bu:twB S rp=true->BdA K H w'):Sda K H S (.ref p):=by
 refine ⟨.two u w' rp,⟨p,rfl,h,hr,tw⟩,?_,.inr (.inr ⟨p,u,w',rfl,h,tu,bs⟩),.inr (.inr ⟨p,u,w',rp,rfl,h,hr,bu⟩),.inl ⟨_,.of (.tup h),rfl⟩,.inr ⟨_,rfl⟩⟩;show (Jr3 S.Ts.length w'&&Jn1 rp (yo S.Bs.length 0) (S.Bs.map λB=>(B.n:Int) - 1))=false;rcases c with rfl|⟨a,rfl⟩
 ·exact ybv _
 ·exact yax _
end
theorem Sk5 (c:Option Int):Nn (twV c):=by
 cases c with
 |none=>exact .inl rfl
 |some i=>exact .inr ⟨i,rfl⟩
theorem Jzx {K:Sd} {H:Hp} {x:V} {c:List Int×Option Int} (h:CcR H x c) (l:c.1.length<=40):(∃r,PrT K H x r)/\KyT K H 3 x/\BdR K H x:=by
 obtain ⟨t,q,rfl,g1,g2⟩:=h;refine ⟨⟨.two (.ref q) (twV c.2) (some (c.1.map V.int)),t,rfl,g1,⟨q,rfl,g2,λv hv=>(Jph v hv).tm,by simp;omega⟩,(Sk5 c.2).tm⟩,Jmm g1 (all_cons (Jmm g2 λv hv=>(Jph v hv).ky) (all_cons ?_ λ_ z=>nomatch z)),.inr ⟨t,_,_,rfl,g1,.inr ⟨_,.of (.tup g2),rfl⟩,rfl⟩⟩;obtain ⟨kk,h1,h2,h3⟩:=(Sk5 c.2).ky (K:=K) (H:=H);exact ⟨kk,h1,h2,yae h3 (by decide)⟩
theorem CcR.same {H H':Hp} {x:V} {c:List Int×Option Int} (s:Si H H') (h:CcR H x c):CcR H' x c:=by
 obtain ⟨t,q,rfl,g1,g2⟩:=h;exact ⟨t,q,rfl,s _ _ g1,s _ _ g2⟩
theorem CcR.but {p:S1} {H H':Hp} {x:V} {c:List Int×Option Int} (st:Sb7 H p) (b:But p H H') (h:CcR H x c):CcR H' x c:=by
 obtain ⟨t,q,rfl,g1,g2⟩:=h;exact ⟨t,q,rfl,b.1 _ _ (Jls st g1 λ_ _ _ z=>by cases z) g1,b.1 _ _ (Jls st g2 λ_ _ _ z=>by cases z) g2⟩
inductive Svl (K:Sd) (vs:List V) (H:Hp) (Q:VK) (z3:XK):Prop where
 |mk (p:S1) (x:V) (S:Riv) (c:List Int×Option Int) (_:vs= [.ref p,x]) (_:Sb7 H p) (_:CcR H x c) (_:c.1.length<=40) (_:S.Ts.length<=3) (_:∀(y:V) (H':Hp),But p H H'->Sda K H' S y->Q y H')
theorem Sav:Jjp ["_law_stream_here","_law_choice","_law_some"] ["_law_stream_here","_law_choice"] (Jjl (top 107)):=%[|0]
theorem Jqd (T:Tx K mg a):Sr P w K mg base CX0 2 a.Jid a.Jie ["_law_stream_here","_law_choice"] (Svl K):=by
 have Sk:=%[Jks|1];refine %[T.Jae.fn.ok,Sav|2]
 ·obtain ⟨p,x,S,c,rfl,_⟩:=h;rfl
 ·obtain ⟨p,x,S,c,rfl,st,cc,cl,t3,k⟩:=h;have hu64:=Jog hr;refine ⟨?t,?B,?C⟩
  case B=>
   refine' Sx ?O0 ?O1
   case O0=>
    refine' Jjt (i:=2) ?O2 ?O3 ?O4 ?O5 ?O6 ?O7
    case O2=>exact Sav.nd
    case O3=>exact rfl
    case O4=>exact (ye rfl)
    case O6=>exact Jsj
    case O7=>first|exact .inl rfl|exact .inr rfl
    case O5=>
    refine' Jke ?O8
    case O8=>
    refine' pa9 ?O9 ?Oa ?Ob ?Oc ?Od ?Oe ?Of ?Og ?Oh
    case O9=>exact Jll
    case Oa=>exact Sn
    case Ob=>exact Jko
    case Oc=>exact Jlu
    case Od=>exact (Jk7 Sl)
    case Oe=>exact (Jke (Sj Jll Sl))
    case Of=>
     refine' Jke ?Oi
     case Oi=>
     refine' pa4 ?Oj ?Ok ?Ol ?Om
     case Oj=>exact (pv 1)
     case Ok=>exact (pv 1)
     case Ol=>exact (pv 1)
     case Om=>exact (pv 1)
    case Og=>exact (Jk7 (Sj Sn (Sj Jma Sl)))
    case Oh=>exact (Jk7 (Sj (Jy4 Jv1 Sn) (Sj Jma Sl)))
   case O1=>
   refine' Sx ?On ?Oo
   case On=>
    refine' Jjt (i:=2) ?Op ?Oq ?Or ?Os ?Ot ?Ou
    case Op=>exact Sav.nd
    case Oq=>exact rfl
    case Or=>exact (ye rfl)
    case Ot=>exact Jpw
    case Ou=>first|exact .inl rfl|exact .inr rfl
    case Os=>
    refine' Jju Jok ?Ov ?Ow
    case Ov=>exact (pv 2)
    case Ow=>
    refine' Jke ?Ox
    case Ox=>
    refine' pa6 ?Oy ?Oz ?U0 ?U1 ?U2 ?U3
    case Oy=>exact (Jk7 (Sj Jll (Sj Jma Sl)))
    case Oz=>exact (Jk7 (Sj Sn (Sj (Jke Sl) Sl)))
    case U0=>exact (Jk7 (Sj Sn (Sj Jll Sl)))
    case U1=>exact (Jju Jpm (Jke (Sj (Jk7 (Sj Sn (Sj (pv 1) Sl))) Sl)) Sn)
    case U2=>exact (Jju Jpm (Jke (Sj Jll Sl)) Sn)
    case U3=>exact (Jk7 (Sj (Jk7 (Sj Sn Sl)) (Sj Jma Sl)))
   case Oo=>
   refine' Sx ?U4 ?U5
   case U4=>
    refine' Jjt (i:=2) ?U6 ?U7 ?U8 ?U9 ?Ua ?Ub
    case U6=>exact Sav.nd
    case U7=>exact rfl
    case U8=>exact (ye rfl)
    case Ua=>exact Jpw
    case Ub=>first|exact .inl rfl|exact .inr rfl
    case U9=>
    refine' Jju Jok ?Uc ?Ud
    case Uc=>exact (pv 2)
    case Ud=>
    refine' Jke ?Ue
    case Ue=>
    refine' pa5 ?Uf ?Ug ?Uh ?Ui ?Uj
    case Uf=>exact (Jk7 (Sj (Jk7 (Sj Sn (Sj Sn Sl))) (Sj (Jke Sl) Sl)))
    case Ug=>exact (Jk7 (Sj (Jk7 (Sj Sn (Sj Sn Sl))) (Sj Jma Sl)))
    case Uh=>exact (Jk7 (Sj Sn (Sj (Js8 hu64 (pv 1) Jll) Sl)))
    case Ui=>exact Jma
    case Uj=>exact (Jke (Sj (pv 1) Sl))
   case U5=>
   refine' Jjj ?Uk
   case Uk=>exact (Jjo (Jjx Jkg (pv 2) (Jji T.Ja1 Sk hr (by decide) (Sj (pv 0) (Sj (Jjn Jjr (by rfl) T.Jay Jkh (Sj (pv 2) Sl)) Sl))) (λ_ _=>rfl)))
  refine ⟨(show 0<=40 by decide),λt1 H1 n1 s1 g1=>⟨(show 1<=40 by decide),λt2 H2 n2 s2 g2=>⟨_,rfl,_,rfl,_,rfl,_,rfl,(show 4<=40 by decide),λt3' H3 n3 s3 g3=>λd4 H4 n4 s4 g4=>⟨(show 2<=40 by decide),λt5 H5 n5 s5 g5=>⟨1,rfl,λd6 H6 n6 s6 g6=>⟨(show 2<=40 by decide),λt7 H7 n7 s7 g7=>⟨(show 9<=40 by decide),λL8 H8 n8 s8 g8=>?_⟩⟩⟩⟩⟩⟩⟩;refine ⟨_,rfl,λd9 H9 n9 s9 g9=>⟨(show 2<=40 by decide),λt10 H10 n10 s10 g10=>⟨(show 0<=40 by decide),λl11 H11 n11 s11 g11=>⟨(show 2<=40 by decide),λt12 H12 n12 s12 g12=>⟨(show 2<=40 by decide),λt13 H13 n13 s13 g13=>⟨_,rfl,(show 2<=40 by decide),λt14 H14 n14 s14 g14=>⟨(show 1<=40 by decide),λl15 H15 n15 s15 g15=>⟨l15,_,9,rfl,rfl,g15,by decide,λl16 H16 n16 s16 g16=>⟨(show 1<=40 by decide),λl17 H17 n17 s17 g17=>⟨l17,_,9,rfl,rfl,g17,by decide,λl18 H18 n18 s18 g18=>⟨(show 1<=40 by decide),λt19 H19 n19 s19 g19=>λd20 H20 n20 s20 g20=>⟨(show 2<=40 by decide),λt21 H21 n21 s21 g21=>⟨(show 6<=40 by decide),λL22 H22 n22 s22 g22=>?_⟩⟩⟩⟩⟩⟩⟩⟩⟩⟩⟩⟩⟩;have m21:=s22;have m20:=s21.trans m21;have m19:=s20.trans m20;have m18:=s19.trans m19;have m17:=s18.trans m18;have m16:=s17.trans m17;have m15:=s16.trans m16;have m14:=s15.trans m15;have m13:=s14.trans m14;have m12:=s13.trans m13;have m11:=s12.trans m12;have m10:=s11.trans m11;have m9:=s10.trans m10;have m8:=s9.trans m9;refine ⟨L8,L22,_,_,rfl,rfl,m8 _ _ g8,g22,(show 15<=40 by decide),λM23 H23 n23 s23 g23=>?_⟩;refine ⟨_,rfl,(show 2<=40 by decide),λt24 H24 n24 s24 g24=>⟨(show 0<=40 by decide),λl25 H25 n25 s25 g25=>⟨(show 2<=40 by decide),λt26 H26 n26 s26 g26=>⟨(show 2<=40 by decide),λt27 H27 n27 s27 g27=>λd28 H28 n28 s28 g28=>⟨(show 2<=40 by decide),λt29 H29 n29 s29 g29=>?_⟩⟩⟩⟩⟩;have m28:=s29;have m27:=s28.trans m28;have m26:=s27.trans m27;have m25:=s26.trans m26;have m24:=s25.trans m25;have m23:=s24.trans m24;have m22:=s23.trans m23;have m7:=s8.trans (m8.trans m22);have m6:=s7.trans m7;have m5:=s6.trans m6;have m4:=s5.trans m5;have m3:=s4.trans m4;have m2:=s3.trans m3;have m1:=s2.trans m2;have m0:=s1.trans m1;obtain ⟨kk,dk,ko⟩:=(Jzx (K:=K) (cc.same m0) cl).2.1.ok (by decide);refine ⟨_,rfl,kk,dk,ko,λd30 o30 H30 n30 s30 g30=>⟨(show 2<=40 by decide),λt31 H31 n31 s31 g31=>λd32 H32 n32 s32 g32=>⟨_,rfl,(show 1<=40 by decide),λl33 H33 n33 s33 g33=>⟨(show 5<=40 by decide),λL34 H34 n34 s34 g34=>?_⟩⟩⟩⟩;have f33:=s34;have f32:=s33.trans f33;have f31:=s32.trans f32;have f30:=s31.trans f31;have f29:=s30.trans f30;refine ⟨M23,L34,_,_,rfl,rfl,(m23.trans f29) _ _ g23,g34,(show 20<=40 by decide),λM35 H35 n35 s35 g35=>?_⟩;have h34:=m0.trans f29;have h0:=h34.trans s35;have st':=st.same h0;refine ⟨_,rfl,_,rfl,_,rfl,M35,_,rfl,.inl (Ss.of g35),p,20,rfl,st',by decide,Jlp (by decide),λr Hr r0 r1 b=>?_⟩;have nz:∀{q:S1} {Hx:Hp},Si H Hx->Hx q=none->q≠p:=λs' n z=>by
   obtain ⟨x,y,z',h⟩:=st.same s';rw [<-z,n] at h;cases h
  have tp:∀q o,(∀x y z:Int,o≠ .lst [.int x,.int y,.int z])->H34 q=some o->Hr q=some o:=λq o hn h=>b.1 _ _ (Jls st' (s35 _ _ h) hn) (s35 _ _ h);have cc':=CcR.but st' b (cc.same h0);obtain ⟨⟨rc,pc⟩,_,bc⟩:=Jzx (K:=K) cc' cl;have sr:∀{i:Int},Sdu K Hr (.int i) none:=⟨_,.of (.int _),rfl⟩;have si:∀{i:Int},Tm K Hr (.int i):=.inl ⟨_,rfl⟩;have sd:∀{q:S1},Hr q=some (.dK [])->Tm K Hr (.ref q):=λh=>.inr ⟨_,.of (.dK h),rfl⟩;have i12:∀q (o:HO) Hx,Si Hx H22->Hx q=some o->H34 q=some o:=λq o Hx s' h=>f29 _ _ (m22 _ _ (s' _ _ h));have g4':=tp _ _ (λ_ _ _ z=>by cases z) (f29 _ _ (m4 _ _ g4));have g6':=tp _ _ (λ_ _ _ z=>by cases z) (f29 _ _ (m6 _ _ g6));have g9':=tp _ _ (λ_ _ _ z=>by cases z) (i12 _ _ _ m9 g9);have g11':=tp _ _ (λ_ _ _ z=>by cases z) (i12 _ _ _ m11 g11);have g19':=tp _ _ (λ_ _ _ z=>by cases z) (i12 _ _ _ m19 g19);have g20':=tp _ _ (λ_ _ _ z=>by cases z) (i12 _ _ _ m20 g20);have g24':=tp _ _ (λ_ _ _ z=>by cases z) ((m24.trans f29) _ _ g24);have g25':=tp _ _ (λ_ _ _ z=>by cases z) ((m25.trans f29) _ _ g25);have g27':=tp _ _ (λ_ _ _ z=>by cases z) ((m27.trans f29) _ _ g27);have g28':=tp _ _ (λ_ _ _ z=>by cases z) ((m28.trans f29) _ _ g28);have g30':=tp _ _ (λ_ _ _ z=>by cases z) (f30 _ _ g30);have all:∀v∈([.non,.int 5,.bl true,.str "",.ref t1,.ref t2,.ref t3', .ref t5,.ref t7,.ref t10,.ref t12,.ref t13,.ref l16,.ref l18,.ref t21,.ref t26,.ref t29,.ref t31,.ref d32,.ref l33]:List V),Sda K Hr S v:=
   all_cons (Jvw (.of .non) rfl rfl (.inl rfl)) <|all_cons (Jvw (.of (.int _)) rfl rfl (.inl rfl)) <|all_cons (Jvw (.of (.bl _)) rfl rfl (.inl rfl)) <|all_cons (Jvw (.of (.str _)) rfl rfl (.inl rfl)) <|
   all_cons (Sm9 (tp _ _ (λ_ _ _ z=>by cases z) ((m1.trans f29) _ _ g1)) (by decide)) <|
   all_cons (Js7 (tp _ _ (λ_ _ _ z=>by cases z) ((m2.trans f29) _ _ g2)) (by decide) λ_=>⟨nofun,all_cons (.inl ⟨_,.of .non,rfl⟩) λ_ z=>nomatch z⟩) <|
   all_cons (Js7 (tp _ _ (λ_ _ _ z=>by cases z) ((m3.trans f29) _ _ g3)) (show 4<=40 by decide) λz=>absurd z (show ¬4=S.Ts.length by omega)) <|
   all_cons (Jnc (tp _ _ (λ_ _ _ z=>by cases z) ((m5.trans f29) _ _ g5)) sr si (sd g4') (.inl rfl) (λz=>nomatch z) λz=>nomatch z) <|
   all_cons (Jnc (tp _ _ (λ_ _ _ z=>by cases z) ((m7.trans f29) _ _ g7)) sr si (sd g6') (.inl rfl) (λz=>nomatch z) λz=>nomatch z) <|
   all_cons (Jnc (rp:=none) (tp _ _ (λ_ _ _ z=>by cases z) (i12 _ _ _ m10 g10)) ⟨_,.of .non,rfl⟩ (.inr ⟨_,.of .non,rfl⟩) (sd g9') (.inl rfl) (λz=>nomatch z) λz=>nomatch z) <|
   all_cons (Jnc (tp _ _ (λ_ _ _ z=>by cases z) (i12 _ _ _ m12 g12)) sr si (.inr ⟨_,.of (.lst g11'),rfl⟩) (.inl rfl) (λ_=>.inl ⟨_,.of (.lst g11'),rfl⟩) λz=>nomatch z) <|
   all_cons (Jnc (tp _ _ (λ_ _ _ z=>by cases z) (i12 _ _ _ m13 g13)) sr si (.inr ⟨_,.of .non,rfl⟩) (.inl rfl) (λ_=>.inl ⟨_,.of .non,rfl⟩) λz=>nomatch z) <|
   all_cons (Js7 (tp _ _ (Sq3 _) (i12 _ _ _ m16 g16)) (show 9<=40 by decide) λz=>absurd z (show ¬9=S.Ts.length by omega)) <|
   all_cons (Js7 (tp _ _ (Sq3 _) (i12 _ _ _ m18 g18)) (show 9<=40 by decide) λz=>absurd z (show ¬9=S.Ts.length by omega)) <|
   all_cons (Jnc (rp:=some [.int 1]) (tp _ _ (λ_ _ _ z=>by cases z) (i12 _ _ _ m21 g21)) ⟨t19,rfl,g19',all_cons si (λ_ z=>nomatch z),by decide⟩ (.inr ⟨_,.of (.tup g19'),rfl⟩) (sd g20') (.inr ⟨_,rfl⟩) (λz=>nomatch z) λz=>nomatch z) <|
   all_cons (Jnc (rp:=some [.int 1,.int 0]) (tp _ _ (λ_ _ _ z=>by cases z) ((m26.trans f29) _ _ g26)) ⟨t24,rfl,g24',all_cons si (all_cons si λ_ z=>nomatch z),by decide⟩ (.inr ⟨_,.of (.tup g24'),rfl⟩) (.inr ⟨_,.of (.lst g25'),rfl⟩) (.inr ⟨_,rfl⟩) (λz=>nomatch z) λ_=>.inl ⟨_,.of (.lst g25'),rfl⟩) <|
   all_cons (Jnc (rp:=some [.int 0,.int 0]) (tp _ _ (λ_ _ _ z=>by cases z) (f29 _ _ g29)) ⟨t27,rfl,g27',all_cons si (all_cons si λ_ z=>nomatch z),by decide⟩ (.inr ⟨_,.of (.tup g27'),rfl⟩) (sd g28') (.inr ⟨_,rfl⟩) (λz=>nomatch z) λz=>nomatch (show false=true from z)) <|
   all_cons (Jnc (tp _ _ (λ_ _ _ z=>by cases z) (f31 _ _ g31)) sr si (.inr ⟨_,.dct g30' λh f=>⟨o30,f.1,f.2.1.1⟩,rfl⟩) (.inl rfl) (λ_=>.inr ⟨d30,o30,_,_,rc,rfl,g30',pc⟩) λz=>nomatch z) <|
   all_cons (Jvw (.of (.dK (tp _ _ (λ_ _ _ z=>by cases z) (f32 _ _ g32)))) rfl rfl (.inr ⟨_,rfl⟩)) <|
   all_cons (Js7 (tp _ _ (λ_ _ _ z=>by cases z) (f33 _ _ g33)) (show 1<=40 by decide) λ_=>⟨nofun,all_cons bc λ_ z=>nomatch z⟩) λ_ z=>nomatch z
  obtain ⟨v,hv,e⟩:=Jq0 (xs:=([.non,.int 5,.bl true,.str "",.ref t1,.ref t2,.ref t3', .ref t5,.ref t7,.ref t10,.ref t12,.ref t13,.ref l16,.ref l18,.ref t21,.ref t26,.ref t29,.ref t31,.ref d32,.ref l33]:List V)) r0 r1;exact ⟨M35,_,r,v,rfl,rfl,Ss.of (b.1 _ _ (nz h34 n35) g35),e,k v Hr ((But.of st h0).trans b) (all v hv)⟩
noncomputable def ThT (K:Sd) (w:S9) (H:Hp) (S:Riv) (x:V):Prop:=NdT H x\/∃d o k u v r,x= .ref d/\DcA K w H d o [k] [u] [v]/\k.ok 6=true/\Jnm v/\PrT K H u r/\(stB S r=true->Sda K H S v)
theorem Spi {rs:List (List Int)} {ns:List Int} (h1:rs≠ []) (h2:ns≠ []):lgR rs ns≠ []:=by
 obtain ⟨r,rs,rfl⟩:=ycg h1;obtain ⟨n,ns,rfl⟩:=ycg h2;unfold lgR;simp
theorem Ybf:∀(l:List (List Int)) (rs:List (List Int)),rs≠ []->(∀r∈l,r≠ [])->l.foldl lgR rs≠ []:=by
 intro l
 induction l with
 |nil=>exact λrs h _=>h
 |cons r l ih=>exact λrs h g=>ih _ (Spi h (g r yy)) λr hr=>g r (yq _ hr)
theorem Jzy {S:Riv} (n4:S.Bs.length<=4) (hb:∀B∈S.Bs,1<=B.n/\B.n<=4) {H:Hp} {us:List V} (h:CcL H us (chL S (some []))):∃v c,atI us 0=some v/\CcR H v c/\c.1.length<=40:=by
 have el:Jmb S (some [])=S.Bs.map λB=>rgI B.n:=rfl;have h4:∀r∈Jmb S (some []),r.length<=4:=λr hr=>by
  rw [el] at hr;obtain ⟨B,hB,rfl⟩:=yab.mp hr;rw [Jkx];exact (hb B hB).2
 have hl:=Yj S (some []);have hne:rwN S (some []) S.Bs.length≠ []:=Ybf _ _ (by simp) λr hr=>by
  have hr:=List.mem_of_mem_take hr;rw [el] at hr;obtain ⟨B,hB,rfl⟩:=yab.mp hr;have:=(hb B hB).1;intro z;have:=congrArg ybq z;rw [Jkx] at this;simp at this;omega
 obtain ⟨r,rs,er⟩:=ycg hne;have rl:=(Yaa h4 S.Bs.length (by omega)).2 r (by rw [er];exact yy);have ec:chL S (some [])=(r,none)::((rgI S.Ts.length).map some).map (λt=>(r,t))++rs.flatMap λr=>(twL S).map λt=>(r,t):=by
  unfold chL;rw [er];rfl
 rw [ec] at h;have h0:0 < us.length:=by
  rw [h.1];simp
 refine ⟨us[0],(r,none),Jpf (j:=0) (yj h0),h.2 0 _ _ (yj h0) rfl,?_⟩;show r.length<=40;omega
theorem Slz:∀(Bs:List Bsn),(∀B∈Bs,1<=lvN B)->lvL Bs≠ []/\∀ls∈lvL Bs,ls.length=Bs.length:=by
 intro Bs
 induction Bs with
 |nil=>exact λ_=>⟨by simp [lvL],λls h=>by rw [yan.mp h];rfl⟩
 |cons B Bs ih=>
  intro h;obtain ⟨i1,i2⟩:=ih λx hx=>h x (yq _ hx);have hB:=h B yy;obtain ⟨r,rs,er⟩:=ycg i1;refine ⟨?_,λls hl=>?_⟩
  ·have hn:rgI (lvN B).toNat≠ []:=λz=>by
    have:=congrArg ybq z;rw [Jkx] at this;simp at this;omega
   obtain ⟨k,ks,ek⟩:=ycg hn;simp [lvL,er,ek]
  ·obtain ⟨l0,h0,hl⟩:=List.mem_flatMap.mp hl;obtain ⟨k,_,rfl⟩:=yab.mp hl;rw [yac,i2 l0 h0];rfl
theorem Sn2 {S:Riv} (s4:Jyg S) (sn:stN S<=2000):(1<=(stL S).length/\(stL S).length<=2000)/\∀x∈stL S,x.1.length=S.Bs.length:=by
 obtain ⟨h1,h2⟩:=Slz S.Bs λB hB=>(s4.lv B hB).1.1;have hl:=Jyc S (λB hB=>(s4.lv B hB).1.1) s4.c.1;obtain ⟨r,rs,er⟩:=ycg h1;have hn:0 < (rgI (S.c+1).toNat).length:=by
  rw [Jkx];have:=s4.c.1;omega
 refine ⟨⟨?_,by omega⟩,λx hx=>?_⟩
 ·unfold stL;rw [er,List.flatMap_cons,yx,yf];omega
 ·obtain ⟨ls,h0,hx⟩:=List.mem_flatMap.mp hx;obtain ⟨k,_,rfl⟩:=yab.mp hx;exact h2 ls h0
theorem Jpv {K:Sd} {H H':Hp} {a:S1} {xs:List V} (s:Si H H') (h:Ss K H a xs):Ss K H' a xs:=by
 rcases h with (h|⟨o,h⟩)|h
 ·exact .inl (.inl (s _ _ h))
 ·exact .inl (.inr ⟨o,s _ _ h⟩)
 ·exact .inr h
theorem Yam {K:Sd} {H H':Hp} {a:S1} {xs:List V} (s:Si H H') (h:SqT K H a xs):SqT K H' a xs:=by
 rcases h with (h|⟨o,h⟩)|h
 ·exact .inl (.inl (s _ _ h))
 ·exact .inl (.inr ⟨o,s _ _ h⟩)
 ·exact .inr h
mutual
theorem Sb1.same {K:Sd} {H H':Hp} (s:Si H H'):∀{x} {d},Sb1 K H x d->Sb1 K H' x d
 |_,_,.non=>.non
 |_,_,.bl b=>.bl b
 |_,_,.int i=>.int i
 |_,_,.str z=>.str z
 |_,_,.lst hq hd=>.lst (Jpv s hq) (Sax.same s hd)
 |_,_,.tup hq hd=>.tup (Yam s hq) (Sax.same s hd)
theorem Sax.same {K:Sd} {H H':Hp} (s:Si H H'):∀{xs:List V} {ds:List PyData},Sax K H xs ds->Sax K H' xs ds
 |_,_,.nil=>.nil
 |_,_,.cons h t=>.cons (Sb1.same s h) (Sax.same s t)
end
theorem Y2 {K:Sd} {w:S9} {H H':Hp} {d:S1} {o:Obj} {kk:Ky} {y v:V} (dk:Sb1 K H y kk.py) (s:Si H H') (g:H' d=some (DR d o [y] [kk.hash w] [v])):DcA K w H' d o [kk] [y] [v]:=⟨g,.cons (Sb1.same s dk) .nil,by simp⟩
theorem Ycr {K:Sd} {H:Hp} {x:V} {ls:List Int} {wt:Int} (h:Sbs H x ls wt) (l:ls.length<=40):(∃r,PrT K H x r)/\(∃kk:Ky,Sb1 K H x kk.py/\kk.ok 6=true)/\∃t,x= .ref t:=by
 obtain ⟨t,q,rfl,g1,g2⟩:=h;refine ⟨⟨.two (.ref q) (.int wt) (some (ls.map V.int)),t,rfl,g1,⟨q,rfl,g2,λv hv=>(Jph v hv).tm,by simp;omega⟩,.inl ⟨_,rfl⟩⟩,KyT.ok (n:=3) (Jmm g1 (all_cons (Jmm g2 λv hv=>(Jph v hv).ky) (all_cons ?_ λ_ z=>nomatch z))) (by decide),t,rfl⟩;obtain ⟨kk,h1,h2,h3⟩:=Jub (K:=K) (H:=H) wt;exact ⟨kk,h1,h2,yae h3 (by decide)⟩
theorem Sbs.same {H H':Hp} {x:V} {ls:List Int} {wt:Int} (s:Si H H') (h:Sbs H x ls wt):Sbs H' x ls wt:=by
 obtain ⟨t,q,rfl,g1,g2⟩:=h;exact ⟨t,q,rfl,s _ _ g1,s _ _ g2⟩
theorem Sbs.but {p:S1} {H H':Hp} {x:V} {ls:List Int} {wt:Int} (st:Sb7 H p) (b:But p H H') (h:Sbs H x ls wt):Sbs H' x ls wt:=by
 obtain ⟨t,q,rfl,g1,g2⟩:=h;exact ⟨t,q,rfl,b.1 _ _ (Jls st g1 λ_ _ _ z=>by cases z) g1,b.1 _ _ (Jls st g2 λ_ _ _ z=>by cases z) g2⟩
theorem Jnx {q L:S1} {H Hx:Hp} (st:Sb7 H q) (s:Si H Hx) (n:Hx L=none):L≠q:=λz=>by
 obtain ⟨x,y,z',h⟩:=st.same s;rw [<-z,n] at h;cases h
inductive Sqh (K:Sd) (w:S9) (vs:List V) (H:Hp) (Q:VK) (z3:XK):Prop where
 |mk (p q:S1) (x:V) (R:Jlw) (S:Riv) (H0:Hp) (_:vs= [.ref q,x]) (_:Sb7 H q) (_:H0 q=none) (_:Si H0 H) (_:Seh p H0 x R) (_:Jpe R) (_:Jtv R S) (_:Jyg S) (_:stN S<=2000) (_:S.Ts.length<=3) (_:(∀B∈S.Bs,1<=B.n/\B.n<=4)) (_:(∀B∈S.Bs,B.hi<=12)) (_:∀(y:V) (H':Hp),But q H H'->ThT K w H' S y->Q y H')
theorem Saw:Jjp ["_law_stream_here","_law_told","_law_standings_here","_law_standing","_law_choice","_law_way","_law_value"] ["_law_stream_here","_law_told"] (Jjl (top 108)):=%[|0]
theorem Juo (T:Tx K mg a):Sr P w K mg base CX0 3 a.Jif a.Jig ["_law_stream_here","_law_told"] (Sqh K w):=by
 have Sk:=%[Jks|1];have Sdk:=%[Jqe|1];have Sdz:=%[Js4|1];have Seu:=%[Jul|1];have Se0:=%[Js5|1];have Sdj:=%[Jqd|1];refine %[T.Jaf.fn.ok,Saw|2]
 ·obtain ⟨p,q,x,R,S,H0,rfl,_⟩:=h;rfl
 ·obtain ⟨p,q,x,R,S,H0,rfl,st,nq,sm,rt,rg,lk,s4,sn,t3,bn,hh,k⟩:=h;have hu64:=Jog hr;refine ⟨?t,?B,?C⟩
  case B=>
   refine' Sx ?O0 ?O1
   case O0=>exact (Jjt (i:=2) Saw.nd rfl (ye rfl) (Jji T.Jaa Sdk hr (by decide) (Sj (pv 1) Sl)))
   case O1=>
   refine' Sx ?O2 ?O3
   case O2=>exact (Jjt (i:=3) Saw.nd rfl (ye rfl) (Jjx Jkg (pv 2) (Jji T.Ja1 Sk hr (by decide) (Sj (pv 0) (Sj (Jjn Jjr (by rfl) T.Jay Jkh (Sj (pv 2) Sl)) Sl))) (λ_ _=>rfl)))
   case O3=>
   refine' Sx ?O4 ?O5
   case O4=>exact (Jjt (i:=4) Saw.nd rfl (ye rfl) (Jjx Jkg (Jji T.Ja9 Sdz hr (by decide) (Sj (pv 1) (Sj Jma Sl))) Sn (λ_ _=>rfl)))
   case O5=>
   refine' Sx ?O6 ?O7
   case O6=>exact (Jjt (i:=5) Saw.nd rfl (ye rfl) (Jji T.Ja1 Sk hr (by decide) (Sj (pv 0) (Sj Sn Sl))))
   case O7=>
   refine' Sx ?O8 ?O9
   case O8=>
    refine' Jk4 ?Oa ?Ob ?Oc
    case Oa=>exact (Jkj Jn8 (pv 5) Sn (Jkn _))
    case Ob=>
     refine' Jjj ?Od
     case Od=>exact (Jjo (Jji T.Jac Seu hr (by decide) (Sj (pv 0) Sl)))
    case Oc=>exact Jjs
   case O9=>
   refine' Sx ?Oe ?Of
   case Oe=>
    refine' Jk4 ?Og ?Oh ?Oi
    case Og=>exact (Jkj Jn8 (pv 5) Sn (Jkn _))
    case Oh=>
     refine' Sx ?Oj ?Ok
     case Oj=>exact (Jjt (i:=6) Saw.nd rfl (ye rfl) (Jjx Jkg (Jke (Sj (pv 4) (Sj (Jk7 (Sj Sn (Sj Jma Sl))) (Sj (Jju Jpm (Jke (Sj (Jk7 (Sj Sn (Sj (pv 4) Sl))) Sl)) (Jjn Jjr (by rfl) T.Jay Jkh (Sj (Jjx Jka (pv 1) Sn (λ_ _=>rfl)) Sl))) Sl)))) (Jji T.Ja1 Sk hr (by decide) (Sj (pv 0) (Sj Sn Sl))) (λ_ _=>rfl)))
     case Ok=>
     refine' Jjj ?Ol
     case Ol=>exact (Jjo (Js8 hu64 (Jji T.Jad Se0 hr (by decide) (Sj (pv 0) (Sj (pv 3) Sl))) (pv 6)))
    case Oi=>exact Jjs
   case Of=>
   refine' Sx ?Om ?On
   case Om=>
    refine' Jk4 ?Oo ?Op ?Oq
    case Oo=>exact (Jkj Jn8 (pv 5) Sn (Jkn _))
    case Op=>
     refine' Jjj ?Or
     case Or=>exact (Jjo (Js8 hu64 (pv 3) (Jji T.Jae Sdj hr (by decide) (Sj (pv 0) (Sj (pv 4) Sl)))))
    case Oq=>exact Jjs
   case On=>
   refine' Jjj ?Os
   case Os=>
   refine' Jjo ?Ot
   case Ot=>
   refine' Jjx ?Ou ?Ov ?Ow ?Ox
   case Ou=>exact Jkg
   case Ov=>
    refine' Jke ?Oy
    case Oy=>
    refine' pa4 ?Oz ?U0 ?U1 ?U2
    case Oz=>exact (Jke (Sj (Jk7 (Sj (pv 3) (Sj (pv 4) Sl))) Sl))
    case U0=>exact (Jk7 (Sj (pv 3) (Sj (pv 4) Sl)))
    case U1=>exact (Jke (Sj (pv 3) Sl))
    case U2=>exact (pv 3)
   case Ow=>exact (Jji T.Ja1 Sk hr (by decide) (Sj (pv 0) (Sj Sn Sl)))
   case Ox=>exact (λ_ _=>rfl)
  refine ⟨_,rfl,p,x,R,S,rfl,rt.same rg sm,lk,s4,sn,λL us H1 nL s1 gL rw1=>?_⟩;obtain ⟨⟨l1,l2⟩,l3⟩:=Sn2 s4 sn;have ul:=rw1.1;have st1:=st.same s1;refine ⟨_,rfl,_,rfl,_,rfl,L,_,rfl,.inl (Ss.of gL),q,us.length,rfl,st1,by omega,Nat.lt_of_le_of_lt (Nat.log2_le_self _) (by omega),λr H2 r0 r1 b2=>?_⟩;obtain ⟨sv,hsv,esv⟩:=Jq0 (xs:=us) r0 r1;obtain ⟨i,hi⟩:=ybo hsv;obtain ⟨⟨ls,wt⟩,ha,std⟩:=rw1.at hi;have sl:ls.length=S.Bs.length:=l3 _ (yv ha);have bl:=Jpg lk;have rn:=rg.n.1;have n4:=s4.n4;refine ⟨L,_,r,sv,rfl,rfl,Ss.of (b2.1 _ _ (Jnx st (λ_ _ h=>h) nL) gL),esv,?_⟩;refine ⟨_,rfl,λd3 H3 n3 s3 g3=>⟨p,x,.ref d3,R,S,[],rfl,rt.same rg ?_,rg,lk,s4,⟨d3,rfl,.inl g3⟩,⟨ycd,λ_ z=>nomatch z⟩,λB hB=>(bn B hB).2,λL4 us4 H4 n4' s4' g4 cl4=>?_⟩⟩
  ·exact λc o e=>s3 _ _ (b2.1 c o (Jjm e nq) (s1 _ _ (sm _ _ e)))
  obtain ⟨cv,c,ec,cc,cl⟩:=Jzy n4 bn cl4;have s34:=s3.trans s4';have st4:=b2.2.same s34;refine ⟨L4,_,0,cv,rfl,rfl,Ss.of g4,ec,?_⟩;refine ⟨_,rfl,q,4,rfl,st4,by decide,Jlp (by decide),λr5 H5 z0 z1 b5=>?_⟩;have b05:=(((But.of st s1).trans b2).same s34).trans b5;have sl':ls.length<=40:=by omega
  have std5:Sbs H5 sv ls wt:=Sbs.but st4 b5 (((Sbs.but st1 b2 std)).same s34);have cc5:=CcR.but st4 b5 cc;obtain ⟨tc,qc,ecv,_,_⟩:=id cc;have wet:=s4.c;have k05:∀c o,H0 c=some o->H5 c=some o:=λc o e=>b05.1 c o (Jjm e nq) (sm _ _ e);refine ⟨_,rfl,rfl,_,rfl,?_⟩;by_cases w0:r5=0
  ·subst w0;exact Jws rfl ⟨_,rfl,q,rfl,b5.2,λy H6 b6 nd=>k y H6 (b05.trans b6) (.inl nd)⟩
  refine Jvj (λz=>w0 (V.int.inj z)) ?_;refine ⟨_,rfl,rfl,_,rfl,?_⟩;by_cases w1:r5=1
  ·subst w1;refine Jws rfl ?_;obtain ⟨tt,lb,lt,bs,ts,rfl,ht,hb,btl,htt,ttl,nb,nt⟩:=rt;refine ⟨_,rfl,λd6 H6 n6 s6 g6=>⟨(show 2<=40 by decide),λt7 H7 n7 s7 g7=>⟨_,rfl,(show 2<=40 by decide),λt8 H8 n8 s8 g8=>⟨(show 1<=40 by decide),λl9 H9 n9 s9 g9=>?_⟩⟩⟩⟩;have s59:=((s6.trans s7).trans s8).trans s9;have tn:=rg.tn;have tl:=ttl.len;refine ⟨_,rfl,tt,_,3,_,rfl,rfl,SqT.of (s59 _ _ (k05 _ _ ht)),rfl,lt,_,rfl,.inl (Ss.of (s59 _ _ (k05 _ _ htt))),l9,_,ts.length,rfl,rfl,g9,by omega,λl10 H10 n10 s10 g10=>⟨(show 3<=40 by decide),λL11 H11 n11 s11 g11=>?_⟩⟩;have s510:=s59.trans s10;have s511:=s510.trans s11;have st11:=b5.2.same s511;refine ⟨_,rfl,q,3,rfl,st11,by decide,Jlp (by decide),λr12 H12 y0 y1 b12=>?_⟩;obtain ⟨v,hv,ev⟩:=Jq0 (xs:=([cv,.ref t7,.ref l10]:List V)) y0 y1;have an:∀y∈([cv,.ref t7,.ref l10]:List V),Jnm y:=all_cons (.inr ⟨tc,ecv⟩) (all_cons (.inr ⟨_,rfl⟩) (all_cons (.inr ⟨_,rfl⟩) λ_ z=>nomatch z));have nv:=an v hv;refine ⟨L11,_,r12,v,rfl,rfl,Ss.of (b12.1 _ _ (Jnx b5.2 s510 n11) g11),ev,?_⟩;refine ⟨_,rfl,_,rfl,q,sv,S,ls,wt,rfl,b12.2,Sbs.but st11 b12 (std5.same s511),sl,by omega,by omega,wet.2,hh,λy H13 b13 ok=>?_⟩;obtain ⟨ro,kk,pr,es,dk,ko⟩:=ok;exact ⟨_,rfl,kk,dk,ko,λd o H14 n14 s14 g14=>k _ _ ((((b05.same s511).trans b12).trans b13).same s14) (.inr ⟨d,o,kk,y,v,ro,rfl,Y2 dk s14 g14,ko,nv,pr.same s14,λz=>by rw [es] at z;cases z⟩)⟩
  refine Jvj (λz=>w1 (V.int.inj z)) ?_;refine ⟨_,rfl,rfl,_,rfl,?_⟩;by_cases w2:r5=2
  ·subst w2;refine Jws rfl ⟨_,rfl,_,rfl,_,rfl,q,cv,S,c,rfl,b5.2,cc5,cl,t3,λy H6 b6 ov=>?_⟩;obtain ⟨⟨rs,ps⟩,⟨kk,dk,ko⟩,_⟩:=Ycr (K:=K) (Sbs.but b5.2 b6 std5) sl';have ny:Jnm y:=by
    obtain ⟨_,_,_,_,_,_,h6⟩:=ov;exact h6
   exact ⟨kk,dk,ko,λd o H14 n14 s14 g14=>k _ _ ((b05.trans b6).same s14) (.inr ⟨d,o,kk,sv,y,rs,rfl,Y2 dk s14 g14,ko,ny,ps.same s14,λ_=>ov.same s14⟩)⟩
  refine Jvj (λz=>w2 (V.int.inj z)) ?_;obtain ⟨ti,rfl⟩:∃t,sv= .ref t:=by
   obtain ⟨t,_,e,_⟩:=std;exact ⟨t,e⟩
  refine ⟨_,rfl,_,rfl,(show 2<=40 by decide),λt6 H6 n6 s6 g6=>⟨(show 1<=40 by decide),λl7 H7 n7 s7 g7=>⟨_,rfl,_,rfl,(show 2<=40 by decide),λt8 H8 n8 s8 g8=>⟨_,rfl,(show 1<=40 by decide),λl9 H9 n9 s9 g9=>⟨_,rfl,(show 4<=40 by decide),λL10 H10 n10 s10 g10=>?_⟩⟩⟩⟩⟩;have s9':=s10;have s8':=s9.trans s9';have s7':=s8.trans s8';have s6':=s7.trans s7';have s5':=s6.trans s6';have st10:=b5.2.same s5';refine ⟨_,rfl,q,4,rfl,st10,by decide,Jlp (by decide),λr11 H11 y0 y1 b11=>?_⟩;have fr:∀a,Flt (.ref a):=λa=>.inr ⟨a,rfl⟩;have fc:Flt cv:=.inr ⟨tc,ecv⟩;obtain ⟨t',q',e',g1',g2'⟩:=Sbs.but st10 b11 (std5.same s5');have all:∀v∈([.ref l7,.ref t8,.ref l9,.ref ti]:List V),NdT H11 v:=
   all_cons (.lst (b11.1 _ _ (Jnx b5.2 s6 n7) (s7' _ _ g7)) (all_cons (fr _) λ_ z=>nomatch z) (show 1<=40 by decide)) <|all_cons (.tup (b11.1 _ _ (Jls st10 (s8' _ _ g8) λ_ _ _ z=>by cases z) (s8' _ _ g8)) (all_cons (fr _) (all_cons fc λ_ z=>nomatch z)) (show 2<=40 by decide)) <|
   all_cons (.lst (b11.1 _ _ (Jnx b5.2 ((s6.trans s7).trans s8) n9) (s9' _ _ g9)) (all_cons (fr _) λ_ z=>nomatch z) (show 1<=40 by decide)) <|all_cons (by rw [e'];exact .tup g1' (all_cons (fr _) (all_cons (.inl rfl) λ_ z=>nomatch z)) (show 2<=40 by decide)) λ_ z=>nomatch z
  obtain ⟨v,hv,ev⟩:=Jq0 (xs:=([.ref l7,.ref t8,.ref l9,.ref ti]:List V)) y0 y1;exact ⟨L10,_,r11,v,rfl,rfl,Ss.of (b11.1 _ _ (Jnx b5.2 (((s6.trans s7).trans s8).trans s9) n10) g10),ev,k v H11 ((b05.same s5').trans b11) (.inl (all v hv))⟩
inductive spLaw (K:Sd) (a:Ad) (vs:List V) (H:Hp) (Q:VK) (z3:XK):Prop where
 |mk (x:S1) (ns:List Int) (_:vs= [.ref x]) (_:Ss K H x (ns.map V.int)) (_:ns.length<=63) (_:H a.Jjc=some (.tbl lb_is_unserved_table)) (_:∀H',Q (.bl true) H')
noncomputable def KpX (K:Sd) (w:S9) (H:Hp) (x y:V):Prop:=(x=y/\Jlx x=true)\/(∃p vs,x= .ref p/\y= .ref p/\H p=some (.tup vs)/\∀v∈vs,Jnm v)\/(∃p q vs,x= .ref p/\y= .ref q/\H p=some (.lst vs)/\H q=some (.lst vs)/\∀v∈vs,Jnm v)\/
 ∃a b o o' k u v,x= .ref a/\y= .ref b/\DcA K w H a o [k] [u] [v]/\DcA K w H b o' [k] [u] [v]/\k.ok 6=true/\Jnm v
theorem Jri {K:Sd} {w:S9} {H H':Hp} {d:S1} {o:Obj} {k:Ky} {u v:V} (s:Si H H') (h:DcA K w H d o [k] [u] [v]):DcA K w H' d o [k] [u] [v]:=by
 have e:=h.ku;cases e with
 |cons e _=>exact ⟨s _ _ h.hp,.cons (Sb1.same s e) .nil,h.nd⟩
theorem KpX.same {K:Sd} {w:S9} {H H':Hp} {x y:V} (s:Si H H') (h:KpX K w H x y):KpX K w H' x y:=by
 rcases h with h|⟨p,vs,e1,e2,h,f⟩|⟨p,q,vs,e1,e2,h1,h2,f⟩|⟨a,b,o,o',k,u,v,e1,e2,h1,h2,h3⟩
 ·exact .inl h
 ·exact .inr (.inl ⟨p,vs,e1,e2,s _ _ h,f⟩)
 ·exact .inr (.inr (.inl ⟨p,q,vs,e1,e2,s _ _ h1,s _ _ h2,f⟩))
 ·exact .inr (.inr (.inr ⟨a,b,o,o',k,u,v,e1,e2,Jri s h1,Jri s h2,h3⟩))
theorem KpX.ne {K:Sd} {w:S9} {H:Hp} {x y:V} {Q:VK} (h:KpX K w H x y) (k:Q (.bl false) H):Spy K w x y H Q:=by
 rcases h with ⟨e,h⟩|⟨p,vs,e1,e2,h,f⟩|⟨p,q,vs,e1,e2,h1,h2,f⟩|⟨a,b,o,o',k',u,v,e1,e2,h1,h2,h3,h4⟩
 ·exact .inl ⟨e,h,k⟩
 ·exact .inr (.inl ⟨p,vs,e1,e2,h,f,k⟩)
 ·exact .inr (.inr (.inl ⟨p,q,vs,e1,e2,h1,h2,f,k⟩))
 ·exact .inr (.inr (.inr ⟨a,b,o,o',k',u,v,e1,e2,h1,h2,h3,h4,k⟩))
inductive Sk9 (K:Sd) (w:S9) (vs:List V) (H:Hp) (Q:VK) (z3:XK):Prop where
 |mk (x:V) (S:Riv) (_:vs= [x]) (_:ThT K w H S x) (_:∀y H',Si H H'->KpX K w H' x y->Q y H')
theorem Sph {K:Sd} {w:S9} {H H':Hp} {x y:V} (s:Si H H') (nd:NdT H x) (h:KpT H' x y):KpX K w H' x y:=by
 rcases h with rfl|⟨p,q,xs,rfl,rfl,h1,h2⟩
 ·cases nd with
  |non=>exact .inl ⟨rfl,rfl⟩
  |bl b=>exact .inl ⟨rfl,rfl⟩
  |int i=>exact .inl ⟨rfl,rfl⟩
  |str z=>exact .inl ⟨rfl,rfl⟩
  |tup e f l=>exact .inr (.inl ⟨_,_,rfl,rfl,s _ _ e,f⟩)
  |lst e f l=>exact .inr (.inr (.inl ⟨_,_,_,rfl,rfl,s _ _ e,s _ _ e,f⟩))
 ·cases nd with
  |tup e f l=>
   rw [s _ _ e] at h1;cases h1
  |lst e f l=>
   have e':=s _ _ e;rw [h1] at e';cases e';exact .inr (.inr (.inl ⟨_,_,_,rfl,rfl,h1,h2,f⟩))
theorem Sda.kt {K:Sd} {H:Hp} {S:Riv} {v:V} (h:Sda K H S v):(∃r,PrT K H v r/\chB S r=false)/\PvS K H v/\PvU K H S v/\BdL K H S.Ts.length v:=by
 obtain ⟨r,h1,h2,h3,h4,h5,_⟩:=h;exact ⟨⟨r,h1,h2⟩,h3,h4,h5⟩
theorem Snf {K:Sd} {w:S9} {H:Hp} {S:Riv} {x:V} (h:ThT K w H S x):∃t,emB t=false/\TbT K H x t/\∀y v r,t= .e1 y v r->stB S r=true->Sda K H S v:=by
 rcases h with nd|⟨d,o,k,u,v,r,rfl,dc,ko,nv,pr,ov⟩
 ·exact ⟨.nd,rfl,nd.ty,λ_ _ _ e=>nomatch e⟩
 ·exact ⟨.e1 u v r,rfl,⟨d,o,_,rfl,dc.hp,pr⟩,λy v r e=>by cases e;exact ov⟩
theorem Juk (T:Tx K mg a):Sr P w K mg base CX0 1 a.Jih a.Jii ["_law_thing_here"] (Sk9 K w):=by
 have G:=%[Jvt|1];have cv:∀vs H Q E,Sk9 K w vs H Q E->Ska K w vs H Q E:=λvs H Q E h=>by
  obtain ⟨x,S,rfl,th,k⟩:=h;rcases th with nd|⟨d,o,kk,u,v,r,rfl,dc,ko,nv,pr,ov⟩
  ·exact ⟨x,rfl,.inl ⟨nd,λy H' s kp=>k y H' s (Sph s nd kp)⟩⟩
  ·exact ⟨_,rfl,.inr ⟨d,o,kk,u,v,rfl,dc,ko,λb o' H' s g=>k _ H' s (.inr (.inr (.inr ⟨d,b,o,o',kk,u,v,rfl,rfl,Jri s dc,⟨g,(Jri s dc).ku,dc.nd⟩,ko,nv⟩)))⟩⟩
 exact ⟨λvs H Q E h=>G.1 vs H Q E (cv _ _ _ _ h),λA outer s H us vs Q E a1 a2 a3 a4 a5 h=>G.2 A outer s H us vs Q E a1 a2 a3 a4 a5 (cv _ _ _ _ h)⟩
theorem Sbh:Jjp ["_law_script","_law_told","_law_river_here","_law_stuck_here","_law_k","_law_stream_here","_law_thing_here","_law_kept_here","_law_told_of","_law_some"] ["_law_script"] (Jjl (top 110)):=%[|0]
theorem ok_law (T:Tx K mg a) (B:Bmn mg base):Sr P w K mg base CX0 15 a.a_law a.d_law ["_law_script"] (spLaw K a):=by
 have Scj:=%[Jvs|1];have Sev:=%[Jum|1];have Sfj:=%[Jvu|1];have Sew:=%[Jun|1];have Sb2:=%[Jmz|1];have Sex:=%[Juo|1];have Sfi:=%[Juk|1];have Sbv:=%[Jp4|1];have Sb8:=%[Jno|1];have Sbq:=%[Jop|1];have Saz:=Jo7 (P:=P) (w:=w) (base:=base) T B;refine %[T.f_law.fn.ok,Sbh|2]
 ·obtain ⟨x,ns,rfl,_⟩:=h;rfl
 ·obtain ⟨x,ns,rfl,sq,n63,tbl,k⟩:=h;have hu64:=Jog hr;refine ⟨?t,?B,?C⟩
  case B=>
   refine' Sx ?O0 ?O1
   case O0=>exact (Jjt (i:=1) Sbh.nd rfl (ye rfl) (Jji T.Ja6 Sev hr (by decide) (Sj (Jji T.Jz Scj hr (by decide) (Sj (pv 0) (Sj Sn Sl))) Sl)))
   case O1=>
   refine' Sx ?O2 ?O3
   case O2=>exact (Jjt (i:=2) Sbh.nd rfl (ye rfl) (Jji T.Ja8 Sfj hr (by decide) (Sj (pv 1) Sl)))
   case O3=>
   refine' Sx ?O4 ?O5
   case O4=>exact (Jjt (i:=3) Sbh.nd rfl (ye rfl) (Jji T.Jab Sew hr (by decide) (Sj (Jji T.Jz Scj hr (by decide) (Sj (pv 0) (Sj Sn Sl))) (Sj (pv 1) Sl))))
   case O5=>
   refine' Sx ?O6 ?O7
   case O6=>
    refine' Jlm ?O8 ?O9 ?Oa ?Ob ?Oc
    case O8=>exact PassesOwn.never
    case O9=>exact rfl
    case Oa=>exact (Jtk (by rfl) T.Jb2 (Sj Sn (Sj (Jjn (Jq5 rfl) (by rfl) T.Jb0 Jwi (Sj Sn (Sj (Jjn (Jt7 rfl) (by rfl) T.Jb1 Jzt (Sj (Jjn Jjr (by rfl) T.Jay Jkh (Sj (pv 0) Sl)) (Sj Sn Sl))) Sl))) Sl)))
    case Ob=>exact (Jjq (i:=4) Sbh.nd rfl (ye rfl))
    case Oc=>
    refine' Sx ?Od ?Oe
    case Od=>exact (Jjt (i:=5) Sbh.nd rfl (ye rfl) (Jji T.Ja0 Sb2 hr (by decide) (Sj (Jji T.Jz Scj hr (by decide) (Sj (pv 0) (Sj (pv 4) Sl))) Sl)))
    case Oe=>
    refine' Sx ?Of ?Og
    case Of=>exact (Jjt (i:=6) Sbh.nd rfl (ye rfl) (Jji T.Jaf Sex hr (by decide) (Sj (pv 5) (Sj (pv 1) Sl))))
    case Og=>
    refine' Sx ?Oh ?Oi
    case Oh=>exact (Jjt (i:=7) Sbh.nd rfl (ye rfl) (Jji T.Jag Sfi hr (by decide) (Sj (pv 6) Sl)))
    case Oi=>
    refine' Sx ?Oj ?Ok
    case Oj=>exact (Jjt (i:=8) Sbh.nd rfl (ye rfl) (Jke (Sj (Jji T.Jh Sbv hr (by decide) (Sj (pv 2) (Sj (pv 3) (Sj (pv 6) Sl)))) (Sj (Jji T.Jk Sb8 hr (by decide) (Sj (pv 2) (Sj (pv 3) (Sj (pv 6) Sl)))) Sl))))
    case Ok=>
    refine' Sx ?Ol ?Om
    case Ol=>exact (Jjt (i:=8) Sbh.nd rfl (ye rfl) (Jju Jok (pv 8) (Jke (Sj (Jji T.Jo Sbq hr (by decide) (Sj (pv 2) (Sj (pv 3) (Sj (pv 6) Sl)))) (Sj (Jji T.Jr Saz hr (by decide) (pa4 (pv 2) (pv 3) Jm4 (pv 6))) Sl)))))
    case Om=>
    refine' Sx ?On ?Oo
    case On=>exact (Jlh (Jpn F.plainAttrs_list F.slot_list_append F.type_list_append Jn7 (pv 8) (Sj (Jji T.Jr Saz hr (by decide) (pa4 (pv 2) (pv 3) (pv 6) Jm4)) Sl)))
    case Oo=>
    refine' Jjj ?Op
    case Op=>
    refine' Jk4 ?Oq ?Or ?Os
    case Oq=>exact (PW.pt (Joy (Jkj (Jx2 hu64) (pv 8) (Jju Jpm (Jke (Sj Jko Sl)) Sn) (Jkn _)) (Joy (Jkj (Jx2 hu64) (Jk2 (N:=(["_law_one"]:List Str)) (ini:=[none]) rfl (Jkm (pv 8)) (λ_ _ _ _ _=>(Jjq (i:=0) (by decide +kernel:(["_law_one"]:List Str).Nodup) rfl (ye rfl))) (λ_ _ _ _ _=>(Yc4 (Jk5 (Jk0 (Jjn (Jq3 (K:=K) rfl) (by rfl) T.Jax Jjv (Sj (pv 0) (Sj (Jkr (v:=.ty "bool") (by rfl) T.Jat Jty rfl) Sl))))))) (λ_ _ _ _ _=>(pv 0))) (Jke Sl) (Jkn _)) (Jnh (Jkj (Sm5 hu64) (pv 6) (pv 7) (Jkn _))))))
    case Or=>
     refine' Jjj ?Ot
     case Ot=>exact (Jjo Jko)
    case Os=>exact Jjs
   case O7=>
   refine' Sx ?Ou ?Ov
   case Ou=>
    refine' Jlm ?Ow ?Ox ?Oy ?Oz ?U0
    case Ow=>exact PassesOwn.never
    case Ox=>exact rfl
    case Oy=>exact (Jkm (Jke (Sj (pv 3) (Sj (Yu Jpp) (Sj Jll Sl)))))
    case Oz=>exact (Jjq (i:=9) Sbh.nd rfl (ye rfl))
    case U0=>
    refine' Sx ?U1 ?U2
    case U1=>exact (Jjt (i:=8) Sbh.nd rfl (ye rfl) (Jke (Sj (Jji T.Jh Sbv hr (by decide) (Sj (pv 2) (Sj (pv 9) (Sj Jm4 Sl)))) (Sj (Jji T.Jk Sb8 hr (by decide) (Sj (pv 2) (Sj (pv 9) (Sj Jm4 Sl)))) (Sj (Jji T.Jo Sbq hr (by decide) (Sj (pv 2) (Sj (pv 9) (Sj Jm4 Sl)))) Sl)))))
    case U2=>
    refine' Jjj ?U3
    case U3=>
    refine' Jk4 ?U4 ?U5 ?U6
    case U4=>exact (Jkj (Jx2 hu64) (Jju Jok (pv 8) (Jke (Sj (Jji T.Jr Saz hr (by decide) (pa4 (pv 2) (pv 9) Jm4 Jm4)) Sl))) (Jju Jpm (Jke (Sj Jko Sl)) Sn) (Jkn _))
    case U5=>
     refine' Jjj ?U7
     case U7=>exact (Jjo Jko)
    case U6=>exact Jjs
   case Ov=>
   refine' Jjj ?U8
   case U8=>exact (Jjo Jko)
  refine ⟨_,rfl,x,ns,0,rfl,sq,λn0=>⟨n0,rfl,λtv R p H1 hp s1 st rt rg lg=>?_⟩⟩;refine ⟨_,rfl,p,tv,R,rfl,rt,rg,λo S H2 s2 ro lk gx=>?_⟩;have s02:=s1.trans s2;have rt2:=rt.same rg s2;refine ⟨_,rfl,x,ns,1,rfl,Jpv s02 sq,λn1=>⟨_,rfl,n1,p,tv,R,rfl,rt2,rg,λsx l H3 s3 sa sk ln fr=>?_⟩⟩;have s03:=s02.trans s3;have so:Jrn S (some l):=Sq5 lk rg sk ln;obtain ⟨s4,sn⟩:=Spj lg rg lk;obtain ⟨_,_,_,_,_,_,_,_,_,_,_,t3,_⟩:=id ro;have bnh:∀B∈S.Bs,(1<=B.n/\B.n<=4)/\B.hi<=12:=λB hB=>by
   obtain ⟨C,hC,ek⟩:=Jvm lk hB;have e1:B.n=nOf C.G:=congrArg (·.2.2.2.2.2) ek;have e2:B.hi=C.hi:=congrArg (·.2.2.1) ek;have g:=(rg.Bs C hC).1;have g1:=g.hi;have gl:=g.G.len;have n4:1<=nOf C.G/\nOf C.G<=4:=by unfold nOf;split <;> omega
   omega
  have sq3:=Jpv s03 sq;have rt3:=rt2.same rg s3;have ro3:=ro.same s3;have tb3:=s03 _ _ tbl;refine ⟨_,rfl,x,_,rfl,.inl sq3,_,_,rfl,_,_,rfl,_,_,rfl,⟨by decide,by decide,by split <;> split <;> omega,by split <;> split <;> omega⟩,?_⟩;refine Jtc (λi σ H'=>∃o4 o5 o6 o7 o8 o9,σ= [some (.ref x),some tv,some (.ref o),some sx,o4,o5,o6,o7,o8,o9]/\Si H3 H') ⟨_,_,_,_,_,_,rfl,Si.refl _⟩ ?_ ?_
  ·rintro i σ H4 hi ⟨o4,o5,o6,o7,o8,o9,rfl,sm⟩;refine ⟨_,rfl,_,rfl,x,ns,_,rfl,Jpv sm sq3,λc=>⟨c,rfl,λq H5 hq s5 st5=>?_⟩⟩;refine ⟨_,rfl,_,rfl,p,q,tv,R,S,H4,rfl,st5,hq,s5,rt3.same rg sm,rg,lk,s4,sn,t3,λB hB=>(bnh B hB).1,λB hB=>(bnh B hB).2,λy H6 b6 th=>?_⟩;have m6:Si H3 H6:=λc o e=>b6.1 c o (Jjm (sm _ _ e) hq) (s5 _ _ (sm _ _ e));refine ⟨_,rfl,y,S,rfl,th,λy' H7 s7 kp=>?_⟩;obtain ⟨t,et,tb,nv⟩:=Snf th;have ro6:=ro3.same m6;have sa6:=sa.same m6;have nk:∀{H':Hp},Si H6 H'->∀y v r,t= .e1 y v r->stB S r=true->Sda K H' S v:=λs y v r e z=>(nv y v r e z).same s;have sa6:=sa.same m6;refine ⟨_,rfl,_,rfl,_,rfl,o,S,sx,y,some l,t,rfl,ro6.same s7,sa6.same s7,so,tb.same s7,λy v r e z=>(nk s7 y v r e z).kt.1,λH8 s8=>?_⟩;have m8:=s7.trans s8;refine ⟨_,rfl,_,rfl,_,rfl,o,S,sx,y,some l,t,rfl,ro6.same m8,sa6.same m8,so,tb.same m8,λy v r e z=>(nk m8 y v r e z).kt.2.1,λH9 s9=>⟨(show 2<=40 by decide),λL10 H10 n10 s10 g10=>?_⟩⟩;have m10:=(m8.trans s9).trans s10;refine ⟨_,rfl,_,rfl,_,rfl,_,rfl,o,S,sx,y,t,rfl,ro6.same m10,tb.same m10,λy v r e z=>(nk m10 y v r e z).kt.2.2.2,λH11 s11=>⟨_,rfl,_,rfl,λd12 o12 H12 n12 s12 g12=>?_⟩⟩;have m12:=(m10.trans s11).trans s12;refine ⟨_,rfl,o,S,sx,.ref d12,y,some l,.e0,t,rfl,m12 _ _ (m6 _ _ tb3),ro6.same m12,sa6.same m12,so,⟨d12,o12,rfl,g12⟩,(λ_ _ _ e=>nomatch e),tb.same m12,λy v r e z=>(nk m12 y v r e z).kt.2.2.1,λH13 s13=>⟨(show 2<=40 by decide),λL14 H14 n14 s14 g14=>?_⟩⟩;have e10:=((s11.trans s12).trans s13).trans s14;refine ⟨L10,L14,_,_,rfl,rfl,e10 _ _ g10,g14,(show 4<=40 by decide),λM15 H15 n15 s15 g15=>?_⟩;have m14:=m10.trans e10;have m15:=m14.trans s15;refine ⟨_,rfl,.inl ⟨rfl,_,Ss.of g15⟩,_,rfl,_,rfl,_,rfl,λd16 o16 H16 n16 s16 g16=>?_⟩;have m16:=m15.trans s16;refine ⟨o,S,sx,y,.ref d16,some l,t,.e0,rfl,m16 _ _ (m6 _ _ tb3),ro6.same m16,sa6.same m16,so,tb.same m16,(λy v r e z=>(nk m16 y v r e z).kt.2.1),⟨d16,o16,rfl,g16⟩,(λ_ _ _ e=>nomatch e),λH17 s17=>?_⟩;refine ⟨M15,_,_,rfl,rfl,s17 _ _ (s16 _ _ g15),(show 4 < S6 by decide),?_⟩;have ev:([V.bl (emB t),.bl (emB t)]++ [.bl (emB t),.bl (emB .e0&&emB t)])++ [.bl (emB t&&emB .e0)]= [.bl false,.bl false,.bl false,.bl false,.bl false]:=by
    rw [et];rfl
   rw [ev];have m18:Si H14 (upd H17 M15 (.lst [.bl false,.bl false,.bl false,.bl false,.bl false])):=λc o e=>by
    rw [Sy (Jjm e n15)];exact s17 _ _ (s16 _ _ (s15 _ _ e))
   have g18:=So (H:=H17) (a:=M15) (o:=.lst [.bl false,.bl false,.bl false,.bl false,.bl false]);generalize upd H17 M15 (.lst [.bl false,.bl false,.bl false,.bl false,.bl false])=H18 at m18 g18⊢;have dF:∀{b:Bool} {H:Hp} {q:S1},H q=some (.lst [.bl b,.bl b,.bl b,.bl b,.bl b])->Sb1 K H (.ref q) (.list [.bool b,.bool b,.bool b,.bool b,.bool b]):=λh=>.lst (Ss.of h) (.cons (.bl _) (.cons (.bl _) (.cons (.bl _) (.cons (.bl _) (.cons (.bl _) .nil)))));refine ⟨_,rfl,(show 1<=40 by decide),λl19 H19 n19 s19 g19=>⟨l19,_,5,rfl,rfl,g19,by decide,λl20 H20 n20 s20 g20=>⟨_,_,dF (s20 _ _ (s19 _ _ g18)),dF g20,by decide +kernel,by decide +kernel,_,rfl,ifF (by decide +kernel) ?_⟩⟩⟩;have g20':=s20 _ _ (s19 _ _ g18);refine ⟨_,rfl,M15,rfl,⟨_,Ss.of g20'⟩,λD hD=>?_⟩;refine Jyk (λ_ v (b:Bool)=>v= .bl b) [false,false,false,false,false] (λ_=>false) (λ_ _ _ _ _ h=>h) hD ⟨rfl,λi v b e1 e2=>?_⟩ (by decide) g20' (λi v b H' Q' _ e kq=>?_) λvs H21 s21 g21 r21=>?_
   ·have e1':(List.map V.bl [false,false,false,false,false])[i]?=some v:=e1;rw [ym,e2] at e1';cases e1';rfl
   ·subst e;exact ⟨_,rfl,_,_,_,_,_,rfl,rfl,.of (.bl b),rfl,_,rfl,kq⟩
   ·obtain rfl:vs= []:=List.eq_nil_of_length_eq_zero r21.1;refine ⟨(show 0<=40 by decide),λl22 H22 n22 s22 g22=>⟨.list [],.list [],.lst (Ss.of (s22 _ _ g21)) .nil,.lst (Ss.of g22) .nil,by decide +kernel,by decide +kernel,_,rfl,ifF (by decide +kernel) ?_⟩⟩;have ks:Si H7 H22:=(((s8.trans s9).trans s10).trans e10).trans ((m18.trans (s19.trans s20)).trans (s21.trans s22));exact ⟨_,rfl,_,rfl,(kp.same ks).ne ⟨_,rfl,Jk9 ⟨_,_,_,_,_,_,rfl,m6.trans (s7.trans ks)⟩⟩⟩
  ·rintro σ H4 ⟨o4,o5,o6,o7,o8,o9,rfl,sm⟩;refine ⟨_,rfl,λd hd=>⟨d,[],rfl,So,λod=>⟨(show 3<=40 by decide),λL6 H6 n6 s6 g6=>⟨L6,rfl,⟨_,Ss.of g6⟩,?_⟩⟩⟩⟩;have m5:Si H4 (upd (upd H4 d (.dK [])) d (.frz od (.dK []))):=λc o e=>by
    rw [Sy (Jjm e hd),Sy (Jjm e hd)];exact e
   have m6:=sm.trans (m5.trans s6);have ro6:=ro3.same m6;have it:∀v∈([sx,.ref d,.non]:List V),∃sk',Sc2 H6 v sk'/\Jrn S sk':=all_cons ⟨_,sa.same m6,so⟩ <|all_cons ⟨some [],⟨d,od,rfl,s6 _ _ So⟩,λ_ e=>by cases e;exact ⟨by decide,ycd,λ_ z=>nomatch z⟩⟩ <|all_cons ⟨none,rfl,λ_ e=>nomatch e⟩ λ_ z=>nomatch z;refine Jlr (xs:=[sx,.ref d,.non]) (λi σ H'=>∃o4 o5 o6 o7 o8 o9,σ= [some (.ref x),some tv,some (.ref o),some sx,o4,o5,o6,o7,o8,o9]/\Si H6 H') ⟨_,_,_,_,_,_,rfl,Si.refl _⟩ (λi σ H' _ ⟨_,_,_,_,_,_,_,sm⟩=>Ss.of (sm _ _ g6)) ?_ ?_
   ·rintro i v σ H7 hv ⟨o4,o5,o6,o7,o8,o9,rfl,sm7⟩;obtain ⟨sk',sv,sov⟩:=it v (yv hv);refine ⟨_,rfl,_,rfl,λd8 o8' H8 n8 s8 g8=>?_⟩;have m8:=sm7.trans s8;refine ⟨o,S,v,.ref d8,sk', .e0,rfl,ro6.same m8,sv.same m8,sov,⟨d8,o8',rfl,g8⟩,(λ_ _ _ e=>nomatch e),λH9 s9=>⟨_,rfl,_,rfl,λd10 o10 H10 n10 s10 g10=>?_⟩⟩;have m10:=(m8.trans s9).trans s10;refine ⟨o,S,v,.ref d10,sk', .e0,rfl,ro6.same m10,sv.same m10,sov,⟨d10,o10,rfl,g10⟩,(λ_ _ _ e=>nomatch e),λH11 s11=>⟨_,rfl,_,rfl,λd12 o12 H12 n12 s12 g12=>?_⟩⟩;have m12:=(m10.trans s11).trans s12;refine ⟨o,S,v,.ref d12,.e0,rfl,ro6.same m12,⟨d12,o12,rfl,g12⟩,(λ_ _ _ e=>nomatch e),λH13 s13=>⟨(show 3<=40 by decide),λL14 H14 n14 s14 g14=>?_⟩⟩;have m14:=(m12.trans s13).trans s14;refine ⟨_,rfl,_,rfl,_,rfl,λd15 o15 H15 n15 s15 g15=>λd16 o16 H16 n16 s16 g16=>?_⟩;have s1416:=s15.trans s16;have m16:=m14.trans s1416;refine ⟨o,S,v,.ref d15,.ref d16,sk', .e0,.e0,rfl,m16 _ _ (m6 _ _ tb3),ro6.same m16,sv.same m16,sov,⟨d15,o15,rfl,s16 _ _ g15⟩,(λ_ _ _ e=>nomatch e),⟨d16,o16,rfl,g16⟩,(λ_ _ _ e=>nomatch e),λH17 s17=>⟨(show 1<=40 by decide),λL18 H18 n18 s18 g18=>?_⟩⟩;have e14:=(s1416.trans s17).trans s18;refine ⟨L14,L18,_,_,rfl,rfl,e14 _ _ g14,g18,(show 4<=40 by decide),λM19 H19 n19 s19 g19=>⟨(show 1<=40 by decide),λl20 H20 n20 s20 g20=>⟨l20,_,4,rfl,rfl,g20,by decide,λl21 H21 n21 s21 g21=>?_⟩⟩⟩;have dT:∀{H:Hp} {q:S1},H q=some (.lst [.bl true,.bl true,.bl true,.bl true])->Sb1 K H (.ref q) (.list [.bool true,.bool true,.bool true,.bool true]):=λh=>.lst (Ss.of h) (.cons (.bl _) (.cons (.bl _) (.cons (.bl _) (.cons (.bl _) .nil))));exact ⟨_,_,dT (s21 _ _ (s20 _ _ g19)),dT g21,by decide +kernel,by decide +kernel,_,rfl,ifF (by decide +kernel) ⟨_,_,_,_,_,_,rfl,(m14.trans e14).trans ((s19.trans s20).trans s21)⟩⟩
   ·rintro σ H7 ⟨o4,o5,o6,o7,o8,o9,rfl,_⟩;exact k _
end
end K55
end
namespace PySem.W.Fast
def tw657340733270606681:=()
def tw8439655346763290324:=()
def tw5221386489983182445:=()
def tw1944789328498736580:=()
def tw8302650354568437095:=()
def tw10091744901060625986:=()
def tw12203744659842568974:=()
def tw11689475141076464899:=()
def tw14460592017160710108:=()
def tw12491683471197366031:=()
def tw13592679447449351373:=()
def tw10352411900545964658:=()
def tw11870266779528281605:=()
def tw7213282490619441485:=()
def tw15780327696753676281:=()
def tw600522262975995203:=()
def tw7166156814741665082:=()
def tw17788684580978027062:=()
def tw6728226842800189114:=()
def tw15085041295256555355:=()
def tw13683256621221187994:=()
def tw12511992589362083779:=()
def tw18293164403404925297:=()
def tw3679525255308900784:=()
def tw16521902409059455878:=()
def tw7223093872661611730:=()
def tw16043771687299180389:=()
def tw16740150966435015539:=()
def tw2593469132248836138:=()
def tw391808755666245045:=()
def tw8935945246027915787:=()
def tw482610376665225105:=()
def tw8837399816204113194:=()
def tw973918526153736073:=()
def tw11920867887661081759:=()
def tw15636370089010384876:=()
def tw333658251263799912:=()
def tw3921483415666804625:=()
def tw11934964188366355404:=()
def tw6945747299496406451:=()
def tw6935109898641609093:=()
def tw13113429558407152949:=()
def tw5190696437971726924:=()
def tw13183344151217599669:=()
def tw10084627343364646235:=()
def tw4825343627994527452:=()
def tw4068700209545009118:=()
def tw4709284380492483503:=()
def tw2482417082201350184:=()
def tw13059203828424561457:=()
def tw2710809838895204332:=()
def tw2695071256983728421:=()
def tw9822623088962573472:=()
def tw6875908203737496914:=()
def tw3345631701843419801:=()
def tw9425152949127109614:=()
def tw13787012254254346317:=()
def tw11263809672086555757:=()
def tw2652476100181068367:=()
def tw6997100462751220068:=()
def tw15813583327857325030:=()
def tw3240000894282467136:=()
def tw15143971307531454627:=()
def tw13185880996301386000:=()
def tw10438171896185344580:=()
def tw7621838966946956613:=()
def tw1544781102404814521:=()
def tw10521121112171712058:=()
def tw7834484587396539720:=()
def tw2422809957659794271:=()
def tw9659674612064366774:=()
def tw16101963420499339336:=()
def tw8993975026963093606:=()
def tw7884029248816601274:=()
def tw6571027369209189631:=()
def tw4880745316707627045:=()
def tw337651192316332223:=()
def tw6370811382649285536:=()
def tw4066135455491230506:=()
def tw10900010672851133156:=()
def tw10007787135719098013:=()
def tw13435273761334627914:=()
def tw11141065404254497116:=()
def tw13767434812448525961:=()
def tw1753863392690428366:=()
def tw3918658208236275634:=()
def tw1239334872750409110:=()
def tw3059853830751930346:=()
def tw14604351019927439951:=()
def tw13595980898267054995:=()
def tw11254235567192302937:=()
def tw14001902734319578394:=()
def tw11921822658939384789:=()
def tw5780362160953442670:=()
def tw591112921368685250:=()
def tw9738405658094597818:=()
def tw16478692826679589567:=()
def tw5953661796809697158:=()
def tw13846435243073698994:=()
def tw4225377896942497588:=()
def tw16812425248412938671:=()
def tw1030305115078256474:=()
def tw4948899074374706052:=()
def tw7588834922750300212:=()
def tw15512806904346692548:=()
def tw4910489252439093147:=()
def tw6442756007189456578:=()
def tw11821563371515736267:=()
def tw5563015134928043577:=()
def tw6410363470294327527:=()
def tw4754020976207483332:=()
def tw3081350329479100262:=()
def tw13850655248497185712:=()
def tw7158489866727268964:=()
def tw10698722998865496590:=()
def tw3417204318689956371:=()
def tw12678519649972920178:=()
def tw14284206838930681067:=()
def tw10709154151483796691:=()
def tw80248628258258274:=()
def tw15613974448595222041:=()
def tw13510994577110041061:=()
def tw7392998608321809335:=()
def tw16967434517530590873:=()
def tw9574171103112806005:=()
def tw4497158174147966771:=()
def tw2710775248596998517:=()
def tw16736913830405624314:=()
def tw3975746818054347955:=()
def tw16104752438301458309:=()
def tw17819640081755136297:=()
def tw18167907399946422118:=()
def tw15471395576439538939:=()
def tw1013342811478800923:=()
def tw3560032428210065175:=()
def tw14062295898836117369:=()
def tw13090323308534577524:=()
def tw4139780619121424944:=()
def tw13200898848359982823:=()
def tw5586058327754379888:=()
def tw3782315512690463139:=()
def tw12911680318260981416:=()
def tw10936047083055215410:=()
def tw12622429444219132996:=()
def tw2562037644506437094:=()
def tw17606299828210799572:=()
def tw2214552409660560552:=()
def tw3783063314024840893:=()
def tw3048865845710412391:=()
def tw8105468670327259273:=()
def tw759982965155526535:=()
def tw6071873704140297874:=()
def tw11184906730981931597:=()
def tw11440391820230001295:=()
def tw9004318115224388524:=()
def tw14120439076194518100:=()
def tw17442338821055817333:=()
def tw2559630489810686712:=()
def tw17296849068254792677:=()
def tw5567784686316059874:=()
def tw14197389333530127103:=()
def tw2754182529708027688:=()
def tw13693043021865877279:=()
def tw6220270593289080981:=()
def tw18216762017400626740:=()
def tw5515798795705021360:=()
def tw4584283050487235939:=()
def tw4147222106614195493:=()
def tw11045308201523893040:=()
def tw9057900699969027222:=()
def tw16489769958290412539:=()
def tw5194687790759584748:=()
def tw1528413462779403949:=()
def tw7131257305625598537:=()
def tw14892658237180308949:=()
def tw8307460740188873034:=()
def tw1272134498355463161:=()
def tw11388340063774007839:=()
def tw15111920664664862403:=()
def tw16456212875461159440:=()
def tw10720969527486785464:=()
def tw4252848212210207672:=()
def tw18083060036918305866:=()
def tw7855161133317510980:=()
def tw9891340284625524587:=()
def tw4763141527273021769:=()
def tw11117913758584753657:=()
def tw18005710051501358553:=()
def tw15087342750723797660:=()
def tw7072927631851158104:=()
def tw17019002602176633955:=()
def tw9540167084449174385:=()
def tw1728613272154863855:=()
def tw6766452105361960836:=()
def tw9005348233523930253:=()
def tw17174616693648815073:=()
def tw13060519464260526089:=()
def tw12032176623105920829:=()
def tw14459689016006388060:=()
def tw3138966281405346150:=()
def tw8315396351092551942:=()
def tw1691573317389467903:=()
def tw16662723035913653640:=()
def tw6198065857792463054:=()
def tw16012109587491884331:=()
def tw5018656311499030768:=()
def tw6825114980612856880:=()
def tw11181494988475467406:=()
def tw2250433871149369470:=()
def tw969483309240993422:=()
def tw6605679462858462244:=()
def tw16650766357266134677:=()
def tw5431665032749629106:=()
def tw9703670484008124266:=()
def tw11801437074094142743:=()
def tw1745812672146447300:=()
def tw3348134221834308493:=()
def tw3593550919106950957:=()
def tw916496444160047449:=()
def tw6152101315576101948:=()
def tw15977774443622327066:=()
def tw15924252225163808843:=()
def tw11088122107456098293:=()
def tw7827698048694758250:=()
def tw685143707822485871:=()
def tw376214405530272238:=()
def tw354596685716435480:=()
def tw10469374610040278832:=()
def tw5606035887774418213:=()
def tw5796461477979319865:=()
def tw9985424212616323305:=()
def tw7431868510371614937:=()
def tw3740264189342628088:=()
def tw8132267559446546910:=()
def tw17035834916959916453:=()
def tw1859471527659644107:=()
def tw15403933261611639499:=()
def tw2417216208509550809:=()
def tw16160840270111203118:=()
def tw17224419089503679487:=()
def tw17713047667624411947:=()
def tw3679170487521884592:=()
def tw17597724937793308576:=()
def tw5106833617429715140:=()
def tw2512977155714089668:=()
def tw9412827500126063831:=()
def tw1299442692465533883:=()
def tw5037636989147974256:=()
def tw13608905093211844171:=()
def tw14815068128039732066:=()
def tw10653718656781876010:=()
def tw17111316180542379489:=()
def tw11646925291158372995:=()
def tw534141769850447080:=()
def tw12662806505565423669:=()
def tw15005153169470695112:=()
def tw6455043811391836370:=()
def tw15234792451357326395:=()
def tw16085530557167573673:=()
def tw4549617255598682060:=()
def tw15710791049717469733:=()
def tw9177601667414220330:=()
def tw998413274952310078:=()
def tw13657758772344397369:=()
def tw3781077563590956641:=()
def tw9149287491312143147:=()
def tw5620285731257673183:=()
def tw8297867686101312002:=()
def tw13936763602301144516:=()
def tw5198217438983240816:=()
def tw5729196515636422052:=()
def tw4367329369526017276:=()
def tw9643695836304207704:=()
def tw17473895897527651133:=()
def tw14664141519957575962:=()
def tw18352322319661418289:=()
def tw8322265516442544454:=()
def tw8346398936900762447:=()
def tw2744925879331742314:=()
def tw16468289553217786412:=()
def tw12997236800544955698:=()
def tw13039197034969383880:=()
def tw15483099900043590934:=()
def tw1131079243736960248:=()
def tw14033673872480946486:=()
def tw8360814274714884739:=()
def tw7662467970027261467:=()
def tw9585214459674070523:=()
def tw5670507147922667455:=()
def tw17086400967013951240:=()
def tw1869457404358741258:=()
def tw7285187187831269636:=()
def tw6914295722090570813:=()
def tw3197328677654163488:=()
def tw5748453764985679860:=()
def tw7598786579196776412:=()
def tw10492403659291513956:=()
def tw853613708158010690:=()
def tw1398115096394097022:=()
def tw8811423625683078461:=()
def tw4812652803812411378:=()
def tw2970292226127348929:=()
def tw16666225057391240690:=()
def tw17101928923524518612:=()
def tw16215643580415689110:=()
def tw15081413654270199938:=()
def tw2565307343324738287:=()
def tw18325782995622154098:=()
def tw565825744189273900:=()
def tw18415769521821467143:=()
def tw9027483002296357221:=()
def tw13656129774392249182:=()
def tw10479808820813502529:=()
def tw2328321443787902903:=()
def tw13870433055931715013:=()
def tw14485065364944674318:=()
def tw10568081607685273691:=()
def tw3123629100566130969:=()
def tw6395806227157710594:=()
def tw7840476926900998734:=()
def tw17095435154238870131:=()
def tw18199140862160837577:=()
def tw73885436842012048:=()
def tw6626753602318331653:=()
def tw1689563727510707563:=()
def tw16782582738418842212:=()
def tw14061868601999197619:=()
def tw16615087250964709543:=()
def tw925281730735104078:=()
def tw12256495236504624995:=()
def tw1062555928731253831:=()
def tw16992588052860765756:=()
def tw10456823911451551538:=()
def tw2972606685087377979:=()
def tw4709451562670354324:=()
def tw1811620047650601935:=()
def tw17254736304018135546:=()
def tw16892808683169115419:=()
def tw12392424891414725982:=()
def tw17117572525576960625:=()
def tw9521973118986816996:=()
def tw10668938677248272036:=()
def tw11737210139901710971:=()
def tw12804465386777190490:=()
def tw853741024824967065:=()
def tw10295800251221678326:=()
def tw1602190454714764981:=()
def tw17737875477268886523:=()
def tw14403228956641260223:=()
def tw4474963875813851015:=()
def tw1667500081153018687:=()
def tw8357120314150845109:=()
def tw1184427555979419748:=()
def tw3557411126222879801:=()
def tw6083873573668074786:=()
def tw13831285271953137360:=()
def tw6222137897293345304:=()
def tw3088911791661578258:=()
def tw3116704826387907600:=()
def tw15493144421430854284:=()
def tw2182169764190707508:=()
def tw6794210306835513244:=()
def tw4833782427039583571:=()
def tw9296768176958984624:=()
def tw2497649521995452356:=()
def tw11588551148428227146:=()
def tw5952930669376192627:=()
def tw2684742953731410190:=()
def tw13076991133623517084:=()
def tw7454400972229994789:=()
def tw543960821584801757:=()
def tw10250809624283862047:=()
def tw5091061159233019617:=()
def tw13507004722526175649:=()
def tw8437557838973164928:=()
def tw2447677631721825667:=()
def tw14738393048919543659:=()
def tw7021608045319138671:=()
def tw10281756334262297382:=()
def tw10659511433597276137:=()
def tw3190176679311011018:=()
def tw13629884772208696857:=()
def tw14795590988676180871:=()
def tw9135792993193835373:=()
def tw14363106740138951303:=()
def tw11827310021646068373:=()
def tw6303655819821341648:=()
def tw7506360377357640813:=()
def tw3021666168796434394:=()
def tw99308316904086854:=()
def tw1126229168413749211:=()
def tw15665952513133096325:=()
def tw16265196377870372216:=()
def tw15304396627883188866:=()
def tw367452194257462332:=()
def tw4286953428967743431:=()
def tw6798359327551771348:=()
def tw1730943159033263097:=()
def tw4814344370031651919:=()
def tw12177831749633828698:=()
def tw7526576997847390020:=()
def tw5124516348777939158:=()
def tw13065481349331040691:=()
def tw13400612089398850266:=()
def tw16098936488809405720:=()
def tw18298200972283373120:=()
def tw6554851545307690229:=()
def tw4984308804605329859:=()
def tw13999730182770040749:=()
def tw3035194702663975173:=()
def tw14224000898496539446:=()
def tw6639334102089614800:=()
def tw960121968704856289:=()
def tw9484436211450398885:=()
def tw14791518451437398508:=()
def tw4850820926146687776:=()
def tw5842626826112826830:=()
def tw16715458768675539406:=()
def tw12343658936671499497:=()
def tw12010381612149215330:=()
def tw6136184831861929555:=()
end PySem.W.Fast
open PySem PySem.W PyProof.Rows
set_option maxRecDepth 100000 in
set_option maxHeartbeats 0 in
theorem PySem.Challenge.cw_weirwatch_k55_whatever_as_tables_holds : PySem.Challenge.rw_weirwatch_k55_whatever_as_tables.Holds := by
 w_on;o_law;k_head;(case hw=>w_witness2)
 k_fill
 refine L2.walk_ofM (l:=PySem.Challenge.rw_weirwatch_k55_whatever_as_tables) (n:=63) (k:=15) (x:="_law_script") (CX:=L2.CX0) rfl (by decide) rfl ⟨rfl,by decide,by decide,rfl⟩ (λw h Y=>PySem.W.km_in_of Y) (λw h Y=>PySem.W.km_tabs_of Y) ?K ?F ?C
 case K=>intro w;kernel_rfl
 case F=>
  intro w mg fa h KX G TB hmg;have T:∃a:K55.Ad,(∀(s:S3) (v:S2),BindsTo s a.d_law ⟨[v],[]⟩ [("_law_script",v)])/\K55.Tx (L2.KOf KX) mg a/\(∀P∈ [a.Jjc],h.get? P=some (PySem.W.tabObj #[])):=by
   dsimp only [L2.KOf,L2.NoAttr];apply Exists.intro (K55.Ad.mk _ _ _ _ _ _ _ _ _ _ _ _ _ _ _ _ _ _ _ _ _ _ _ _ _ _ _ _ _ _ _ _ _ _ _ _ _ _ _ _ _ _ _ _ _ _ _ _ _ _ _ _ _ _ _ _ _ _ _ _ _ _ _ _ _ _ _ _ _ _ _ _ _ _ _ _ _ _ _ _ _ _ _ _ _ _ _ _ _ _ _ _ _ _ _ _ _ _ _ _ _ _ _ _ _ _ _ _ _ _ _ _ _ _ _ _ _ _ _ _ _ _ _ _ _ _ _ _ _ _ _ _ _ _ _ _ _ _ _ _ _ _ _ _ _ _ _ _ _ _ _ _ _ _ _ _ _ _ _ _ _ _ _ _ _ _ _ _ _ _ _ _ _ _);refine' ⟨?bb,?tx,?tb⟩
   case tx=>
    apply K55.Tx.mk
    all_goals try dsimp only [L2.KOf,L2.NoAttr]
    iterate 54 (refine' L2.ft_mk KX G ?za ?b ?c ?d ?e;(case za=>k_is);(case b=>k_is);(case c=>k_is);(case d=>k_is);(case e=>first|(intro _ _ _ _ _ _ u h;obtain ⟨_,rfl⟩:=L2.lv1 u h;rfl)|(intro _ _ _ _ _ _ u h;obtain ⟨_,_,rfl⟩:=L2.lv2 u h;rfl)|(intro _ _ _ _ _ _ u h;obtain ⟨_,_,_,rfl⟩:=L2.lv3 u h;rfl)|(intro _ _ _ _ _ _ u h;obtain ⟨_,_,_,_,rfl⟩:=L2.lv4 u h;rfl)|(intro _ _ _ _ _ _ u h;obtain ⟨_,_,_,_,_,rfl⟩:=L2.lv5 u h;rfl)|(intro _ _ _ _ _ _ u h;obtain ⟨_,_,_,_,_,_,_,rfl⟩:=L2.lv7 u h;rfl)))
    iterate 10 (refine' PySem.W.mg_of KX G ?za;(case za=>k_is))
    iterate 18 (refine' PySem.W.mg_none_of KX G ?za;(case za=>k_is))
    iterate 18 (refine' PySem.W.mg_of KX G ?za;(case za=>k_is))
    iterate 18 (k_is)
    iterate 18 (refine' L2.fm_mk ?za ?b ?c ?d;(case za=>k_is);(case b=>k_is);(case c=>k_is);(case d=>first|(intro _ _ _ _ _ _ u h;obtain ⟨_,rfl⟩:=L2.lv1 u h;rfl)|(intro _ _ _ _ _ _ u h;obtain ⟨_,_,rfl⟩:=L2.lv2 u h;rfl)|(intro _ _ _ _ _ _ u h;obtain ⟨_,_,_,rfl⟩:=L2.lv3 u h;rfl)|(intro _ _ _ _ _ _ u h;obtain ⟨_,_,_,_,rfl⟩:=L2.lv4 u h;rfl)|(intro _ _ _ _ _ _ u h;obtain ⟨_,_,_,_,_,rfl⟩:=L2.lv5 u h;rfl)|(intro _ _ _ _ _ _ u h;obtain ⟨_,_,_,_,_,_,_,rfl⟩:=L2.lv7 u h;rfl)))
    iterate 7 (refine' L2.xc_mk ?za ?b ?c;(case za=>k_is);(case b=>kernel_rfl);(case c=>kernel_rfl))
    iterate 24 (constructor <;> k_is)
    iterate 23 (k_is)
    refine' L2.nst_mk ?za ?b ?c ?d ?e;(case za=>k_is);(case b=>rfl);(case c=>k_is);(case d=>rfl);(case e=>rfl);decide
    iterate 14 (kernel_rfl)
   case tb=>exact List.forall_mem_cons.mpr ⟨TB _ (by decide),λ_ z=>nomatch z⟩
   case bb=>exact λs v=>.of_eq rfl
  obtain ⟨a,b,T,tb⟩:=T;have e:=hmg.symm.trans T.f_law.mgx;cases e;exact ⟨a.d_law,K55.spLaw (L2.KOf KX) a,[(a.Jjc,K55.lb_is_unserved_table)],b,List.forall_mem_cons.mpr ⟨L2.tab_km T.Je6 KX (tb _ (.head _)),λ_ z=>nomatch z⟩,T.tnd,λbase kb nb B=>K55.ok_law T B,λH x ns hl ht hS=>⟨x,ns,rfl,hS,hl,ht _ (.head _),λ_=>rfl⟩⟩
 case C=>exact λ_ _ _ _ z=>z
#print axioms PySem.Challenge.cw_weirwatch_k55_whatever_as_tables_holds
