import PyProof.Rows.All
import Wide.All
import OpenK.AllK
import Wide.FinOn
import Lean
import PyProof.EqAt
import PyProof.EqKinds
import PyProof.TupleCall
import PySem.Challenge.RW_weirwatch_k06_whole_rivers_as_texts
open PySem renaming Addr → S5, Value → S6, Shared → S7, wpAny_bind → S8, wpAny_pure → S9, sizeLine → Sa, Program → Sb, FuncData → Sc, World → Sd, Around → Se, Stmt → Sf, Heap → Sg, wpAny → Sh
open PySem.W renaming Frag → Si, kitOne → Sj, findIn → Sk, mroIn → Sl, instObj → Sm
open Or renaming inl → ye
open List renaming length_map → yf, mem_cons → yi, getElem?_map → yk, mem_of_getElem? → yo, getElem?_eq_getElem → yq, not_mem_nil → yt, size_toArray → yu, getElem?_eq_some_iff → yw, length_take → yx, take_of_length_le → yab, mem_cons_of_mem → yae, map_append → yaf, mem_map → yag, all_eq_true → yai, length_cons → yaj, length_append → yal, take_add_one → yam, lookup_cons → yan, mem_cons_self → yao, mem_append_right → yaq, mem_append → yar, map_cons → yas, lookup → yaw, nodup_cons → yax, length_drop → yay, append_nil → yba, length → ybb, getElem?_append_right → ybc, of_mem_zip → ybe, getElem?_append_left → ybg, forall_mem_cons → ybk, getElem?_take_of_lt → ybm, length_replicate → ybn, getElem?_zip_eq_some → ybo, getD_eq_getElem?_getD → ybp, getElem_mem → ybq, mem_singleton → ybt
open PySem.Heap renaming lt_size → yg, get?_push_of_some → yj, get?_push_size → yr, size_push → yak, SameBut → yap, get?_update_other → yaz, get?_update_self → ybh
open Nat renaming le_refl → yh, ne_of_lt → yn, le_trans → yz, lt_of_lt_of_le → yad, zero_le → yah, lt_irrefl → yat, ne_of_gt → yau, le_of_lt → yav, lt_of_le_of_lt → ybj, lt_succ_self → ybl, log2_le_self → ybs
open Ne renaming symm → ym
open Bool renaming and_eq_true → yp, false_ne_true → yv, eq_iff_iff → ybd
open Option renaming some → yy, map_eq_some_iff → yac, isSome_iff_exists → ybf
open Int renaming eq_ofNat_of_zero_le → yaa, emod_lt_of_pos → ybr
open Array renaming getElem?_eq_some_iff → ybi
set_option Elab.async false
set_option linter.all false
set_option maxRecDepth 100000
namespace L2
open PySem PySem.Spec PyProof.Rows
abbrev Key:=Sum Int Str
def Jxe:Key->S6->Bool
 | .inl k,v=>Value.isInt k v
 | .inr x,v=>Value.isStrOf x v
def Sr8 (w:Sd):Key->Int
 | .inl k=>hashInt k
 | .inr x=>hashStr w x
theorem Jm4:∀{k:Key} {v:S6},Jxe k v=true->(∃i t,k=Sum.inl i/\v=Value.int i t)\/(∃x t,k=Sum.inr x/\v=Value.str x t)
 | .inl i,v,h=>by
  obtain ⟨t,e⟩:=Value.isInt_shape (k:=i) (v:=v) h
  exact .inl ⟨i,t,rfl,e⟩
 | .inr x,v,h=>by
  obtain ⟨t,e⟩:=Value.isStrOf_shape (x:=x) (v:=v) h
  exact .inr ⟨x,t,rfl,e⟩
theorem Jxz (x:Str) (t:Tok):Jxe (.inr x) (.str x t)=true:=by simp [Jxe,Value.isStrOf]
theorem Sjv (a b:Int):decide ((Sum.inl a:Key)=Sum.inl b)=(a==b):=by
 by_cases e:a=b
 ·subst e;simp
 ·have h:¬(Sum.inl a:Key)=Sum.inl b:=λq=>e (Sum.inl.inj q)
  rw [decide_eq_false h]
  exact (beq_eq_false_iff_ne.mpr e).symm
theorem Sjy (a b:Str):decide ((Sum.inr a:Key)=Sum.inr b)=decide (a=b):=by
 by_cases e:a=b
 ·subst e;simp
 ·have h:¬(Sum.inr a:Key)=Sum.inr b:=λq=>e (Sum.inr.inj q)
  rw [decide_eq_false h,decide_eq_false e]
theorem Sjw (a:Int) (b:Str):decide ((Sum.inl a:Key)=Sum.inr b)=false:=decide_eq_false (λq=>nomatch q)
theorem Sjx (a:Str) (b:Int):decide ((Sum.inr a:Key)=Sum.inl b)=false:=decide_eq_false (λq=>nomatch q)
def Jme (prog:Sb) (w:Sd):PySem.KeyKind prog w Key where
 is:=Jxe
 hash:=Sr8 w
 inj:=λv a b ha hb=>by
  rcases Jm4 ha with ⟨i,t,rfl,rfl⟩|⟨x,t,rfl,rfl⟩
  ·rcases Jm4 hb with ⟨j,u,rfl,e⟩|⟨y,u,rfl,e⟩
   ·injection e with e1 _;rw [e1]
   ·exact nomatch e
  ·rcases Jm4 hb with ⟨j,u,rfl,e⟩|⟨y,u,rfl,e⟩
   ·exact nomatch e
   ·injection e with e1 _;rw [e1]
 byValue:=λk v h=>by
  rcases Jm4 h with ⟨i,t,rfl,rfl⟩|⟨x,t,rfl,rfl⟩ <;> rfl
 pyHash:=λhv h=>by
  rcases Jm4 hv with ⟨i,t,rfl,rfl⟩|⟨x,t,rfl,rfl⟩
  ·exact wpAny_pyHash_int h
  ·exact wpAny_pyHash_str h
 eqBool:=λhu hv h=>by
  rcases Jm4 hu with ⟨i,t,rfl,rfl⟩|⟨x,t,rfl,rfl⟩
  ·rcases Jm4 hv with ⟨j,u,rfl,rfl⟩|⟨y,u,rfl,rfl⟩
   ·rw [Sjv] at h;exact wpAny_eqBool_int h
   ·rw [Sjw] at h;exact SeqAt.EqAt.int_str i t y u _ _ _ _ h
  ·rcases Jm4 hv with ⟨j,u,rfl,rfl⟩|⟨y,u,rfl,rfl⟩
   ·rw [Sjx] at h;exact SeqAt.EqAt.str_int x t j u _ _ _ _ h
   ·rw [Sjy] at h;exact wpAny_eqBool_str h
 «strs»:=λk x t v h=>by
  rcases Jm4 h with ⟨i,u,rfl,e⟩|⟨y,u,rfl,e⟩
  ·exact nomatch e
  ·injection e with e1 _
   subst e1
   cases v <;> rfl
theorem Jrv (prog:Sb) (w:Sd) (x:Str) (t:Tok):(Jme prog w).is (.inr x) (.str x t)=true:=Jxz x t
inductive V where
 |non|bl (b:Bool)|int (i:Int)|str (x:Str)|byt (b:Array UInt8)|flt (b:UInt64)|ref (a:S5)|ty (n:String)
 deriving DecidableEq
def Sa7:V->S6->Prop
 | .non,u=>u=Value.none
 | .bl b,u=>u=Value.bool b
 | .int i,u=>∃t,u=Value.int i t
 | .str x,u=>∃t,u=Value.str x t
 | .byt b,u=>∃t,u=Value.bytes b t
 | .flt b,u=>∃t,u=Value.float b t
 | .ref a,u=>u=Value.ref a
 | .ty n,u=>u=Value.type n
abbrev Sa1:List V->List S6->Prop:=Paired Sa7
theorem Sa1.length {xs:List V} {us:List S6} (r:Sa1 xs us):xs.length=us.length:=Paired.length r
theorem Sa1.get:∀{xs:List V} {us:List S6} {i:Nat} {x:V},Sa1 xs us->xs[i]?=some x->∃u,us[i]?=some u/\Sa7 x u
 |_,_,_,_,.nil,e=>by simp at e
 |_,_,0,_,.cons r _,e=>by simp at e;subst e;exact ⟨_,rfl,r⟩
 |_,_,i+1,x,.cons _ t,e=>by
  obtain ⟨u,h1,h2⟩:=Sa1.get (i:=i) (x:=x) t (by simpa using e)
  exact ⟨u,by simpa using h1,h2⟩
theorem Sa1.set {x:V} {u:S6} (r:Sa7 x u):∀{xs:List V} {us:List S6} (i:Nat),Sa1 xs us->Sa1 (xs.set i x) (us.set i u)
 |_,_,_,.nil=>.nil
 |_,_,0,.cons _ t=>.cons r t
 |_,_,i+1,.cons q t=>.cons q (Sa1.set r i t)
theorem Sa1.append:∀{xs ys:List V} {us ws:List S6},Sa1 xs us->Sa1 ys ws->Sa1 (xs++ys) (us++ws)
 |_,_,_,_,.nil,s=>s
 |_,_,_,_,.cons r t,s=>.cons r (Sa1.append t s)
theorem Sa1.take:∀{xs:List V} {us:List S6} (n:Nat),Sa1 xs us->Sa1 (xs.take n) (us.take n)
 |_,_,0,_=>.nil
 |_,_,_+1,.nil=>.nil
 |_,_,n+1,.cons r t=>.cons r (Sa1.take n t)
theorem Sa1.drop:∀{xs:List V} {us:List S6} (n:Nat),Sa1 xs us->Sa1 (xs.drop n) (us.drop n)
 |_,_,0,r=>r
 |_,_,_+1,.nil=>.nil
 |_,_,n+1,.cons _ t=>Sa1.drop n t
def Sd7:Option V->Option S6->Prop
 |some v,some u=>Sa7 v u
 |none,none=>True
 |_,_=>False
def KV {κ:Type}:List (κ×V)->List (κ×S6)->Prop:=Paired λ(p:κ×V) (q:κ×S6)=>p.1=q.1/\Sa7 p.2 q.2
def kV:Key->V
 | .inl i=>.int i
 | .inr x=>.str x
inductive HO where
 |lst (xs:List V)
 |tup (xs:List V)
 |dK (kvs:List (Key×V))|dT (kvs:List (List Key×V))
 |set (S:Int->Bool) (n:Nat)
 |ins (C dx:S5) (fs:List (Str×V))
 |own (x:S5)
 |xd (fs:List (Str×V))
 |cod (q:Str)
 |rng (lo hi:Int)
 |frz (o:Obj) (u:HO)
 |tbl (ps:Array (Nat×Nat×Str))
 |ext (φ:Sg->Prop)
abbrev Hp:=S5->Option HO
def upd (H:Hp) (a:S5) (o:HO):Hp:=λb=>if b=a then some o else H b
theorem Sy {H:Hp} {a:S5} {o:HO}:upd H a o a=some o:=by unfold upd;rw [if_pos rfl]
theorem Jkt {H:Hp} {a b:S5} {o:HO} (h:b≠a):upd H a o b=H b:=by unfold upd;rw [if_neg h]
theorem Jnu {H:Hp} {a:S5} {o u:HO}:upd (upd H a o) a u=upd H a u:=by
 funext b;unfold upd;split <;> rfl
theorem Sms {H:Hp} {a b:S5} {o u:HO} (h:H a=some o) (h':H b=some u) (d:o≠u):a≠b:=by
 intro e;subst e;rw [h] at h';exact d (yy.inj h')
theorem Jkw {H:Hp} {a b:S5} {o:HO} (h:H a=some o) (h':H b=none):a≠b:=by
 intro e;subst e;rw [h] at h';cases h'
def Sh6 (o:Obj):HO:=.frz o (.ext λ_=>True)
def Scm (H:Hp) (lb:Array (Nat×Nat×Str)):List S6->Prop
 | []=>True
 | .int l _:: .int c _::v::r=>(∃(n m:Nat) (q:Str) (a:S5),(n,m,q)∈lb/\l=n/\c=m/\v= .ref a/\H a=some (.cod q))/\Scm H lb r
 |_=>False
theorem Scm.mono {H H':Hp} {lb:Array (Nat×Nat×Str)} (k:∀b q,H b=some (.cod q)->H' b=some (.cod q)) {l:List S6} (x:Scm H lb l):Scm H' lb l:=by
 fun_induction Scm H lb l with
 |case1=>exact True.intro
 |case2 l _ c _ v r ih=>
  obtain ⟨⟨n,m,q,a,h1,h2,h3,h4,h5⟩,h6⟩:=x
  exact ⟨⟨n,m,q,a,h1,h2,h3,h4,k _ _ h5⟩,ih h6⟩
 |case3=>exact x.elim
section
variable (P:Sb) (w:Sd)
def Sah (H:Hp) (h:Sg) (a:S5):HO->Prop
 | .lst xs=>xs.length<=Sa/\∃(its:List S6) (n:Nat),Sa1 xs its/\h.get? a=some {cls:=.type "list",data:=.seq its.toArray n}
 | .tup xs=>xs.length<=Sa/\∃its:List S6,Sa1 xs its/\IsTup h a its.toArray
 | .dK kvs=>kvs.length<=Sa/\(a==sysModules)=false/\∃vs,KV kvs vs/\h.DictOf (Jme P w) a vs
 | .dT kvs=>kvs.length<=Sa/\(a==sysModules)=false/\∃xs:List (List Key×S5×S6),
   Paired (λ(p:List Key×V) (q:List Key×S5×S6)=>p.1=q.1/\H q.2.1=some (.tup (p.1.map kV))/\Sa7 p.2 q.2.2) kvs xs/\
   ∃o es ep,h.get? a=some o/\o.ExactDict/\o.data= .dict es ep/\es.toList=xs.map (entryOfKey (tupleKind (Jme P w)))/\(xs.map (·.1)).Nodup
 | .set S n=>h.SetOf (intKind P w) a S n
 | .ins C dx fs=>H dx=some (.own a)/\fs.length<=1000/\dx≠a/\h.get? a=some (Sm C dx)/\
   ∃mA,h.Ns1 dx mA/\(∀f,Sd7 (fs.lookup f) (mA f))/\PySem.Within mA (fs.map (·.1))
 | .own _=>∃o,h.get? a=some o
 | .xd fs=>∃mA,h.Ns1 a mA/\∀f,Sd7 (fs.lookup f) (mA f)
 | .rng lo hi=>∃t u v,h.get? a=some {cls:=.type "range",data:=.fields #[.int lo t,.int hi u,.int 1 v]}
 | .frz o u=>h.get? a=some o/\Sah H h a u
 | .tbl lb=>∃ts:Array S6,h.get? a=some ⟨.none,none,.fields ts,#[]⟩/\Scm H lb ts.toList
 | .cod q=>h.CodeRec (.ref a) q
 | .ext φ=>φ h/\(∃o,h.get? a=some o)/\∀h1 h2:Sg,φ h1->(∀o,h1.get? a=some o->h2.get? a=some o)->φ h2
def HOk (H:Hp) (h:Sg):Prop:=∀a o,H a=some o->Sah P w H h a o
end
section
variable {P:Sb} {w:Sd} {H H':Hp} {h h':Sg} {a:S5} {o:HO}
theorem Sah.lt (x:Sah P w H h a o):a < h.objs.size:=by
 cases o with
 |lst xs=>obtain ⟨_,_,_,_,e⟩:=x;exact yg e
 |tup xs=>obtain ⟨_,_,_,p⟩:=x;exact p.lt
 |dK kvs=>obtain ⟨_,_,_,_,o,_,_,e,_⟩:=x;exact yg e
 |dT kvs=>obtain ⟨_,_,_,_,o,_,_,e,_⟩:=x;exact yg e
 |set S n=>obtain ⟨o,_,_,_,e,_⟩:=x;exact yg e
 |ins C dx fs=>obtain ⟨_,_,_,e,_⟩:=x;exact yg e
 |own y=>obtain ⟨_,e⟩:=x;exact yg e
 |xd fs=>obtain ⟨_,⟨_,_,_,e,_⟩,_⟩:=x;exact yg e
 |rng lo hi=>obtain ⟨_,_,_,e⟩:=x;exact yg e
 |frz ob u=>obtain ⟨e,_⟩:=x;exact yg e
 |tbl lb=>obtain ⟨_,e,_⟩:=x;exact yg e
 |cod q=>obtain ⟨_,_,_,_,e1,e2,_⟩:=x;cases e1;exact yg e2
 |ext φ=>obtain ⟨_,⟨_,e⟩,_⟩:=x;exact yg e
theorem Paired.mapP {α β:Type} {F G:α->β->Prop}:∀{l₁:List α} {l₂:List β},Paired F l₁ l₂->(∀a b,F a b->G a b)->Paired G l₁ l₂
 |_,_,.nil,_=>.nil
 |_,_,.cons r t,f=>.cons (f _ _ r) (Paired.mapP t f)
theorem Sah.stay (x:Sah P w H h a o) (k:∀b u,(b=a\/H b=some (.own a))->h.get? b=some u->h'.get? b=some u)
  (ho:∀b,H b=some (.own a)->H' b=some (.own a)) (ht:∀b xs,H b=some (.tup xs)->H' b=some (.tup xs)) (hc:∀b q,H b=some (.cod q)->H' b=some (.cod q)):Sah P w H' h' a o:=by
 induction o with
 |lst xs=>obtain ⟨z,its,n,r,e⟩:=x;exact ⟨z,its,n,r,k _ _ (.inl rfl) e⟩
 |tup xs=>obtain ⟨z,its,r,ob,e,c⟩:=x;exact ⟨z,its,r,ob,k _ _ (.inl rfl) e,c⟩
 |dK kvs=>obtain ⟨z,y,vs,r,ob,es,ep,e,c⟩:=x;exact ⟨z,y,vs,r,ob,es,ep,k _ _ (.inl rfl) e,c⟩
 |dT kvs=>
  obtain ⟨z,y,xs,r,ob,es,ep,e,c⟩:=x
  exact ⟨z,y,xs,Paired.mapP r λp q z=>⟨z.1,ht _ _ z.2.1,z.2.2⟩,ob,es,ep,k _ _ (.inl rfl) e,c⟩
 |set S n=>obtain ⟨ob,es,ep,t,e,c⟩:=x;exact ⟨ob,es,ep,t,k _ _ (.inl rfl) e,c⟩
 |ins C dx fs=>
  obtain ⟨d,z,ne,e,mA,⟨od,es,ep,e2,c⟩,r⟩:=x
  exact ⟨ho _ d,z,ne,k _ _ (.inl rfl) e,mA,⟨od,es,ep,k _ _ (.inr d) e2,c⟩,r⟩
 |own y=>obtain ⟨ob,e⟩:=x;exact ⟨ob,k _ _ (.inl rfl) e⟩
 |xd fs=>obtain ⟨mA,⟨od,es,ep,e,c⟩,r⟩:=x;exact ⟨mA,⟨od,es,ep,k _ _ (.inl rfl) e,c⟩,r⟩
 |rng lo hi=>obtain ⟨t,u,v,e⟩:=x;exact ⟨t,u,v,k _ _ (.inl rfl) e⟩
 |frz ob u ih=>obtain ⟨e,q⟩:=x;exact ⟨k _ _ (.inl rfl) e,ih q⟩
 |tbl lb=>obtain ⟨ts,e,r⟩:=x;exact ⟨ts,k _ _ (.inl rfl) e,r.mono hc⟩
 |cod q=>obtain ⟨c,o,vs,t,e1,e2,e3,e4⟩:=x;cases e1;exact ⟨_,o,vs,t,rfl,k _ _ (.inl rfl) e2,e3,e4⟩
 |ext φ=>obtain ⟨p,⟨o,e⟩,st⟩:=x;exact ⟨st _ _ p λo q=>k _ _ (.inl rfl) q,⟨o,k _ _ (.inl rfl) e⟩,st⟩
theorem HOk.lt (x:HOk P w H h) (e:H a=some o):a < h.objs.size:=(x a o e).lt
theorem HOk.fresh (x:HOk P w H h) (e:h.objs.size<=a):H a=none:=by
 cases q:H a with
 |none=>rfl
 |some u=>exact absurd (yad (x.lt q) e) (yat _)
theorem HOk.kept (x:HOk P w H h) (k:∀b u,h.get? b=some u->h'.get? b=some u):HOk P w H h':=λa o e=>
 (x a o e).stay (λb u _ q=>k b u q) (λ_ q=>q) (λ_ _ q=>q) λ_ _ q=>q
theorem HOk.laid (x:HOk P w H h) (k:∀b u,h.get? b=some u->h'.get? b=some u) (hp:h.objs.size<=a) (new:Sah P w (upd H a o) h' a o):HOk P w (upd H a o) h':=λb u e=>by
 have hn:=x.fresh hp
 by_cases hb:b=a
 ·subst hb;rw [Sy] at e;cases e;exact new
 ·rw [Jkt hb] at e
  exact (x b u e).stay (λc v _ q=>k c v q) (λc q=>by rw [Jkt (Jkw q hn)];exact q) (λc xs q=>by rw [Jkt (Jkw q hn)];exact q) λc xs q=>by rw [Jkt (Jkw q hn)];exact q
end
def Rd (H:Hp) (a:S5) (u:HO):Prop:=H a=some u\/∃o,H a=some (.frz o u)
theorem Rd.ok {P:Sb} {w:Sd} {H:Hp} {h:Sg} {a:S5} {u:HO} (r:Rd H a u) (x:HOk P w H h):Sah P w H h a u:=by
 rcases r with r|⟨o,r⟩
 ·exact x a u r
 ·obtain ⟨_,q⟩:=x a _ r
  exact q
def Mut:Option HO->Prop
 |some (.lst _)=>True
 |some (.dK _)=>True
 |some (.dT _)=>True
 |some (.set _ _)=>True
 |some (.ins _ _ _)=>True
 |some (.ext _)=>True
 |_=>False
section
variable {P:Sb} {w:Sd} {H:Hp} {h h':Sg} {x e:S5} {o':HO}
theorem HOk.write (ok:HOk P w H h) (mu:Mut (H x)) (he:e=x\/H e=some (.own x)) (k:∀b u,b≠e->h.get? b=some u->h'.get? b=some u) (heo:∃u,h'.get? e=some u)
  (new:Sah P w (upd H x o') h' x o'):HOk P w (upd H x o') h':=λb u q=>by
 have nown:∀c y,H c=some (.own y)->c≠x:=λc y r z=>by subst z;rw [r] at mu;exact mu
 have ntup:∀c xs,H c=some (.tup xs)->c≠x:=λc xs r z=>by subst z;rw [r] at mu;exact mu
 by_cases hb:b=x
 ·subst hb;rw [Sy] at q;cases q;exact new
 ·rw [Jkt hb] at q
  by_cases hbe:b=e
  ·have q':H b=some (.own x):=by
    rcases he with z|z
    ·exact absurd (hbe.trans z) hb
    ·rw [hbe];exact z
   rw [q] at q';cases q'
   obtain ⟨v,hv⟩:=heo
   exact ⟨v,by rw [hbe];exact hv⟩
  ·refine (ok b u q).stay (λc v hc r=>k c v ?_ r) (λc r=>by rw [Jkt (nown c b r)];exact r) (λc xs r=>by rw [Jkt (ntup c xs r)];exact r) λc xs r=>by rw [Jkt λz=>by subst z;rw [r] at mu;exact mu];exact r
   rcases hc with rfl|hc
   ·exact hbe
   ·rintro rfl
    rcases he with z|z
    ·exact nown c b hc z
    ·rw [hc] at z;cases z;exact hb rfl
end
structure Un (fs ex:List S5) (H H':Hp) (h h':Sg):Prop where
 keep:∀b o,h.get? b=some o->H b=none->b∉fs->b∉ex->h'.get? b=some o
 slot:∀b o,h.get? b=some o->H b=none->b∈fs->b∉ex->∃sl,h'.get? b=some {o with slots:=sl}
 free:∀b o,h.get? b=some o->H b=none->b∉ex->H' b=none
 there:∀b o,h.get? b=some o->b∉ex->∃o',h'.get? b=some o'
 tups:∀b xs,H b=some (.tup xs)->H' b=some (.tup xs)
 frzs:∀b o u,H b=some (.frz o u)->H' b=some (.frz o u)
 tbls:∀b ps,H b=some (.tbl ps)->∃more,H' b=some (.tbl (ps++more))
section
variable {fs fs' ex ex':List S5} {H H1 H2:Hp} {h h1 h2 h':Sg} {a x e:S5} {o:HO}
theorem Un.any (u:Un fs ex H H1 h h1) {b:S5} {ob:Obj} (q:h.get? b=some ob) (n:H b=none) (hx:b∉ex):∃sl,h1.get? b=some {ob with slots:=sl}:=by
 by_cases hb:b∈fs
 ·exact u.slot b ob q n hb hx
 ·exact ⟨ob.slots,u.keep b ob q n hb hx⟩
theorem Un.trans (a:Un fs ex H H1 h h1) (b:Un fs ex H1 H2 h1 h2):Un fs ex H H2 h h2 where
 keep:=λc ob q n hc hx=>b.keep c ob (a.keep c ob q n hc hx) (a.free c ob q n hx) hc hx
 slot:=λc ob q n hc hx=>by
  obtain ⟨sl,e1⟩:=a.slot c ob q n hc hx
  obtain ⟨sl',e2⟩:=b.slot c _ e1 (a.free c ob q n hx) hc hx
  exact ⟨sl',e2⟩
 free:=λc ob q n hx=>by
  obtain ⟨o',e1⟩:=a.there c ob q hx
  exact b.free c o' e1 (a.free c ob q n hx) hx
 there:=λc ob q hx=>by
  obtain ⟨o',e1⟩:=a.there c ob q hx
  exact b.there c o' e1 hx
 tups:=λc xs q=>b.tups c xs (a.tups c xs q)
 frzs:=λc ob xs q=>b.frzs c ob xs (a.frzs c ob xs q)
 tbls:=λc ps q=>by
  obtain ⟨m1,e1⟩:=a.tbls c ps q
  obtain ⟨m2,e2⟩:=b.tbls c _ e1
  exact ⟨m1++m2,by rw [e2,Array.append_assoc]⟩
theorem Un.kept (k:∀b u,h.get? b=some u->h'.get? b=some u):Un fs ex H H h h':=
 ⟨λb ob q _ _ _=>k b ob q,λb ob q _ _ _=>⟨ob.slots,k b ob q⟩,λ_ _ _ n _=>n,λb ob q _=>⟨ob,k b ob q⟩,λ_ _ q=>q,λ_ _ _ q=>q,λ_ ps q=>⟨#[],by rw [q];simp⟩⟩
theorem Un.refl:Un fs ex H H h h:=Un.kept λ_ _ q=>q
theorem Un.laid (k:∀b u,h.get? b=some u->h'.get? b=some u) (hp:h.objs.size<=a) (hn:H a=none):Un fs ex H (upd H a o) h h' where
 keep:=λb u q _ _ _=>k b u q
 slot:=λb u q _ _ _=>⟨u.slots,k b u q⟩
 free:=λb u q n _=>by rw [Jkt (yn (yad (yg q) hp))];exact n
 there:=λb u q _=>⟨u,k b u q⟩
 tups:=λb xs q=>by rw [Jkt (Jkw q hn)];exact q
 frzs:=λb u xs q=>by rw [Jkt (Jkw q hn)];exact q
 tbls:=λb ps q=>⟨#[],by rw [Jkt (Jkw q hn),q];simp⟩
theorem Un.write (mu:Mut (H x)) (he:e=x\/H e=some (.own x)) (k:∀b u,b≠e->h.get? b=some u->h'.get? b=some u) (heo:∃u,h'.get? e=some u):Un fs ex H (upd H x o) h h':=by
 have hx:∀b,H b=none->b≠x:=λb n z=>by subst z;rw [n] at mu;exact mu
 have hb:∀b,H b=none->b≠e:=λb n z=>by
  subst z
  rcases he with r|r
  ·exact hx b n r
  ·rw [n] at r;cases r
 have hm:∀b u,H b=some u->¬Mut (some u)->b≠x:=λb u q nm z=>by subst z;rw [q] at mu;exact nm mu
 refine ⟨λb u q n _ _=>k b u (hb b n) q,λb u q n _ _=>⟨u.slots,k b u (hb b n) q⟩,λb u q n _=>by rw [Jkt (hx b n)];exact n,λb u q _=>?_,
  λb xs q=>by rw [Jkt (hm b _ q λz=>z)];exact q,λb u xs q=>by rw [Jkt (hm b _ q λz=>z)];exact q,λb ps q=>⟨#[],by rw [Jkt (hm b _ q λz=>z),q];simp⟩⟩
 by_cases hbe:b=e
 ·subst hbe;exact heo
 ·exact ⟨u,k b u hbe q⟩
end
def trk (h:Sg) (H:Hp):List S5:=(List.range h.objs.size).filter λa=>(H a).isSome
def Jug (h:Sg) (H:Hp):Sg:=PySem.W.hideAll h (trk h H)
theorem Jxw (h:Sg) (H:Hp):(Jug h H).objs.size=h.objs.size:=PySem.W.hideAll_size _ _
theorem Jsf {h:Sg} {H:Hp} {b:S5} {o:Obj} (e:h.get? b=some o) (n:H b=none):(Jug h H).get? b=some o:=
 PySem.W.hideAll_get _ e λhm=>by
  have q:(H b).isSome=true:=(List.mem_filter.mp hm).2
  rw [n] at q;simp at q
theorem Ya0 {h:Sg} {H:Hp} {b:S5} {o:Obj} (e:(Jug h H).get? b=some o):h.get? b=some o/\H b=none:=by
 have e':h.get? b=some o:=PySem.W.of_hideAll (trk h H) e
 refine ⟨e',?_⟩
 cases q:H b with
 |none=>rfl
 |some x=>
  have hm:b∈trk h H:=List.mem_filter.mpr ⟨List.mem_range.mpr (yg e'),by simp [q]⟩
  have z:(Jug h H).get? b=none:=PySem.W.hideAll_none (trk h H) hm
  rw [z] at e;cases e
structure Mod (K:Si) (mg:Str->Option S6) (base:Sg):Prop where
 kin:K.In base
 glob:base.Ns mainGlobals mg
 blt:∃mb,base.Ns builtinsNs mb/\∀x:Str,x≠"__name__" ->mb x=bootBuiltins x
 nolimit:base.NoLimit
structure Cx where
 prog:Sb
 w:Sd
 K:Si
 mg:Str->Option S6
 base:Sg
 A:Se
 N:List Str
 s₀:S7
 H₀:Hp
 env:Env
 outer:List Env
 stack:List Env
 ex:List S5
 fn:Str->Bool
 calm:Bool
 pn:List (S5×Obj)
 xe:S6->S7->Prop
def frs (l:List Env):List S5:=l.filterMap (·.frame)
abbrev Cx.fs (X:Cx):List S5:=frs X.outer
def Vis (sc:Scope) (x:Str):Prop:=sc.names.lookup x=some .local\/sc.names.lookup x=some .cell\/sc.names.lookup x=some .free
def Loc (sc:Scope) (x:Str):Prop:=sc.names.lookup x=some .local\/sc.names.lookup x=some .cell
def Sqr (env:Env) (h:Sg) (m:Str->Option S6) (x:Str) (u:S6):Prop:=
 (env.kindOf x=some .local/\m x=some u)\/((env.kindOf x=some .cell\/env.kindOf x=some .free)/\∃c,env.cells.lookup x=some c/\h.IsCell c (some u))
structure Cx.Ok (X:Cx):Prop where
 mod:Mod X.K X.mg X.base
 kind:X.env.scope.kind= .function
 glob:X.env.globals=mainGlobals
 blt:X.env.builtins=builtinsNs
 above:X.s₀.heap.objs.size<=X.env.locals
 inj:∀x y c,X.env.cells.lookup x=some c->X.env.cells.lookup y=some c->x=y
 has:∀x,(X.env.kindOf x=some .cell\/X.env.kindOf x=some .free)->∃c,X.env.cells.lookup x=some c
 cab:∀x c,X.fn x=true->X.env.cells.lookup x=some c->X.s₀.heap.objs.size<=c
 hd:X.calm=true->X.A.handled=none
 frames:X.A.frames=some X.stack
 stk:X.stack=X.outer\/(X.stack=X.env::X.outer/\X.env.frame=some X.env.locals)
 exf:∀b∈X.ex,b≠X.env.locals/\∀x c,X.env.cells.lookup x=some c->c≠b
 bs:∀b o,X.base.get? b=some o->X.s₀.heap.get? b=some o/\X.H₀ b=none
 bsz:X.base.objs.size<=X.s₀.heap.objs.size
 noex:∀b o,X.base.get? b=some o->b∉X.ex
 exfs:∀b∈X.ex,b∉X.fs
 funs:X.s₀.heap.FunFrames X.base X.outer
 frf:∀b∈X.fs,X.H₀ b=none
structure Sv (X:Cx) (pins:List (S5×Obj)) (σ:List (Option V)) (H:Hp) (s:S7):Prop where
 ok:X.Ok
 os:s.os=X.s₀.os
 bare:AllBare s.gens
 base:Un X.fs X.ex X.H₀ H X.s₀.heap s.heap
 loc:∃m,s.heap.Ns X.env.locals m/\∀(i:Nat) (x:Str) (v:V),X.N[i]?=some x->σ[i]?=some (some v)->Vis X.env.scope x->∃u,Sa7 v u/\Sqr X.env s.heap m x u
 cell:∀x c,X.env.cells.lookup x=some c->∃v,s.heap.IsCell c v
 free:H X.env.locals=none
 freeC:∀x c,X.env.cells.lookup x=some c->H c=none\/(X.fn x=false/\∃o,H c=some (Sh6 o))
 pin:∀p∈X.pn++pins,s.heap.get? p.1=some p.2/\H p.1=none/\p.1≠X.env.locals/\p.1∉X.fs/\∀v,p.2.data≠ .cell v
 hok:HOk X.prog X.w H s.heap
 len:σ.length=X.N.length
section
variable {X:Cx} {pins:List (S5×Obj)} {σ:List (Option V)} {H H':Hp} {s:S7} {h':Sg}
theorem Cx.Ok.nofr (ok:X.Ok) {b:S5} {o:Obj} (e:X.base.get? b=some o):b∉X.fs:=λhb=>by
 have:=(ok.funs.mem hb).1
 rw [e] at this;cases this
theorem Sv.bs (I:Sv X pins σ H s):∀b o,X.base.get? b=some o->s.heap.get? b=some o/\H b=none:=λb o e=>
 ⟨I.base.keep b o (I.ok.bs b o e).1 (I.ok.bs b o e).2 (I.ok.nofr e) (I.ok.noex b o e),I.base.free b o (I.ok.bs b o e).1 (I.ok.bs b o e).2 (I.ok.noex b o e)⟩
theorem Sv.bk (I:Sv X pins σ H s):∀b o,X.base.get? b=some o->s.heap.get? b=some o:=λb o e=>(I.bs b o e).1
theorem Sv.mod (I:Sv X pins σ H s):Mod X.K X.mg X.base:=I.ok.mod
theorem Sv.kIn (I:Sv X pins σ H s):X.K.In s.heap:=I.ok.mod.kin.keeps I.bk
theorem Sv.lt (I:Sv X pins σ H s):X.env.locals < s.heap.objs.size:=let ⟨_,hn,_⟩:=I.loc;hn.lt
theorem Sv.sz (I:Sv X pins σ H s):X.s₀.heap.objs.size<=s.heap.objs.size:=yz I.ok.above (yav I.lt)
theorem Sv.nofs (I:Sv X pins σ H s) {a:S5} (h:s.heap.objs.size<=a):a∉X.fs:=λhb=>by
 obtain ⟨_,o,ho,_⟩:=I.ok.funs.mem hb
 exact absurd (yad (yg ho) (yz I.sz h)) (yat _)
theorem Sv.cne (I:Sv X pins σ H s):∀x c,X.env.cells.lookup x=some c->c≠X.env.locals:=λx c e z=>by
 obtain ⟨v,o,ho,hd⟩:=I.cell x c e
 obtain ⟨m,⟨o',es,ep,ho',hd',_⟩,_⟩:=I.loc
 rw [z,ho'] at ho;cases ho;rw [hd'] at hd;cases hd
theorem Sv.funs (I:Sv X pins σ H s):s.heap.FunFrames X.base X.outer:=by
 have all:∀(l:List Env),(∀b∈frs l,b∈X.fs)->X.s₀.heap.FunFrames X.base l->s.heap.FunFrames X.base l:=by
  intro l
  induction l with
  |nil=>intro _ _;trivial
  |cons env r ih=>
   intro hs hl
   obtain ⟨hk,⟨L,o,hf,hn,ho,hd⟩,hr⟩:=hl
   have hL:L∈X.fs:=hs L (by unfold frs;rw [List.filterMap_cons,hf];exact yao)
   obtain ⟨sl,e⟩:=I.base.slot L o ho (I.ok.frf L hL) hL λz=>I.ok.exfs L z hL
   exact ⟨hk,⟨L,_,hf,hn,e,hd⟩,ih (λb hb=>hs b (by unfold frs;rw [List.filterMap_cons,hf];exact yae _ hb)) hr⟩
 exact all X.outer (λ_ hb=>hb) I.ok.funs
theorem Sv.stack (I:Sv X pins σ H s):s.heap.FunFrames X.base X.stack:=by
 rcases I.ok.stk with e|⟨e,hf⟩
 ·rw [e];exact I.funs
 ·rw [e]
  obtain ⟨m,hn,_⟩:=I.loc
  refine .cons (by rw [I.ok.kind];decide) hf hn ?_ I.funs
  exact Heap.get?_none_of_le (yz I.ok.bsz I.ok.above)
theorem Sv.stkSub (I:Sv X pins σ H s):∀b∈frs X.stack,b∈X.env.locals::X.fs:=λb hb=>by
 rcases I.ok.stk with e|⟨e,hf⟩
 ·rw [e] at hb;exact yae _ hb
 ·rw [e] at hb
  unfold frs at hb
  rw [List.filterMap_cons,hf] at hb
  exact hb
theorem Sv.stkFree (I:Sv X pins σ H s):∀b∈frs X.stack,H b=none:=λb hb=>by
 rcases yi.mp (I.stkSub b hb) with e|hb
 ·rw [e];exact I.free
 ·obtain ⟨_,o,ho,_⟩:=I.ok.funs.mem hb
  exact I.base.free b o ho (I.ok.frf b hb) λz=>I.ok.exfs b z hb
theorem Sv.step {g':Array GenState} {t':Nat} {d':Drawn} {ch:List S5} (I:Sv X pins σ H s)
  (hch:∀b∈ch,(b∈X.ex\/X.s₀.heap.objs.size<=b)/\b≠X.env.locals/\(∀x c,X.env.cells.lookup x=some c->c≠b)/\∀p∈X.pn++pins,p.1≠b)
  (keep:∀b o,b≠X.env.locals->b∉X.fs->b∉ch->s.heap.get? b=some o->H b=none->h'.get? b=some o)
  (slot:∀b o,b≠X.env.locals->b∈X.fs->b∉ch->s.heap.get? b=some o->H b=none->∃sl,h'.get? b=some {o with slots:=sl}) (free:∀b o,b∉ch->s.heap.get? b=some o->H b=none->H' b=none)
  (there:∀b o,b∉ch->s.heap.get? b=some o->∃o',h'.get? b=some o')
  (tups:∀b xs,H b=some (.tup xs)->H' b=some (.tup xs)) (frzs:∀b o u,H b=some (.frz o u)->H' b=some (.frz o u)) (tbls:∀b ps,H b=some (.tbl ps)->∃more,H' b=some (.tbl (ps++more)))
  (ns:∀m,s.heap.Ns X.env.locals m->h'.Ns X.env.locals m) (hok:HOk X.prog X.w H' h') (hg:AllBare g'):
  Sv X pins σ H' {s with heap:=h',gens:=g',drawn:=d',toks:=t'}:=by
 have neL:∀b o,X.s₀.heap.get? b=some o->b≠X.env.locals:=λb o e=>yn (yad (yg e) I.ok.above)
 have neC:∀b o,X.s₀.heap.get? b=some o->b∉X.ex->b∉ch:=λb o e hx hb=>by
  rcases (hch b hb).1 with z|z
  ·exact hx z
  ·exact absurd (yad (yg e) z) (yat _)
 have cellK:∀x c,X.env.cells.lookup x=some c->∀v,s.heap.IsCell c v->h'.IsCell c v:=λx c e v ⟨o,ho,hd⟩=>by
  have nch:c∉ch:=λz=>(hch c z).2.2.1 x c e rfl
  rcases I.freeC x c e with n|⟨_,ob,q⟩
  ·by_cases hc:c∈X.fs
   ·obtain ⟨sl,q⟩:=slot c o (I.cne x c e) hc nch ho n
    exact ⟨_,q,hd⟩
   ·exact ⟨o,keep c o (I.cne x c e) hc nch ho n,hd⟩
  ·obtain ⟨e1,_⟩:=I.hok c _ q
   obtain ⟨e2,_⟩:=hok c _ (frzs c ob _ q)
   rw [ho] at e1;cases e1
   exact ⟨_,e2,hd⟩
 refine ⟨I.ok,I.os,hg,⟨λb o e n hb hx=>?_,λb o e n hb hx=>?_,λb o e n hx=>?_,λb o e hx=>?_,λb xs e=>tups b xs (I.base.tups b xs e),λb o xs e=>frzs b o xs (I.base.frzs b o xs e),λb ps e=>?_⟩,?_,λx c e=>?_,?_,λx c e=>?_,λp hp=>?_,hok,I.len⟩
 ·exact keep b o (neL b o e) hb (neC b o e hx) (I.base.keep b o e n hb hx) (I.base.free b o e n hx)
 ·obtain ⟨sl,e1⟩:=I.base.slot b o e n hb hx
  obtain ⟨sl',e2⟩:=slot b _ (neL b o e) hb (neC b o e hx) e1 (I.base.free b o e n hx)
  exact ⟨sl',e2⟩
 ·obtain ⟨o',e1⟩:=I.base.there b o e hx
  exact free b o' (neC b o e hx) e1 (I.base.free b o e n hx)
 ·obtain ⟨o',e1⟩:=I.base.there b o e hx
  exact there b o' (neC b o e hx) e1
 ·obtain ⟨m1,e1⟩:=I.base.tbls b ps e
  obtain ⟨m2,e2⟩:=tbls b _ e1
  exact ⟨m1++m2,by rw [e2,Array.append_assoc]⟩
 ·obtain ⟨m,hn,hl⟩:=I.loc
  refine ⟨m,ns m hn,λi x v e1 e2 e3=>?_⟩
  obtain ⟨u,r,l⟩:=hl i x v e1 e2 e3
  refine ⟨u,r,?_⟩
  rcases l with l|⟨k,c,e,z⟩
  ·exact .inl l
  ·exact .inr ⟨k,c,e,cellK x c e _ z⟩
 ·obtain ⟨v,z⟩:=I.cell x c e
  exact ⟨v,cellK x c e v z⟩
 ·obtain ⟨m,⟨o,_,_,ho,_⟩,_⟩:=I.loc
  exact free _ o (λz=>(hch _ z).2.1 rfl) ho I.free
 ·obtain ⟨v,o,ho,hd⟩:=I.cell x c e
  rcases I.freeC x c e with n|⟨hf,ob,q⟩
  ·exact .inl (free c o (λz=>(hch c z).2.2.1 x c e rfl) ho n)
  ·exact .inr ⟨hf,ob,frzs c ob _ q⟩
 ·obtain ⟨e,n,ne,nf,d⟩:=I.pin p hp
  have nch:p.1∉ch:=λz=>(hch p.1 z).2.2.2 p hp rfl
  exact ⟨keep p.1 p.2 ne nf nch e n,free p.1 p.2 nch e n,ne,nf,d⟩
theorem Sv.un {t':Nat} (I:Sv X pins σ H s) (u:Un X.fs [] H H' s.heap h') (hok:HOk X.prog X.w H' h'):Sv X pins σ H' {s with heap:=h',toks:=t'}:=by
 obtain ⟨m,⟨o,es,ep,ho,r⟩,_⟩:=id I.loc
 obtain ⟨sl,hL⟩:=u.any ho I.free (by simp)
 exact I.step (g':=s.gens) (d':=s.drawn) (ch:=[]) (λ_ z=>nomatch z) (λb o _ hb _ e n=>u.keep b o e n hb (by simp)) (λb o _ hb _ e n=>u.slot b o e n hb (by simp)) (λb o _ e n=>u.free b o e n (by simp)) (λb o _ e=>u.there b o e (by simp)) u.tups u.frzs u.tbls (λm' hm=>by
  obtain ⟨o',es',ep',ho',r'⟩:=hm
  rw [ho] at ho';cases ho'
  exact ⟨_,es',ep',hL,r'⟩) hok I.bare
theorem Sv.call {g':Array GenState} {t':Nat} {d':Drawn} {ch:List S5} (I:Sv X pins σ H s) (u:Un (frs X.stack) ch H H' s.heap h') (hok:HOk X.prog X.w H' h') (hg:AllBare g')
  (hch:∀b∈ch,(b∈X.ex\/X.s₀.heap.objs.size<=b)/\b≠X.env.locals/\(∀x c,X.env.cells.lookup x=some c->c≠b)/\∀p∈X.pn++pins,p.1≠b):
  Sv X pins σ H' {s with heap:=h',gens:=g',drawn:=d',toks:=t'}:=by
 obtain ⟨m,⟨o,es,ep,ho,r⟩,_⟩:=id I.loc
 obtain ⟨sl,hL⟩:=u.any ho I.free λz=>(hch _ z).2.1 rfl
 exact I.step (ch:=ch) hch (λb o hL hb hc e n=>u.keep b o e n (λz=>(yi.mp (I.stkSub b z)).elim hL hb) hc) (λb o _ _ hc e n=>u.any e n hc) (λb o hc e n=>u.free b o e n hc) (λb o hc e=>u.there b o e hc) u.tups u.frzs u.tbls (λm' hm=>by
  obtain ⟨o',es',ep',ho',r'⟩:=hm
  rw [ho] at ho';cases ho'
  exact ⟨_,es',ep',hL,r'⟩) hok hg
theorem Sv.turned {t':Nat} {it:S5} (I:Sv X pins σ H s) (k:∀b o,b≠it->s.heap.get? b=some o->h'.get? b=some o) (hn:H it=none) (hL:it≠X.env.locals)
  (h1:it∈X.ex\/X.s₀.heap.objs.size<=it) (h2:∀x c,X.env.cells.lookup x=some c->c≠it) (h3:∀p∈X.pn++pins,p.1≠it):Sv X pins σ H {s with heap:=h',toks:=t'}:=by
 have nit:∀b u,H b=some u->b≠it:=λb u e z=>by rw [z,hn] at e;cases e
 refine I.step (g':=s.gens) (d':=s.drawn) (ch:=[it]) (λb hb=>?_) (λb o _ _ hc e _=>k b o (λz=>hc (by simp [z])) e) (λb o _ _ hc e _=>⟨o.slots,k b o (λz=>hc (by simp [z])) e⟩) (λ_ _ _ _ n=>n)
  (λb o hc e=>⟨o,k b o (λz=>hc (by simp [z])) e⟩) (λ_ _ e=>e) (λ_ _ _ e=>e) (λb ps e=>⟨#[],by rw [e];simp⟩) (λm hm=>?_) (λb u e=>?_) I.bare
 ·have e:b=it:=by simpa using hb
  subst e
  exact ⟨h1,hL,h2,h3⟩
 ·obtain ⟨o,es,ep,ho,r⟩:=hm
  exact ⟨o,es,ep,k _ o (ym hL) ho,r⟩
 ·refine (I.hok b u e).stay (λc v hc q=>k c v ?_ q) (λ_ q=>q) (λ_ _ q=>q) λ_ _ q=>q
  rcases hc with z|z
  ·rw [z];exact nit b u e
  ·exact nit c _ z
theorem Sv.tok (I:Sv X pins σ H s) (t:Nat):Sv X pins σ H {s with toks:=t}:=I.un (h':=s.heap) (t':=t) Un.refl I.hok
theorem Sv.kept {t':Nat} (I:Sv X pins σ H s) (k:∀b u,s.heap.get? b=some u->h'.get? b=some u):Sv X pins σ H {s with heap:=h',toks:=t'}:=I.un (Un.kept k) (I.hok.kept k)
theorem Sv.laid {a:S5} {o:HO} {t':Nat} (I:Sv X pins σ H s) (k:∀b u,s.heap.get? b=some u->h'.get? b=some u) (hp:s.heap.objs.size<=a) (new:Sah X.prog X.w (upd H a o) h' a o):
  Sv X pins σ (upd H a o) {s with heap:=h',toks:=t'}:=I.un (Un.laid k hp (I.hok.fresh hp)) (I.hok.laid k hp new)
theorem Sv.write {x e:S5} {o:HO} {t':Nat} (I:Sv X pins σ H s) (mu:Mut (H x)) (he:e=x\/H e=some (.own x)) (k:∀b u,b≠e->s.heap.get? b=some u->h'.get? b=some u) (heo:∃u,h'.get? e=some u)
  (new:Sah X.prog X.w (upd H x o) h' x o):Sv X pins σ (upd H x o) {s with heap:=h',toks:=t'}:=I.un (Un.write mu he k heo) (I.hok.write mu he k heo new)
theorem Sv.pins_of {pins':List (S5×Obj)} (I:Sv X pins σ H s) (h:∀p∈pins',s.heap.get? p.1=some p.2/\H p.1=none/\p.1≠X.env.locals/\p.1∉X.fs/\∀v,p.2.data≠ .cell v):Sv X pins' σ H s:=
 ⟨I.ok,I.os,I.bare,I.base,I.loc,I.cell,I.free,I.freeC,λp hp=>(yar.mp hp).elim (λz=>I.pin p (List.mem_append_left _ z)) (h p),I.hok,I.len⟩
theorem Jvp {N:List Str} (hN:N.Nodup) {i j:Nat} {x:Str} (a:N[i]?=some x) (b:N[j]?=some x):i=j:=by
 obtain ⟨h1,e1⟩:=yw.mp a
 obtain ⟨h2,e2⟩:=yw.mp b
 exact (List.getElem_inj hN).mp (e1.trans e2.symm)
theorem Ju4 {M:Model} {A:Se} {E:S6->S7->Prop} {i:Nat} {x:Str} {v:V} {u:S6} {Q:Unit->S7->Prop} (I:Sv X pins σ H s) (hN:X.N.Nodup) (hi:X.N[i]?=some x) (hx:Loc X.env.scope x) (r:Sa7 v u)
  (h:∀s',Sv X pins (σ.set i (some v)) H s'->(∃a,yap a s.heap s'.heap/\(a=X.env.locals\/X.env.cells.lookup x=some a))->Q () s') (hf:X.fn x=true\/X.env.scope.names.lookup x=some .local:=by first|exact .inl rfl|exact .inr rfl|assumption):Sh M A (storeName X.env x u) Q E s:=by
 obtain ⟨m,hn,hl⟩:=id I.loc
 have hcls:(X.env.scope.kind== .class||(X.env.scope.kind== .module&&X.env.locals !=X.env.globals))=false:=by rw [I.ok.kind];rfl
 have hiσ:i < σ.length:=by rw [I.len];exact (yw.mp hi).1
 have cne:=I.cne
 have tracked:∀{a:S5} {h':Sg},(∃o,s.heap.get? a=some o/\H a=none)->yap a s.heap h'->HOk X.prog X.w H h':=λ{a h'} ha hs b ob e=>by
  obtain ⟨_,_,hfree⟩:=ha
  refine (I.hok b ob e).stay (λc w' hc q=>(hs.2 c ?_).trans q) (λ_ q=>q) (λ_ _ q=>q) λ_ _ q=>q
  rintro rfl
  rcases hc with rfl|hc
  ·rw [hfree] at e;cases e
  ·rw [hfree] at hc;cases hc
 rcases hx with hk|hk
 ·refine wpAny_storeName_local hk hn (λh' hn' hs=>?_) hcls
  obtain ⟨oL,_,_,hoL,_⟩:=id hn
  refine h _ ⟨I.ok,I.os,I.bare,⟨λb o e n hb hx=>?_,λb o e n hb hx=>?_,I.base.free,λb o e hx=>?_,I.base.tups,I.base.frzs,I.base.tbls⟩,⟨_,hn',λj y v' e1 e2 e3=>?_⟩,λy c e=>?_,I.free,I.freeC,λp hp=>?_,tracked ⟨oL,hoL,I.free⟩ hs,by simpa using I.len⟩ ⟨_,hs,.inl rfl⟩
  ·exact (hs.2 b (yn (yad (yg e) I.ok.above))).trans (I.base.keep b o e n hb hx)
  ·obtain ⟨sl,e1⟩:=I.base.slot b o e n hb hx
   exact ⟨sl,(hs.2 b (yn (yad (yg e) I.ok.above))).trans e1⟩
  ·obtain ⟨o',e1⟩:=I.base.there b o e hx
   exact ⟨o',(hs.2 b (yn (yad (yg e) I.ok.above))).trans e1⟩
  ·by_cases hj:j=i
   ·subst hj
    rw [hi] at e1;cases e1
    rw [List.getElem?_set_self hiσ] at e2
    cases e2
    exact ⟨u,r,.inl ⟨hk,by simp⟩⟩
   ·rw [List.getElem?_set_ne (ym hj)] at e2
    obtain ⟨u',r',q⟩:=hl j y v' e1 e2 e3
    refine ⟨u',r',?_⟩
    rcases q with ⟨k,e⟩|⟨k,c,e,z⟩
    ·refine .inl ⟨k,?_⟩
     have:y≠x:=λe=>hj (Jvp hN e1 (e▸hi))
     simp [this,e]
    ·exact .inr ⟨k,c,e,z.sameBut hs (cne y c e)⟩
  ·obtain ⟨w',z⟩:=I.cell y c e
   exact ⟨w',z.sameBut hs (cne y c e)⟩
  ·obtain ⟨e,n,ne,nf,d⟩:=I.pin p hp
   exact ⟨(hs.2 p.1 ne).trans e,n,ne,nf,d⟩
 ·have hfn:X.fn x=true:=by
   rcases hf with z|z
   ·exact z
   ·rw [z] at hk;cases hk
  obtain ⟨c,hc⟩:=I.ok.has x (.inl hk)
  obtain ⟨w',z⟩:=I.cell x c hc
  refine wpAny_storeName_cell I.ok.kind hk hc z (λh' hc' hs=>?_)
  obtain ⟨oc,hoc,hocd⟩:=id z
  refine h {s with heap:=h'} ⟨I.ok,I.os,I.bare,⟨λb o e n hb hx=>?_,λb o e n hb hx=>?_,I.base.free,λb o e hx=>?_,I.base.tups,I.base.frzs,I.base.tbls⟩,⟨m,hn.sameBut hs (ym (cne x c hc)),λj y v' e1 e2 e3=>?_⟩,λy c' e=>?_,I.free,I.freeC,λp hp=>?_,tracked ⟨oc,hoc,(I.freeC x c hc).elim id λz=>by rw [hfn] at z;cases z.1⟩ hs,by simpa using I.len⟩ ⟨c,hs,.inr hc⟩
  ·exact (hs.2 b (yn (yad (yg e) (I.ok.cab x c hfn hc)))).trans (I.base.keep b o e n hb hx)
  ·obtain ⟨sl,e1⟩:=I.base.slot b o e n hb hx
   exact ⟨sl,(hs.2 b (yn (yad (yg e) (I.ok.cab x c hfn hc)))).trans e1⟩
  ·obtain ⟨o',e1⟩:=I.base.there b o e hx
   exact ⟨o',(hs.2 b (yn (yad (yg e) (I.ok.cab x c hfn hc)))).trans e1⟩
  ·by_cases hj:j=i
   ·subst hj
    rw [hi] at e1;cases e1
    rw [List.getElem?_set_self hiσ] at e2
    cases e2
    exact ⟨u,r,.inr ⟨.inl hk,c,hc,hc'⟩⟩
   ·rw [List.getElem?_set_ne (ym hj)] at e2
    obtain ⟨u',r',q⟩:=hl j y v' e1 e2 e3
    refine ⟨u',r',?_⟩
    rcases q with q|⟨k,c',e,z'⟩
    ·exact .inl q
    ·refine .inr ⟨k,c',e,z'.sameBut hs ?_⟩
     rintro rfl
     exact hj (Jvp hN e1 (I.ok.inj _ _ _ e hc▸hi))
  ·by_cases hcc:c'=c
   ·subst hcc;exact ⟨_,hc'⟩
   ·obtain ⟨w2,z2⟩:=I.cell y c' e
    exact ⟨w2,z2.sameBut hs hcc⟩
  ·obtain ⟨e,n,ne,nf,d⟩:=I.pin p hp
   refine ⟨(hs.2 p.1 ?_).trans e,n,ne,nf,d⟩
   intro q
   rw [q,hoc] at e
   have q':oc=p.2:=yy.inj e
   exact d w' (by rw [<-q'];exact hocd)
theorem Jw8 {M:Model} {A:Se} {E:S6->S7->Prop} {i:Nat} {x:Str} {v:V} {u:S6} {Q:Unit->S7->Prop} (I:Sv X pins σ H s) (hN:X.N.Nodup) (hi:X.N[i]?=some x) (hx:Loc X.env.scope x) (r:Sa7 v u)
  (h:∀s',Sv X pins (σ.set i (some v)) H s'->Q () s') (hf:X.fn x=true\/X.env.scope.names.lookup x=some .local:=by first|exact .inl rfl|exact .inr rfl|assumption):Sh M A (storeName X.env x u) Q E s:=
 Ju4 I hN hi hx r (λs' I' _=>h s' I') hf
theorem Sv.call' {s':S7} {ch:List S5} (I:Sv X pins σ H s) (ho:s'.os=s.os) (u:Un (frs X.stack) ch H H' s.heap s'.heap) (hok:HOk X.prog X.w H' s'.heap) (hg:AllBare s'.gens)
  (hch:∀b∈ch,(b∈X.ex\/X.s₀.heap.objs.size<=b)/\b≠X.env.locals/\(∀x c,X.env.cells.lookup x=some c->c≠b)/\∀p∈X.pn++pins,p.1≠b):Sv X pins σ H' s':=by
 obtain ⟨h',g',d',t',o'⟩:=s'
 have e:o'=s.os:=ho
 subst e
 exact I.call (g':=g') (t':=t') (d':=d') u hok hg hch
end
abbrev XK:=S6->Option S5->Hp->Prop
abbrev St:=List (Option V)
abbrev VK:=V->Hp->Prop
abbrev TE:=St->Hp->VK->Prop
abbrev TT:=St->Hp->(Bool->Hp->Prop)->Prop
abbrev TA:=St->Hp->(List V->Hp->Prop)->Prop
structure Jon where
 nx:St->Hp->Prop
 rt:VK
 bk:St->Hp->Prop:=λ_ _=>False
 ct:St->Hp->Prop:=λ_ _=>False
abbrev TS:=Jon->St->Hp->Prop
def EP (X:Cx) (pins:List (S5×Obj)) (σ:St) (Q:VK) (u:S6) (s':S7):Prop:=∃v H',Sv X pins σ H' s'/\Sa7 v u/\Q v H'
def TP (X:Cx) (pins:List (S5×Obj)) (σ:St) (Q:Bool->Hp->Prop) (b:Bool) (s':S7):Prop:=∃H',Sv X pins σ H' s'/\Q b H'
def AP (X:Cx) (pins:List (S5×Obj)) (σ:St) (Q:List V->Hp->Prop) (us:List S6) (s':S7):Prop:=∃vs H',Sv X pins σ H' s'/\Sa1 vs us/\Q vs H'
def SP (X:Cx) (pins:List (S5×Obj)) (D:Jon) (f:Flow) (s':S7):Prop:=
 match f with
 | .next=>∃σ' H',Sv X pins σ' H' s'/\D.nx σ' H'
 | .brk=>∃σ' H',Sv X pins σ' H' s'/\D.bk σ' H'
 | .cont=>∃σ' H',Sv X pins σ' H' s'/\D.ct σ' H'
 | .ret u=>∃v σ' H',Sv X pins σ' H' s'/\Sa7 v u/\D.rt v H'
def PE (X:Cx) (e:Expr) (t:TE):Prop:=
 ∀(pins:List (S5×Obj)) (s:S7) (σ:St) (H:Hp) (Q:VK),Sv X pins σ H s->t σ H Q->Sh (model X.prog X.w) X.A (eval e X.env) (EP X pins σ Q) X.xe s
def PT (X:Cx) (e:Expr) (t:TT):Prop:=
 ∀(pins:List (S5×Obj)) (s:S7) (σ:St) (H:Hp) (Q:Bool->Hp->Prop),Sv X pins σ H s->t σ H Q->Sh (model X.prog X.w) X.A (isTrue e X.env (eval e X.env)) (TP X pins σ Q) X.xe s
def PW (X:Cx) (e:Expr) (t:TT):Prop:=
 ∀(whole:Sem S6) (pins:List (S5×Obj)) (s:S7) (σ:St) (H:Hp) (Q:Bool->Hp->Prop),Sv X pins σ H s->t σ H Q->Sh (model X.prog X.w) X.A (isTrue e X.env whole) (TP X pins σ Q) X.xe s
theorem PW.pt {X:Cx} {e:Expr} {t:TT} (h:PW X e t):PT X e t:=h _
def PA (X:Cx) (es:List Expr) (t:TA):Prop:=
 ∀(pos:Pos) (pins:List (S5×Obj)) (s:S7) (σ:St) (H:Hp) (Q:List V->Hp->Prop),Sv X pins σ H s->t σ H Q->Sh (model X.prog X.w) X.A (spliced (backTo pos (starEach es X.env))) (AP X pins σ Q) X.xe s
def PS (X:Cx) (st:Sf) (t:TS):Prop:=
 ∀(pins:List (S5×Obj)) (s:S7) (σ:St) (H:Hp) (D:Jon),Sv X pins σ H s->t D σ H->Sh (model X.prog X.w) X.A (exec st X.env) (SP X pins D) X.xe s
def PSs (X:Cx) (st:List Sf) (t:TS):Prop:=
 ∀(pins:List (S5×Obj)) (s:S7) (σ:St) (H:Hp) (D:Jon),Sv X pins σ H s->t D σ H->Sh (model X.prog X.w) X.A (execs st X.env) (SP X pins D) X.xe s
theorem thn {α:Type} {t:Sem α} {Q Q':α->S7->Prop} {M:Model} {A:Se} {E:S6->S7->Prop} {s:S7} (h:Sh M A t Q E s) (hQ:∀a s,Q a s->Q' a s):Sh M A t Q' E s:=wpAny_mono h hQ λ_ _ x=>x
section
variable {X:Cx}
def Sku (i:Nat):TE:=λσ H Q=>∃v,σ[i]?=some (some v)/\Q v H
def tC (v:V):TE:=λ_ H Q=>Q v H
theorem Jzf {i:Nat} {x:Str} {pos:Pos} (hN:X.N[i]?=some x) (hv:Vis X.env.scope x) (hd:(x==("__debug__" :Str))=false:=by decide) (hcd:(x==("__classdict__" :Str))=false:=by decide):PE X (.Name x pos) (Sku i):=by
 intro pins s σ H Q I h
 obtain ⟨v,e,h⟩:=h
 obtain ⟨m,hn,hl⟩:=I.loc
 obtain ⟨u,r,l⟩:=hl i x v hN e hv
 have fin:EP X pins σ Q u s:=⟨v,H,I,r,h⟩
 rcases l with ⟨hk,hm⟩|⟨hk,c,hc,hcell⟩
 ·exact wpAny_Name (wpAny_loadName_local I.ok.kind hk hn hm fin) hd
 ·rcases hk with hk|hk
  ·exact wpAny_Name (wpAny_loadName_cell I.ok.kind hk hc hcell fin) hd
  ·exact wpAny_Name (wpAny_loadName_free I.ok.kind hk hc hcell fin hcd) hd
theorem Sz {i j pos}:PE X (.Constant (.int i) j pos) (tC (.int i)):=λ_ _ _ H _ I h=>wpAny_Constant_int ⟨.int i,H,I.tok _,⟨_,rfl⟩,h⟩
theorem Jml {b j pos}:PE X (.Constant (.bool b) j pos) (tC (.bl b)):=λ_ _ _ H _ I h=>Constant_bool ⟨.bl b,H,I,rfl,h⟩
theorem Juz {j pos}:PE X (.Constant .none j pos) (tC .non):=λ_ _ _ H _ I h=>Constant_none ⟨.non,H,I,rfl,h⟩
theorem Jl7 {x j pos}:PE X (.Constant (.str x) j pos) (tC (.str x)):=λ_ _ _ H _ I h=>Calls.Constant_str ⟨.str x,H,I.tok _,⟨_,rfl⟩,h⟩
def Gl (X:Cx) (x:Str):Prop:=X.env.kindOf x=some .globalImplicit
theorem Jpq {E:S6->S7->Prop} {pins:List (S5×Obj)} {s:S7} {σ:St} {H:Hp} {x:Str} {u:S6} {pos:Pos} {Q:S6->S7->Prop} (I:Sv X pins σ H s) (hg:Gl X x) (hm:X.mg x=some u) (h:Q u s)
  (hd:(x==("__debug__" :Str))=false:=by decide):Sh (model X.prog X.w) X.A (eval (.Name x pos) X.env) Q E s:=
 Calls.Name_function_global I.ok.kind hg (Calls.loadGlobal_global (by rw [I.ok.glob];exact I.mod.glob.keeps I.bk) hm h) hd
theorem Jp3 {E:S6->S7->Prop} {pins:List (S5×Obj)} {s:S7} {σ:St} {H:Hp} {x:Str} {u:S6} {pos:Pos} {Q:S6->S7->Prop} (I:Sv X pins σ H s) (hg:Gl X x) (hm:X.mg x=none) (hv:bootBuiltins x=some u) (h:Q u s)
  (hn:x≠"__name__" :=by decide) (hd:(x==("__debug__" :Str))=false:=by decide):Sh (model X.prog X.w) X.A (eval (.Name x pos) X.env) Q E s:=by
 obtain ⟨mb,h1,h2⟩:=I.mod.blt
 exact Calls.Name_function_global I.ok.kind hg (Calls.loadGlobal_builtin (by rw [I.ok.glob];exact I.mod.glob.keeps I.bk) hm (by rw [I.ok.blt];exact h1.keeps I.bk) ((h2 x hn).trans hv) h) hd
theorem Jlc {x:Str} {v:V} {u:S6} {pos:Pos} (hg:Gl X x) (hm:X.mg x=some u) (r:Sa7 v u) (hd:(x==("__debug__" :Str))=false:=by decide):PE X (.Name x pos) (tC v):=
 λ_ _ _ H _ I h=>Jpq I hg hm ⟨v,H,I,r,h⟩ hd
theorem Jmv {x:Str} {v:V} {u:S6} {pos:Pos} (hg:Gl X x) (hm:X.mg x=none) (hv:bootBuiltins x=some u) (r:Sa7 v u) (hn:x≠"__name__" :=by decide) (hd:(x==("__debug__" :Str))=false:=by decide):PE X (.Name x pos) (tC v):=
 λ_ _ _ H _ I h=>Jp3 I hg hm hv ⟨v,H,I,r,h⟩ hn hd
variable {a b:Expr} {ta tb:TE} {pos:Pos}
def tB (t:TE):TT:=λσ H Q=>t σ H λx H1=>∃c,x= .bl c/\Q c H1
theorem Jlh {e:Expr} {t:TE} (h:PE X e t) (he:∀whole,isTrue e X.env whole=(do let v<-whole;standAt e.pos;holding [v] (truthy v)):=by intro _;rfl):PT X e (tB t):=by
 intro pins s σ H Q I hw
 refine isTrue_plain (thn (h pins s σ H _ I hw) λv s1 zq=>?_) (he _)
 obtain ⟨x,H1,I1,r1,q1⟩:=zq
 obtain ⟨d,rfl,q⟩:=q1
 cases r1
 exact wpAny_truthy_bool ⟨H1,I1,q⟩
variable {tA tB':TT} {rest:List Expr}
def Srk (t u:TT):TT:=λσ H Q=>t σ H λc H1=>if c=true then u σ H1 Q else Q false H1
def tOr (t u:TT):TT:=λσ H Q=>t σ H λc H1=>if c=true then Q true H1 else u σ H1 Q
def Srq (t:TT):TT:=λσ H Q=>t σ H λc H1=>Q (!c) H1
theorem Js8 (ha:PT X a tA):PW X (.BoolOp .And [a] pos) tA:=by
 intro wh pins s σ H Q I h
 refine isTrue_and (thn (ha pins s σ H Q I h) λc s1 e=>?_)
 cases c with
 |true=>exact isTrue_and_nil e
 |false=>exact e
theorem Jnn (ha:PT X a tA):PW X (.BoolOp .Or [a] pos) tA:=by
 intro wh pins s σ H Q I h
 refine isTrue_or (thn (ha pins s σ H Q I h) λc s1 e=>?_)
 cases c with
 |false=>exact isTrue_or_nil e
 |true=>exact e
theorem Jv2 (ha:PT X a tA) (hb:PW X (.BoolOp .And (b::rest) pos) tB'):PW X (.BoolOp .And (a::b::rest) pos) (Srk tA tB'):=by
 intro wh pins s σ H Q I h
 refine isTrue_and (thn (ha pins s σ H _ I h) λc s1 zq=>?_)
 obtain ⟨H1,I1,q1⟩:=zq
 cases c with
 |true=>exact hb wh pins s1 σ H1 Q I1 q1
 |false=>exact ⟨H1,I1,q1⟩
theorem Jp1 (ha:PT X a tA) (hb:PW X (.BoolOp .Or (b::rest) pos) tB'):PW X (.BoolOp .Or (a::b::rest) pos) (tOr tA tB'):=by
 intro wh pins s σ H Q I h
 refine isTrue_or (thn (ha pins s σ H _ I h) λc s1 zq=>?_)
 obtain ⟨H1,I1,q1⟩:=zq
 cases c with
 |true=>exact ⟨H1,I1,q1⟩
 |false=>exact hb wh pins s1 σ H1 Q I1 q1
theorem Jlg (ha:PT X a tA):PT X (.UnaryOp .Not a pos) (Srq tA):=by
 intro pins s σ H Q I h
 exact isTrue_not (ha pins s σ H (λc H1=>Q (!c) H1) I h)
def Snf (ta tb:TE):TE:=λσ H Q=>ta σ H λx H1=>∃c,x= .bl c/\if c=true then tb σ H1 Q else Q (.bl false) H1
def Srr (ta tb:TE):TE:=λσ H Q=>ta σ H λx H1=>∃c,x= .bl c/\if c=true then Q (.bl true) H1 else tb σ H1 Q
theorem Jsp {op} {t:TE} (h:PE X a t):PE X (.BoolOp op [a] pos) t:=λpins s σ H Q I hw=>BoolOp_one (h pins s σ H Q I hw)
theorem Juy (ha:PE X a ta) (hb:PE X (.BoolOp .And (b::rest) pos) tb):PE X (.BoolOp .And (a::b::rest) pos) (Snf ta tb):=by
 intro pins s σ H Q I h
 refine BoolOp_and (thn (ha pins s σ H _ I h) λv s1 zq=>?_)
 obtain ⟨x,H1,I1,r1,q1⟩:=zq
 obtain ⟨c,rfl,q1⟩:=q1
 cases r1
 refine wpAny_truthy_bool ?_
 cases c with
 |true=>exact hb pins s1 σ H1 Q I1 q1
 |false=>exact ⟨.bl false,H1,I1,rfl,q1⟩
theorem Smv (ha:PE X a ta) (hb:PE X (.BoolOp .Or (b::rest) pos) tb):PE X (.BoolOp .Or (a::b::rest) pos) (Srr ta tb):=by
 intro pins s σ H Q I h
 refine BoolOp_or (thn (ha pins s σ H _ I h) λv s1 zq=>?_)
 obtain ⟨x,H1,I1,r1,q1⟩:=zq
 obtain ⟨c,rfl,q1⟩:=q1
 cases r1
 refine wpAny_truthy_bool ?_
 cases c with
 |false=>exact hb pins s1 σ H1 Q I1 q1
 |true=>exact ⟨.bl true,H1,I1,rfl,q1⟩
def tIf (t:TT) (ta tb:TE):TE:=λσ H Q=>t σ H λc H1=>if c=true then ta σ H1 Q else tb σ H1 Q
theorem Jzd {c:Expr} (hc:PT X c tA) (ha:PE X a ta) (hb:PE X b tb):PE X (.IfExp c a b pos) (tIf tA ta tb):=by
 intro pins s σ H Q I h
 refine wpAny_IfExp (thn (hc pins s σ H _ I h) λd s1 zq=>?_)
 obtain ⟨H1,I1,q1⟩:=zq
 cases d with
 |true=>exact ha pins s1 σ H1 Q I1 q1
 |false=>exact hb pins s1 σ H1 Q I1 q1
end
def Sw (K:Si) (H:Hp) (a:S5) (xs:List V):Prop:=
 Rd H a (.lst xs)\/
  ∃(o:Obj) (its:Array S6) (n:Nat),K.lookup a=some o/\o.cls= .type "list" /\o.dict=none/\o.data= .seq its n/\its.size<=Sa/\Sa1 xs its.toList
def SqT (K:Si) (H:Hp) (a:S5) (xs:List V):Prop:=
 Rd H a (.tup xs)\/
  ∃(o:Obj) (its:Array S6) (n:Nat),K.lookup a=some o/\o.cls= .type "tuple" /\o.data= .seq its n/\its.size<=Sa/\Sa1 xs its.toList
def Sqx:S6->Option V
 | .none=>some .non
 | .bool b=>some (.bl b)
 | .int i _=>some (.int i)
 | .str x _=>some (.str x)
 | .bytes b _=>some (.byt b)
 | .float b _=>some (.flt b)
 | .ref a=>some (.ref a)
 | .type n=>some (.ty n)
 |_=>none
theorem Sa7.abs {x:V} {u:S6} (r:Sa7 x u):Sqx u=some x:=by
 cases x with
 |non=>cases r;rfl
 |bl _=>cases r;rfl
 |int _=>obtain ⟨t,rfl⟩:=r;rfl
 |str _=>obtain ⟨t,rfl⟩:=r;rfl
 |byt _=>obtain ⟨t,rfl⟩:=r;rfl
 |flt _=>obtain ⟨t,rfl⟩:=r;rfl
 |ref _=>cases r;rfl
 |ty _=>cases r;rfl
theorem Sa7.inj {x y:V} {u:S6} (r:Sa7 x u) (q:Sa7 y u):x=y:=yy.inj (r.abs.symm.trans q.abs)
theorem Sa1.inj:∀{xs ys:List V} {us:List S6},Sa1 xs us->Sa1 ys us->xs=ys
 |_,_,_,.nil,.nil=>rfl
 |_,_,_,.cons r t,.cons r' t'=>by rw [r.inj r',Sa1.inj t t']
section
variable {X:Cx} {pins:List (S5×Obj)} {σ:St} {H:Hp} {s:S7} {a:S5} {xs ys:List V}
theorem Sw.of {K:Si} (h:H a=some (.lst xs)):Sw K H a xs:=.inl (.inl h)
theorem SqT.of {K:Si} (h:H a=some (.tup xs)):SqT K H a xs:=.inl (.inl h)
theorem Sv.list (I:Sv X pins σ H s) (h:Sw X.K H a xs):∃its:List S6,Sa1 xs its/\PlainL s.heap a its.toArray/\xs.length<=Sa:=by
 rcases h with h|⟨o,its,n,hk,hc,hd,hs,hz,r⟩
 ·obtain ⟨z,its,n,r,e⟩:=h.ok I.hok
  exact ⟨its,r,⟨_,n,e,rfl,rfl,rfl⟩,z⟩
 ·refine ⟨its.toList,r,⟨o,n,I.kIn a o hk,hc,hd,by simpa using hs⟩,?_⟩
  have e:=r.length
  simp only [Array.length_toList] at e
  omega
theorem Sv.tuple (I:Sv X pins σ H s) (h:SqT X.K H a xs):∃its:List S6,Sa1 xs its/\IsTup s.heap a its.toArray/\xs.length<=Sa:=by
 rcases h with h|⟨o,its,n,hk,hc,hs,hz,r⟩
 ·obtain ⟨z,its,r,p⟩:=h.ok I.hok
  exact ⟨its,r,p,z⟩
 ·refine ⟨its.toList,r,⟨o,I.kIn a o hk,hc,n,by simpa using hs⟩,?_⟩
  have e:=r.length
  simp only [Array.length_toList] at e
  omega
theorem Sv.list_inj (I:Sv X pins σ H s) (h:Sw X.K H a xs) (h':Sw X.K H a ys):xs=ys:=by
 obtain ⟨its,r,⟨o,n,e,_,_,d⟩,_⟩:=I.list h
 obtain ⟨its',r',⟨o',n',e',_,_,d'⟩,_⟩:=I.list h'
 rw [e] at e';cases e'
 rw [d] at d'
 injection d' with d1 _
 have:its=its':=by simpa using congrArg Array.toList d1
 subst this
 exact r.inj r'
theorem Sv.tuple_inj (I:Sv X pins σ H s) (h:SqT X.K H a xs) (h':SqT X.K H a ys):xs=ys:=by
 obtain ⟨its,r,⟨o,e,_,n,d⟩,_⟩:=I.tuple h
 obtain ⟨its',r',⟨o',e',_,n',d'⟩,_⟩:=I.tuple h'
 rw [e] at e';cases e'
 rw [d] at d'
 injection d' with d1 _
 have:its=its':=by simpa using congrArg Array.toList d1
 subst this
 exact r.inj r'
end
abbrev Cx.wish (X:Cx) (E:S6->S7->Prop):Cx:={X with xe:=E}
abbrev Cx.nox (X:Cx):Cx:=X.wish λ_ _=>False
theorem Cx.Ok.wish {X:Cx} (ok:X.Ok) (E:S6->S7->Prop):(X.wish E).Ok:=
 ⟨ok.mod,ok.kind,ok.glob,ok.blt,ok.above,ok.inj,ok.has,ok.cab,ok.hd,ok.frames,ok.stk,ok.exf,ok.bs,ok.bsz,ok.noex,ok.exfs,ok.funs,ok.frf⟩
theorem Cx.Ok.unwish {X:Cx} {E:S6->S7->Prop} (ok:(X.wish E).Ok):X.Ok:=
 ⟨ok.mod,ok.kind,ok.glob,ok.blt,ok.above,ok.inj,ok.has,ok.cab,ok.hd,ok.frames,ok.stk,ok.exf,ok.bs,ok.bsz,ok.noex,ok.exfs,ok.funs,ok.frf⟩
section
variable {X:Cx} {pins:List (S5×Obj)} {σ:St} {H:Hp} {s:S7} {E:S6->S7->Prop}
theorem Sv.wish (I:Sv X pins σ H s) (E:S6->S7->Prop):Sv (X.wish E) pins σ H s:=⟨I.ok.wish E,I.os,I.bare,I.base,I.loc,I.cell,I.free,I.freeC,I.pin,I.hok,I.len⟩
theorem Sv.unwish (I:Sv (X.wish E) pins σ H s):Sv X pins σ H s:=⟨I.ok.unwish,I.os,I.bare,I.base,I.loc,I.cell,I.free,I.freeC,I.pin,I.hok,I.len⟩
theorem SP.unwish {D:Jon} {f:Flow} {s':S7} (h:SP (X.wish E) pins D f s'):SP X pins D f s':=by
 cases f with
 |next=>obtain ⟨σ',H',I,q⟩:=h;exact ⟨σ',H',I.unwish,q⟩
 |brk=>obtain ⟨σ',H',I,q⟩:=h;exact ⟨σ',H',I.unwish,q⟩
 |cont=>obtain ⟨σ',H',I,q⟩:=h;exact ⟨σ',H',I.unwish,q⟩
 |ret u=>obtain ⟨v,σ',H',I,r,q⟩:=h;exact ⟨v,σ',H',I.unwish,r,q⟩
theorem PE.nox {e:Expr} {t:TE} (h:PE X.nox e t):PE X e t:=λpins s σ H Q I hw=>
 wpAny_mono (h pins s σ H Q (I.wish _) hw) (λ_ _ ⟨v,H',I',r,q⟩=>⟨v,H',I'.unwish,r,q⟩) λ_ _ z=>False.elim z
theorem PSs.nox {st:List Sf} {t:TS} (h:PSs X.nox st t):PSs X st t:=λpins s σ H D I hw=>
 wpAny_mono (h pins s σ H D (I.wish _) hw) (λ_ _ q=>q.unwish) λ_ _ z=>False.elim z
end
section
variable {X:Cx} {st:Sf} {rest:List Sf} {t u:TS} {e:Expr} {te:TE} {pos:Pos}
def Siw:TS:=λD σ H=>D.nx σ H
def Jw9 (t u:TS):TS:=λD σ H=>t {D with nx:=u D} σ H
theorem Jl1:PSs X [] Siw:=λ_ _ σ H _ I h=>wpAny_execs_nil ⟨σ,H,I,h⟩
theorem Jkq (h1:PS X st t) (h2:PSs X rest u):PSs X (st::rest) (Jw9 t u):=by
 intro pins s σ H D I h
 refine wpAny_execs_cons (thn (h1 pins s σ H {D with nx:=u D} I h) λf s1 q=>?_)
 cases f with
 |next=>
  obtain ⟨σ',H',I',q⟩:=q
  exact h2 pins s1 σ' H' D I' q
 |ret v=>exact q
 |brk=>exact q
 |cont=>exact q
theorem Jkr (h1:PS X st t):PSs X [st] t:=by
 intro pins s σ H D I h
 refine wpAny_execs_cons (thn (h1 pins s σ H D I h) λf s1 q=>?_)
 cases f with
 |next=>exact wpAny_execs_nil q
 |ret v=>exact q
 |brk=>exact q
 |cont=>exact q
theorem Sv.quiet {pins:List (S5×Obj)} {σ:St} {H:Hp} {s:S7} (I:Sv X pins σ H s):interactive X.env=false:=by simp [interactive,I.ok.kind]
def Snh (te:TE):TS:=λD σ H=>te σ H λ_ H1=>D.nx σ H1
theorem Jlr (he:PE X e te) (hs:swapsWith e none pos.line X.env=pure false:=by rfl):PS X (.Expr e pos) (Snh te):=by
 intro pins s σ H D I h
 exact wpAny_Expr_any (thn (he pins s σ H _ I h) λv s1 ⟨x,H1,I1,r1,q1⟩=>⟨σ,H1,I1,q1⟩) I.quiet hs
def Srs (te:TE):TS:=λD σ H=>te σ H D.rt
theorem Jkz (he:PE X e te):PS X (.Return (some e) pos) (Srs te):=by
 intro pins s σ H D I h
 exact wpAny_Return_some (thn (he pins s σ H _ I h) λv s1 ⟨x,H1,I1,r1,q1⟩=>⟨x,σ,H1,I1,r1,q1⟩)
def Srn (c:TT) (t u:TS):TS:=λD σ H=>c σ H λb H1=>if b=true then t D σ H1 else u D σ H1
theorem Jld {c:Expr} {a b:List Sf} {tc:TT} (hc:PT X c tc) (ha:PSs X a t) (hb:PSs X b u):PS X (.If c a b pos) (Srn tc t u):=by
 intro pins s σ H D I h
 refine wpAny_If (thn (hc pins s σ H _ I h) λd s1 zq=>?_)
 obtain ⟨H1,I1,q1⟩:=zq
 cases d with
 |true=>exact ha pins s1 σ H1 D I1 q1
 |false=>exact hb pins s1 σ H1 D I1 q1
end
abbrev TG:=V->St->Hp->(St->Hp->Prop)->Prop
abbrev TGs:=List V->St->Hp->(St->Hp->Prop)->Prop
def PG (X:Cx) (target:Expr) (t:TG):Prop:=
 ∀(pins:List (S5×Obj)) (s:S7) (σ:St) (H:Hp) (v:V) (u:S6) (Q:St->Hp->Prop),Sv X pins σ H s->Sa7 v u->t v σ H Q->
  Sh (model X.prog X.w) X.A (assign target X.env u) (λ_ s'=>∃σ' H',Sv X pins σ' H' s'/\Q σ' H') X.xe s
def PGs (X:Cx) (ts:List Expr) (t:TGs):Prop:=
 ∀(pins:List (S5×Obj)) (s:S7) (σ:St) (H:Hp) (vs:List V) (us:List S6) (Q:St->Hp->Prop),Sv X pins σ H s->Sa1 vs us->t vs σ H Q->
  Sh (model X.prog X.w) X.A (assignInOrder ((assignEach ts X.env).map (·.2)) us) (λ_ s'=>∃σ' H',Sv X pins σ' H' s'/\Q σ' H') X.xe s
abbrev Sjg:=V->V->V->Hp->(Hp->Prop)->Prop
def Smh (X:Cx) (t:Sjg):Prop:=
 ∀(pins:List (S5×Obj)) (s:S7) (σ:St) (H:Hp) (o i v:V) (ov iv u:S6) (Q:Hp->Prop),Sv X pins σ H s->Sa7 o ov->Sa7 i iv->Sa7 v u->t o i v H Q->
  Sh (model X.prog X.w) X.A (setItem ov iv u) (λ_ s'=>∃H',Sv X pins σ H' s'/\Q H') X.xe s
section
variable {X:Cx} {pos:Pos}
def Jtv (i:Nat):TG:=λv σ H Q=>Q (σ.set i (some v)) H
theorem Jl3 {i:Nat} {x:Str} (hN:X.N.Nodup) (hi:X.N[i]?=some x) (hx:Loc X.env.scope x) (hf:X.fn x=true\/X.env.scope.names.lookup x=some .local:=by first|exact .inl rfl|exact .inr rfl|assumption):PG X (.Name x pos) (Jtv i):=by
 intro pins s σ H v u Q I r h
 exact wpAny_assign_Name (Jw8 I hN hi hx r (λs' I'=>⟨_,H,I',h⟩) hf)
def Sr1:TGs:=λvs σ H Q=>vs= []/\Q σ H
def Smk (t:TG) (u:TGs):TGs:=λvs σ H Q=>∃v r,vs=v::r/\t v σ H λσ' H'=>u r σ' H' Q
theorem Jr5:PGs X [] Sr1:=by
 intro pins s σ H vs us Q I r h
 obtain ⟨e,h⟩:=h
 subst e
 cases r
 exact assignInOrder_nil ⟨σ,H,I,h⟩
theorem Jm0 {e:Expr} {es:List Expr} {t:TG} {u:TGs} (h1:PG X e t) (h2:PGs X es u)
  (hs:(assignEach (e::es) X.env).map (·.2)=assign e X.env::(assignEach es X.env).map (·.2):=by rfl):PGs X (e::es) (Smk t u):=by
 intro pins s σ H vs us Q I r h
 obtain ⟨v,vr,e1,h⟩:=h
 subst e1
 cases r with
 |cons r rr=>
  rw [hs]
  refine assignInOrder_cons (thn (h1 pins s σ H _ _ _ I r h) λ_ s1 zq=>?_)
  obtain ⟨σ1,H1,I1,q1⟩:=zq
  exact h2 pins s1 σ1 H1 _ _ Q I1 rr q1
def Sr3 (K:Si) (n:Nat) (t:TGs):TG:=λv σ H Q=>∃a xs,v= .ref a/\SqT K H a xs/\xs.length=n/\t xs σ H Q
theorem Jv0 {es:List Expr} {k:Nat} {t:TGs} {n:Nat} (hc:X.calm=true) (h:PGs X es t)
  (hn:(assignEach es X.env).length=n:=by rfl) (hst:(assignEach es X.env).findIdx? (·.1)=none:=by rfl):PG X (.Tuple es k pos) (Sr3 X.K n t):=by
 intro pins s σ H v u Q I r hw
 obtain ⟨a,xs,e1,hq,hl,hw⟩:=hw
 subst e1
 cases r
 obtain ⟨its,rv,ht,hz⟩:=I.tuple hq
 refine assign_Tuple_tuple (I.ok.hd hc) ht (by simp [hn,<-hl,rv.length]) hst λh' hx=>?_
 have I1:Sv X pins σ H {s with heap:=h'}:=I.kept (t':=s.toks) λb o e=>hx b o (yn (yg e)) e
 exact h pins _ σ H xs _ Q I1 (by simpa using rv) hw
def Sr2 (to ti:TE) (t:Sjg):TG:=λv σ H Q=>to σ H λo H1=>ti σ H1 λi H2=>t o i v H2 λH3=>Q σ H3
theorem Jzg {o i:Expr} {to ti:TE} {t:Sjg} (ho:PE X o to) (hi:PE X i ti) (hs:Smh X t)
  (ha:∀v,assign (.Subscript o i pos) X.env v=(do
   let ov<-holding [v] (eval o X.env)
   let iv<-holding [v,ov] (eval i X.env)
   standAt pos
   holding [v,ov,iv] (setItem ov iv v)
   release [v,ov,iv] []):=by intro _;rfl):PG X (.Subscript o i pos) (Sr2 to ti t):=by
 intro pins s σ H v u Q I r h
 rw [ha]
 refine S8 (wpAny_holding (thn (ho pins s σ H _ I h) λov s1 zq=>?_))
 obtain ⟨x,H1,I1,r1,q1⟩:=zq
 refine S8 (wpAny_holding (thn (hi pins s1 σ H1 _ I1 q1) λiv s2 zq=>?_))
 obtain ⟨y,H2,I2,r2,q2⟩:=zq
 refine S8 (wpAny_standAt (S8 (wpAny_holding (thn (hs pins s2 σ H2 x y v ov iv u _ I2 r1 r2 r q2) λ_ s3 zq=>?_))))
 obtain ⟨H3,I3,q3⟩:=zq
 exact wpAny_release ⟨σ,H3,I3,q3⟩
def Sng (te:TE) (g:TG):TS:=λD σ H=>te σ H λx H1=>g x σ H1 D.nx
theorem Jzi {tg e:Expr} {te:TE} {g:TG} (he:PE X e te) (hg:PG X tg g) (hs:swapsWithSole [tg] e pos.line X.env=pure false:=by rfl) (hw:swappedStores [tg] e X.env=pure none:=by rfl)
  (h1:(assignEach [tg] X.env).map (·.2)= [assign tg X.env]:=by rfl):PS X (.Assign [tg] e pos) (Sng te g):=by
 intro pins s σ H D I h
 refine wpAny_Assign_stores (thn (he pins s σ H _ I h) λv s1 zq=>?_) hs hw
 obtain ⟨x,H1,I1,r1,q1⟩:=zq
 rw [h1]
 exact thn (hg pins s1 σ H1 x v _ I1 r1 q1) λ_ s2 q=>q
theorem Jl4 {i:Nat} {x:Str} {e:Expr} {te:TE} {pos':Pos} (hN:X.N.Nodup) (hi:X.N[i]?=some x) (hx:Loc X.env.scope x) (he:PE X e te) (hs:swapsWith e (some (.Name x pos')) pos.line X.env=pure false:=by rfl) (hf:X.fn x=true\/X.env.scope.names.lookup x=some .local:=by first|exact .inl rfl|exact .inr rfl|assumption):
  PS X (.Assign [.Name x pos'] e pos) (Sng te (Jtv i)):=by
 intro pins s σ H D I h
 refine wpAny_Assign_Name (thn (he pins s σ H _ I h) λv s1 zq=>?_) hs
 obtain ⟨y,H1,I1,r1,q1⟩:=zq
 exact Jw8 I1 hN hi hx r1 (λs2 I2=>⟨_,H1,I2,q1⟩) hf
def Y2 (c:TT) (tb:TS):TS:=λD σ H=>∃W:Nat->St->Hp->Prop,(∃m,W m σ H)/\∀m σ H,W m σ H->
 c σ H λb H1=>if b=true then ∃N:St->Hp->Prop,(∀σ' H',N σ' H'->∃m',m' < m/\W m' σ' H')/\tb {D with nx:=N,ct:=N,bk:=D.nx} σ H1 else D.nx σ H1
theorem Jzj {c:Expr} {body:List Sf} {tc:TT} {tb:TS} (hp:PassesOwn (model X.prog X.w) X.A X.env X.xe) (hc:PT X c tc) (hb:PSs X body tb):PS X (.While c body [] pos) (Y2 tc tb):=by
 intro pins s σ H D I h
 obtain ⟨W,⟨m0,w0⟩,turn⟩:=h
 refine wpAny_While (codeAny_whileLoop (λn s'=>∃σ' H',Sv X pins σ' H' s'/\W n σ' H') ?_ m0 ⟨σ,H,I,w0⟩)
 rintro n s1 ⟨σ1,H1,I1,w1⟩
 refine wpAny_passesOwn hp (thn (hc pins s1 σ1 H1 _ I1 (turn n σ1 H1 w1)) λb s2 zq=>?_)
 obtain ⟨H2,I2,q2⟩:=zq
 cases b with
 |true=>
  obtain ⟨N,hN,q2⟩:=q2
  rw [if_pos rfl]
  refine wpAny_passesOwn hp (thn (hb pins s2 σ1 H2 _ I2 q2) λf s3 q3=>?_)
  cases f with
  |next=>
   obtain ⟨σ3,H3,I3,n3⟩:=q3
   obtain ⟨m',hm,w3⟩:=hN σ3 H3 n3
   exact ⟨m',hm,σ3,H3,I3,w3⟩
  |cont=>
   obtain ⟨σ3,H3,I3,n3⟩:=q3
   obtain ⟨m',hm,w3⟩:=hN σ3 H3 n3
   exact ⟨m',hm,σ3,H3,I3,w3⟩
  |brk=>exact q3
  |ret v=>exact q3
 |false=>
  rw [if_neg yv]
  exact wpAny_execs_nil ⟨σ1,H2,I2,q2⟩
end
structure It where
 go:Nat->Hp->Prop
 yld:Nat->Hp->V->Hp->Prop
 stop:Nat->Hp->Prop
def Jrf (X:Cx) (pins:List (S5×Obj)) (H:Hp) (b:S5):Prop:=
 H b=none/\b≠X.env.locals/\b∉X.fs/\(b∈X.ex\/X.s₀.heap.objs.size<=b)/\(∀x c,X.env.cells.lookup x=some c->c≠b)/\∀p∈X.pn++pins,p.1≠b
theorem Sv.fpOk {X:Cx} {pins:List (S5×Obj)} {σ:St} {H H':Hp} {s:S7} {b:S5} (I:Sv X pins σ H s) (hb:s.heap.objs.size<=b) (hn:H' b=none):Jrf X pins H' b:=by
 refine ⟨hn,yau (yad I.lt hb),I.nofs hb,.inr (yz I.sz hb),λx c e z=>?_,λp hp z=>?_⟩
 ·obtain ⟨v,q⟩:=I.cell x c e
  exact absurd (yad q.lt (by rw [z];exact hb)) (yat _)
 ·exact absurd (yad (yg (I.pin p hp).1) (by rw [z];exact hb)) (yat _)
structure Jt3 (P:Sb) (w:Sd) (K:Si) (tg:Expr) (J:It) (fp:List S5) (it:S5) (tn:Nat->Sg->Prop):Prop where
 mem:it∈fp
 obj:∀i h,tn i h->∀b∈fp,∃o,h.get? b=some o/\∀v,o.data≠ .cell v
 keep:∀i h h',tn i h->(∀b∈fp,∀o,h.get? b=some o->h'.get? b=some o)->tn i h'
 item:∀(X:Cx),X.prog=P->X.w=w->X.K=K->X.calm=true->∀(i:Nat) (pins:List (S5×Obj)) (s:S7) (σ:St) (H:Hp) (E:S6->S7->Prop),Sv X pins σ H s->(∀b∈fp,Jrf X pins H b)->tn i s.heap->J.go i H->
  Sh (model P w) X.A (pyNext (.ref it)) (λr s1=>∃u,r=some u/\
   Sh (model P w) X.A (letOwnedTupleGo tg (.ref it) u) (λ_ s2=>∃x H',Sv X pins σ H' s2/\Sa7 x u/\J.yld i H x H'/\tn (i+1) s2.heap/\∀b∈fp,H' b=none) E s1) E s
 done:∀(X:Cx),X.prog=P->X.w=w->X.K=K->X.calm=true->∀(i:Nat) (pins:List (S5×Obj)) (s:S7) (σ:St) (H:Hp) (E:S6->S7->Prop),Sv X pins σ H s->(∀b∈fp,Jrf X pins H b)->tn i s.heap->J.stop i H->
  Sh (model P w) X.A (pyNext (.ref it)) (λr s1=>r=none/\Sv X pins σ H s1) E s
 self:∀(A:Se) (i:Nat) (s:S7) (Q:S6->S7->Prop) (E:S6->S7->Prop),tn i s.heap->Q (.ref it) s->Sh (model P w) A (pyIter (.ref it)) Q E s
abbrev TI:=St->Hp->(It->Hp->Prop)->Prop
def PIE (X:Cx) (pins:List (S5×Obj)) (σ:St) (tg:Expr) (R:It->Hp->Prop) (itv:S6) (s2:S7):Prop:=
 ∃(it:S5) (fp:List S5) (tn:Nat->Sg->Prop) (J:It) (H':Hp),itv= .ref it/\Sv X pins σ H' s2/\Jt3 X.prog X.w X.K tg J fp it tn/\tn 0 s2.heap/\(∀b∈fp,Jrf X pins H' b)/\R J H'
def PI (X:Cx) (tg iter:Expr) (wi:TI):Prop:=
 ∀(pins:List (S5×Obj)) (s:S7) (σ:St) (H:Hp) (R:It->Hp->Prop),Sv X pins σ H s->wi σ H R->
  Sh (model X.prog X.w) X.A (eval iter X.env) (λv s1=>Sh (model X.prog X.w) X.A (pyIter v) (PIE X pins σ tg R) X.xe s1) X.xe s
theorem Jxb {M:Model} {A:Se} {E:S6->S7->Prop} {s:S7} {tg:Expr} {it:S5} {u:S6} {o:Obj} {n:String} {vs:Array S6} {Q:Unit->S7->Prop} (ho:s.heap.get? it=some o) (hc:o.cls= .type n) (hd:o.data= .fields vs)
  (hn: ["enumerate","zip","dict_itemiterator","dict_reverseitemiterator","odict_iterator","itertools.zip_longest","itertools.pairwise"].contains n=false) (hQ:Q () s):Sh M A (letOwnedTupleGo tg (.ref it) u) Q E s:=by
 unfold letOwnedTupleGo
 cases tg <;> first
  |exact S9 hQ
  | (cases u <;> first
    |exact S9 hQ
    | (refine S8 (wpAny_load ho ?_)
       rw [hc,hd]
       show Sh M A (if (["enumerate","zip","dict_itemiterator","dict_reverseitemiterator","odict_iterator","itertools.zip_longest","itertools.pairwise"].contains n&&vs[0]?==some (rawInt _))=true then _ else _) Q E s
       rw [if_neg (by intro h;rw [hn,Bool.false_and] at h;cases h)]
       exact S9 hQ))
def Itl (K:Si) (a:S5):It:=
 ⟨λi H=>∃xs x,Sw K H a xs/\xs[i]?=some x,λi H x H'=>H'=H/\∀xs,Sw K H a xs->xs[i]?=some x,λi H=>∃xs,Sw K H a xs/\xs.length<=i⟩
def Itt (K:Si) (a:S5):It:=
 ⟨λi H=>∃xs x,SqT K H a xs/\xs[i]?=some x,λi H x H'=>H'=H/\∀xs,SqT K H a xs->xs[i]?=some x,λi H=>∃xs,SqT K H a xs/\xs.length<=i⟩
def Itr (lo:Int) (n:Nat):It:=⟨λi _=>i < n,λi H x H'=>H'=H/\x= .int (lo+i),λi _=>n<=i⟩
theorem Ju5 {P:Sb} {w:Sd} {K:Si} {tg:Expr} (a it:S5):Jt3 P w K tg (Itl K a) [it] it (λi h=>h.IsListIter it a i) where
 mem:=by simp
 obj:=λi h st b hb=>by
  have e:b=it:=by simpa using hb
  subst e
  obtain ⟨o,e,c,d⟩:=st
  exact ⟨o,e,λv z=>by rw [d] at z;cases z⟩
 keep:=λi h h' st k=>st.at λo e=>k it (by simp) o e
 item:=by
  intro X hP hw hK hc i pins s σ H E I hf st hg
  subst hP hw hK
  obtain ⟨xs,x,hq,hx⟩:=hg
  obtain ⟨its,rv,p,hz⟩:=I.list hq
  obtain ⟨u,hu,ru⟩:=rv.get hx
  obtain ⟨f0,f1,f2,f3,f4,f5⟩:=hf it (by simp)
  refine wpAny_pyNext_list_item st p.isList (x:=u) (by simpa using hu) λh' st' sb=>?_
  have I1:Sv X pins σ H {s with heap:=h'}:=I.turned (t':=s.toks) (λb o hb e=>(sb.2 b hb).trans e) f0 f1 f3 f4 f5
  obtain ⟨o,e,c,d⟩:=id st'
  exact ⟨u,rfl,Jxb (s:={s with heap:=h'}) e c d (by decide) ⟨x,H,I1,ru,⟨rfl,λys hy=>by rw [I.list_inj hy hq];exact hx⟩,st',λb hb=>(hf b hb).1⟩⟩
 done:=by
  intro X hP hw hK hc i pins s σ H E I hf st hg
  subst hP hw hK
  obtain ⟨xs,hq,hx⟩:=hg
  obtain ⟨its,rv,p,hz⟩:=I.list hq
  obtain ⟨f0,f1,f2,f3,f4,f5⟩:=hf it (by simp)
  have hl:=rv.length
  exact wpAny_pyNext_list_end (I.ok.hd hc) st p.isList (by simp;omega) λh' eb=>⟨rfl,I.turned (t':=s.toks) (λb o hb e=>eb b o hb e) f0 f1 f3 f4 f5⟩
 self:=λ_ _ _ _ _ st h=>wpAny_pyIter_listiter st h
theorem Jsz {P:Sb} {w:Sd} {K:Si} {tg:Expr} (a it:S5):Jt3 P w K tg (Itt K a) [it] it (λi h=>h.IsTupleIter it a i) where
 mem:=by simp
 obj:=λi h st b hb=>by
  have e:b=it:=by simpa using hb
  subst e
  obtain ⟨o,e,c,d⟩:=st
  exact ⟨o,e,λv z=>by rw [d] at z;cases z⟩
 keep:=λi h h' st k=>st.at λo e=>k it (by simp) o e
 item:=by
  intro X hP hw hK hc i pins s σ H E I hf st hg
  subst hP hw hK
  obtain ⟨xs,x,hq,hx⟩:=hg
  obtain ⟨its,rv,p,hz⟩:=I.tuple hq
  obtain ⟨u,hu,ru⟩:=rv.get hx
  obtain ⟨f0,f1,f2,f3,f4,f5⟩:=hf it (by simp)
  refine wpAny_pyNext_tuple_item st (show s.heap.IsTuple a its.toArray from p) (x:=u) (by simpa using hu) λh' st' sb=>?_
  have I1:Sv X pins σ H {s with heap:=h'}:=I.turned (t':=s.toks) (λb o hb e=>(sb.2 b hb).trans e) f0 f1 f3 f4 f5
  obtain ⟨o,e,c,d⟩:=id st'
  exact ⟨u,rfl,Jxb (s:={s with heap:=h'}) e c d (by decide) ⟨x,H,I1,ru,⟨rfl,λys hy=>by rw [I.tuple_inj hy hq];exact hx⟩,st',λb hb=>(hf b hb).1⟩⟩
 done:=by
  intro X hP hw hK hc i pins s σ H E I hf st hg
  subst hP hw hK
  obtain ⟨xs,hq,hx⟩:=hg
  obtain ⟨its,rv,p,hz⟩:=I.tuple hq
  obtain ⟨f0,f1,f2,f3,f4,f5⟩:=hf it (by simp)
  have hl:=rv.length
  exact wpAny_pyNext_tuple_end (I.ok.hd hc) st (show s.heap.IsTuple a its.toArray from p) (by simp;omega) λh' eb=>⟨rfl,I.turned (t':=s.toks) (λb o hb e=>eb b o hb e) f0 f1 f3 f4 f5⟩
 self:=λ_ _ _ _ _ st h=>wpAny_pyIter_tupleiter st h
theorem Jx2 {P:Sb} {w:Sd} {K:Si} {tg:Expr} (it:S5) (lo:Int) (n:Nat):Jt3 P w K tg (Itr lo n) [it] it (λi h=>IsRangeIter h it (lo+(i:Nat)*1) ((n:Int) - (i:Nat)) 1) where
 mem:=by simp
 obj:=λi h st b hb=>by
  have e:b=it:=by simpa using hb
  subst e
  exact ⟨_,st,λv z=>by
   have z':Data.fields _=Data.cell v:=z
   cases z'⟩
 keep:=λi h h' st k=>k it (by simp) _ st
 item:=by
  intro X hP hw hK hc i pins s σ H E I hf st hg
  subst hP hw hK
  obtain ⟨f0,f1,f2,f3,f4,f5⟩:=hf it (by simp)
  have W:=Walks.range (prog:=X.prog) (w:=X.w) (I.ok.hd hc) it lo 1 n
  refine W.item i s _ _ hg st λv h' tk hv st' kk=>?_
  obtain ⟨t,rfl⟩:=hv
  have I1:Sv X pins σ H {s with heap:=h',toks:=tk}:=I.turned (λb o hb e=>kk b o (by simpa using hb) e) f0 f1 f3 f4 f5
  refine ⟨_,rfl,Jxb (s:={s with heap:=h',toks:=tk}) (n:="range_iterator") st' rfl rfl (by decide) ⟨.int (lo+i),H,I1,⟨t,?_⟩,⟨rfl,rfl⟩,st',λb hb=>(hf b hb).1⟩⟩
  rw [Int.mul_one]
 done:=by
  intro X hP hw hK hc i pins s σ H E I hf st hg
  subst hP hw hK
  obtain ⟨f0,f1,f2,f3,f4,f5⟩:=hf it (by simp)
  exact wpAny_pyNext_range_end (I.ok.hd hc) st (by have:n<=i:=hg;omega) λh' eb=>⟨rfl,I.turned (t':=s.toks) (λb o hb e=>eb b o hb e) f0 f1 f3 f4 f5⟩
 self:=λ_ _ _ _ _ st h=>wpAny_pyIter_rangeiter st h
section
variable {X:Cx} {tg:Expr}
def Smm (K:Si) (tl:TE):TI:=λσ H R=>tl σ H λx H1=>∃a,x= .ref a/\(∃xs,Sw K H1 a xs)/\R (Itl K a) H1
def Sr7 (K:Si) (tl:TE):TI:=λσ H R=>tl σ H λx H1=>∃a,x= .ref a/\(∃xs,SqT K H1 a xs)/\R (Itt K a) H1
theorem Jm2 {l:Expr} {tl:TE} (hl:PE X l tl):PI X tg l (Smm X.K tl):=by
 intro pins s σ H R I h
 refine thn (hl pins s σ H _ I h) λv s1 zq=>?_
 obtain ⟨x,H1,I1,r1,q1⟩:=zq
 obtain ⟨a,e,⟨xs,hq⟩,q⟩:=q1
 subst e
 cases r1
 obtain ⟨its,rv,p,hz⟩:=I1.list hq
 refine wpAny_pyIter_list p.isList ?_
 refine ⟨s1.heap.objs.size,[s1.heap.objs.size],_,_,H1,rfl,I1.kept (t':=s1.toks) λb o e=>yj _ e,Ju5 a _,⟨_,yr _ rfl,rfl,rfl⟩,λb hb=>?_,q⟩
 have e:b=s1.heap.objs.size:=by simpa using hb
 subst e
 exact I1.fpOk (yh _) (I1.hok.fresh (yh _))
theorem Jv1 {l:Expr} {tl:TE} (hl:PE X l tl):PI X tg l (Sr7 X.K tl):=by
 intro pins s σ H R I h
 refine thn (hl pins s σ H _ I h) λv s1 zq=>?_
 obtain ⟨x,H1,I1,r1,q1⟩:=zq
 obtain ⟨a,e,⟨xs,hq⟩,q⟩:=q1
 subst e
 cases r1
 obtain ⟨its,rv,p,hz⟩:=I1.tuple hq
 refine wpAny_pyIter_tuple (show s1.heap.IsTuple a its.toArray from p) ?_
 refine ⟨s1.heap.objs.size,[s1.heap.objs.size],_,_,H1,rfl,I1.kept (t':=s1.toks) λb o e=>yj _ e,Jsz a _,⟨_,yr _ rfl,rfl,rfl⟩,λb hb=>?_,q⟩
 have e:b=s1.heap.objs.size:=by simpa using hb
 subst e
 exact I1.fpOk (yh _) (I1.hok.fresh (yh _))
theorem Jvz {pins:List (S5×Obj)} {σ:St} {H:Hp} {s:S7} {R:It->Hp->Prop} {E:S6->S7->Prop} {lo hi:Int} {t u v:Tok} {tk:Nat} (I:Sv X pins σ H s) (h1: -(2^62)<=lo) (h2:lo < 2^62) (h3: -(2^62)<=hi) (h4:hi < 2^62)
  (q:R (Itr lo (hi - lo).toNat) H):Sh (model X.prog X.w) X.A (pyIter (.ref s.heap.objs.size)) (PIE X pins σ tg R) E {s with heap:=s.heap.push {cls:=.type "range",data:=.fields #[.int lo t,.int hi u,.int 1 v]},toks:=tk}:=by
 refine wpAny_pyIter_range (IsRange.new ..) (small_one h1 h2 h3 h4) ?_
 have I1:Sv X pins σ H {s with heap:=s.heap.push {cls:=.type "range",data:=.fields #[.int lo t,.int hi u,.int 1 v]},toks:=tk}:=I.kept λb o e=>yj _ e
 refine ⟨(s.heap.push {cls:=.type "range",data:=.fields #[.int lo t,.int hi u,.int 1 v]}).objs.size,[(s.heap.push {cls:=.type "range",data:=.fields #[.int lo t,.int hi u,.int 1 v]}).objs.size],_,_,H,rfl,
  I1.kept (t':=tk) λb o e=>yj _ e,Jx2 _ lo (hi - lo).toNat,?_,λb hb=>?_,q⟩
 ·have e1:lo+((0:Nat):Int)*1=lo:=by simp
  have e2:(((hi - lo).toNat:Nat):Int) - ((0:Nat):Int)=Builtin.Range.rangeSize lo hi 1:=by rw [rangeSize_one];split <;> omega
  show IsRangeIter _ _ (lo+((0:Nat):Int)*1) ((((hi - lo).toNat:Nat):Int) - ((0:Nat):Int)) 1
  rw [e1,e2]
  exact yr _ rfl
 ·have e:b=(s.heap.push {cls:=.type "range",data:=.fields #[.int lo t,.int hi u,.int 1 v]}).objs.size:=by simpa using hb
  subst e
  exact I1.fpOk (yh _) (I1.hok.fresh (yh _))
def Smn (ta:TA):TI:=λσ H R=>ta σ H λvs H1=>∃j:Int,vs= [.int j]/\ -(2^62)<=j/\j < 2^62/\R (Itr 0 j.toNat) H1
def Smo (ta:TA):TI:=λσ H R=>ta σ H λvs H1=>∃i j:Int,vs= [.int i,.int j]/\(-(2^62)<=i/\i < 2^62/\ -(2^62)<=j/\j < 2^62)/\R (Itr i (j - i).toNat) H1
theorem Jol {a:Expr} {ta:TA} {p pos:Pos} (hg:Gl X "range") (hm:X.mg "range" =none) (ha:PA X [a] ta) (hs:starEach [a] X.env= [(false,eval a X.env)]:=by rfl):PI X tg (.Call (.Name "range" p) [a] [] pos) (Smn ta):=by
 intro pins s σ H R I h
 refine Call_ (Jp3 I hg hm boot_range (PyProof.Rows.callWith_type1 (thn (ha pos pins s σ H _ I h) λus s1 zq=>?_) hs rfl))
 obtain ⟨vs,H1,I1,r1,q1⟩:=zq
 obtain ⟨j,e,q1,q2,q⟩:=q1
 subst e
 cases r1 with
 |cons r rr=>
  cases rr
  obtain ⟨t,rfl⟩:=r
  exact call_range_1 (Jvz I1 (by omega) (by omega) q1 q2 (by simpa using q))
theorem Jy5 {a b:Expr} {ta:TA} {p pos:Pos} (hg:Gl X "range") (hm:X.mg "range" =none) (ha:PA X [a,b] ta) (hs:starEach [a,b] X.env= [(false,eval a X.env),(false,eval b X.env)]:=by rfl) (hs2:starEach [b] X.env= [(false,eval b X.env)]:=by rfl):
  PI X tg (.Call (.Name "range" p) [a,b] [] pos) (Smo ta):=by
 intro pins s σ H R I h
 refine Call_ (Jp3 I hg hm boot_range (PyProof.Rows.callWith_type1 (thn (ha pos pins s σ H _ I h) λus s1 zq=>?_) (by rw [hs,hs2]) (by rw [hs2];rfl)))
 obtain ⟨vs,H1,I1,r1,q1⟩:=zq
 obtain ⟨i,j,e,⟨q1,q2,q3,q4⟩,q⟩:=q1
 subst e
 cases r1 with
 |cons r rr=>
  cases rr with
  |cons r' rr=>
   cases rr
   obtain ⟨t,rfl⟩:=r
   obtain ⟨t',rfl⟩:=r'
   exact call_range_2 (Jvz I1 q1 q2 q3 q4 q)
def Srm (wi:TI) (g:TG) (tb:TS):TS:=λD σ H=>wi σ H λJ H1=>∃W:Nat->Nat->St->Hp->Prop,(∃m,W 0 m σ H1)/\∀i m σ H,W i m σ H->
 (J.stop i H/\D.nx σ H)\/(J.go i H/\∃N:St->Hp->Prop,(∀σ' H',N σ' H'->∃m',m' < m/\W (i+1) m' σ' H')/\∀x H',J.yld i H x H'->g x σ H' λσ2 H2=>tb {D with nx:=N,ct:=N,bk:=D.nx} σ2 H2)
def Jsr (fp:List S5) (h:Sg):List (S5×Obj):=fp.filterMap λb=>(h.get? b).map λo=>(b,o)
theorem Jov {fp:List S5} {h:Sg} {b:S5} {o:Obj} (hb:b∈fp) (e:h.get? b=some o):(b,o)∈Jsr fp h:=List.mem_filterMap.mpr ⟨b,hb,by rw [e];rfl⟩
theorem Jy2 {fp:List S5} {h:Sg} {p:S5×Obj} (hp:p∈Jsr fp h):p.1∈fp/\h.get? p.1=some p.2:=by
 obtain ⟨b,hb,e⟩:=List.mem_filterMap.mp hp
 cases q:h.get? b with
 |none=>rw [q] at e;cases e
 |some o=>
  rw [q] at e
  have e':(b,o)=p:=yy.inj e
  subst e'
  exact ⟨hb,q⟩
theorem Sv.pinned {pins:List (S5×Obj)} {σ:St} {H:Hp} {s:S7} {fp:List S5} (I:Sv X pins σ H s) (hf:∀b∈fp,Jrf X pins H b) (ho:∀b∈fp,∃o,s.heap.get? b=some o/\∀v,o.data≠ .cell v):Sv X (pins++Jsr fp s.heap) σ H s:=
 I.pins_of λp hp=>(yar.mp hp).elim (λz=>I.pin p (yaq _ z)) λz=>by
  obtain ⟨hb,e⟩:=Jy2 z
  obtain ⟨f0,f1,f2,_⟩:=hf p.1 hb
  obtain ⟨o,e',d⟩:=ho p.1 hb
  rw [e] at e';cases e'
  exact ⟨e,f0,f1,f2,d⟩
theorem Sv.unpinned {pins pl:List (S5×Obj)} {σ:St} {H:Hp} {s:S7} (I:Sv X (pins++pl) σ H s):Sv X pins σ H s:=I.pins_of λp hp=>I.pin p (yaq _ (List.mem_append_left _ hp))
theorem Jms {iter:Expr} {body:List Sf} {wi:TI} {g:TG} {tb:TS} {pos:Pos} (hp:PassesOwn (model X.prog X.w) X.A X.env X.xe) (hc:X.calm=true) (hi:PI X tg iter wi) (hg:PG X tg g) (hb:PSs X body tb)
  (hs:∀x,foldedSetIterable iter X.env x=pure x:=by intro _;rfl):PS X (.For tg iter body [] pos) (Srm wi g tb):=by
 intro pins s σ H D I h
 refine wpAny_For (thn (hi pins s σ H _ I h) λv s1 h1=>thn h1 λitv s2 h2=>?_) hs
 obtain ⟨it,fp,tn,J,H2,e,I2,T,st2,f2,W,⟨m0,w0⟩,turn⟩:=h2
 subst e
 have stat:∀{H':Hp},(∀b∈fp,H' b=none)->∀b∈fp,Jrf X pins H' b:=λhn b hb=>⟨hn b hb,(f2 b hb).2⟩
 refine codeAny_forLoop_any (λn s'=>∃i σ' H',Sv X pins σ' H' s'/\tn i s'.heap/\(∀b∈fp,H' b=none)/\W i n σ' H') ?_ m0 ⟨0,σ,H2,I2,st2,λb hb=>(f2 b hb).1,w0⟩
 rintro n s3 ⟨i,σ3,H3,I3,st3,fr3,w3⟩
 rcases turn i n σ3 H3 w3 with ⟨stop,qn⟩|⟨go,N,hN,step⟩
 ·refine wpAny_passesOwn hp (thn (T.done X rfl rfl rfl hc i pins s3 σ3 H3 X.xe I3 (stat fr3) st3 stop) λr s4 ⟨hr,I4⟩=>?_)
  subst hr
  exact wpAny_execs_nil ⟨σ3,H3,I4,qn⟩
 ·refine wpAny_passesOwn hp (thn (T.item X rfl rfl rfl hc i pins s3 σ3 H3 X.xe I3 (stat fr3) st3 go) λr s4 ⟨u,hr,h4⟩=>?_)
  subst hr
  refine wpAny_passesOwn hp (thn h4 λ_ s5 zq=>?_)
  obtain ⟨x,H5,I5,r5,y5,st5,fr5⟩:=zq
  have I5':=I5.pinned (stat fr5) (T.obj _ _ st5)
  refine wpAny_passesOwn hp (thn (hg _ s5 σ3 H5 x u _ I5' r5 (step x H5 y5)) λ_ s6 zq=>?_)
  obtain ⟨σ6,H6,I6,q6⟩:=zq
  refine wpAny_passesOwn hp (thn (hb _ s6 σ6 H6 _ I6 q6) λf s7 q7=>?_)
  have again:∀{σ7:St} {H7:Hp},Sv X (pins++Jsr fp s5.heap) σ7 H7 s7->N σ7 H7->∃m,m < n/\∃i σ' H',Sv X pins σ' H' s7/\tn i s7.heap/\(∀b∈fp,H' b=none)/\W i m σ' H':=λ{σ7 H7} I7 n7=>by
   obtain ⟨m',hm,w7⟩:=hN σ7 H7 n7
   refine ⟨m',hm,i+1,σ7,H7,I7.unpinned,T.keep _ _ _ st5 λb hb o e=>(I7.pin (b,o) (yaq _ (yaq _ (Jov hb e)))).1,λb hb=>?_,w7⟩
   obtain ⟨o,e,d⟩:=T.obj _ _ st5 b hb
   exact (I7.pin (b,o) (yaq _ (yaq _ (Jov hb e)))).2.1
  cases f with
  |next=>obtain ⟨σ7,H7,I7,n7⟩:=q7;exact again I7 n7
  |cont=>obtain ⟨σ7,H7,I7,n7⟩:=q7;exact again I7 n7
  |brk=>obtain ⟨σ7,H7,I7,q7⟩:=q7;exact ⟨σ7,H7,I7.unpinned,q7⟩
  |ret v=>obtain ⟨x7,σ7,H7,I7,r7,q7⟩:=q7;exact ⟨x7,σ7,H7,I7.unpinned,r7,q7⟩
end
theorem Jnx {K:Si} {a:S5} {xs:List V} {g:TG} {tb:TS} {D:Jon} {σ:St} {H:Hp} (Pv:Nat->St->Hp->Prop) (h0:Pv 0 σ H) (hl:∀i σ H,i<=xs.length->Pv i σ H->Sw K H a xs)
  (hs:∀i x σ H,xs[i]?=some x->Pv i σ H->g x σ H λσ2 H2=>tb {D with nx:=Pv (i+1),ct:=Pv (i+1),bk:=D.nx} σ2 H2) (hd:∀σ H,Pv xs.length σ H->D.nx σ H):
  ∃W:Nat->Nat->St->Hp->Prop,(∃m,W 0 m σ H)/\∀i m σ H,W i m σ H->
   ((Itl K a).stop i H/\D.nx σ H)\/((Itl K a).go i H/\∃N:St->Hp->Prop,(∀σ' H',N σ' H'->∃m',m' < m/\W (i+1) m' σ' H')/\∀x H',(Itl K a).yld i H x H'->g x σ H' λσ2 H2=>tb {D with nx:=N,ct:=N,bk:=D.nx} σ2 H2):=by
 refine ⟨λi m σ H=>m=xs.length - i/\i<=xs.length/\Pv i σ H,⟨xs.length,by simp,yah _,h0⟩,?_⟩
 rintro i m σ H ⟨rfl,hi,p⟩
 have q:=hl i σ H hi p
 by_cases hlt:i < xs.length
 ·refine .inr ⟨⟨xs,xs[i],q,by simp [hlt]⟩,Pv (i+1),λσ' H' p'=>⟨xs.length - (i+1),by omega,rfl,hlt,p'⟩,λx H' y=>?_⟩
  obtain ⟨e,y⟩:=y
  subst e
  exact hs i x σ _ (y xs q) p
 ·have e:i=xs.length:=by omega
  subst e
  exact .inl ⟨⟨xs,q,yh _⟩,hd σ H p⟩
theorem Yq {K:Si} {a:S5} {xs:List V} {g:TG} {tb:TS} {D:Jon} {σ:St} {H:Hp} (Pv:Nat->St->Hp->Prop) (h0:Pv 0 σ H) (hl:∀i σ H,i<=xs.length->Pv i σ H->SqT K H a xs)
  (hs:∀i x σ H,xs[i]?=some x->Pv i σ H->g x σ H λσ2 H2=>tb {D with nx:=Pv (i+1),ct:=Pv (i+1),bk:=D.nx} σ2 H2) (hd:∀σ H,Pv xs.length σ H->D.nx σ H):
  ∃W:Nat->Nat->St->Hp->Prop,(∃m,W 0 m σ H)/\∀i m σ H,W i m σ H->
   ((Itt K a).stop i H/\D.nx σ H)\/((Itt K a).go i H/\∃N:St->Hp->Prop,(∀σ' H',N σ' H'->∃m',m' < m/\W (i+1) m' σ' H')/\∀x H',(Itt K a).yld i H x H'->g x σ H' λσ2 H2=>tb {D with nx:=N,ct:=N,bk:=D.nx} σ2 H2):=by
 refine ⟨λi m σ H=>m=xs.length - i/\i<=xs.length/\Pv i σ H,⟨xs.length,by simp,yah _,h0⟩,?_⟩
 rintro i m σ H ⟨rfl,hi,p⟩
 have q:=hl i σ H hi p
 by_cases hlt:i < xs.length
 ·refine .inr ⟨⟨xs,xs[i],q,by simp [hlt]⟩,Pv (i+1),λσ' H' p'=>⟨xs.length - (i+1),by omega,rfl,hlt,p'⟩,λx H' y=>?_⟩
  obtain ⟨e,y⟩:=y
  subst e
  exact hs i x σ _ (y xs q) p
 ·have e:i=xs.length:=by omega
  subst e
  exact .inl ⟨⟨xs,q,yh _⟩,hd σ H p⟩
theorem Joe {lo:Int} {n:Nat} {g:TG} {tb:TS} {D:Jon} {σ:St} {H:Hp} (Pv:Nat->St->Hp->Prop) (h0:Pv 0 σ H)
  (hs:∀i σ H,i < n->Pv i σ H->g (.int (lo+i)) σ H λσ2 H2=>tb {D with nx:=Pv (i+1),ct:=Pv (i+1),bk:=D.nx} σ2 H2) (hd:∀σ H,Pv n σ H->D.nx σ H):
  ∃W:Nat->Nat->St->Hp->Prop,(∃m,W 0 m σ H)/\∀i m σ H,W i m σ H->
   ((Itr lo n).stop i H/\D.nx σ H)\/((Itr lo n).go i H/\∃N:St->Hp->Prop,(∀σ' H',N σ' H'->∃m',m' < m/\W (i+1) m' σ' H')/\∀x H',(Itr lo n).yld i H x H'->g x σ H' λσ2 H2=>tb {D with nx:=N,ct:=N,bk:=D.nx} σ2 H2):=by
 refine ⟨λi m σ H=>m=n - i/\i<=n/\Pv i σ H,⟨n,by simp,yah _,h0⟩,?_⟩
 rintro i m σ H ⟨rfl,hi,p⟩
 by_cases hlt:i < n
 ·refine .inr ⟨hlt,Pv (i+1),λσ' H' p'=>⟨n - (i+1),by omega,rfl,hlt,p'⟩,λx H' y=>?_⟩
  obtain ⟨e,y⟩:=y
  subst e y
  exact hs i σ _ hlt p
 ·have e:i=n:=by omega
  subst e
  exact .inl ⟨yh _,hd σ H p⟩
theorem Y8 {c:TT} {tb:TS} {D:Jon} {σ:St} {H:Hp} (Pv:St->Hp->Prop) (μ:St->Hp->Nat) (h0:Pv σ H)
  (hs:∀σ H,Pv σ H->c σ H λb H1=>if b=true then tb {D with nx:=λσ' H'=>Pv σ' H'/\μ σ' H' < μ σ H,ct:=λσ' H'=>Pv σ' H'/\μ σ' H' < μ σ H,bk:=D.nx} σ H1 else D.nx σ H1)
  (mono:∀σ H Q Q',(∀b H1,Q b H1->Q' b H1)->c σ H Q->c σ H Q'):Y2 c tb D σ H:=by
 refine ⟨λm σ H=>m=μ σ H/\Pv σ H,⟨_,rfl,h0⟩,?_⟩
 rintro m σ H ⟨rfl,p⟩
 refine mono σ H _ _ (λb H1 q=>?_) (hs σ H p)
 cases b with
 |true=>exact ⟨_,λσ' H' ⟨p',l⟩=>⟨_,l,rfl,p'⟩,q⟩
 |false=>exact q
abbrev R2:=V->V->Hp->VK->Prop
def OpR (X:Cx) (f:S6->S6->Sem S6) (r:R2):Prop:=
 ∀(pins:List (S5×Obj)) (s:S7) (σ:St) (H:Hp) (x y:V) (v u:S6) (Q:VK),Sv X pins σ H s->Sa7 x v->Sa7 y u->r x y H Q->
  Sh (model X.prog X.w) X.A (f v u) (EP X pins σ Q) X.xe s
def UnR (X:Cx) (f:S6->Sem S6) (r:V->Hp->VK->Prop):Prop:=
 ∀(pins:List (S5×Obj)) (s:S7) (σ:St) (H:Hp) (x:V) (v:S6) (Q:VK),Sv X pins σ H s->Sa7 x v->r x H Q->
  Sh (model X.prog X.w) X.A (f v) (EP X pins σ Q) X.xe s
def Jng (X:Cx) (f:S6) (r:List V->Hp->VK->Prop):Prop:=
 ∀(pins:List (S5×Obj)) (s:S7) (σ:St) (H:Hp) (xs:List V) (us:List S6) (Q:VK),Sv X pins σ H s->Sa1 xs us->r xs H Q->
  Sh (model X.prog X.w) X.A (call f us) (EP X pins σ Q) X.xe s
def tOp (r:R2) (ta tb:TE):TE:=λσ H Q=>ta σ H λx H1=>tb σ H1 λy H2=>r x y H2 Q
def tUn (r:V->Hp->VK->Prop) (ta:TE):TE:=λσ H Q=>ta σ H λx H1=>r x H1 Q
def rI (C:Int->Int->Prop) (g:Int->Int->V):R2:=λx y H Q=>∃i j,x= .int i/\y= .int j/\C i j/\Q (g i j) H
def rI0 (g:Int->Int->V):R2:=λx y H Q=>∃i j,x= .int i/\y= .int j/\Q (g i j) H
def rU (g:Int->V):V->Hp->VK->Prop:=λx H Q=>∃i,x= .int i/\Q (g i) H
section
variable {X:Cx} {a b c:Expr} {ta tb tc:TE} {pos:Pos}
theorem Sjk (ha:PE X a ta) (hb:PE X b tb) {pins:List (S5×Obj)} {s:S7} {σ:St} {H:Hp} {R:V->V->Hp->Prop} (I:Sv X pins σ H s)
  (h:ta σ H λx H1=>tb σ H1 λy H2=>R x y H2) {Q:S6->S7->Prop} {f:S6->S6->Sem S6}
  (hf:∀v u s2 x y H2,Sv X pins σ H2 s2->Sa7 x v->Sa7 y u->R x y H2->Sh (model X.prog X.w) X.A (f v u) Q X.xe s2):
  Sh (model X.prog X.w) X.A (eval a X.env) (λv s₁=>Sh (model X.prog X.w) X.A (eval b X.env) (λu s₂=>Sh (model X.prog X.w) X.A (f v u) Q X.xe s₂) X.xe s₁) X.xe s:=by
 refine thn (ha pins s σ H _ I h) λv s1 zq=>?_
 obtain ⟨x,H1,I1,r1,q1⟩:=zq
 refine thn (hb pins s1 σ H1 _ I1 q1) λu s2 zq=>?_
 obtain ⟨y,H2,I2,r2,q2⟩:=zq
 exact hf v u s2 x y H2 I2 r1 r2 q2
theorem Jl9 {op:Operator} {r:R2} (ho:OpR X (binaryOp op) r) (ha:PE X a ta) (hb:PE X b tb):PE X (.BinOp a op b pos) (tOp r ta tb):=by
 intro pins s σ H Q I h
 exact wpAny_BinOp (Sjk ha hb I h λv u s2 x y H2 I2 rx ry q=>ho pins s2 σ H2 x y v u Q I2 rx ry q)
theorem Jvy {op:UnaryOp} {r:V->Hp->VK->Prop} (ho:UnR X (unaryOp op) r) (ha:PE X a ta):PE X (.UnaryOp op a pos) (tUn r ta):=by
 intro pins s σ H Q I h
 exact UnaryOp_ (thn (ha pins s σ H _ I h) λv s1 ⟨x,H1,I1,r1,q1⟩=>ho pins s1 σ H1 x v Q I1 r1 q1)
theorem opI {f:S6->S6->Sem S6} {C:Int->Int->Prop} {g:Int->Int->Int}
  (rule:∀(i j:Int) (t u:Tok) (s:S7) (Q:S6->S7->Prop) (E:S6->S7->Prop),C i j->Q (.int (g i j) s.toks) {s with toks:=s.toks+1}->Sh (model X.prog X.w) X.A (f (.int i t) (.int j u)) Q E s):
  OpR X f (rI C λi j=>.int (g i j)):=by
 intro pins s σ H x y v u Q I rx ry h
 obtain ⟨i,j,rfl,rfl,hc,q⟩:=h
 obtain ⟨t,rfl⟩:=rx
 obtain ⟨t',rfl⟩:=ry
 exact rule i j t t' s _ _ hc ⟨.int (g i j),H,I.tok _,⟨_,rfl⟩,q⟩
theorem Smt {f:S6->S6->Sem S6} {g:Int->Int->Int}
  (rule:∀(i j:Int) (t u:Tok) (s:S7) (Q:S6->S7->Prop) (E:S6->S7->Prop),Q (.int (g i j) s.toks) {s with toks:=s.toks+1}->Sh (model X.prog X.w) X.A (f (.int i t) (.int j u)) Q E s):
  OpR X f (rI0 λi j=>.int (g i j)):=by
 intro pins s σ H x y v u Q I rx ry h
 obtain ⟨i,j,rfl,rfl,q⟩:=h
 obtain ⟨t,rfl⟩:=rx
 obtain ⟨t',rfl⟩:=ry
 exact rule i j t t' s _ _ ⟨.int (g i j),H,I.tok _,⟨_,rfl⟩,q⟩
theorem Sk3 {f:S6->S6->Sem S6} {g:Int->Int->Bool}
  (rule:∀(i j:Int) (t u:Tok) (s:S7) (Q:S6->S7->Prop) (E:S6->S7->Prop),Q (.bool (g i j)) s->Sh (model X.prog X.w) X.A (f (.int i t) (.int j u)) Q E s):
  OpR X f (rI0 λi j=>.bl (g i j)):=by
 intro pins s σ H x y v u Q I rx ry h
 obtain ⟨i,j,rfl,rfl,q⟩:=h
 obtain ⟨t,rfl⟩:=rx
 obtain ⟨t',rfl⟩:=ry
 exact rule i j t t' s _ _ ⟨.bl (g i j),H,I,rfl,q⟩
def Sp8 (i j:Int):Prop:=0<=j/\j<=1000000/\i.natAbs < 2^64
def Siz (i j:Int):Prop:=(-(2^64) < i/\i < 2^64)\/(-(2^64) < j/\j < 2^64)
theorem Siz.ok {i j:Int} (h:Siz i j):IntMulOk i j:=by
 rcases h with ⟨h1,h2⟩|⟨h1,h2⟩
 ·exact .of_left (intBits_le_64 h1 h2)
 ·exact .of_right (intBits_le_64 h1 h2)
theorem Jm3:OpR X (binaryOp .Add) (rI0 λi j=>.int (i+j)):=Smt λ_ _ _ _ _ _ _ q=>add_int q
theorem Jo1:OpR X (binaryOp .Sub) (rI0 λi j=>.int (i - j)):=Smt λ_ _ _ _ _ _ _ q=>sub_int q
theorem Jqg:OpR X (binaryOp .Mult) (rI Siz λi j=>.int (i*j)):=opI λ_ _ _ _ _ _ _ hc q=>mul_int q hc.ok
theorem Jpd:OpR X (binaryOp .Mod) (rI (λ_ j=>0 < j) λi j=>.int (i%j)):=opI λi j _ _ _ _ _ hc q=>by
 have h1:(0:Int) < j:=hc
 exact mod_int' (by omega) (by rw [Int.fmod_eq_emod_of_nonneg i (by omega)];exact q)
theorem Sk4:OpR X (binaryOp .Pow) (rI Sp8 λi j=>.int (i^j.toNat)):=opI λ_ _ _ _ _ _ _ hc q=>pow_int_small hc.1 hc.2.1 hc.2.2 q
theorem unI {f:S6->Sem S6} {g:Int->Int}
  (rule:∀(i:Int) (t:Tok) (s:S7) (Q:S6->S7->Prop) (E:S6->S7->Prop),Q (.int (g i) s.toks) {s with toks:=s.toks+1}->Sh (model X.prog X.w) X.A (f (.int i t)) Q E s):
  UnR X f (rU λi=>.int (g i)):=by
 intro pins s σ H x v Q I rx h
 obtain ⟨i,rfl,q⟩:=h
 obtain ⟨t,rfl⟩:=rx
 exact rule i t s _ _ ⟨.int (g i),H,I.tok _,⟨_,rfl⟩,q⟩
theorem Jt0:UnR X (unaryOp .USub) (rU λi=>.int (-i)):=unI λ_ _ _ _ _ q=>neg_int q
end
def Sn3:V->V->Bool
 | .non,.non=>true| .non,.int _=>true| .int _,.non=>true| .non,.bl _=>true| .bl _,.non=>true| .non,.str _=>true| .str _,.non=>true
 | .int _,.int _=>true| .bl _,.bl _=>true| .str _,.str _=>true| .byt _,.byt _=>true
 | .int _,.str _=>true| .str _,.int _=>true| .bl _,.str _=>true| .str _,.bl _=>true
 |_,_=>false
def rEq:R2:=λx y H Q=>Sn3 x y=true/\Q (.bl (decide (x=y))) H
def rNe:R2:=λx y H Q=>Sn3 x y=true/\Q (.bl (!decide (x=y))) H
theorem Jx9 {i j:Int}:decide (V.int i=V.int j)=(i==j):=by
 rw [ybd]
 simp
theorem Jyt {i j:Bool}:decide (V.bl i=V.bl j)=(i==j):=by
 rw [ybd]
 simp
theorem Jxa {i j:Str}:decide (V.str i=V.str j)=(i==j):=by
 rw [ybd]
 simp
theorem Jx8 {i j:Array UInt8}:decide (V.byt i=V.byt j)=(i.toList==j.toList):=by
 rw [ybd]
 cases i
 cases j
 simp
section
variable {X:Cx} {a b c:Expr} {ta tb tc:TE} {pos:Pos}
theorem Jlj {pins:List (S5×Obj)} {σ:St} {H:Hp} {s:S7} {Q:VK} {k k':Bool} (I:Sv X pins σ H s) (q:Q (.bl k) H) (e:k=k'):EP X pins σ Q (.bool k') s:=by
 subst e
 exact ⟨.bl k,H,I,rfl,q⟩
theorem Jmu:OpR X (compareOp .Eq) rEq:=by
 intro pins s σ H x y v u Q I rx ry h
 obtain ⟨hs,q⟩:=h
 cases x with
 |non=>
  cases rx
  cases y with
  |non=>cases ry;exact PySem.EqNone.eq_none_none (Jlj I q (by simp))
  |bl j=>cases ry;exact PySem.EqNone.eq_none_bool (Jlj I q (by simp))
  |int j=>obtain ⟨t',rfl⟩:=ry;exact PySem.EqNone.eq_none_int (Jlj I q (by simp))
  |str j=>obtain ⟨t',rfl⟩:=ry;exact PySem.EqNone.eq_none_str (Jlj I q (by simp))
  |_=>exact absurd (show false=true from hs) yv
 |bl i=>
  cases rx
  cases y with
  |non=>cases ry;exact PySem.EqNone.eq_bool_none (Jlj I q (by simp))
  |bl j=>cases ry;exact eq_bool (Jlj I q Jyt)
  |str j=>obtain ⟨t',rfl⟩:=ry;exact PySem.EqMixed.eq_bool_str (Jlj I q (by simp))
  |_=>exact absurd (show false=true from hs) yv
 |int i=>
  obtain ⟨t,rfl⟩:=rx
  cases y with
  |non=>cases ry;exact PySem.EqNone.eq_int_none (Jlj I q (by simp))
  |int j=>obtain ⟨t',rfl⟩:=ry;exact eq_int (Jlj I q Jx9)
  |str j=>obtain ⟨t',rfl⟩:=ry;exact PySem.EqMixed.eq_int_str (Jlj I q (by simp))
  |_=>exact absurd (show false=true from hs) yv
 |str i=>
  obtain ⟨t,rfl⟩:=rx
  cases y with
  |non=>cases ry;exact PySem.EqNone.eq_str_none (Jlj I q (by simp))
  |bl j=>cases ry;exact PySem.EqMixed.eq_str_bool (Jlj I q (by simp))
  |int j=>obtain ⟨t',rfl⟩:=ry;exact PySem.EqMixed.eq_str_int (Jlj I q (by simp))
  |str j=>obtain ⟨t',rfl⟩:=ry;exact eq_str (Jlj I q Jxa)
  |_=>exact absurd (show false=true from hs) yv
 |byt i=>
  obtain ⟨t,rfl⟩:=rx
  cases y with
  |byt j=>obtain ⟨t',rfl⟩:=ry;exact PySem.W.eq_bytes (Jlj I q Jx8)
  |_=>exact absurd (show false=true from hs) yv
 |_=>cases y <;> exact absurd (show false=true from hs) yv
theorem Jso:OpR X (compareOp .NotEq) rNe:=by
 intro pins s σ H x y v u Q I rx ry h
 obtain ⟨hs,q⟩:=h
 cases x with
 |non=>
  cases rx
  cases y with
  |non=>cases ry;exact PySem.EqNone.ne_none_none (Jlj I q (by simp))
  |bl j=>cases ry;exact PySem.EqNone.ne_none_bool (Jlj I q (by simp))
  |int j=>obtain ⟨t',rfl⟩:=ry;exact PySem.EqNone.ne_none_int (Jlj I q (by simp))
  |str j=>obtain ⟨t',rfl⟩:=ry;exact PySem.EqNone.ne_none_str (Jlj I q (by simp))
  |_=>exact absurd (show false=true from hs) yv
 |bl i=>
  cases rx
  cases y with
  |non=>cases ry;exact PySem.EqNone.ne_bool_none (Jlj I q (by simp))
  |bl j=>cases ry;exact ne_bool (Jlj I q (congrArg not Jyt))
  |str j=>obtain ⟨t',rfl⟩:=ry;exact PySem.EqMixed.ne_bool_str (Jlj I q (by simp))
  |_=>exact absurd (show false=true from hs) yv
 |int i=>
  obtain ⟨t,rfl⟩:=rx
  cases y with
  |non=>cases ry;exact PySem.EqNone.ne_int_none (Jlj I q (by simp))
  |int j=>obtain ⟨t',rfl⟩:=ry;exact ne_int (Jlj I q (congrArg not Jx9))
  |str j=>obtain ⟨t',rfl⟩:=ry;exact PySem.EqMixed.ne_int_str (Jlj I q (by simp))
  |_=>exact absurd (show false=true from hs) yv
 |str i=>
  obtain ⟨t,rfl⟩:=rx
  cases y with
  |non=>cases ry;exact PySem.EqNone.ne_str_none (Jlj I q (by simp))
  |bl j=>cases ry;exact PySem.EqMixed.ne_str_bool (Jlj I q (by simp))
  |int j=>obtain ⟨t',rfl⟩:=ry;exact PySem.EqMixed.ne_str_int (Jlj I q (by simp))
  |str j=>obtain ⟨t',rfl⟩:=ry;exact ne_str (Jlj I q (congrArg not Jxa))
  |_=>exact absurd (show false=true from hs) yv
 |byt i=>
  obtain ⟨t,rfl⟩:=rx
  cases y with
  |byt j=>obtain ⟨t',rfl⟩:=ry;exact PySem.W.ne_bytes (Jlj I q (congrArg not Jx8))
  |_=>exact absurd (show false=true from hs) yv
 |_=>cases y <;> exact absurd (show false=true from hs) yv
theorem Ju2:OpR X (compareOp .Lt) (rI0 λi j=>.bl (decide (i < j))):=Sk3 λ_ _ _ _ _ _ _ q=>lt_int q
theorem Jp0:OpR X (compareOp .LtE) (rI0 λi j=>.bl (decide (i<=j))):=Sk3 λ_ _ _ _ _ _ _ q=>le_int q
theorem Jzb:OpR X (compareOp .Gt) (rI0 λi j=>.bl (decide (j < i))):=Sk3 λ_ _ _ _ _ _ _ q=>gt_int q
theorem Jy4:OpR X (compareOp .In) (λx y H Q=>∃i j,x= .str i/\y= .str j/\Q (.bl (!(Builtin.Str.occurrences j i 0 j.length 1).isEmpty)) H):=by
 intro pins s σ H x y v u Q I rx ry h
 obtain ⟨i,j,rfl,rfl,q⟩:=h
 obtain ⟨t,rfl⟩:=rx
 obtain ⟨t',rfl⟩:=ry
 exact in_str (Jlj I q rfl)
theorem Ya1:OpR X (compareOp .IsNot) (λx y H Q=>y= .non/\Q (.bl (!decide (x= .non))) H):=by
 intro pins s σ H x y v u Q I rx ry h
 obtain ⟨rfl,q⟩:=h
 cases ry
 refine isnot_none_gen (Jlj I q ?_)
 cases x <;> first
  | (cases rx; rfl)
  | (obtain ⟨t,rfl⟩:=rx; rfl)
theorem Jla (b:Expr) {op:CmpOp} (h:op≠ .In:=by decide) (h2:op≠ .NotIn:=by decide):behindInMarks op b=false:=by
 have e1:(op==CmpOp.In)=false:=by cases op <;> first|rfl|exact absurd rfl h
 have e2:(op==CmpOp.NotIn)=false:=by cases op <;> first|rfl|exact absurd rfl h2
 cases b <;> simp [behindInMarks,e1,e2]
theorem Jm5 {op:CmpOp} {r:R2} (ho:OpR X (compareOp op) r) (ha:PE X a ta) (hb:PE X b tb) (hm:behindInMarks op b=false):PE X (.Compare a [op] [b] pos) (tOp r ta tb):=by
 intro pins s σ H Q I h
 exact wpAny_Compare1 (Sjk ha hb I h λv u s2 x y H2 I2 rx ry q=>ho pins s2 σ H2 x y v u Q I2 rx ry q) hm
def Six (t:TE):TT:=λσ H Q=>t σ H λx H'=>∃k,x= .bl k/\Q k H'
theorem Jle {op:CmpOp} {r:R2} (ho:OpR X (compareOp op) r) (ha:PE X a ta) (hb:PE X b tb) (hm:behindInMarks op b=false):PT X (.Compare a [op] [b] pos) (Six (tOp r ta tb)):=by
 intro pins s σ H Q I h
 refine wpAny_isTrue_Compare1 (thn (ha pins s σ H _ I h) λv s1 ⟨x,H1,I1,r1,q1⟩=>thn (hb pins s1 σ H1 _ I1 q1) λu s2 ⟨y,H2,I2,r2,q2⟩=>
  thn (ho pins s2 σ H2 x y v u _ I2 r1 r2 q2) λc s3 ⟨z,H3,I3,r3,k,e,q3⟩=>?_) hm
 subst e
 cases r3
 exact wpAny_truthy_bool ⟨H3,I3,q3⟩
def Jzz (r r':R2) (ta tb tc:TE):TE:=λσ H Q=>ta σ H λx H1=>tb σ H1 λy H2=>r x y H2 λz H3=>∃k,z= .bl k/\
 (if k=true then tc σ H3 λw' H4=>r' y w' H4 Q else Q (.bl false) H3)
theorem Jvw {op op':CmpOp} {r r':R2} (ho:OpR X (compareOp op) r) (ho':OpR X (compareOp op') r') (ha:PE X a ta) (hb:PE X b tb) (hc:PE X c tc)
  (hm:lastMarks [op,op'] [b,c]=false:=by with_unfolding_all rfl):PE X (.Compare a [op,op'] [b,c] pos) (Jzz r r' ta tb tc):=by
 intro pins s σ H Q I h
 refine Compare_chain (thn (ha pins s σ H _ I h) λv s1 ⟨x,H1,I1,r1,q1⟩=>chain_link (thn (hb pins s1 σ H1 _ I1 q1) λu s2 ⟨y,H2,I2,r2,q2⟩=>
  thn (ho pins s2 σ H2 x y v u _ I2 r1 r2 q2) λd s3 ⟨z,H3,I3,r3,k,e,q3⟩=>?_)) hm
 subst e
 cases r3
 refine wpAny_truthy_bool ?_
 cases k with
 |false=>exact ite_ff ⟨.bl false,H3,I3,rfl,q3⟩
 |true=>exact ite_tt (chain_last (thn (hc pins s3 σ H3 _ I3 q3) λw' s4 ⟨z',H4,I4,r4,q4⟩=>ho' pins s4 σ H4 y z' u w' Q I4 r2 r4 q4))
theorem Jr6 {op op':CmpOp} {r r':R2} (ho:OpR X (compareOp op) r) (ho':OpR X (compareOp op') r') (ha:PE X a ta) (hb:PE X b tb) (hc:PE X c tc)
  (hm:lastMarks [op,op'] [b,c]=false:=by with_unfolding_all rfl):PT X (.Compare a [op,op'] [b,c] pos) (Six (Jzz r r' ta tb tc)):=by
 intro pins s σ H Q I h
 refine isTrue_chain (thn (ha pins s σ H _ I h) λv s1 ⟨x,H1,I1,r1,q1⟩=>test_link (thn (hb pins s1 σ H1 _ I1 q1) λu s2 ⟨y,H2,I2,r2,q2⟩=>
  thn (ho pins s2 σ H2 x y v u _ I2 r1 r2 q2) λd s3 ⟨z,H3,I3,r3,k,e,q3⟩=>?_)) hm
 subst e
 cases r3
 refine wpAny_truthy_bool ?_
 cases k with
 |false=>
  obtain ⟨k',e',q'⟩:=q3
  cases e'
  exact ite_ff ⟨H3,I3,q'⟩
 |true=>
  refine ite_tt (test_last (thn (hc pins s3 σ H3 _ I3 q3) λw' s4 ⟨z',H4,I4,r4,q4⟩=>thn (ho' pins s4 σ H4 y z' u w' _ I4 r2 r4 q4) λd' s5 zq=>?_))
  obtain ⟨z2,H5,I5,r5,k2,e2,q5⟩:=zq
  subst e2
  cases r5
  exact wpAny_truthy_bool ⟨H5,I5,q5⟩
theorem Jro:(Sa:Nat) < 2^63:=by rw [sizeLine_eq];decide
theorem Jnq {x:V} {us:List S6} (r:Sa1 [x] us):∃u,us= [u]/\Sa7 x u:=by
 cases r with
 |cons r1 r2=>cases r2;exact ⟨_,rfl,r1⟩
theorem Jwe {x y:V} {us:List S6} (r:Sa1 [x,y] us):∃u w',us= [u,w']/\Sa7 x u/\Sa7 y w':=by
 cases r with
 |cons r1 r2=>
  cases r2 with
  |cons r3 r4=>cases r4;exact ⟨_,_,rfl,r1,r3⟩
theorem Jpn (hc:X.calm=true):Jng X (.builtin "max") (λxs H Q=>∃i j,xs= [.int i,.int j]/\Q (.int (if j > i then j else i)) H):=by
 intro pins s σ H xs us Q I r h
 obtain ⟨i,j,rfl,q⟩:=h
 obtain ⟨u,w',rfl,⟨t,rfl⟩,⟨t',rfl⟩⟩:=Jwe r
 refine max_two_ints (I.ok.hd hc) λh' tk k=>⟨_,H,I.kept k,?_,q⟩
 by_cases hj:j > i
 ·rw [if_pos hj,if_pos hj];exact ⟨_,rfl⟩
 ·rw [if_neg hj,if_neg hj];exact ⟨_,rfl⟩
theorem Jrk (hc:X.calm=true):Jng X (.builtin "min") (λxs H Q=>∃i j,xs= [.int i,.int j]/\Q (.int (if j < i then j else i)) H):=by
 intro pins s σ H xs us Q I r h
 obtain ⟨i,j,rfl,q⟩:=h
 obtain ⟨u,w',rfl,⟨t,rfl⟩,⟨t',rfl⟩⟩:=Jwe r
 refine min_two_ints (I.ok.hd hc) λh' tk k=>⟨_,H,I.kept k,?_,q⟩
 by_cases hj:j < i
 ·rw [if_pos hj,if_pos hj];exact ⟨_,rfl⟩
 ·rw [if_neg hj,if_neg hj];exact ⟨_,rfl⟩
theorem Jtr:Jng X (.type "int") (λxs H Q=>(∃i,xs= [.int i]/\Q (.int i) H)\/∃k,xs= [.bl k]/\Q (.int (if k then 1 else 0)) H):=by
 intro pins s σ H xs us Q I r h
 rcases h with ⟨i,rfl,q⟩|⟨k,rfl,q⟩
 ·obtain ⟨u,rfl,t,rfl⟩:=Jnq r
  exact call_int_int ⟨.int i,H,I,⟨_,rfl⟩,q⟩
 ·obtain ⟨u,rfl,r1⟩:=Jnq r
  cases r1
  exact call_int_bool ⟨.int (if k then 1 else 0),H,I.tok _,⟨_,rfl⟩,q⟩
theorem Jop:Jng X (.type "str") (λxs H Q=>∃i,xs= [.int i]/\i.natAbs.log2 < 1920/\Q (.str (toString i)) H):=by
 intro pins s σ H xs us Q I r h
 obtain ⟨i,rfl,hz,q⟩:=h
 obtain ⟨u,rfl,t,rfl⟩:=Jnq r
 exact PySem.P.str_of_int hz ⟨.str _,H,I.tok _,⟨_,rfl⟩,q⟩
end
structure Sfw (h:Sg) (x dx C:S5) (mA:Str->Option S6):Prop where
 obj:h.get? x=some (Sm C dx)
 ns:h.Ns1 dx mA
 ne:dx≠x
theorem Jrp {h:Sg} {dx:S5} {mA:Str->Option S6} (n:h.Ns1 dx mA):∃od,h.get? dx=some od/\∀name,PySem.W.lookIn name od=some (mA name):=by
 obtain ⟨o,es,ep,ho,hd,hk,_,hm⟩:=n
 refine ⟨o,ho,λname=>?_⟩
 have e:=hm name
 unfold nsFind findBy at e
 rw [<-Array.find?_toList] at e
 unfold PySem.W.lookIn
 rw [hd]
 dsimp only
 split
 ·rename_i y q
  rw [q] at e
  exact congrArg some e
 ·rename_i q
  rw [q] at e
  have a:es.toList.any (·.refKey)=false:=by
   rw [List.any_eq_false]
   intro y hy
   obtain ⟨z,t,hkey⟩:=hk y (Array.mem_toList_iff.mp hy)
   simp [DictEntry.refKey,hkey]
  have a':¬es.toList.any (·.refKey)=true:=by rw [a];exact yv
  rw [if_neg a']
  exact congrArg some e
theorem Sfw.look {h:Sg} {x dx C:S5} {mA:Str->Option S6} (I:Sfw h x dx C mA):∃od,PySem.W.InstAt h x (Sm C dx) C (some od)/\∀name,PySem.W.lookIn name od=some (mA name):=
 let ⟨od,ho,hl⟩:=Jrp I.ns
 ⟨od,⟨I.obj,rfl,rfl,ho⟩,hl⟩
section
variable {prog:Sb} {w:Sd} {A:Se} {E:S6->S7->Prop} {s:S7} {K:Si} {x dx C f:S5} {mA:Str->Option S6} {name:Str} {v:S6}
theorem Yr {expr:Bool} {Q:S6->S7->Prop} (X:K.In s.heap) (I:Sfw s.heap x dx C mA) (hg:PySem.W.plainGet K C name=true) (hh:PySem.W.hasDictIn K C=true)
  (ha:Sk K (.ref C) name=some none) (hv:mA name=some v) (hv':PySem.W.handedIn v=true) (h:Q v {s with toks:=s.toks+1}):
  Sh (model prog w) A (getAttr (.ref x) name expr) Q E s:=by
 obtain ⟨od,J,hl⟩:=I.look
 exact PySem.W.get_value X J (PySem.W.plainGet_of hg).1 (PySem.W.findObj_own hh ha rfl (by rw [hl,hv])) hv' h
theorem Jyz {pl:Sem Bool} {Q:S6×List S6->S7->Prop} (X:K.In s.heap) (I:Sfw s.heap x dx C mA) (hg:PySem.W.plainGet K C name=true)
  (hf:Sk K (.ref C) name=some (some (.ref f))) (ht:PySem.W.isFn K (.ref f)=true) (hv:mA name=none) (h:Q (.ref f,[.ref x]) s):
  Sh (model prog w) A (getMethod (.ref x) name pl) Q E s:=by
 obtain ⟨od,J,hl⟩:=I.look
 exact PySem.W.method_fn X J (PySem.W.plainGet_of hg).1 (PySem.W.plainGet_of hg).2 hf (beq_iff_eq.mp ht) (by show (PySem.W.lookIn name od).map (·.isSome)=some false;rw [hl,hv];rfl) h
theorem Yad {ns:List Str} {Q:Unit->S7->Prop} (X:K.In s.heap) (I:Sfw s.heap x dx C mA)
  (hs:Sk K (.ref C) "__setattr__" =some (some (.builtin "object.__setattr__"))) (hp:PySem.W.plainOver K C=true) (ht:PySem.W.takerIn K C name=some none) (hh:PySem.W.hasDictIn K C=true)
  (hw:PySem.Within mA ns) (hsz:ns.length<=Sa)
  (h:∀h',Sfw h' x dx C (λy=>if y=name then some v else mA y)->yap dx s.heap h'->Q () {s with heap:=h',toks:=s.toks+2}):
  Sh (model prog w) A (setAttr (.ref x) name v) Q E s:=by
 obtain ⟨od,J,hl⟩:=I.look
 refine PySem.W.set_plain X J hs (PySem.W.osa_open (s:={s with toks:=s.toks+1}) (r:=none) X J hp ht λb=>?_)
 obtain ⟨cd,hc,hd'⟩:=PySem.W.any_some hh
 have hx:s.heap.get? x=some ⟨.ref C,some dx,.plain,#[]⟩:=I.obj
 refine S8 (S9 (S8 (S8 (wpAny_loadPart hx (S8 (PySem.W.Looks.here (s:={s with toks:=s.toks+1}) (PySem.W.looks_clsIn X hc) ?_))))))
 rw [hd']
 refine S9 (a:=some dx) (S8 (S9 (S8 ?_)))
 refine wpAny_nsSet1 (s:={s with toks:=s.toks+1}) I.ns λh' hn2 hs2=>?_
 obtain ⟨oD,esD,epD,hoD,hdD,hcD⟩:=hn2.count (PySem.Within.cons name v hw)
 refine S8 (wpAny_lookBehind hoD (by rw [hdD];exact pastItsLine_dict (yz hcD (by rw [yaj];omega))) ?_)
 exact S9 (h _ ⟨(hs2.2 _ (ym I.ne)).trans I.obj,hn2,I.ne⟩ hs2)
theorem Jvn {R:Result->S7->Prop} {vs:List S6} {kw:List (Str×S6)} (X:K.In s.heap) (hm:PySem.W.makesIn K C=true)
  (hi:Sk K (.ref C) "__init__" =some (some (.ref f))) (hf:PySem.W.typeIn K (.ref f)=some (.type "function"))
  (h:codeAny (model prog w) (A.under (.builtin "type.__call__" ⟨.ref C::vs,kw⟩)) (.call (.ref f) ⟨.ref (s.heap.objs.size+1)::vs,kw⟩) (PySem.W.InitBack (s.heap.objs.size+1) R)
   {s with heap:=(s.heap.push PySem.W.emptyDict).push (Sm C s.heap.objs.size)}):
  codeAny (model prog w) A (.call (.ref C) ⟨vs,kw⟩) R s:=by
 obtain ⟨hh,g,d,t,os⟩:=s
 exact PySem.W.make_core (PySem.W.makes_of X hm) (PySem.W.looks_findIn X hi) (λself=>PySem.W.bind_fn X self hf) (.inl rfl) h
end
def Jm8 (f:Str) (v:V):List (Str×V)->List (Str×V)
 | []=>[(f,v)]
 | (g,x) :: r=>if g = f then (g,v) :: r else (g,x) :: Jm8 f v r
theorem Jp5 (f g:Str) (v:V):∀fs:List (Str×V),(Jm8 f v fs).lookup g=if g=f then some v else fs.lookup g
 | []=>by
  show yaw g [(f,v)]=_
  by_cases h:g=f
  ·have hb:(g==f)=true:=beq_iff_eq.mpr h
   simp only [yaw,hb,if_pos h]
  ·have hb:(g==f)=false:=beq_eq_false_iff_ne.mpr h
   simp only [yaw,hb,if_neg h]
 | (k,x) :: r=>by
  have ih:=Jp5 f g v r
  rw [show Jm8 f v ((k,x)::r)=(if k=f then (k,v)::r else (k,x)::Jm8 f v r) from rfl]
  by_cases hk:k=f
  ·rw [if_pos hk]
   by_cases h:g=k
   ·have hb:(g==k)=true:=beq_iff_eq.mpr h
    simp only [yaw,hb,if_pos (h.trans hk)]
   ·have hb:(g==k)=false:=beq_eq_false_iff_ne.mpr h
    simp only [yaw,hb,if_neg (λe:g=f=>h (e.trans hk.symm))]
  ·rw [if_neg hk]
   by_cases h:g=k
   ·have hb:(g==k)=true:=beq_iff_eq.mpr h
    simp only [yaw,hb,if_neg (λe:g=f=>hk (h.symm.trans e))]
   ·have hb:(g==k)=false:=beq_eq_false_iff_ne.mpr h
    simp only [yaw,hb]
    exact ih
theorem Joh (f:Str) (v:V):∀fs:List (Str×V),f∈(Jm8 f v fs).map (·.1)/\∀g,g∈fs.map (·.1)->g∈(Jm8 f v fs).map (·.1)
 | []=>⟨by simp [Jm8],λg h=>by simp at h⟩
 | (k,x) :: r=>by
  obtain ⟨i1,i2⟩:=Joh f v r
  rw [show Jm8 f v ((k,x)::r)=(if k=f then (k,v)::r else (k,x)::Jm8 f v r) from rfl]
  by_cases hk:k=f
  ·rw [if_pos hk]
   subst hk
   exact ⟨by simp,λg h=>by simpa using h⟩
  ·rw [if_neg hk]
   refine ⟨?_,λg h=>?_⟩
   ·rw [yas]
    exact yae _ i1
   ·rw [yas] at h⊢
    rcases yi.mp h with e|e
    ·exact yi.mpr (.inl e)
    ·exact yae _ (i2 g e)
theorem Jp4 (f:Str) (v:V):∀fs:List (Str×V),(Jm8 f v fs).length<=fs.length+1
 | []=>by simp [Jm8]
 | (k,x) :: r=>by
  have ih:=Jp4 f v r
  rw [show Jm8 f v ((k,x)::r)=(if k=f then (k,v)::r else (k,x)::Jm8 f v r) from rfl]
  by_cases hk:k=f
  ·rw [if_pos hk,yaj,yaj];omega
  ·rw [if_neg hk,yaj,yaj];omega
theorem Sd7.some_of {v:V} {o:Option S6} (r:Sd7 (some v) o):∃u,o=some u/\Sa7 v u:=by
 cases o with
 |none=>exact (show False from r).elim
 |some u=>exact ⟨u,rfl,r⟩
theorem Sd7.none_of {o:Option S6} (r:Sd7 none o):o=none:=by
 cases o with
 |none=>rfl
 |some u=>exact (show False from r).elim
theorem Jxv {v:V} {u:S6} (r:Sa7 v u):PySem.W.handedIn u=true:=by
 cases v with
 |non=>cases (show u=Value.none from r);rfl
 |bl b=>cases (show u=Value.bool b from r);rfl
 |int i=>obtain ⟨t,e⟩:=(show ∃t,u=Value.int i t from r);cases e;rfl
 |str x=>obtain ⟨t,e⟩:=(show ∃t,u=Value.str x t from r);cases e;rfl
 |byt b=>obtain ⟨t,e⟩:=(show ∃t,u=Value.bytes b t from r);cases e;rfl
 |flt b=>obtain ⟨t,e⟩:=(show ∃t,u=Value.float b t from r);cases e;rfl
 |ref a=>cases (show u=Value.ref a from r);rfl
 |ty n=>cases (show u=Value.type n from r);rfl
section
variable {P:Sb} {w:Sd} {H H':Hp} {h h':Sg} {a C dx:S5} {fs fs':List (Str×V)}
theorem Js5 (hok:HOk P w H h) (e:H a=some (.ins C dx fs)):∃mA,Sfw h a dx C mA/\(∀f,Sd7 (fs.lookup f) (mA f))/\PySem.Within mA (fs.map (·.1))/\fs.length<=1000/\H dx=some (.own a):=by
 obtain ⟨d,z,ne,ob,mA,n,r,q⟩:=(show Sah P w H h a (.ins C dx fs) from hok a _ e)
 exact ⟨mA,⟨ob,n,ne⟩,r,q,z,d⟩
end
structure Cls (K:Si) (C:S5):Prop where
 pg:PySem.W.plainGet K C Str.empty=true
 hd:PySem.W.hasDictIn K C=true
 po:PySem.W.plainOver K C=true
 sa:Sk K (.ref C) "__setattr__" =some (some (.builtin "object.__setattr__"))
theorem Cls.get {K:Si} {C:S5} (c:Cls K C) (f:Str):PySem.W.plainGet K C f=true:=c.pg
def NoAttr (K:Si) (C:S5) (f:Str):Prop:=Sk K (.ref C) f=some none
theorem NoAttr.taker {K:Si} {C:S5} {f:Str} (n:NoAttr K C f):PySem.W.takerIn K C f=some none:=by
 unfold PySem.W.takerIn
 rw [show Sk K (.ref C) f=some none from n]
 rfl
structure Jn0 (K:Si) (C:S5) (m:Str) (f:S5):Prop where
 at_:Sk K (.ref C) m=some (some (.ref f))
 fn:PySem.W.isFn K (.ref f)=true
 kp:PySem.W.keepIn K (.ref f)=true
section
variable {X:Cx} {pins:List (S5×Obj)} {σ:St} {H:Hp} {s:S7} {a C dx:S5} {fs:List (Str×V)} {f:Str} {v:V} {A:Se} {E:S6->S7->Prop}
theorem Jse {b:Bool} {Q:S6->S7->Prop} (I:Sv X pins σ H s) (e:H a=some (.ins C dx fs)) (c:Cls X.K C) (n:NoAttr X.K C f) (l:fs.lookup f=some v)
  (h:∀u s',Sv X pins σ H s'->Sa7 v u->Q u s'):Sh (model X.prog X.w) A (getAttr (.ref a) f b) Q E s:=by
 obtain ⟨mA,O,r,_,_,_⟩:=Js5 I.hok e
 obtain ⟨u,hu,ru⟩:=Sd7.some_of (v:=v) (o:=mA f) (by rw [<-l];exact r f)
 exact Yr I.kIn O (c.get f) c.hd n hu (Jxv ru) (h u _ (I.tok _) ru)
theorem Jot {m:Str} {g:S5} {pl:Sem Bool} {Q:S6×List S6->S7->Prop} (I:Sv X pins σ H s) (e:H a=some (.ins C dx fs)) (c:Cls X.K C) (k:Jn0 X.K C m g) (l:fs.lookup m=none)
  (h:Q (.ref g,[.ref a]) s):Sh (model X.prog X.w) A (getMethod (.ref a) m pl) Q E s:=by
 obtain ⟨mA,O,r,_,_,_⟩:=Js5 I.hok e
 have hn:mA m=none:=Sd7.none_of (by rw [<-l];exact r m)
 exact Jyz I.kIn O (c.get m) k.at_ k.fn hn h
theorem Jst {y:V} {u:S6} {Q:Unit->S7->Prop} (I:Sv X pins σ H s) (e:H a=some (.ins C dx fs)) (c:Cls X.K C) (n:NoAttr X.K C f) (hl:fs.length < 1000) (ry:Sa7 y u)
  (h:∀s',Sv X pins σ (upd H a (.ins C dx (Jm8 f y fs))) s'->Q () s'):Sh (model X.prog X.w) A (setAttr (.ref a) f u) Q E s:=by
 obtain ⟨mA,O,r,wi,_,ho⟩:=Js5 I.hok e
 have hz:(fs.map (·.1)).length<=Sa:=by rw [yf,sizeLine_eq];omega
 refine Yad I.kIn O c.sa c.po n.taker c.hd wi hz λh' O' sb=>h _ ?_
 have hd:∃o,h'.get? dx=some o:=let ⟨o,_,_,e',_⟩:=O'.ns;⟨o,e'⟩
 refine I.write (x:=a) (e:=dx) (by rw [e];exact True.intro) (.inr ho) (λb q hb z=>(sb.2 b hb).trans z) hd ?_
 refine ⟨by rw [Jkt O.ne];exact ho,?_,O.ne,O'.obj,_,O'.ns,λg=>?_,λg hg=>?_⟩
 ·have:=Jp4 f y fs;omega
 ·show Sd7 ((Jm8 f y fs).lookup g) (if g=f then some u else mA g)
  rw [Jp5]
  by_cases q:g=f
  ·rw [if_pos q,if_pos q];exact ry
  ·rw [if_neg q,if_neg q];exact r g
 ·by_cases q:g=f
  ·rw [q];exact (Joh f y fs).1
  ·refine (Joh f y fs).2 g (wi g λz=>hg ?_)
   show (if g=f then some u else mA g)=none
   rw [if_neg q];exact z
theorem Sv.made (I:Sv X pins σ H s):Sv X pins σ (upd (upd H s.heap.objs.size (.own (s.heap.objs.size+1))) (s.heap.objs.size+1) (.ins C s.heap.objs.size []))
  {s with heap:=(s.heap.push PySem.W.emptyDict).push (Sm C s.heap.objs.size)}:=by
 have e1:(s.heap.push PySem.W.emptyDict).get? s.heap.objs.size=some PySem.W.emptyDict:=yr s.heap rfl
 have e2:((s.heap.push PySem.W.emptyDict).push (Sm C s.heap.objs.size)).get? (s.heap.objs.size+1)=some (Sm C s.heap.objs.size):=by
  have:=yr (s.heap.push PySem.W.emptyDict) (o:=Sm C s.heap.objs.size) rfl
  rwa [yak] at this
 have e3:(s.heap.push PySem.W.emptyDict).Ns s.heap.objs.size (λ_=>none):=⟨PySem.W.emptyDict,#[],_,e1,rfl,(λe he=>absurd he (by simp)),λ_=>rfl⟩
 have I1:=I.laid (a:=s.heap.objs.size) (o:=.own (s.heap.objs.size+1)) (h':=s.heap.push PySem.W.emptyDict) (t':=s.toks) (λb u q=>yj _ q) (yh _) ⟨_,e1⟩
 refine I1.laid (a:=s.heap.objs.size+1) (o:=.ins C s.heap.objs.size []) (t':=s.toks) (λb u q=>yj _ q) (Nat.le_of_eq (yak _ _)) ?_
 have ne:s.heap.objs.size≠s.heap.objs.size+1:=yn (ybl _)
 refine ⟨by rw [Jkt ne,Sy],yah _,ne,e2,λ_=>none,(Heap.Ns1.of_empty e3).at λo q=>yj _ q,λ_=>True.intro,λy hy=>absurd rfl hy⟩
theorem Yj {prog:Sb} {w:Sd} {env:Env} {e:Expr} {f:Str} {pos:Pos} {s:S7} {Q:S6->S7->Prop} (hb:attributeBase e f env (eval e env)=eval e env)
  (h:Sh (model prog w) A (eval e env) (λo s₁=>Sh (model prog w) A (getAttr o f true) Q E s₁) E s):Sh (model prog w) A (eval (.Attribute e f pos) env) Q E s:=
 Attribute_any_ h (by rw [arm_eval_Attribute,hb])
end
def Snj (K:Si) (ta:TE) (f:Str):TE:=λσ H Q=>ta σ H λx H1=>∃a C dx fs v,x= .ref a/\H1 a=some (.ins C dx fs)/\Cls K C/\NoAttr K C f/\fs.lookup f=some v/\Q v H1
def Srh (K:Si) (ta tv:TE) (f:Str):TS:=λD σ H=>tv σ H λy H1=>ta σ H1 λx H2=>∃a C dx fs,x= .ref a/\H2 a=some (.ins C dx fs)/\Cls K C/\NoAttr K C f/\fs.length < 1000/\
 D.nx σ (upd H2 a (.ins C dx (Jm8 f y fs)))
def Slq (X:Cx) (op:Operator) (rd:V->V->Hp->VK->Prop):Prop:=
 ∀(pins:List (S5×Obj)) (s:S7) (σ:St) (H:Hp) (x y:V) (u v:S6) (Q:VK),Sv X pins σ H s->Sa7 x u->Sa7 y v->rd x y H Q->Sh (model X.prog X.w) X.A (inplaceOp op u v) (EP X pins σ Q) X.xe s
def Yab (K:Si) (ta tv:TE) (rd:V->V->Hp->VK->Prop) (f:Str):TS:=λD σ H=>ta σ H λx H1=>∃a C dx fs v,x= .ref a/\H1 a=some (.ins C dx fs)/\Cls K C/\NoAttr K C f/\fs.lookup f=some v/\
 tv σ H1 λy H2=>rd v y H2 λz H3=>∃dx' fs',H3 a=some (.ins C dx' fs')/\fs'.length < 1000/\D.nx σ (upd H3 a (.ins C dx' (Jm8 f z fs')))
section
variable {X:Cx} {o e value:Expr} {f:Str} {pos pos' tpos:Pos} {ta tv:TE}
theorem Jl5 (he:PE X e ta) (hb:attributeBase e f X.env (eval e X.env)=eval e X.env):PE X (.Attribute e f pos) (Snj X.K ta f):=by
 intro pins s σ H Q I h
 refine Yj hb (thn (he pins s σ H _ I h) λu s1 zq=>?_)
 obtain ⟨x,H1,I1,rx,a,C,dx,fs,v,ex,ea,c,n,l,q⟩:=zq
 subst ex
 obtain rfl:u=Value.ref a:=rx
 exact Jse I1 ea c n l λu' s2 I2 ru=>⟨v,H1,I2,ru,q⟩
theorem Jmb (ha:PE X o ta) (hv:PE X value tv) (hs:swapsWith value (some (.Attribute o f pos')) pos.line X.env=pure false):PS X (.Assign [.Attribute o f pos'] value pos) (Srh X.K ta tv f):=by
 intro pins s σ H D I h
 refine plainObj_wpAny_Assign_Attribute (thn (hv pins s σ H _ I h) λu s1 ⟨y,H1,I1,ry,q⟩=>thn (ha pins s1 σ H1 _ I1 q) λov s2 zq=>?_) hs
 obtain ⟨x,H2,I2,rx,a,C,dx,fs,ex,ea,c,n,l,q2⟩:=zq
 subst ex
 obtain rfl:ov=Value.ref a:=rx
 exact Jst I2 ea c n l ry λs3 I3=>⟨σ,_,I3,q2⟩
theorem Jy7 {op:Operator} {rd:V->V->Hp->VK->Prop} (ha:PE X o ta) (hv:PE X value tv) (hop:Slq X op rd):PS X (.AugAssign (.Attribute o f tpos) op value pos) (Yab X.K ta tv rd f):=by
 intro pins s σ H D I h
 refine wpAny_AugAssign_AttributeAny (thn (ha pins s σ H _ I h) λov s1 zq=>?_)
 obtain ⟨x,H1,I1,rx,a,C,dx,fs,v,ex,ea,c,n,l,q⟩:=zq
 subst ex
 obtain rfl:ov=Value.ref a:=rx
 refine Jse I1 ea c n l λu s2 I2 ru=>thn (hv pins s2 σ H1 _ I2 q) λw3 s3 ⟨y,H2,I3,ry,q3⟩=>thn (hop pins s3 σ H2 v y u w3 _ I3 ru ry q3) λw4 s4 zq=>?_
 obtain ⟨z,H3,I4,rz,dx',fs',ea',l',q4⟩:=zq
 exact Jst I4 ea' c n l' rz λs5 I5=>⟨σ,_,I5,q4⟩
def Sr9:V->V->Hp->VK->Prop:=λx y H Q=>∃i j,x= .int i/\y= .int j/\Q (.int (i+j)) H
theorem Sjt:Slq X .Add Sr9:=by
 rintro pins s σ H x y u v Q I rx ry ⟨i,j,rfl,rfl,q⟩
 obtain ⟨t,rfl⟩:=(show ∃t,u=Value.int i t from rx)
 obtain ⟨t',rfl⟩:=(show ∃t',v=Value.int j t' from ry)
 exact PyProof.Rows.iadd_int ⟨.int (i+j),H,I.tok _,⟨_,rfl⟩,q⟩
end
section
variable {X:Cx} {pins:List (S5×Obj)} {σ:St} {H:Hp} {s:S7} {A:Se} {E:S6->S7->Prop} {Q:S6->S7->Prop} {c:S6} {b:Bool}
inductive Jrg (K:Si) (H:Hp):V->S6->Prop where
 |non:Jrg K H .non (.type "NoneType")
 |bl (x:Bool):Jrg K H (.bl x) (.type "bool")
 |int (i:Int):Jrg K H (.int i) (.type "int")
 |str (x:Str):Jrg K H (.str x) (.type "str")
 |flt (x:UInt64):Jrg K H (.flt x) (.type "float")
 |lst {a:S5} {xs:List V} (e:H a=some (.lst xs)):Jrg K H (.ref a) (.type "list")
 |frz {a:S5} {o:Obj} {xs:List V} (e:H a=some (.frz o (.lst xs))):Jrg K H (.ref a) (.type "list")
 |tup {a:S5} {xs:List V} (e:H a=some (.tup xs)):Jrg K H (.ref a) (.type "tuple")
 |dK {a:S5} {kvs:List (Key×V)} (e:H a=some (.dK kvs)):Jrg K H (.ref a) (.type "dict")
 |dT {a:S5} {kvs:List (List Key×V)} (e:H a=some (.dT kvs)):Jrg K H (.ref a) (.type "dict")
 |ins {a C dx:S5} {fs:List (Str×V)} (e:H a=some (.ins C dx fs)) (cl:Cls K C) (ha:Sk K (.ref C) "__class__" =some (some (.builtin "object.__class__")))
   (hn:PySem.W.specialIn K (.builtin "object.__class__") "__get__" =some (some (.builtin "getset_descriptor.__get__"))) (htk:PySem.W.takesIn K (.builtin "object.__class__")=some true)
   (hm:Sl K C (.type "object")=some true):Jrg K H (.ref a) (.ref C)
end
structure Sam (k:Nat) (A:Se):Prop where
 hd:A.handled=none
 dp:A.depth+3*k+5 < recursionLimit
 un:A.units+16*k+200 < cLine
theorem Sam.mono {j k:Nat} {A:Se} (r:Sam k A) (h:j<=k):Sam j A:=⟨r.hd,by have:=r.dp;omega,by have:=r.un;omega⟩
theorem Sam.deeper {k:Nat} {A:Se} (r:Sam (k+1) A) (env:Env):Sam k (A.deeper env):=
 ⟨r.hd,by have:=r.dp;show A.depth+1+3*k+5 < _;omega,by have:=r.un;show A.units+3+16*k+200 < _;omega⟩
theorem Jwm {A:Se} {C:S5} {us:List S6} {kw:List (Str×S6)}:(A.under (.builtin "type.__call__" ⟨.ref C::us,kw⟩)).depth=A.depth+1:=by
 first|rfl|simp [Around.under,Code.weight,Code.isCreation,Code.isGuard,Code.isCaller,Code.frames,Code.isFrame,guardIds]
theorem Jwn {A:Se} {C:S5} {us:List S6} {kw:List (Str×S6)}:(A.under (.builtin "type.__call__" ⟨.ref C::us,kw⟩)).units=A.units+1:=by
 first|rfl|simp [Around.under,Code.cUnits,Code.frames,Code.isFrame]
theorem Sam.make {k:Nat} {A:Se} (r:Sam (k+1) A) (C:S5) (us:List S6) (kw:List (Str×S6)):Sam k (A.under (.builtin "type.__call__" ⟨.ref C::us,kw⟩)):=
 ⟨r.hd,by have:=r.dp;rw [Jwm];omega,by have:=r.un;rw [Jwn];omega⟩
theorem Sam.depth {k:Nat} {A:Se} (r:Sam k A):A.depth < recursionLimit:=by have:=r.dp;omega
theorem Sam.units {k:Nat} {A:Se} (r:Sam k A):A.units+64 < cLine:=by have:=r.un;omega
def Jva:TA:=λ_ H Q=>Q [] H
def Jm7 (ta:TE) (tr:TA):TA:=λσ H Q=>ta σ H λx H1=>tr σ H1 λxs H2=>Q (x::xs) H2
section
variable {X:Cx} {e:Expr} {es:List Expr} {te:TE} {t:TA} {pos:Pos}
theorem Ss:PA X [] Jva:=λ_ _ _ _ H Q I h=>Calls.spliced_nil ⟨[],H,I,.nil,h⟩
theorem So (ha:PE X e te) (hr:PA X es t) (hs:starEach (e::es) X.env=(false,eval e X.env)::starEach es X.env:=by rfl):PA X (e::es) (Jm7 te t):=by
 intro pos pins s σ H Q I h
 rw [hs]
 show Sh _ _ (spliced ((false,eval e X.env)::backTo pos (starEach es X.env))) _ _ s
 refine Calls.spliced_cons (thn (ha pins s σ H _ I h) λu s1 zq=>?_)
 obtain ⟨x,H1,I1,r1,q1⟩:=zq
 exact thn (hr pos pins s1 σ H1 _ I1 q1) λus s2 ⟨xs,H2,I2,r2,q2⟩=>⟨x::xs,H2,I2,.cons r1 r2,q2⟩
def Srt (t:TA):TE:=λσ H Q=>t σ H λxs H1=>xs.length<=Sa/\∀p,H1 p=none->Q (.ref p) (upd H1 p (.tup xs))
def Srp (t:TA):TE:=λσ H Q=>t σ H λxs H1=>xs.length<=Sa/\∀p,H1 p=none->Q (.ref p) (upd H1 p (.lst xs))
theorem Jsq {x1} (h:PA X es t):PE X (.Tuple es x1 pos) (Srt t):=by
 intro pins s σ H Q I hq
 refine wpAny_Tuple_spliced (thn (h pos pins s σ H _ I hq) λus s1 ⟨xs,H1,I1,r,z,q⟩=>⟨by rw [<-r.length];exact z,?_⟩)
 have hf:H1 s1.heap.objs.size=none:=I1.hok.fresh (yh _)
 refine ⟨.ref s1.heap.objs.size,upd H1 s1.heap.objs.size (.tup xs),I1.laid (t':=s1.toks) (λb u e=>yj _ e) (yh _) ?_,rfl,q _ hf⟩
 exact ⟨z,us,r,⟨_,yr _ rfl,rfl,_,rfl⟩⟩
theorem Jli (h:PA X es t):PE X (.List es pos) (Srp t):=by
 intro pins s σ H Q I hq
 refine wpAny_List_spliced (thn (h pos pins s σ H _ I hq) λus s1 ⟨xs,H1,I1,r,z,q⟩=>⟨by rw [<-r.length];exact z,?_⟩)
 have hf:H1 s1.heap.objs.size=none:=I1.hok.fresh (yh _)
 refine ⟨.ref s1.heap.objs.size,upd H1 s1.heap.objs.size (.lst xs),I1.laid (t':=s1.toks) (λb u e=>yj _ e) (yh _) ?_,rfl,q _ hf⟩
 exact ⟨z,us,0,r,yr _ rfl⟩
end
abbrev Sp:=List V->Hp->VK->XK->Prop
abbrev CXT:=List Env->Hp->S7->XK->S6->S7->Prop
structure Sec (P:Sb) (w:Sd) (K:Si) (mg:Str->Option S6) (base:Sg) (A:Se) (outer:List Env) (s:S7) (H:Hp):Prop where
 frames:A.frames=some outer
 mod:Mod K mg base
 bs:∀b o,base.get? b=some o->s.heap.get? b=some o/\H b=none
 bsz:base.objs.size<=s.heap.objs.size
 funs:s.heap.FunFrames base outer
 frf:∀b∈frs outer,H b=none
 hok:HOk P w H s.heap
 bare:AllBare s.gens
def CE (outer:List Env) (P:Sb) (w:Sd) (H:Hp) (s:S7) (Q:VK) (u:S6) (s':S7):Prop:=
 ∃v H',s'.os=s.os/\AllBare s'.gens/\Un (frs outer) [] H H' s.heap s'.heap/\HOk P w H' s'.heap/\Sa7 v u/\Q v H'
def CR (CX:CXT) (outer:List Env) (P:Sb) (w:Sd) (H:Hp) (s:S7) (Q:VK) (E:XK) (r:Result) (s':S7):Prop:=
 match r with
 | .ok (.ret u)=>CE outer P w H s Q u s'
 | .ok _=>False
 | .error e=>CX outer H s E e s'
structure Sx (P:Sb) (w:Sd) (K:Si) (mg:Str->Option S6) (base:Sg) (CX:CXT) (k:Nat) (f:S5) (fd:Sc) (ps:List Str) (sp:Sp):Prop where
 len:∀vs H Q E,sp vs H Q E->vs.length=ps.length
 run:∀(A:Se) (outer:List Env) (s:S7) (H:Hp) (args:Args) (us:List S6) (vs:List V) (Q:VK) (E:XK),Sam k A->Sec P w K mg base A outer s H->BindsTo s fd args (ps.zip us)->Sa1 vs us->sp vs H Q E->
  codeAny (model P w) A (.call (.ref f) args) (CR CX outer P w H s Q E) s
theorem Sec.make {P:Sb} {w:Sd} {K:Si} {mg:Str->Option S6} {base:Sg} {A:Se} {outer:List Env} {s:S7} {H:Hp} (e:Sec P w K mg base A outer s H) (C:S5) (us:List S6) (kw:List (Str×S6)):
  Sec P w K mg base (A.under (.builtin "type.__call__" ⟨.ref C::us,kw⟩)) outer s H:=⟨by first|exact e.frames|(simpa [Around.under,Code.envs,Code.isFrame,pushEnvs] using e.frames),e.mod,e.bs,e.bsz,e.funs,e.frf,e.hok,e.bare⟩
section
variable {X:Cx} {pins:List (S5×Obj)} {σ:St} {H:Hp} {s s':S7}
theorem Sv.env0 (I:Sv X pins σ H s):Sec X.prog X.w X.K X.mg X.base X.A X.stack s H:=
 ⟨I.ok.frames,I.ok.mod,I.bs,yz I.ok.bsz I.sz,I.stack,I.stkFree,I.hok,I.bare⟩
theorem Sv.after {Q:VK} {u:S6} (I:Sv X pins σ H s) (h:CE X.stack X.prog X.w H s Q u s'):EP X pins σ Q u s':=by
 obtain ⟨v,H',os,bare,un,hok,r,q⟩:=h
 obtain ⟨hh,g,d,t,os'⟩:=s'
 obtain rfl:os'=s.os:=os
 exact ⟨v,H',I.call (h':=hh) (g':=g) (d':=d) (t':=t) (ch:=[]) un hok bare (λb z=>absurd z (by simp)),r,q⟩
end
def Siu (sp:Sp) (dvs:List V) (E:XK) (t:TA):TE:=λσ H Q=>t σ H λvs H1=>sp (vs++dvs) H1 Q E
def Siv (C:S5) (m:Str) (sp:Sp) (dvs:List V) (E:XK) (ta:TE) (t:TA):TE:=λσ H Q=>ta σ H λx H1=>∃a dx fs,x= .ref a/\H1 a=some (.ins C dx fs)/\fs.lookup m=none/\
 t σ H1 λvs H2=>sp (x::(vs++dvs)) H2 Q E
def Snk (C:S5) (sp:Sp) (dvs:List V) (E:XK) (t:TA):TE:=λσ H Q=>t σ H λvs H1=>∀x dx,H1 x=none->H1 dx=none->dx≠x->
 sp (.ref x::(vs++dvs)) (upd (upd H1 dx (.own x)) x (.ins C dx [])) (λv H2=>v= .non/\Q (.ref x) H2) E
def Sb1 (K:Si) (fd:Sc) (ps:List Str) (ds:List S6):Prop:=
 ∀(s:S7) (us:List S6),K.In s.heap->(us++ds).length=ps.length->BindsTo s fd ⟨us,[]⟩ (ps.zip (us++ds))
theorem Sb1.all {K:Si} {fd:Sc} {ps:List Str} (h:∀us:List S6,us.length=ps.length->bindArgs fd ⟨us,[]⟩=pure (ps.zip us)):Sb1 K fd ps []:=λs us _ hl=>by
 rw [yba] at hl⊢
 exact .of_eq (h us hl)
def Jq5 (CX:CXT) (X:Cx) (E:XK):Prop:=∀(pins:List (S5×Obj)) (σ:St) (H:Hp) (s:S7) (e:S6) (s':S7),Sv X pins σ H s->CX X.stack H s E e s'->X.xe e s'
section
variable {X:Cx} {CX:CXT} {k:Nat} {f C:S5} {fd:Sc} {ps:List Str} {sp:Sp} {dvs:List V} {ds:List S6} {E:XK} {x m:Str} {p pos apos:Pos} {e o:Expr} {es:List Expr} {ta:TE} {t:TA}
theorem Jss {pins:List (S5×Obj)} {σ:St} {H:Hp} {s:S7} {Q:VK} {us:List S6} {vs:List V} (F:Sx X.prog X.w X.K X.mg X.base CX k f fd ps sp) (hr:Sam k X.A) (hb:Sb1 X.K fd ps ds) (hd:Sa1 dvs ds) (hx:Jq5 CX X E)
  (I:Sv X pins σ H s) (r:Sa1 vs us) (h:sp (vs++dvs) H Q E):Sh (model X.prog X.w) X.A (call (.ref f) us) (EP X pins σ Q) X.xe s:=by
 have r2:Sa1 (vs++dvs) (us++ds):=r.append hd
 have hl:(us++ds).length=ps.length:=by rw [<-r2.length];exact F.len _ _ _ _ h
 refine wpAny_call (codeAny_mono (F.run X.A X.stack s H ⟨us,[]⟩ (us++ds) (vs++dvs) Q E hr I.env0 (hb s us I.kIn hl) r2 h) λr s' hq=>?_)
 cases r with
 |error e=>exact hx pins σ H s e s' I hq
 |ok fl=>
  cases fl with
  |ret u=>exact I.after hq
  |next=>exact False.elim hq
  |brk=>exact False.elim hq
  |cont=>exact False.elim hq
theorem Ya2 (F:Sx X.prog X.w X.K X.mg X.base CX k f fd ps sp) (hr:Sam k X.A) (hg:Gl X x) (hm:X.mg x=some (.ref f)) (hk:PySem.W.keepIn X.K (.ref f)=true) (hb:Sb1 X.K fd ps ds) (hd:Sa1 dvs ds) (hx:Jq5 CX X E)
  (ha:PA X (e::es) t) (hdb:(x==("__debug__" :Str))=false:=by decide) (he:starEach (e::es) X.env=(false,eval e X.env)::starEach es X.env:=by rfl) (hpl:(backTo pos (starEach es X.env)).any (·.1)=false:=by rfl):
  PE X (.Call (.Name x p) (e::es) [] pos) (Siu sp dvs E t):=by
 intro pins s σ H Q I h
 refine wpAny_Call_Name_kw (Jpq I hg hm ?_ hdb)
 refine PySem.W.callWith_K (h₀:=X.base) I.ok.mod.kin hk (thn (ha pos pins s σ H _ I h) λus s1 ⟨vs,H1,I1,r,q⟩=>⟨I1.kIn,?_⟩) he hpl
 exact Jss F hr hb hd hx I1 r q
theorem Jlx {pl:Sem Bool} (he:PE X o ta) (c:Cls X.K C) (hm:Jn0 X.K C m f) (F:Sx X.prog X.w X.K X.mg X.base CX k f fd ps sp) (hr:Sam k X.A) (hb:Sb1 X.K fd ps ds) (hd:Sa1 dvs ds) (hx:Jq5 CX X E) (ha:PA X (e::es) t)
  (hst:starEach (e::es) X.env=(false,eval e X.env)::starEach es X.env:=by rfl) (hpl:(backTo pos (starEach es X.env)).any (·.1)=false:=by rfl)
  (ht:eval (.Call (.Attribute o m apos) (e::es) [] pos) X.env=(do
   let ov<-eval o X.env
   standAt apos.atName
   let (f,first)<-holding [ov] (getMethod ov m pl)
   callWith pos f first (backTo pos (starEach (e::es) X.env)) (backToKw pos (keywordEach [] X.env))):=by rfl):
  PE X (.Call (.Attribute o m apos) (e::es) [] pos) (Siv C m sp dvs E ta t):=by
 intro pins s σ H Q I h
 refine PySem.W.methodCall_KW (pl:=pl) (thn (he pins s σ H _ I h) λu s1 zq=>?_) ht
 obtain ⟨x,H1,I1,rx,a,dx,fs,ex,ea,l,q⟩:=zq
 subst ex
 obtain rfl:u=Value.ref a:=rx
 refine Jot I1 ea c hm l ?_
 refine PySem.W.callWith_K (first:=[.ref a]) (h₀:=X.base) I.ok.mod.kin hm.kp (thn (ha pos pins s1 σ H1 _ I1 q) λus s2 ⟨vs,H2,I2,r,q2⟩=>⟨I2.kIn,?_⟩) hst hpl
 exact Jss (us:=.ref a::us) (vs:=.ref a::vs) F hr hb hd hx I2 (.cons rfl r) q2
theorem Jo3 {pl:Sem Bool} (he:PE X o ta) (c:Cls X.K C) (hm:Jn0 X.K C m f) (F:Sx X.prog X.w X.K X.mg X.base CX k f fd ps sp) (hr:Sam k X.A) (hb:Sb1 X.K fd ps ds) (hd:Sa1 dvs ds) (hx:Jq5 CX X E)
  (ht:eval (.Call (.Attribute o m apos) [] [] pos) X.env=(do
   let ov<-eval o X.env
   standAt apos.atName
   let (f,first)<-holding [ov] (getMethod ov m pl)
   callWith pos f first (backTo pos (starEach [] X.env)) (backToKw pos (keywordEach [] X.env))):=by rfl):
  PE X (.Call (.Attribute o m apos) [] [] pos) (Siv C m sp dvs E ta Jva):=by
 intro pins s σ H Q I h
 refine PySem.W.methodCall_KW (pl:=pl) (thn (he pins s σ H _ I h) λu s1 zq=>?_) ht
 obtain ⟨x,H1,I1,rx,a,dx,fs,ex,ea,l,q⟩:=zq
 subst ex
 obtain rfl:u=Value.ref a:=rx
 refine Jot I1 ea c hm l ?_
 exact PySem.W.callWith_K0 (first:=[.ref a]) I1.kIn hm.kp (Jss (us:=[.ref a]) (vs:=[.ref a]) F hr hb hd hx I1 (.cons rfl .nil) q)
structure Mk (K:Si) (C f:S5):Prop where
 makes:PySem.W.makesIn K C=true
 init:Sk K (.ref C) "__init__" =some (some (.ref f))
 fn:PySem.W.isFn K (.ref f)=true
 kp:PySem.W.keepIn K (.ref C)=true
theorem Jzl {pins:List (S5×Obj)} {σ:St} {H:Hp} {s:S7} {Q:VK} {us:List S6} {vs:List V} (M:Mk X.K C f) (F:Sx X.prog X.w X.K X.mg X.base CX k f fd ps sp) (hr:Sam (k+1) X.A) (hb:Sb1 X.K fd ps ds) (hd:Sa1 dvs ds)
  (hx:Jq5 CX X E) (I:Sv X pins σ H s) (r:Sa1 vs us)
  (h:∀x dx,H x=none->H dx=none->dx≠x->sp (.ref x::(vs++dvs)) (upd (upd H dx (.own x)) x (.ins C dx [])) (λv H2=>v= .non/\Q (.ref x) H2) E):
  Sh (model X.prog X.w) X.A (call (.ref C) us) (EP X pins σ Q) X.xe s:=by
 have hq:=h (s.heap.objs.size+1) s.heap.objs.size (I.hok.fresh (Nat.le_succ _)) (I.hok.fresh (yh _)) (yn (ybl _))
 have I2:=Sv.made (C:=C) I
 have r2:Sa1 (V.ref (s.heap.objs.size+1)::(vs++dvs)) (Value.ref (s.heap.objs.size+1)::(us++ds)):=.cons rfl (r.append hd)
 have hl:(Value.ref (s.heap.objs.size+1)::us++ds).length=ps.length:=by
  have e:=r2.length
  rw [F.len _ _ _ _ hq] at e
  exact e.symm
 refine wpAny_call (Jvn (f:=f) I.kIn M.makes M.init (beq_iff_eq.mp M.fn) (codeAny_mono (F.run _ X.stack _ _ ⟨Value.ref (s.heap.objs.size+1)::us,[]⟩ (Value.ref (s.heap.objs.size+1)::(us++ds)) _ _ E (hr.make C us [])
  (I2.env0.make C us []) (hb _ (Value.ref (s.heap.objs.size+1)::us) I2.kIn hl) r2 hq) λr s' hq'=>?_))
 cases r with
 |error e=>exact hx pins σ _ _ e s' I2 hq'
 |ok fl=>
  cases fl with
  |ret u=>
   obtain ⟨v,H',I3,rv,ev,q3⟩:=I2.after hq'
   subst ev
   exact ⟨rv,⟨V.ref (s.heap.objs.size+1),H',I3,rfl,q3⟩⟩
  |next=>exact False.elim hq'
  |brk=>exact False.elim hq'
  |cont=>exact False.elim hq'
theorem Jmq (M:Mk X.K C f) (F:Sx X.prog X.w X.K X.mg X.base CX k f fd ps sp) (hr:Sam (k+1) X.A) (hg:Gl X x) (hm:X.mg x=some (.ref C)) (hb:Sb1 X.K fd ps ds) (hd:Sa1 dvs ds) (hx:Jq5 CX X E)
  (ha:PA X (e::es) t) (hdb:(x==("__debug__" :Str))=false:=by decide) (he:starEach (e::es) X.env=(false,eval e X.env)::starEach es X.env:=by rfl) (hpl:(backTo pos (starEach es X.env)).any (·.1)=false:=by rfl):
  PE X (.Call (.Name x p) (e::es) [] pos) (Snk C sp dvs E t):=by
 intro pins s σ H Q I h
 refine wpAny_Call_Name_kw (Jpq I hg hm ?_ hdb)
 refine PySem.W.callWith_K (h₀:=X.base) I.ok.mod.kin M.kp (thn (ha pos pins s σ H _ I h) λus s1 ⟨vs,H1,I1,r,q⟩=>⟨I1.kIn,?_⟩) he hpl
 exact Jzl M F hr hb hd hx I1 r q
end
section
variable {X:Cx} {CX:CXT} {k:Nat} {f C:S5} {fd:Sc} {ps ks:List Str} {sp:Sp} {E:XK} {x m:Str} {p pos apos kpos:Pos} {e o:Expr} {es:List Expr} {kws:List Keyword} {te ta:TE} {t tk:TA} {nm:Option Str}
variable {g:List S6->List S6->List S6} {gV:List V->List V->List V}
end
structure Jky (N P:List Str) (sc:Scope):Prop where
 kind:sc.kind= .function
 co:sc.isCoroutine=false
 gen:sc.isGenerator=false
 nd:N.Nodup
 pre:N.take P.length=P
 par:∀x∈P,sc.names.lookup x=some .local\/sc.names.lookup x=some .cell
 nofree:∀y∈sc.names,y.2≠ .free
theorem Jtq {kindOf:Str->Option NameKind} {x:Str}:∀{binds:List (Str×S6)} {m:Str->Option S6},(∀v,(x,v)∉binds)->bindL kindOf binds m x=m x
 | [],_,_=>rfl
 | (n,v) :: r,m,h=>by
  unfold bindL
  rw [Jtq λw hw=>h w (yae _ hw)]
  split
  ·have:x≠n:=by rintro rfl;exact h v yao
   simp [this]
  ·rfl
theorem Jtp {kindOf:Str->Option NameKind} {x:Str}:∀{binds:List (Str×S6)} {m:Str->Option S6},(∀v,(x,v)∉binds)->bindC kindOf binds m x=m x
 | [],_,_=>rfl
 | (n,v) :: r,m,h=>by
  unfold bindC
  rw [Jtp λw hw=>h w (yae _ hw)]
  split
  ·rfl
  ·have:x≠n:=by rintro rfl;exact h v yao
   simp [this]
theorem Jri {kindOf:Str->Option NameKind} {x:Str} {v:S6}:∀{P:List Str} {vs:List S6} {i:Nat} {m:Str->Option S6},P.Nodup->P[i]?=some x->vs[i]?=some v->kindOf x=some .local->
  bindL kindOf (P.zip vs) m x=some v
 | [],_,_,_,_,h,_,_=>by simp at h
 |_::_,[],_,_,_,_,h,_=>by simp at h
 |p::P,w::vs,0,m,nd,h1,h2,hk=>by
  simp at h1 h2;subst h1;subst h2
  show bindL kindOf ((p,w)::P.zip vs) m p=_
  unfold bindL
  rw [Jtq λv hv=>(yax.mp nd).1 (ybe hv).1,if_pos hk]
  simp
 |p::P,w::vs,i+1,m,nd,h1,h2,hk=>by
  show bindL kindOf ((p,w)::P.zip vs) m x=_
  unfold bindL
  exact Jri (i:=i) (yax.mp nd).2 (by simpa using h1) (by simpa using h2) hk
theorem Jrh {kindOf:Str->Option NameKind} {x:Str} {v:S6}:∀{P:List Str} {vs:List S6} {i:Nat} {m:Str->Option S6},P.Nodup->P[i]?=some x->vs[i]?=some v->kindOf x≠some .local->
  bindC kindOf (P.zip vs) m x=some v
 | [],_,_,_,_,h,_,_=>by simp at h
 |_::_,[],_,_,_,_,h,_=>by simp at h
 |p::P,w::vs,0,m,nd,h1,h2,hk=>by
  simp at h1 h2;subst h1;subst h2
  show bindC kindOf ((p,w)::P.zip vs) m p=_
  unfold bindC
  rw [Jtp λv hv=>(yax.mp nd).1 (ybe hv).1,if_neg hk]
  simp
 |p::P,w::vs,i+1,m,nd,h1,h2,hk=>by
  show bindC kindOf ((p,w)::P.zip vs) m x=_
  unfold bindC
  exact Jrh (i:=i) (yax.mp nd).2 (by simpa using h1) (by simpa using h2) hk
def start (N:List Str) (vs:List V):St:=vs.map some++List.replicate (N.length - vs.length) none
def Jue (CX:CXT) (P:Sb) (w:Sd) (K:Si) (mg:Str->Option S6) (base:Sg) (N:List Str) (qual:Str) (scope:Scope) (f:S5) (cd:S6) (A:Se) (outer:List Env) (s:S7) (H:Hp) (E:XK):Cx where
 prog:=P
 w:=w
 K:=K
 mg:=mg
 base:=base
 A:=A.deeper (envOfC qual scope s.heap.objs.size f cd)
 N:=N
 s₀:=s
 H₀:=H
 env:=envOfC qual scope s.heap.objs.size f cd
 outer:=outer
 stack:=envOfC qual scope s.heap.objs.size f cd::outer
 ex:=[]
 calm:=true
 fn:=λ_=>true
 pn:=[]
 xe:=λe s'=>Sh (model P w) (A.deeper (envOfC qual scope s.heap.objs.size f cd)) (leaving (envOfC qual scope s.heap.objs.size f cd) e) (λ_ s''=>CX outer H s E e s'') (λe' s''=>CX outer H s E e' s'') s'
theorem Jod {sc:Scope} {n:Nat} {x:Str} (h:sc.names.lookup x=some .cell):∃c,(cellsFrom n sc.names []).lookup x=some c:=by
 have q:=PySem.W.cellsFrom_some sc.names n [] (.inl h)
 exact ybf.mp q
theorem Jtw {CX:CXT} {P:Sb} {w:Sd} {K:Si} {mg:Str->Option S6} {base:Sg} {N ps:List Str} {qual:Str} {scope:Scope} {f:S5} {cd:S6} {A:Se} {outer:List Env} {s s1:S7} {H:Hp} {E:XK} {us:List S6} {vs:List V}
  (S:Jky N ps scope) (hd:A.handled=none) (e0:Sec P w K mg base A outer s H) (hl:vs.length=ps.length) (r:Sa1 vs us)
  (x:InCallC s s.heap.objs.size (bindL (envOfC qual scope s.heap.objs.size f cd).kindOf (ps.zip us) λ_=>none) (cellsFrom (s.heap.objs.size+1) scope.names []) (bindC (envOfC qual scope s.heap.objs.size f cd).kindOf (ps.zip us) λ_=>none) s1):
  Sv (Jue CX P w K mg base N qual scope f cd A outer s H E) [] (start N vs) H s1:=by
 have hpl:ps.length<=N.length:=by have:=congrArg ybb S.pre;rw [yx] at this;omega
 obtain ⟨h1,tk,rfl,hk⟩:=x.done
 have noA:∀b:S5,b∉(Jue CX P w K mg base N qual scope f cd A outer s H E).ex:=λb z=>absurd (show b∈([]:List S5) from z) (by simp)
 refine ⟨⟨e0.mod,S.kind,rfl,rfl,yh _,λy z c h1 h2=>?_,λy hy=>?_,λy c _ h=>?_,λ_=>hd,Around.frames_deeper e0.frames,.inr ⟨rfl,rfl⟩,λb z=>absurd z (noA b),e0.bs,e0.bsz,λb _ _=>noA b,λb z=>absurd z (noA b),e0.funs,e0.frf⟩,
  rfl,e0.bare,Un.kept hk,⟨_,x.toInCall.ns,λi y v h1 h2 h3=>?_⟩,λy c h=>⟨_,x.cell y c h⟩,e0.hok.fresh (yh _),λy c h=>?_,λp hp=>absurd (show p∈([]:List (S5×Obj)) from hp) (by simp),e0.hok.kept hk,?_⟩
 ·exact name_of_addr x.apart (PySem.mem_of_lookup h1) (PySem.mem_of_lookup h2)
 ·have hy:scope.names.lookup y=some .cell\/scope.names.lookup y=some .free:=hy
  rcases hy with hy|hy
  ·exact Jod hy
  ·exact absurd rfl (S.nofree _ (PySem.mem_of_lookup hy))
 ·exact yav (x.above y c (PySem.mem_of_lookup h))
 ·have hi:i < vs.length:=by
   unfold start at h2
   by_cases hi:i < vs.length
   ·exact hi
   ·rw [ybc (by simpa using hi)] at h2
    rw [List.getElem?_replicate] at h2
    split at h2 <;> cases h2
  have ha:vs[i]?=some v:=by
   unfold start at h2
   rw [ybg (by simpa using hi),yk] at h2
   cases e:vs[i]? with
   |none=>rw [e] at h2;cases h2
   |some a=>rw [e] at h2;cases h2;rfl
  obtain ⟨u,hu,rv⟩:=r.get ha
  have hp:ps[i]?=some y:=by
   rw [<-S.pre,ybm (by omega)];exact h1
  have ndP:ps.Nodup:=by rw [<-S.pre];exact S.nd.sublist (List.take_sublist _ _)
  refine ⟨u,rv,?_⟩
  rcases S.par y (yo hp) with k|k
  ·exact .inl ⟨k,Jri ndP hp hu k⟩
  ·obtain ⟨c,e⟩:=Jod (n:=s.heap.objs.size+1) k
   refine .inr ⟨.inl k,c,e,?_⟩
   have q:=x.cell y c e
   rw [Jrh ndP hp hu (by show scope.names.lookup y≠_;rw [k];decide)] at q
   exact q
 ·exact .inl (e0.hok.fresh (yav (x.above y c (PySem.mem_of_lookup h))))
 ·unfold start
  show _=N.length
  rw [yal,yf,ybn]
  omega
theorem Sim {CX:CXT} {P:Sb} {w:Sd} {K:Si} {mg:Str->Option S6} {base:Sg} {k:Nat} {f:S5} {name qual:Str} {params:Arguments} {body:List Sf} {scope:Scope} {dV kV doc pm cdv ct oc:S6} {an od:Option S5}
  {osl:Array (Option S6)} {N ps:List Str} {sp:Sp} (lk:K.lookup f=some ⟨oc,od,.func (PySem.W.fnOf name qual params body scope dV kV doc pm an cdv ct),osl⟩) (hcd:PySem.W.codeIn K cdv qual=true) (S:Jky N ps scope)
  (len:∀vs H Q E,sp vs H Q E->vs.length=ps.length)
  (hbody:∀(A:Se) (outer:List Env) (s:S7) (H:Hp) (vs:List V) (Q:VK) (E:XK),Sam k (A.deeper (envOfC qual scope s.heap.objs.size f cdv))->sp vs H Q E->
   ∃t,PSs (Jue CX P w K mg base N qual scope f cdv A outer s H E) body t/\t {nx:=λ_ H'=>Q .non H',rt:=Q} (start N vs) H):
  Sx P w K mg base CX (k+1) f (PySem.W.fnOf name qual params body scope dV kV doc pm an cdv ct) ps sp:=by
 refine ⟨len,λA outer s H args us vs Q E hr e0 hb r hsp=>?_⟩
 have hl:=len _ _ _ _ hsp
 have KX:K.In s.heap:=e0.mod.kin.keeps λb o e=>(e0.bs b o e).1
 have lim:s.heap.NoLimit:=e0.mod.nolimit.keeps λb o e=>(e0.bs b o e).1
 have hkind:∀y∈ps.zip us,scope.names.lookup y.1=some .local\/(scope.names.lookup y.1=some .cell/\((cellsFrom (s.heap.objs.size+1) scope.names []).lookup y.1).isSome=true):=λ⟨n,v⟩ hy=>by
  rcases S.par n (ybe hy).1 with q|q
  ·exact .inl q
  ·exact .inr ⟨q,PySem.W.cellsFrom_some _ _ _ (.inl q)⟩
 refine codeAny_call_function hr.depth (KX _ _ lk) rfl S.co S.gen rfl (PySem.W.codeRec_of KX hcd) (hb _ _ _ _ ?_)
 refine wpAny_newFunctionEnv_cells S.kind hkind λenv he s1 x=>?_
 subst he
 refine ⟨lim.keeps x.toInCall.keep,codeAny_func ?_⟩
 obtain ⟨t,ht,hq⟩:=hbody A outer s H vs Q E (hr.deeper _) hsp
 have I:Sv (Jue CX P w K mg base N qual scope f cdv A outer s H E) [] (start N vs) H s1:=Jtw S hr.hd e0 hl r x
 refine wpAny_mono (ht [] s1 (start N vs) H _ I hq) (λfl s' hs=>?_) λe s' hs=>hs
 have fin:∀{σ':St} {H':Hp} {v:V} {u:S6},Sv (Jue CX P w K mg base N qual scope f cdv A outer s H E) [] σ' H' s'->Sa7 v u->Q v H'->CE outer P w H s Q u s':=
  λ{σ' H' v u} J rv q=>⟨v,H',J.os,J.bare,J.base,J.hok,rv,q⟩
 cases fl with
 |ret u=>
  obtain ⟨v,σ',H',J,rv,q⟩:=hs
  exact fin J rv q
 |next=>
  obtain ⟨σ',H',J,q⟩:=hs
  exact fin (v:=V.non) (u:=Value.none) J rfl q
 |brk=>
  obtain ⟨_,_,_,q⟩:=hs
  exact False.elim q
 |cont=>
  obtain ⟨_,_,_,q⟩:=hs
  exact False.elim q
section
variable {X:Cx} {x:Str} {p pos:Pos} {e:Expr} {es:List Expr} {t:TA} {id T:String} {r:List V->Hp->VK->Prop}
def tCB (r:List V->Hp->VK->Prop) (t:TA):TE:=λσ H Q=>t σ H λvs H1=>r vs H1 Q
theorem Jl0 (hc:Jng X (.builtin id) r) (hg:Gl X x) (hm:X.mg x=none) (hv:bootBuiltins x=some (.builtin id)) (ha:PA X (e::es) t) (hn:x≠"__name__" :=by decide) (hdb:(x==("__debug__" :Str))=false:=by decide)
  (he:starEach (e::es) X.env=(false,eval e X.env)::starEach es X.env:=by rfl) (hpl:(backTo pos (starEach es X.env)).any (·.1)=false:=by rfl):PE X (.Call (.Name x p) (e::es) [] pos) (tCB r t):=by
 intro pins s σ H Q I h
 refine wpAny_Call_Name_kw (Jp3 I hg hm hv ?_ hn hdb)
 exact PyProof.Rows.callWith_builtin1 (thn (ha pos pins s σ H _ I h) λus s1 ⟨vs,H1,I1,r1,q1⟩=>hc pins s1 σ H1 vs us Q I1 r1 q1) he hpl
theorem Jln (hc:Jng X (.type T) r) (hg:Gl X x) (hm:X.mg x=none) (hv:bootBuiltins x=some (.type T)) (ha:PA X (e::es) t) (hn:x≠"__name__" :=by decide) (hdb:(x==("__debug__" :Str))=false:=by decide)
  (he:starEach (e::es) X.env=(false,eval e X.env)::starEach es X.env:=by rfl) (hpl:(backTo pos (starEach es X.env)).any (·.1)=false:=by rfl):PE X (.Call (.Name x p) (e::es) [] pos) (tCB r t):=by
 intro pins s σ H Q I h
 refine wpAny_Call_Name_kw (Jp3 I hg hm hv ?_ hn hdb)
 exact PyProof.Rows.callWith_type1 (thn (ha pos pins s σ H _ I h) λus s1 ⟨vs,H1,I1,r1,q1⟩=>hc pins s1 σ H1 vs us Q I1 r1 q1) he hpl
end
end L2
namespace HT
open PySem PyProof.Rows
section
open PySem.SeqAt
open PySem.AutoSeq1 (wpAny_loadPart')
open PySem.MeetsSeq PySem.MeetsSeq2 PySem.MeetsSeq3
end
section
variable {prog:Sb} {w:Sd} {A:Se} {E:S6->S7->Prop} {s:S7}
def sIx (n d:Nat):Option Int->Nat
 |none=>d
 |some v=>if v < 0 then (v+(n:Int)).toNat else min v.toNat n
theorem sIx_none (n d:Nat):sIx n d none=d:=rfl
theorem sIx_nat (n d k:Nat):sIx n d (some (k:Int))=min k n:=by
 show (if (k:Int) < 0 then ((k:Int)+(n:Int)).toNat else min (k:Int).toNat n)=min k n
 rw [if_neg (by omega),Int.toNat_natCast]
end
end HT
namespace L2
open PySem PySem.Spec PyProof.Rows
abbrev TO:=St->Hp->(Option Int->Hp->Prop)->Prop
def PO (X:Cx) (e:Option Expr) (t:TO):Prop:=
 ∀(pins:List (S5×Obj)) (s:S7) (σ:St) (H:Hp) (Q:Option Int->Hp->Prop),Sv X pins σ H s->t σ H Q->
  Sh (model X.prog X.w) X.A (evalPart e X.env) (λu s'=>∃o H',Sv X pins σ H' s'/\IsPart u o/\Q o H') X.xe s
def Yav:TO:=λ_ H Q=>Q none H
def Snl (t:TE):TO:=λσ H Q=>t σ H λx H1=>∃i,x= .int i/\Q (some i) H1
section
variable {X:Cx} {e:Expr} {te:TE} {lo hi:Option Expr} {tl th:TO} {pos p2:Pos}
theorem Jnf:PO X none Yav:=by
 intro pins s σ H Q I h
 rw [evalPart_none]
 exact S9 ⟨none,H,I,.none,h⟩
theorem Jmw (h:PE X e te):PO X (some e) (Snl te):=by
 intro pins s σ H Q I hw
 rw [evalPart_some]
 refine thn (h pins s σ H _ I hw) λu s1 zq=>?_
 obtain ⟨x,H1,I1,r1,q1⟩:=zq
 obtain ⟨i,rfl,q⟩:=q1
 obtain ⟨t,rfl⟩:=r1
 exact ⟨some i,H1,I1,.int i t,q⟩
def SlR (X:Cx) (r:V->Option Int->Option Int->Hp->VK->Prop):Prop:=
 ∀(pins:List (S5×Obj)) (s:S7) (σ:St) (H:Hp) (x:V) (v vl vu:S6) (lo hi:Option Int) (sl:S5) (Q:VK),Sv X pins σ H s->Sa7 x v->s.heap.IsSliceOf sl vl vu .none->IsPart vl lo->IsPart vu hi->r x lo hi H Q->
  ∃T id,typeLookup (.type T) "__getitem__" =pure (some (.builtin id))/\s.TypeIs v T/\Sh (model X.prog X.w) X.A (getItem v (.ref sl)) (EP X pins σ Q) X.xe s
def tSl (r:V->Option Int->Option Int->Hp->VK->Prop) (te:TE) (tl th:TO):TE:=λσ H Q=>te σ H λx H1=>tl σ H1 λl H2=>th σ H2 λu H3=>r x l u H3 Q
theorem Jmn {r:V->Option Int->Option Int->Hp->VK->Prop} (hr:SlR X r) (he:PE X e te) (hl:PO X lo tl) (hu:PO X hi th):PE X (.Subscript e (.Slice lo hi none p2) pos) (tSl r te tl th):=by
 intro pins s σ H Q I h
 refine Subscript_ (thn (he pins s σ H _ I h) λv s1 zq=>?_)
 obtain ⟨x,H1,I1,r1,q1⟩:=zq
 refine wpAny_Slice (thn (hl pins s1 σ H1 _ I1 q1) λvl s2 ⟨l,H2,I2,pl,q2⟩=>thn (hu pins s2 σ H2 _ I2 q2) λvu s3 zq=>?_)
 obtain ⟨u,H3,I3,pu,q3⟩:=zq
 rw [evalPart_none]
 refine S9 ?_
 have I4:Sv X pins σ H3 {s3 with heap:=s3.heap.push {cls:=.type "slice",data:=.fields #[vl,vu,.none]}}:=I3.kept (t':=s3.toks) λb ob q=>yj _ q
 obtain ⟨T,id,hT,ht,hg⟩:=hr pins {s3 with heap:=s3.heap.push {cls:=.type "slice",data:=.fields #[vl,vu,.none]}} σ H3 x v vl vu l u s3.heap.objs.size Q I4 r1 (Heap.IsSliceOf.new ..) pl pu q3
 show Sh (model X.prog X.w) X.A (subscriptTail e (.Slice lo hi none p2) v (.ref s3.heap.objs.size)) (EP X pins σ Q) X.xe {s3 with heap:=s3.heap.push {cls:=.type "slice",data:=.fields #[vl,vu,.none]}}
 exact tail_any (ops:=[.ref s3.heap.objs.size,v]) ht hT hg (by with_unfolding_all rfl)
def Jmj (xs:List V) (lo hi:Option Int):List V:=(xs.drop (HT.sIx xs.length 0 lo)).take (HT.sIx xs.length xs.length hi - HT.sIx xs.length 0 lo)
theorem Jvj (xs:List V) (lo hi:Option Int):(Jmj xs lo hi).length<=xs.length:=by
 unfold Jmj
 rw [yx,yay]
 omega
end
def ixN (n:Nat) (i:Int):Option Nat:=if 0<=i then (if i < n then some i.toNat else none) else if -(n:Int)<=i then some (i+n).toNat else none
def atI {α:Type} (xs:List α) (i:Int):Option α:=(ixN xs.length i).bind λj=>xs[j]?
theorem Jxd {n:Nat} {i:Int} {j:Nat} (h:ixN n i=some j):seqIndex? i n=some j/\j < n/\ -(n:Int)<=i/\i < n:=by
 unfold ixN at h
 by_cases h0:0<=i
 ·rw [if_pos h0] at h
  by_cases h1:i < n
  ·rw [if_pos h1] at h
   have e:i.toNat=j:=yy.inj h
   exact ⟨by rw [seqIndex_of h0 h1,e],by omega,by omega,h1⟩
  ·rw [if_neg h1] at h;cases h
 ·rw [if_neg h0] at h
  by_cases h1: -(n:Int)<=i
  ·rw [if_pos h1] at h
   have e:(i+n).toNat=j:=yy.inj h
   exact ⟨by rw [seqIndex_neg (by omega) h1,e],by omega,h1,by omega⟩
  ·rw [if_neg h1] at h;cases h
theorem Ju8 {α:Type} {xs:List α} {i:Int} {v:α} (h:atI xs i=some v):∃j,seqIndex? i xs.length=some j/\xs[j]?=some v/\j < xs.length/\ -(xs.length:Int)<=i/\i < xs.length:=by
 unfold atI at h
 cases e:ixN xs.length i with
 |none=>rw [e] at h;cases h
 |some j=>
  rw [e] at h
  obtain ⟨h1,h2,h3,h4⟩:=Jxd e
  exact ⟨j,h1,h,h2,h3,h4⟩
theorem Jnb {α:Type} {xs:List α} {j:Nat} {v:α} (h:xs[j]?=some v):atI xs (j:Int)=some v:=by
 have hj:j < xs.length:=(yw.mp h).1
 have e:ixN xs.length (j:Int)=some j:=by
  unfold ixN
  rw [if_pos (by omega),if_pos (by omega)];simp
 unfold atI;rw [e];exact h
def Yi (b:Expr):Prop:=∀o i,subscripted b false o i=operate [o,i] (getItem o i)
def IxR (X:Cx) (r:R2):Prop:=
 ∀(value slice:Expr) (pins:List (S5×Obj)) (s:S7) (σ:St) (H:Hp) (x y:V) (v u:S6) (Q:VK),Sv X pins σ H s->Sa7 x v->Sa7 y u->r x y H Q->
  subscripted slice false v u=operate [v,u] (getItem v u)->Sh (model X.prog X.w) X.A (subscriptTail value slice v u) (EP X pins σ Q) X.xe s
def MtR (X:Cx) (id:String) (r:V->List V->Hp->VK->Prop):Prop:=
 ∀(pins:List (S5×Obj)) (s:S7) (σ:St) (H:Hp) (x:V) (xs:List V) (v:S6) (us:List S6) (Q:VK),Sv X pins σ H s->Sa7 x v->Sa1 xs us->r x xs H Q->
  Sh (model X.prog X.w) X.A (call (.builtin id) (v::us)) (EP X pins σ Q) X.xe s
section
variable {X:Cx} {a b:Expr} {ta tb:TE} {pos:Pos}
theorem Jlf {r:R2} (hr:IxR X r) (ha:PE X a ta) (hb:PE X b tb) (hs:Yi b):PE X (.Subscript a b pos) (tOp r ta tb):=by
 intro pins s σ H Q I h
 exact Subscript_ (Sjk ha hb I h λv u s2 x y H2 I2 rx ry q=>hr a b pins s2 σ H2 x y v u Q I2 rx ry q (hs _ _))
def Smy (K:Si):R2:=λx y H Q=>∃p xs i v,x= .ref p/\y= .int i/\Sw K H p xs/\atI xs i=some v/\Q v H
def Srf (K:Si):R2:=λx y H Q=>∃p xs i v,x= .ref p/\y= .int i/\SqT K H p xs/\atI xs i=some v/\Q v H
def Sre:R2:=λx y H Q=>∃z i c,x= .str z/\y= .int i/\z.length<=Sa/\atI z.cps.toList i=some c/\Q (.str ⟨#[c]⟩) H
theorem Jl6:IxR X (Smy X.K):=by
 intro value slice pins s σ H x y v u Q I rx ry h hs
 obtain ⟨p,xs,i,z,rfl,rfl,hq,he,q⟩:=h
 cases rx
 obtain ⟨t,rfl⟩:=ry
 obtain ⟨its,r,pl,hz⟩:=I.list hq
 obtain ⟨j,h1,h2,h3,h4,h5⟩:=Ju8 he
 obtain ⟨w,ew,rw'⟩:=r.get h2
 have hl:=r.length
 have hn:=Jro
 have fin:EP X pins σ Q w s:=⟨z,H,I,rw',q⟩
 by_cases h0:0<=i
 ·have hj:i.toNat=j:=by
   rw [seqIndex_of h0 h5] at h1
   exact yy.inj h1
  exact item_listR pl.isList h0 (by omega) (by rw [hj];simpa using ew) fin hs
 ·have hj:(i+(its.toArray.size:Int)).toNat=j:=by
   rw [seqIndex_neg (by omega) h4] at h1
   rw [yu,<-hl]
   exact yy.inj h1
  exact subscriptTail_builtinR (x:=w) pl.isList.typeIs slot_list_getitem.lookup
   (wpAny_getItem_list_neg (Q:=λr s'=>r=w/\EP X pins σ Q r s') pl.isList (by omega) (by rw [yu] <;> omega) (by omega) (by rw [hj];simpa using ew) ⟨rfl,fin⟩) hs
theorem Jsi:IxR X (Srf X.K):=by
 intro value slice pins s σ H x y v u Q I rx ry h hs
 obtain ⟨p,xs,i,z,rfl,rfl,hq,he,q⟩:=h
 cases rx
 obtain ⟨t,rfl⟩:=ry
 obtain ⟨its,r,pl,hz⟩:=I.tuple hq
 obtain ⟨j,h1,h2,h3,h4,h5⟩:=Ju8 he
 obtain ⟨w,ew,rw'⟩:=r.get h2
 have hl:=r.length
 have hn:=Jro
 have fin:EP X pins σ Q w s:=⟨z,H,I,rw',q⟩
 exact subscriptTail_builtinR (x:=w) pl.typeIs slot_tuple_getitem.lookup
  (getItem_tuple (j:=j) (Q:=λr s'=>r=w/\EP X pins σ Q r s') pl (by omega) (by omega) (by rw [yu,<-hl];exact h1) (by simpa using ew) ⟨rfl,fin⟩) hs
theorem Jwk:IxR X Sre:=by
 intro value slice pins s σ H x y v u Q I rx ry h hs
 obtain ⟨z,i,c,rfl,rfl,hz,he,q⟩:=h
 obtain ⟨t,rfl⟩:=rx
 obtain ⟨t',rfl⟩:=ry
 obtain ⟨j,h1,h2,h3,h4,h5⟩:=Ju8 he
 have hl:z.cps.toList.length=z.length:=by simp [Str.length]
 rw [hl] at h1 h4 h5
 have hn:=Jro
 exact tail_any (typeIs_str s z t) slot_str_getitem.lookup (getItem_str (c:=c) (by
  have e1:decide (i < -(2^63:Int))=false:=decide_eq_false (by omega)
  have e2:decide (i≥2^63)=false:=decide_eq_false (by omega)
  rw [e1,e2,Bool.or_false]) (by rw [h1];simpa using h2) ⟨.str ⟨#[c]⟩,H,I.tok _,⟨_,rfl⟩,q⟩) hs
theorem Jwo (its:List S6) (n j:Nat) (u:S6):Obj.mapSeq (·.setIfInBounds j u) {cls:=.type "list",data:=.seq its.toArray n}={cls:=.type "list",data:=.seq (its.set j u).toArray n}:=by
 simp [Obj.mapSeq]
theorem Sv.lst {pins:List (S5×Obj)} {σ:St} {H:Hp} {s:S7} {p:S5} {xs:List V} (I:Sv X pins σ H s) (h:H p=some (.lst xs)):
  ∃(its:List S6) (n:Nat),Sa1 xs its/\s.heap.get? p=some {cls:=.type "list",data:=.seq its.toArray n}/\xs.length<=Sa:=by
 obtain ⟨z,its,n,r,e⟩:=I.hok p _ h
 exact ⟨its,n,r,e,z⟩
theorem Sv.lstUpd {pins:List (S5×Obj)} {σ:St} {H:Hp} {s:S7} {p:S5} {xs ys:List V} {its its':List S6} {n n':Nat} {f:Obj->Obj} (I:Sv X pins σ H s) (h:H p=some (.lst xs))
  (ho:s.heap.get? p=some {cls:=.type "list",data:=.seq its.toArray n}) (hf:f {cls:=.type "list",data:=.seq its.toArray n}={cls:=.type "list",data:=.seq its'.toArray n'}) (r:Sa1 ys its') (hz:ys.length<=Sa) (t:Nat):
  Sv X pins σ (upd H p (.lst ys)) {s with heap:=s.heap.update p f,toks:=t}:=by
 have e:(s.heap.update p f).get? p=some {cls:=.type "list",data:=.seq its'.toArray n'}:=by
  rw [ybh f ho (by rw [hf] <;> rfl),hf]
 refine I.write (x:=p) (e:=p) (by rw [h];trivial) (.inl rfl) (λb u hb q=>(yaz _ _ (ym hb)).trans q) ⟨_,e⟩ ?_
 exact ⟨hz,its',n',r,e⟩
def Sn0:V->V->V->Hp->(Hp->Prop)->Prop:=λo i v H Q=>∃p xs k j,o= .ref p/\i= .int k/\H p=some (.lst xs)/\ixN xs.length k=some j/\Q (upd H p (.lst (xs.set j v)))
theorem Jw6:Smh X Sn0:=by
 intro pins s σ H o i v ov iv u Q I ro ri rv h
 obtain ⟨p,xs,k,j,rfl,rfl,hp,hj,q⟩:=h
 cases ro
 obtain ⟨t,rfl⟩:=ri
 obtain ⟨its,n,r,ho,hz⟩:=I.lst hp
 obtain ⟨h1,h2,h3,h4⟩:=Jxd hj
 have hl:=r.length
 have hn:=Jro
 have I':Sv X pins σ (upd H p (.lst (xs.set j v))) {s with heap:=s.heap.update p (Obj.mapSeq (·.setIfInBounds j u))}:=
  I.lstUpd hp ho (Jwo its n j u) (r.set rv j) (by rw [List.length_set];exact hz) s.toks
 by_cases h0:0<=k
 ·have hk:k.toNat=j:=by
   rw [seqIndex_of h0 h4] at h1
   exact yy.inj h1
  exact PySem.W.ki_setAt ho h0 (by omega) (by rw [yu,<-hl];exact h4) (by rw [hk];exact ⟨_,I',q⟩)
 ·have hk:(k+(its.toArray.size:Int)).toNat=j:=by
   rw [seqIndex_neg (by omega) h3] at h1
   rw [yu,<-hl]
   exact yy.inj h1
  exact PySem.W.ki_setBack ho (by omega) (by rw [yu,<-hl];exact h3) (by omega) (by rw [hk];exact ⟨_,I',q⟩)
theorem Jv7 (lo hi:Option Int) (n:Nat):(sliceBounds lo hi none n).1=((HT.sIx n 0 lo:Nat):Int)/\(sliceBounds lo hi none n).2.1=((HT.sIx n n hi:Nat):Int)/\(sliceBounds lo hi none n).2.2=1:=by
 refine ⟨?_,?_,rfl⟩
 ·cases lo with
  |none=>simp [sliceBounds,HT.sIx]
  |some i=>
   simp only [sliceBounds,HT.sIx,Option.getD_none,show (1:Int) > 0 by decide,if_true]
   by_cases h:i < 0
   ·simp only [h,if_true] <;> omega
   ·simp only [h,if_false] <;> omega
 ·cases hi with
  |none=>simp [sliceBounds,HT.sIx]
  |some i=>
   simp only [sliceBounds,HT.sIx,Option.getD_none,show (1:Int) > 0 by decide,if_true]
   by_cases h:i < 0
   ·simp only [h,if_true] <;> omega
   ·simp only [h,if_false] <;> omega
theorem Jtn (its:List S6) (lo hi:Option Int):slicePick its.toArray lo hi none=((its.drop (HT.sIx its.length 0 lo)).take (HT.sIx its.length its.length hi - HT.sIx its.length 0 lo)).toArray:=by
 obtain ⟨h1,h2,h3⟩:=Jv7 lo hi its.toArray.size
 unfold slicePick
 rw [h1,h2,h3]
 simp only [sliceRange_one,pick_run,yu] <;> rfl
def Srg (K:Si):V->Option Int->Option Int->Hp->VK->Prop:=λx lo hi H Q=>∃a xs,x= .ref a/\Sw K H a xs/\∀p,H p=none->Q (.ref p) (upd H p (.lst (Jmj xs lo hi)))
theorem Jn4:SlR X (Srg X.K):=by
 intro pins s σ H x v vl vu lo hi sl Q I rx hs pl pu h
 obtain ⟨a,xs,rfl,hx,q⟩:=h
 cases rx
 obtain ⟨its,r,ht,hz⟩:=I.list hx
 have hlen:=r.length
 refine ⟨"list",_,slot_list_getitem.lookup,ht.isList.typeIs,?_⟩
 refine wpAny_getItem_list_slice ht.isList hs pl pu .none (by simp) ?_ (by rw [yu] <;> omega)
 rw [Jtn,<-hlen]
 refine ⟨.ref s.heap.objs.size,_,I.laid (t':=s.toks) (o:=.lst (Jmj xs lo hi)) (λb ob q=>yj _ q) (yh _) ?_,rfl,q _ (I.hok.fresh (yh _))⟩
 exact ⟨yz (Jvj xs lo hi) hz,_,0,(r.drop (HT.sIx xs.length 0 lo)).take (HT.sIx xs.length xs.length hi - HT.sIx xs.length 0 lo),yr _ rfl⟩
def Jpy:V->Bool
 | .non=>true
 | .bl _=>true
 | .int _=>true
 | .str _=>true
 |_=>false
def eqV:V->V->Bool
 | .non,.non=>true
 | .bl a,.bl b=>a==b
 | .bl a,.int b=>(if a then 1 else 0)==b
 | .int a,.bl b=>a==(if b then 1 else 0)
 | .int a,.int b=>a==b
 | .str a,.str b=>a==b
 |_,_=>false
theorem Sjs {A:Se} {s:S7} {y x:V} {u v:S6} (ry:Sa7 y u) (rx:Sa7 x v) (fy:Jpy y=true) (fx:Jpy x=true):SeqAt.EqAt A s u v (eqV y x):=by
 cases y with
 |non=>
  cases ry
  cases x with
  |non=>cases rx;exact SeqAt.EqAt.same _
  |bl b=>cases rx;exact SeqAt.EqAt.none_bool b
  |int b=>obtain ⟨t,rfl⟩:=rx;exact SeqAt.EqAt.none_int b t
  |str b=>obtain ⟨t,rfl⟩:=rx;exact SeqAt.EqAt.none_str b t
  |_=>exact absurd (show false=true from fx) yv
 |bl a=>
  cases ry
  cases x with
  |non=>cases rx;exact SeqAt.EqAt.bool_none a
  |bl b=>cases rx;exact SeqAt.EqAt.bool_bool a b
  |int b=>obtain ⟨t,rfl⟩:=rx;exact SeqAt.EqAt.bool_int a b t
  |str b=>obtain ⟨t,rfl⟩:=rx;exact SeqAt.EqAt.bool_str a b t
  |_=>exact absurd (show false=true from fx) yv
 |int a=>
  obtain ⟨t',rfl⟩:=ry
  cases x with
  |non=>cases rx;exact SeqAt.EqAt.int_none a t'
  |bl b=>cases rx;exact SeqAt.EqAt.int_bool a t' b
  |int b=>obtain ⟨t,rfl⟩:=rx;exact SeqAt.EqAt.int_int a t' b t
  |str b=>obtain ⟨t,rfl⟩:=rx;exact SeqAt.EqAt.int_str a t' b t
  |_=>exact absurd (show false=true from fx) yv
 |str a=>
  obtain ⟨t',rfl⟩:=ry
  cases x with
  |non=>cases rx;exact SeqAt.EqAt.str_none a t'
  |bl b=>cases rx;exact SeqAt.EqAt.str_bool a t' b
  |int b=>obtain ⟨t,rfl⟩:=rx;exact SeqAt.EqAt.str_int a t' b t
  |str b=>obtain ⟨t,rfl⟩:=rx;exact SeqAt.EqAt.str_str a t' b t
  |_=>exact absurd (show false=true from fx) yv
 |_=>exact absurd (show false=true from fy) yv
def eqU (x:V) (u:S6):Bool:=match u with
 | .none=>eqV .non x
 | .bool b=>eqV (.bl b) x
 | .int i _=>eqV (.int i) x
 | .str z _=>eqV (.str z) x
 |_=>false
theorem Jyv {x y:V} {u:S6} (r:Sa7 y u) (f:Jpy y=true):eqU x u=eqV y x:=by
 cases y with
 |non=>cases r;rfl
 |bl b=>cases r;rfl
 |int i=>obtain ⟨t,rfl⟩:=r;rfl
 |str z=>obtain ⟨t,rfl⟩:=r;rfl
 |_=>exact absurd (show false=true from f) yv
theorem Jqs {x:V}:∀{xs:List V} {us:List S6},Sa1 xs us->xs.all Jpy=true->us.any (eqU x)=xs.any λy=>eqV y x
 |_,_,.nil,_=>rfl
 |y::xs,u::us,.cons r t,f=>by
  rw [List.all_cons,yp] at f
  rw [List.any_cons,List.any_cons,Jyv r f.1,Jqs t f.2]
theorem Jp6 {A:Se} {s:S7} {x:V} {v:S6} (rx:Sa7 x v) (fx:Jpy x=true):∀{xs:List V} {us:List S6},Sa1 xs us->xs.all Jpy=true->∀u∈us,SeqAt.EqAt A s u v (eqU x u)
 |_,_,.nil,_=>λu hu=>by cases hu
 |y::xs,u::us,.cons r t,f=>λu' hu=>by
  rw [List.all_cons,yp] at f
  rcases yi.mp hu with rfl|hu
  ·rw [Jyv r f.1];exact Sjs r rx f.1 fx
  ·exact Jp6 rx fx t f.2 u' hu
def inV (x:V) (xs:List V):Bool:=xs.any λy=>eqV y x
def rIn (K:Si) (neg:Bool):R2:=λx y H Q=>∃p xs,y= .ref p/\(Sw K H p xs\/SqT K H p xs)/\Jpy x=true/\xs.all Jpy=true/\Q (.bl (if neg then !inV x xs else inV x xs)) H
theorem Ju1:OpR X (compareOp .In) (rIn X.K false):=by
 intro pins s σ H x y v u Q I rx ry h
 obtain ⟨p,xs,rfl,hq,fx,fs,q⟩:=h
 cases ry
 rcases hq with hq|hq
 ·obtain ⟨its,r,pl,hz⟩:=I.list hq
  refine SeqAt.in_listAt (eqU x) pl.isList (λw hw=>Jp6 rx fx r fs w (by simpa using hw)) ⟨.bl _,H,I,rfl,?_⟩
  rw [show its.toArray.any (eqU x)=its.any (eqU x) by simp,Jqs r fs]
  exact q
 ·obtain ⟨its,r,pl,hz⟩:=I.tuple hq
  refine SeqAt.in_tupleAt (eqU x) pl (λw hw=>Jp6 rx fx r fs w (by simpa using hw)) ⟨.bl _,H,I,rfl,?_⟩
  rw [show its.toArray.any (eqU x)=its.any (eqU x) by simp,Jqs r fs]
  exact q
theorem Jux:OpR X (compareOp .NotIn) (rIn X.K true):=by
 intro pins s σ H x y v u Q I rx ry h
 obtain ⟨p,xs,rfl,hq,fx,fs,q⟩:=h
 cases ry
 rcases hq with hq|hq
 ·obtain ⟨its,r,pl,hz⟩:=I.list hq
  refine SeqAt.notIn_listAt (eqU x) pl.isList (λw hw=>Jp6 rx fx r fs w (by simpa using hw)) ⟨.bl _,H,I,rfl,?_⟩
  rw [show its.toArray.any (eqU x)=its.any (eqU x) by simp,Jqs r fs]
  exact q
 ·obtain ⟨its,r,pl,hz⟩:=I.tuple hq
  refine SeqAt.notIn_tupleAt (eqU x) pl (λw hw=>Jp6 rx fx r fs w (by simpa using hw)) ⟨.bl _,H,I,rfl,?_⟩
  rw [show its.toArray.any (eqU x)=its.any (eqU x) by simp,Jqs r fs]
  exact q
theorem Jl2:Jng X (.builtin "len") (λxs H Q=>∃p ys,xs= [.ref p]/\(Sw X.K H p ys\/SqT X.K H p ys)/\Q (.int ys.length) H):=by
 intro pins s σ H xs us Q I r h
 obtain ⟨p,ys,rfl,hq,q⟩:=h
 obtain ⟨u,rfl,rx⟩:=Jnq r
 cases rx
 have hn:=Jro
 rcases hq with hq|hq
 ·obtain ⟨its,r',pl,hz⟩:=I.list hq
  have hlen:=r'.length
  exact Calls.call_len_list pl.isList (by simp only [yu] <;> omega) ⟨.int ys.length,H,I.tok _,⟨s.toks+1,by rw [yu,hlen]⟩,q⟩
 ·obtain ⟨its,r',pl,hz⟩:=I.tuple hq
  have hlen:=r'.length
  exact len_tuple pl (by simp only [yu] <;> omega) ⟨.int ys.length,H,I.tok _,⟨s.toks+1,by rw [yu,hlen]⟩,q⟩
theorem Jqx:Jng X (.builtin "len") (λxs H Q=>∃z,xs= [.str z]/\z.length<=Sa/\Q (.int z.length) H):=by
 intro pins s σ H xs us Q I r h
 obtain ⟨z,rfl,hz,q⟩:=h
 obtain ⟨u,rfl,t,rfl⟩:=Jnq r
 have hn:=Jro
 exact len_str (by omega) ⟨.int z.length,H,I.tok _,⟨_,rfl⟩,q⟩
theorem Jmt:Jng X (.type "tuple") (λxs H Q=>∃p ys,xs= [.ref p]/\((Sw X.K H p ys/\∀l,H l=none->Q (.ref l) (upd H l (.tup ys)))\/(SqT X.K H p ys/\Q (.ref p) H))):=by
 intro pins s σ H xs us Q I r h
 obtain ⟨p,ys,rfl,h⟩:=h
 obtain ⟨u,rfl,rx⟩:=Jnq r
 cases rx
 rcases h with ⟨hq,q⟩|⟨hq,q⟩
 ·obtain ⟨its,r',pl,hz⟩:=I.list hq
  have hlen:=r'.length
  refine call_tuple_list pl.isList (λh' kp=>?_) (by simp only [yu] <;> omega)
  have I1:Sv X pins σ H {s with heap:=h'}:=I.kept (t':=s.toks) kp
  have I2:Sv X pins σ (upd H h'.objs.size (.tup ys)) {s with heap:=h'.push {cls:=.type "tuple",data:=.seq its.toArray}}:=
   I1.laid (t':=s.toks) (λb o e=>yj _ e) (yh _) (show Sah X.prog X.w _ _ _ (.tup ys) from ⟨hz,its,r',IsTup.new _ _⟩)
  exact ⟨.ref h'.objs.size,_,I2,rfl,q _ (I1.hok.fresh (yh _))⟩
 ·obtain ⟨its,r',pl,hz⟩:=I.tuple hq
  exact call_tuple_same pl ⟨.ref p,H,I,rfl,q⟩
def tyV (K:Si) (T:String) (x:V) (H:Hp):Prop:=match x with
 | .str _=>T="str"
 | .int _=>T="int"
 | .ref p=>(T="list" /\∃xs,Sw K H p xs)\/(T="tuple" /\∃o,K.lookup p=some o/\o.cls= .type "tuple" /\o.dict=none)\/
   (T="dict" /\((∃kvs,H p=some (.dK kvs))\/∃kvs,H p=some (.dT kvs)))\/(T="set" /\∃S n,H p=some (.set S n))
 |_=>False
theorem Skx {pins:List (S5×Obj)} {σ:St} {H:Hp} {s:S7} {T:String} {x:V} {v:S6} (I:Sv X pins σ H s) (r:Sa7 x v) (ty:tyV X.K T x H):
  s.TypeIs v T/\∀a,v= .ref a->∃ob,s.heap.get? a=some ob/\ob.dict=none:=by
 cases x with
 |str z=>
  obtain ⟨t,rfl⟩:=r
  cases (show T="str" from ty)
  exact ⟨typeIs_str s z t,λ_ e=>nomatch e⟩
 |int i=>
  obtain ⟨t,rfl⟩:=r
  cases (show T="int" from ty)
  exact ⟨typeIs_int s i t,λ_ e=>nomatch e⟩
 |ref p=>
  cases r
  rcases ty with ⟨rfl,xs,hq⟩|⟨rfl,o,hk,hc,hd⟩|⟨rfl,hk⟩|⟨rfl,S,n,hk⟩
  ·obtain ⟨its,_,pl,_⟩:=I.list hq
   refine ⟨pl.isList.typeIs,λa e=>?_⟩
   cases e
   obtain ⟨o,n,e,c,hd,_⟩:=pl
   exact ⟨o,e,hd⟩
  ·refine ⟨⟨o,I.kIn p o hk,hc⟩,λa e=>?_⟩
   cases e
   exact ⟨o,I.kIn _ o hk,hd⟩
  ·have z:∃o,s.heap.get? p=some o/\o.ExactDict:=by
    rcases hk with ⟨kvs,hk⟩|⟨kvs,hk⟩
    ·obtain ⟨_,_,_,_,o,_,_,e,ex,_⟩:=I.hok p _ hk
     exact ⟨o,e,ex⟩
    ·obtain ⟨_,_,_,_,o,_,_,e,ex,_⟩:=I.hok p _ hk
     exact ⟨o,e,ex⟩
   obtain ⟨o,e,ex⟩:=z
   refine ⟨⟨o,e,ex.1⟩,λa e2=>?_⟩
   cases e2
   exact ⟨o,e,ex.2.1⟩
  ·obtain ⟨o,_,_,_,e,ex,_⟩:=I.hok p _ hk
   refine ⟨⟨o,e,ex.1⟩,λa e2=>?_⟩
   cases e2
   exact ⟨o,e,ex.2.1⟩
 |_=>exact False.elim ty
def tBM (K:Si) (T:String) (r:V->List V->Hp->VK->Prop) (to:TE) (t:TA):TE:=λσ H Q=>to σ H λx H1=>tyV K T x H1/\t σ H1 λxs H2=>r x xs H2 Q
variable {o e:Expr} {es:List Expr} {to:TE} {t:TA} {name:Str} {apos cpos:Pos} {T id:String} {r:V->List V->Hp->VK->Prop}
theorem Jmg (pa:PlainAttrs T) (slot:Slot T name id) (hty:typeOf (.builtin id)=pure (.type "method_descriptor")) (hm:MtR X id r) (ho:PE X o to) (ha:PA X (e::es) t)
  (hbase:attributeBase o name X.env (eval o X.env)=eval o X.env:=by rfl)
  (hfew:((backTo cpos (starEach (e::es) X.env)).all (λx=>!x.1)&&(backToKw cpos (keywordEach [] X.env)).all (λx=>x.1.isSome)
   &&decide ((e::es).length+([]:List Keyword).length+(if ([]:List Keyword).isEmpty then 0 else 1) < 30))=true:=by rfl)
  (hline:(apos.endLine==cpos.line)=true:=by rfl) (hs:starEach (e::es) X.env=(false,eval e X.env)::starEach es X.env:=by rfl) (hplain:(backTo cpos (starEach es X.env)).any (·.1)=false:=by rfl):
  PE X (.Call (.Attribute o name apos) (e::es) [] cpos) (tBM X.K T r to t):=by
 intro pins s σ H Q I h
 refine wpAny_Call_method_late hbase hfew hline rfl (thn (ho pins s σ H _ I h) λv s1 zq=>?_)
 obtain ⟨x,H1,I1,r1,ty,q1⟩:=zq
 obtain ⟨h1,h2⟩:=Skx I1 r1 ty
 refine ⟨T,id,pa,slot,hty,h1,h2,?_⟩
 have hA:=ha cpos pins s1 σ H1 _ I1 q1
 rw [hs] at hA⊢
 refine Calls.callWith_builtin (by show (false||(backTo cpos (starEach es X.env)).any (·.1))=false;rw [hplain] <;> rfl) (Calls.evalArgs_plain ?_)
 exact thn hA λus s2 ⟨vs,H2,I2,r2,q2⟩=>hm pins s2 σ H2 x vs v us Q I2 r1 r2 q2
end
def MtM (X:Cx) (id:String) (r:V->List V->Hp->VK->Prop):Prop:=
 ∀(pins:List (S5×Obj)) (s:S7) (σ:St) (H:Hp) (x:V) (xs:List V) (v:S6) (us:List S6) (Q:VK),Sv X pins σ H s->Sa7 x v->Sa1 xs us->r x xs H Q->
  Sh (model X.prog X.w) X.A (call (.builtin id) (v::us)) (EP X pins σ Q) X.xe s
theorem Sa1.one:∀{x:V} {us:List S6},Sa1 [x] us->∃u,us= [u]/\Sa7 x u
 |_,_,.cons r .nil=>⟨_,rfl,r⟩
section
variable {X:Cx} {pins:List (S5×Obj)} {σ:St} {H:Hp} {s:S7} {l b:S5} {xs ys zs:List V}
theorem Sv.lset {its its':List S6} {n:Nat} {f:Array S6->Array S6} {t':Nat} (I:Sv X pins σ H s) (hH:H l=some (.lst xs))
  (e:s.heap.get? l=some {cls:=.type "list",data:=.seq its.toArray n}) (hf:f its.toArray=its'.toArray) (hv:Sa1 ys its') (hz:ys.length<=Sa):
  Sv X pins σ (upd H l (.lst ys)) {s with heap:=s.heap.update l (Obj.mapSeq f),toks:=t'}:=by
 have q:=PySem.IsL.update e f
 rw [hf] at q
 refine I.write (x:=l) (e:=l) (by rw [hH];exact trivial) (.inl rfl) (λb' u hb hu=>(yaz s.heap (Obj.mapSeq f) (ym hb)).trans hu) ⟨_,q⟩ ?_
 exact ⟨hz,its',_,hv,q⟩
theorem Sv.lnew {its:List S6} {t':Nat} (I:Sv X pins σ H s) (hv:Sa1 ys its) (hz:ys.length<=Sa):
  Sv X pins σ (upd H s.heap.objs.size (.lst ys)) {s with heap:=s.heap.push {cls:=.type "list",data:=.seq its.toArray},toks:=t'}:=
 I.laid (λ_ _ q=>yj _ q) (yh _) ⟨hz,its,0,hv,yr _ rfl⟩
theorem Sv.fresh (I:Sv X pins σ H s):H s.heap.objs.size=none:=I.hok.fresh (yh _)
theorem Sv.lstM (I:Sv X pins σ H s) (hH:H l=some (.lst xs)):xs.length<=Sa/\∃(its:List S6) (n:Nat),Sa1 xs its/\xs.length=its.length/\s.heap.get? l=some {cls:=.type "list",data:=.seq its.toArray n}:=by
 obtain ⟨z,its,n,r,e⟩:=I.hok l _ hH
 exact ⟨z,its,n,r,r.length,e⟩
theorem Jz6 {n:Nat} (h:n<=Sa):Builtin.List.listTooLong n=false:=by
 unfold Builtin.List.listTooLong
 exact decide_eq_false (by omega)
end
section
variable {X:Cx}
def Ya6:V->List V->Hp->VK->Prop:=λx vs H Q=>∃l xs y,x= .ref l/\vs= [y]/\H l=some (.lst xs)/\xs.length < Sa/\Q .non (upd H l (.lst (xs++ [y])))
theorem Jly:MtM X "list.append" Ya6:=by
 intro pins s σ H x vs v us Q I rx rv h
 obtain ⟨l,xs,y,rfl,rfl,hH,hz,q⟩:=h
 cases rx
 obtain ⟨u,rfl,ru⟩:=rv.one
 obtain ⟨z,its,n,r,hl,e⟩:=I.lstM hH
 refine call_meets F.slot_list_append ⟨_,e,rfl⟩ F.entry_list_append (F.args_list_append_2 _ _) (PySem.list_append l its.toArray n u (by rw [yu];omega)) ⟨e,?_⟩
 refine ⟨.non,_,I.lset (its':=its++ [u]) hH e (by simp) (r.append (.cons ru .nil)) ?_,rfl,q⟩
 rw [yal,List.length_singleton]
 omega
def Ya7:V->List V->Hp->VK->Prop:=λx vs H Q=>∃l b xs zs,x= .ref l/\vs= [.ref b]/\H l=some (.lst xs)/\H b=some (.lst zs)/\xs.length+zs.length<=Sa/\Q .non (upd H l (.lst (xs++zs)))
theorem Jtz:MtM X "list.extend" Ya7:=by
 intro pins s σ H x vs v us Q I rx rv h
 obtain ⟨l,b,xs,zs,rfl,rfl,hH,hB,hz,q⟩:=h
 cases rx
 obtain ⟨u,rfl,ru⟩:=rv.one
 cases ru
 obtain ⟨z,its,n,r,hl,e⟩:=I.lstM hH
 obtain ⟨z2,its2,n2,r2,hl2,e2⟩:=I.lstM hB
 have hsz:its.toArray.size+its2.toArray.size<=Sa:=by rw [yu,yu];omega
 have hlong:¬(!its.toArray.isEmpty&&Builtin.List.listTooLong (its.toArray.size+its2.toArray.size))=true:=by
  rw [Jz6 hsz,Bool.and_false]
  exact yv
 refine call_meets F.slot_list_extend ⟨_,e,rfl⟩ F.entry_list_extend (F.args_list_extend_2 _ _)
  (AutoSeq1.list_extend_list_list_0 l its.toArray n b its2.toArray n2 hlong (by rw [yu];omega) (by omega)) ⟨e,e2,?_⟩
 refine ⟨.non,_,I.lset (its':=its++its2) hH e (by simp) (r.append r2) ?_,rfl,q⟩
 rw [yal]
 omega
def Srb:R2:=λx y H Q=>∃l b xs zs,x= .ref l/\y= .ref b/\H l=some (.lst xs)/\H b=some (.lst zs)/\xs.length+zs.length<=Sa/\∀p,H p=none->Q (.ref p) (upd H p (.lst (xs++zs)))
theorem Jqf:OpR X (binaryOp .Add) Srb:=by
 intro pins s σ H x y v u Q I rx ry h
 obtain ⟨l,b,xs,zs,rfl,rfl,hH,hB,hz,q⟩:=h
 cases rx
 cases ry
 obtain ⟨z,its,n,r,hl,e⟩:=I.lstM hH
 obtain ⟨z2,its2,n2,r2,hl2,e2⟩:=I.lstM hB
 refine PySem.P.add_list e e2 ?_ (by rw [yu,yu];omega)
 have ea:its.toArray++its2.toArray=(its++its2).toArray:=by simp
 rw [ea]
 exact ⟨.ref _,_,I.lnew (t':=s.toks) (r.append r2) (by rw [yal];omega),rfl,q _ I.fresh⟩
end
section
variable {prog:Sb} {w:Sd} {A:Se} {E:S6->S7->Prop} {s:S7}
end
section
variable {X:Cx}
end
section
variable {κ:Type} [DecidableEq κ]
end
section
variable {P:Sb} {w:Sd} {H:Hp} {h:Sg} {a:S5}
end
section
variable {X:Cx} {pins:List (S5×Obj)} {σ:St} {H:Hp} {s:S7} {a:S5} {y v:V} {u r:S6} {o:Option V} {A:Se} {E:S6->S7->Prop}
end
section
variable {X:Cx} {pins:List (S5×Obj)} {σ:St} {H:Hp} {s:S7} {a:S5} {kvs:List (Key×V)} {k:Key} {u:S6} {A:Se} {E:S6->S7->Prop}
end
section
variable {X:Cx} {o i e value:Expr} {pos pos' tpos:Pos} {td ty tv:TE}
end
section
variable {X:Cx} {pos:Pos}
end
section
variable {X:Cx} {pins:List (S5×Obj)} {σ:St} {H:Hp} {s:S7} {a:S5} {y d:V} {u r:S6} {o:Option V} {A:Se} {E:S6->S7->Prop}
end
section
variable {X:Cx} {o e f:Expr} {apos cpos:Pos} {td ty tx:TE}
end
section
variable {X:Cx} {pins:List (S5×Obj)} {σ:St} {H:Hp} {s:S7} {a:S5} {kvs:List (Key×V)} {A:Se} {E:S6->S7->Prop}
end
section
variable {X:Cx} {pins:List (S5×Obj)} {σ:St} {H:Hp} {s:S7} {a:S5} {y:V} {u:S6} {A:Se} {E:S6->S7->Prop}
end
end L2
namespace Att
open PySem PySem.W PySem.Calls PyProof.Rows
theorem Jry {P:Params} {h:Sg}:∀(ns:List Int) (vs:List S6),WellAll P h vs (ns.map WData.int)->IntsAre vs ns:=by
 intro ns
 induction ns with
 |nil=>
  intro vs w
  rw [List.map_nil] at w
  cases w
  exact .nil
 |cons n ns ih=>
  intro vs w
  rw [yas] at w
  cases w with
  |cons a b=>
   cases a
   exact .cons _ _ (ih _ b)
theorem Jy9 {l:OpenLaw} {n:Nat} (hn:l.most=some n) {P:Params} {h:Sg} {args:List WData} {vals:List S6}
  (hpre:l.row.toRowW.claim.pre args=true) (hwl:WellAll P h vals args):
  ∃a vs ns,vals= [Value.ref a]/\args= [WData.list (ns.map WData.int)]/\h.get? a=some {cls:=.type "list",data:=.seq vs.toArray}/\IntsAre vs ns/\ns.length<=n:=by
 have hsh:WShape.hasAll [] args [.list .int]=true:=(pre_splitW hpre).1
 have hc:l.pre.holds [] {args:=args}=true:=(pre_splitW hpre).2
 obtain ⟨d,r,rfl,h1,h2⟩:=hasAllW_cons hsh
 obtain rfl:=hasAllW_nil h2
 obtain ⟨xs,rfl,h3⟩:=hasW_list h1
 obtain ⟨ns,rfl⟩:=items_int h3
 have hlen:ns.length<=n:=by
  unfold OpenLaw.pre at hc
  have h4:(WTm.not (.lt (.lit (.int (n:Int))) (.len (.arg 0)))).holds [] {args:=[.list (ns.map .int)]}=true:=by
   have h4:=(holds_andW hc).1
   rw [hn] at h4
   exact h4
  have h5:=condW_of h4 (w_not (w_lt w_lit (w_len_list (w_arg rfl))))
  rw [yf] at h5
  refine Nat.le_of_not_lt λq=>?_
  have q':(n:Int) < ((ns.length:Nat):Int):=by omega
  first
   | (rw [decide_eq_true q'] at h5; exact absurd h5 (by decide))
   | (simp at h5; omega)
 cases hwl with
 |cons w1 w2=>
  cases w2
  cases w1 with
  |list ho hall=>exact ⟨_,_,ns,rfl,rfl,ho,Jry ns _ hall,hlen⟩
theorem Jy6 (l:OpenLaw) (args:List WData):l.row.toRowW.claim.post args (.bool true) args=true:=
 postW_of (r:=l.row.toRowW) (X:=(true==true))
  (show WShape.has [] (.bool true) .bool=true by first|rfl|decide|simp [WShape.has,WShape.arms,WShape.armsAll])
  (show (WTm.eq .res (.lit (.bool true))).value [] {args:=args,res:=some (.bool true),after:=args}=some (.bool (true==true)) from w_eq_bool (w_res rfl) w_lit) rfl
theorem attach_call {l:OpenLaw} {n:Nat} {q:Sb} {loose:List Str} {XP:(Str->Option S6)->Sg->Prop} {YP:Sd->Sg->Prop} {d:DefRec}
  (hn:l.most=some n) (hdf:d.params.defaults= [])
  (call:∀(w:Sd) (s₀ s₁:S7) (mg mb:Str->Option S6) (fa:S5) (o:Obj) (pm cd doc:S6) (a:S5) (vs:List S6) (ns:List Int),
   Ground q loose [] XP w s₀ mg mb s₁.heap->YP w s₁.heap->
   s₁.heap.get? fa=some o->o.data= .func (docDef d.name d.params d.body d.scope pm cd doc)->s₁.heap.CodeRec cd d.name->mg d.name=some (.ref fa)->
   s₁.heap.get? a=some {cls:=.type "list",data:=.seq vs.toArray}->IntsAre vs ns->ns.length<=n->s₁.gens= #[]->
   codeAny (model l.prog w) callerA (.call (.ref fa) ⟨[.ref a],[]⟩) (λr s'=>r= .ok (.ret (.bool true))/\OldK s₁.heap s'.heap/\s'.os=s₁.os/\AllBare s'.gens) s₁):
  WalkO q loose XP YP l.row.toRowW d [] (λf vs=>PySem.call f vs):=by
 intro w s₀ s₁ mg mb G Y fa o pm cd doc dV kV ho hd hcd hD hmg hg args vals as hpre hlay hrd hwl hlo
 obtain rfl:dV= .none:=Dflts.none hD hdf
 obtain rfl:kV= .none:=Dflts.noKw hD
 obtain ⟨a,vs,ns,rfl,rfl,hobj,hints,hlen⟩:=Jy9 hn hpre hwl
 refine enter_call (codeAny_mono (call w s₀ s₁ mg mb fa o pm cd doc a vs ns G Y ho (fd_plain hd) hcd hmg hobj hints hlen hg) λr s' hq=>?_)
 obtain ⟨rfl,h2,h3,h4⟩:=hq
 exact ⟨.inl ⟨.bool true,.bool true,[],rfl,λ_=>rfl,.bool true,Jy6 l _,λ_=>⟨List.Pairwise.nil,λ_ hm=>(nomatch hm)⟩⟩,h2,h3,h4⟩
section
variable {prog:Sb} {w:Sd} {A:Se} {E:S6->S7->Prop} {s:S7} {K:Si}
end
end Att
namespace L2
open PySem PySem.Spec PyProof.Rows
theorem Ju6:∀{vs:List S6} {ns:List Int},IntsAre vs ns->Sa1 (ns.map V.int) vs
 |_,_,.nil=>.nil
 |_,_,.cons n t h=>.cons ⟨t,rfl⟩ (Ju6 h)
abbrev KOf {K:Si} {h:Sg} (_:K.In h):Si:=K
def Jkx (s:Sf) (j:Nat):Sf:=match s with
 | .ClassDef _ _ _ body _ _ _ _ _ _ _=>body.getD j (.Pass ⟨0,0,0,0⟩)
 |_=>.Pass ⟨0,0,0,0⟩
def Jnd (s:Sf):Arguments:=match s with
 | .FunctionDef _ a _ _ _ _ _ _ _ _=>a
 |_=>{posonlyargs:=[],args:=[],vararg:=none,kwonlyargs:=[],kw_defaults:=[],kwarg:=none,defaults:=[]}
def Jmd (s:Sf):List Sf:=match s with
 | .FunctionDef _ _ b _ _ _ _ _ _ _=>b
 |_=>[]
def Jku (s:Sf):Scope:=match s with
 | .FunctionDef _ _ _ _ _ _ sc _ _ _=>sc
 |_=>{kind:=.function,names:=[],isGenerator:=false,isCoroutine:=false}
abbrev CX0:CXT:=λ_ _ _ _ _ _=>False
abbrev E0:XK:=λ_ _ _=>False
theorem Jlk {X:Cx}:Jq5 CX0 X E0:=λ_ _ _ _ _ _ _ h=>h.elim
structure Fun (K:Si) (x qual:Str) (st:Sf) (f:S5) (fd:Sc):Prop where
 ex:∃(oc:S6) (od:Option S5) (kV doc pm:S6) (an:Option S5) (cdv ct:S6) (osl:Array (Option S6)),
  fd=PySem.W.fnOf x qual (Jnd st) (Jmd st) (Jku st) .none kV doc pm an cdv ct/\K.lookup f=some ⟨oc,od,.func fd,osl⟩/\PySem.W.codeIn K cdv qual=true
 kp:PySem.W.keepIn K (.ref f)=true
section
variable {P:Sb} {w:Sd} {K:Si} {mg:Str->Option S6} {base:Sg}
theorem Fun.ok {x qual:Str} {st:Sf} {f:S5} {fd:Sc} {N ps:List Str} {k:Nat} {sp:Sp} (F:Fun K x qual st f fd) (S:Jky N ps (Jku st)) (len:∀vs H Q E,sp vs H Q E->vs.length=ps.length)
  (hbody:∀(cdv:S6) (A:Se) (outer:List Env) (s:S7) (H:Hp) (vs:List V) (Q:VK) (E:XK),Sam k (A.deeper (envOfC qual (Jku st) s.heap.objs.size f cdv))->sp vs H Q E->
   ∃t,PSs (Jue CX0 P w K mg base N qual (Jku st) f cdv A outer s H E).nox (Jmd st) t/\t {nx:=λ_ H'=>Q .non H',rt:=Q} (start N vs) H):Sx P w K mg base CX0 (k+1) f fd ps sp:=by
 obtain ⟨oc,od,kV,doc,pm,an,cdv,ct,osl,rfl,lk,hcd⟩:=F.ex
 refine Sim lk hcd S len λA outer s H vs Q E hr hsp=>?_
 obtain ⟨t,h,q⟩:=hbody cdv A outer s H vs Q E hr hsp
 exact ⟨t,h.nox,q⟩
theorem Fun.binds {x qual:Str} {st:Sf} {f:S5} {fd:Sc} {ps:List Str} (F:Fun K x qual st f fd)
  (h:∀(kV doc pm:S6) (an:Option S5) (cdv ct:S6) (us:List S6),us.length=ps.length->bindArgs (PySem.W.fnOf x qual (Jnd st) (Jmd st) (Jku st) .none kV doc pm an cdv ct) ⟨us,[]⟩=pure (ps.zip us)):Sb1 K fd ps []:=by
 obtain ⟨oc,od,kV,doc,pm,an,cdv,ct,osl,rfl,lk,hcd⟩:=F.ex
 exact .all (h kV doc pm an cdv ct)
theorem Juf {x qual:Str} {st:Sf} {f:S5} {oc:S6} {od an:Option S5} {osl:Array (Option S6)} {kV doc pm cdv ct:S6} (l:K.lookup f=some ⟨oc,od,.func (PySem.W.fnOf x qual (Jnd st) (Jmd st) (Jku st) .none kV doc pm an cdv ct),osl⟩)
  (c:PySem.W.codeIn K cdv qual=true) (k:PySem.W.keepIn K (.ref f)=true):Fun K x qual st f (PySem.W.fnOf x qual (Jnd st) (Jmd st) (Jku st) .none kV doc pm an cdv ct):=⟨⟨oc,od,kV,doc,pm,an,cdv,ct,osl,rfl,l,c⟩,k⟩
end
section
variable {X:Cx}
theorem pv (i:Nat) {x:Str} {pos:Pos} (hN:X.N[i]?=some x:=by rfl) (hv:Vis X.env.scope x:=by first|exact ye rfl|exact Or.inr (ye rfl)|exact Or.inr (Or.inr rfl)) (hd:(x==("__debug__" :Str))=false:=by decide)
  (hcd:(x==("__classdict__" :Str))=false:=by decide):PE X (.Name x pos) (Sku i):=Jzf hN hv hd hcd
end
theorem Jlp {A B:Prop} (h:B):if false=true then A else B:=by
 rw [if_neg yv]
 exact h
theorem Jn5 {A B:Prop} (h:A):if true=true then A else B:=by
 rw [if_pos rfl]
 exact h
theorem Jsg {c A B:Prop} [Decidable c] (h1:c->A) (h2:¬c->B):if c then A else B:=by
 by_cases h:c
 ·rw [if_pos h]
  exact h1 h
 ·rw [if_neg h]
  exact h2 h
def Sn (H H':Hp):Prop:=∀b o,H b=some o->H' b=some o
theorem Sn.refl (H:Hp):Sn H H:=λ_ _ h=>h
theorem Sn.trans {H H1 H2:Hp} (a:Sn H H1) (b:Sn H1 H2):Sn H H2:=λc o h=>b c o (a c o h)
theorem Sn.seq {K:Si} {H H':Hp} {a:S5} {xs:List V} (e:Sn H H') (h:Sw K H a xs):Sw K H' a xs:=by
 rcases h with (h|⟨o,h⟩)|h
 ·exact .inl (.inl (e _ _ h))
 ·exact .inl (.inr ⟨o,e _ _ h⟩)
 ·exact .inr h
section
variable {κ:Type} [DecidableEq κ]
end
end L2
set_option Elab.async false
set_option linter.all false
set_option maxRecDepth 100000
set_option maxHeartbeats 4000000
namespace L2
open PySem PySem.Spec PyProof.Rows
def Jmy (cells:List (Str×S5)):List (Str×NameKind)->List (Str×S5)->List (Str×S5)
 | [],acc=>acc
 | (n,k) :: r,acc=>if (k == NameKind.free) = true then (match cells.lookup n with | some c=>Jmy cells r ((n,c) :: acc) | none=>Jmy cells r acc) else Jmy cells r acc
theorem Jnw {cells:List (Str×S5)}:∀(ns:List (Str×NameKind)) (acc:List (Str×S5)),(∀x c,acc.lookup x=some c->cells.lookup x=some c)->∀x c,(Jmy cells ns acc).lookup x=some c->cells.lookup x=some c
 | [],_,h,x,c,e=>h x c e
 | (n,k) :: r,acc,h,x,c,e=>by
  unfold Jmy at e
  by_cases hk:(k==NameKind.free)=true
  ·rw [if_pos hk] at e
   cases hc:cells.lookup n with
   |none=>rw [hc] at e;exact Jnw r acc h x c e
   |some d=>
    rw [hc] at e
    refine Jnw r ((n,d)::acc) (λy b q=>?_) x c e
    rw [yan] at q
    by_cases hy:(y==n)=true
    ·rw [hy] at q
     have hy':y=n:=beq_iff_eq.mp hy
     rw [hy',hc]
     exact q
    ·have hy':(y==n)=false:=by simpa using hy
     rw [hy'] at q
     exact h y b q
  ·rw [if_neg hk] at e
   exact Jnw r acc h x c e
theorem Jor {cells:List (Str×S5)}:∀(ns:List (Str×NameKind)) (acc:List (Str×S5)) (x:Str),(acc.lookup x).isSome=true->((Jmy cells ns acc).lookup x).isSome=true
 | [],_,_,h=>h
 | (n,k) :: r,acc,x,h=>by
  unfold Jmy
  by_cases hk:(k==NameKind.free)=true
  ·rw [if_pos hk]
   cases hc:cells.lookup n with
   |none=>exact Jor r acc x h
   |some d=>
    refine Jor r ((n,d)::acc) x ?_
    rw [yan]
    cases hy:x==n with
    |true=>rfl
    |false=>exact h
  ·rw [if_neg hk]
   exact Jor r acc x h
theorem Jn9 {cells:List (Str×S5)} {x:Str}:∀(ns:List (Str×NameKind)) (acc:List (Str×S5)),(x,NameKind.free)∈ns->(∃c,cells.lookup x=some c)->((Jmy cells ns acc).lookup x).isSome=true
 | [],_,h,_=>by simp at h
 | (n,k) :: r,acc,h,hc=>by
  unfold Jmy
  rcases yi.mp h with e|e
  ·cases e
   obtain ⟨c,hc⟩:=hc
   rw [if_pos (by decide),hc]
   exact Jor r _ x (by rw [yan,beq_self_eq_true];rfl)
  ·by_cases hk:(k==NameKind.free)=true
   ·rw [if_pos hk]
    cases hd:cells.lookup n with
    |none=>exact Jn9 r acc e hc
    |some d=>exact Jn9 r _ e hc
   ·rw [if_neg hk]
    exact Jn9 r acc e hc
theorem Jpx {sc:Scope} {env:Env} (h:∀y∈sc.names,y.2= .free->∃c,env.cells.lookup y.1=some c):closureFor sc env=pure (Jmy env.cells sc.names []):=by
 have key:∀(ns:List (Str×NameKind)) (acc:List (Str×S5)),(∀y∈ns,y.2= .free->∃c,env.cells.lookup y.1=some c)->
   (forIn ns acc λ(x:Str×NameKind) (r:List (Str×S5))=>if (x.2==NameKind.free)=true then (cellOf env x.1 >>=λc=>pure (ForInStep.yield ((x.1,c)::r)):Sem _) else pure (ForInStep.yield r))=(pure (Jmy env.cells ns acc):Sem _):=by
  intro ns
  induction ns with
  |nil=>intro acc _;rfl
  |cons y r ih=>
   intro acc hy
   obtain ⟨n,k⟩:=y
   rw [List.forIn_cons]
   unfold Jmy
   by_cases hk:(k==NameKind.free)=true
   ·have hk':k= .free:=by simpa using hk
    obtain ⟨c,hc⟩:=hy (n,k) yao hk'
    have hc':env.cells.lookup n=some c:=hc
    simp only [hk,if_true]
    have e1:cellOf env n=pure c:=by unfold cellOf;rw [hc']
    rw [e1,hc']
    exact ih _ λz hz=>hy z (yae _ hz)
   ·simp only [hk,if_false]
    exact ih _ λz hz=>hy z (yae _ hz)
 have k0:=key sc.names [] h
 unfold closureFor
 first
  |exact k0
  | (refine Eq.trans ?_ (congrArg (λm : Sem (List (Str × S5))=>m >>= λr=>pure r) k0); rfl)
def blk (X:Cx) (sc:Scope) (N:List Str) (C:S5) (s:S7) (H:Hp) (fp:List S5) (pn:List (S5×Obj)):Cx:=
 {X with N:=N,s₀:=s,H₀:=H,env:=compEnvC sc (Jmy X.env.cells sc.names []) C X.env,outer:=X.stack,ex:=fp,fn:=λ_=>false,pn:=pn,xe:=λ_ _=>False}
def Jxt (ini:List (Option Nat)) (σ:St):St:=ini.map λo=>match o with|none=>none|some j=>(σ[j]?).join
def scB (sc:Scope):Bool:=decide (sc.kind= .function)&&sc.names.all (λy=>decide (y.2≠ .cell))&&sc.names.all (λy=>!decide (y.2= .local)||decide (sc.names.lookup y.1=some .local))
def frB (outer:List (Str×NameKind)) (sc:Scope):Bool:=sc.names.all λy=>!decide (y.2= .free)||(decide (outer.lookup y.1=some .cell)||decide (outer.lookup y.1=some .free))
def Sju (No N:List Str) (ini:List (Option Nat)) (outer:List (Str×NameKind)) (sc:Scope):Bool:=
 (N.zip ini).all λy=>match y.2 with|none=>true|some j=>decide (No[j]?=some y.1)&&decide (sc.names.lookup y.1=some .free)&&(decide (outer.lookup y.1=some .cell)||decide (outer.lookup y.1=some .free))
def PIf (X:Cx) (ifs:List Expr) (t:TT):Prop:=
 ∀(pins:List (S5×Obj)) (s:S7) (σ:St) (H:Hp) (Q:Bool->Hp->Prop),Sv X pins σ H s->t σ H Q->
  Sh (model X.prog X.w) X.A (forIn ifs true λc r=>if r=true then do let ok<-isTrue c X.env (eval c X.env);pure (ForInStep.yield ok) else pure (ForInStep.yield r)) (TP X pins σ Q) X.xe s
def Si6:TT:=λ_ H Q=>Q true H
theorem Jm6 {X:Cx}:PIf X [] Si6:=λ_ _ _ H _ I h=>wpAny_tests_nil ⟨H,I,h⟩
theorem Ya4 {X:Cx} {c:Expr} {t:TT} (h:PT X c t):PIf X [c] t:=λpins s σ H Q I q=>wpAny_tests_one (h pins s σ H Q I q)
def Y0 (wi:TI) (ini:List (Option Nat)) (g:TG) (tt:TT) (te:TE):TE:=λσ H Q=>wi σ H λJ H1=>∀D,H1 D=none->∃W:Nat->Nat->St->Hp->Prop,(∃m,W 0 m (Jxt ini σ) (upd H1 D (.lst [])))/\
 ∀i m σ' H',W i m σ' H'->(J.stop i H'/\Q (.ref D) H')\/(J.go i H'/\∃N:St->Hp->Prop,(∀σ2 H2,N σ2 H2->∃m',m' < m/\W (i+1) m' σ2 H2)/\
  ∀x H2,J.yld i H' x H2->g x σ' H2 λσ3 H3=>tt σ3 H3 λb H4=>if b=true then te σ3 H4 (λv H5=>∃ys,H5 D=some (.lst ys)/\ys.length < Sa/\N σ3 (upd H5 D (.lst (ys++ [v])))) else N σ3 H4)
section
variable {prog:Sb} {w:Sd} {A:Se} {R:Result->S7->Prop} {s:S7}
theorem Juc {elt target iter:Expr} {ifs:List Expr} {scope:Scope} {pos:Pos} {it acc:S6} {env:Env} (I:Nat->S7->Prop)
  (turn:∀n s,I n s->Sh (model prog w) A (pyNext it) (λr s1=>match r with
   |none=>R (.ok .next) s1
   |some v=>Sh (model prog w) A (letOwnedTupleGo target it v) (λ_ s1'=>Sh (model prog w) A (assign target env v) (λ_ s2=>
     Sh (model prog w) A (forIn ifs true λc r=>if r=true then do let ok<-isTrue c env (eval c env);pure (ForInStep.yield ok) else pure (ForInStep.yield r)) (λok s3=>
      if ok=true then Sh (model prog w) A (eval elt env) (λx s4=>
       Sh (model prog w) A (call (.builtin "list.append") [acc,x]) (λ_ s5=>∃m,m < n/\I m s5) (λ_ _=>False) s4) (λ_ _=>False) s3
      else ∃m,m < n/\I m s3) (λ_ _=>False) s2) (λ_ _=>False) s1') (λ_ _=>False) s1) (λ_ _=>False) s)
  (n:Nat) (h:I n s):codeAny (model prog w) A (.compLoop (.ListComp elt [⟨target,iter,ifs,0⟩] scope pos) 0 it acc env) R s:=by
 refine codeAny_loop rfl I (λn s hI=>?_) n h
 show Sh _ A ((compTurn (.ListComp elt [⟨target,iter,ifs,0⟩] scope pos) 0 it acc env).onRaise (λx=>do noteFrame x env;theTreesLotGoes x)) _ _ s
 refine wpAny_noted (wpAny_noRaise ?_)
 rw [compTurn_list]
 refine S8 (wpAny_standAt (S8 (wpAny_mono (turn n s hI) (λr s1 h1=>?_) λ_ _ h'=>h')))
 cases r with
 |none=>exact S9 h1
 |some v=>
  refine S8 (wpAny_mono h1 (λ_ s1' h1'=>?_) λ_ _ h'=>h')
  refine S8 (wpAny_mono h1' (λ_ s2 h2=>S8 (wpAny_mono h2 (λok s3 h3=>?_) λ_ _ h'=>h')) λ_ _ h'=>h')
  cases ok with
  |false=>exact S9 ⟨rfl,h3⟩
  |true=>
   exact S8 (S8 (wpAny_mono h3 (λx s4 h4=>S8 (wpAny_mono h4 (λ_ s5 h5=>S9 (S9 ⟨rfl,h5⟩)) λ_ _ h'=>h')) λ_ _ h'=>h'))
end
section
variable {X:Cx} {pins:List (S5×Obj)} {σ:St} {H:Hp} {s:S7}
theorem Sjl {sc:Scope} {N:List Str} {C:S5} {fp:List S5} {pn:List (S5×Obj)} (I:Sv X pins σ H s) (hk:sc.kind= .function) (hcell:∀y∈sc.names,y.2≠ .cell)
  (hfr:∀y∈sc.names,y.2= .free->X.env.kindOf y.1=some .cell\/X.env.kindOf y.1=some .free) (hC:C=s.heap.objs.size) (hf:∀b∈fp,Jrf X pins H b/\b < s.heap.objs.size):(blk X sc N C s H fp pn).Ok:=by
 have hin:∀x c,(Jmy X.env.cells sc.names []).lookup x=some c->X.env.cells.lookup x=some c:=Jnw sc.names [] (λx c e=>by simp at e)
 refine ⟨I.ok.mod,hk,I.ok.glob,I.ok.blt,Nat.le_of_eq hC.symm,λx y c h1 h2=>I.ok.inj x y c (hin _ _ h1) (hin _ _ h2),λx hx=>?_,λx c h _=>(by cases h),I.ok.hd,I.ok.frames,.inl rfl,λb hb=>?_,I.bs,yz I.ok.bsz I.sz,λb o e hb=>?_,λb hb z=>?_,I.stack,I.stkFree⟩
 ·have hx':(relabel sc X.env).names.lookup x=some .cell\/(relabel sc X.env).names.lookup x=some .free:=hx
  have hm:(x,NameKind.free)∈sc.names:=by
   have:∀k,(relabel sc X.env).names.lookup x=some k->(k= .cell\/k= .free)->(x,NameKind.free)∈sc.names:=λk e hkk=>by
    have m:=PySem.mem_of_lookup e
    obtain ⟨⟨n',k'⟩,m1,m2⟩:=yag.mp m
    dsimp only at m2
    by_cases hc:(k'==NameKind.free&&X.env.scope.kind== .function&&X.env.kindOf n'==some .cell)=true
    ·rw [if_pos hc] at m2
     have e1:n'=x:=congrArg Prod.fst m2
     have e2:k'=NameKind.free:=by simp at hc;exact hc.1.1
     rw [<-e1,<-e2]
     exact m1
    ·rw [if_neg hc] at m2
     have e1:n'=x:=congrArg Prod.fst m2
     have e2:k'=k:=congrArg Prod.snd m2
     rcases hkk with z|z
     ·exact absurd (e2.trans z) (hcell _ m1)
     ·rw [<-e1,<-z,<-e2];exact m1
   rcases hx' with e|e
   ·exact this _ e (.inl rfl)
   ·exact this _ e (.inr rfl)
  have hh:=Jn9 (cells:=X.env.cells) sc.names [] hm (I.ok.has x (hfr _ hm rfl))
  exact ybf.mp hh
 ·obtain ⟨⟨f0,f1,f2,f3,f4,f5⟩,lt⟩:=hf b hb
  exact ⟨λz=>yn lt (z.trans hC),λx c e=>f4 x c (hin _ _ e)⟩
 ·obtain ⟨⟨f0,f1,f2,f3,f4,f5⟩,lt⟩:=hf b hb
  rcases f3 with z|z
  ·exact I.ok.noex b o e z
  ·exact absurd (yad (yg (I.ok.bs b o e).1) z) (yat _)
 ·obtain ⟨⟨f0,f1,f2,f3,f4,f5⟩,lt⟩:=hf b hb
  rcases yi.mp (I.stkSub b z) with e|e
  ·exact f1 e
  ·exact f2 e
theorem Yk {sc:Scope} {N:List Str} {ini:List (Option Nat)} {fp:List S5} {h1:Sg} {t':Nat} (I:Sv X pins σ H s) (hk:sc.kind= .function) (hcell:∀y∈sc.names,y.2≠ .cell)
  (hfr:∀y∈sc.names,y.2= .free->X.env.kindOf y.1=some .cell\/X.env.kindOf y.1=some .free) (hf:∀b∈fp,Jrf X pins H b/\b < s.heap.objs.size) (hlen:N.length=ini.length)
  (hini:∀(i:Nat) (x:Str) (j:Nat),N[i]?=some x->ini[i]?=some (some j)->X.N[j]?=some x/\sc.names.lookup x=some .free/\(X.env.kindOf x=some .cell\/X.env.kindOf x=some .free))
  (hn:h1.Ns s.heap.objs.size (λ_=>none)) (kp:∀b o,s.heap.get? b=some o->h1.get? b=some o):
  Sv (blk X sc N s.heap.objs.size s H fp (X.pn++pins)) [] (Jxt ini σ) H {s with heap:=h1,toks:=t'}:=by
 have hin:∀x c,(Jmy X.env.cells sc.names []).lookup x=some c->X.env.cells.lookup x=some c:=Jnw sc.names [] (λx c e=>by simp at e)
 refine ⟨Sjl I hk hcell hfr rfl hf,rfl,I.bare,Un.kept kp,⟨_,hn,λi x v e1 e2 e3=>?_⟩,λx c e=>?_,I.hok.fresh (yh _),λx c e=>(I.freeC x c (hin _ _ e)).imp id λz=>⟨rfl,z.2⟩,λp hp=>?_,I.hok.kept kp,?_⟩
 ·have e1':N[i]?=some x:=e1
  have e2':(Jxt ini σ)[i]?=some (some v):=e2
  unfold Jxt at e2'
  rw [yk] at e2'
  cases hi:ini[i]? with
  |none=>rw [hi] at e2';cases e2'
  |some o=>
   rw [hi] at e2'
   cases o with
   |none=>cases e2'
   |some j=>
    have e4:(σ[j]?).join=some v:=yy.inj e2'
    have e5:σ[j]?=some (some v):=by
     cases q:σ[j]? with
     |none=>rw [q] at e4;cases e4
     |some z=>rw [q] at e4;exact congrArg some e4
    obtain ⟨a1,a2,a3⟩:=hini i x j e1' hi
    obtain ⟨m,hm,hl⟩:=I.loc
    have hvis:Vis X.env.scope x:=by
     rcases a3 with z|z
     ·exact .inr (.inl z)
     ·exact .inr (.inr z)
    obtain ⟨u,r,l⟩:=hl j x v a1 e5 hvis
    refine ⟨u,r,.inr ⟨?_,?_⟩⟩
    ·have hm2:=PySem.mem_of_lookup a2
     have e3':Vis (relabel sc X.env) x:=e3
     rcases e3' with z|z|z
     ·exfalso
      have m1:=PySem.mem_of_lookup z
      obtain ⟨⟨n',k'⟩,m2,m3⟩:=yag.mp m1
      dsimp only at m3
      have key:∀{ns:List (Str×NameKind)},ns.lookup x=some .free->(ns.map λ(n,k)=>if (k==NameKind.free&&X.env.scope.kind== .function&&X.env.kindOf n==some .cell) then (n,NameKind.cell) else (n,k)).lookup x≠some .local:=by
       intro ns
       induction ns with
       |nil=>intro q;simp at q
       |cons y r ih=>
        obtain ⟨n,k⟩:=y
        intro q
        rw [yan] at q
        rw [yas]
        dsimp only
        cases hx:x==n with
        |true=>
         rw [hx] at q
         have q':k= .free:=yy.inj q
         subst q'
         split
         ·rw [yan,hx];intro z;cases z
         ·rw [yan,hx];intro z;cases z
        |false=>
         rw [hx] at q
         split
         ·rw [yan,hx];exact ih q
         ·rw [yan,hx];exact ih q
      exact key a2 z
     ·exact .inl z
     ·exact .inr z
    ·rcases l with ⟨k1,_⟩|⟨_,c,hc,hcl⟩
     ·exfalso
      rcases a3 with z|z
      ·rw [z] at k1;cases k1
      ·rw [z] at k1;cases k1
     ·have hh:=Jn9 (cells:=X.env.cells) sc.names [] (PySem.mem_of_lookup a2) ⟨c,hc⟩
      obtain ⟨c',hc'⟩:=ybf.mp hh
      have:c'=c:=by
       have q:=hin _ _ hc'
       rw [hc] at q
       exact (yy.inj q).symm
      subst this
      obtain ⟨oc,hoc,hod⟩:=hcl
      exact ⟨c',hc',oc,kp _ _ hoc,hod⟩
 ·obtain ⟨v,oc,hoc,hod⟩:=I.cell x c (hin _ _ e)
  exact ⟨v,oc,kp _ _ hoc,hod⟩
 ·have hp':p∈X.pn++pins:=by simpa [blk] using hp
  obtain ⟨e,n,ne,nf,d⟩:=I.pin p hp'
  refine ⟨kp _ _ e,n,yn (yg e),λz=>?_,d⟩
  rcases yi.mp (I.stkSub p.1 z) with q|q
  ·exact ne q
  ·exact nf q
 ·unfold Jxt
  show (ini.map _).length=N.length
  rw [yf]
  exact hlen.symm
end
section
variable {X:Cx} {elt iter tg:Expr} {ifs:List Expr} {sc:Scope} {pos:Pos} {N:List Str} {ini:List (Option Nat)} {wi:TI} {g:TG} {tt:TT} {te:TE}
theorem Jts {pins:List (S5×Obj)} {σ:St} {H:Hp} {s:S7} {Q:VK} {use:Option (S6->Sem Unit)} {Q':S6->S7->Prop} {p:Pos} (hc:X.calm=true) (hi:PI X tg iter wi)
  (hsc:scB sc=true) (hfr:frB X.env.scope.names sc=true) (hlen:N.length=ini.length) (hini:Sju X.N N ini X.env.scope.names sc=true)
  (hg:∀C s H fp pn,PG (blk X sc N C s H fp pn) tg g) (ht:∀C s H fp pn,PIf (blk X sc N C s H fp pn) ifs tt) (he:∀C s H fp pn,PE (blk X sc N C s H fp pn) elt te)
  (hs:∀x,foldedSetIterable iter X.env x=pure x) (I:Sv X pins σ H s) (h:Y0 wi ini g tt te σ H Q)
  (hfin:∀(D:S5) (H':Hp) (s':S7) (C:S5) (m:Str->Option S6),Sv X pins σ H' s'->Jrf X pins H' C->s'.heap.Ns C m->Q (.ref D) H'->compPost (model X.prog X.w) X.A X.xe use Q' (.ref D) C (.ok .next) s'):
  Sh (model X.prog X.w) X.A (comprehension (.ListComp elt [⟨tg,iter,ifs,0⟩] sc pos) sc X.env p (newList []) false (eval iter X.env) use) Q' X.xe s:=by
 have hsc':=hsc
 unfold scB at hsc'
 rw [yp,yp] at hsc'
 obtain ⟨⟨hk0,hcell0⟩,hnames0⟩:=hsc'
 have hk:sc.kind= .function:=of_decide_eq_true hk0
 have hcell:∀y∈sc.names,y.2≠ .cell:=λy hy=>of_decide_eq_true (yai.mp hcell0 y hy)
 have hnames:∀y∈sc.names,y.2= .local->sc.names.lookup y.1=some .local:=λy hy hl=>by
  have q:=yai.mp hnames0 y hy
  rw [decide_eq_true hl] at q
  exact of_decide_eq_true (by simpa using q)
 have hfrP:∀y∈sc.names,y.2= .free->X.env.kindOf y.1=some .cell\/X.env.kindOf y.1=some .free:=λy hy hl=>by
  have q:=yai.mp hfr y hy
  rw [decide_eq_true hl] at q
  have q2:decide (X.env.scope.names.lookup y.1=some .cell)=true\/decide (X.env.scope.names.lookup y.1=some .free)=true:=by simpa using q
  rcases q2 with z|z
  ·exact .inl (of_decide_eq_true z)
  ·exact .inr (of_decide_eq_true z)
 have hiniP:∀(i:Nat) (x:Str) (j:Nat),N[i]?=some x->ini[i]?=some (some j)->X.N[j]?=some x/\sc.names.lookup x=some .free/\(X.env.kindOf x=some .cell\/X.env.kindOf x=some .free):=λi x j e1 e2=>by
  have hm:(x,some j)∈N.zip ini:=by
   refine yo (i:=i) ?_
   rw [ybo]
   exact ⟨e1,e2⟩
  have q:=yai.mp hini _ hm
  dsimp only at q
  rw [yp,yp,Bool.or_eq_true] at q
  obtain ⟨⟨q1,q2⟩,q3⟩:=q
  refine ⟨of_decide_eq_true q1,of_decide_eq_true q2,?_⟩
  rcases q3 with z|z
  ·exact .inl (of_decide_eq_true z)
  ·exact .inr (of_decide_eq_true z)
 refine wpAny_comprehension_free (use:=use) rfl hs (Jpx λy hy hl=>I.ok.has y.1 (hfrP y hy hl)) hk hnames ?_
 refine thn (hi pins s σ H _ I h) λv s1 h1=>thn h1 λitv s2 h2=>?_
 obtain ⟨it,fp,tn,J,H2,e,I2,T,st2,f2,step⟩:=h2
 subst e
 refine wpAny_newObj_type (wpAny_newFunctionEnv hcell (by intro y hy;simp at hy) (λh1 hns1 hsb1=>?_) hk)
 dsimp only at hns1 hsb1⊢
 have hD:H2 s2.heap.objs.size=none:=I2.hok.fresh (yh _)
 have kp3:∀b o,s2.heap.get? b=some o->(s2.heap.push {cls:=.type "list",dict:=none,data:=.seq ([]:List S6).toArray}).get? b=some o:=λb o e=>yj _ e
 have I3:Sv X pins σ (upd H2 s2.heap.objs.size (.lst [])) {s2 with heap:=s2.heap.push {cls:=.type "list",dict:=none,data:=.seq ([]:List S6).toArray}}:=
  I2.laid (t':=s2.toks) kp3 (yh _) ⟨yah _,[],0,.nil,yr _ rfl⟩
 obtain ⟨W,⟨m0,w0⟩,turn⟩:=step s2.heap.objs.size hD
 generalize hs3:({s2 with heap:=s2.heap.push {cls:=.type "list",dict:=none,data:=.seq ([]:List S6).toArray}}:S7)=s3 at I3
 have e3h:s3.heap=s2.heap.push {cls:=.type "list",dict:=none,data:=.seq ([]:List S6).toArray}:=by rw [<-hs3]
 rw [<-e3h] at hns1 hsb1 kp3⊢
 have sz3:s2.heap.objs.size < s3.heap.objs.size:=by rw [e3h,yak];exact ybl _
 have hf3:∀b∈fp,Jrf X pins (upd H2 s2.heap.objs.size (.lst [])) b/\b < s3.heap.objs.size:=λb hb=>by
  obtain ⟨o,eo,_⟩:=T.obj 0 _ st2 b hb
  have lt:=yg eo
  obtain ⟨f0,fr⟩:=f2 b hb
  exact ⟨⟨by rw [Jkt (yn lt)];exact f0,fr⟩,Nat.lt_trans lt sz3⟩
 have kp4:∀b o,s3.heap.get? b=some o->h1.get? b=some o:=λb o e=>(hsb1.2 b (yn (yg e))).trans (yj _ e)
 have I4:Sv (blk X sc N s3.heap.objs.size s3 (upd H2 s2.heap.objs.size (.lst [])) fp (X.pn++pins)) [] (Jxt ini σ) (upd H2 s2.heap.objs.size (.lst [])) {s3 with heap:=h1,toks:=s3.toks+([]:List (Str×S6)).length}:=
  Yk I3 hk hcell hfrP hf3 hlen hiniP hns1 kp4
 have st4:tn 0 h1:=T.keep 0 _ _ st2 λb hb o e=>kp4 b o (kp3 b o e)
 have e4s:({s2 with heap:=h1,toks:=s2.toks+([]:List (Str×S6)).length}:S7)={s3 with heap:=h1,toks:=s3.toks+([]:List (Str×S6)).length}:=by rw [<-hs3]
 have stat:∀{H':Hp},(∀b∈fp,H' b=none)->∀b∈fp,Jrf (blk X sc N s3.heap.objs.size s3 (upd H2 s2.heap.objs.size (.lst [])) fp (X.pn++pins)) [] H' b:=λ{H'} hn b hb=>by
  obtain ⟨⟨f0,f1,f2',f3,f4,f5⟩,lt⟩:=hf3 b hb
  refine ⟨hn b hb,yn lt,λz=>?_,.inl hb,λx c e=>f4 x c (Jnw sc.names [] (λx c e=>by simp at e) x c e),λp hp=>f5 p (by simpa [blk] using hp)⟩
  rcases yi.mp (I3.stkSub b z) with q|q
  ·exact f1 q
  ·exact f2' q
 have loop:∀s4:S7,s4={s3 with heap:=h1,toks:=s3.toks+([]:List (Str×S6)).length}->codeAny (model X.prog X.w) X.A (.compLoop (.ListComp elt [⟨tg,iter,ifs,0⟩] sc pos) 0 (.ref it) (.ref s2.heap.objs.size) (compEnvC sc (Jmy X.env.cells sc.names []) s3.heap.objs.size X.env))
   (compPost (model X.prog X.w) X.A X.xe use Q' (.ref s2.heap.objs.size) s3.heap.objs.size) s4:=by
  rintro s4 rfl
  refine Juc (λn s'=>∃i σ' H',Sv (blk X sc N s3.heap.objs.size s3 (upd H2 s2.heap.objs.size (.lst [])) fp (X.pn++pins)) [] σ' H' s'/\tn i s'.heap/\(∀b∈fp,H' b=none)/\W i n σ' H') ?_ m0
   ⟨0,_,_,I4,st4,λb hb=>(hf3 b hb).1.1,w0⟩
  rintro n s5 ⟨i,σ5,H5,I5,st5,fr5,w5⟩
  rcases turn i n σ5 H5 w5 with ⟨stop,q⟩|⟨go,N',hN',step'⟩
  ·refine thn (T.done (blk X sc N s3.heap.objs.size s3 (upd H2 s2.heap.objs.size (.lst [])) fp (X.pn++pins)) rfl rfl rfl hc i [] s5 σ5 H5 _ I5 (stat fr5) st5 stop) λr s6 ⟨hr,I6⟩=>?_
   subst hr
   have un:Un (frs X.stack) fp H2 H5 s2.heap s6.heap:=(Un.laid (fs:=frs X.stack) (ex:=fp) kp3 (yh _) hD).trans I6.base
   have os6:s6.os=s2.os:=I6.os.trans (show s3.os=s2.os by rw [<-hs3])
   have IX:Sv X pins σ H5 s6:=I2.call' (ch:=fp) os6 un I6.hok I6.bare λb hb=>by
    obtain ⟨⟨f0,f1,f2',f3,f4,f5⟩,lt⟩:=hf3 b hb
    exact ⟨f3,f1,f4,f5⟩
   obtain ⟨m,hm,_⟩:=I6.loc
   exact hfin _ H5 s6 s3.heap.objs.size m IX (I2.fpOk (yav sz3) I6.free) hm q
  ·refine thn (T.item (blk X sc N s3.heap.objs.size s3 (upd H2 s2.heap.objs.size (.lst [])) fp (X.pn++pins)) rfl rfl rfl hc i [] s5 σ5 H5 _ I5 (stat fr5) st5 go) λr s6 ⟨u,hr,h6⟩=>?_
   subst hr
   refine thn h6 λ_ s7 zq=>?_
   obtain ⟨x,H7,I7,r7,y7,st7,fr7⟩:=zq
   have I7':=I7.pinned (stat fr7) (T.obj _ _ st7)
   refine thn (hg _ _ _ _ _ _ s7 σ5 H7 x u _ I7' r7 (step' x H7 y7)) λ_ s8 zq=>?_
   obtain ⟨σ8,H8,I8,q8⟩:=zq
   refine thn (ht _ _ _ _ _ _ s8 σ8 H8 _ I8 q8) λok s9 zq=>?_
   obtain ⟨H9,I9,q9⟩:=zq
   have again:∀{σ':St} {H':Hp} {s':S7},Sv (blk X sc N s3.heap.objs.size s3 (upd H2 s2.heap.objs.size (.lst [])) fp (X.pn++pins)) ([]++Jsr fp s7.heap) σ' H' s'->N' σ' H'->
     ∃m,m < n/\∃i σ' H',Sv (blk X sc N s3.heap.objs.size s3 (upd H2 s2.heap.objs.size (.lst [])) fp (X.pn++pins)) [] σ' H' s'/\tn i s'.heap/\(∀b∈fp,H' b=none)/\W i m σ' H':=λ{σ' H' s'} J n'=>by
    obtain ⟨m',hm,w'⟩:=hN' σ' H' n'
    refine ⟨m',hm,i+1,σ',H',J.unpinned,T.keep _ _ _ st7 λb hb o e=>(J.pin (b,o) (yaq _ (yaq _ (Jov hb e)))).1,λb hb=>?_,w'⟩
    obtain ⟨o,e,d⟩:=T.obj _ _ st7 b hb
    exact (J.pin (b,o) (yaq _ (yaq _ (Jov hb e)))).2.1
   cases ok with
   |false=>
    rw [if_neg yv] at q9⊢
    exact again I9 q9
   |true=>
    rw [if_pos rfl] at q9⊢
    refine thn (he _ _ _ _ _ _ s9 σ8 H9 _ I9 q9) λv10 s10 zq=>?_
    obtain ⟨x10,H10,I10,r10,ys,hys,hyl,q10⟩:=zq
    refine thn (Jly _ s10 σ8 H10 (.ref s2.heap.objs.size) [x10] _ [v10] (λ_ H'=>N' σ8 H') I10 rfl (.cons r10 .nil) ⟨_,ys,x10,rfl,rfl,hys,hyl,q10⟩) λ_ s11 zq=>?_
    obtain ⟨_,H11,I11,_,q11⟩:=zq
    exact again I11 q11
 have fin:=codeAny_compStart_list (R:=compPost (model X.prog X.w) X.A X.xe use Q' (.ref s2.heap.objs.size) s3.heap.objs.size) (loop _ rfl) (T.self X.A 0 {s3 with heap:=h1,toks:=s3.toks+([]:List (Str×S6)).length} _ _ st4 (loop _ rfl))
 rw [<-e4s] at fin
 exact fin
theorem Jmh (hc:X.calm=true) (hi:PI X tg iter wi) (hg:∀C s H fp pn,PG (blk X sc N C s H fp pn) tg g) (ht:∀C s H fp pn,PIf (blk X sc N C s H fp pn) ifs tt) (he:∀C s H fp pn,PE (blk X sc N C s H fp pn) elt te)
  (hsc:scB sc=true:=by rfl) (hfr:frB X.env.scope.names sc=true:=by rfl) (hlen:N.length=ini.length:=by rfl) (hini:Sju X.N N ini X.env.scope.names sc=true:=by rfl)
  (hs:∀x,foldedSetIterable iter X.env x=pure x:=by intro _;rfl):PE X (.ListComp elt [⟨tg,iter,ifs,0⟩] sc pos) (Y0 wi ini g tt te):=by
 intro pins s σ H Q I h
 rw [eval_ListComp]
 refine Jts (use:=none) hc hi hsc hfr hlen hini hg ht he hs I h λD H' s' C m I' f hn q=>?_
 obtain ⟨f0,f1,f2,f3,f4,f5⟩:=f
 exact ⟨m,hn,λh' sb=>⟨.ref D,H',I'.turned (it:=C) (t':=s'.toks) (λb o hb e=>(sb.2 b hb).trans e) f0 f1 f3 f4 f5,rfl,q⟩⟩
def Snm (i:Nat) (te:TE):TS:=λD σ H=>te σ H λv H1=>D.nx (σ.set i (some v)) H1
theorem Js7 {i:Nat} {y:Str} {py spos:Pos} (hN:X.N.Nodup) (hiy:X.N[i]?=some y) (hx:Loc X.env.scope y) (hc:X.calm=true) (hi:PI X tg iter wi) (hg:∀C s H fp pn,PG (blk X sc N C s H fp pn) tg g) (ht:∀C s H fp pn,PIf (blk X sc N C s H fp pn) ifs tt) (he:∀C s H fp pn,PE (blk X sc N C s H fp pn) elt te)
  (hf:X.fn y=true\/X.env.scope.names.lookup y=some .local:=by first|exact .inl rfl|exact .inr rfl|assumption)
  (hsw:swapsWith (.ListComp elt [⟨tg,iter,ifs,0⟩] sc pos) (some (.Name y py)) spos.line X.env=pure true:=by rfl)
  (hsc:scB sc=true:=by rfl) (hfr:frB X.env.scope.names sc=true:=by rfl) (hlen:N.length=ini.length:=by rfl) (hini:Sju X.N N ini X.env.scope.names sc=true:=by rfl)
  (hs:∀x,foldedSetIterable iter X.env x=pure x:=by intro _;rfl):PS X (.Assign [.Name y py] (.ListComp elt [⟨tg,iter,ifs,0⟩] sc pos) spos) (Snm i (Y0 wi ini g tt te)):=by
 intro pins s σ H D I h
 rw [exec_Assign_Name_used _ _ _ _ hsw]
 refine S8 (wpAny_standAt (S8 ?_))
 show Sh _ X.A (do let _<-comprehension (.ListComp elt [⟨tg,iter,ifs,0⟩] sc pos) sc X.env _ (newList []) false (eval iter X.env) (some (assign (.Name y py) X.env))) _ _ s
 refine S8 (wpAny_mono (Jts (use:=some (assign (.Name y py) X.env)) (Q':=λ_ s'=>SP X pins D .next s') hc hi hsc hfr hlen hini hg ht he hs I h λD' H' s' C m I' f hn q=>?_) (λ_ s' hq=>S9 (S9 hq)) λ_ _ e=>e)
 obtain ⟨f0,f1,f2,f3,f4,f5⟩:=f
 show Sh _ X.A (assign (.Name y py) X.env (.ref D')) _ _ _
 refine wpAny_assign_Name (Ju4 I' hN hiy hx (v:=.ref D') rfl (λs'' I'' sb=>?_) hf)
 obtain ⟨a,sb,ha⟩:=sb
 have hCa:C≠a:=by
  rcases ha with z|z
  ·rw [z];exact f1
  ·exact λe=>f4 y a z e.symm
 refine ⟨m,hn.sameBut sb hCa,λh' sb'=>⟨_,H',I''.turned (it:=C) (t':=s''.toks) (λb o hb e=>(sb'.2 b hb).trans e) f0 f1 f3 f4 f5,q⟩⟩
end
section
variable {g:TG} {tt:TT} {te:TE} {H:Hp} {D:S5} {σ:St} {R:Hp->Prop}
theorem Jwh {lo:Int} {n:Nat} (Pv:Nat->St->Hp->Prop) (h0:Pv 0 σ H)
  (hs:∀i σ H,i < n->Pv i σ H->g (.int (lo+i)) σ H λσ3 H3=>tt σ3 H3 λb H4=>if b=true then te σ3 H4 (λv H5=>∃ys,H5 D=some (.lst ys)/\ys.length < Sa/\Pv (i+1) σ3 (upd H5 D (.lst (ys++ [v])))) else Pv (i+1) σ3 H4)
  (hd:∀σ H,Pv n σ H->R H):
  ∃W:Nat->Nat->St->Hp->Prop,(∃m,W 0 m σ H)/\∀i m σ' H',W i m σ' H'->((Itr lo n).stop i H'/\R H')\/((Itr lo n).go i H'/\∃N:St->Hp->Prop,(∀σ2 H2,N σ2 H2->∃m',m' < m/\W (i+1) m' σ2 H2)/\
   ∀x H2,(Itr lo n).yld i H' x H2->g x σ' H2 λσ3 H3=>tt σ3 H3 λb H4=>if b=true then te σ3 H4 (λv H5=>∃ys,H5 D=some (.lst ys)/\ys.length < Sa/\N σ3 (upd H5 D (.lst (ys++ [v])))) else N σ3 H4):=by
 refine ⟨λi m σ H=>m=n - i/\i<=n/\Pv i σ H,⟨n,by simp,yah _,h0⟩,?_⟩
 rintro i m σ H ⟨rfl,hi,p⟩
 by_cases hlt:i < n
 ·refine .inr ⟨hlt,Pv (i+1),λσ' H' p'=>⟨n - (i+1),by omega,rfl,hlt,p'⟩,λx H' y=>?_⟩
  obtain ⟨e,y⟩:=y
  subst e y
  exact hs i σ _ hlt p
 ·have e:i=n:=by omega
  subst e
  exact .inl ⟨yh _,hd σ H p⟩
theorem Jmp {K:Si} {a:S5} {xs:List V} (Pv:Nat->St->Hp->Prop) (h0:Pv 0 σ H) (hl:∀i σ H,i<=xs.length->Pv i σ H->Sw K H a xs)
  (hs:∀i x σ H,xs[i]?=some x->Pv i σ H->g x σ H λσ3 H3=>tt σ3 H3 λb H4=>if b=true then te σ3 H4 (λv H5=>∃ys,H5 D=some (.lst ys)/\ys.length < Sa/\Pv (i+1) σ3 (upd H5 D (.lst (ys++ [v])))) else Pv (i+1) σ3 H4)
  (hd:∀σ H,Pv xs.length σ H->R H):
  ∃W:Nat->Nat->St->Hp->Prop,(∃m,W 0 m σ H)/\∀i m σ' H',W i m σ' H'->((Itl K a).stop i H'/\R H')\/((Itl K a).go i H'/\∃N:St->Hp->Prop,(∀σ2 H2,N σ2 H2->∃m',m' < m/\W (i+1) m' σ2 H2)/\
   ∀x H2,(Itl K a).yld i H' x H2->g x σ' H2 λσ3 H3=>tt σ3 H3 λb H4=>if b=true then te σ3 H4 (λv H5=>∃ys,H5 D=some (.lst ys)/\ys.length < Sa/\N σ3 (upd H5 D (.lst (ys++ [v])))) else N σ3 H4):=by
 refine ⟨λi m σ H=>m=xs.length - i/\i<=xs.length/\Pv i σ H,⟨xs.length,by simp,yah _,h0⟩,?_⟩
 rintro i m σ H ⟨rfl,hi,p⟩
 have q:=hl i σ H hi p
 by_cases hlt:i < xs.length
 ·refine .inr ⟨⟨xs,xs[i],q,by simp [hlt]⟩,Pv (i+1),λσ' H' p'=>⟨xs.length - (i+1),by omega,rfl,hlt,p'⟩,λx H' y=>?_⟩
  obtain ⟨e,y⟩:=y
  subst e
  exact hs i x σ _ (y xs q) p
 ·have e:i=xs.length:=by omega
  subst e
  exact .inl ⟨⟨xs,q,yh _⟩,hd σ H p⟩
end
theorem Jmo {i:Nat} {v:V} {σ:St} {H:Hp} {A B:St->Hp->Prop} (h:A (σ.set i (some v)) H):Jtv i v σ H λσ3 H3=>Si6 σ3 H3 λb H4=>if b=true then A σ3 H4 else B σ3 H4:=by
 show if true=true then A (σ.set i (some v)) H else B (σ.set i (some v)) H
 rw [if_pos rfl]
 exact h
def sgn (c:Nat):V:=.str ⟨#[c]⟩
def Its (z:Str):It:=⟨λi _=>i < z.cps.size,λi H x H'=>H'=H/\∃c,z.cps[i]?=some c/\x=sgn c,λi _=>z.cps.size=i⟩
def Sr6 (tl:TE):TI:=λσ H R=>tl σ H λx H1=>∃z,x= .str z/\R (Its z) H1
theorem Jwb {P:Sb} {w:Sd} {K:Si} {tg:Expr} {z:Str} {it:S5} {n:String} {fl:Nat->Array S6} {St:Nat->Sg->Prop}
  (Wk:∀A':Se,A'.handled=none->Walks P w A' it [it] [it] z.cps.size (SignAt z) St) (hst:∀i h,St i h->∃o,h.get? it=some o/\o.cls= .type n/\∃a,o.data= .fields a)
  (hn: ["enumerate","zip","dict_itemiterator","dict_reverseitemiterator","odict_iterator","itertools.zip_longest","itertools.pairwise"].contains n=false)
  (hself:∀(A:Se) (i:Nat) (s:S7) (Q:S6->S7->Prop) (E:S6->S7->Prop),St i s.heap->Q (.ref it) s->Sh (model P w) A (pyIter (.ref it)) Q E s):Jt3 P w K tg (Its z) [it] it St where
 mem:=by simp
 obj:=λi h st b hb=>by
  have e:b=it:=by simpa using hb
  subst e
  obtain ⟨o,e,_,a,d⟩:=hst i h st
  exact ⟨o,e,λv z=>by rw [d] at z;cases z⟩
 keep:=λi h h' st k=>by
  have W0:=Wk callerA rfl
  exact W0.frame i h h' st λb hb o e=>k b hb o e
 item:=by
  intro X hP hw hK hc i pins s σ H E I hf st hg
  subst hP hw hK
  obtain ⟨f0,f1,f2,f3,f4,f5⟩:=hf it (by simp)
  have W:=Wk X.A (I.ok.hd hc)
  refine W.item i s _ _ hg st λv h' tk hv st' kk=>?_
  obtain ⟨c,u,hcp,rfl⟩:=hv
  have I1:Sv X pins σ H {s with heap:=h',toks:=tk}:=I.turned (λb o hb e=>kk b o (by simpa using hb) e) f0 f1 f3 f4 f5
  obtain ⟨o,e,cl,a,d⟩:=hst _ _ st'
  exact ⟨_,rfl,Jxb (s:={s with heap:=h',toks:=tk}) e cl d hn ⟨sgn c,H,I1,⟨u,rfl⟩,⟨rfl,c,hcp,rfl⟩,st',λb hb=>(hf b hb).1⟩⟩
 done:=by
  intro X hP hw hK hc i pins s σ H E I hf st hg
  subst hP hw hK
  obtain ⟨f0,f1,f2,f3,f4,f5⟩:=hf it (by simp)
  have W:=Wk X.A (I.ok.hd hc)
  have hg':z.cps.size=i:=hg
  subst hg'
  exact W.done s _ _ st λh' tk kk=>⟨rfl,I.turned (λb o hb e=>kk b o (by simpa using hb) e) f0 f1 f3 f4 f5⟩
 self:=hself
theorem Sk7 {X:Cx} {tg l:Expr} {tl:TE} (hl:PE X l tl):PI X tg l (Sr6 tl):=by
 intro pins s σ H R I h
 refine thn (hl pins s σ H _ I h) λv s1 zq=>?_
 obtain ⟨x,H1,I1,r1,z,e,q⟩:=zq
 subst e
 obtain ⟨t,rfl⟩:=r1
 have fin:∀(o:Obj) (St:Nat->Sg->Prop) (n:String),Jt3 X.prog X.w X.K tg (Its z) [s1.heap.objs.size] s1.heap.objs.size St->St 0 (s1.heap.push o)->PIE X pins σ tg R (.ref s1.heap.objs.size) {s1 with heap:=s1.heap.push o}:=λo St n T st0=>by
  refine ⟨s1.heap.objs.size,[s1.heap.objs.size],St,Its z,H1,rfl,I1.kept (t':=s1.toks) λb o e=>yj _ e,T,st0,λb hb=>?_,q⟩
  have e:b=s1.heap.objs.size:=by simpa using hb
  subst e
  exact I1.fpOk (yh _) (I1.hok.fresh (yh _))
 cases ha:z.cps.all (· < 128)
 ·refine wpAny_pyIter_wide ha (fin _ (λi h=>h.IsStrIter s1.heap.objs.size "str_iterator" z t i) "str_iterator" (Jwb (n:="str_iterator") (fl:=λ_=>#[]) (λA' hA=>Walks.strWide hA _ z t) (λi h st=>?_) (by decide) (λA i s Q E st q=>wpAny_pyIter_striter_wide st q)) ⟨_,yr _ rfl,rfl,rfl⟩)
  obtain ⟨o,e,c,d⟩:=st
  exact ⟨o,e,c,_,d⟩
 ·refine wpAny_pyIter_ascii ha (fin _ (λi h=>h.IsStrIter s1.heap.objs.size "str_ascii_iterator" z t i) "str_ascii_iterator" (Jwb (n:="str_ascii_iterator") (fl:=λ_=>#[]) (λA' hA=>Walks.strAscii hA _ z t) (λi h st=>?_) (by decide) (λA i s Q E st q=>wpAny_pyIter_striter_ascii st q)) ⟨_,yr _ rfl,rfl,rfl⟩)
  obtain ⟨o,e,c,d⟩:=st
  exact ⟨o,e,c,_,d⟩
theorem Jyp {z:Str} {g:TG} {tt:TT} {te:TE} {H:Hp} {D:S5} {σ:St} {R:Hp->Prop} (Pv:Nat->St->Hp->Prop) (h0:Pv 0 σ H)
  (hs:∀i c σ H,z.cps[i]?=some c->Pv i σ H->g (sgn c) σ H λσ3 H3=>tt σ3 H3 λb H4=>if b=true then te σ3 H4 (λv H5=>∃ys,H5 D=some (.lst ys)/\ys.length < Sa/\Pv (i+1) σ3 (upd H5 D (.lst (ys++ [v])))) else Pv (i+1) σ3 H4)
  (hd:∀σ H,Pv z.cps.size σ H->R H):
  ∃W:Nat->Nat->St->Hp->Prop,(∃m,W 0 m σ H)/\∀i m σ' H',W i m σ' H'->((Its z).stop i H'/\R H')\/((Its z).go i H'/\∃N:St->Hp->Prop,(∀σ2 H2,N σ2 H2->∃m',m' < m/\W (i+1) m' σ2 H2)/\
   ∀x H2,(Its z).yld i H' x H2->g x σ' H2 λσ3 H3=>tt σ3 H3 λb H4=>if b=true then te σ3 H4 (λv H5=>∃ys,H5 D=some (.lst ys)/\ys.length < Sa/\N σ3 (upd H5 D (.lst (ys++ [v])))) else N σ3 H4):=by
 refine ⟨λi m σ H=>m=z.cps.size - i/\i<=z.cps.size/\Pv i σ H,⟨z.cps.size,by simp,yah _,h0⟩,?_⟩
 rintro i m σ H ⟨rfl,hi,p⟩
 by_cases hlt:i < z.cps.size
 ·refine .inr ⟨hlt,Pv (i+1),λσ' H' p'=>⟨z.cps.size - (i+1),by omega,rfl,hlt,p'⟩,λx H' y=>?_⟩
  obtain ⟨e,c,hcp,y⟩:=y
  subst e y
  exact hs i c σ _ hcp p
 ·have e:i=z.cps.size:=by omega
  subst e
  exact .inl ⟨rfl,hd σ H p⟩
section
variable {X:Cx}
theorem Jr4:OpR X (binaryOp .FloorDiv) (rI (λ_ j=>0 < j/\j.natAbs.log2 < 9000) λi j=>.int (i/j)):=opI λi j _ _ _ _ _ hc q=>by
 have h1:(0:Int) < j:=hc.1
 exact floordiv_int (by omega) (by rw [Int.fdiv_eq_ediv_of_nonneg i (by omega)];exact q) (.inl (PyProof.noPylong_of_log2 hc.2))
def Sjr:V->Option S6
 | .ty n=>some (.type n)
 | .ref a=>some (.ref a)
 |_=>none
theorem Jxn:∀{ys:List Str} {us:List S6},Sa1 (ys.map V.str) us->StrsAre us ys
 | [],_,.nil=>.nil
 |_::_,_,.cons ⟨_,rfl⟩ t=>.cons _ _ (Jxn t)
def Smz (K:Si):V->List V->Hp->VK->Prop:=λx xs H Q=>∃(z:Str) (a:S5) (ys:List Str),x= .str z/\xs= [.ref a]/\Sw K H a (ys.map V.str)/\(ys.map (·.length)).sum+ys.length*z.length<=16777216/\Q (.str (Txt.join z ys)) H
theorem Jo8:MtR X "str.join" (Smz X.K):=by
 intro pins s σ H x xs v us Q I rx rs h
 obtain ⟨z,a,ys,rfl,rfl,hq,hz,q⟩:=h
 obtain ⟨t,rfl⟩:=rx
 obtain ⟨u,rfl,ru⟩:=Jnq rs
 cases ru
 obtain ⟨its,r,pl,_⟩:=I.list hq
 exact join_list pl.isList (by simpa using Jxn r) hz λt' k=>⟨.str _,H,I.tok _,⟨_,rfl⟩,q⟩
theorem Jqw:Jng X (.type "int") (λxs H Q=>∃z n,xs= [.str z]/\PySem.intText? z=some n/\z.length<=640/\Q (.int n) H):=by
 intro pins s σ H xs us Q I r h
 obtain ⟨z,n,rfl,hn,hl,q⟩:=h
 obtain ⟨u,rfl,t,rfl⟩:=Jnq r
 exact PySem.W.KIN.call_text hn hl ⟨.int n,H,I.tok _,⟨_,rfl⟩,q⟩
def Sra (K:Si):List V->Hp->VK->Prop:=λxs H Q=>∃(a:S5) (bs:List Bool),xs= [.ref a]/\Sw K H a (bs.map V.bl)/\Q (.bl (bs.all id)) H
theorem Jqv (hc:X.calm=true):Jng X (.builtin "all") (Sra X.K):=by
 intro pins s σ H xs us Q I r h
 obtain ⟨a,bs,rfl,hq,q⟩:=h
 obtain ⟨u,rfl,ru⟩:=Jnq r
 cases ru
 obtain ⟨its,rv,pl,hz⟩:=I.list hq
 have hlen:=rv.length
 refine call_all_walk (wpAny_pyIter_list pl.isList ⟨s.heap.objs.size,[s.heap.objs.size,a],[s.heap.objs.size],its.toArray.size,_,_,λi=>bs.getD i true,rfl,Walks.list (prog:=X.prog) (w:=X.w) (A:=X.A.in1) (show X.A.in1.handled=none from I.ok.hd hc) s.heap.objs.size a ?_ its.toArray,⟨⟨_,yr _ rfl,rfl,rfl⟩,pl.isList.at λo e=>yj _ e⟩,?_,λh' tk k=>?_⟩)
 ·obtain ⟨o,_,e,_⟩:=pl
  exact yn (yg e)
 ·intro i v s' Q' E' hv hq'
  have hv':its[i]?=some v:=by simpa using hv
  have hi:i < its.length:=(yw.mp hv').1
  have hb:i < bs.length:=by rw [yf] at hlen;omega
  obtain ⟨u',hu',ru'⟩:=rv.get (i:=i) (x:=V.bl bs[i]) (by rw [yk,yq hb];rfl)
  rw [hv'] at hu'
  cases hu'
  cases ru'
  refine wpAny_truthy_bool ?_
  have:bs.getD i true=bs[i]:=by rw [ybp,yq hb];rfl
  rw [<-this]
  exact hq'
 ·have e:((List.range its.toArray.size).all λi=>bs.getD i true)=bs.all id:=by
   have hl2:its.toArray.size=bs.length:=by rw [yf] at hlen;rw [yu];exact hlen.symm
   rw [hl2,ybd,yai,yai]
   constructor
   ·intro hh b hb
    obtain ⟨i,hi,rfl⟩:=List.getElem_of_mem hb
    have:=hh i (List.mem_range.mpr hi)
    rw [ybp,yq hi] at this
    exact this
   ·intro hh i hi
    have hi':=List.mem_range.mp hi
    rw [ybp,yq hi']
    exact hh _ (ybq hi')
  rw [e]
  exact ⟨.bl _,H,I.kept λb o e=>k b o (λz=>by
   have z':b=s.heap.objs.size:=by simpa using z
   exact absurd (yg e) (by rw [z'];exact yat _)) (yj _ e),rfl,q⟩
end
mutual
inductive Sdl (K:Si) (H:Hp):V->PyData->Prop
 |non:Sdl K H .non .none
 |bl (b:Bool):Sdl K H (.bl b) (.bool b)
 |int (i:Int):Sdl K H (.int i) (.int i)
 |str (z:Str):Sdl K H (.str z) (.str z)
 |lst {a:S5} {xs:List V} {ds:List PyData}:Sw K H a xs->Sck K H xs ds->Sdl K H (.ref a) (.list ds)
 |tup {a:S5} {xs:List V} {ds:List PyData}:SqT K H a xs->Sck K H xs ds->Sdl K H (.ref a) (.tuple ds)
inductive Sck (K:Si) (H:Hp):List V->List PyData->Prop
 |nil:Sck K H [] []
 |cons {x:V} {d:PyData} {xs:List V} {ds:List PyData}:Sdl K H x d->Sck K H xs ds->Sck K H (x::xs) (d::ds)
end
section
variable {X:Cx} {pins:List (S5×Obj)} {σ:St} {H:Hp} {s:S7}
mutual
theorem Sdl.reads (I:Sv X pins σ H s):∀{x:V} {d:PyData},Sdl X.K H x d->∀{v:S6},Sa7 x v->∃as,Reads s.heap v d as
 |_,_,.non,_,r=>by cases r;exact ⟨_,.none⟩
 |_,_,.bl b,_,r=>by cases r;exact ⟨_,.bool b⟩
 |_,_,.int i,_,r=>by obtain ⟨t,rfl⟩:=r;exact ⟨_,.int i t⟩
 |_,_,.str z,_,r=>by obtain ⟨t,rfl⟩:=r;exact ⟨_,.str z t⟩
 |_,_,.lst (a:=a) hq hd,_,r=>by
  cases r
  obtain ⟨its,rv,⟨o,n,e,c,dd,dt⟩,_⟩:=I.list hq
  obtain ⟨as,ra⟩:=Sck.reads I hd rv
  exact ⟨_,.list e c dt (by simpa using ra)⟩
 |_,_,.tup (a:=a) hq hd,_,r=>by
  cases r
  obtain ⟨its,rv,⟨o,e,c,n,dt⟩,_⟩:=I.tuple hq
  obtain ⟨as,ra⟩:=Sck.reads I hd rv
  exact ⟨_,.tuple e c dt (by simpa using ra)⟩
theorem Sck.reads (I:Sv X pins σ H s):∀{xs:List V} {ds:List PyData},Sck X.K H xs ds->∀{us:List S6},Sa1 xs us->∃as,ReadsAll s.heap us ds as
 |_,_,.nil,_,r=>by cases r;exact ⟨_,.nil⟩
 |_,_,.cons h t,_,r=>by
  cases r with
  |cons r1 r2=>
   obtain ⟨as,ra⟩:=Sdl.reads I h r1
   obtain ⟨bs,rb⟩:=Sck.reads I t r2
   exact ⟨_,.cons ra rb⟩
end
def Smw (K:Si) (neg:Bool):R2:=λx y H Q=>∃d e,Sdl K H x d/\Sdl K H y e/\SeqAt.shaped d=true/\SeqAt.shaped e=true/\Q (.bl (if neg then !PyData.eqv d e else PyData.eqv d e)) H
theorem Jza (hu:X.A.units+64 < cLine):OpR X (compareOp .Eq) (Smw X.K false):=by
 intro pins s σ H x y v u Q I rx ry h
 obtain ⟨d,e,hd,he,sd,se,q⟩:=h
 obtain ⟨as,ra⟩:=hd.reads I rx
 obtain ⟨bs,rb⟩:=he.reads I ry
 exact eq_dataH ra rb sd se hu (Jlj I q rfl)
theorem Juw (hu:X.A.units+64 < cLine):OpR X (compareOp .NotEq) (Smw X.K true):=by
 intro pins s σ H x y v u Q I rx ry h
 obtain ⟨d,e,hd,he,sd,se,q⟩:=h
 obtain ⟨as,ra⟩:=hd.reads I rx
 obtain ⟨bs,rb⟩:=he.reads I ry
 exact ne_dataH ra rb sd se hu (Jlj I q rfl)
end
theorem Jl8:bootBuiltins "isinstance" =some (.builtin "isinstance"):=by decide +kernel
theorem Jlu:bootBuiltins "len" =some (.builtin "len"):=by decide +kernel
theorem Jub:bootBuiltins "max" =some (.builtin "max"):=by decide +kernel
theorem Jwg:bootBuiltins "min" =some (.builtin "min"):=by decide +kernel
theorem Ju9:bootBuiltins "all" =some (.builtin "all"):=by decide +kernel
theorem Jsa:bootBuiltins "int" =some (.type "int"):=by decide +kernel
theorem Joo:bootBuiltins "str" =some (.type "str"):=by decide +kernel
theorem Jx5:bootBuiltins "bool" =some (.type "bool"):=by decide +kernel
theorem Jua:bootBuiltins "list" =some (.type "list"):=by decide +kernel
theorem Jnh:bootBuiltins "tuple" =some (.type "tuple"):=by decide +kernel
structure FT (K:Si) (mg:Str->Option S6) (x:Str) (st:Sf) (ps:List Str) (f:S5) (fd:Sc):Prop where
 mgx:mg x=some (.ref f)
 fn:Fun K x x st f fd
 bd:Sb1 K fd ps []
section
variable {X:Cx} {x:Str} {st:Sf} {ps:List Str} {f:S5} {fd:Sc} {sp:Sp} {k j:Nat} {p pos:Pos} {e:Expr} {es:List Expr} {t:TA}
theorem Jkv (F:FT X.K X.mg x st ps f fd) (G:Sx X.prog X.w X.K X.mg X.base CX0 k f fd ps sp) (hr:Sam j X.A) (hk:k<=j) (ha:PA X (e::es) t) (hg:Gl X x:=by rfl) (hdb:(x==("__debug__" :Str))=false:=by decide)
  (he:starEach (e::es) X.env=(false,eval e X.env)::starEach es X.env:=by rfl) (hpl:(backTo pos (starEach es X.env)).any (·.1)=false:=by rfl):PE X (.Call (.Name x p) (e::es) [] pos) (Siu sp [] E0 t):=
 Ya2 G (hr.mono hk) hg F.mgx F.fn.kp F.bd .nil Jlk ha hdb he hpl
end
theorem Sn.upd {H:Hp} {D:S5} {o:HO} (h:H D=none):Sn H (upd H D o):=λb u e=>by rw [Jkt (Jkw e h)];exact e
def Scg (H:Hp) (p:S5):Prop:=∃a b c:Int,H p=some (.lst [.int a,.int b,.int c])
def But (p:S5) (H H':Hp):Prop:=(∀b o,b≠p->H b=some o->H' b=some o)/\Scg H' p
theorem But.trans {p:S5} {H H1 H2:Hp} (a:But p H H1) (b:But p H1 H2):But p H H2:=⟨λc o n e=>b.1 c o n (a.1 c o n e),b.2⟩
theorem But.refl {p:S5} {H:Hp} (s:Scg H p):But p H H:=⟨λ_ _ _ e=>e,s⟩
theorem But.same {p:S5} {H H1 H2:Hp} (a:But p H H1) (b:Sn H1 H2):But p H H2:=⟨λc o n e=>b c o (a.1 c o n e),let ⟨x,y,z,e⟩:=a.2;⟨x,y,z,b p _ e⟩⟩
theorem Scg.same {p:S5} {H H1:Hp} (a:Scg H p) (b:Sn H H1):Scg H1 p:=by obtain ⟨x,y,z,e⟩:=a;exact ⟨x,y,z,b p _ e⟩
theorem But.of {p:S5} {H H1:Hp} (a:Scg H p) (b:Sn H H1):But p H H1:=(But.refl a).same b
theorem But.free {p:S5} {H H':Hp} (s:Scg H p) (b:But p H H') {D:S5} (h:H' D=none):H D=none:=by
 by_cases e:D=p
 ·obtain ⟨x,y,z,q⟩:=b.2
  rw [e,q] at h
  cases h
 ·cases q:H D with
  |none=>rfl
  |some o=>
   rw [b.1 D o e q] at h
   cases h
theorem But.updD {p D:S5} {H H':Hp} {o:HO} (b:But p H H') (hD:H D=none) (ne:D≠p):But p H (upd H' D o):=by
 refine ⟨λc u n e=>?_,?_⟩
 ·rw [Jkt (Jkw e hD)]
  exact b.1 c u n e
 ·obtain ⟨x,y,z,q⟩:=b.2
  exact ⟨x,y,z,by rw [Jkt (ym ne)];exact q⟩
theorem Scg.ne {p D:S5} {H:Hp} (s:Scg H p) (hD:H D=none):D≠p:=by
 obtain ⟨x,y,z,q⟩:=s
 exact (Jkw q hD).symm
theorem Jul {p:S5} {H:Hp} {a:S5} {o:HO} (s:Scg H p) (h:H a=some o) (hn:∀x y z:Int,o≠ .lst [.int x,.int y,.int z]):a≠p:=by
 intro e
 obtain ⟨x,y,z,q⟩:=s
 rw [e,q] at h
 exact hn x y z (yy.inj h).symm
def Sko:Sp:=λvs H Q _=>∃(p:S5) (m:Int),vs= [.ref p,.int m]/\Scg H p/\0 < m/\m.natAbs.log2 < 9000/\∀(r:Int) (H':Hp),0<=r->r < m->But p H H'->Q (.int r) H'
def Jzw:Sp:=λvs H Q _=>∃c:Int,vs= [.int c]/\∀(p:S5) (H':Hp),H p=none->Sn H H'->Scg H' p->Q (.ref p) H'
def Skc (K:Si):Sp:=λvs H Q _=>∃(a:S5) (ns:List Int) (k:Nat),vs= [.ref a,.int k]/\Sw K H a (ns.map V.int)/\∀n:Int,Q (.int n) H
theorem Jxc {ns:List Int} {k:Nat} (h:k < ns.length):atI (ns.map V.int) (k:Int)=some (.int ns[k]):=Jnb (by rw [yk,yq h];rfl)
theorem Js4 {A:Se} {k:Nat} (hr:Sam k A):A.units+64 < cLine:=hr.units
end L2
namespace L2
open PySem PySem.Spec PyProof.Rows Builtin Builtin.ObjectAttr
abbrev VEm:List S6:=[.type "ValueError",.type "Exception",.type "BaseException",.type "object"]
def xcB (K:Si) (C fI:S5):Bool:=
 Sk K (.ref C) "__getattribute__" ==some (some (.builtin "BaseException.__getattribute__"))&&Sk K (.ref C) "__getattr__" ==some none&&Sk K (.ref C) "__setattr__" ==some (some (.builtin "object.__setattr__"))&&
 Sk K (.ref C) "__init__" ==some (some (.ref fI))&&PySem.W.typeIn K (.ref fI)==some (.type "function")&&PySem.W.keepIn K (.ref C)&&PySem.W.hasDictIn K C&&Sl K C (.type "BaseException")==some true&&Sl K C (.type "object")==some true&&
 Sk K (.ref C) "__class__" ==some (some (.builtin "object.__class__"))&&PySem.W.specialIn K (.builtin "object.__class__") "__get__" ==some (some (.builtin "getset_descriptor.__get__"))&&PySem.W.takesIn K (.builtin "object.__class__")==some true
structure Sai (K:Si) (C W fI:S5):Prop where
 obj:∃(nm q:Str) (N:S5) (bs:List S6) (sn:List Str) (sub:List S6) (ab:Bool) (col:Option Bool) (dd:Option S5) (k0 k1 k2 k3 k5:Option S6),
  K.lookup C=some (excClassObj nm q C N bs (.ref W::VEm) true sn sub ab col dd k0 k1 k2 k3 k5 "ValueError.__new__")
 tl:PySem.W.tailIn K VEm (.ref W::VEm)=true
 all:xcB K C fI=true
theorem Jma {K:Si} {C fI:S5} (h:xcB K C fI=true):
  (Sk K (.ref C) "__getattribute__" =some (some (.builtin "BaseException.__getattribute__"))/\Sk K (.ref C) "__getattr__" =some none/\Sk K (.ref C) "__setattr__" =some (some (.builtin "object.__setattr__")))/\
  (Sk K (.ref C) "__init__" =some (some (.ref fI))/\PySem.W.typeIn K (.ref fI)=some (.type "function")/\PySem.W.keepIn K (.ref C)=true/\PySem.W.hasDictIn K C=true)/\Sl K C (.type "BaseException")=some true/\Sl K C (.type "object")=some true/\
  Sk K (.ref C) "__class__" =some (some (.builtin "object.__class__"))/\PySem.W.specialIn K (.builtin "object.__class__") "__get__" =some (some (.builtin "getset_descriptor.__get__"))/\PySem.W.takesIn K (.builtin "object.__class__")=some true:=by
 unfold xcB at h
 simp only [yp,beq_iff_eq] at h
 obtain ⟨⟨⟨⟨⟨⟨⟨⟨⟨⟨⟨a,b⟩,c⟩,d⟩,e⟩,f⟩,g⟩,i⟩,j⟩,k⟩,l⟩,m⟩:=h
 exact ⟨⟨a,b,c⟩,⟨d,e,f,g⟩,i,j,k,l,m⟩
section
variable {K:Si} {C W fI:S5} (c:Sai K C W fI)
include c
theorem Sai.ga:Sk K (.ref C) "__getattribute__" =some (some (.builtin "BaseException.__getattribute__")):=(Jma c.all).1.1
theorem Sai.gh:Sk K (.ref C) "__getattr__" =some none:=(Jma c.all).1.2.1
theorem Sai.sa:Sk K (.ref C) "__setattr__" =some (some (.builtin "object.__setattr__")):=(Jma c.all).1.2.2
theorem Sai.ini:Sk K (.ref C) "__init__" =some (some (.ref fI)):=(Jma c.all).2.1.1
theorem Sai.fn:PySem.W.typeIn K (.ref fI)=some (.type "function"):=(Jma c.all).2.1.2.1
theorem Sai.kp:PySem.W.keepIn K (.ref C)=true:=(Jma c.all).2.1.2.2.1
theorem Sai.mb:Sl K C (.type "BaseException")=some true:=(Jma c.all).2.2.1
theorem Sai.mo:Sl K C (.type "object")=some true:=(Jma c.all).2.2.2.1
theorem Sai.cl:Sk K (.ref C) "__class__" =some (some (.builtin "object.__class__")):=(Jma c.all).2.2.2.2.1
theorem Sai.cg:PySem.W.specialIn K (.builtin "object.__class__") "__get__" =some (some (.builtin "getset_descriptor.__get__")):=(Jma c.all).2.2.2.2.2.1
theorem Sai.ct:PySem.W.takesIn K (.builtin "object.__class__")=some true:=(Jma c.all).2.2.2.2.2.2
end
theorem Jyi (self:S6) (C W:S5):refuseLoop self "__setattr__" (.ref C:: .ref W::VEm)=pure ():=by
 rw [refuseLoop_ref,refuseLoop_ref]
 exact PySem.F.store_ValueError.passes self
theorem Sai.mro {K:Si} {C W fI:S5} (c:Sai K C W fI):∃cd,PySem.W.clsIn K C=some cd/\cd.mro= .ref C:: .ref W::VEm/\cd.hasDict=true:=by
 obtain ⟨nm,q,N,bs,sn,sub,ab,col,dd,k0,k1,k2,k3,k5,l⟩:=c.obj
 unfold PySem.W.clsIn
 rw [l]
 exact ⟨_,rfl,rfl,rfl⟩
section
variable {prog:Sb} {w:Sd} {A:Se} {E:S6->S7->Prop} {s:S7} {K:Si} {x C W fI:S5} {ox:Obj} {od:Option Obj} {name:Str}
theorem Yb1:builtinKind "BaseException.__getattribute__" =some .slot:=by decide +kernel
theorem Ya:splitId "BaseException.__getattribute__" =some ("BaseException","__getattribute__"):=by decide +kernel
theorem Yb0 {r:Found} {tk:Tok} {R:Result->S7->Prop} (c:Sai K C W fI) (X:K.In s.heap) (I:PySem.W.InstAt s.heap x ox C od) (hf:PySem.W.findObj K C od name=some r)
  (h:Sh (model prog w) A.in1 (match r with| .value v=>ret v| .bind g b=>bindTo g b (.ref x) (.ref C)| .missing=>unsupported "none")
   (λfin s'=>match fin with| .done f=>R (.ok f) s'| .again c'=>c'.quiet=true/\codeAny (model prog w) A c' R s') (λe s'=>R (.error e) s') s) (hr:r≠ .missing):
  codeAny (model prog w) A (.call (.builtin "BaseException.__getattribute__") ⟨[.ref x,.str name tk],[]⟩) R s:=by
 have T0:=I.type (M:=model prog w)
 have T3:=PySem.W.looks_find (M:=model prog w) X I hf
 have T4:PySem.W.Looks (model prog w) s.heap (isInstance (.ref x) (.type "BaseException")) true:=T0.andThen (PySem.W.looks_mroIn X c.mb)
 have ck:∀{Q':Unit->S7->Prop} {E':S6->S7->Prop} {A':Se},Q' () s->Sh (model prog w) A' (checkBuiltinCall "BaseException.__getattribute__" ⟨[.ref x,.str name tk],[]⟩) Q' E' s:=λ{Q' E' A'} q=>
  @PySem.W.check_slot (model prog w) A' E' s "BaseException.__getattribute__" "BaseException" "__getattribute__" (.ref x) [.str name tk] [] Q' Yb1 Ya T4 (F.args_bexc_ga (.ref x) (.str name tk)) q
 refine codeAny_call_builtin F.excAttr_ValueError.ga.plain F.entry_bexc_ga (ck ?_)
 unfold Builtin.«object.__getattribute__»
 refine S8 (S9 (S8 (S9 (S8 (T0.here (S8 (T3.here ?_)))))))
 cases r with
 |missing=>exact absurd rfl hr
 |value v=>exact h
 |bind gg b=>exact h
end
section
variable {prog:Sb} {w:Sd} {A:Se} {E:S6->S7->Prop} {s:S7} {K:Si} {x C W fI:S5} {ox:Obj} {od:Option Obj} {name:Str} {v:S6}
theorem Y9 {tk:Tok} {R:Result->S7->Prop} (c:Sai K C W fI) (X:K.In s.heap) (I:PySem.W.InstAt s.heap x ox C od) (hn:Sk K (.ref C) name=some none)
  (h:Sh (model prog w) A.in1 (storeInOwnDict (.ref x) (.ref C) (.str name tk) name v false)
   (λfin s'=>match fin with| .done f=>R (.ok f) s'| .again c'=>c'.quiet=true/\codeAny (model prog w) A c' R s') (λe s'=>R (.error e) s') s):
  codeAny (model prog w) A (.call (.builtin "object.__setattr__") ⟨[.ref x,.str name tk,v],[]⟩) R s:=by
 have SF:=PySem.F.store_object
 obtain ⟨cd,hc,hm,_⟩:=c.mro
 have T0:=I.type (M:=model prog w)
 have sub:PySem.W.Looks (model prog w) s.heap (isInstance (.ref x) (.type "object")) true:=T0.andThen (PySem.W.looks_mroIn X c.mo)
 have hmr:PySem.W.Looks (model prog w) s.heap (mroOf (.ref C)) cd.mro:=(PySem.W.looks_clsIn X hc).andThen .now
 have T2:=PySem.W.looks_findIn (M:=model prog w) X hn
 refine codeAny_call_builtin SF.slot.plain SF.entry (@PySem.W.check_slot (model prog w) _ _ s "object.__setattr__" "object" "__setattr__" (.ref x) [.str name tk,v] [] _ SF.kind SF.split sub (SF.args (.ref x) (.str name tk) v) ?_)
 rw [PySem.W.osa_eq,refuse_eq]
 refine S8 (S8 (T0.here (S8 (hmr.here ?_))))
 rw [hm,Jyi]
 exact S9 (S8 (T0.here (S8 (T2.here (S8 (S9 h))))))
theorem Jx3 {vs:Array S6} {Q:Unit->S7->Prop} (c:Sai K C W fI) (X:K.In s.heap) (hx:s.heap.get? x=some ox) (hcl:ox.cls= .ref C) (hdi:ox.dict=none) (hd:ox.data= .fields vs) (hn:Sk K (.ref C) name=some none)
  (h:∀h',(∀b u,b≠x->s.heap.get? b=some u->h'.get? b=some u)->h'.get? x=some {ox with dict:=some s.heap.objs.size}->h'.Ns1 s.heap.objs.size (λy=>if y=name then some v else none)->Q () {s with heap:=h',toks:=s.toks+2}):
  Sh (model prog w) A (setAttr (.ref x) name v) Q E s:=by
 have I:PySem.W.InstAt s.heap x ox C none:=⟨hx,hcl,by unfold PySem.W.notCls;rw [hd],by rw [hdi];trivial⟩
 obtain ⟨cd,hc,_,hdct⟩:=c.mro
 refine PySem.W.set_plain X I c.sa (Y9 (s:={s with toks:=s.toks+1}) c X I hn ?_)
 obtain ⟨oc,odi,oda,osl⟩:=ox
 dsimp only at hcl hdi hd
 subst hcl hdi hd
 refine S8 (S9 (S8 (S8 (wpAny_loadPart hx (S8 (PySem.W.Looks.here (s:={s with toks:=s.toks+1}) (PySem.W.looks_clsIn X hc) ?_))))))
 rw [hdct]
 dsimp only
 simp only [Bool.not_true,Bool.false_eq_true,if_false,typeHasDict,Bool.or_false]
 have e1:(s.heap.push {cls:=.type "dict",data:=.dict #[]}).get? x=some ⟨.ref C,none,.fields vs,osl⟩:=yj _ hx
 have nx:s.heap.objs.size≠x:=yau (yg hx)
 have n0:(s.heap.push {cls:=.type "dict",data:=.dict #[]}).Ns s.heap.objs.size (λ_=>none):=⟨_,#[],_,yr s.heap rfl,rfl,(λe he=>absurd he (by simp)),λ_=>rfl⟩
 refine S8 (wpAny_alloc (S8 (wpAny_update e1 ?_)))
 have e2:=ybh (λo=>{o with dict:=some s.heap.objs.size}) e1 rfl
 have n1:((s.heap.push {cls:=.type "dict",data:=.dict #[]}).update x λo=>{o with dict:=some s.heap.objs.size}).Ns1 s.heap.objs.size (λ_=>none):=
  (Heap.Ns1.of_empty n0).at λo q=>by rw [yaz _ _ (ym nx)];exact q
 refine S9 (S8 (S9 (S8 ?_)))
 refine wpAny_nsSet1 n1 λh' n2 sb=>?_
 obtain ⟨oD,esD,epD,hoD,hdD,hcD⟩:=n2.count (PySem.Within.cons name v PySem.Within.nil)
 refine S8 (wpAny_lookBehind hoD (by rw [hdD];exact pastItsLine_dict (yz hcD (Nat.le_add_left 1 Sa))) ?_)
 refine S9 (h h' (λb u hb q=>?_) ((sb.2 _ (ym nx)).trans e2) n2)
 have nb:b≠s.heap.objs.size:=yn (yg q)
 rw [sb.2 b nb,yaz _ _ (ym hb)]
 exact yj _ q
theorem Jx4 {vs:Array S6} {dx:S5} {mA:Str->Option S6} {ns:List Str} {Q:Unit->S7->Prop} (c:Sai K C W fI) (X:K.In s.heap) (hx:s.heap.get? x=some ox) (hcl:ox.cls= .ref C) (hdi:ox.dict=some dx) (hd:ox.data= .fields vs) (hn:Sk K (.ref C) name=some none)
  (n1:s.heap.Ns1 dx mA) (hw:PySem.Within mA ns) (hsz:ns.length<=1000)
  (h:∀h',yap dx s.heap h'->h'.Ns1 dx (λy=>if y=name then some v else mA y)->Q () {s with heap:=h',toks:=s.toks+2}):
  Sh (model prog w) A (setAttr (.ref x) name v) Q E s:=by
 obtain ⟨oD0,hoD0,_⟩:=Jrp n1
 have I:PySem.W.InstAt s.heap x ox C (some oD0):=⟨hx,hcl,by unfold PySem.W.notCls;rw [hd],by rw [hdi];exact hoD0⟩
 obtain ⟨cd,hc,_,hdct⟩:=c.mro
 refine PySem.W.set_plain X I c.sa (Y9 (s:={s with toks:=s.toks+1}) c X I hn ?_)
 obtain ⟨oc,odi,oda,osl⟩:=ox
 dsimp only at hcl hdi hd
 subst hcl hdi hd
 refine S8 (S9 (S8 (S8 (wpAny_loadPart hx (S8 (PySem.W.Looks.here (s:={s with toks:=s.toks+1}) (PySem.W.looks_clsIn X hc) ?_))))))
 rw [hdct]
 refine S9 (a:=some dx) (S8 (S9 (S8 ?_)))
 refine wpAny_nsSet1 (s:={s with toks:=s.toks+1}) n1 λh' n2 sb=>?_
 obtain ⟨oD,esD,epD,hoD,hdD,hcD⟩:=n2.count (PySem.Within.cons name v hw)
 refine S8 (wpAny_lookBehind hoD (by rw [hdD];exact pastItsLine_dict (yz hcD (by rw [yaj,sizeLine_eq];omega))) ?_)
 exact S9 (h h' sb n2)
end
abbrev Jyj (us:List S6):Obj:={cls:=.type "tuple",data:=.seq us.toArray}
abbrev Sha (C:S5) (t:S5):Obj:={cls:=.ref C,data:=.fields #[.ref t,.none,.none,.none,.bool false,.none]}
section
variable {prog:Sb} {w:Sd} {A:Se} {E:S6->S7->Prop} {K:Si} {C W fI:S5} {us:List S6} {hp:Sg} {g:Array GenState} {d:Drawn} {t:Nat} {os:OsState}
theorem Yb {Q:PySem.Fin->S7->Prop} (c:Sai K C W fI) (X:K.In hp) (hz:us.length<=Sa)
  (h:Sh (model prog w) A (call (.ref fI) (.ref (hp.objs.size+1)::us)) (λr s'=>r= .none/\Q (.done (.ret (.ref (hp.objs.size+1)))) s') E ⟨(hp.push (Jyj us)).push (Sha C hp.objs.size),g,d,t,os⟩):
  Sh (model prog w) A (Builtin.«type.__call__» ⟨.ref C::us,[]⟩) Q E ⟨hp,g,d,t,os⟩:=by
 obtain ⟨nm,q,N,bs,sn,sub,ab,col,dd,k0,k1,k2,k3,k5,l⟩:=c.obj
 have FV:=F.excBase_ValueError
 have kC:=X _ _ l
 have TL:OwnTail hp VEm (.ref W::VEm):=PySem.W.tail_of_in X c.tl
 have up:∀b o,hp.get? b=some o->((hp.push (Jyj us)).push (Sha C hp.objs.size)).get? b=some o:=λb o e=>yj _ (yj _ e)
 have gE:((hp.push (Jyj us)).push (Sha C hp.objs.size)).get? (hp.objs.size+1)=some ({cls:=.ref C,data:=.fields #[.ref hp.objs.size,.none,.none,.none,.bool false,.none]}:Obj):=Heap.get?_push_at (by simp only [yak]) rfl
 have X2:=X.keeps up
 have kC2:=X2 _ _ l
 have hcC:(Value.ref C:: .ref W::VEm).contains (.ref C)=true:=by simp
 repeat (first|with_reducible refine wpAny_loadPart_at kC ?_|with_reducible refine wpAny_madeBy_exc kC ?_|wp_step)
 refine codeAny_call_builtin_code (Code.quiet_builtin _ FV.quiet) (wpAny_check_new_subT FV TL kC (codeAny_exc_new_subT FV TL kC ?_ hz))
 show Sh _ _ _ _ _ _
 unfold isInstance
 repeat (first|with_reducible refine wpAny_loadPart_at gE ?_|(with_reducible refine wpAny_isSubtype_exc kC2 ?_;rw [hcC])|wp_step)
 show Sh _ _ (typeLookup (.ref C) _) _ _ _
 refine (PySem.W.looks_findIn X2 c.ini).at (wpAny_holding (S8 ((PySem.W.bind_fn X2 _ c.fn).at ?_)))
 refine S8 (wpAny_mono h (λr s' hr=>?_) λ_ _ z=>z)
 obtain ⟨rfl,hQ⟩:=hr
 wp_walk
 exact hQ
theorem Yb2 {s:S7} {Q:S6->S7->Prop} (c:Sai K C W fI) (X:K.In s.heap) (hz:us.length<=Sa)
  (h:Sh (model prog w) (A.under (.builtin "type.__call__" ⟨.ref C::us,[]⟩)) (call (.ref fI) (.ref (s.heap.objs.size+1)::us)) (λr s'=>r= .none/\Q (.ref (s.heap.objs.size+1)) s') E {s with heap:=(s.heap.push (Jyj us)).push (Sha C s.heap.objs.size)}):
  Sh (model prog w) A (call (.ref C) us) Q E s:=by
 obtain ⟨hp,g,d,t,os⟩:=s
 obtain ⟨nm,q,N,bs,sn,sub,ab,col,dd,k0,k1,k2,k3,k5,l⟩:=c.obj
 have kC:=X _ _ l
 have v1:=tc_lookup
 have v2:=tc_bind (.ref C)
 have hT:(⟨hp,g,d,t,os⟩:S7).TypeIs (.ref C) "type" :=⟨_,kC,rfl⟩
 refine wpAny_call (codeAny_of_tree ?_)
 show Sh _ _ (callAny (.ref C) _) _ _ _
 repeat (any_goals (first|assumption|with_reducible refine wpAny_loadPart_at kC ?_|wp_step))
 exact ⟨rfl,codeAny_call_builtin_at (Code.quiet_builtin _ (by decide +kernel)) entry_typeCall (wpAny_check_type_call_sub kC (Yb c X hz h))⟩
end
end L2
namespace L2
open PySem PySem.Spec PyProof.Rows
def XO (e C:S5) (dx:Option S5) (fr:Bool):HO:=.ext λh=>∃o vs,h.get? e=some o/\o.cls= .ref C/\o.dict=dx/\o.data= .fields vs/\(∃t,vs[0]?=some (.ref t))/\∃y,vs[1]?=some y/\(fr=true->y= .none)
def XD (dx:S5) (fs:List (Str×V)):HO:=.ext λh=>∃mA,h.Ns1 dx mA/\(∀f,Sd7 (fs.lookup f) (mA f))/\PySem.Within mA (fs.map (·.1))/\fs.length<=1000
section
variable {P:Sb} {w:Sd} {H:Hp} {h:Sg} {e C dx:S5} {od:Option S5} {fr:Bool} {fs:List (Str×V)}
theorem Yd {o:Obj} {vs:Array S6} (he:h.get? e=some o) (h1:o.cls= .ref C) (h2:o.dict=od) (h3:o.data= .fields vs) (h4:∃t,vs[0]?=some (.ref t)) (h5:∃y,vs[1]?=some y/\(fr=true->y= .none)):Sah P w H h e (XO e C od fr):=
 ⟨⟨o,vs,he,h1,h2,h3,h4,h5⟩,⟨o,he⟩,λ_ _ ⟨o,vs,a,r⟩ k=>⟨o,vs,k o a,r⟩⟩
theorem Jt2 (hok:HOk P w H h) (q:H e=some (XO e C od fr)):∃o vs,h.get? e=some o/\o.cls= .ref C/\o.dict=od/\o.data= .fields vs/\(∃t,vs[0]?=some (.ref t))/\∃y,vs[1]?=some y/\(fr=true->y= .none):=(hok e _ q).1
theorem Siy {mA:Str->Option S6} (n:h.Ns1 dx mA) (r:∀f,Sd7 (fs.lookup f) (mA f)) (w':PySem.Within mA (fs.map (·.1))) (z:fs.length<=1000):Sah P w H h dx (XD dx fs):=
 ⟨⟨mA,n,r,w',z⟩,(let ⟨o,_,_,q,_⟩:=n;⟨o,q⟩),λ_ _ ⟨m,a,r⟩ k=>⟨m,a.at k,r⟩⟩
theorem Yc (hok:HOk P w H h) (q:H dx=some (XD dx fs)):∃mA,h.Ns1 dx mA/\(∀f,Sd7 (fs.lookup f) (mA f))/\PySem.Within mA (fs.map (·.1))/\fs.length<=1000:=(hok dx _ q).1
theorem Yb3 (hok:HOk P w H h) (q:H e=some (XO e C (some dx) fr)) (qd:H dx=some (XD dx fs)):∃(ox oD:Obj) (mA:Str->Option S6),PySem.W.InstAt h e ox C (some oD)/\(∀n,PySem.W.lookIn n oD=some (mA n))/\∀f,Sd7 (fs.lookup f) (mA f):=by
 obtain ⟨o,vs,he,hc,hd,hf,_⟩:=Jt2 hok q
 obtain ⟨mA,n1,r,_⟩:=Yc hok qd
 obtain ⟨oD,hD,hl⟩:=Jrp n1
 exact ⟨o,oD,mA,⟨he,hc,by unfold PySem.W.notCls;rw [hf],by rw [hd];exact hD⟩,hl,r⟩
end
section
variable {X:Cx} {pins:List (S5×Obj)} {σ:St} {H:Hp} {s:S7} {e C W fI dx:S5} {fs:List (Str×V)} {fr:Bool} {f:Str} {v:V} {A:Se} {E:S6->S7->Prop}
theorem Ye {y:V} {u:S6} {Q:Unit->S7->Prop} (I:Sv X pins σ H s) (q:H e=some (XO e C none fr)) (c:Sai X.K C W fI) (n:NoAttr X.K C f) (ry:Sa7 y u)
  (h:∀dx s',H dx=none->dx≠e->Sv X pins σ (upd (upd H dx (XD dx [(f,y)])) e (XO e C (some dx) fr)) s'->Q () s'):Sh (model X.prog X.w) A (setAttr (.ref e) f u) Q E s:=by
 obtain ⟨o,vs,he,hc,hd,hf,h0,h1⟩:=Jt2 I.hok q
 have ne:s.heap.objs.size≠e:=yau (yg he)
 have hn:H s.heap.objs.size=none:=I.hok.fresh (yh _)
 refine Jx3 c I.kIn he hc hd hf n λh' kp ke n1=>h s.heap.objs.size _ hn ne ?_
 have hD:h'.get? s.heap.objs.size≠none:=by obtain ⟨oD,_,_,q1,_⟩:=n1;rw [q1];exact λz=>nomatch z
 have qd:∀m:Hp,Sah X.prog X.w m h' s.heap.objs.size (XD s.heap.objs.size [(f,y)]):=λm=>Siy n1 (λg=>by
  by_cases z:g=f
  ·have zb:(g==f)=true:=beq_iff_eq.mpr z
   simp only [yaw,zb,if_pos z];exact ry
  ·have zb:(g==f)=false:=beq_eq_false_iff_ne.mpr z
   simp only [yaw,zb,if_neg z];exact True.intro) (λg hg=>by
  by_cases z:g=f
  ·rw [z];simp
  ·exact absurd (if_neg z) hg) (by simp)
 have un1:Un X.fs [] H (upd (upd H s.heap.objs.size (XD s.heap.objs.size [(f,y)])) e (XO e C (some s.heap.objs.size) fr)) s.heap h':=by
  have nb:∀b ob,s.heap.get? b=some ob->b≠s.heap.objs.size:=λb ob z=>yn (yg z)
  have sm:∀b u',H b=some u'->u'≠XO e C none fr->upd (upd H s.heap.objs.size (XD s.heap.objs.size [(f,y)])) e (XO e C (some s.heap.objs.size) fr) b=some u':=λb u' z d=>by
   rw [Jkt (λw':b=e=>d (by rw [w',q] at z;exact (yy.inj z).symm)),Jkt (Jkw z hn)];exact z
  refine ⟨λb ob z n _ _=>kp b ob (λw'=>by rw [w',q] at n;cases n) z,λb ob z n _ _=>⟨ob.slots,kp b ob (λw'=>by rw [w',q] at n;cases n) z⟩,λb ob z n _=>?_,λb ob z _=>?_,λb xs z=>sm b _ z (λw'=>by cases w'),λb ob u' z=>sm b _ z (λw'=>by cases w'),λb ps z=>⟨#[],by rw [sm b _ z (λw'=>by cases w')];simp⟩⟩
  ·rw [Jkt (λw'=>by rw [w',q] at n;cases n),Jkt (nb b ob z)];exact n
  ·by_cases w':b=e
   ·exact ⟨_,by rw [w'];exact ke⟩
   ·exact ⟨ob,kp b ob w' z⟩
 refine I.un (t':=s.toks+2) un1 λb ob z=>?_
 by_cases w1:b=e
 ·subst w1
  rw [Sy] at z;cases z
  exact Yd ke hc rfl hf h0 h1
 ·rw [Jkt w1] at z
  by_cases w2:b=s.heap.objs.size
  ·subst w2
   rw [Sy] at z;cases z
   exact qd _
  ·rw [Jkt w2] at z
   have keep:∀c' u',H c'=some u'->u'≠XO e C none fr->upd (upd H s.heap.objs.size (XD s.heap.objs.size [(f,y)])) e (XO e C (some s.heap.objs.size) fr) c'=some u':=λc' u' zz d=>by
    rw [Jkt (λw':c'=e=>d (by rw [w',q] at zz;exact (yy.inj zz).symm)),Jkt (Jkw zz hn)];exact zz
   refine (I.hok b ob z).stay (λc' v' hc' zz=>kp c' v' ?_ zz) (λc' zz=>keep c' _ zz (λw'=>by cases w')) (λc' xs zz=>keep c' _ zz (λw'=>by cases w')) λc' xs zz=>keep c' _ zz (λw'=>by cases w')
   rcases hc' with rfl|hc'
   ·exact w1
   ·rintro rfl;rw [q] at hc';cases hc'
theorem Yf {y:V} {u:S6} {Q:Unit->S7->Prop} (I:Sv X pins σ H s) (q:H e=some (XO e C (some dx) fr)) (qd:H dx=some (XD dx fs)) (c:Sai X.K C W fI) (n:NoAttr X.K C f) (hz:fs.length < 1000) (ry:Sa7 y u)
  (h:∀s',Sv X pins σ (upd H dx (XD dx (Jm8 f y fs))) s'->Q () s'):Sh (model X.prog X.w) A (setAttr (.ref e) f u) Q E s:=by
 obtain ⟨o,vs,he,hc,hd,hf,h0,h1⟩:=Jt2 I.hok q
 obtain ⟨mA,n1,r,wi,zl⟩:=Yc I.hok qd
 refine Jx4 c I.kIn he hc hd hf n n1 wi (by rw [yf];omega) λh' sb n2=>h _ ?_
 refine I.write (x:=dx) (e:=dx) (t':=s.toks+2) (by rw [qd];exact True.intro) (.inl rfl) (λb u' hb z=>(sb.2 b hb).trans z) (let ⟨oD,_,_,q1,_⟩:=n2;⟨oD,q1⟩) ?_
 refine Siy n2 (λg=>?_) (λg hg=>?_) (by have:=Jp4 f y fs;omega)
 ·rw [Jp5]
  by_cases z:g=f
  ·rw [if_pos z,if_pos z];exact ry
  ·rw [if_neg z,if_neg z];exact r g
 ·by_cases z:g=f
  ·rw [z];exact (Joh f y fs).1
  ·exact (Joh f y fs).2 g (wi g λz2=>hg (by show (if g=f then some u else mA g)=none;rw [if_neg z];exact z2))
theorem Sv.xmade {us:List S6} (I:Sv X pins σ H s):Sv X pins σ (upd H (s.heap.objs.size+1) (XO (s.heap.objs.size+1) C none true)) {s with heap:=(s.heap.push (Jyj us)).push (Sha C s.heap.objs.size)}:=by
 have I1:=I.kept (h':=s.heap.push (Jyj us)) (t':=s.toks) λb u q=>yj _ q
 refine I1.laid (a:=s.heap.objs.size+1) (t':=s.toks) (λb u q=>yj _ q) (Nat.le_of_eq (yak _ _)) ?_
 exact Yd (Heap.get?_push_at (by simp only [yak]) rfl) rfl rfl rfl ⟨_,rfl⟩ ⟨_,rfl,λ_=>rfl⟩
end
def Sn1 (K:Si) (ta tv:TE) (f:Str):TS:=λD σ H=>tv σ H λy H1=>ta σ H1 λx H2=>∃e C W fI fr,x= .ref e/\H2 e=some (XO e C none fr)/\Sai K C W fI/\NoAttr K C f/\∀dx,H2 dx=none->dx≠e->
 D.nx σ (upd (upd H2 dx (XD dx [(f,y)])) e (XO e C (some dx) fr))
def Sn2 (K:Si) (ta tv:TE) (f:Str):TS:=λD σ H=>tv σ H λy H1=>ta σ H1 λx H2=>∃e C W fI dx fs fr,x= .ref e/\H2 e=some (XO e C (some dx) fr)/\H2 dx=some (XD dx fs)/\Sai K C W fI/\NoAttr K C f/\fs.length < 1000/\
 D.nx σ (upd H2 dx (XD dx (Jm8 f y fs)))
def Sni (C:S5) (sp:Sp) (t:TA):TE:=λσ H Q=>t σ H λvs H1=>vs.length<=1000/\∀e,H1 e=none->sp (.ref e::vs) (upd H1 e (XO e C none true)) (λv H2=>v= .non/\Q (.ref e) H2) E0
section
variable {X:Cx} {o e value:Expr} {f:Str} {pos pos' tpos p:Pos} {ta tv:TE} {C W fI:S5} {fd:Sc} {ps:List Str} {sp:Sp} {k j:Nat} {x:Str} {es:List Expr} {t:TA}
theorem Joa (ha:PE X o ta) (hv:PE X value tv) (hs:swapsWith value (some (.Attribute o f pos')) pos.line X.env=pure false):PS X (.Assign [.Attribute o f pos'] value pos) (Sn1 X.K ta tv f):=by
 intro pins s σ H D I h
 refine plainObj_wpAny_Assign_Attribute (thn (hv pins s σ H _ I h) λu s1 ⟨y,H1,I1,ry,q⟩=>thn (ha pins s1 σ H1 _ I1 q) λov s2 zq=>?_) hs
 obtain ⟨x,H2,I2,rx,a,C,W,fI,fr,ex,ea,c,n,q2⟩:=zq
 subst ex
 obtain rfl:ov=Value.ref a:=rx
 exact Ye I2 ea c n ry λdx s3 h1 h2 I3=>⟨σ,_,I3,q2 dx h1 h2⟩
theorem Ya5 (ha:PE X o ta) (hv:PE X value tv) (hs:swapsWith value (some (.Attribute o f pos')) pos.line X.env=pure false):PS X (.Assign [.Attribute o f pos'] value pos) (Sn2 X.K ta tv f):=by
 intro pins s σ H D I h
 refine plainObj_wpAny_Assign_Attribute (thn (hv pins s σ H _ I h) λu s1 ⟨y,H1,I1,ry,q⟩=>thn (ha pins s1 σ H1 _ I1 q) λov s2 zq=>?_) hs
 obtain ⟨x,H2,I2,rx,a,C,W,fI,dx,fs,fr,ex,ea,ed,c,n,z,q2⟩:=zq
 subst ex
 obtain rfl:ov=Value.ref a:=rx
 exact Yf I2 ea ed c n z ry λs3 I3=>⟨σ,_,I3,q2⟩
theorem Ya9 {pins:List (S5×Obj)} {σ:St} {H:Hp} {s:S7} {Q:VK} {us:List S6} {vs:List V} (c:Sai X.K C W fI) (G:Sx X.prog X.w X.K X.mg X.base CX0 k fI fd ps sp) (hr:Sam (k+1) X.A) (hb:Sb1 X.K fd ps []) (I:Sv X pins σ H s) (r:Sa1 vs us) (hz:vs.length<=1000)
  (h:∀e,H e=none->sp (.ref e::vs) (upd H e (XO e C none true)) (λv H2=>v= .non/\Q (.ref e) H2) E0):Sh (model X.prog X.w) X.A (call (.ref C) us) (EP X pins σ Q) X.xe s:=by
 have hq:=h (s.heap.objs.size+1) (I.hok.fresh (Nat.le_succ _))
 have I2:=Sv.xmade (C:=C) (us:=us) I
 have r2:Sa1 (V.ref (s.heap.objs.size+1)::vs) (Value.ref (s.heap.objs.size+1)::us):=.cons rfl r
 have hl:(Value.ref (s.heap.objs.size+1)::us++ []).length=ps.length:=by
  rw [yba,<-r2.length,G.len _ _ _ _ hq]
 refine Yb2 c I.kIn (by rw [<-r.length];exact yz hz (by decide)) (wpAny_call (codeAny_mono (G.run _ X.stack _ _ ⟨Value.ref (s.heap.objs.size+1)::us,[]⟩ (Value.ref (s.heap.objs.size+1)::us) _ _ E0 (hr.make C us [])
  (I2.env0.make C us []) (by have:=hb _ (Value.ref (s.heap.objs.size+1)::us) I2.kIn hl;rw [yba] at this;exact this) r2 hq) λr s' hq'=>?_))
 cases r with
 |error e=>exact False.elim hq'
 |ok fl=>
  cases fl with
  |ret u=>
   obtain ⟨v,H',I3,rv,ev,q3⟩:=I2.after hq'
   subst ev
   exact ⟨rv,⟨V.ref (s.heap.objs.size+1),H',I3,rfl,q3⟩⟩
  |next=>exact False.elim hq'
  |brk=>exact False.elim hq'
  |cont=>exact False.elim hq'
theorem Jmm (c:Sai X.K C W fI) (G:Sx X.prog X.w X.K X.mg X.base CX0 k fI fd ps sp) (hr:Sam j X.A) (hk:k+1<=j) (hb:Sb1 X.K fd ps []) (hm:X.mg x=some (.ref C)) (ha:PA X (e::es) t) (hg:Gl X x:=by rfl)
  (hdb:(x==("__debug__" :Str))=false:=by decide) (he:starEach (e::es) X.env=(false,eval e X.env)::starEach es X.env:=by rfl) (hpl:(backTo pos (starEach es X.env)).any (·.1)=false:=by rfl):
  PE X (.Call (.Name x p) (e::es) [] pos) (Sni C sp t):=by
 intro pins s σ H Q I h
 refine wpAny_Call_Name_kw (Jpq I hg hm ?_ hdb)
 refine PySem.W.callWith_K (h₀:=X.base) I.ok.mod.kin c.kp (thn (ha pos pins s σ H _ I h) λus s1 ⟨vs,H1,I1,r,z,q⟩=>⟨I1.kIn,?_⟩) he hpl
 exact Ya9 c G (hr.mono hk) hb I1 r z q
end
section
variable {K:Si} {C W fI:S5} {x:S5}
theorem Sru (c:Sai K C W fI):PySem.W.KitX K (.ref x) (.ref C) (λh=>∃ox od,PySem.W.InstAt h x ox C (some od)) where
 ty:=λ_ _ _ ⟨_,_,I⟩=>I.type
 it:=λ_ _ X _=>by
  obtain ⟨nm,q,N,bs,sn,sub,ab,col,dd,k0,k1,k2,k3,k5,l⟩:=c.obj
  intro A' Q' E' s' k q
  unfold isType loadHead
  exact S8 (wpAny_loadPart (k _ _ (X _ _ l)) (S9 q))
 ne:=λh tp dd its n sl X htp=>by
  obtain ⟨nm,q,N,bs,sn,sub,ab,col,dd,k0,k1,k2,k3,k5,l⟩:=c.obj
  refine Bool.eq_false_iff.mpr λz=>?_
  have e:C=tp:=Value.ref.inj (beq_iff_eq.mp z)
  subst e
  have z:=congrArg (Option.map (·.cls)) ((X _ _ l).symm.trans htp)
  simp at z
 ca:=λ{prog w A E Q s} X ⟨ox,od,I⟩ kq=>by
  have hf:PySem.W.findObj K C (some od) "__class__" =some (.bind (.builtin "getset_descriptor.__get__") (.builtin "object.__class__")):=PySem.W.findObj_data (by obtain ⟨cd,hc,_⟩:=c.mro;rw [hc];rfl) c.cl c.cg c.ct
  obtain ⟨hp,g,d,t,os⟩:=s
  have T0:=I.type (M:=model prog w)
  have T1:=PySem.W.looks_findIn (M:=model prog w) X c.ga
  have T2:=PySem.W.looks_findIn (M:=model prog w) X c.gh
  unfold getAttr? getAttrBy? getAttrBy
  refine S8 (wpAny_mkText (S8 (wpAny_attempt (wpAny_holding (S8 (T0.at (S8 (T1.at ?_))))))))
  show Sh _ _ (getAttrByItsOwn (.ref x) _ (.ref C) _ _ _) _ _ _
  unfold getAttrByItsOwn
  refine S8 (show Sh _ _ (typeLookup (.ref C) "__getattr__") _ _ _ from T2.at ?_)
  show Sh _ _ ((holding _ (boundAndCalled (.builtin "BaseException.__getattribute__") (.ref x) (.str "__class__" t))).attempt >>=_) _ _ _
  unfold boundAndCalled
  rw [F.excAttr_ValueError.ga.bind]
  refine S8 (wpAny_attempt (wpAny_holding (S8 (S9 (wpAny_call (Yb0 (s:=⟨hp,g,d,t+1,os⟩) c X I hf ?_ (λz=>nomatch z)))))))
  show Sh _ _ (holding [_] (call _ [_,.ref x,.ref C]) >>=ret) _ _ _
  refine S8 (wpAny_holding (wpAny_call (PySem.W.class_get (s:=⟨hp,g,d,t+1,os⟩) X I c.mo (S9 ?_))))
  show Sh _ _ (handedOut (.ref C)) _ _ _
  rw [PySem.W.handedOut_of rfl]
  exact S9 (S9 kq)
end
section
variable {M:Model} {A:Se} {E:S6->S7->Prop} {s:S7} {env:Env} {outer:List Env} {base:Sg} {L e T:S5} {oe oT:Obj} {vs ts:Array S6} {Q:Unit->S7->Prop}
theorem Ju0 {head:S6} {hadNext:Bool} (hfr:A.frames=some (env::outer)) (hl:s.heap.FunFrames base (env::outer)) (hf:env.frame=some L) (he:s.heap.get? e=some oe) (hd:oe.data= .fields vs) (hz:1 < vs.size)
  (hQ:∀h' T,(∀b o,s.heap.get? b=some o->b∉frs (env::outer)->b≠e->h'.get? b=some o)->(∀b o,s.heap.get? b=some o->b≠e->∃sl,h'.get? b=some {o with slots:=sl})->s.heap.objs.size<=T->
   h'.get? e=some (oe.mapFields (·.setIfInBounds 1 (.ref T)))->(∃oT ts,h'.get? T=some oT/\oT.data= .fields ts/\ts[3]?=some (rawInt L))->Q () {s with heap:=h'}):
  Sh M A (do let a<-frameOf env;let pl<-entryPlaceOf L hadNext;let b<-EntryCells.newEntry head a .none (rawInt L) .none pl;setField (.ref e) 1 b) Q E s:=by
 have hen:e∉frs (env::outer):=λz=>by
  obtain ⟨_,o,ho,nf⟩:=hl.mem z
  rw [he] at ho
  cases ho
  exact nf vs hd
 refine S8 (wpAny_frameOf_fun hfr hl hf λh1 sl1=>S8 (wpAny_entryPlaceOf λpl hpl=>?_))
 unfold EntryCells.newEntry newFields
 have he1:h1.get? e=some oe:=(sl1.2.1 e hen).trans he
 have nT:h1.objs.size≠e:=yau (yg he1)
 refine S8 (wpAny_newObj_type (wpAny_setField (yj _ he1) hd hz (hQ _ h1.objs.size (λb o hb hn ne=>?_) (λb o hb ne=>?_) (Nat.le_of_eq sl1.1.symm) (ybh _ (yj _ he1) (Obj.isFreed_of_fields (Obj.data_mapFields hd _))) ?_)) (hpl.sizeOk5 _ _ _ _ _))
 ·rw [yaz _ _ (ym ne)]
  exact yj _ ((sl1.2.1 b hn).trans hb)
 ·obtain ⟨sl,q⟩:=sl1.2.2 b o hb
  exact ⟨sl,by rw [yaz _ _ (ym ne)];exact yj _ q⟩
 ·refine ⟨_,_,(yaz _ _ (ym nT)).trans (yr h1 rfl),rfl,?_⟩
  first|(simp;done)|(rcases hpl with rfl|⟨_,_,_,_,_,_,_,rfl⟩ <;> simp)
theorem Jwp (hfr:A.frames=some (env::outer)) (hl:s.heap.FunFrames base (env::outer)) (hf:env.frame=some L) (he:s.heap.get? e=some oe) (hd:oe.data= .fields vs) (h1:vs[1]?=some .none)
  (hQ:∀h' T,(∀b o,s.heap.get? b=some o->b∉frs (env::outer)->b≠e->h'.get? b=some o)->(∀b o,s.heap.get? b=some o->b≠e->∃sl,h'.get? b=some {o with slots:=sl})->s.heap.objs.size<=T->
   h'.get? e=some (oe.mapFields (·.setIfInBounds 1 (.ref T)))->(∃oT ts,h'.get? T=some oT/\oT.data= .fields ts/\ts[3]?=some (rawInt L))->Q () {s with heap:=h'}):
  Sh M A (noteFrame (.ref e) env) Q E s:=by
 unfold noteFrame
 simp only [hf]
 refine S8 (wpAny_field he hd h1 ?_)
 rw [if_neg (by decide:¬(Value.none !=Value.none)=true)]
 exact Ju0 hfr hl hf he hd (ybi.mp h1).1 hQ
theorem Jy1 (hfr:A.frames=some (env::outer)) (hl:s.heap.FunFrames base (env::outer)) (hf:env.frame=some L) (he:s.heap.get? e=some oe) (hd:oe.data= .fields vs) (h1:vs[1]?=some (.ref T))
  (hT:s.heap.get? T=some oT) (hdT:oT.data= .fields ts) (h3:ts[3]?=some .none) (ne:T≠e)
  (hQ:∀h' T',(∀b o,s.heap.get? b=some o->b∉frs (env::outer)->b≠e->b≠T->h'.get? b=some o)->(∀b o,s.heap.get? b=some o->b≠e->b≠T->∃sl,h'.get? b=some {o with slots:=sl})->s.heap.objs.size<=T'->
   h'.get? e=some (oe.mapFields (·.setIfInBounds 1 (.ref T')))->(∃oT ts,h'.get? T'=some oT/\oT.data= .fields ts/\ts[3]?=some (rawInt L))->Q () {s with heap:=h'}):
  Sh M A (noteFrame (.ref e) env) Q E s:=by
 unfold noteFrame
 simp only [hf]
 refine S8 (wpAny_field he hd h1 ?_)
 rw [if_pos (by simp:(Value.ref T !=Value.none)=true)]
 refine S8 (wpAny_field hT hdT h3 ?_)
 rw [if_neg (by simp [rawInt]:¬(Value.none==rawInt L)=true)]
 have ot:∀b,b≠T->(s.heap.update T (Obj.mapFields (·.setIfInBounds 3 Value.none))).get? b=s.heap.get? b:=λb hb=>yaz _ _ (ym hb)
 have nr:∀b o,s.heap.get? b=some o->(∀ws,o.data≠ .fields ws)->b≠T:=λb o hb nf z=>by
  rw [z,hT] at hb
  cases hb
  exact nf ts hdT
 refine S8 (wpAny_setField hT hdT (ybi.mp h3).1 ?_)
 refine Ju0 (s:={s with heap:=s.heap.update T (Obj.mapFields (·.setIfInBounds 3 Value.none))}) hfr (hl.of_keeps λb o hb nf=>⟨o,(ot b (nr b o hb nf)).trans hb,rfl⟩) hf ((ot e (ym ne)).trans he) hd (ybi.mp h1).1 λh' T' k1 k2 k3 k4 k5=>?_
 refine hQ h' T' (λb o hb hn h1 h2=>k1 b o ((ot b h2).trans hb) hn h1) (λb o hb h1 h2=>k2 b o ((ot b h2).trans hb) h1) ?_ k4 k5
 have z:(s.heap.update T (Obj.mapFields (·.setIfInBounds 3 Value.none))).objs.size=s.heap.objs.size:=Heap.size_after_update ..
 rw [<-z];exact k3
end
def Flt (X:Cx) (pins:List (S5×Obj)) (H:Hp) (h:Sg) (e:S5) (fl:S6):Prop:=
 ∃oe vs T oT ts,h.get? e=some oe/\oe.data= .fields vs/\vs[1]?=some (.ref T)/\H T=none/\h.get? T=some oT/\oT.data= .fields ts/\ts[3]?=some fl/\X.s₀.heap.objs.size<=T/\∀p∈X.pn++pins,p.1≠T
def Yh (X:Cx):Prop:=X.stack=X.env::X.outer/\X.env.frame=some X.env.locals
section
variable {X:Cx} {pins:List (S5×Obj)} {σ:St} {H:Hp} {s:S7} {e C:S5} {od:Option S5} {fr fr':Bool} {A:Se} {M:Model} {E:S6->S7->Prop} {Q:Unit->S7->Prop} {fl:S6} {h':Sg}
theorem Sv.freeOf (I:Sv X pins σ H s) {b:S5} {o:Obj} {ts:Array S6} (hb:s.heap.get? b=some o) (hd:o.data= .fields ts):b≠X.env.locals/\∀x c,X.env.cells.lookup x=some c->c≠b:=by
 refine ⟨λz=>?_,λx c e z=>?_⟩
 ·obtain ⟨m,⟨o',es,ep,ho',hd',_⟩,_⟩:=I.loc
  rw [z,ho'] at hb;cases hb;rw [hd'] at hd;cases hd
 ·obtain ⟨v,o',ho',hd'⟩:=I.cell x c e
  rw [z,hb] at ho';cases ho';rw [hd] at hd';cases hd'
theorem Sv.fly {ch:List S5} (I:Sv X pins σ H s) (q:H e=some (XO e C od fr)) (hch:∀b∈ch,X.s₀.heap.objs.size<=b/\H b=none/\(∃o ts,s.heap.get? b=some o/\o.data= .fields ts)/\∀p∈X.pn++pins,p.1≠b)
  (k:∀b o,s.heap.get? b=some o->b∉frs X.stack->b≠e->b∉ch->h'.get? b=some o) (ks:∀b o,s.heap.get? b=some o->b≠e->b∉ch->∃sl,h'.get? b=some {o with slots:=sl})
  (new:Sah X.prog X.w (upd H e (XO e C od fr')) h' e (XO e C od fr')):Sv X pins σ (upd H e (XO e C od fr')) {s with heap:=h'}:=by
 have ne:∀b u,H b=some u->u≠XO e C od fr->b≠e:=λb u z d w'=>d (by rw [w',q] at z;exact (yy.inj z).symm)
 have nn:∀b,H b=none->b≠e:=λb z w'=>by rw [w',q] at z;cases z
 have u:Un (frs X.stack) ch H (upd H e (XO e C od fr')) s.heap h':=by
  refine ⟨λb o hb n hs hc=>k b o hb hs (nn b n) hc,λb o hb n _ hc=>ks b o hb (nn b n) hc,λb o _ n _=>by rw [Jkt (nn b n)];exact n,λb o hb hc=>?_,λb xs z=>?_,λb o u z=>?_,λb ps z=>⟨#[],?_⟩⟩
  ·by_cases w':b=e
   ·rw [w'];exact new.2.1
   ·obtain ⟨sl,z⟩:=ks b o hb w' hc
    exact ⟨_,z⟩
  ·rw [Jkt (ne b _ z (λw'=>by cases w'))];exact z
  ·rw [Jkt (ne b _ z (λw'=>by cases w'))];exact z
  ·rw [Jkt (ne b _ z (λw'=>by cases w')),z];simp
 refine I.call (g':=s.gens) (d':=s.drawn) (t':=s.toks) (ch:=ch) u (λb o z=>?_) I.bare λb hb=>?_
 ·by_cases w':b=e
  ·subst w'
   rw [Sy] at z;cases z
   exact new
  ·rw [Jkt w'] at z
   refine (I.hok b o z).stay (λc v hc zz=>k c v zz ?_ ?_ ?_) (λc zz=>by rw [Jkt (ne c _ zz (λw'=>by cases w'))];exact zz) (λc xs zz=>by rw [Jkt (ne c _ zz (λw'=>by cases w'))];exact zz) λc xs zz=>by rw [Jkt (ne c _ zz (λw'=>by cases w'))];exact zz
   ·intro hs
    have:=I.stkFree c hs
    rcases hc with rfl|hc
    ·rw [this] at z;cases z
    ·rw [this] at hc;cases hc
   ·rcases hc with rfl|hc
    ·exact w'
    ·exact ne c _ hc (λw'=>by cases w')
   ·intro hb
    have:=(hch c hb).2.1
    rcases hc with rfl|hc
    ·rw [this] at z;cases z
    ·rw [this] at hc;cases hc
 ·obtain ⟨h1,_,⟨o,ts,ho,hd⟩,h4⟩:=hch b hb
  exact ⟨.inr h1,(I.freeOf ho hd).1,(I.freeOf ho hd).2,h4⟩
theorem Yz (I:Sv X pins σ H s) (hs:Yh X) (hA:A.frames=some X.stack) (q:H e=some (XO e C od fr)) (hfl:fr=true\/Flt X pins H s.heap e .none)
  (h:∀s',Sv X pins σ (upd H e (XO e C od false)) s'->Flt X pins (upd H e (XO e C od false)) s'.heap e (rawInt X.env.locals)->Q () s'):Sh M A (noteFrame (.ref e) X.env) Q E s:=by
 obtain ⟨o,vs,he,hc,hd,hf,⟨t0,h0⟩,y,h1,hy⟩:=Jt2 I.hok q
 have hA':A.frames=some (X.env::X.outer):=by rw [hA,hs.1]
 have FF:s.heap.FunFrames X.base (X.env::X.outer):=by rw [<-hs.1];exact I.stack
 have sub:∀b,b∉frs X.stack->b∉frs (X.env::X.outer):=λb z w'=>z (by rw [hs.1];exact w')
 have new:∀{h':Sg} {T:S5},h'.get? e=some (o.mapFields (·.setIfInBounds 1 (.ref T)))->Sah X.prog X.w (upd H e (XO e C od false)) h' e (XO e C od false):=λ{h' T} z=>by
  have hz:1 < vs.size:=(ybi.mp h1).1
  refine Yd z ((Obj.cls_mapFields _ _).trans hc) ?_ (Obj.data_mapFields hf _) ⟨t0,by rw [Array.getElem?_setIfInBounds_ne (by decide)];exact h0⟩ ⟨.ref T,by simp [hz],λz=>nomatch z⟩
  obtain ⟨_,_,dt,_⟩:=o
  cases dt <;> first|exact hd|cases hf
 have fin:∀{h':Sg} {T:S5},Sv X pins σ (upd H e (XO e C od false)) {s with heap:=h'}->s.heap.objs.size<=T->h'.get? e=some (o.mapFields (·.setIfInBounds 1 (.ref T)))->(∃oT ts,h'.get? T=some oT/\oT.data= .fields ts/\ts[3]?=some (rawInt X.env.locals))->Q () {s with heap:=h'}:=λ{h' T} J k3 k4 ⟨oT,ts,k5,k6,k7⟩=>by
  have hz:1 < vs.size:=(ybi.mp h1).1
  refine h _ J ⟨_,_,T,oT,ts,k4,Obj.data_mapFields hf _,by simp [hz],?_,k5,k6,k7,yz I.sz k3,λp hp z=>?_⟩
  ·rw [Jkt (λz=>absurd (yg he) (by rw [<-z];exact Nat.not_lt.mpr k3))]
   exact I.hok.fresh k3
  ·obtain ⟨z1,_⟩:=I.pin p hp
   exact absurd (yg z1) (by rw [z];exact Nat.not_lt.mpr k3)
 by_cases hfr:y= .none
 ·subst hfr
  refine Jwp hA' FF hs.2 he hf h1 λh' T k1 k2 k3 k4 k5=>fin (I.fly (ch:=[]) q (λb z=>absurd z (by simp)) (λb o hb hn ne _=>k1 b o hb (sub b hn) ne) (λb o hb ne _=>k2 b o hb ne) (new k4)) k3 k4 k5
 ·rcases hfl with z|⟨oe,ws,T,oT,ts,z1,z2,z3,z4,z5,z6,z7,z8,z9⟩
  ·exact absurd (hy z) hfr
  ·rw [he] at z1;cases z1
   rw [hf] at z2;cases z2
   have ne:T≠e:=λw'=>by rw [w',q] at z4;cases z4
   refine Jy1 hA' FF hs.2 he hf z3 z5 z6 z7 ne λh' T' k1 k2 k3 k4 k5=>fin (I.fly (ch:=[T]) q (λb hb=>?_) (λb o hb hn ne hc=>k1 b o hb (sub b hn) ne (by simpa using hc)) (λb o hb ne hc=>k2 b o hb ne (by simpa using hc)) (new k4)) k3 k4 k5
   obtain rfl:b=T:=by simpa using hb
   exact ⟨z8,z4,⟨oT,ts,z5,z6⟩,z9⟩
theorem Jxu (I:Sv X pins σ H s) (q:H e=some (XO e C od fr)) (hfl:Flt X pins H s.heap e fl) (h:∀s',Sv X pins σ H s'->Flt X pins H s'.heap e .none->Q () s'):Sh M A (setFlight (.ref e) none) Q E s:=by
 obtain ⟨oe,vs,T,oT,ts,z1,z2,z3,z4,z5,z6,z7,z8,z9⟩:=hfl
 have hz:3 < ts.size:=(ybi.mp z7).1
 have ne:T≠e:=λw'=>by rw [w',q] at z4;cases z4
 have ot:∀b,b≠T->(s.heap.update T (Obj.mapFields (·.setIfInBounds 3 Value.none))).get? b=s.heap.get? b:=λb hb=>yaz _ _ (ym hb)
 refine wpAny_setFlight_none z1 z2 z3 z5 z6 hz (h _ (I.turned (it:=T) (t':=s.toks) (λb o hb z=>(ot b hb).trans z) z4 (I.freeOf z5 z6).1 (.inr z8) (I.freeOf z5 z6).2 z9) ?_)
 exact ⟨oe,vs,T,_,_,(ot e (ym ne)).trans z1,z2,z3,z4,ybh _ z5 (Obj.isFreed_of_fields (Obj.data_mapFields z6 _)),Obj.data_mapFields z6 _,by simp [hz],z8,z9⟩
end
def CXX (P:Sb) (w:Sd):CXT:=λouter H s E ev s'=>∃e C dx H',ev= .ref e/\s'.os=s.os/\AllBare s'.gens/\Un (frs outer) [] H H' s.heap s'.heap/\HOk P w H' s'.heap/\H' e=some (XO e C (some dx) false)/\
 (∃oe vs T oT ts,s'.heap.get? e=some oe/\oe.data= .fields vs/\vs[1]?=some (.ref T)/\H' T=none/\s'.heap.get? T=some oT/\oT.data= .fields ts/\ts[3]?=some .none/\s.heap.objs.size<=T)/\E (.ref C) (some e) H'
def Jto (X:Cx) (R:St->XK):Prop:=∀pins σ H s e C dx fr,Sv X pins σ H s->H e=some (XO e C (some dx) fr)->(fr=true\/Flt X pins H s.heap e .none)->R σ (.ref C) (some e) (upd H e (XO e C (some dx) false))->X.xe (.ref e) s
theorem Jlw {P:Sb} {w:Sd} {K:Si} {mg:Str->Option S6} {base:Sg} {N:List Str} {qual:Str} {scope:Scope} {f:S5} {cd:S6} {A:Se} {outer:List Env} {s:S7} {H:Hp} {E:XK}:
  Jto (Jue (CXX P w) P w K mg base N qual scope f cd A outer s H E) (λ_=>E):=by
 intro pins σ H1 s1 e C dx fr I q hfl hE
 show Sh _ _ (leaving _ _) _ _ _
 unfold leaving
 refine S8 (Yz I ⟨rfl,rfl⟩ I.ok.frames q hfl λs2 I2 f2=>Jxu I2 Sy f2 λs3 I3 f3=>?_)
 obtain ⟨oe,vs,T,oT,ts,z1,z2,z3,z4,z5,z6,z7,z8,_⟩:=f3
 exact ⟨e,C,dx,_,rfl,I3.os,I3.bare,I3.base,I3.hok,Sy,⟨oe,vs,T,oT,ts,z1,z2,z3,z4,z5,z6,z7,z8⟩,hE⟩
theorem Skz {H:Hp} {a:S5} {o:HO} (h:H a=some o):upd H a o=H:=by
 funext b
 unfold upd
 split
 ·rename_i z;rw [z,h]
 ·rfl
section
variable {X:Cx} {pins:List (S5×Obj)} {σ:St} {H:Hp} {s s':S7} {R:St->XK} {ev:S6}
theorem Jxq (hw:Jto X R) (I:Sv X pins σ H s) (h:CXX X.prog X.w X.stack H s (R σ) ev s'):X.xe ev s':=by
 obtain ⟨e,C,dx,H',rfl,ho,hg,un,hok,q,⟨oe,vs,T,oT,ts,z1,z2,z3,z4,z5,z6,z7,z8⟩,hR⟩:=h
 have I':Sv X pins σ H' s':=I.call' (ch:=[]) ho un hok hg λb z=>absurd z (by simp)
 refine hw pins σ H' s' e C dx false I' q (.inr ⟨oe,vs,T,oT,ts,z1,z2,z3,z4,z5,z6,z7,yz I.sz z8,λp hp z=>?_⟩) (by rw [Skz q];exact hR)
 obtain ⟨y1,_⟩:=I.pin p hp
 exact absurd (yg y1) (by rw [z];exact Nat.not_lt.mpr z8)
end
theorem Sx.calm {P:Sb} {w:Sd} {K:Si} {mg:Str->Option S6} {base:Sg} {k:Nat} {f:S5} {fd:Sc} {ps:List Str} {sp:Sp} (G:Sx P w K mg base (CXX P w) k f fd ps sp):Sx P w K mg base CX0 k f fd ps (λvs H Q _=>sp vs H Q E0):=
 ⟨λvs H Q _ h=>G.len vs H Q E0 h,λA outer s H args us vs Q E hr he hb hv hs=>codeAny_mono (G.run A outer s H args us vs Q E0 hr he hb hv hs) λr s' hq=>by
  cases r with
  |error e=>obtain ⟨_,_,_,_,_,_,_,_,_,_,_,z⟩:=hq;exact z.elim
  |ok fl=>cases fl <;> exact hq⟩
theorem Fun.okX {P:Sb} {w:Sd} {K:Si} {mg:Str->Option S6} {base:Sg} {x qual:Str} {st:Sf} {f:S5} {fd:Sc} {N ps:List Str} {k:Nat} {sp:Sp} (F:Fun K x qual st f fd) (S:Jky N ps (Jku st)) (len:∀vs H Q E,sp vs H Q E->vs.length=ps.length)
  (hbody:∀(cdv:S6) (A:Se) (outer:List Env) (s:S7) (H:Hp) (vs:List V) (Q:VK) (E:XK),Sam k (A.deeper (envOfC qual (Jku st) s.heap.objs.size f cdv))->sp vs H Q E->
   ∃t,PSs (Jue (CXX P w) P w K mg base N qual (Jku st) f cdv A outer s H E) (Jmd st) t/\t {nx:=λ_ H'=>Q .non H',rt:=Q} (start N vs) H):Sx P w K mg base (CXX P w) (k+1) f fd ps sp:=by
 obtain ⟨oc,od,kV,doc,pm,an,cdv,ct,osl,rfl,lk,hcd⟩:=F.ex
 exact Sim lk hcd S len λA outer s H vs Q E hr hsp=>hbody cdv A outer s H vs Q E hr hsp
def Sks (sp:Sp) (R:St->XK) (t:TA):TE:=λσ H Q=>t σ H λvs H1=>sp vs H1 Q (R σ)
def Skt (C:S5) (sp:Sp) (R:St->XK) (t:TA):TE:=λσ H Q=>t σ H λvs H1=>∀x dx,H1 x=none->H1 dx=none->dx≠x->
 sp (.ref x::vs) (upd (upd H1 dx (.own x)) x (.ins C dx [])) (λv H2=>v= .non/\Q (.ref x) H2) (R σ)
section
variable {X:Cx} {k j:Nat} {f C:S5} {fd:Sc} {ps:List Str} {sp:Sp} {R:St->XK} {x m:Str} {p pos apos:Pos} {e o:Expr} {es:List Expr} {ta:TE} {t:TA}
theorem Yaa {pins:List (S5×Obj)} {σ:St} {H:Hp} {s:S7} {Q:VK} {us:List S6} {vs:List V} (G:Sx X.prog X.w X.K X.mg X.base (CXX X.prog X.w) k f fd ps sp) (hw:Jto X R) (hr:Sam k X.A) (hb:Sb1 X.K fd ps [])
  (I:Sv X pins σ H s) (r:Sa1 vs us) (h:sp vs H Q (R σ)):Sh (model X.prog X.w) X.A (call (.ref f) us) (EP X pins σ Q) X.xe s:=by
 have hl:(us++ []).length=ps.length:=by rw [yba,<-r.length,G.len _ _ _ _ h]
 have hb':=hb s us I.kIn hl
 rw [yba] at hb'
 refine wpAny_call (codeAny_mono (G.run X.A X.stack s H ⟨us,[]⟩ us vs Q (R σ) hr I.env0 hb' r h) λr s' hq=>?_)
 cases r with
 |error e=>exact Jxq hw I hq
 |ok fl=>
  cases fl with
  |ret u=>exact I.after hq
  |next=>exact False.elim hq
  |brk=>exact False.elim hq
  |cont=>exact False.elim hq
theorem Jo2 {st:Sf} (F:FT X.K X.mg x st ps f fd) (G:Sx X.prog X.w X.K X.mg X.base (CXX X.prog X.w) k f fd ps sp) (hw:Jto X R) (hr:Sam j X.A) (hk:k<=j) (ha:PA X (e::es) t) (hg:Gl X x:=by rfl)
  (hdb:(x==("__debug__" :Str))=false:=by decide) (he:starEach (e::es) X.env=(false,eval e X.env)::starEach es X.env:=by rfl) (hpl:(backTo pos (starEach es X.env)).any (·.1)=false:=by rfl):
  PE X (.Call (.Name x p) (e::es) [] pos) (Sks sp R t):=by
 intro pins s σ H Q I h
 refine wpAny_Call_Name_kw (Jpq I hg F.mgx ?_ hdb)
 refine PySem.W.callWith_K (h₀:=X.base) I.ok.mod.kin F.fn.kp (thn (ha pos pins s σ H _ I h) λus s1 ⟨vs,H1,I1,r,q⟩=>⟨I1.kIn,?_⟩) he hpl
 exact Yaa G hw (hr.mono hk) F.bd I1 r q
theorem Jze (Mk':Mk X.K C f) (G:Sx X.prog X.w X.K X.mg X.base (CXX X.prog X.w) k f fd ps sp) (hw:Jto X R) (hr:Sam j X.A) (hk:k+1<=j) (hb:Sb1 X.K fd ps []) (hm:X.mg x=some (.ref C)) (ha:PA X (e::es) t) (hg:Gl X x:=by rfl)
  (hdb:(x==("__debug__" :Str))=false:=by decide) (he:starEach (e::es) X.env=(false,eval e X.env)::starEach es X.env:=by rfl) (hpl:(backTo pos (starEach es X.env)).any (·.1)=false:=by rfl):
  PE X (.Call (.Name x p) (e::es) [] pos) (Skt C sp R t):=by
 intro pins s σ H Q I h
 refine wpAny_Call_Name_kw (Jpq I hg hm ?_ hdb)
 refine PySem.W.callWith_K (h₀:=X.base) I.ok.mod.kin Mk'.kp (thn (ha pos pins s σ H _ I h) λus s1 ⟨vs,H1,I1,r,q⟩=>⟨I1.kIn,?_⟩) he hpl
 have hq:=q (s1.heap.objs.size+1) s1.heap.objs.size (I1.hok.fresh (Nat.le_succ _)) (I1.hok.fresh (yh _)) (yn (ybl _))
 have I2:=Sv.made (C:=C) I1
 have r2:Sa1 (V.ref (s1.heap.objs.size+1)::vs) (Value.ref (s1.heap.objs.size+1)::us):=.cons rfl r
 have hl:(Value.ref (s1.heap.objs.size+1)::us++ []).length=ps.length:=by
  rw [yba,<-r2.length,G.len _ _ _ _ hq]
 refine wpAny_call (Jvn (f:=f) I1.kIn Mk'.makes Mk'.init (beq_iff_eq.mp Mk'.fn) (codeAny_mono (G.run _ X.stack _ _ ⟨Value.ref (s1.heap.objs.size+1)::us,[]⟩ (Value.ref (s1.heap.objs.size+1)::us) _ _ (R σ) ((hr.mono hk).make C us [])
  (I2.env0.make C us []) (by have:=hb _ (Value.ref (s1.heap.objs.size+1)::us) I2.kIn hl;rw [yba] at this;exact this) r2 hq) λr s' hq'=>?_))
 cases r with
 |error e=>exact Jxq hw I2 hq'
 |ok fl=>
  cases fl with
  |ret u=>
   obtain ⟨v,H',I3,rv,ev,q3⟩:=I2.after hq'
   subst ev
   exact ⟨rv,⟨V.ref (s1.heap.objs.size+1),H',I3,rfl,q3⟩⟩
  |next=>exact False.elim hq'
  |brk=>exact False.elim hq'
  |cont=>exact False.elim hq'
end
def Jzm (K:Si) (R:St->XK) (te:TE):TS:=λ_ σ H=>te σ H λv H1=>∃e C W fI dx,v= .ref e/\H1 e=some (XO e C (some dx) true)/\Sai K C W fI/\R σ (.ref C) (some e) (upd H1 e (XO e C (some dx) false))
section
variable {X:Cx} {R:St->XK} {x:Expr} {pos:Pos} {te:TE}
theorem Jlv (hw:Jto X R) (hc:X.calm=true) (hx:PE X x te):PS X (.Raise (some x) none pos) (Jzm X.K R te):=by
 intro pins s σ H D I h
 rw [arm_exec_Raise]
 refine S8 (wpAny_standAt ?_)
 show Sh _ _ (raiseStmt X.env (some (do let v<-eval x X.env;standAt pos;pure v)) none) _ _ _
 unfold raiseStmt
 refine S8 (S8 (thn (hx pins s σ H _ I h) λu s1 ⟨y,H1,I1,ry,e,C,W,fI,dx,ey,q,c,k⟩=>S8 (wpAny_standAt (S9 ?_))))
 subst ey
 obtain rfl:u=Value.ref e:=ry
 obtain ⟨o,vs,he,hcl,hd,hf,h0,y,h1,hy⟩:=Jt2 I1.hok q
 have hy':=hy rfl
 subst hy'
 have fin:X.xe (.ref e) s1:=hw pins σ H1 s1 e C dx true I1 q (.inl rfl) k
 have hh:X.A.handled=none:=I.ok.hd hc
 obtain ⟨nm,qn,N,bs,sn,sub,ab,col,dd,k0,k1,k2,k3,k5,l⟩:=c.obj
 have kC:=I1.kIn _ _ l
 have hcB:(Value.ref C:: .ref W::VEm).contains (.type "BaseException")=true:=by simp
 obtain ⟨oc,odi,oda,osl⟩:=o
 dsimp only at hcl hd hf
 subst hcl hd hf
 obtain ⟨hp,g,d,tk,os⟩:=s1
 repeat (first|with_reducible refine wpAny_loadPart_at he ?_|with_reducible refine wpAny_loadPart_at kC ?_|(with_reducible refine wpAny_isSubtype_exc kC ?_;rw [hcB])|with_reducible refine wpAny_field he rfl h1 ?_|wp_step)
 exact wpAny_raiseNew_none hh fin
end
structure Sp9 (K:Si) (C:S5):Prop where
 obj:∃(dd:Option S5) (cd:ClassData) (sl:Array (Option S6)),K.lookup C=some ⟨.type "type",dd,.cls cd,sl⟩
 mb:Sl K C (.type "BaseException")=some true
section
variable {prog:Sb} {w:Sd} {A:Se} {E:S6->S7->Prop} {s:S7} {K:Si} {e C C0:S5} {oe:Obj} {b:Bool}
end
section
variable {X:Cx} {pins pins':List (S5×Obj)} {σ:St} {H:Hp} {s:S7} {R:St->XK} {e:S5}
end
section
variable {X:Cx} {x n:Str} {np pos:Pos} {C0:S5} {i:Nat} {b₀:Sf} {suite:List Sf} {rest:List ExceptHandler} {ts:S5->TS} {th:TH}
end
structure FM (K:Si) (x qual:Str) (st:Sf) (ps:List Str) (f:S5) (fd:Sc):Prop where
 fn:Fun K x qual st f fd
 bd:Sb1 K fd ps []
structure Sfh (K:Si) (C:S5):Prop where
 ya:Sk K (.ref C) "__class__" =some (some (.builtin "object.__class__"))
 yb:PySem.W.specialIn K (.builtin "object.__class__") "__get__" =some (some (.builtin "getset_descriptor.__get__"))
 yc:PySem.W.takesIn K (.builtin "object.__class__")=some true
 yd:Sl K C (.type "object")=some true
theorem Sfh.ty {K:Si} {C a dx:S5} {H:Hp} {fs:List (Str×V)} (y:Sfh K C) (c:Cls K C) (e:H a=some (.ins C dx fs)):Jrg K H (.ref a) (.ref C):=.ins e c y.ya y.yb y.yc y.yd
def Joz (K:Si) (f:Str):Sp:=λvs H Q _=>∃e C W fI y,vs= [.ref e,y]/\H e=some (XO e C none true)/\Sai K C W fI/\NoAttr K C f/\∀dx,H dx=none->dx≠e->Q .non (upd (upd H dx (XD dx [(f,y)])) e (XO e C (some dx) true))
def Ske (K:Si) (f g:Str):Sp:=λvs H Q _=>∃e C W fI y z,vs= [.ref e,y,z]/\H e=some (XO e C none true)/\Sai K C W fI/\NoAttr K C f/\NoAttr K C g/\∀dx,H dx=none->dx≠e->Q .non (upd (upd H dx (XD dx (Jm8 g z [(f,y)]))) e (XO e C (some dx) true))
theorem Jxx {K:Si} {C W fI:S5} {f:Str} {y:V} {H:Hp} {Q:VK} (c:Sai K C W fI) (n:NoAttr K C f) (k:∀e dx,H e=none->H dx=none->dx≠e->Q (.ref e) (upd (upd H dx (XD dx [(f,y)])) e (XO e C (some dx) true))):
  [y].length<=1000/\∀e,H e=none->Joz K f (.ref e:: [y]) (upd H e (XO e C none true)) (λv H2=>v= .non/\Q (.ref e) H2) E0:=by
 refine ⟨by simp,λe he=>⟨e,C,W,fI,y,rfl,Sy,c,n,λdx h1 h2=>⟨rfl,?_⟩⟩⟩
 have z:=k e dx he (by rw [Jkt h2] at h1;exact h1) h2
 have e2:upd (upd (upd H e (XO e C none true)) dx (XD dx [(f,y)])) e (XO e C (some dx) true)=upd (upd H dx (XD dx [(f,y)])) e (XO e C (some dx) true):=by
  funext b
  unfold upd
  split
  ·rfl
  ·split <;> rfl
 rw [e2]
 exact z
section
variable {X:Cx} {pins:List (S5×Obj)} {σ:St} {H:Hp} {s:S7}
theorem Sv.turnTup {ch:List S5} {T:S5} {xs:List V} {h':Sg} {t':Nat} (I:Sv X pins σ H s) (hch:∀b∈ch,Jrf X pins H b) (k:∀b o,b∉ch->s.heap.get? b=some o->h'.get? b=some o) (hT:s.heap.objs.size<=T)
  (new:Sah X.prog X.w (upd H T (.tup xs)) h' T (.tup xs)):Sv X pins σ (upd H T (.tup xs)) {s with heap:=h',toks:=t'}:=by
 have hn:H T=none:=I.hok.fresh hT
 have nb:∀b o,s.heap.get? b=some o->b≠T:=λb o z w'=>absurd (yg z) (by rw [w'];exact Nat.not_lt.mpr hT)
 have nt:∀b u,H b=some u->b≠T:=λb u z=>Jkw z hn
 have nc:∀b u,H b=some u->b∉ch:=λb u z w'=>by rw [(hch b w').1] at z;cases z
 have u:Un (frs X.stack) ch H (upd H T (.tup xs)) s.heap h':=by
  refine ⟨λb o hb n hs hc=>k b o hc hb,λb o hb n _ hc=>⟨o.slots,k b o hc hb⟩,λb o hb n _=>by rw [Jkt (nb b o hb)];exact n,λb o hb hc=>⟨o,k b o hc hb⟩,λb ys z=>by rw [Jkt (nt b _ z)];exact z,λb o v z=>by rw [Jkt (nt b _ z)];exact z,λb ps z=>⟨#[],by rw [Jkt (nt b _ z),z];simp⟩⟩
 refine I.call (g':=s.gens) (d':=s.drawn) (ch:=ch) u (λb o z=>?_) I.bare λb hb=>?_
 ·by_cases w':b=T
  ·subst w'
   rw [Sy] at z;cases z
   exact new
  ·rw [Jkt w'] at z
   refine (I.hok b o z).stay (λc v hc zz=>k c v ?_ zz) (λc zz=>by rw [Jkt (nt c _ zz)];exact zz) (λc ys zz=>by rw [Jkt (nt c _ zz)];exact zz) λc ys zz=>by rw [Jkt (nt c _ zz)];exact zz
   rcases hc with rfl|hc
   ·exact nc c o z
   ·exact nc c _ hc
 ·obtain ⟨_,h1,_,h3,h4,h5⟩:=hch b hb
  exact ⟨h3,h1,h4,h5⟩
theorem Sv.turnMany {ch:List S5} {h':Sg} {t':Nat} (I:Sv X pins σ H s) (hch:∀b∈ch,Jrf X pins H b) (k:∀b o,b∉ch->s.heap.get? b=some o->h'.get? b=some o):Sv X pins σ H {s with heap:=h',toks:=t'}:=by
 have nc:∀b u,H b=some u->b∉ch:=λb u z w'=>by rw [(hch b w').1] at z;cases z
 have u:Un (frs X.stack) ch H H s.heap h':=
  ⟨λb o hb n hs hc=>k b o hc hb,λb o hb n _ hc=>⟨o.slots,k b o hc hb⟩,λb o hb n _=>n,λb o hb hc=>⟨o,k b o hc hb⟩,λb ys z=>z,λb o v z=>z,λb ps z=>⟨#[],by rw [z];simp⟩⟩
 refine I.call (g':=s.gens) (d':=s.drawn) (ch:=ch) u (λb o z=>(I.hok b o z).stay (λc v hc zz=>k c v ?_ zz) (λ_ zz=>zz) (λ_ _ zz=>zz) λ_ _ zz=>zz) I.bare λb hb=>?_
 ·rcases hc with rfl|hc
  ·exact nc c o z
  ·exact nc c _ hc
 ·obtain ⟨_,h1,_,h3,h4,h5⟩:=hch b hb
  exact ⟨h3,h1,h4,h5⟩
end
theorem Sjo:bootBuiltins "zip" =some (.type "zip"):=by decide +kernel
section
variable {X:Cx} {pins:List (S5×Obj)} {σ:St} {H:Hp} {s:S7}
inductive TyX (K:Si) (H:Hp):V->S6->Prop where
 |of {x:V} {t:S6}:Jrg K H x t->TyX K H x t
 |exc {e C W fI dx:S5} {fs:List (Str×V)} {fr:Bool}:H e=some (XO e C (some dx) fr)->H dx=some (XD dx fs)->Sai K C W fI->TyX K H (.ref e) (.ref C)
theorem TyX.kit {x:V} {u t:S6} (I:Sv X pins σ H s) (rx:Sa7 x u) (ty:TyX X.K H x t):u≠ .builtin "__main__.__loader__#opaque" /\∃Hh,PySem.W.KitX X.K u t Hh/\Hh s.heap:=by
 cases ty with
 |exc q qd c=>
  obtain rfl:u=Value.ref _:=rx
  obtain ⟨ox,oD,mA,J,_,_⟩:=Yb3 I.hok q qd
  exact ⟨(λz=>nomatch z),_,Sru c,ox,oD,J⟩
 |of ty=>
  cases ty with
  |non=>cases (show u=Value.none from rx);exact ⟨(λz=>nomatch z),_,PySem.W.kitx_none,trivial⟩
  |bl y=>cases (show u=Value.bool y from rx);exact ⟨(λz=>nomatch z),_,PySem.W.kitx_bool,trivial⟩
  |int i=>obtain ⟨t,q⟩:=(show ∃t,u=Value.int i t from rx);cases q;exact ⟨(λz=>nomatch z),_,PySem.W.kitx_int,trivial⟩
  |str y=>obtain ⟨t,q⟩:=(show ∃t,u=Value.str y t from rx);cases q;exact ⟨(λz=>nomatch z),_,PySem.W.kitx_str,trivial⟩
  |flt y=>obtain ⟨t,q⟩:=(show ∃t,u=Value.float y t from rx);cases q;exact ⟨(λz=>nomatch z),_,PySem.W.kitx_float,trivial⟩
  | @lst a xs ea=>
   cases (show u=Value.ref a from rx)
   obtain ⟨_,_,n,_,h1⟩:=(show Sah X.prog X.w H s.heap a (.lst xs) from I.hok a _ ea)
   exact ⟨(λz=>nomatch z),_,PySem.W.kitx_list,_,h1,rfl⟩
  | @frz a ob xs ea=>
   cases (show u=Value.ref a from rx)
   obtain ⟨_,_,_,n,_,h1⟩:=(show Sah X.prog X.w H s.heap a (.frz ob (.lst xs)) from I.hok a _ ea)
   exact ⟨(λz=>nomatch z),_,PySem.W.kitx_list,_,h1,rfl⟩
  | @tup a xs ea=>
   cases (show u=Value.ref a from rx)
   obtain ⟨_,_,_,o,h1,h2,_⟩:=(show Sah X.prog X.w H s.heap a (.tup xs) from I.hok a _ ea)
   exact ⟨(λz=>nomatch z),_,PySem.W.kitx_tuple,o,h1,h2⟩
  | @dK a kvs ea=>
   cases (show u=Value.ref a from rx)
   obtain ⟨_,_,vs,_,o,es,ep,h1,h2,_⟩:=(show Sah X.prog X.w H s.heap a (.dK kvs) from I.hok a _ ea)
   exact ⟨(λz=>nomatch z),_,PySem.W.kitx_dict,o,h1,h2.1⟩
  | @dT a kvs ea=>
   cases (show u=Value.ref a from rx)
   obtain ⟨_,_,xs,_,o,es,ep,h1,h2,_⟩:=(show Sah X.prog X.w H s.heap a (.dT kvs) from I.hok a _ ea)
   exact ⟨(λz=>nomatch z),_,PySem.W.kitx_dict,o,h1,h2.1⟩
  | @ins a C dx fs ea cl ha hn htk hm=>
   cases (show u=Value.ref a from rx)
   obtain ⟨mA,O,_⟩:=Js5 I.hok ea
   obtain ⟨od,J,_⟩:=O.look
   exact ⟨(λz=>nomatch z),_,PySem.W.kitx_own (cl.get _) cl.hd ha hn htk hm,J⟩
def Smx (K:Si):List V->Hp->VK->Prop:=λxs H Q=>∃x c u t b,xs= [x,c]/\Sjr c=some u/\TyX K H x t/\Sj K t u=some b/\Q (.bl b) H
theorem Jmi:Jng X (.builtin "isinstance") (Smx X.K):=by
 rintro pins s σ H vs us Q I r ⟨x,c,u,t,b,rfl,hc,ty,ek,k⟩
 obtain ⟨v,w',rfl,r1,r2⟩:=Jwe r
 have e2:w'=u:=by
  cases c with
  |ty n=>cases hc;cases r2;rfl
  |ref a=>cases hc;cases r2;rfl
  |_=>cases hc
 subst e2
 obtain ⟨hx,Hh,Z,p⟩:=ty.kit I r1
 exact PySem.W.kia_one Z I.kIn p ek hx λtk=>⟨.bl b,H,I.tok _,rfl,k⟩
theorem Jvi:∀{cs:List V} {us ws:List S6},cs.mapM Sjr=some us->Sa1 cs ws->ws=us
 | [],us,_,e,.nil=>by cases e;rfl
 |c::cs,us,_,e,.cons r t=>by
  rw [List.mapM_cons] at e
  simp only [Option.bind_eq_bind,Option.bind_eq_some_iff,Option.pure_def,yy.injEq] at e
  obtain ⟨u,hu,us',hus,rfl⟩:=e
  rw [Jvi hus t]
  cases c with
  |ty n=>cases hu;cases r;rfl
  |ref a=>cases hu;cases r;rfl
  |_=>cases hu
def Srd (K:Si):List V->Hp->VK->Prop:=λxs H Q=>∃x p cs us t b,xs= [x,.ref p]/\H p=some (.tup cs)/\cs.mapM Sjr=some us/\TyX K H x t/\PySem.W.kitAny K t us=some b/\Q (.bl b) H
theorem Jsb:Jng X (.builtin "isinstance") (Srd X.K):=by
 rintro pins s σ H vs us Q I r ⟨x,p,cs,us',t,b,rfl,hp,hc,ty,ek,k⟩
 obtain ⟨v,w',rfl,r1,r2⟩:=Jwe r
 obtain rfl:w'=Value.ref p:=r2
 obtain ⟨hx,Hh,Z,q⟩:=ty.kit I r1
 obtain ⟨_,its,rv,o,h1,h2,n,h3⟩:=(show Sah X.prog X.w H s.heap p (.tup cs) from I.hok p _ hp)
 have e:=Jvi hc rv
 subst e
 obtain ⟨oc,odi,oda,osl⟩:=o
 dsimp only at h2 h3
 subst h2 h3
 exact PySem.W.kia_tup Z I.kIn q h1 ek hx λtk=>⟨.bl b,H,I.tok _,rfl,k⟩
def Sr5 (K:Si) (tl:TE):TI:=λσ H R=>tl σ H λx H1=>∃a,x= .ref a/\(((∃xs,Sw K H1 a xs)/\R (Itl K a) H1)\/((∃xs,SqT K H1 a xs)/\R (Itt K a) H1))
theorem Sk6 {tg l:Expr} {tl:TE} (hl:PE X l tl):PI X tg l (Sr5 X.K tl):=by
 intro pins s σ H R I h
 refine thn (hl pins s σ H _ I h) λv s1 zq=>?_
 obtain ⟨x,H1,I1,r1,a,e,q1⟩:=zq
 subst e
 cases r1
 have fin:∀{J:It} {tn:Nat->Sg->Prop} {o:Obj},Jt3 X.prog X.w X.K tg J [s1.heap.objs.size] s1.heap.objs.size tn->tn 0 (s1.heap.push o)->R J H1->PIE X pins σ tg R (.ref s1.heap.objs.size) {s1 with heap:=s1.heap.push o}:=λ{J tn o} T st q=>by
  refine ⟨s1.heap.objs.size,[s1.heap.objs.size],tn,J,H1,rfl,I1.kept (t':=s1.toks) λb o e=>yj _ e,T,st,λb hb=>?_,q⟩
  have e:b=s1.heap.objs.size:=by simpa using hb
  subst e
  exact I1.fpOk (yh _) (I1.hok.fresh (yh _))
 rcases q1 with ⟨⟨xs,hq⟩,q⟩|⟨⟨xs,hq⟩,q⟩
 ·obtain ⟨its,rv,p,hz⟩:=I1.list hq
  exact wpAny_pyIter_list p.isList (fin (Ju5 a _) ⟨_,yr _ rfl,rfl,rfl⟩ q)
 ·obtain ⟨its,rv,p,hz⟩:=I1.tuple hq
  exact wpAny_pyIter_tuple (show s1.heap.IsTuple a its.toArray from p) (fin (Jsz a _) ⟨_,yr _ rfl,rfl,rfl⟩ q)
end
def Y1 (P:Sb) (w:Sd) (K:Si) (mg:Str->Option S6) (base:Sg) (j:Nat) (m:Str) (ta:TE) (t:TA):TE:=λσ H Q=>ta σ H λx H1=>∃a C dx fs f fd ps sp k,x= .ref a/\H1 a=some (.ins C dx fs)/\fs.lookup m=none/\Cls K C/\Jn0 K C m f/\Sx P w K mg base CX0 k f fd ps sp/\k<=j/\Sb1 K fd ps []/\
 t σ H1 λvs H2=>sp (x::vs) H2 Q E0
section
variable {X:Cx} {j:Nat} {m:Str} {apos pos:Pos} {e o:Expr} {es:List Expr} {ta:TE} {t:TA} {R:St->XK}
theorem Jvx {pl:Sem Bool} (he:PE X o ta) (hr:Sam j X.A) (ha:PA X (e::es) t)
  (hst:starEach (e::es) X.env=(false,eval e X.env)::starEach es X.env:=by rfl) (hpl:(backTo pos (starEach es X.env)).any (·.1)=false:=by rfl)
  (ht:eval (.Call (.Attribute o m apos) (e::es) [] pos) X.env=(do
   let ov<-eval o X.env
   standAt apos.atName
   let (f,first)<-holding [ov] (getMethod ov m pl)
   callWith pos f first (backTo pos (starEach (e::es) X.env)) (backToKw pos (keywordEach [] X.env))):=by rfl):
  PE X (.Call (.Attribute o m apos) (e::es) [] pos) (Y1 X.prog X.w X.K X.mg X.base j m ta t):=by
 intro pins s σ H Q I h
 refine PySem.W.methodCall_KW (pl:=pl) (thn (he pins s σ H _ I h) λu s1 zq=>?_) ht
 obtain ⟨x,H1,I1,rx,a,C,dx,fs,f,fd,ps,sp,k,ex,ea,l,c,hm,G,hk,hb,q⟩:=zq
 subst ex
 obtain rfl:u=Value.ref a:=rx
 refine Jot I1 ea c hm l ?_
 refine PySem.W.callWith_K (first:=[.ref a]) (h₀:=X.base) I.ok.mod.kin hm.kp (thn (ha pos pins s1 σ H1 _ I1 q) λus s2 ⟨vs,H2,I2,r,q2⟩=>⟨I2.kIn,?_⟩) hst hpl
 exact Jss (us:=.ref a::us) (vs:=.ref a::vs) (dvs:=[]) (ds:=[]) G (hr.mono hk) hb .nil Jlk I2 (.cons rfl r) (by rw [yba];exact q2)
theorem Ju3 {pl:Sem Bool} (he:PE X o ta) (hr:Sam j X.A)
  (ht:eval (.Call (.Attribute o m apos) [] [] pos) X.env=(do
   let ov<-eval o X.env
   standAt apos.atName
   let (f,first)<-holding [ov] (getMethod ov m pl)
   callWith pos f first (backTo pos (starEach [] X.env)) (backToKw pos (keywordEach [] X.env))):=by rfl):
  PE X (.Call (.Attribute o m apos) [] [] pos) (Y1 X.prog X.w X.K X.mg X.base j m ta Jva):=by
 intro pins s σ H Q I h
 refine PySem.W.methodCall_KW (pl:=pl) (thn (he pins s σ H _ I h) λu s1 zq=>?_) ht
 obtain ⟨x,H1,I1,rx,a,C,dx,fs,f,fd,ps,sp,k,ex,ea,l,c,hm,G,hk,hb,q⟩:=zq
 subst ex
 obtain rfl:u=Value.ref a:=rx
 refine Jot I1 ea c hm l ?_
 exact PySem.W.callWith_K0 (first:=[.ref a]) I1.kIn hm.kp (Jss (us:=[.ref a]) (vs:=[.ref a]) (dvs:=[]) (ds:=[]) G (hr.mono hk) hb .nil Jlk I1 (.cons rfl .nil) q)
end
theorem Jls {n:Nat} (h:n<=2000):n < Sa:=ybj h (by decide)
theorem Jlo (n:Nat) (h:n<=2000):n<=Sa:=yav (Jls h)
def tpB (t:S6):Bool:=[Value.type "bool",.type "str",.type "NoneType",.type "list",.type "tuple",.type "dict"].contains t
def Tm (K:Si) (H:Hp) (x:V):Prop:=(∃i:Int,x= .int i)\/∃t,TyX K H x t/\tpB t=true
def Jlm:V->Int->Int->Bool
 | .int i,lo,hi=>decide (lo<=i)&&decide (i<=hi)
 |_,_,_=>false
theorem Skv {K:Si} {t:S6} (h:tpB t=true):Sj K t (.type "int")=some (t== .type "bool")/\Sj K t (.type "bool")=some (t== .type "bool"):=by
 unfold tpB at h
 simp only [List.contains_cons,List.contains_nil,Bool.or_false,Bool.or_eq_true,beq_iff_eq] at h
 rcases h with rfl|rfl|rfl|rfl|rfl|rfl <;> exact ⟨rfl,rfl⟩
theorem Yx {K:Si} {H:Hp} {x:V} {t:S6} (ty:TyX K H x t) (h:tpB t=true):∀lo hi,Jlm x lo hi=false:=by
 intro lo hi
 cases ty with
 |exc=>rfl
 |of ty=>
  cases ty <;> first|rfl|(exfalso;revert h;decide)
def Yar (K:Si):Sp:=λvs H Q _=>∃(x:V) (lo hi:Int),vs= [x,.int lo,.int hi]/\Tm K H x/\Q (.bl (Jlm x lo hi)) H
theorem TyX.same {K:Si} {H H':Hp} {x:V} {t:S6} (s:∀b o,x= .ref b->H b=some o->H' b=some o) (sx:∀b fs,H b=some (XD b fs)->H' b=some (XD b fs)) (ty:TyX K H x t):TyX K H' x t:=by
 cases ty with
 |exc q qd c=>exact .exc (s _ _ rfl q) (sx _ _ qd) c
 |of ty=>
  refine .of ?_
  cases ty with
  |non=>exact .non
  |bl b=>exact .bl b
  |int i=>exact .int i
  |str z=>exact .str z
  |flt z=>exact .flt z
  |lst e=>exact .lst (s _ _ rfl e)
  |frz e=>exact .frz (s _ _ rfl e)
  |tup e=>exact .tup (s _ _ rfl e)
  |dK e=>exact .dK (s _ _ rfl e)
  |dT e=>exact .dT (s _ _ rfl e)
  |ins e a b c d f=>exact .ins (s _ _ rfl e) a b c d f
theorem Tm.same {K:Si} {H H':Hp} {x:V} (s:Sn H H') (h:Tm K H x):Tm K H' x:=by
 rcases h with h|⟨t,ty,e⟩
 ·exact .inl h
 ·exact .inr ⟨t,ty.same (λb o _ q=>s b o q) (λb fs q=>s b _ q),e⟩
theorem Yp {K:Si} {q:S5} {xs:List V} {g:TG} {tb:TS} {D:Jon} {σ:St} {H:Hp} (Pv:Nat->St->Hp->Prop) (h0:Pv 0 σ H) (hl:(∀i σ H,i<=xs.length->Pv i σ H->Sw K H q xs)\/(∀i σ H,i<=xs.length->Pv i σ H->SqT K H q xs))
  (hs:∀i x σ H,xs[i]?=some x->Pv i σ H->g x σ H λσ2 H2=>tb {D with nx:=Pv (i+1),ct:=Pv (i+1),bk:=D.nx} σ2 H2) (hd:∀σ H,Pv xs.length σ H->D.nx σ H):
  ((∃xs,Sw K H q xs)/\∃W:Nat->Nat->St->Hp->Prop,(∃m,W 0 m σ H)/\∀i m σ H,W i m σ H->
   ((Itl K q).stop i H/\D.nx σ H)\/((Itl K q).go i H/\∃N:St->Hp->Prop,(∀σ' H',N σ' H'->∃m',m' < m/\W (i+1) m' σ' H')/\∀x H',(Itl K q).yld i H x H'->g x σ H' λσ2 H2=>tb {D with nx:=N,ct:=N,bk:=D.nx} σ2 H2))\/
  ((∃xs,SqT K H q xs)/\∃W:Nat->Nat->St->Hp->Prop,(∃m,W 0 m σ H)/\∀i m σ H,W i m σ H->
   ((Itt K q).stop i H/\D.nx σ H)\/((Itt K q).go i H/\∃N:St->Hp->Prop,(∀σ' H',N σ' H'->∃m',m' < m/\W (i+1) m' σ' H')/\∀x H',(Itt K q).yld i H x H'->g x σ H' λσ2 H2=>tb {D with nx:=N,ct:=N,bk:=D.nx} σ2 H2)):=by
 rcases hl with hl|hl
 ·exact .inl ⟨⟨xs,hl 0 σ H (yah _) h0⟩,Jnx Pv h0 hl hs hd⟩
 ·exact .inr ⟨⟨xs,hl 0 σ H (yah _) h0⟩,Yq Pv h0 hl hs hd⟩
theorem Jo4 {K:Si} {R:L2.St->XK} {C W fI:S5} {f:Str} {i:Nat} {y:V} {σ:L2.St} {H:Hp} {D:Jon} (c:Sai K C W fI) (n:NoAttr K C f) (hi:σ[i]?=some (some y))
  (k:∀e dx,H e=none->H dx=none->dx≠e->R σ (.ref C) (some e) (upd (upd (upd H dx (XD dx [(f,y)])) e (XO e C (some dx) true)) e (XO e C (some dx) false))):Jzm K R (Sni C (Joz K f) (Jm7 (Sku i) Jva)) D σ H:=by
 refine ⟨y,hi,?_⟩
 exact Jxx (Q:=λv H1=>∃e C W fI dx,v= .ref e/\H1 e=some (XO e C (some dx) true)/\Sai K C W fI/\R σ (.ref C) (some e) (upd H1 e (XO e C (some dx) false))) c n λe dx h1 h2 h3=>⟨e,C,W,fI,dx,rfl,Sy,c,k e dx h1 h2 h3⟩
theorem Jwj {c A B:Prop} [Decidable c] (hc:c) (h:A):if decide c=true then A else B:=by
 rw [decide_eq_true hc]
 exact Jn5 h
theorem Jt4 {c A B:Prop} [Decidable c] (hc:¬c) (h:B):if decide c=true then A else B:=by
 rw [decide_eq_false hc]
 exact Jlp h
def Jlt:Expr->Bool
 | .Starred _ _=>true
 |_=>false
theorem Jyd (e:Expr) (es:List Expr) (env:Env) (h:Jlt e=false):starEach (e::es) env=(false,eval e env)::starEach es env:=by
 cases e <;> first|rfl|cases h
theorem Jnm {X:Cx} {e:Expr} {es:List Expr} {te:TE} {t:TA} (ha:PE X e te) (hr:PA X es t) (hs:Jlt e=false:=by rfl):PA X (e::es) (Jm7 te t):=So ha hr (Jyd e es X.env hs)
theorem pa4 {X:Cx} {e0:Expr} {t0:TE} {e1:Expr} {t1:TE} {e2:Expr} {t2:TE} {e3:Expr} {t3:TE} (h0:PE X e0 t0) (h1:PE X e1 t1) (h2:PE X e2 t2) (h3:PE X e3 t3) (s0:Jlt e0=false:=by rfl) (s1:Jlt e1=false:=by rfl) (s2:Jlt e2=false:=by rfl) (s3:Jlt e3=false:=by rfl):PA X [e0,e1,e2,e3] (Jm7 t0 (Jm7 t1 (Jm7 t2 (Jm7 t3 (Jva))))):=Jnm h0 (Jnm h1 (Jnm h2 (Jnm h3 (Ss) s3) s2) s1) s0
theorem pa6 {X:Cx} {e0:Expr} {t0:TE} {e1:Expr} {t1:TE} {e2:Expr} {t2:TE} {e3:Expr} {t3:TE} {e4:Expr} {t4:TE} {e5:Expr} {t5:TE} (h0:PE X e0 t0) (h1:PE X e1 t1) (h2:PE X e2 t2) (h3:PE X e3 t3) (h4:PE X e4 t4) (h5:PE X e5 t5) (s0:Jlt e0=false:=by rfl) (s1:Jlt e1=false:=by rfl) (s2:Jlt e2=false:=by rfl) (s3:Jlt e3=false:=by rfl) (s4:Jlt e4=false:=by rfl) (s5:Jlt e5=false:=by rfl):PA X [e0,e1,e2,e3,e4,e5] (Jm7 t0 (Jm7 t1 (Jm7 t2 (Jm7 t3 (Jm7 t4 (Jm7 t5 (Jva))))))):=Jnm h0 (Jnm h1 (Jnm h2 (Jnm h3 (Jnm h4 (Jnm h5 (Ss) s5) s4) s3) s2) s1) s0
theorem pa7 {X:Cx} {e0:Expr} {t0:TE} {e1:Expr} {t1:TE} {e2:Expr} {t2:TE} {e3:Expr} {t3:TE} {e4:Expr} {t4:TE} {e5:Expr} {t5:TE} {e6:Expr} {t6:TE} (h0:PE X e0 t0) (h1:PE X e1 t1) (h2:PE X e2 t2) (h3:PE X e3 t3) (h4:PE X e4 t4) (h5:PE X e5 t5) (h6:PE X e6 t6) (s0:Jlt e0=false:=by rfl) (s1:Jlt e1=false:=by rfl) (s2:Jlt e2=false:=by rfl) (s3:Jlt e3=false:=by rfl) (s4:Jlt e4=false:=by rfl) (s5:Jlt e5=false:=by rfl) (s6:Jlt e6=false:=by rfl):PA X [e0,e1,e2,e3,e4,e5,e6] (Jm7 t0 (Jm7 t1 (Jm7 t2 (Jm7 t3 (Jm7 t4 (Jm7 t5 (Jm7 t6 (Jva)))))))):=Jnm h0 (Jnm h1 (Jnm h2 (Jnm h3 (Jnm h4 (Jnm h5 (Jnm h6 (Ss) s6) s5) s4) s3) s2) s1) s0
theorem pa8 {X:Cx} {e0:Expr} {t0:TE} {e1:Expr} {t1:TE} {e2:Expr} {t2:TE} {e3:Expr} {t3:TE} {e4:Expr} {t4:TE} {e5:Expr} {t5:TE} {e6:Expr} {t6:TE} {e7:Expr} {t7:TE} (h0:PE X e0 t0) (h1:PE X e1 t1) (h2:PE X e2 t2) (h3:PE X e3 t3) (h4:PE X e4 t4) (h5:PE X e5 t5) (h6:PE X e6 t6) (h7:PE X e7 t7) (s0:Jlt e0=false:=by rfl) (s1:Jlt e1=false:=by rfl) (s2:Jlt e2=false:=by rfl) (s3:Jlt e3=false:=by rfl) (s4:Jlt e4=false:=by rfl) (s5:Jlt e5=false:=by rfl) (s6:Jlt e6=false:=by rfl) (s7:Jlt e7=false:=by rfl):PA X [e0,e1,e2,e3,e4,e5,e6,e7] (Jm7 t0 (Jm7 t1 (Jm7 t2 (Jm7 t3 (Jm7 t4 (Jm7 t5 (Jm7 t6 (Jm7 t7 (Jva))))))))):=Jnm h0 (Jnm h1 (Jnm h2 (Jnm h3 (Jnm h4 (Jnm h5 (Jnm h6 (Jnm h7 (Ss) s7) s6) s5) s4) s3) s2) s1) s0
end L2
namespace L2
open PySem PySem.Spec PyProof.Rows PySem.W
section
variable {X:Cx}
theorem Jsh {K:Si} (h:X.K=K):IxR X (Smy K):=by subst h;exact Jl6
theorem Jrj {K:Si} (h:X.K=K):Jng X (.builtin "isinstance") (Smx K):=by subst h;exact Jmi
end
section
variable {prog:Sb} {w:Sd} {A:Se} {E:S6->S7->Prop} {s:S7}
theorem Sil {it t:S5} {items:Array S6} (hne:t≠it):∀(n i:Nat) (s:S7) (Q:List S6->S7->Prop),s.heap.IsListIter it t i->s.heap.IsList t items->i+n<=items.size->
  (∀h',h'.IsListIter it t (i+n)->yap it s.heap h'->Q ((items.toList.drop i).take n) {s with heap:=h'})->Sh (model prog w) A (draw (.ref it) n) Q E s
 |0,i,s,Q,hit,_,_,hQ=>by
  show Sh _ _ (pure []) Q E s
  exact S9 (by simpa using hQ s.heap hit (yap.refl ..))
 |n+1,i,s,Q,hit,ht,hle,hQ=>by
  have hlt:i < items.size:=by omega
  show Sh _ _ (pyNext (.ref it) >>=_) Q E s
  refine S8 (wpAny_pyNext_list_item hit ht (x:=items[i]) (by simp [hlt]) λh1 hit1 hs1=>?_)
  refine S8 (wpAny_holding (Sil hne n (i+1) _ _ hit1 (ht.extBut hs1.extBut hne) (by omega) λh2 hit2 hs2=>S9 ?_))
  have hd:items.toList.drop i=items[i]::items.toList.drop (i+1):=by simp [List.drop_eq_getElem_cons,hlt]
  have:=hQ h2 (by rw [show i+(n+1)=i+1+n by omega];exact hit2) (hs1.trans hs2)
  rw [hd,List.take_succ_cons] at this
  exact this
theorem Yaw {t:S5} {items:Array S6} {targets:List (Bool×(S6->Sem Unit))} {Q:Unit->S7->Prop} (hh:A.handled=none) (ht:s.heap.IsList t items) (hn:targets.length=items.size) (hstar:targets.findIdx? (·.1)=none)
  (h:∀h',Heap.ExtBut s.heap.objs.size s.heap h'->Sh (model prog w) A (assignInOrder (targets.map (·.2)) items.toList) Q E {s with heap:=h'}):Sh (model prog w) A (unpack (.ref t) targets) Q E s:=by
 have hlt:t≠s.heap.objs.size:=by obtain ⟨o,ho,_⟩:=ht;exact yn (yg ho)
 unfold unpack
 rw [hn,hstar]
 refine S8 (wpAny_holding ?_)
 unfold unpackItems
 refine S8 ?_
 unfold notIterableAtAll
 refine S8 (wpAny_specialOf ht.typeIs slot_list_iter.lookup ?_)
 refine S9 ?_
 simp only [Bool.false_eq_true,if_false]
 refine S8 (wpAny_holding (wpAny_pyIter_list ht ?_))
 refine S8 (wpAny_holding (Sil hlt items.size 0 _ _ ⟨_,yr _ rfl,rfl,rfl⟩ (ht.push _) (by omega) λh1 hit1 hs1=>?_))
 have hall:List.take items.size (List.drop 0 items.toList)=items.toList:=by
  rw [List.drop_zero];exact yab (by simp)
 rw [hall]
 rw [if_neg (by simp)]
 have ht1:h1.IsList t items:=(ht.push _).extBut hs1.extBut hlt
 refine S8 (wpAny_holding (wpAny_pyNext_list_end hh hit1 ht1 (by simp) λh2 he2=>?_))
 simp only [Option.isSome_none,Bool.false_eq_true,if_false]
 exact S9 (h h2 λb o hb e=>he2 b o hb (hs1.extBut b o hb (yj _ e)))
end
section
variable {X:Cx} {pos:Pos}
def Sr0 (K:Si) (n:Nat) (t:TGs):TG:=λv σ H Q=>∃a xs,v= .ref a/\Sw K H a xs/\xs.length=n/\t xs σ H Q
theorem Sk5 {es:List Expr} {k:Nat} {t:TGs} {n:Nat} (hc:X.calm=true) (h:PGs X es t)
  (hn:(assignEach es X.env).length=n:=by rfl) (hst:(assignEach es X.env).findIdx? (·.1)=none:=by rfl):PG X (.Tuple es k pos) (Sr0 X.K n t):=by
 intro pins s σ H v u Q I r hw
 obtain ⟨a,xs,e1,hq,hl,hw⟩:=hw
 subst e1
 cases r
 obtain ⟨its,rv,ht,hz⟩:=I.list hq
 rw [PyProof.Rows.assign_Tuple]
 refine S8 (wpAny_standAt (Yaw (I.ok.hd hc) ht.isList (by simp [hn,<-hl,rv.length]) hst λh' hx=>?_))
 have I1:Sv X pins σ H {s with heap:=h'}:=I.kept (t':=s.toks) λb o e=>hx b o (yn (yg e)) e
 exact h pins _ σ H xs _ Q I1 (by simpa using rv) hw
end
section
variable {P:Sb} {w:Sd} {K:Si} {mg:Str->Option S6} {base:Sg}
end
section
variable {X:Cx} {x:Str} {st:Sf} {ps:List Str} {f:S5} {fd:Sc} {sp:Sp} {k j:Nat} {p pos:Pos} {e:Expr} {es:List Expr} {t:TA} {er:S5}
end
def stU (acc:List Str) (z:Str):List Str:=if acc.contains z=true then acc else acc++ [z]
def uq (zs:List Str):List Str:=zs.foldl stU []
def inU (zs:List Str):Key->Bool
 | .inl _=>false
 | .inr z=>(uq zs).contains z
theorem Jxo (zs:List Str) (z:Str):uq (zs++ [z])=stU (uq zs) z:=by unfold uq;rw [List.foldl_append];rfl
theorem Sl0 (zs:List Str):(uq zs).length<=zs.length:=by
 have h:∀(l acc:List Str),(l.foldl stU acc).length<=acc.length+l.length:=by
  intro l
  induction l with
  |nil=>intro acc;simp
  |cons z r ih=>
   intro acc
   rw [List.foldl_cons]
   have h1:=ih (stU acc z)
   have h2:(stU acc z).length<=acc.length+1:=by unfold stU;split <;> simp
   rw [yaj]
   omega
 simpa [uq] using h zs []
theorem Jwd {zs:List Str} (h:zs.Nodup):uq zs=zs:=by
 have g:∀(l acc:List Str),(acc++l).Nodup->l.foldl stU acc=acc++l:=by
  intro l
  induction l with
  |nil=>intro acc _;simp
  |cons z r ih=>
   intro acc hn
   rw [List.foldl_cons]
   have hz:acc.contains z=false:=by
    cases e:acc.contains z with
    |false=>rfl
    |true=>
     have hm:z∈acc:=List.contains_iff_mem.mp e
     exact absurd rfl ((List.nodup_append.mp hn).2.2 z hm z yao)
   have e:stU acc z=acc++ [z]:=by unfold stU;rw [hz];rfl
   rw [e,ih (acc++ [z]) (by simpa using hn)]
   simp
 simpa [uq] using g zs [] (by simpa using h)
theorem Jz0 (zs:List Str) (z:Str) (k:Key):inU (zs++ [z]) k=(inU zs k||decide (k= .inr z)):=by
 cases k with
 |inl i=>simp [inU]
 |inr y=>
  show (uq (zs++ [z])).contains y=((uq zs).contains y||decide ((.inr y:Key)= .inr z))
  have e:decide ((.inr y:Key)= .inr z)=decide (y=z):=by
   by_cases h:y=z
   ·subst h;simp
   ·rw [decide_eq_false h,decide_eq_false (λq=>h (Sum.inr.inj q))]
  rw [Jxo,e]
  unfold stU
  split
  ·rename_i hc
   by_cases h:y=z
   ·subst h;rw [hc];simp
   ·simp [h]
  ·rw [ybd]
   simp [List.contains_iff_mem]
theorem Yax (zs:List Str) (z:Str):(uq (zs++ [z])).length=if inU zs (.inr z)=true then (uq zs).length else (uq zs).length+1:=by
 rw [Jxo]
 show (stU (uq zs) z).length=if (uq zs).contains z=true then _ else _
 unfold stU
 split <;> simp
section
variable {prog:Sb} {w:Sd} {A:Se} {R:Result->S7->Prop} {I:S5} {fp wr:List S5} {n:Nat} {P:Nat->S6->Prop} {St:Nat->Sg->Prop}
theorem Jrc {h h':Sg} {a:S5} {S T:Key->Bool} {m m':Nat} (hS:h.SetOf (Jme prog w) a S m) (k:∀o,h.get? a=some o->h'.get? a=some o) (e:∀x,S x=T x) (en:m=m'):h'.SetOf (Jme prog w) a T m':=by
 obtain rfl:S=T:=funext e
 subst en
 obtain ⟨o,es,ep,t,ho,rest⟩:=hS
 exact ⟨o,es,ep,t,k o ho,rest⟩
theorem Jx1 (W:Walks prog w A.in1 I fp wr n P St) (S:S5) (hSf:S∉fp) (zs:List Str) (hn:zs.length=n) (hP:∀i v,P i v->∃z t,zs[i]?=some z/\v= .str z t) (hb:n+1 < scanBound):
  ∀(k i:Nat) (s:S7),n - i=k->i<=n->St i s.heap->s.heap.SetOf (Jme prog w) S (inU (zs.take i)) (uq (zs.take i)).length->
   (∀h' tk,(∀b o,b≠S->b∉wr->s.heap.get? b=some o->h'.get? b=some o)->h'.SetOf (Jme prog w) S (inU zs) (uq zs).length->R (.ok (.ret .none)) {s with heap:=h',toks:=tk})->
   codeAny (model prog w) A (.builtin "set.update.loop" ⟨[.ref S,.ref I],[]⟩) R s:=by
 have hSw:S∉wr:=λh=>hSf (W.sub _ h)
 intro k
 induction k with
 |zero=>
  intro i s hk hi hst hS hR
  obtain rfl:i=n:=by omega
  refine codeAny_builtin PyProof.Rows.F.entry_set_update_loop ?_
  rw [Around.under_plainId PyProof.Rows.F.plain_set_update_loop _]
  refine S8 (W.done s _ _ hst λh' tk km=>?_)
  refine S9 (hR h' tk (λb o _ nb e=>km b o nb e) (Jrc hS (λo e=>km S o hSw e) (λx=>?_) ?_))
  ·rw [yab (by omega)]
  ·rw [yab (by omega)]
 |succ k ih=>
  intro i s hk hi hst hS hR
  have hlt:i < n:=by omega
  refine codeAny_builtin PyProof.Rows.F.entry_set_update_loop ?_
  rw [Around.under_plainId PyProof.Rows.F.plain_set_update_loop _]
  refine S8 (W.item i s _ _ hlt hst λv h1 tk hv hst1 km=>?_)
  obtain ⟨z,t,hz,rfl⟩:=hP i v hv
  have et:zs.take (i+1)=zs.take i++ [z]:=by rw [yam,hz];rfl
  have hS1:h1.SetOf (Jme prog w) S (inU (zs.take i)) (uq (zs.take i)).length:=Jrc hS (λo e=>km S o hSw e) (λ_=>rfl) rfl
  have room:(uq (zs.take i)).length+1 < scanBound:=by
   have h1:=Sl0 (zs.take i)
   rw [yx] at h1
   omega
  refine S8 (wpAny_holding ?_)
  unfold setAdd
  refine wpAny_holding (S8 ((Jme prog w).pyHash (k:=.inr z) (Jrv _ _ _ _) ?_))
  refine wpAny_setAddHashed_of (knd:=Jme prog w) (k:=.inr z) (Jrv _ _ _ _) rfl hS1 room λh2 sb hS2=>?_
  refine S9 ⟨plainId_quiet PyProof.Rows.F.plain_set_update_loop _,ih (i+1) _ (by omega) hlt (W.frame _ _ _ hst1 λb hbf o e=>?_) (Jrc hS2 (λo e=>e) (λx=>?_) ?_) λh3 tk3 k3 hS3=>?_⟩
  ·show h2.get? b=some o
   rw [sb.2 b (λq=>hSf (by rw [<-q];exact hbf))]
   exact e
  ·rw [et,Jz0]
  ·rw [et,Yax]
  ·exact hR h3 tk3 (λb o nS nw e=>k3 b o nS nw (by show h2.get? b=some o;rw [sb.2 b nS];exact km b o nw e)) hS3
end
section
variable {prog:Sb} {w:Sd} {A:Se} {E:S6->S7->Prop} {s:S7}
set_option maxRecDepth 100000 in
set_option maxHeartbeats 3200000 in
theorem Jya {l:S5} {items:Array S6} {zs:List Str} {Q:S6->S7->Prop} (hh:A.handled=none) (hl:s.heap.IsList l items) (hz:zs.length=items.size) (hi:∀(i:Nat) (v:S6),items[i]?=some v->∃z t,zs[i]?=some z/\v= .str z t) (hb:items.size+1 < scanBound)
  (h:∀(h':Sg) (tk:Nat),h'.SetOf (Jme prog w) s.heap.objs.size (inU zs) (uq zs).length->(∀b o,s.heap.get? b=some o->h'.get? b=some o)->Q (.ref s.heap.objs.size) {s with heap:=h',toks:=tk}):Sh (model prog w) A (call (.type "set") [.ref l]) Q E s:=by
 obtain ⟨cc,tl,hmro⟩:=F.called_set.mro
 have hmade:=F.called_set.made
 have hsub:=F.called_set.sub
 refine wpAny_call (codeAny_of_tree ?_)
 show Sh _ _ (callAny (.type "set") _) _ _ _
 refine S9 ⟨Code.quiet_builtin _ (by decide +kernel),codeAny_builtin F.entry_type_call ?_⟩
 rw [Around.under_plain (weight_type_call_type "set" [.ref l] []) rfl]
 have g1:=F.called_set.notType
 have g2:=F.called_set.canCreate
 have g3:=F.typeCall_set_1 (.ref l)
 repeat (any_goals (first|assumption|wp_step))
 refine codeAny_mono (code_set_new_1 (.ref l) (E:=E) (Q₁:=λobj s1=>∃led:Bool,obj= .ref s.heap.objs.size/\s1={s with heap:=s.heap.push {cls:=.type "set",dict:=none,data:=.set #[] 0 (.fresh 0 0 led)}}) λled=>⟨led,rfl,rfl⟩) λr s1 hr=>?_
 cases r with
 |error e=>exact hr
 |ok fl=>
  cases fl with
  |ret obj=>
   obtain ⟨led,rfl,rfl⟩:=hr
   have hS:(s.heap.push {cls:=.type "set",dict:=none,data:=.set #[] 0 (.fresh 0 0 led)}).get? s.heap.objs.size=some {cls:=.type "set",dict:=none,data:=.set #[] 0 (.fresh 0 0 led)}:=yr _ rfl
   have hT:Shared.TypeIs {s with heap:=s.heap.push {cls:=.type "set",dict:=none,data:=.set #[] 0 (.fresh 0 0 led)}} (.ref s.heap.objs.size) "set" :=⟨_,hS,rfl⟩
   have g4:=F.called_set.init.lookup
   have g5:=F.called_set.init.bind (.ref s.heap.objs.size)
   repeat (any_goals (first|assumption|wp_step))
   refine codeAny_mono (codeAny_call_builtin (R:=wants (λr s2=>r= .none/\∃h' tk,s2={s with heap:=h',toks:=tk}/\h'.SetOf (Jme prog w) s.heap.objs.size (inU zs) (uq zs).length/\(∀b o,s.heap.get? b=some o->h'.get? b=some o)) E) F.called_set.init.plain F.entry_set_init (check_set_init_1 hT ?_)) λr2 s2 hr2=>?_
   ·obtain ⟨⟨oc,od,oda,osl⟩,hol,hcl,nl,hdl⟩:=hl
    simp only at hcl hdl
    subst hcl hdl
    have hol':(s.heap.push {cls:=.type "set",dict:=none,data:=.set #[] 0 (.fresh 0 0 led)}).get? l=some {cls:=.type "list",dict:=od,data:=.seq items nl,slots:=osl}:=yj _ hol
    have g6:=F.sub_list_set
    have g7:=F.sub_list_frozenset
    have g8:(Value.type "list" ==Value.type "dict")=false:=by decide
    have hl1:(s.heap.push {cls:=.type "set",dict:=none,data:=.set #[] 0 (.fresh 0 0 led)}).IsList l items:=⟨_,hol',rfl,nl,rfl⟩
    unfold Builtin.«set.__init__» noKeywords Builtin.Frozenset.updateFrom
    generalize hPI:pyIter=PI
    wp_walk
    subst hPI
    refine wpAny_pyIter_list hl1 (S8 (wpAny_runValue ?_))
    have lS:l < s.heap.objs.size:=yg hol
    have h3:A.in1.in1.in1.handled=none:=by simp [hh]
    have nI:l≠(s.heap.push {cls:=.type "set",dict:=none,data:=.set #[] 0 (.fresh 0 0 led)}).objs.size:=by rw [yak];exact yn (Nat.lt_succ_of_lt lS)
    have nS:s.heap.objs.size∉ [(s.heap.push {cls:=.type "set",dict:=none,data:=.set #[] 0 (.fresh 0 0 led)}).objs.size,l]:=by
     rw [yak]
     simp only [yi,yt,or_false,not_or]
     exact ⟨yn (ybl _),yau lS⟩
    refine Jx1 (Walks.list h3 _ l nI items) s.heap.objs.size nS zs hz hi hb (items.size - 0) 0 _ (by omega) (yah _) ⟨⟨_,yr _ rfl,rfl,rfl⟩,hl1.push _⟩ ?S0 ?R0
    case S0=>
     have q:((s.heap.push {cls:=.type "set",dict:=none,data:=.set #[] 0 (.fresh 0 0 led)}).push {cls:=.type "list_iterator",data:=.fields #[.ref l,.int 0 0]}).get? s.heap.objs.size=some {cls:=.type "set",dict:=none,data:=.set #[] 0 (.fresh 0 0 led)}:=yj _ hS
     refine ⟨_,#[],0,_,q,⟨rfl,rfl,rfl⟩,rfl,λe he=>by simp at he,λx=>?_,by decide,by rfl,rfl⟩
     cases x <;> simp [inU,uq]
    case R0=>
    intro h' tk km hS'
    show Sh _ _ _ _ _ _
    refine S9 ?_
    show Sh _ _ (ret Value.none) _ _ _
    refine S9 ⟨rfl,h',tk,rfl,hS',λb o e=>?_⟩
    have lb:b < s.heap.objs.size:=yg e
    refine km b o (yn lb) ?_ (yj _ (yj _ e))
    rw [yak]
    simp only [yi,yt,or_false]
    exact yn (Nat.lt_succ_of_lt lb)
   ·cases r2 with
    |error e=>exact hr2
    |ok fl2=>
     cases fl2 with
     |ret r=>
      obtain ⟨rfl,h',tk,rfl,hS',hk'⟩:=hr2
      repeat (any_goals (first|assumption|wp_step))
      exact h _ _ hS' hk'
     |_=>exact hr2.elim
  |_=>exact hr.elim
end
def TxS (P:Sb) (w:Sd) (a:S5) (zs:List Str):HO:=.ext λh=>h.SetOf (Jme P w) a (inU zs) (uq zs).length
theorem Skw {P:Sb} {w:Sd} {H:Hp} {h:Sg} {a:S5} {zs:List Str} (hS:h.SetOf (Jme P w) a (inU zs) (uq zs).length):Sah P w H h a (TxS P w a zs):=
 ⟨hS,(let ⟨o,_,_,_,ho,_⟩:=hS;⟨o,ho⟩),λ_ _ p k=>Jrc p k (λ_=>rfl) rfl⟩
section
variable {X:Cx}
theorem Jsd (hc:X.calm=true):Jng X (.type "set") (λxs H Q=>∃(l:S5) (zs:List Str),xs= [.ref l]/\Sw X.K H l (zs.map V.str)/\zs.length<=2000/\∀a,H a=none->Q (.ref a) (upd H a (TxS X.prog X.w a zs))):=by
 intro pins s σ H xs us Q I r h
 obtain ⟨l,zs,rfl,hq,hz,q⟩:=h
 obtain ⟨u,rfl,ru⟩:=Jnq r
 obtain rfl:u=Value.ref l:=ru
 obtain ⟨its,rv,pl,_⟩:=I.list hq
 have hlen:=rv.length
 rw [yf] at hlen
 refine Jya (zs:=zs) (I.ok.hd hc) pl.isList (by simpa using hlen) (λi v hv=>?_) (by simp only [yu];unfold scanBound;omega) λh' tk hS kk=>⟨.ref s.heap.objs.size,_,I.laid (a:=s.heap.objs.size) (o:=TxS X.prog X.w s.heap.objs.size zs) (t':=tk) kk (yh _) (Skw hS),rfl,q _ (I.hok.fresh (yh _))⟩
 ·have hv':its[i]?=some v:=by simpa using hv
  have hlt:i < zs.length:=by have:=(yw.mp hv').1;omega
  obtain ⟨u,hu,ru⟩:=rv.get (i:=i) (x:=V.str zs[i]) (by rw [yk,yq hlt];rfl)
  rw [hv'] at hu
  cases hu
  obtain ⟨t,rfl⟩:=ru
  exact ⟨zs[i],t,yq hlt,rfl⟩
theorem Jsc:Jng X (.builtin "len") (λxs H Q=>∃(a:S5) (zs:List Str),xs= [.ref a]/\H a=some (TxS X.prog X.w a zs)/\Q (.int (uq zs).length) H):=by
 intro pins s σ H xs us Q I r h
 obtain ⟨a,zs,rfl,ha,q⟩:=h
 obtain ⟨u,rfl,ru⟩:=Jnq r
 obtain rfl:u=Value.ref a:=ru
 obtain ⟨o,es,ep,t,ho,hex,hd,_,_,hb,hf,hn⟩:=(I.hok a _ ha).1
 refine call_len_set ho hex hd hf (by unfold scanBound at hb;omega) ?_
 rw [hn]
 exact ⟨.int _,H,I.tok _,⟨_,rfl⟩,q⟩
end
theorem Sjn:bootBuiltins "set" =some (.type "set"):=by decide +kernel
theorem Jqu:bootBuiltins "enumerate" =some (.type "enumerate"):=by decide +kernel
section
variable {X:Cx}
end
def ItE (K:Si) (a:S5):It:=⟨λi H=>∃xs x,Sw K H a xs/\xs[i]?=some x,
 λi H x H'=>∃T u,H T=none/\x= .ref T/\(∀xs,Sw K H a xs->xs[i]?=some u)/\H'=upd H T (.tup [.int i,u]),
 λi H=>∃xs,Sw K H a xs/\i=xs.length⟩
def Sey (e it l:S5) (i:Nat) (h:Sg):Prop:=(∃old,IsEnum h e it i old)/\h.IsListIter it l i
theorem Sey.obj {e it l:S5} {i:Nat} {h:Sg} (st:Sey e it l i h):∀b∈ [e,it],∃o,h.get? b=some o/\∀v,o.data≠ .cell v:=λb hb=>by
 obtain ⟨⟨old,h1⟩,⟨o4,h4,_,d4⟩⟩:=st
 simp only [yi,yt,or_false] at hb
 rcases hb with rfl|rfl
 ·exact ⟨_,h1,λv z=>by cases z⟩
 ·exact ⟨o4,h4,λv z=>by rw [d4] at z;cases z⟩
theorem Y4 {P:Sb} {w:Sd} {K:Si} {elts:List Expr} {kt:Nat} {pt:Pos} (e it l:S5) (n1:e≠it) (n2:l≠e) (n3:l≠it):
  Jt3 P w K (.Tuple elts kt pt) (ItE K l) [e,it] e (Sey e it l) where
 mem:=by simp
 obj:=λi h st=>st.obj
 keep:=λi h h' st k=>by
  obtain ⟨⟨old,h1⟩,h2⟩:=st
  exact ⟨⟨old,k e (by simp) _ h1⟩,h2.at λo q=>k it (by simp) o q⟩
 item:=by
  intro X hP hw hK hc i pins s σ H E I hf st hg
  subst hP hw hK
  obtain ⟨xs,x,q1,hx⟩:=hg
  obtain ⟨its,rv,p1,_⟩:=I.list q1
  obtain ⟨u,hu,ru⟩:=rv.get hx
  have W:=WalksT.enumerate (prog:=X.prog) (w:=X.w) (I.ok.hd hc) e it l n1 n2 n3 its.toArray
  obtain ⟨s1,s2⟩:=st
  have li:i < its.length:=(yw.mp hu).1
  refine W.item i s _ _ (by simp only [yu];omega) ⟨s1,s2,p1.isList⟩ λT vals h' tk hP fT tT mid kk=>?_
  refine ⟨_,rfl,W.go elts kt pt i T _ _ _ mid λh'' st'' kk2=>?_⟩
  obtain ⟨t,a,ha,rfl⟩:=hP
  have ea:a=u:=by simpa [hu] using ha.symm
  subst ea
  obtain ⟨t1,t2,_⟩:=st''
  have kT:h''.IsTuple T #[.int i t,a]:=by
   obtain ⟨o,q,r⟩:=tT
   exact ⟨o,kk2 T o (W.apart i T h' mid) q,r⟩
  refine ⟨.ref T,upd H T (.tup [.int i,x]),I.turnTup (ch:=[e,it]) (t':=tk) hf (λc o hc q=>kk2 c o hc (kk c o hc q)) fT ⟨(show 2<=Sa by decide),[.int i t,a],.cons ⟨t,rfl⟩ (.cons ru .nil),kT⟩,rfl,⟨T,x,I.hok.fresh fT,rfl,λxs' hq=>by rw [I.list_inj hq q1];exact hx,rfl⟩,⟨t1,t2⟩,λc hc=>?_⟩
  have hcn:=(hf c hc).1
  rw [Jkt (λw'=>?_)]
  ·exact hcn
  ·subst w'
   obtain ⟨o,q,_⟩:=Sey.obj (show Sey e it l i s.heap from ⟨s1,s2⟩) c hc
   exact absurd (yg q) (Nat.not_lt.mpr fT)
 done:=by
  intro X hP hw hK hc i pins s σ H E I hf st hg
  subst hP hw hK
  obtain ⟨xs,q1,hi⟩:=hg
  obtain ⟨its,rv,p1,_⟩:=I.list q1
  have W:=WalksT.enumerate (prog:=X.prog) (w:=X.w) (I.ok.hd hc) e it l n1 n2 n3 its.toArray
  obtain ⟨s1,s2⟩:=st
  have e1:=rv.length
  have ei:i=its.toArray.size:=by simp only [yu];omega
  subst ei
  refine W.done s _ _ ⟨s1,s2,p1.isList⟩ λh' tk kk=>⟨rfl,?_⟩
  exact I.turnMany (ch:=[e,it]) hf λc o hc q=>kk c o hc q
 self:=λ_ _ _ _ _ st h=>let ⟨_,q⟩:=st.1;wpAny_pyIter_enum q h
def Sr4 (K:Si) (ta:TA):TI:=λσ H R=>ta σ H λvs H1=>∃a,vs= [.ref a]/\(∃xs,Sw K H1 a xs)/\R (ItE K a) H1
theorem Ya3 {X:Cx} {elts:List Expr} {kt:Nat} {pt:Pos} {a:Expr} {ta:TA} {p pos:Pos} (hg:Gl X "enumerate") (hm:X.mg "enumerate" =none) (ha:PA X [a] ta) (hs:starEach [a] X.env= [(false,eval a X.env)]:=by rfl):
  PI X (.Tuple elts kt pt) (.Call (.Name "enumerate" p) [a] [] pos) (Sr4 X.K ta):=by
 intro pins s σ H R I h
 refine Call_ (Jp3 I hg hm Jqu (PyProof.Rows.callWith_type1 (thn (ha pos pins s σ H _ I h) λus s1 zq=>?_) (by rw [hs];rfl) rfl))
 obtain ⟨vs,H1,I1,r1,q1⟩:=zq
 obtain ⟨l,rfl,⟨xs,q1⟩,q⟩:=q1
 obtain ⟨u,rfl,r2⟩:=Jnq r1
 obtain rfl:u=Value.ref l:=r2
 obtain ⟨its,rv,p1,_⟩:=I1.list q1
 have a1:l < s1.heap.objs.size:=by obtain ⟨o,n,e,_⟩:=p1;exact yg e
 refine call_enumerate_list p1.isList λh' z1 z2 z3 kk=>?_
 have I2:Sv X pins σ H1 {s1 with heap:=h'}:=I1.kept (t':=s1.toks) kk
 refine wpAny_pyIter_enum z1 ⟨_,_,_,_,H1,rfl,I2,Y4 (s1.heap.objs.size+1) s1.heap.objs.size l (Nat.succ_ne_self _) (yn (Nat.lt_succ_of_lt a1)) (yn a1),⟨⟨_,z1⟩,z2⟩,λc hc=>?_,q⟩
 have hc':s1.heap.objs.size<=c:=by
  simp only [yi,yt,or_false] at hc
  rcases hc with rfl|rfl
  ·exact Nat.le_succ _
  ·exact yh _
 exact I1.fpOk hc' (I1.hok.fresh hc')
section
variable {prog:Sb} {w:Sd} {A:Se} {E:S6->S7->Prop} {s:S7}
theorem Jvc {it t:S5} {i:Nat} {items:Array S6} {x:S6} {Q:S6->S7->Prop} (hit:s.heap.IsTupleIter it t i) (ht:s.heap.IsTuple t items) (hx:items[i]?=some x)
  (hQ:∀h',h'.IsTupleIter it t (i+1)->yap it s.heap h'->Q x {s with heap:=h'}):Sh (model prog w) A (Builtin.SmallTypes.nextOf (.ref it)) Q E s:=by
 obtain ⟨o,ho,hc,hd⟩:=id hit
 obtain ⟨ol,hol,_,nl,hdl⟩:=ht
 have hT:s.TypeIs (.ref it) "tuple_iterator" :=⟨o,ho,hc⟩
 unfold Builtin.SmallTypes.nextOf
 refine S8 (wpAny_callSpecial?_slot (name:=Str.ofString "__next__") hT slot_tupleiter_next (wpAny_call_entry slot_tupleiter_next hT entry_tupleiter_next ?_ (args_tupleiter_next _)))
 refine S8 (m:=field (.ref it) 0) (wpAny_field ho hd (x:=.ref t) rfl ?_)
 show Sh _ _ (if (Value.ref t==Value.none)=true then _ else _) _ _ s
 rw [if_neg (show ¬((Value.ref t==Value.none)=true) from yv)]
 refine S8 (m:=field (.ref it) 1) (wpAny_field ho hd (x:=.int i 0) rfl ?_)
 refine S8 (m:=seqItems? (.ref t)) (wpAny_seqItems hol hdl ?_)
 simp only [Int.toNat_natCast,hx]
 refine S8 (wpAny_setField ho hd (by simp) (S9 ⟨x,rfl,S9 (hQ _ ⟨_,ybh _ ho (Obj.isFreed_of_fields (Obj.data_mapFields hd _)),(Obj.cls_mapFields ..).trans hc,?_⟩ (yap.update ..))⟩))
 rw [Obj.data_mapFields hd]
 simp [rawInt]
theorem Jwa {it t:S5} {i:Nat} {items:Array S6} {Q:S6->S7->Prop} (hh:A.handled=none) (hit:s.heap.IsTupleIter it t i) (ht:s.heap.IsTuple t items) (hx:items[i]?=none)
  (hE:∀h' e,Heap.ExtBut it s.heap h'->(∃o,h'.get? e=some o/\o.cls= .type "StopIteration")->E (.ref e) {s with heap:=h'}):Sh (model prog w) A (Builtin.SmallTypes.nextOf (.ref it)) Q E s:=by
 obtain ⟨o,ho,hc,hd⟩:=id hit
 obtain ⟨ol,hol,_,nl,hdl⟩:=ht
 have hT:s.TypeIs (.ref it) "tuple_iterator" :=⟨o,ho,hc⟩
 unfold Builtin.SmallTypes.nextOf
 refine S8 (wpAny_callSpecial?_slot (name:=Str.ofString "__next__") hT slot_tupleiter_next (wpAny_call_entry slot_tupleiter_next hT entry_tupleiter_next ?_ (args_tupleiter_next _)))
 refine S8 (m:=field (.ref it) 0) (wpAny_field ho hd (x:=.ref t) rfl ?_)
 show Sh _ _ (if (Value.ref t==Value.none)=true then _ else _) _ _ s
 rw [if_neg (show ¬((Value.ref t==Value.none)=true) from yv)]
 refine S8 (m:=field (.ref it) 1) (wpAny_field ho hd (x:=.int i 0) rfl ?_)
 refine S8 (m:=seqItems? (.ref t)) (wpAny_seqItems hol hdl ?_)
 simp only [Int.toNat_natCast,hx]
 refine S8 (wpAny_rule (S8 (wpAny_setField ho hd (by simp) ?_)))
 refine S8 (m:=newExc (.type "StopIteration") []) ?_
 simp only [newExc,newTuple]
 refine S8 (wpAny_newObj_type (S8 (m:=firstArgMember _ _) (wpAny_of_eq (a:=Value.none) (by first|rfl|(simp only [firstArgMember];rfl)) (wpAny_newObj_type ?_ (by size_fits)))) (by size_fits))
 simp only [raiseNew]
 refine S8 (wpAny_handled ?_)
 first|rw [show A.in1.handled=none from hh]|rw [hh]
 exact S8 (S9 (wpAny_throw (hE _ _ (((yap.update ..).extBut.push _).push _) ⟨_,yr _ rfl,rfl⟩)))
end
theorem Jrm {prog:Sb} {w:Sd} {A:Se} (hh:A.handled=none) (it l:S5) (hne:l≠it) (items:Array S6):
  Draws prog w A it [it,l] items.size (λi v=>items[i]?=some v) (λi h=>h.IsTupleIter it l i/\h.IsTuple l items) where
 live:=λ_ _ st=>let ⟨o,ho,_⟩:=st.1;⟨o,ho⟩
 frame:=λ_ _ _ st hk=>⟨st.1.at λo e=>hk it (by simp) o e,st.2.at λo e=>hk l (by simp) o e⟩
 item:=λi s Q E hi st hQ=>Jvc st.1 st.2 (x:=items[i]) (by simp [hi]) λh' hit' hs'=>hQ _ h' s.toks (by simp [hi]) ⟨hit',st.2.extBut hs'.extBut hne⟩ hs'
 done:=λs Q E st hE=>Jwa hh st.1 st.2 (by simp) hE
set_option maxRecDepth 100000 in
set_option maxHeartbeats 2000000 in
theorem Jyu (l:S5) (items:Array S6) (n:Nat) (dct:Option S5) (sl:Array (Option S6)):
  Meets (Builtin.«enumerate.__new__» ⟨[.type "enumerate",.ref l],[]⟩) (λ_ R s=>s.heap.get? l=some {cls:=.type "tuple",dict:=dct,data:=.seq items n,slots:=sl}/\
   R (.ok (.ret (.ref (s.heap.push {cls:=.type "tuple_iterator",data:=.fields #[.ref l,.int 0 0]}).objs.size)))
    {s with heap:=(s.heap.push {cls:=.type "tuple_iterator",data:=.fields #[.ref l,.int 0 0]}).push {cls:=.type "enumerate",data:=.fields #[.none,.bool false,.ref s.heap.objs.size,rawInt 0,.none,.none]}}):=
 .of_wp λprog w A R s h=>by
  obtain ⟨hp,g,d,tk,os⟩:=s
  obtain ⟨hl,h⟩:=h
  have e1:=sub_enumerate
  have e2:Heap.IsTuple (Shared.heap ⟨hp,g,d,tk,os⟩) l items:=⟨_,hl,rfl,n,rfl⟩
  wp_walk using AutoSeq1.wpAny_loadPart' hl
  refine wpAny_stack_any λst=>S9 ?_
  split
  ·rename_i c _ _ _ _ _
   cases (c==Value.type "enumerate")
   ·wp_walk using AutoSeq1.wpAny_loadPart' hl,wpAny_pyIter_tuple e2
    exact ⟨_,rfl,h⟩
   ·wp_walk using AutoSeq1.wpAny_loadPart' hl,wpAny_pyIter_tuple e2
    exact ⟨_,rfl,h⟩
  ·wp_walk using AutoSeq1.wpAny_loadPart' hl,wpAny_pyIter_tuple e2
   exact ⟨_,rfl,h⟩
section
variable {prog:Sb} {w:Sd} {A:Se} {E:S6->S7->Prop} {s:S7}
theorem Jxr {l:S5} {items:Array S6} {Q:S6->S7->Prop} (hL:s.heap.IsTuple l items)
  (h:∀h',IsEnum h' (s.heap.objs.size+1) s.heap.objs.size 0 .none->h'.IsTupleIter s.heap.objs.size l 0->(∀b o,s.heap.get? b=some o->h'.get? b=some o)->Q (.ref (s.heap.objs.size+1)) {s with heap:=h'}):
  Sh (model prog w) A (call (.type "enumerate") [.ref l]) Q E s:=by
 obtain ⟨⟨c,dct,dt,sl⟩,hl,hc,n,hd⟩:=hL
 replace hc:c= .type "tuple" :=hc
 replace hd:dt= .seq items n:=hd
 subst hc hd
 refine callType_new F.called_enumerate (by decide) (F.typeCall_enumerate_1 _) (F.newCall_enumerate_1 _) (λobj=>F.args_object_init_2 obj _) F.entry_enumerate_new (Jyu l items n dct sl) ⟨hl,?_⟩
 have hz:(s.heap.push {cls:=.type "tuple_iterator",data:=.fields #[.ref l,.int 0 0]}).objs.size=s.heap.objs.size+1:=yak ..
 show _/\_
 rw [hz]
 have he:IsEnum ((s.heap.push {cls:=.type "tuple_iterator",data:=.fields #[.ref l,.int 0 0]}).push {cls:=.type "enumerate",data:=.fields #[.none,.bool false,.ref s.heap.objs.size,rawInt 0,.none,.none]}) (s.heap.objs.size+1) s.heap.objs.size 0 .none:=by
  have q:=yr (s.heap.push {cls:=.type "tuple_iterator",data:=.fields #[.ref l,.int 0 0]}) (o:={cls:=.type "enumerate",data:=.fields #[.none,.bool false,.ref s.heap.objs.size,rawInt 0,.none,.none]}) rfl
  rw [hz] at q
  exact q
 exact ⟨⟨_,he,rfl⟩,h _ he ⟨_,yj _ (yr _ rfl),rfl,rfl⟩ λb o x=>yj _ (yj _ x)⟩
end
def ItU (K:Si) (a:S5):It:=⟨λi H=>∃xs x,SqT K H a xs/\xs[i]?=some x,
 λi H x H'=>∃T u,H T=none/\x= .ref T/\(∀xs,SqT K H a xs->xs[i]?=some u)/\H'=upd H T (.tup [.int i,u]),
 λi H=>∃xs,SqT K H a xs/\i=xs.length⟩
def Sez (e it l:S5) (i:Nat) (h:Sg):Prop:=(∃old,IsEnum h e it i old)/\h.IsTupleIter it l i
theorem Sez.obj {e it l:S5} {i:Nat} {h:Sg} (st:Sez e it l i h):∀b∈ [e,it],∃o,h.get? b=some o/\∀v,o.data≠ .cell v:=λb hb=>by
 obtain ⟨⟨old,h1⟩,⟨o4,h4,_,d4⟩⟩:=st
 simp only [yi,yt,or_false] at hb
 rcases hb with rfl|rfl
 ·exact ⟨_,h1,λv z=>by cases z⟩
 ·exact ⟨o4,h4,λv z=>by rw [d4] at z;cases z⟩
theorem Jyf {P:Sb} {w:Sd} {K:Si} {elts:List Expr} {kt:Nat} {pt:Pos} (e it l:S5) (n1:e≠it) (n2:l≠e) (n3:l≠it):
  Jt3 P w K (.Tuple elts kt pt) (ItU K l) [e,it] e (Sez e it l) where
 mem:=by simp
 obj:=λi h st=>st.obj
 keep:=λi h h' st k=>by
  obtain ⟨⟨old,h1⟩,h2⟩:=st
  exact ⟨⟨old,k e (by simp) _ h1⟩,h2.at λo q=>k it (by simp) o q⟩
 item:=by
  intro X hP hw hK hc i pins s σ H E I hf st hg
  subst hP hw hK
  obtain ⟨xs,x,q1,hx⟩:=hg
  obtain ⟨its,rv,p1,_⟩:=I.tuple q1
  obtain ⟨u,hu,ru⟩:=rv.get hx
  have hh:X.A.in1.handled=none:=I.ok.hd hc
  have W:=WalksT.enumerateD (prog:=X.prog) (w:=X.w) (A:=X.A) (Jrm hh it l n3 its.toArray) e n1 (by simp [n1,ym n2]) (by simp)
  obtain ⟨s1,s2⟩:=st
  have li:i < its.length:=(yw.mp hu).1
  refine W.item i s _ _ (by simp only [yu];omega) ⟨s1,s2,p1⟩ λT vals h' tk hP fT tT mid kk=>?_
  refine ⟨_,rfl,W.go elts kt pt i T _ _ _ mid λh'' st'' kk2=>?_⟩
  obtain ⟨t,a,ha,rfl⟩:=hP
  have ea:a=u:=by simpa [hu] using ha.symm
  subst ea
  obtain ⟨t1,t2,_⟩:=st''
  have kT:h''.IsTuple T #[.int i t,a]:=by
   obtain ⟨o,q,r⟩:=tT
   exact ⟨o,kk2 T o (W.apart i T h' mid) q,r⟩
  refine ⟨.ref T,upd H T (.tup [.int i,x]),I.turnTup (ch:=[e,it]) (t':=tk) hf (λc o hc q=>kk2 c o hc (kk c o hc q)) fT ⟨(show 2<=Sa by decide),[.int i t,a],.cons ⟨t,rfl⟩ (.cons ru .nil),kT⟩,rfl,⟨T,x,I.hok.fresh fT,rfl,λxs' hq=>by rw [I.tuple_inj hq q1];exact hx,rfl⟩,⟨t1,t2⟩,λc hc=>?_⟩
  have hcn:=(hf c hc).1
  rw [Jkt (λw'=>?_)]
  ·exact hcn
  ·subst w'
   obtain ⟨o,q,_⟩:=Sez.obj (show Sez e it l i s.heap from ⟨s1,s2⟩) c hc
   exact absurd (yg q) (Nat.not_lt.mpr fT)
 done:=by
  intro X hP hw hK hc i pins s σ H E I hf st hg
  subst hP hw hK
  obtain ⟨xs,q1,hi⟩:=hg
  obtain ⟨its,rv,p1,_⟩:=I.tuple q1
  have hh:X.A.in1.handled=none:=I.ok.hd hc
  have W:=WalksT.enumerateD (prog:=X.prog) (w:=X.w) (A:=X.A) (Jrm hh it l n3 its.toArray) e n1 (by simp [n1,ym n2]) (by simp)
  obtain ⟨s1,s2⟩:=st
  have e1:=rv.length
  have ei:i=its.toArray.size:=by simp only [yu];omega
  subst ei
  refine W.done s _ _ ⟨s1,s2,p1⟩ λh' tk kk=>⟨rfl,?_⟩
  exact I.turnMany (ch:=[e,it]) hf λc o hc q=>kk c o hc q
 self:=λ_ _ _ _ _ st h=>let ⟨_,q⟩:=st.1;wpAny_pyIter_enum q h
def Sml (K:Si) (ta:TA):TI:=λσ H R=>ta σ H λvs H1=>∃a,vs= [.ref a]/\(∃xs,SqT K H1 a xs)/\R (ItU K a) H1
theorem Jzh {X:Cx} {elts:List Expr} {kt:Nat} {pt:Pos} {a:Expr} {ta:TA} {p pos:Pos} (hg:Gl X "enumerate") (hm:X.mg "enumerate" =none) (ha:PA X [a] ta) (hs:starEach [a] X.env= [(false,eval a X.env)]:=by rfl):
  PI X (.Tuple elts kt pt) (.Call (.Name "enumerate" p) [a] [] pos) (Sml X.K ta):=by
 intro pins s σ H R I h
 refine Call_ (Jp3 I hg hm Jqu (PyProof.Rows.callWith_type1 (thn (ha pos pins s σ H _ I h) λus s1 zq=>?_) (by rw [hs];rfl) rfl))
 obtain ⟨vs,H1,I1,r1,q1⟩:=zq
 obtain ⟨l,rfl,⟨xs,q1⟩,q⟩:=q1
 obtain ⟨u,rfl,r2⟩:=Jnq r1
 obtain rfl:u=Value.ref l:=r2
 obtain ⟨its,rv,p1,_⟩:=I1.tuple q1
 have a1:l < s1.heap.objs.size:=by obtain ⟨o,e,_⟩:=p1;exact yg e
 refine Jxr (show s1.heap.IsTuple l its.toArray from p1) λh' z1 z2 kk=>?_
 have I2:Sv X pins σ H1 {s1 with heap:=h'}:=I1.kept (t':=s1.toks) kk
 refine wpAny_pyIter_enum z1 ⟨_,_,_,_,H1,rfl,I2,Jyf (s1.heap.objs.size+1) s1.heap.objs.size l (Nat.succ_ne_self _) (yn (Nat.lt_succ_of_lt a1)) (yn a1),⟨⟨_,z1⟩,z2⟩,λc hc=>?_,q⟩
 have hc':s1.heap.objs.size<=c:=by
  simp only [yi,yt,or_false] at hc
  rcases hc with rfl|rfl
  ·exact Nat.le_succ _
  ·exact yh _
 exact I1.fpOk hc' (I1.hok.fresh hc')
abbrev DrA (prog:Sb) (w:Sd) (i l:S5) (n:Nat) (P:Nat->S6->Prop) (St:Nat->Sg->Prop):Prop:=∀A:Se,A.handled=none->Draws prog w A i [i,l] n P St
section
variable {prog:Sb} {w:Sd} {A:Se} {E:S6->S7->Prop} {s:S7}
variable {z TI TO i1 i2 i3 l1 l2 l3:S5} {n k:Nat} {P1 P2 P3:Nat->S6->Prop} {S1 S2 S3:Nat->Sg->Prop} {a b c:S6}
end
section
variable {prog:Sb} {w:Sd} {z TI TO i1 i2 i3 l1 l2 l3:S5} {n:Nat} {P1 P2 P3:Nat->S6->Prop} {S1 S2 S3:Nat->Sg->Prop}
end
def SqB (K:Si) (H:Hp) (l:S5):Bool->List V->Prop
 |false,xs=>Sw K H l xs
 |true,xs=>SqT K H l xs
def IsB (h:Sg) (l:S5):Bool->Array S6->Prop
 |false,items=>h.IsList l items
 |true,items=>h.IsTuple l items
def IS (it l:S5):Bool->Nat->Sg->Prop
 |false,i,h=>h.IsListIter it l i
 |true,i,h=>h.IsTupleIter it l i
def itO (l:S5):Bool->Obj
 |false=>{cls:=.type "list_iterator",data:=.fields #[.ref l,.int 0 0]}
 |true=>{cls:=.type "tuple_iterator",data:=.fields #[.ref l,.int 0 0]}
theorem IS.at {it l:S5} {b:Bool} {i:Nat} {h h':Sg} (x:IS it l b i h) (k:∀o,h.get? it=some o->h'.get? it=some o):IS it l b i h':=by
 cases b
 ·exact Heap.IsListIter.at x k
 ·exact Heap.IsTupleIter.at x k
theorem IS.obj {it l:S5} {b:Bool} {i:Nat} {h:Sg} (x:IS it l b i h):∃o,h.get? it=some o/\∀v,o.data≠ .cell v:=by
 cases b
 ·obtain ⟨o,e,_,d⟩:=x
  exact ⟨o,e,λv z=>by rw [d] at z;cases z⟩
 ·obtain ⟨o,e,_,d⟩:=x
  exact ⟨o,e,λv z=>by rw [d] at z;cases z⟩
theorem drA {prog:Sb} {w:Sd} {it l:S5} (b:Bool) (ne:l≠it) (items:Array S6):DrA prog w it l items.size (λi v=>items[i]?=some v) (λi h=>IS it l b i h/\IsB h l b items):=λA hh=>by
 cases b
 ·exact Draws.list hh it l ne items
 ·exact Jrm hh it l ne items
section
variable {prog:Sb} {w:Sd} {A:Se} {E:S6->S7->Prop} {s:S7}
theorem IsB.push {h:Sg} {l:S5} {b:Bool} {items:Array S6} (x:IsB h l b items) (o:Obj):IsB (h.push o) l b items:=by
 cases b
 ·exact Heap.IsList.push x o
 ·exact Heap.IsTuple.push x o
theorem IsB.lt {h:Sg} {l:S5} {b:Bool} {items:Array S6} (x:IsB h l b items):l < h.objs.size:=by
 cases b
 ·obtain ⟨o,e,_⟩:=x;exact yg e
 ·obtain ⟨o,e,_⟩:=x;exact yg e
theorem Sip {l:S5} {b:Bool} {items:Array S6} {Q:S6->S7->Prop} (x:IsB s.heap l b items) (hQ:Q (.ref s.heap.objs.size) {s with heap:=s.heap.push (itO l b)}):Sh (model prog w) A (pyIter (.ref l)) Q E s:=by
 cases b
 ·exact wpAny_pyIter_list x hQ
 ·exact wpAny_pyIter_tuple x hQ
end
abbrev zA (h:Sg) (l1:S5) (b1:Bool):Sg:=h.push (itO l1 b1)
abbrev zB (h:Sg) (l1 l2:S5) (b1 b2:Bool):Sg:=(zA h l1 b1).push (itO l2 b2)
section
variable {prog:Sb} {w:Sd} {A:Se} {E:S6->S7->Prop} {s:S7}
end
section
variable {X:Cx} {pins:List (S5×Obj)} {σ:St} {H:Hp} {s:S7}
theorem Sv.seqB {l:S5} {b:Bool} {xs:List V} (I:Sv X pins σ H s) (h:SqB X.K H l b xs):∃its,Sa1 xs its/\IsB s.heap l b its.toArray:=by
 cases b
 ·obtain ⟨its,rv,p,_⟩:=I.list h
  exact ⟨its,rv,p.isList⟩
 ·obtain ⟨its,rv,p,_⟩:=I.tuple h
  exact ⟨its,rv,p⟩
theorem Sv.seqB_inj {l:S5} {b:Bool} {xs ys:List V} (I:Sv X pins σ H s) (h:SqB X.K H l b xs) (h':SqB X.K H l b ys):xs=ys:=by
 cases b
 ·exact I.list_inj h h'
 ·exact I.tuple_inj h h'
end
section
variable {K:Si} {g:TG} {σ:St} {H:Hp}
theorem Yo {a:S5} {xs:List V} {tb:TS} {D:Jon} (Pv:Nat->St->Hp->Prop) (h0:Pv 0 σ H) (hl:∀i σ H,i<=xs.length->Pv i σ H->Sw K H a xs)
  (hs:∀i x σ H T,xs[i]?=some x->Pv i σ H->H T=none->g (.ref T) σ (upd H T (.tup [.int i,x])) λσ2 H2=>tb {D with nx:=Pv (i+1),ct:=Pv (i+1),bk:=D.nx} σ2 H2) (hd:∀σ H,Pv xs.length σ H->D.nx σ H):
  ∃W:Nat->Nat->St->Hp->Prop,(∃m,W 0 m σ H)/\∀i m σ H,W i m σ H->
   ((ItE K a).stop i H/\D.nx σ H)\/((ItE K a).go i H/\∃N:St->Hp->Prop,(∀σ' H',N σ' H'->∃m',m' < m/\W (i+1) m' σ' H')/\∀x H',(ItE K a).yld i H x H'->g x σ H' λσ2 H2=>tb {D with nx:=N,ct:=N,bk:=D.nx} σ2 H2):=by
 refine ⟨λi m σ H=>m=xs.length - i/\i<=xs.length/\Pv i σ H,⟨xs.length,by simp,yah _,h0⟩,?_⟩
 rintro i m σ H ⟨rfl,hi,p⟩
 have q:=hl i σ H hi p
 by_cases hlt:i < xs.length
 ·refine .inr ⟨⟨xs,xs[i],q,by simp [hlt]⟩,Pv (i+1),λσ' H' p'=>⟨xs.length - (i+1),by omega,rfl,hlt,p'⟩,λx H' y=>?_⟩
  obtain ⟨T,u,hT,rfl,hu,rfl⟩:=y
  exact hs i u σ _ T (hu xs q) p hT
 ·have e:i=xs.length:=by omega
  subst e
  exact .inl ⟨⟨xs,q,rfl⟩,hd σ H p⟩
theorem Jyy {a:S5} {xs:List V} {tb:TS} {D:Jon} (Pv:Nat->St->Hp->Prop) (h0:Pv 0 σ H) (hl:∀i σ H,i<=xs.length->Pv i σ H->SqT K H a xs)
  (hs:∀i x σ H T,xs[i]?=some x->Pv i σ H->H T=none->g (.ref T) σ (upd H T (.tup [.int i,x])) λσ2 H2=>tb {D with nx:=Pv (i+1),ct:=Pv (i+1),bk:=D.nx} σ2 H2) (hd:∀σ H,Pv xs.length σ H->D.nx σ H):
  ∃W:Nat->Nat->St->Hp->Prop,(∃m,W 0 m σ H)/\∀i m σ H,W i m σ H->
   ((ItU K a).stop i H/\D.nx σ H)\/((ItU K a).go i H/\∃N:St->Hp->Prop,(∀σ' H',N σ' H'->∃m',m' < m/\W (i+1) m' σ' H')/\∀x H',(ItU K a).yld i H x H'->g x σ H' λσ2 H2=>tb {D with nx:=N,ct:=N,bk:=D.nx} σ2 H2):=by
 refine ⟨λi m σ H=>m=xs.length - i/\i<=xs.length/\Pv i σ H,⟨xs.length,by simp,yah _,h0⟩,?_⟩
 rintro i m σ H ⟨rfl,hi,p⟩
 have q:=hl i σ H hi p
 by_cases hlt:i < xs.length
 ·refine .inr ⟨⟨xs,xs[i],q,by simp [hlt]⟩,Pv (i+1),λσ' H' p'=>⟨xs.length - (i+1),by omega,rfl,hlt,p'⟩,λx H' y=>?_⟩
  obtain ⟨T,u,hT,rfl,hu,rfl⟩:=y
  exact hs i u σ _ T (hu xs q) p hT
 ·have e:i=xs.length:=by omega
  subst e
  exact .inl ⟨⟨xs,q,rfl⟩,hd σ H p⟩
end
section
variable {X:Cx}
theorem Jws {K:Si} (h:X.K=K):OpR X (compareOp .In) (rIn K false):=by subst h;exact Ju1
theorem Jps {K:Si} {e:Expr} {f:Str} {ta:TE} {pos:Pos} (h:X.K=K) (he:PE X e ta) (hb:attributeBase e f X.env (eval e X.env)=eval e X.env):PE X (.Attribute e f pos) (Snj K ta f):=by subst h;exact Jl5 he hb
end
section
variable {X:Cx} {pos:Pos}
end
section
variable {g:TG} {tt:TT} {te:TE} {H:Hp} {D:S5} {σ:St} {R:Hp->Prop}
theorem Jyq {K:Si} {a:S5} {xs:List V} (Pv:Nat->St->Hp->Prop) (h0:Pv 0 σ H) (hl:∀i σ H,i<=xs.length->Pv i σ H->SqT K H a xs)
  (hs:∀i x σ H,xs[i]?=some x->Pv i σ H->g x σ H λσ3 H3=>tt σ3 H3 λb H4=>if b=true then te σ3 H4 (λv H5=>∃ys,H5 D=some (.lst ys)/\ys.length < Sa/\Pv (i+1) σ3 (upd H5 D (.lst (ys++ [v])))) else Pv (i+1) σ3 H4)
  (hd:∀σ H,Pv xs.length σ H->R H):
  ∃W:Nat->Nat->St->Hp->Prop,(∃m,W 0 m σ H)/\∀i m σ' H',W i m σ' H'->((Itt K a).stop i H'/\R H')\/((Itt K a).go i H'/\∃N:St->Hp->Prop,(∀σ2 H2,N σ2 H2->∃m',m' < m/\W (i+1) m' σ2 H2)/\
   ∀x H2,(Itt K a).yld i H' x H2->g x σ' H2 λσ3 H3=>tt σ3 H3 λb H4=>if b=true then te σ3 H4 (λv H5=>∃ys,H5 D=some (.lst ys)/\ys.length < Sa/\N σ3 (upd H5 D (.lst (ys++ [v])))) else N σ3 H4):=by
 refine ⟨λi m σ H=>m=xs.length - i/\i<=xs.length/\Pv i σ H,⟨xs.length,by simp,yah _,h0⟩,?_⟩
 rintro i m σ H ⟨rfl,hi,p⟩
 have q:=hl i σ H hi p
 by_cases hlt:i < xs.length
 ·refine .inr ⟨⟨xs,xs[i],q,by simp [hlt]⟩,Pv (i+1),λσ' H' p'=>⟨xs.length - (i+1),by omega,rfl,hlt,p'⟩,λx H' y=>?_⟩
  obtain ⟨e,y⟩:=y
  subst e
  exact hs i x σ _ (y xs q) p
 ·have e:i=xs.length:=by omega
  subst e
  exact .inl ⟨⟨xs,q,yh _⟩,hd σ H p⟩
end
theorem Jos {K:Si} {a D:S5} {xs:List V} {te:TE} {R:Hp->Prop} {H:Hp} {o:Option V} {rest:List (Option V)} (ys:List V) (hD:H D=none) (el:ys.length=xs.length) (sz:xs.length<=2000) (hq:H a=some (.lst xs))
  (he:∀(i:Nat) (x y:V) (H':Hp) (Q:VK),xs[i]?=some x->ys[i]?=some y->Sn H H'->(∀H5,Sn H' H5->Q y H5)->te (some x::rest) H' Q) (hd:∀H',Sn H H'->H' D=some (.lst ys)->R H'):
  ∃W:Nat->Nat->St->Hp->Prop,(∃m,W 0 m (o::rest) (upd H D (.lst [])))/\∀i m σ' H',W i m σ' H'->((Itl K a).stop i H'/\R H')\/((Itl K a).go i H'/\∃N:St->Hp->Prop,(∀σ2 H2,N σ2 H2->∃m',m' < m/\W (i+1) m' σ2 H2)/\
   ∀x H2,(Itl K a).yld i H' x H2->Jtv 0 x σ' H2 λσ3 H3=>Si6 σ3 H3 λb H4=>if b=true then te σ3 H4 (λv H5=>∃ys,H5 D=some (.lst ys)/\ys.length < Sa/\N σ3 (upd H5 D (.lst (ys++ [v])))) else N σ3 H4):=by
 refine Jmp (λi σ H'=>(∃o,σ=o::rest)/\H' D=some (.lst (ys.take i))/\Sn H H') ⟨⟨_,rfl⟩,Sy,Sn.upd hD⟩ (λi σ H' _ ⟨_,_,sm⟩=>Sw.of (sm _ _ hq)) ?_ ?_
 ·rintro i x σ H' hx ⟨⟨o,rfl⟩,hDs,sm⟩
  have hi:i < ys.length:=by rw [el];exact (yw.mp hx).1
  refine Jmo (he i x ys[i] H' _ hx (yq hi) sm λH5 s5=>⟨_,s5 _ _ hDs,?_,⟨_,rfl⟩,?_,λc u z=>?_⟩)
  ·rw [yx]
   exact Jls (by omega)
  ·rw [Sy,yam,yq hi]
   rfl
  ·rw [Jkt (Jkw z hD)]
   exact s5 _ _ (sm _ _ z)
 ·rintro σ H' ⟨_,hDs,sm⟩
  rw [yab (by omega)] at hDs
  exact hd H' sm hDs
theorem Jpo {K:Si} {a D:S5} {xs:List V} {te:TE} {R:Hp->Prop} {H:Hp} {o:Option V} {rest:List (Option V)} (ys:List V) (hD:H D=none) (el:ys.length=xs.length) (sz:xs.length<=2000) (hq:H a=some (.tup xs))
  (he:∀(i:Nat) (x y:V) (H':Hp) (Q:VK),xs[i]?=some x->ys[i]?=some y->Sn H H'->(∀H5,Sn H' H5->Q y H5)->te (some x::rest) H' Q) (hd:∀H',Sn H H'->H' D=some (.lst ys)->R H'):
  ∃W:Nat->Nat->St->Hp->Prop,(∃m,W 0 m (o::rest) (upd H D (.lst [])))/\∀i m σ' H',W i m σ' H'->((Itt K a).stop i H'/\R H')\/((Itt K a).go i H'/\∃N:St->Hp->Prop,(∀σ2 H2,N σ2 H2->∃m',m' < m/\W (i+1) m' σ2 H2)/\
   ∀x H2,(Itt K a).yld i H' x H2->Jtv 0 x σ' H2 λσ3 H3=>Si6 σ3 H3 λb H4=>if b=true then te σ3 H4 (λv H5=>∃ys,H5 D=some (.lst ys)/\ys.length < Sa/\N σ3 (upd H5 D (.lst (ys++ [v])))) else N σ3 H4):=by
 refine Jyq (λi σ H'=>(∃o,σ=o::rest)/\H' D=some (.lst (ys.take i))/\Sn H H') ⟨⟨_,rfl⟩,Sy,Sn.upd hD⟩ (λi σ H' _ ⟨_,_,sm⟩=>SqT.of (sm _ _ hq)) ?_ ?_
 ·rintro i x σ H' hx ⟨⟨o,rfl⟩,hDs,sm⟩
  have hi:i < ys.length:=by rw [el];exact (yw.mp hx).1
  refine Jmo (he i x ys[i] H' _ hx (yq hi) sm λH5 s5=>⟨_,s5 _ _ hDs,?_,⟨_,rfl⟩,?_,λc u z=>?_⟩)
  ·rw [yx]
   exact Jls (by omega)
  ·rw [Sy,yam,yq hi]
   rfl
  ·rw [Jkt (Jkw z hD)]
   exact s5 _ _ (sm _ _ z)
 ·rintro σ H' ⟨_,hDs,sm⟩
  rw [yab (by omega)] at hDs
  exact hd H' sm hDs
section
variable {X:Cx}
end
theorem But.new {p D:S5} {H H':Hp} {o:HO} (b:But p H H') (hD:H D=none) (hp:Scg H p):But p H (upd H' D o):=by
 have ne:p≠D:=λe=>by obtain ⟨_,_,_,q⟩:=hp;rw [e,hD] at q;cases q
 refine ⟨λc u n e=>?_,?_⟩
 ·rw [Jkt (λz=>by subst z;rw [hD] at e;cases e)]
  exact b.1 c u n e
 ·obtain ⟨x,y,z,q⟩:=b.2
  exact ⟨x,y,z,by rw [Jkt ne];exact q⟩
section
variable {X:Cx}
end
section
variable {prog:Sb} {w:Sd} {A:Se} {E:S6->S7->Prop} {s:S7}
variable {z TI TO i1 i2 i3 i4 l1 l2 l3 l4:S5} {n k:Nat} {P1 P2 P3 P4:Nat->S6->Prop} {S1 S2 S3 S4:Nat->Sg->Prop} {a b c d0:S6}
end
section
variable {prog:Sb} {w:Sd} {z TI TO i1 i2 i3 i4 l1 l2 l3 l4:S5} {n:Nat} {P1 P2 P3 P4:Nat->S6->Prop} {S1 S2 S3 S4:Nat->Sg->Prop}
end
section
variable {prog:Sb} {w:Sd} {A:Se} {E:S6->S7->Prop} {s:S7}
end
section
variable {K:Si} {g:TG} {σ:St} {H:Hp}
end
section
variable {X:Cx}
end
theorem ft_mk {K:Si} {h:Sg} {mg:Str->Option S6} (X:K.In h) (G:h.Ns mainGlobals mg) {q:Str} {st:Sf} {ps:List Str} {f:S5} {od an:Option S5} {sl:Array (Option S6)} {oc kV dc pm cd ct:S6} (a:PySem.W.nsIn K mainGlobals q=some (some (.ref f)))
  (l:K.lookup f=some ⟨oc,od,.func (PySem.W.fnOf q q (Jnd st) (Jmd st) (Jku st) .none kV dc pm an cd ct),sl⟩) (c:PySem.W.codeIn K cd q=true) (k:PySem.W.keepIn K (.ref f)=true)
  (hb:∀(kV doc pm:S6) (an:Option S5) (cdv ct:S6) (us:List S6),us.length=ps.length->bindArgs (PySem.W.fnOf q q (Jnd st) (Jmd st) (Jku st) .none kV doc pm an cdv ct) ⟨us,[]⟩=pure (ps.zip us)):FT K mg q st ps f (PySem.W.fnOf q q (Jnd st) (Jmd st) (Jku st) .none kV dc pm an cd ct):=
 ⟨PySem.W.mg_of X G a,Juf (st:=st) l c k,(Juf (st:=st) l c k).binds hb⟩
theorem fm_mk {K:Si} {n q:Str} {st:Sf} {ps:List Str} {f:S5} {od an:Option S5} {sl:Array (Option S6)} {oc kV dc pm cd ct:S6}
  (l:K.lookup f=some ⟨oc,od,.func (PySem.W.fnOf n q (Jnd st) (Jmd st) (Jku st) .none kV dc pm an cd ct),sl⟩) (c:PySem.W.codeIn K cd q=true) (k:PySem.W.keepIn K (.ref f)=true)
  (hb:∀(kV doc pm:S6) (an:Option S5) (cdv ct:S6) (us:List S6),us.length=ps.length->bindArgs (PySem.W.fnOf n q (Jnd st) (Jmd st) (Jku st) .none kV doc pm an cdv ct) ⟨us,[]⟩=pure (ps.zip us)):FM K n q st ps f (PySem.W.fnOf n q (Jnd st) (Jmd st) (Jku st) .none kV dc pm an cd ct):=
 ⟨Juf (st:=st) l c k,(Juf (st:=st) l c k).binds hb⟩
theorem xc_mk {K:Si} {C W fI:S5} {nm q:Str} {N:S5} {bs:List S6} {sn:List Str} {sub:List S6} {ab:Bool} {col:Option Bool} {dd:Option S5} {u v w x y:Option S6}
  (l:K.lookup C=some (excClassObj nm q C N bs (.ref W::VEm) true sn sub ab col dd u v w x y "ValueError.__new__")) (t:PySem.W.tailIn K VEm (.ref W::VEm)=true) (a:xcB K C fI=true):Sai K C W fI:=⟨⟨_,_,_,_,_,_,_,_,_,_,_,_,_,_,l⟩,t,a⟩
theorem ec_mk {K:Si} {C:S5} {dd:Option S5} {cl:ClassData} {s:Array (Option S6)} (l:K.lookup C=some ⟨.type "type",dd,.cls cl,s⟩) (m:Sl K C (.type "BaseException")=some true):Sp9 K C:=⟨⟨_,_,_,l⟩,m⟩
section
variable {K:Si} {g:TG} {σ:St} {H:Hp}
end
abbrev Jmz (h:Sg) (T:S5) (a b:S6):Prop:=h.get? T=some {cls:=.type "tuple",data:=.seq #[a,b]}
structure Z2 (z TI TO i1 i2 l1 l2:S5):Prop where
 nd: [z,TI,TO,i1,i2].Nodup
 m1:l1∉ [z,TI,TO,i1,i2]
 m2:l2∉ [z,TI,TO,i1,i2]
section
variable {prog:Sb} {w:Sd} {A:Se} {E:S6->S7->Prop} {s:S7}
theorem Y5 {T:S5} {a b x:S6} {k:Nat} {Q:Unit->S7->Prop} (hT:Jmz s.heap T a b)
  (h:∀h',h'.get? T=some {cls:=.type "tuple",data:=.seq ((#[a,b]:Array S6).setIfInBounds k x)}->yap T s.heap h'->Q () {s with heap:=h'}):Sh (model prog w) A (updateSeq T (·.setIfInBounds k x)) Q E s:=by
 refine wpAny_updateSeq hT rfl (h _ ?_ (yap.update ..))
 rw [ybh _ hT rfl]
 simp [Obj.mapSeq]
variable {z TI TO i1 i2 l1 l2:S5} {n k:Nat} {P1 P2:Nat->S6->Prop} {S1 S2:Nat->Sg->Prop} {a b:S6}
theorem Yb4 {Q:S6->S7->Prop} (Z:Z2 z TI TO i1 i2 l1 l2) (hz:IsZip s.heap z TI TO .none) (hTI:Jmz s.heap TI (.ref i1) (.ref i2)) (hTO:Jmz s.heap TO a b)
  (hh:A.handled=none) (D1:DrA prog w i1 l1 n P1 S1) (D2:DrA prog w i2 l2 n P2 S2) (hk:k < n) (t1:S1 k s.heap) (t2:S2 k s.heap)
  (hQ:∀x y h' tk,P1 k x->P2 k y->IsZip h' z TI TO (rawInt s.heap.objs.size)->Jmz h' TO x y->S1 (k+1) h'->S2 (k+1) h'->Jmz h' s.heap.objs.size x y->
   (∀d o,d≠z->d≠TO->d≠i1->d≠i2->s.heap.get? d=some o->h'.get? d=some o)->Q (.ref s.heap.objs.size) {s with heap:=h',toks:=tk}):
  Sh (model prog w) A (Builtin.«zip.__next__» ⟨[.ref z],[]⟩) (λfin s'=>∃v,fin= .done (.ret v)/\Q v s') E s:=by
 obtain ⟨nd,m1,m2⟩:=Z
 simp only [yax,yi,yt,or_false,not_or,List.nodup_nil,and_true,not_false_eq_true] at nd m1 m2
 obtain ⟨⟨zTI,zTO,z1,z2⟩,⟨TITO,TI1,TI2⟩,⟨TO1,TO2⟩,n12⟩:=nd
 obtain ⟨l1z,l1TI,l1TO,l11,l12⟩:=m1
 obtain ⟨l2z,l2TI,l2TO,l21,l22⟩:=m2
 have fr:∀{S:Nat->Sg->Prop} {P:Nat->S6->Prop} {i l b:S5} {m:Nat} {h h':Sg},DrA prog w i l n P S->i≠b->l≠b->yap b h h'->S m h->S m h':=λD e1 e2 sb st=>
  (D A hh).frame _ _ _ st λd hd o e=>by
   simp only [yi,yt,or_false] at hd
   rcases hd with rfl|rfl
   ·exact sb.extBut _ _ e1 e
   ·exact sb.extBut _ _ e2 e
 show Sh _ _ (field (.ref z) 2 >>=_) _ _ _
 refine S8 (wpAny_field hz rfl (x:=.bool false) rfl ?_)
 refine S8 (m:=field (.ref z) 3) (wpAny_field hz rfl (x:=.ref TI) rfl ?_)
 refine S8 (wpAny_seqItems hTI rfl ?_)
 refine S8 (m:=Builtin.SmallTypes.ownedTupleIsFree (.ref z)) ?_
 unfold Builtin.SmallTypes.ownedTupleIsFree
 refine S8 (wpAny_field hz rfl (x:=.none) rfl (S9 ?_))
 simp only [if_true]
 refine S8 (wpAny_rule (S8 (wpAny_field hz rfl (x:=.ref TO) rfl (S8 (wpAny_setField_rec hz (by simp) λh1 hz1 s1=>?_)))))
 replace hz1:IsZip h1 z TI TO .ellipsis:=hz1
 refine S8 ?_
 simp only [List.zipIdx_cons,List.zipIdx_nil,List.forIn_cons,List.forIn_nil]
 refine S8 (S8 (wpAny_onRaise ?_))
 refine S8 (m:=Builtin.SmallTypes.nextOf (.ref i1)) ((D1 A hh).item k _ _ _ hk (fr D1 (ym z1) l1z s1 t1) λx h2 k2 px u1 s2=>S9 ?_)
 have o2:Jmz h2 TO a b:=s2.extBut _ _ TO1 (s1.extBut _ _ (ym zTO) hTO)
 refine S8 (wpAny_seqItems o2 rfl (S8 (Y5 o2 λh3 o3 s3=>S8 (wpAny_letGo (S9 ?_)))))
 replace o3:Jmz h3 TO x b:=o3
 refine S8 (S8 (wpAny_onRaise ?_))
 refine S8 (m:=Builtin.SmallTypes.nextOf (.ref i2)) ((D2 A hh).item k _ _ _ hk (fr D2 (ym TO2) l2TO s3 (fr D2 (ym n12) l21 s2 (fr D2 (ym z2) l2z s1 t2))) λy h4 k4 py u2 s4=>S9 ?_)
 have o4:Jmz h4 TO x b:=s4.extBut _ _ TO2 o3
 refine S8 (wpAny_seqItems o4 rfl (S8 (Y5 o4 λh5 o5 s5=>S8 (wpAny_letGo (S9 (S9 ?_))))))
 replace o5:Jmz h5 TO x y:=o5
 refine S8 (wpAny_seqItems o5 rfl (S8 (wpAny_newTuple ?_)))
 have sz:h5.objs.size=s.heap.objs.size:=by rw [s5.1,s4.1,s3.1,s2.1,s1.1]
 have zz:IsZip h5 z TI TO .ellipsis:=s5.extBut _ _ zTO (s4.extBut _ _ z2 (s3.extBut _ _ zTO (s2.extBut _ _ z1 hz1)))
 have kk:∀d o,d≠z->d≠TO->d≠i1->d≠i2->s.heap.get? d=some o->h5.get? d=some o:=λd o c1 c2 c3 c4 e=>
  s5.extBut _ _ c2 (s4.extBut _ _ c4 (s3.extBut _ _ c2 (s2.extBut _ _ c3 (s1.extBut _ _ c1 e))))
 have w1:S1 (k+1) h5:=fr D1 (ym TO1) l1TO s5 (fr D1 n12 l12 s4 (fr D1 (ym TO1) l1TO s3 u1))
 have w2:S2 (k+1) h5:=fr D2 (ym TO2) l2TO s5 u2
 have zlt:z < h5.objs.size:=yg zz
 refine S8 (m:=Builtin.SmallTypes.ownedTupleHandOut (.ref z) (.ref h5.objs.size)) ?_
 unfold Builtin.SmallTypes.ownedTupleHandOut
 have zp:IsZip (h5.push {cls:=.type "tuple",data:=.seq #[x,y]}) z TI TO .ellipsis:=yj _ zz
 refine S8 (wpAny_setField_rec zp (by simp) λh8 hz8 s8=>?_)
 replace hz8:IsZip h8 z TI TO (rawInt h5.objs.size):=hz8
 refine wpAny_setField_rec hz8 (by simp) λh9 hz9 s9=>?_
 replace hz9:IsZip h9 z TI TO (rawInt h5.objs.size):=hz9
 have up:∀d o,d≠z->h5.get? d=some o->h9.get? d=some o:=λd o c1 e=>s9.extBut _ _ c1 (s8.extBut _ _ c1 (yj _ e))
 have nw:Jmz h9 h5.objs.size x y:=s9.extBut _ _ (yau zlt) (s8.extBut _ _ (yau zlt) (yr _ rfl))
 have fz:∀{S:Nat->Sg->Prop} {P:Nat->S6->Prop} {i l:S5} {m:Nat},DrA prog w i l n P S->i≠z->l≠z->S m h5->S m h9:=λD e1 e2 st=>(D A hh).frame _ _ _ st λd hd o e=>by
  simp only [yi,yt,or_false] at hd
  rcases hd with rfl|rfl
  ·exact up _ _ e1 e
  ·exact up _ _ e2 e
 rw [sz] at hz9 nw
 refine S9 ⟨_,rfl,?_⟩
 show Q (.ref h5.objs.size) _
 rw [sz]
 exact hQ x y h9 _ px py hz9 (up _ _ (ym zTO) o5) (fz D1 (ym z1) l1z w1) (fz D2 (ym z2) l2z w2) nw λd o c1 c2 c3 c4 e=>up d o c1 (kk d o c1 c2 c3 c4 e)
theorem Sl2 {Q:Fin->S7->Prop} (Z:Z2 z TI TO i1 i2 l1 l2) (hz:IsZip s.heap z TI TO .none) (hTI:Jmz s.heap TI (.ref i1) (.ref i2))
  (hh:A.handled=none) (D1:DrA prog w i1 l1 n P1 S1) (t1:S1 n s.heap)
  (hE:∀h' e,(∀d o,d≠z->d≠i1->s.heap.get? d=some o->h'.get? d=some o)->(∃o,h'.get? e=some o/\o.cls= .type "StopIteration")->E (.ref e) {s with heap:=h'}):
  Sh (model prog w) A (Builtin.«zip.__next__» ⟨[.ref z],[]⟩) Q E s:=by
 obtain ⟨nd,m1,_⟩:=Z
 simp only [yax,yi,yt,or_false,not_or,List.nodup_nil,and_true,not_false_eq_true] at nd m1
 obtain ⟨⟨zTI,zTO,z1,z2⟩,_⟩:=nd
 obtain ⟨l1z,l1TI,l1TO,l11,l12⟩:=m1
 show Sh _ _ (field (.ref z) 2 >>=_) _ _ _
 refine S8 (wpAny_field hz rfl (x:=.bool false) rfl ?_)
 refine S8 (m:=field (.ref z) 3) (wpAny_field hz rfl (x:=.ref TI) rfl ?_)
 refine S8 (wpAny_seqItems hTI rfl ?_)
 refine S8 (m:=Builtin.SmallTypes.ownedTupleIsFree (.ref z)) ?_
 unfold Builtin.SmallTypes.ownedTupleIsFree
 refine S8 (wpAny_field hz rfl (x:=.none) rfl (S9 ?_))
 simp only [if_true]
 refine S8 (wpAny_rule (S8 (wpAny_field hz rfl (x:=.ref TO) rfl (S8 (wpAny_setField_rec hz (by simp) λh1 hz1 s1=>?_)))))
 replace hz1:IsZip h1 z TI TO .ellipsis:=hz1
 refine S8 ?_
 simp only [List.zipIdx_cons,List.zipIdx_nil,List.forIn_cons,List.forIn_nil]
 refine S8 (S8 (wpAny_onRaise ?_))
 refine S8 (m:=Builtin.SmallTypes.nextOf (.ref i1)) ((D1 A hh).done _ _ _ ((D1 A hh).frame _ _ _ t1 λd hd o e=>?_) λh2 e s2 he=>?_)
 ·simp only [yi,yt,or_false] at hd
  rcases hd with rfl|rfl
  ·exact s1.extBut _ _ (ym z1) e
  ·exact s1.extBut _ _ l1z e
 ·obtain ⟨oe,hoe,hce⟩:=he
  have hz2:IsZip h2 z TI TO .ellipsis:=s2 _ _ z1 hz1
  have ez:e≠z:=λq=>by subst q;rw [hz2] at hoe;cases hoe;simp at hce
  exact wpAny_setField_rec hz2 (by simp) λh3 _ s3=>hE h3 e (λd o c1 c2 q=>s3.extBut _ _ c1 (s2 _ _ c2 (s1.extBut _ _ c1 q))) ⟨oe,s3.extBut _ _ ez hoe,hce⟩
end
def Sqw (z TI TO i1 i2:S5) (S1 S2:Nat->Sg->Prop) (i:Nat) (h:Sg):Prop:=IsZip h z TI TO .none/\Jmz h TI (.ref i1) (.ref i2)/\(∃a b,Jmz h TO a b)/\S1 i h/\S2 i h
section
variable {prog:Sb} {w:Sd} {z TI TO i1 i2 l1 l2:S5} {n:Nat} {P1 P2:Nat->S6->Prop} {S1 S2:Nat->Sg->Prop}
theorem Y6 {A:Se} (hh:A.handled=none) (Z:Z2 z TI TO i1 i2 l1 l2) (D1:DrA prog w i1 l1 n P1 S1) (D2:DrA prog w i2 l2 n P2 S2):
  WalksT prog w A z [z,TI,TO,i1,i2,l1,l2] [z,TO,i1,i2] n (λi vals=>∃x y,P1 i x/\P2 i y/\vals= #[x,y]) (Sqw z TI TO i1 i2 S1 S2)
   (λi T h=>IsZip h z TI TO (rawInt T)/\Jmz h TI (.ref i1) (.ref i2)/\(∃a b,Jmz h TO a b)/\S1 (i+1) h/\S2 (i+1) h/\T∉ [z,TO,i1,i2]) where
 sub:=λc hc=>by simp at hc⊢;rcases hc with rfl|rfl|rfl|rfl <;> simp
 frame:=λi h h' hst hk=>by
  obtain ⟨hz,hTI,⟨a,b,hTO⟩,h1,h2⟩:=hst
  exact ⟨hk z (by simp) _ hz,hk TI (by simp) _ hTI,⟨a,b,hk TO (by simp) _ hTO⟩,(D1 A hh).frame _ _ _ h1 λd hd o e=>hk d (by simp at hd;rcases hd with rfl|rfl <;> simp) o e,
   (D2 A hh).frame _ _ _ h2 λd hd o e=>hk d (by simp at hd;rcases hd with rfl|rfl <;> simp) o e⟩
 item:=λi s Q E hi hst hQ=>by
  obtain ⟨hz,hTI,⟨a,b,hTO⟩,h1,h2⟩:=hst
  have hT:s.TypeIs (.ref z) "zip" :=⟨_,hz,rfl⟩
  have nd:=Z.nd
  simp only [yax,yi,yt,or_false,not_or,List.nodup_nil,and_true,not_false_eq_true] at nd
  obtain ⟨⟨zTI,_⟩,⟨TITO,TI1,TI2⟩,_⟩:=nd
  obtain ⟨e1,g1⟩:=(D1 A hh).live _ _ h1
  obtain ⟨e2,g2⟩:=(D2 A hh).live _ _ h2
  unfold pyNext
  refine S8 (wpAny_attempt (wpAny_callSpecial?_slot (name:=Str.ofString "__next__") hT F.slot_zip_next (wpAny_call_entry F.slot_zip_next hT F.entry_zip_next
   (Yb4 (A:=A.in1) Z hz hTI hTO hh D1 D2 hi h1 h2 λx y h' tk px py a1 a2 a3 a4 a6 hk=>S9 ?_) (F.args_zip_next_1 _))))
  refine hQ s.heap.objs.size #[x,y] h' tk ⟨x,y,px,py,rfl⟩ (yh _) ⟨_,a6,rfl,_,rfl⟩ ⟨a1,hk _ _ (ym zTI) TITO TI1 TI2 hTI,⟨_,_,a2⟩,a3,a4,?_⟩ λd o hd e=>hk d o (λq=>hd (by simp [q])) (λq=>hd (by simp [q])) (λq=>hd (by simp [q])) (λq=>hd (by simp [q])) e
  have lt:∀{d o},s.heap.get? d=some o->s.heap.objs.size≠d:=λe=>yau (yg e)
  simp only [yi,yt,or_false,not_or]
  exact ⟨lt hz,lt hTO,lt g1,lt g2⟩
 go:=λelts k pos i T s Q E hm hQ=>by
  obtain ⟨hz,hTI,⟨a,b,hTO⟩,h1,h2,_⟩:=hm
  have nd:=Z.nd
  have m1:=Z.m1
  have m2:=Z.m2
  simp only [yax,yi,yt,or_false,not_or,List.nodup_nil,and_true,not_false_eq_true] at nd m1 m2
  obtain ⟨⟨zTI,zTO,z1,z2⟩,_⟩:=nd
  have fz:∀{S:Nat->Sg->Prop} {P:Nat->S6->Prop} {j l:S5} {m:Nat} {h':Sg},DrA prog w j l n P S->j≠z->l≠z->yap z s.heap h'->S m s.heap->S m h':=λD e1 e2 sb st=>(D A hh).frame _ _ _ st λd hd o e=>by
   simp only [yi,yt,or_false] at hd
   rcases hd with rfl|rfl
   ·exact sb.extBut _ _ e1 e
   ·exact sb.extBut _ _ e2 e
  exact wpAny_letOwnedTupleGo_zip hz λh' hz' sb=>hQ h' ⟨hz',sb.extBut _ _ (ym zTI) hTI,⟨a,b,sb.extBut _ _ (ym zTO) hTO⟩,fz D1 (ym z1) m1.1 sb h1,fz D2 (ym z2) m2.1 sb h2⟩ λd o hd e=>sb.extBut _ _ (λq=>hd (by simp [q])) e
 apart:=λi T h hm hT=>hm.2.2.2.2.2 hT
 done:=λs Q E hst hQ=>by
  obtain ⟨hz,hTI,_,h1,h2⟩:=hst
  have hT:s.TypeIs (.ref z) "zip" :=⟨_,hz,rfl⟩
  unfold pyNext
  refine S8 (wpAny_attempt (wpAny_callSpecial?_slot (name:=Str.ofString "__next__") hT F.slot_zip_next (wpAny_call_entry F.slot_zip_next hT F.entry_zip_next
   (Sl2 (A:=A.in1) Z hz hTI hh D1 h1 λh' e hk he=>?_) (F.args_zip_next_1 _))))
  obtain ⟨o,ho,hc⟩:=he
  refine S8 (wpAny_isInstance (T:="StopIteration") (b:=true) ⟨o,ho,hc⟩ isSubtype_stop (S9 ?_))
  exact hQ h' s.toks λd o' hd e'=>hk d o' (λq=>hd (by simp [q])) (λq=>hd (by simp [q])) e'
 self:=λi s Q E hst hQ=>wpAny_pyIter_zip hst.1 hQ
end
abbrev xD (h:Sg) (l1 l2:S5) (b1 b2:Bool):Sg:=(zB h l1 l2 b1 b2).push {cls:=.type "tuple",data:=.seq #[.ref h.objs.size,.ref (zA h l1 b1).objs.size]}
abbrev xE (h:Sg) (l1 l2:S5) (b1 b2:Bool):Sg:=(xD h l1 l2 b1 b2).push {cls:=.type "tuple",data:=.seq #[.none,.none]}
abbrev xF (h:Sg) (l1 l2:S5) (b1 b2:Bool):Sg:=(xE h l1 l2 b1 b2).push {cls:=.type "zip",data:=.fields #[.none,.bool false,.bool false,.ref (zB h l1 l2 b1 b2).objs.size,.ref (xD h l1 l2 b1 b2).objs.size]}
set_option maxRecDepth 100000 in
set_option maxHeartbeats 2000000 in
theorem Yg (l1 l2:S5) (b1 b2:Bool) (xs ys:Array S6):
  Meets (Builtin.«zip.__new__» ⟨[.type "zip",.ref l1,.ref l2],[]⟩) (λ_ R s=>IsB s.heap l1 b1 xs/\IsB s.heap l2 b2 ys/\
   R (.ok (.ret (.ref (xE s.heap l1 l2 b1 b2).objs.size))) {s with heap:=xF s.heap l1 l2 b1 b2}):=
 .of_wp λprog w A R s h=>by
  obtain ⟨hp,g,d,tk,os⟩:=s
  obtain ⟨hl1,hl2,h⟩:=h
  have e0:=sub_zip
  have e1:IsB (Shared.heap ⟨hp,g,d,tk,os⟩) l1 b1 xs:=hl1
  have e2:IsB (Shared.heap ⟨hp.push (itO l1 b1),g,d,tk,os⟩) l2 b2 ys:=IsB.push hl2 _
  wp_walk using Sip e1,Sip e2
  exact ⟨_,rfl,h⟩
theorem Js3 (a b:S6):checkTypeCall "zip" ⟨[a,b],[]⟩=pure ():=by kernel_rfl
theorem Jsk (a b:S6):checkBuiltinCall "zip.__new__" ⟨[.type "zip",a,b],[]⟩=pure ():=by kernel_rfl
theorem Ju7 (a b c:S6):argsOk "object.__init__" ⟨[a,b,c],[]⟩:=by
 unfold argsOk;rw [signature?_of (id:="object.__init__") (n:=['_','_','t','i','n','i','_','_']) (o:=['t','c','e','j','b','o']) (by kernel_rfl) F.owner_object];kernel_rfl
section
variable {prog:Sb} {w:Sd} {A:Se} {E:S6->S7->Prop} {s:S7}
theorem Jxs {l1 l2:S5} {b1 b2:Bool} {xs ys:Array S6} {Q:S6->S7->Prop} (h1:IsB s.heap l1 b1 xs) (h2:IsB s.heap l2 b2 ys)
  (h:∀h',IsZip h' (s.heap.objs.size+4) (s.heap.objs.size+2) (s.heap.objs.size+3) .none->Jmz h' (s.heap.objs.size+2) (.ref s.heap.objs.size) (.ref (s.heap.objs.size+1))->
   Jmz h' (s.heap.objs.size+3) .none .none->IS s.heap.objs.size l1 b1 0 h'->IS (s.heap.objs.size+1) l2 b2 0 h'->
   (∀c o,s.heap.get? c=some o->h'.get? c=some o)->Q (.ref (s.heap.objs.size+4)) {s with heap:=h'}):
  Sh (model prog w) A (call (.type "zip") [.ref l1,.ref l2]) Q E s:=by
 refine callType_new F.called_zip (by decide) (Js3 _ _) (Jsk _ _) (λobj=>Ju7 obj _ _) F.entry_zip_new (Yg l1 l2 b1 b2 xs ys) ⟨h1,h2,?_⟩
 have z1:(zA s.heap l1 b1).objs.size=s.heap.objs.size+1:=yak ..
 have z2:(zB s.heap l1 l2 b1 b2).objs.size=s.heap.objs.size+2:=by rw [yak,z1]
 have z3:(xD s.heap l1 l2 b1 b2).objs.size=s.heap.objs.size+3:=by rw [yak,z2]
 have z4:(xE s.heap l1 l2 b1 b2).objs.size=s.heap.objs.size+4:=by rw [yak,z3]
 have p:∀{h:Sg} {c:S5} {o q:Obj},h.get? c=some o->(h.push q).get? c=some o:=λe=>yj _ e
 have g5:(xF s.heap l1 l2 b1 b2).get? (xE s.heap l1 l2 b1 b2).objs.size=some _:=yr _ rfl
 have g4:(xF s.heap l1 l2 b1 b2).get? (xD s.heap l1 l2 b1 b2).objs.size=some _:=p (yr _ rfl)
 have g3:(xF s.heap l1 l2 b1 b2).get? (zB s.heap l1 l2 b1 b2).objs.size=some _:=p (p (yr _ rfl))
 have fr:∀(l:S5) (b:Bool),(itO l b).isFreed=false:=λl b=>by cases b <;> rfl
 have g2:(xF s.heap l1 l2 b1 b2).get? (zA s.heap l1 b1).objs.size=some (itO l2 b2):=p (p (p (yr _ (fr _ _))))
 have g1:(xF s.heap l1 l2 b1 b2).get? s.heap.objs.size=some (itO l1 b1):=p (p (p (p (yr _ (fr _ _)))))
 have is:∀{it l:S5} {b:Bool} {h:Sg},h.get? it=some (itO l b)->IS it l b 0 h:=λ{it l b h} e=>by
  cases b
  ·exact ⟨_,e,rfl,rfl⟩
  ·exact ⟨_,e,rfl,rfl⟩
 show _/\_
 rw [z2,z3,z4] at g5
 rw [z1,z2] at g3
 rw [z3] at g4
 rw [z1] at g2
 rw [z4]
 exact ⟨⟨_,g5,rfl⟩,h _ g5 g3 g4 (is g1) (is g2) λc o x=>p (p (p (p (p x))))⟩
end
def Sgs (K:Si) (l1 l2:S5) (b1 b2:Bool):It:=
 ⟨λi H=>∃xs ys,SqB K H l1 b1 xs/\SqB K H l2 b2 ys/\xs.length=ys.length/\i < xs.length,
  λi H x H'=>∃T p q,H T=none/\x= .ref T/\(∀xs,SqB K H l1 b1 xs->xs[i]?=some p)/\(∀ys,SqB K H l2 b2 ys->ys[i]?=some q)/\H'=upd H T (.tup [p,q]),
  λi H=>∃xs ys,SqB K H l1 b1 xs/\SqB K H l2 b2 ys/\xs.length=ys.length/\i=xs.length⟩
def Z2T (z TI TO i1 i2 l1 l2:S5) (b1 b2:Bool) (i:Nat) (h:Sg):Prop:=IsZip h z TI TO .none/\Jmz h TI (.ref i1) (.ref i2)/\(∃a b,Jmz h TO a b)/\IS i1 l1 b1 i h/\IS i2 l2 b2 i h
theorem Z2T.obj {z TI TO i1 i2 l1 l2:S5} {b1 b2:Bool} {i:Nat} {h:Sg} (st:Z2T z TI TO i1 i2 l1 l2 b1 b2 i h):∀b∈ [z,TI,TO,i1,i2],∃o,h.get? b=some o/\∀v,o.data≠ .cell v:=λb hb=>by
 obtain ⟨h1,h2,⟨x,y,h3⟩,h4,h5⟩:=st
 simp only [yi,yt,or_false] at hb
 rcases hb with rfl|rfl|rfl|rfl|rfl
 ·exact ⟨_,h1,λv z=>by cases z⟩
 ·exact ⟨_,h2,λv z=>by cases z⟩
 ·exact ⟨_,h3,λv z=>by cases z⟩
 ·exact h4.obj
 ·exact h5.obj
theorem Z2.ne {z TI TO i1 i2 l1 l2:S5} (Z:Z2 z TI TO i1 i2 l1 l2):l1≠i1/\l2≠i2:=by
 obtain ⟨_,m1,m2⟩:=Z
 simp only [yi,yt,or_false,not_or] at m1 m2
 exact ⟨m1.2.2.2.1,m2.2.2.2.2⟩
theorem Jyg {P:Sb} {w:Sd} {K:Si} {elts:List Expr} {kt:Nat} {pt:Pos} (z TI TO i1 i2 l1 l2:S5) (b1 b2:Bool) (Z:Z2 z TI TO i1 i2 l1 l2):
  Jt3 P w K (.Tuple elts kt pt) (Sgs K l1 l2 b1 b2) [z,TI,TO,i1,i2] z (Z2T z TI TO i1 i2 l1 l2 b1 b2) where
 mem:=by simp
 obj:=λi h st=>st.obj
 keep:=λi h h' st k=>by
  obtain ⟨h1,h2,⟨a,c,h3⟩,h4,h5⟩:=st
  exact ⟨k z (by simp) _ h1,k TI (by simp) _ h2,⟨a,c,k TO (by simp) _ h3⟩,h4.at λo e=>k i1 (by simp) o e,h5.at λo e=>k i2 (by simp) o e⟩
 item:=by
  intro X hP hw hK hc i pins s σ H E I hf st hg
  subst hP hw hK
  obtain ⟨xs,ys,q1,q2,e12,hi⟩:=hg
  obtain ⟨its,rv,p1⟩:=I.seqB q1
  obtain ⟨jts,rv2,p2⟩:=I.seqB q2
  have a1:=rv.length
  have a2:=rv2.length
  obtain ⟨n1,n2⟩:=Z.ne
  have D1:=drA (prog:=X.prog) (w:=X.w) b1 n1 its.toArray
  have D2:=drA (prog:=X.prog) (w:=X.w) b2 n2 jts.toArray
  rw [show jts.toArray.size=its.toArray.size by simp only [yu];omega] at D2
  have W:=Y6 (I.ok.hd hc) Z D1 D2
  have st0:=st
  obtain ⟨s1,s2,s3,s4,s5⟩:=st
  refine W.item i s _ _ (by simp only [yu];omega) ⟨s1,s2,s3,⟨s4,p1⟩,⟨s5,p2⟩⟩ λT vals h' tk hP fT tT mid kk=>?_
  refine ⟨_,rfl,W.go elts kt pt i T _ _ _ mid λh'' st'' kk2=>?_⟩
  obtain ⟨x,y,hx,hy,rfl⟩:=hP
  obtain ⟨u1,hu1,r1⟩:=rv.get (i:=i) (x:=xs[i]) (yq hi)
  obtain ⟨u2,hu2,r2⟩:=rv2.get (i:=i) (x:=ys[i]'(by omega)) (yq (by omega))
  obtain rfl:x=u1:=by simpa [hu1] using hx.symm
  obtain rfl:y=u2:=by simpa [hu2] using hy.symm
  obtain ⟨t1,t2,t3,t4,t5⟩:=st''
  have kT:h''.IsTuple T #[x,y]:=by
   obtain ⟨o,q,r⟩:=tT
   exact ⟨o,kk2 T o (W.apart i T h' mid) q,r⟩
  have cht:∀c,c∈ [z,TO,i1,i2]->c∈ [z,TI,TO,i1,i2]:=λc hc=>by simp at hc⊢;rcases hc with rfl|rfl|rfl|rfl <;> simp
  refine ⟨.ref T,upd H T (.tup [xs[i],ys[i]'(by omega)]),I.turnTup (ch:=[z,TO,i1,i2]) (t':=tk) (λc hc=>hf c (cht c hc)) (λc o hc e=>kk2 c o hc (kk c o hc e)) fT ⟨(show 2<=Sa by decide),[x,y],.cons r1 (.cons r2 .nil),kT⟩,rfl,
   ⟨T,_,_,I.hok.fresh fT,rfl,λxs' hq=>by rw [I.seqB_inj hq q1];exact yq hi,λys' hq=>by rw [I.seqB_inj hq q2];exact yq (by omega),rfl⟩,⟨t1,t2,t3,t4.1,t5.1⟩,λc hc=>?_⟩
  have hcn:=(hf c hc).1
  rw [Jkt (λw'=>?_)]
  ·exact hcn
  ·subst w'
   obtain ⟨o,e,_⟩:=Z2T.obj st0 c hc
   exact absurd (yg e) (Nat.not_lt.mpr fT)
 done:=by
  intro X hP hw hK hc i pins s σ H E I hf st hg
  subst hP hw hK
  obtain ⟨xs,ys,q1,q2,e12,hi⟩:=hg
  obtain ⟨its,rv,p1⟩:=I.seqB q1
  obtain ⟨jts,rv2,p2⟩:=I.seqB q2
  have a1:=rv.length
  have a2:=rv2.length
  obtain ⟨n1,n2⟩:=Z.ne
  have D1:=drA (prog:=X.prog) (w:=X.w) b1 n1 its.toArray
  have D2:=drA (prog:=X.prog) (w:=X.w) b2 n2 jts.toArray
  rw [show jts.toArray.size=its.toArray.size by simp only [yu];omega] at D2
  have W:=Y6 (I.ok.hd hc) Z D1 D2
  obtain ⟨s1,s2,s3,s4,s5⟩:=st
  have ei:i=its.toArray.size:=by simp only [yu];omega
  subst ei
  refine W.done s _ _ ⟨s1,s2,s3,⟨s4,p1⟩,⟨s5,p2⟩⟩ λh' tk kk=>⟨rfl,?_⟩
  exact I.turnMany (ch:=[z,TO,i1,i2]) (λc hc=>hf c (by simp at hc⊢;rcases hc with rfl|rfl|rfl|rfl <;> simp)) λc o hc e=>kk c o hc e
 self:=λ_ _ _ _ _ st h=>wpAny_pyIter_zip st.1 h
def Smp (K:Si) (b1 b2:Bool) (ta:TA):TI:=λσ H R=>ta σ H λvs H1=>∃a b,vs= [.ref a,.ref b]/\(∃xs,SqB K H1 a b1 xs)/\(∃ys,SqB K H1 b b2 ys)/\R (Sgs K a b b1 b2) H1
theorem Jxi {X:Cx} {elts:List Expr} {kt:Nat} {pt:Pos} {a b:Expr} {ta:TA} {p pos:Pos} (b1 b2:Bool) (hg:Gl X "zip") (hm:X.mg "zip" =none) (ha:PA X [a,b] ta) (hs:starEach [a,b] X.env= [(false,eval a X.env),(false,eval b X.env)]:=by rfl) (hs2:starEach [b] X.env= [(false,eval b X.env)]:=by rfl):
  PI X (.Tuple elts kt pt) (.Call (.Name "zip" p) [a,b] [] pos) (Smp X.K b1 b2 ta):=by
 intro pins s σ H R I h
 refine Call_ (Jp3 I hg hm Sjo (PyProof.Rows.callWith_type1 (thn (ha pos pins s σ H _ I h) λus s1 zq=>?_) (by rw [hs,hs2]) (by rw [hs2];rfl)))
 obtain ⟨vs,H1,I1,r1,q1⟩:=zq
 obtain ⟨l1,l2,rfl,⟨xs,q1⟩,⟨ys,q2⟩,q⟩:=q1
 obtain ⟨u,v,rfl,r1,r2⟩:=Jwe r1
 obtain rfl:u=Value.ref l1:=r1
 obtain rfl:v=Value.ref l2:=r2
 obtain ⟨its,rv,p1⟩:=I1.seqB q1
 obtain ⟨jts,rv2,p2⟩:=I1.seqB q2
 have a1:=p1.lt
 have a2:=p2.lt
 refine Jxs p1 p2 λh' z1 z2 z3 z4 z5 kk=>?_
 have I2:Sv X pins σ H1 {s1 with heap:=h'}:=I1.kept (t':=s1.toks) kk
 have ap:Z2 (s1.heap.objs.size+4) (s1.heap.objs.size+2) (s1.heap.objs.size+3) s1.heap.objs.size (s1.heap.objs.size+1) l1 l2:=by
  generalize hN:s1.heap.objs.size=N at*
  have big:∀l:S5,l < N->l∉ [N+4,N+2,N+3,N,N+1]:=λl hl hm=>by
   simp only [yi,yt,or_false] at hm
   have le:N<=l:=by rcases hm with rfl|rfl|rfl|rfl|rfl <;> first|exact yh _|exact Nat.le_add_right _ _
   exact Nat.not_lt.mpr le hl
  exact ⟨by simp,big _ a1,big _ a2⟩
 refine wpAny_pyIter_zip z1 ⟨_,_,_,_,H1,rfl,I2,Jyg _ _ _ _ _ l1 l2 b1 b2 ap,⟨z1,z2,⟨_,_,z3⟩,z4,z5⟩,λd hd=>?_,q⟩
 have hd':s1.heap.objs.size<=d:=by
  simp only [yi,yt,or_false] at hd
  rcases hd with rfl|rfl|rfl|rfl|rfl <;> omega
 exact I1.fpOk hd' (I1.hok.fresh hd')
section
variable {K:Si} {g:TG} {σ:St} {H:Hp}
end
section
variable {X:Cx}
end
end L2
namespace L2
open PySem PySem.Spec PyProof.Rows
section
variable {H:Hp} {lb:Array (Nat×Nat×Str)}
theorem Scm.triples {l:List S6} (x:Scm H lb l):TriplesOk l:=by
 fun_induction Scm H lb l with
 |case1=>exact True.intro
 |case2 l _ c _ v r ih=>exact ih x.2
 |case3=>exact x.elim
theorem Scm.hit {pos:Pos} {v:S6} {l:List S6} (x:Scm H lb l) (h:codeAmong pos l=some v):∃(q:Str) (a:S5),(pos.line,pos.col,q)∈lb/\v= .ref a/\H a=some (.cod q):=by
 fun_induction Scm H lb l with
 |case1=>cases h
 |case2 l _ c _ v' r ih=>
  obtain ⟨⟨n,m,q,a,h1,h2,h3,h4,h5⟩,h6⟩:=x
  unfold codeAmong at h
  split at h
  ·rename_i hc
   cases h
   simp only [yp,beq_iff_eq] at hc
   have e1:n=pos.line:=by omega
   have e2:m=pos.col:=by omega
   rw [e1,e2] at h1
   exact ⟨q,a,h1,h4,h5⟩
  ·exact ih h6 h
 |case3=>exact x.elim
theorem Scm.snoc {pos:Pos} {q:Str} {a:S5} (hm:(pos.line,pos.col,q)∈lb) (ha:H a=some (.cod q)) {l:List S6} (x:Scm H lb l):Scm H lb (l++ [rawInt pos.line,rawInt pos.col,.ref a]):=by
 fun_induction Scm H lb l with
 |case1=>exact ⟨⟨_,_,q,a,hm,rfl,rfl,rfl,ha⟩,True.intro⟩
 |case2 l _ c _ v r ih=>exact ⟨x.1,ih x.2⟩
 |case3=>exact x.elim
end
def Sjq (vs:Array S6) (c P:S5):Bool:=
 (match (vs[11]?:Option S6) with|some (.ref p)=>p==P|_=>false)&&(match vs.getD 11 .none with| .ref p=>p==P|_=>false)&&(match vs.getD 18 .none with| .str _ _=>true|_=>false)&&(match vs.getD 7 .none with| .int _ _=>true|_=>false)&&
 (match vs.getD 9 .none with| .bool _=>true|_=>false)&&(match vs.getD 10 .none with| .int _ _=>true|_=>false)&&!(c==P)
structure Nst (K:Si) (f c P:S5):Prop where
 fn:∃(oc:S6) (od:Option S5) (fd:Sc) (sl:Array (Option S6)),K.lookup f=some ⟨oc,od,.func fd,sl⟩/\fd.code= .ref c
 hd:∃(od:Option S5) (vs:Array S6) (sl:Array (Option S6)),K.lookup c=some ⟨.type "code",od,.fields vs,sl⟩/\Sjq vs c P=true
theorem Nst.code {K:Si} {f c P:S5} {h:Sg} (n:Nst K f c P) (X:K.In h):PySem.W.CodeHd h c P:=by
 obtain ⟨od,vs,sl,lk,b⟩:=n.hd
 unfold Sjq at b
 simp only [yp] at b
 obtain ⟨⟨⟨⟨⟨⟨b1,b2⟩,b3⟩,b4⟩,b5⟩,b6⟩,b7⟩:=b
 have e1:vs[11]?=some (.ref P):=by
  split at b1
  ·rename_i p e;rw [e,beq_iff_eq.mp b1]
  ·cases b1
 have e2:vs.getD 11 .none= .ref P:=by
  split at b2
  ·rename_i p e;rw [e,beq_iff_eq.mp b2]
  ·cases b2
 have e3:∃x t,vs.getD 18 .none= .str x t:=by
  split at b3
  ·rename_i x t e;exact ⟨x,t,e⟩
  ·cases b3
 have e4:∃x t,vs.getD 7 .none= .int x t:=by
  split at b4
  ·rename_i x t e;exact ⟨x,t,e⟩
  ·cases b4
 have e5:∃x,vs.getD 9 .none= .bool x:=by
  split at b5
  ·rename_i x e;exact ⟨x,e⟩
  ·cases b5
 have e6:∃x t,vs.getD 10 .none= .int x t:=by
  split at b6
  ·rename_i x t e;exact ⟨x,t,e⟩
  ·cases b6
 obtain ⟨f1,t1,e3⟩:=e3
 obtain ⟨f2,t2,e4⟩:=e4
 obtain ⟨f3,e5⟩:=e5
 obtain ⟨f4,t4,e6⟩:=e6
 exact ⟨_,vs,f1,t1,f2,t2,f3,f4,t4,X _ _ lk,rfl,rfl,e1,e2,e3,e4,e5,e6,by simpa using b7⟩
def Bmn (mg:Str->Option S6) (base:Sg):Prop:=∃bm ob,mg "__builtins__" =some (.ref bm)/\bm≠builtinsNs/\base.get? bm=some ob/\ob.cls= .type "module" /\ob.dict=some builtinsNs/\ob.data= .plain
section
variable {X:Cx} {pins:List (S5×Obj)} {σ:St} {H:Hp} {s:S7} {M:Model} {A:Se} {E:S6->S7->Prop} {name qual:Str} {st:Sf} {pos:Pos} {firstLine:Nat} {c P:S5} {lb:Array (Nat×Nat×Str)} {clos:List (Str×S5)} {Q:S6->S7->Prop}
end
def Scj (H:Hp) (c:S5) (v:V):Prop:=∃o u,H c=some (Sh6 o)/\o.data= .cell (some u)/\Sa7 v u
theorem Scj.same {H H':Hp} {c:S5} {v:V} (s:Sn H H') (h:Scj H c v):Scj H' c v:=by obtain ⟨o,u,a,b,d⟩:=h;exact ⟨o,u,s _ _ a,b,d⟩
def Cx.fix (X:Cx) (cn:Str->Bool):Cx:={X with fn:=λx=>X.fn x&&!cn x}
open Classical in
noncomputable def Js2 (X:Cx) (cn:Str->Bool) (h:Sg) (H:Hp):Hp:=λb=>if ∃x,cn x=true/\X.fn x=true/\X.env.cells.lookup x=some b then (h.get? b).map Sh6 else H b
section
variable {X:Cx} {pins:List (S5×Obj)} {σ:St} {H:Hp} {s:S7} {cn:Str->Bool}
theorem Jvb {h:Sg} {b:S5} {o:Obj} {x:Str} (h1:cn x=true) (h2:X.fn x=true) (h3:X.env.cells.lookup x=some b) (e:h.get? b=some o):Js2 X cn h H b=some (Sh6 o):=by
 unfold Js2
 rw [if_pos ⟨x,h1,h2,h3⟩,e]
 rfl
theorem Jre {h:Sg} {b:S5} (n:¬∃x,cn x=true/\X.fn x=true/\X.env.cells.lookup x=some b):Js2 X cn h H b=H b:=by
 unfold Js2
 rw [if_neg n]
theorem Y3 (I:Sv X pins σ H s) {b:S5} {o:HO} (e:H b=some o):Js2 X cn s.heap H b=some o:=by
 rw [Jre]
 ·exact e
 ·rintro ⟨x,_,h2,h3⟩
  rcases I.freeC x b h3 with n|⟨f,_⟩
  ·rw [n] at e;cases e
  ·rw [h2] at f;cases f
theorem Sv.fix (I:Sv X pins σ H s) (cn:Str->Bool):Sv (X.fix cn) pins σ (Js2 X cn s.heap H) s/\Sn H (Js2 X cn s.heap H):=by
 have hS:Sn H (Js2 X cn s.heap H):=λb o e=>Y3 I e
 have hn:∀b,H b=none->(∀x,cn x=true->X.fn x=true->X.env.cells.lookup x≠some b)->Js2 X cn s.heap H b=none:=λb e n=>by
  rw [Jre]
  ·exact e
  ·rintro ⟨x,h1,h2,h3⟩;exact n x h1 h2 h3
 refine ⟨⟨⟨I.ok.mod,I.ok.kind,I.ok.glob,I.ok.blt,I.ok.above,I.ok.inj,I.ok.has,λx c hx hc=>I.ok.cab x c ?_ hc,I.ok.hd,I.ok.frames,I.ok.stk,I.ok.exf,I.ok.bs,I.ok.bsz,I.ok.noex,I.ok.exfs,I.ok.funs,I.ok.frf⟩,I.os,I.bare,
  ⟨I.base.keep,I.base.slot,λb o e n hx=>?_,I.base.there,λb xs e=>hS _ _ (I.base.tups b xs e),λb o u e=>hS _ _ (I.base.frzs b o u e),λb ps e=>?_⟩,I.loc,I.cell,?_,λx c e=>?_,λp hp=>?_,λb u e=>?_,I.len⟩,hS⟩
 ·have hx':(X.fn x&&!cn x)=true:=hx
  rw [yp] at hx'
  exact hx'.1
 ·exact hn b (I.base.free b o e n hx) λx _ h2 h3=>absurd (yad (yg e) (I.ok.cab x b h2 h3)) (yat _)
 ·obtain ⟨m,q⟩:=I.base.tbls b ps e
  exact ⟨m,hS _ _ q⟩
 ·exact hn _ I.free λx _ _ h3=>I.cne x _ h3 rfl
 ·have e':X.env.cells.lookup x=some c:=e
  by_cases hc:cn x=true/\X.fn x=true
  ·obtain ⟨v,o,ho,hd⟩:=I.cell x c e'
   refine .inr ⟨?_,o,Jvb hc.1 hc.2 e' ho⟩
   show (X.fn x&&!cn x)=false
   rw [hc.1];simp
  ·have out:Js2 X cn s.heap H c=H c:=Jre λ⟨y,h1,h2,h3⟩=>hc (by rw [I.ok.inj x y c e' h3];exact ⟨h1,h2⟩)
   rcases I.freeC x c e' with n|⟨f,o,q⟩
   ·exact .inl (out.trans n)
   ·refine .inr ⟨?_,o,out.trans q⟩
    show (X.fn x&&!cn x)=false
    rw [f];rfl
 ·obtain ⟨e,n,ne,nf,d⟩:=I.pin p hp
  refine ⟨e,hn _ n λx _ _ h3=>?_,ne,nf,d⟩
  obtain ⟨v,o,ho,hd⟩:=I.cell x _ h3
  rw [e] at ho;cases ho
  exact d v hd
 ·by_cases hb:∃x,cn x=true/\X.fn x=true/\X.env.cells.lookup x=some b
  ·obtain ⟨x,h1,h2,h3⟩:=hb
   obtain ⟨v,o,ho,hd⟩:=I.cell x b h3
   rw [Jvb h1 h2 h3 ho] at e
   cases e
   exact ⟨ho,True.intro,⟨o,ho⟩,λ_ _ _ _=>True.intro⟩
  ·rw [Jre hb] at e
   exact (I.hok b u e).stay (λ_ _ _ q=>q) (λ_ q=>hS _ _ q) (λ_ _ q=>hS _ _ q) λ_ _ q=>hS _ _ q
theorem Sv.celAt (I:Sv X pins σ H s) (J:Sv (X.fix cn) pins σ (Js2 X cn s.heap H) s) {j:Nat} {x:Str} {v:V} (h1:X.N[j]?=some x) (h2:σ[j]?=some (some v)) (hv:X.env.kindOf x=some .cell\/X.env.kindOf x=some .free) (hc:cn x=true) (hf:X.fn x=true):
  ∃b,X.env.cells.lookup x=some b/\Scj (Js2 X cn s.heap H) b v:=by
 obtain ⟨m,_,hl⟩:=I.loc
 have hvis:Vis X.env.scope x:=hv.elim (λz=>.inr (.inl z)) λz=>.inr (.inr z)
 obtain ⟨u,r,l⟩:=hl j x v h1 h2 hvis
 rcases l with ⟨k,_⟩|⟨k,b,e,o,ho,hd⟩
 ·rcases hv with z|z
  ·rw [k] at z;cases z
  ·rw [k] at z;cases z
 ·exact ⟨b,e,o,u,Jvb hc hf e ho,hd,r⟩
end
def Fin (X:Cx) (H:Hp) (s:S7):Prop:=s.os=X.s₀.os/\AllBare s.gens/\Un X.fs X.ex X.H₀ H X.s₀.heap s.heap/\HOk X.prog X.w H s.heap
theorem Sv.fin {X:Cx} {pins:List (S5×Obj)} {σ:St} {H:Hp} {s:S7} (I:Sv X pins σ H s):Fin X H s:=⟨I.os,I.bare,I.base,I.hok⟩
def SB (X:Cx) (D:Jon) (f:Flow) (s':S7):Prop:=
 match f with
 | .next=>∃σ' H',Fin X H' s'/\D.nx σ' H'
 | .brk=>∃σ' H',Fin X H' s'/\D.bk σ' H'
 | .cont=>∃σ' H',Fin X H' s'/\D.ct σ' H'
 | .ret u=>∃v H',Fin X H' s'/\Sa7 v u/\D.rt v H'
theorem SP.sb {X:Cx} {pins:List (S5×Obj)} {D:Jon} {f:Flow} {s':S7} (h:SP X pins D f s'):SB X D f s':=by
 cases f with
 |next=>obtain ⟨σ',H',I,q⟩:=h;exact ⟨σ',H',I.fin,q⟩
 |brk=>obtain ⟨σ',H',I,q⟩:=h;exact ⟨σ',H',I.fin,q⟩
 |cont=>obtain ⟨σ',H',I,q⟩:=h;exact ⟨σ',H',I.fin,q⟩
 |ret u=>obtain ⟨v,σ',H',I,r,q⟩:=h;exact ⟨v,H',I.fin,r,q⟩
def PB (X:Cx) (st:List Sf) (t:TS):Prop:=
 ∀(pins:List (S5×Obj)) (s:S7) (σ:St) (H:Hp) (D:Jon),Sv X pins σ H s->t D σ H->Sh (model X.prog X.w) X.A (execs st X.env) (SB X D) X.xe s
section
variable {X:Cx} {st:Sf} {rest:List Sf} {t u:TS}
theorem PSs.pb {l:List Sf} (h:PSs X l t):PB X l t:=λpins s σ H D I q=>thn (h pins s σ H D I q) λ_ _ z=>z.sb
theorem PB.nox {l:List Sf} (h:PB X.nox l t):PB X l t:=λpins s σ H D I q=>wpAny_mono (h pins s σ H D (I.wish _) q) (λf _ z=>by cases f <;> exact z) λ_ _ z=>False.elim z
end
theorem Jo7 {cells:List (Str×S5)} {x:Str} {b:S5}:∀(ns:List (Str×NameKind)) (acc:List (Str×S5)),(Jmy cells ns acc).lookup x=some b->acc.lookup x=none->(x,NameKind.free)∈ns
 | [],_,e,n=>by unfold Jmy at e;rw [n] at e;cases e
 | (y,k) :: r,acc,e,n=>by
  unfold Jmy at e
  by_cases hk:(k==NameKind.free)=true
  ·rw [if_pos hk] at e
   have hk':k= .free:=by simpa using hk
   subst hk'
   by_cases hx:x=y
   ·subst hx;exact yao
   ·cases hc:cells.lookup y with
    |none=>rw [hc] at e;exact yae _ (Jo7 r acc e n)
    |some d=>
     rw [hc] at e
     refine yae _ (Jo7 r _ e ?_)
     rw [yan,beq_eq_false_iff_ne.mpr hx]
     exact n
  ·rw [if_neg hk] at e
   exact yae _ (Jo7 r acc e n)
section
variable {X:Cx} {rest:List Sf} {t:TS} {st:Sf} {name qual:Str} {i:Nat} {c P:S5} {lb:Array (Nat×Nat×Str)} {caps:List (Str×Nat)}
end
theorem Fun.okN {CX:CXT} {P:Sb} {w:Sd} {K:Si} {mg:Str->Option S6} {base:Sg} {x qual:Str} {st:Sf} {f c T:S5} {fd:Sc} {N ps:List Str} {k:Nat} {sp:Sp} (F:Fun K x qual st f fd) (n:Nst K f c T) (S:Jky N ps (Jku st)) (len:∀vs H Q E,sp vs H Q E->vs.length=ps.length)
  (hbody:∀(A:Se) (outer:List Env) (s:S7) (H:Hp) (vs:List V) (Q:VK) (E:XK),Sam k (A.deeper (envOfC qual (Jku st) s.heap.objs.size f (.ref c)))->sp vs H Q E->
   ∃t,PB (Jue CX P w K mg base N qual (Jku st) f (.ref c) A outer s H E) (Jmd st) t/\t {nx:=λ_ H'=>Q .non H',rt:=Q} (start N vs) H):Sx P w K mg base CX (k+1) f fd ps sp:=by
 obtain ⟨oc,od,kV,doc,pm,an,cdv,ct,osl,rfl,lk,hcd⟩:=F.ex
 have ec:cdv= .ref c:=by
  obtain ⟨oc',od',fd',sl',l',e'⟩:=n.fn
  rw [lk] at l';cases l'
  exact e'
 subst ec
 refine ⟨len,λA outer s H args us vs Q E hr e0 hb r hsp=>?_⟩
 have hl:=len _ _ _ _ hsp
 have KX:K.In s.heap:=e0.mod.kin.keeps λb o e=>(e0.bs b o e).1
 have lim:s.heap.NoLimit:=e0.mod.nolimit.keeps λb o e=>(e0.bs b o e).1
 refine codeAny_call_function hr.depth (KX _ _ lk) rfl S.co S.gen rfl (PySem.W.codeRec_of KX hcd) (hb _ _ _ _ ?_)
 refine wpAny_newFunctionEnv_cells S.kind (λ⟨y,v⟩ hy=>?_) λenv he s1 z=>?_
 ·exact (S.par y (ybe hy).1).imp id λq=>⟨q,PySem.W.cellsFrom_some _ _ _ (.inl q)⟩
 subst he
 refine ⟨lim.keeps z.toInCall.keep,codeAny_func ?_⟩
 obtain ⟨t,ht,hq⟩:=hbody A outer s H vs Q E (hr.deeper _) hsp
 refine wpAny_mono (ht [] s1 (start N vs) H _ (Jtw S hr.hd e0 hl r z) hq) (λfl s' hs=>?_) λe s' hs=>hs
 cases fl with
 |ret u=>
  obtain ⟨v,H',⟨a1,a2,a3,a4⟩,rv,q⟩:=hs
  exact ⟨v,H',a1,a2,a3,a4,rv,q⟩
 |next=>
  obtain ⟨σ',H',⟨a1,a2,a3,a4⟩,q⟩:=hs
  exact ⟨.non,H',a1,a2,a3,a4,rfl,q⟩
 |brk=>
  obtain ⟨_,_,_,q⟩:=hs
  exact False.elim q
 |cont=>
  obtain ⟨_,_,_,q⟩:=hs
  exact False.elim q
theorem Jnc:∀(ns:List (Str×NameKind)) (n:Nat) (acc:List (Str×S5)),cellsFrom n ns acc=cellsFrom n ns []++acc
 | [],_,_=>rfl
 | (x,k) :: r,n,acc=>by
  unfold cellsFrom
  split
  ·rw [Jnc r (n+1) ((x,n)::acc),Jnc r (n+1) [(x,n)],List.append_assoc]
   rfl
  ·exact Jnc r n acc
theorem Joq {x:Str} {b:S5}:∀(ns:List (Str×NameKind)) (n:Nat) (acc:List (Str×S5)),(cellsFrom n ns acc).lookup x=some b->acc.lookup x=none->(x,NameKind.cell)∈ns
 | [],_,_,e,m=>by unfold cellsFrom at e;rw [m] at e;cases e
 | (y,k) :: r,n,acc,e,m=>by
  unfold cellsFrom at e
  split at e
  ·rename_i hk
   have hk':k= .cell:=by simpa using hk
   subst hk'
   by_cases hx:x=y
   ·subst hx;exact yao
   ·refine yae _ (Joq r _ _ e ?_)
    rw [yan,beq_eq_false_iff_ne.mpr hx]
    exact m
  ·exact yae _ (Joq r _ _ e m)
theorem Jna {α β:Type} [BEq α] {x:α}:∀(l m:List (α×β)),(l++m).lookup x=(l.lookup x).or (m.lookup x)
 | [],_=>rfl
 | (y,v) :: r,m=>by
  rw [List.cons_append,yan,yan]
  split
  ·rfl
  ·exact Jna r m
section
variable {M:Model} {A:Se} {E:S6->S7->Prop} {s₀ s:S7} {m cm:Str->Option S6} {env:Env} {cs:List (Str×S5)}
theorem Jwf (f:Str×S6->PUnit->Sem (ForInStep PUnit)) (hf:∀n v u,f (n,v) u=(do storeName env n v;pure (.yield ⟨⟩))) (hk:env.scope.kind= .function) (sub:∀n c,cs.lookup n=some c->env.cells.lookup n=some c):
  ∀(bs:List (Str×S6)) (m cm:Str->Option S6) (s:S7) (Q:PUnit->S7->Prop),InCallC s₀ env.locals m cs cm s->(∀x∈bs,env.kindOf x.1=some .local\/(env.kindOf x.1=some .cell/\(cs.lookup x.1).isSome=true))->
   (∀s',InCallC s₀ env.locals (bindL env.kindOf bs m) cs (bindC env.kindOf bs cm) s'->Q ⟨⟩ s')->Sh M A (forIn bs ⟨⟩ f) Q E s
 | [],m,cm,s,Q,x,_,h=>by rw [List.forIn_nil];exact S9 (h s x)
 | (n,v) :: r,m,cm,s,Q,x,hb,h=>by
  rw [List.forIn_cons,hf]
  have hr:=λy hy=>hb y (yae (n,v) hy)
  obtain ⟨h0,t0,e0⟩:=x.toInCall.same
  rcases hb (n,v) yao with hl|⟨hl,hc⟩
  ·refine S8 (S8 (wpAny_storeName_local hl x.toInCall.ns (λh' hn hs=>S9 (Jwf f hf hk sub r (λy=>if y=n then some v else m y) cm _ Q ⟨⟨?_,hn,λb o z=>?_,x.toInCall.fresh⟩,λk c z=>?_,x.apart,x.above⟩ hr λs'' x''=>h s'' ?_)) (by rw [hk];rfl)))
   ·rw [e0];exact ⟨h',_,rfl⟩
   ·exact hs.extBut b o (yn (yad (yg z) x.toInCall.fresh)) (x.toInCall.keep b o z)
   ·exact (x.cell k c z).sameBut hs (yau (x.above k c (mem_of_lookup z)))
   ·unfold bindL bindC;rw [if_pos hl,if_pos hl];exact x''
  ·obtain ⟨c,hc⟩:=ybf.mp hc
   have hnl:¬env.kindOf n=some .local:=by rw [hl];decide
   have hL:=x.above n c (mem_of_lookup hc)
   refine S8 (S8 (wpAny_storeName_cell hk hl (sub n c hc) (x.cell n c hc) λh' hn hs=>S9 (Jwf f hf hk sub r m (λy=>if y=n then some v else cm y) _ Q ⟨⟨?_,x.toInCall.ns.sameBut hs (yn hL),λb o z=>?_,x.toInCall.fresh⟩,λk c' z=>?_,x.apart,x.above⟩ hr λs'' x''=>h s'' ?_)))
   ·rw [e0];exact ⟨h',_,rfl⟩
   ·exact hs.extBut b o (yn (Nat.lt_trans (yad (yg z) x.toInCall.fresh) hL)) (x.toInCall.keep b o z)
   ·by_cases w':k=n
    ·subst w'
     rw [hc] at z;cases z
     simpa using hn
    ·rw [if_neg w']
     exact (x.cell k c' z).sameBut hs λe=>w' (name_of_addr x.apart (mem_of_lookup z) (e▸mem_of_lookup hc))
   ·unfold bindL bindC;rw [if_neg hnl,if_neg hnl];exact x''
theorem Yw {scope:Scope} {globals:S5} {clos:List (Str×S5)} {bs:List (Str×S6)} {qual:Str} {func:Option S5} {code:S6} {builtins:S5} {Q:Env->S7->Prop} (hk:scope.kind= .function)
  (hb:∀x∈bs,scope.names.lookup x.1=some .local\/(scope.names.lookup x.1=some .cell/\((cellsFrom (s.heap.objs.size+1) scope.names []).lookup x.1).isSome=true))
  (hQ:∀env,env=newEnv scope s.heap.objs.size globals (cellsFrom (s.heap.objs.size+1) scope.names []++clos) qual func code none builtins->
   ∀s',InCallC s env.locals (bindL env.kindOf bs λ_=>none) (cellsFrom (s.heap.objs.size+1) scope.names []) (bindC env.kindOf bs λ_=>none) s'->Q env s'):
  Sh M A (newFunctionEnv scope globals clos bs qual func code none builtins) Q E s:=by
 simp only [newFunctionEnv,Option.isSome_none,Bool.false_eq_true,if_false]
 refine S8 (wpAny_alloc (S8 (wpAny_layCells _ (λn kd cl=>by cases h:kd==NameKind.cell <;> simp [h]) _ _ _ _ ?_)))
 have z:({s with heap:=s.heap.push {cls:=.type "frame",data:=.dict #[]}}:S7).heap.objs.size=s.heap.objs.size+1:=yak ..
 rw [z,Jnc]
 have ok:=cellsFrom_ok scope.names (s.heap.push {cls:=.type "frame",data:=.dict #[]}) (s.heap.objs.size+1) [] ⟨λ_ _ hm=>(nomatch hm),.nil⟩ (Nat.le_of_eq z.symm)
 rw [show (s.heap.push {cls:=.type "frame",data:=.dict #[]}).objs.size=s.heap.objs.size+1 from yak ..] at ok
 refine S8 (Jwf (s₀:=s) (cs:=cellsFrom (s.heap.objs.size+1) scope.names []) (env:=newEnv scope s.heap.objs.size globals (cellsFrom (s.heap.objs.size+1) scope.names []++clos) qual func code none builtins) _ (λ_ _ _=>rfl) hk (λn c e=>?_) bs (λ_=>none) (λ_=>none) _ _ ?_ hb λs' x=>S9 (hQ _ rfl s' x))
 ·show (cellsFrom (s.heap.objs.size+1) scope.names []++clos).lookup n=some c
  rw [Jna,e];rfl
 ·exact ⟨⟨⟨_,_,rfl⟩,(Heap.Ns.new s.heap (.type "frame")).keeps (pushCells_keeps _ _),λb o e=>pushCells_keeps _ _ b o (yj _ e),yh _⟩,λn c hc=>(ok.empty n c (mem_of_lookup hc)).1,ok.apart,λn c hm=>(ok.empty n c hm).2⟩
end
structure Joc (N ps fr:List Str) (sc:Scope):Prop where
 kind:sc.kind= .function
 co:sc.isCoroutine=false
 gen:sc.isGenerator=false
 nd:N.Nodup
 pre:N.take (ps.length+fr.length)=ps++fr
 par:∀x∈ps,sc.names.lookup x=some .local\/sc.names.lookup x=some .cell
 frs:∀x∈fr,sc.names.lookup x=some .free
 nof:∀y∈sc.names,y.2= .cell->sc.names.lookup y.1=some .cell
def Jx7 (CX:CXT) (P:Sb) (w:Sd) (K:Si) (mg:Str->Option S6) (base:Sg) (N:List Str) (qual:Str) (scope:Scope) (clos:List (Str×S5)) (f:S5) (cd:S6) (A:Se) (outer:List Env) (s:S7) (H:Hp) (E:XK):Cx where
 prog:=P
 w:=w
 K:=K
 mg:=mg
 base:=base
 A:=A.deeper (PySem.W.envX qual scope s.heap.objs.size f cd (cellsFrom (s.heap.objs.size+1) scope.names []++clos))
 N:=N
 s₀:=s
 H₀:=H
 env:=PySem.W.envX qual scope s.heap.objs.size f cd (cellsFrom (s.heap.objs.size+1) scope.names []++clos)
 outer:=outer
 stack:=PySem.W.envX qual scope s.heap.objs.size f cd (cellsFrom (s.heap.objs.size+1) scope.names []++clos)::outer
 ex:=[]
 calm:=true
 fn:=λx=>decide (scope.names.lookup x=some .cell)
 pn:=[]
 xe:=λe s'=>Sh (model P w) (A.deeper (PySem.W.envX qual scope s.heap.objs.size f cd (cellsFrom (s.heap.objs.size+1) scope.names []++clos))) (leaving (PySem.W.envX qual scope s.heap.objs.size f cd (cellsFrom (s.heap.objs.size+1) scope.names []++clos)) e) (λ_ s''=>CX outer H s E e s'') (λe' s''=>CX outer H s E e' s'') s'
theorem Jye {N:List Str} {vs:List V} {i:Nat} {v:V} (h:(start N vs)[i]?=some (some v)):vs[i]?=some v:=by
 unfold start at h
 by_cases hi:i < vs.length
 ·rw [ybg (by simpa using hi),yk] at h
  cases e:vs[i]? with
  |none=>rw [e] at h;cases h
  |some a=>rw [e] at h;cases h;rfl
 ·rw [ybc (by simpa using hi),List.getElem?_replicate] at h
  split at h <;> cases h
theorem Jwi {CX:CXT} {P:Sb} {w:Sd} {K:Si} {mg:Str->Option S6} {base:Sg} {N ps fr:List Str} {qual:Str} {scope:Scope} {clos:List (Str×S5)} {f:S5} {cd:S6} {A:Se} {outer:List Env} {s s1:S7} {H:Hp} {E:XK} {us:List S6} {vs cs:List V}
  (S:Joc N ps fr scope) (hd:A.handled=none) (e0:Sec P w K mg base A outer s H) (hl:vs.length=ps.length) (hlc:cs.length=fr.length) (r:Sa1 vs us)
  (inj:∀x y b,clos.lookup x=some b->clos.lookup y=some b->x=y) (has:∀y∈scope.names,y.2= .free->∃b,clos.lookup y.1=some b) (cel:∀x b,clos.lookup x=some b->∃v,Scj H b v) (cap:∀x v,(x,v)∈fr.zip cs->∃b,clos.lookup x=some b/\Scj H b v)
  (x:InCallC s s.heap.objs.size (bindL (PySem.W.envX qual scope s.heap.objs.size f cd (cellsFrom (s.heap.objs.size+1) scope.names []++clos)).kindOf (ps.zip us) λ_=>none) (cellsFrom (s.heap.objs.size+1) scope.names []) (bindC (PySem.W.envX qual scope s.heap.objs.size f cd (cellsFrom (s.heap.objs.size+1) scope.names []++clos)).kindOf (ps.zip us) λ_=>none) s1):
  Sv (Jx7 CX P w K mg base N qual scope clos f cd A outer s H E) [] (start N (vs++cs)) H s1:=by
 have hpl:ps.length+fr.length<=N.length:=by have:=congrArg ybb S.pre;rw [yx,yal] at this;omega
 obtain ⟨h1,tk,rfl,hk⟩:=x.done
 have noA:∀b:S5,b∉(Jx7 CX P w K mg base N qual scope clos f cd A outer s H E).ex:=λb z=>absurd (show b∈([]:List S5) from z) (by simp)
 have cobj:∀b v,Scj H b v->∃o u,H b=some (Sh6 o)/\s.heap.get? b=some o/\o.data= .cell (some u)/\Sa7 v u:=λb v ⟨o,u,q1,q2,q3⟩=>⟨o,u,q1,(e0.hok b _ q1).1,q2,q3⟩
 have two:∀y b,(cellsFrom (s.heap.objs.size+1) scope.names []++clos).lookup y=some b->(cellsFrom (s.heap.objs.size+1) scope.names []).lookup y=some b\/((cellsFrom (s.heap.objs.size+1) scope.names []).lookup y=none/\clos.lookup y=some b):=λy b e=>by
  rw [Jna] at e
  cases q:(cellsFrom (s.heap.objs.size+1) scope.names []).lookup y with
  |none=>rw [q] at e;exact .inr ⟨rfl,e⟩
  |some d=>rw [q] at e;exact .inl e
 have low:∀y b,clos.lookup y=some b->b < s.heap.objs.size:=λy b e=>by
  obtain ⟨v,q⟩:=cel y b e
  obtain ⟨o,u,_,q2,_⟩:=cobj b v q
  exact yg q2
 have high:∀y b,(cellsFrom (s.heap.objs.size+1) scope.names []).lookup y=some b->s.heap.objs.size < b:=λy b e=>x.above y b (PySem.mem_of_lookup e)
 refine ⟨⟨e0.mod,S.kind,rfl,rfl,yh _,λy z c h1 h2=>?_,λy hy=>?_,λy c hy h=>?_,λ_=>hd,Around.frames_deeper e0.frames,.inr ⟨rfl,rfl⟩,λb z=>absurd z (noA b),e0.bs,e0.bsz,λb _ _=>noA b,λb z=>absurd z (noA b),e0.funs,e0.frf⟩,
  rfl,e0.bare,Un.kept hk,⟨_,x.toInCall.ns,λi y v h1 h2 h3=>?_⟩,λy c h=>?_,e0.hok.fresh (yh _),λy c h=>?_,λp hp=>absurd (show p∈([]:List (S5×Obj)) from hp) (by simp),e0.hok.kept hk,?_⟩
 ·rcases two y c h1 with a|⟨_,a⟩
  ·rcases two z c h2 with b|⟨_,b⟩
   ·exact name_of_addr x.apart (PySem.mem_of_lookup a) (PySem.mem_of_lookup b)
   ·exact absurd (Nat.lt_trans (high y c a) (low z c b)) (yat _)
  ·rcases two z c h2 with b|⟨_,b⟩
   ·exact absurd (Nat.lt_trans (high z c b) (low y c a)) (yat _)
   ·exact inj y z c a b
 ·have hy:scope.names.lookup y=some .cell\/scope.names.lookup y=some .free:=hy
  show ∃c,(cellsFrom (s.heap.objs.size+1) scope.names []++clos).lookup y=some c
  rw [Jna]
  cases q:(cellsFrom (s.heap.objs.size+1) scope.names []).lookup y with
  |some d=>exact ⟨d,rfl⟩
  |none=>
   rcases hy with hy|hy
   ·obtain ⟨c,e⟩:=Jod (n:=s.heap.objs.size+1) hy
    rw [q] at e;cases e
   ·exact has _ (PySem.mem_of_lookup hy) rfl
 ·rcases two y c h with a|⟨a,_⟩
  ·exact yav (high y c a)
  ·have hy':decide (scope.names.lookup y=some .cell)=true:=hy
   obtain ⟨c',e⟩:=Jod (n:=s.heap.objs.size+1) (of_decide_eq_true hy')
   rw [a] at e;cases e
 ·have ha:=Jye h2
  have h1:N[i]?=some y:=h1
  have hi:i < vs.length+cs.length:=by have:=(yw.mp ha).1;rw [yal] at this;exact this
  have hp:(ps++fr)[i]?=some y:=by rw [<-S.pre,ybm (by omega)];exact h1
  by_cases hv:i < vs.length
  ·rw [ybg hv] at ha
   rw [ybg (by omega)] at hp
   obtain ⟨u,hu,rv⟩:=r.get ha
   have ndP:ps.Nodup:=(List.nodup_append.mp (by rw [<-S.pre];exact S.nd.sublist (List.take_sublist _ _))).1
   refine ⟨u,rv,?_⟩
   rcases S.par y (yo hp) with k|k
   ·exact .inl ⟨k,Jri ndP hp hu k⟩
   ·obtain ⟨c,e⟩:=Jod (n:=s.heap.objs.size+1) k
    refine .inr ⟨.inl k,c,?_,?_⟩
    ·show (cellsFrom (s.heap.objs.size+1) scope.names []++clos).lookup y=some c
     rw [Jna,e];rfl
    ·have q:=x.cell y c e
     rw [Jrh ndP hp hu (by show scope.names.lookup y≠_;rw [k];decide)] at q
     exact q
  ·rw [ybc (by omega)] at ha
   rw [ybc (by omega)] at hp
   obtain ⟨b,e1,e2⟩:=cap y v (yo (i:=i - vs.length) (by rw [ybo];exact ⟨by rw [hl];exact hp,ha⟩))
   have kf:=S.frs y (yo hp)
   obtain ⟨o,u,_,q2,q3,q4⟩:=cobj b v e2
   refine ⟨u,q4,.inr ⟨.inr kf,b,?_,o,hk _ _ q2,q3⟩⟩
   show (cellsFrom (s.heap.objs.size+1) scope.names []++clos).lookup y=some b
   rw [Jna]
   cases q:(cellsFrom (s.heap.objs.size+1) scope.names []).lookup y with
   |none=>exact e1
   |some d=>
    have:=S.nof _ (Joq scope.names _ [] q rfl) rfl
    rw [kf] at this;cases this
 ·rcases two y c h with a|⟨_,a⟩
  ·exact ⟨_,x.cell y c a⟩
  ·obtain ⟨v,q⟩:=cel y c a
   obtain ⟨o,u,_,q2,q3,_⟩:=cobj c v q
   exact ⟨_,o,hk _ _ q2,q3⟩
 ·rcases two y c h with a|⟨a1,a⟩
  ·exact .inl (e0.hok.fresh (yav (high y c a)))
  ·obtain ⟨v,q⟩:=cel y c a
   obtain ⟨o,u,q1,_⟩:=cobj c v q
   refine .inr ⟨decide_eq_false λz=>?_,o,q1⟩
   obtain ⟨c',e⟩:=Jod (n:=s.heap.objs.size+1) z
   rw [a1] at e;cases e
 ·unfold start
  show _=N.length
  rw [yal,yf,ybn,yal]
  omega
def Skr (i:Nat) (sp:S5->Sp) (R:St->XK) (t:TA):TE:=λσ H Q=>∃f,σ[i]?=some (some (.ref f))/\t σ H λvs H1=>sp f vs H1 Q (R σ)
section
variable {X:Cx} {CX:CXT} {k j i:Nat} {sp:S5->Sp} {x:Str} {p pos:Pos} {e:Expr} {es:List Expr} {t:TA} {R:St->XK}
end
theorem nst_mk {K:Si} {f c P:S5} {oc:S6} {od od':Option S5} {fd:Sc} {sl sl':Array (Option S6)} {vs:Array S6} (l:K.lookup f=some ⟨oc,od,.func fd,sl⟩) (e:fd.code= .ref c)
  (lc:K.lookup c=some ⟨.type "code",od', .fields vs,sl'⟩) (_:vs[11]?=some (.ref P)) (hb:Sjq vs c P=true):Nst K f c P:=⟨⟨oc,od,fd,sl,l,e⟩,⟨od',vs,sl',lc,hb⟩⟩
theorem Jtx {β:Type}:∀{l:List (S5×β)},(l.map (·.1)).Nodup->∀p∈l,l.lookup p.1=some p.2
 |q::r,h,p,hp=>by
  have h':(q.1::r.map (·.1)).Nodup:=h
  obtain ⟨h1,h2⟩:=yax.mp h'
  rw [yan]
  rcases yi.mp hp with rfl|hp
  ·rw [beq_self_eq_true]
  ·have ne:(p.1==q.1)=false:=beq_eq_false_iff_ne.mpr λz=>h1 (by rw [<-z];exact List.mem_map_of_mem hp)
   rw [ne]
   exact Jtx h2 p hp
theorem Jsj {β:Type}:∀{l:List (S5×β)} {a:S5} {v:β},l.lookup a=some v->(a,v)∈l
 | (b,x) :: r,a,v,e=>by
  rw [yan] at e
  cases hb:a==b with
  |true=>rw [hb] at e;cases e;rw [eq_of_beq hb];exact .head _
  |false=>rw [hb] at e;exact .tail _ (Jsj e)
theorem Jy0 {P:Sb} {w:Sd} {K:Si} {mg mb:Str->Option S6} {CX:CXT} {k:Nat} {fa a:S5} {fd:Sc} {x:Str} {sp:Sp} {s₁:S7} {vs:List S6} {ns:List Int} {tabs:List (S5×Array (Nat×Nat×Str))}
  (KX:K.In s₁.heap) (hns:s₁.heap.Ns mainGlobals mg) (hb:s₁.heap.Ns builtinsNs mb) (hbb:∀x:Str,x≠"__name__" ->mb x=bootBuiltins x) (hlim:s₁.heap.NoLimit) (hg:s₁.gens= #[])
  (ha:s₁.heap.get? a=some {cls:=.type "list",data:=.seq vs.toArray}) (hi:IntsAre vs ns) (hl:ns.length<=Sa) (hr:Sam k callerA)
  (hT:∀p∈tabs,isCodeTable s₁.heap p.1/\s₁.heap.get? p.1=some (PySem.W.tabObj #[])) (hnd:(tabs.map (·.1)).Nodup) (hK:PySem.W.noTabs K=true) (hbm:Bmn mg s₁.heap)
  (F:∀base:Sg,K.In base->base.Ns mainGlobals mg->Bmn mg base->Sx P w K mg base CX k fa fd [x] sp) (hbind:∀(s:S7) (u:S6),BindsTo s fd ⟨[u],[]⟩ [(x,u)])
  (hsp:∀H:Hp,(∀p∈tabs,H p.1=some (.tbl p.2))->Sw K H a (ns.map V.int)->sp [.ref a] H (λv _=>v= .bl true) λ_ _ _=>False)
  (hCX:∀H e s',CX [] H s₁ (λ_ _ _=>False) e s'->False):
  codeAny (model P w) callerA (.call (.ref fa) ⟨[.ref a],[]⟩) (λr s'=>r= .ok (.ret (.bool true))/\OldK s₁.heap s'.heap/\s'.os=s₁.os/\AllBare s'.gens) s₁:=by
 have rv:=Ju6 hi
 have lenV:=hi.length
 let so:Obj:={cls:=.type "list",data:=.seq vs.toArray}
 let H:Hp:=λb=>if b=a/\K.lookup a=none then some (.frz so (.lst (ns.map V.int))) else (tabs.lookup b).map HO.tbl
 have three:∀b,H b=none\/(b=a/\K.lookup a=none/\H b=some (.frz so (.lst (ns.map V.int))))\/∃lb,(b,lb)∈tabs/\H b=some (.tbl lb):=λb=>by
  by_cases h:b=a/\K.lookup a=none
  ·exact .inr (.inl ⟨h.1,h.2,if_pos h⟩)
  ·have e:H b=(tabs.lookup b).map HO.tbl:=if_neg h
   cases q:tabs.lookup b with
   |none=>exact .inl (by rw [e,q];rfl)
   |some lb=>exact .inr (.inr ⟨lb,Jsj q,by rw [e,q];rfl⟩)
 have hnon:∀b o,s₁.heap.get? b=some o->(∀xs n,o.data≠ .seq xs n)->(∀xs,o.data≠ .fields xs)->H b=none:=λb o e n1 n2=>by
  rcases three b with z|⟨rfl,_,_⟩|⟨lb,m,_⟩
  ·exact z
  ·rw [ha] at e;cases e;exact absurd rfl (n1 _ _)
  ·rw [(hT _ m).2] at e;cases e;exact absurd rfl (n2 _)
 have htb:∀p∈tabs,H p.1=some (.tbl p.2):=λp hp=>by
  have n:¬(p.1=a/\K.lookup a=none):=λz=>by
   have e:=(hT p hp).2
   rw [z.1,ha] at e;cases e
  show (if p.1=a/\K.lookup a=none then _ else _)=_
  rw [if_neg n,Jtx hnd p hp]
  rfl
 have hok:HOk P w H s₁.heap:=λb u z=>by
  rcases three b with e|⟨rfl,_,e⟩|⟨lb,m,e⟩
  ·rw [e] at z;cases z
  ·rw [e] at z;cases z
   exact ⟨ha,by rw [yf];exact hl,vs,_,rv,ha⟩
  ·rw [e] at z;cases z
   exact ⟨#[],(hT _ m).2,True.intro⟩
 have hS:Sw K H a (ns.map V.int):=by
  cases hk:K.lookup a with
  |some o=>
   have e:=KX a o hk
   rw [ha] at e;cases e
   exact .inr ⟨_,vs.toArray,_,hk,rfl,rfl,rfl,by rw [yu,lenV];exact hl,by simpa using rv⟩
  |none=>exact .inl (.inr ⟨so,if_pos ⟨rfl,hk⟩⟩)
 have nsK:∀{b:S5} {m:Str->Option S6},s₁.heap.Ns b m->(Jug s₁.heap H).Ns b m:=λ{b m} ⟨o,es,ep,e,d,r⟩=>⟨o,es,ep,Jsf e (hnon b o e (λxs n z=>by rw [d] at z;cases z) λxs z=>by rw [d] at z;cases z),d,r⟩
 have hKb:K.In (Jug s₁.heap H):=λb o e=>Jsf (KX b o e) (by
  rcases three b with z|⟨rfl,z,_⟩|⟨lb,m,_⟩
  ·exact z
  ·rw [z] at e;cases e
  ·exfalso
   have q:=KX b o e
   rw [(hT _ m).2] at q
   cases q
   have h2:=yai.mp hK (b,_) (PySem.W.mem_of_lookupK e)
   exact absurd (show false=true from h2) yv)
 have hBb:Bmn mg (Jug s₁.heap H):=by
  obtain ⟨bm,ob,b1,b2,b3,b4,b5,b6⟩:=hbm
  exact ⟨bm,ob,b1,b2,Jsf b3 (hnon bm ob b3 (λxs n z=>by rw [b6] at z;cases z) λxs z=>by rw [b6] at z;cases z),b4,b5,b6⟩
 have hM:Mod K mg (Jug s₁.heap H):=⟨hKb,nsK hns,⟨mb,nsK hb,hbb⟩,let ⟨mc,h1,h2⟩:=hlim;⟨mc,nsK h1,h2⟩⟩
 have e0:Sec P w K mg (Jug s₁.heap H) callerA [] s₁ H:=⟨rfl,hM,λb o e=>Ya0 e,Nat.le_of_eq (Jxw _ _),trivial,λb hb=>absurd (show b∈([]:List S5) from hb) (by simp),hok,.of_eq hg⟩
 refine codeAny_mono ((F _ hKb (nsK hns) hBb).run callerA [] s₁ H ⟨[.ref a],[]⟩ [.ref a] [.ref a] _ _ hr e0 (hbind s₁ (.ref a)) (.cons rfl .nil) (hsp H htb hS)) λr s' h=>?_
 cases r with
 |error e=>exact (hCX H e s' h).elim
 |ok fl=>
  cases fl with
  |next=>exact False.elim h
  |brk=>exact False.elim h
  |cont=>exact False.elim h
  |ret u=>
   obtain ⟨v,H',os,bare,un,hok',r',q⟩:=h
   have q':v= .bl true:=q
   subst q'
   obtain rfl:u=Value.bool true:=r'
   have all:∀b o,s₁.heap.get? b=some o->s'.heap.get? b=some o\/(isCodeTable s₁.heap b/\o=PySem.W.tabObj #[]/\∃ts,s'.heap.get? b=some (PySem.W.tabObj ts)):=λb o e=>by
    rcases three b with z|⟨rfl,_,z⟩|⟨lb,m,z⟩
    ·exact .inl (un.keep b o e z (by intro y;exact absurd (show b∈([]:List S5) from y) (by simp)) (by simp))
    ·obtain ⟨e2,_⟩:=hok' _ _ (un.frzs _ _ _ z)
     rw [ha] at e;cases e
     exact .inl e2
    ·obtain ⟨more,z2⟩:=un.tbls b lb z
     obtain ⟨ts,e2,_⟩:=hok' b _ z2
     have e3:=(hT _ m).2
     rw [e] at e3;cases e3
     exact .inr ⟨(hT _ m).1,rfl,ts,e2⟩
   refine ⟨rfl,⟨λb o e=>?_,λb o e=>?_⟩,os,bare⟩
   ·rcases all b o e with z|⟨t,rfl,ts,z⟩
    ·exact .inl z
    ·exact .inr (.inl ⟨t,rfl,#[],ts,rfl,by rw [Array.empty_append];exact z⟩)
   ·rcases all b o e with z|⟨t,rfl,ts,z⟩
    ·exact ⟨o,z⟩
    ·exact ⟨_,z⟩
end L2
namespace L2
open PySem PySem.Spec PyProof.Rows PySem.W
theorem Jvk {K:Si} {l1 l2:S5} {b1 b2:Bool} {xs ys:List V} {g:TG} {tb:TS} {D:Jon} {σ:St} {H:Hp} (Pv:Nat->St->Hp->Prop) (h0:Pv 0 σ H) (hl:∀i σ H,i<=xs.length->Pv i σ H->SqB K H l1 b1 xs/\SqB K H l2 b2 ys) (e1:xs.length=ys.length)
  (hs:∀i x y σ H T,xs[i]?=some x->ys[i]?=some y->Pv i σ H->H T=none->g (.ref T) σ (upd H T (.tup [x,y])) λσ2 H2=>tb {D with nx:=Pv (i+1),ct:=Pv (i+1),bk:=D.nx} σ2 H2) (hd:∀σ H,Pv xs.length σ H->D.nx σ H):
  ∃W:Nat->Nat->St->Hp->Prop,(∃m,W 0 m σ H)/\∀i m σ H,W i m σ H->((Sgs K l1 l2 b1 b2).stop i H/\D.nx σ H)\/((Sgs K l1 l2 b1 b2).go i H/\∃N:St->Hp->Prop,(∀σ' H',N σ' H'->∃m',m' < m/\W (i+1) m' σ' H')/\
   ∀x H',(Sgs K l1 l2 b1 b2).yld i H x H'->g x σ H' λσ2 H2=>tb {D with nx:=N,ct:=N,bk:=D.nx} σ2 H2):=by
 refine ⟨λi m σ H=>m=xs.length - i/\i<=xs.length/\Pv i σ H,⟨xs.length,by simp,yah _,h0⟩,?_⟩
 rintro i m σ H ⟨rfl,hi,p⟩
 obtain ⟨q1,q2⟩:=hl i σ H hi p
 by_cases hlt:i < xs.length
 ·refine .inr ⟨⟨xs,ys,q1,q2,e1,hlt⟩,Pv (i+1),λσ' H' p'=>⟨xs.length - (i+1),by omega,rfl,hlt,p'⟩,λx H' y=>?_⟩
  obtain ⟨T,u,v,hT,rfl,hu,hv,rfl⟩:=y
  exact hs i u v σ _ T (hu xs q1) (hv ys q2) p hT
 ·have e:i=xs.length:=by omega
  subst e
  exact .inl ⟨⟨xs,ys,q1,q2,e1,rfl⟩,hd σ H p⟩
theorem Jwl {l c:Nat} {q:Str}:(l,c,q)∈ #[(l,c,q)]:=by simp
theorem Jui {l c:Nat} {q q':Str} (h:(l,c,q')∈ #[(l,c,q)]):q'=q:=by simpa using h
section
variable {X:Cx} {pins:List (S5×Obj)} {σ:St} {H:Hp} {s:S7}
end
section
variable {g:TG} {tt:TT} {te:TE} {H:Hp} {D:S5} {σ:St} {R:Hp->Prop}
end
section
variable {prog:Sb} {w:Sd} {A:Se} {E:S6->S7->Prop} {s:S7} {a:S5} {its:Array S6} {n:Nat}
end
section
variable {prog:Sb} {w:Sd} {K:Type} [DecidableEq K] {knd:KeyKind prog w K} {A:Se}
end
section
variable {prog:Sb} {w:Sd} {K:Type} [DecidableEq K] {knd:KeyKind prog w K} {A:Se} {E:S6->S7->Prop} {s:S7} {b:Bool}
end
section
variable {prog:Sb} {w:Sd} {A:Se} {R:Result->S7->Prop} {I:S5} {fp wr:List S5} {n:Nat} {P:Nat->S6->Prop} {St:Nat->Sg->Prop}
end
section
variable {prog:Sb} {w:Sd} {A:Se} {E:S6->S7->Prop} {s:S7}
end
section
variable {M:Model} {A:Se} {E:S6->S7->Prop} {s:S7}
end
section
variable {prog:Sb} {w:Sd} {A:Se} {E:S6->S7->Prop} {s:S7} {it a T:S5} {i ep slot next p m:Nat} {x:S6} {h0:Int} {tk:Tok} {o oT:Obj} {es:Array (Int×S6)} {t:SetTable} {ps:Array S6} {Q:Option S6->S7->Prop}
end
section
variable {prog:Sb} {w:Sd} {A:Se} {E:S6->S7->Prop} {s:S7} {it a:S5} {i ep slot:Nat} {o:Obj} {es:Array (Int×S6)} {t:SetTable}
end
section
variable {prog:Sb} {w:Sd} {A:Se} {E:S6->S7->Prop} {s:S7} {it a:S5}
end
section
variable {prog:Sb} {w:Sd} {A:Se} {it a T:S5} {ep m:Nat} {o oT:Obj} {es:Array (Int×S6)} {t:SetTable} {ps:Array S6}
end
section
variable {prog:Sb} {w:Sd} {A:Se} {E:S6->S7->Prop} {s:S7} {a:S5} {ep:Nat} {o:Obj} {es:Array (Int×S6)} {t:SetTable}
end
end L2
namespace L2
open PySem PySem.Spec PyProof.Rows PySem.W PySem.Calls
section
variable {prog:Sb} {w:Sd} {A:Se} {E:S6->S7->Prop} {s:S7} {a:S5} {ep:Nat} {o:Obj} {es:Array (Int×S6)} {t:SetTable}
end
end L2
namespace L2
open PySem PySem.Spec PyProof.Rows PySem.W
section
variable {X:Cx}
end
section
variable {X:Cx} {CX:CXT} {k j i:Nat} {sp:S5->Sp} {x:Str} {p pos:Pos} {e:Expr} {es:List Expr} {t:TA} {R:St->XK}
end
section
variable {X:Cx} {o i value:Expr} {pos pos':Pos} {td ty tv:TE}
end
section
variable {P:Sb} {w:Sd} {H H':Hp} {h:Sg} {a:S5} {o:Obj} {kvs:List (Key×V)}
end
section
variable {X:Cx} {pins:List (S5×Obj)} {σ:St} {H:Hp} {s:S7} {a:S5} {o:Obj} {kvs:List (Key×V)}
end
section
variable {prog:Sb} {w:Sd} {A:Se} {E:S6->S7->Prop} {s:S7}
end
section
variable {X:Cx}
end
section
variable {X:Cx} {x:Str} {np pos:Pos} {C0:S5} {b₀:Sf} {suite:List Sf} {rest:List ExceptHandler} {ts:S5->TS} {th:TH}
end
end L2
namespace L2
open PySem PySem.Spec PyProof.Rows
def Jnr (e:Expr):Arguments:=match e with
 | .Lambda a _ _ _=>a
 |_=>{posonlyargs:=[],args:=[],vararg:=none,kwonlyargs:=[],kw_defaults:=[],kwarg:=none,defaults:=[]}
def Jne (e:Expr):Expr:=match e with
 | .Lambda _ b _ _=>b
 |e=>e
def Jlb (e:Expr):Scope:=match e with
 | .Lambda _ _ s _=>s
 |_=>{kind:=.function,names:=[],isGenerator:=false,isCoroutine:=false}
def Jny (e:Expr):Pos:=match e with
 | .Lambda _ _ _ p=>p
 |_=>⟨0,0,0,0⟩
def Jn8 (s:Sf):Expr:=match Jmd s with
 | [.Return (some (.Call _ [.Lambda a b c p] _ _)) _]=>.Lambda a b c p
 | [.Return (some (.Call _ [.Call _ [e] _ _] _ _)) _]=>e
 |_=>.Constant .none 0 ⟨0,0,0,0⟩
def Lam (f:S5) (qual:Str) (e:Expr) (clos:List (Str×S5)) (c:S5):HO:=
 .ext λh=>∃pm ct:S6,h.get? f=some {cls:=.type "function",data:=.func (PySem.W.kla_fn "<lambda>" qual (Jnr e) (Jne e) (Jlb e) clos pm (.ref c) ct)}
theorem Jvm {P:Sb} {w:Sd} {H:Hp} {h:Sg} {f:S5} {qual:Str} {e:Expr} {clos:List (Str×S5)} {c:S5} {pm ct:S6}
  (q:h.get? f=some {cls:=.type "function",data:=.func (PySem.W.kla_fn "<lambda>" qual (Jnr e) (Jne e) (Jlb e) clos pm (.ref c) ct)}):Sah P w H h f (Lam f qual e clos c):=
 ⟨⟨pm,ct,q⟩,⟨_,q⟩,λ_ _ ⟨p,t,z⟩ k=>⟨p,t,k _ z⟩⟩
section
variable {X:Cx} {pins:List (S5×Obj)} {σ:St} {H:Hp} {s:S7} {M:Model} {A:Se} {E:S6->S7->Prop} {qual:Str} {e:Expr} {pos:Pos} {firstLine:Nat} {c P:S5} {lb:Array (Nat×Nat×Str)} {clos:List (Str×S5)} {Q:S6->S7->Prop}
theorem Jz4 (I:Sv X pins σ H s) (hcd:X.env.code= .ref c) (C:PySem.W.CodeHd X.base c P) (B:Bmn X.mg X.base) (ht:H P=some (.tbl lb)) (hm:(pos.line,pos.col,qual)∈lb) (hu:∀q,(pos.line,pos.col,q)∈lb->q=qual)
  (hcl:closureFor (Jlb e) X.env=pure clos)
  (h:∀s' f c' H',Sv X pins σ H' s'->Sn H H'->H f=none->H' f=some (Lam f qual e clos c')->H' c'=some (.cod qual)->Q (.ref f) s'):
  Sh M A (makeFunction "<lambda>" qual (Jnr e) (.expr (Jne e)) (Jlb e) X.env [] [] [] pos firstLine) Q E s:=by
 obtain ⟨ts,eP,tr⟩:=I.hok P _ ht
 have hg:s.heap.Ns mainGlobals X.mg:=I.mod.glob.keeps I.bk
 have CH:=C.keeps I.bk
 have hgP:mainGlobals≠P:=λz=>by
  obtain ⟨o,es,ep,e1,e2,_⟩:=hg
  rw [z,eP] at e1;cases e1;cases e2
 have BA:s.heap.BuiltinsAt X.mg P:=by
  obtain ⟨bm,ob,b1,b2,b3,b4,b5,b6⟩:=B
  have b3':=I.bk _ _ b3
  refine ⟨bm,ob,b1,b2,λz=>?_,λz=>?_,b3',b4,b5,b6⟩
  ·obtain ⟨o,es,ep,e1,e2,_⟩:=hg
   rw [<-z,b3'] at e1;cases e1;rw [b6] at e2;cases e2
  ·rw [z,eP] at b3';cases b3';cases b4
 cases hq:codeAmong pos ts.toList with
 |some v=>
  obtain ⟨q,a,m1,rfl,m2⟩:=tr.hit hq
  obtain rfl:=hu q m1
  refine PySem.W.kla_makeFunctionHit (P:=P) (ps:=ts) hcl I.ok.glob hg hcd CH eP tr.triples hq BA λctv h' tk hk hsz=>?_
  have hf:H h'.objs.size=none:=I.hok.fresh hsz
  have J:=I.laid (a:=h'.objs.size) (o:=Lam h'.objs.size q e clos a) (t':=tk) (h':=h'.push {cls:=.type "function",data:=.func (PySem.W.kla_fn "<lambda>" q (Jnr e) (Jne e) (Jlb e) clos ((X.mg "__name__").getD .none) (.ref a) ctv)})
   (λb u z=>yj _ (hk b u z)) hsz (Jvm (yr _ rfl))
  exact h _ _ a _ J (Sn.upd hf) hf Sy (by rw [Jkt (Jkw m2 hf)];exact m2)
 |none=>
  refine PySem.W.kla_makeFunction (P:=P) (ps:=ts) hcl I.ok.glob hg hcd CH eP tr.triples hq hgP BA λc' ctv h' tk hx hge hlt hrec htb=>?_
  have hc':H c'=none:=I.hok.fresh hge
  have hf:H h'.objs.size=none:=I.hok.fresh (yz hge (yav hlt))
  have nfc:h'.objs.size≠c':=yau hlt
  have nP:∀b,H b=none->b≠P:=λb z w'=>by rw [w',ht] at z;cases z
  let H':Hp:=upd (upd H c' (.cod qual)) h'.objs.size (Lam h'.objs.size qual e clos c')
  let o':Obj:={cls:=.type "function",data:=.func (PySem.W.kla_fn "<lambda>" qual (Jnr e) (Jne e) (Jlb e) clos ((X.mg "__name__").getD .none) (.ref c') ctv)}
  have hS:Sn H H':=(Sn.upd hc').trans (Sn.upd (by rw [Jkt nfc];exact hf))
  have hkp:∀b o,b≠P->s.heap.get? b=some o->(h'.push o').get? b=some o:=λb o n z=>yj _ (hx b o n z)
  have hc1:H' c'=some (.cod qual):=by show upd (upd H c' _) _ _ c'=_;rw [Jkt (ym nfc),Sy]
  have bl:∀b o,s.heap.get? b=some o->b≠c'/\b≠h'.objs.size:=λb o z=>by
   have q:=yad (yg z) hge
   exact ⟨yn q,yn (Nat.lt_trans q hlt)⟩
  have J:Sv X pins σ H' {s with heap:=h'.push o',toks:=tk}:=by
   refine I.un (t':=tk) ⟨λb o z n _ _=>hkp b o (nP b n) z,λb o z n _ _=>⟨o.slots,hkp b o (nP b n) z⟩,λb o z n _=>?_,λb o z _=>?_,λb xs z=>hS _ _ z,λb o u z=>hS _ _ z,λb ps z=>⟨#[],by rw [hS _ _ z];simp⟩⟩ λb u z=>?_
   ·show upd (upd H c' _) _ _ b=none
    rw [Jkt (bl b o z).2,Jkt (bl b o z).1];exact n
   ·by_cases w':b=P
    ·exact ⟨_,by rw [w'];exact yj _ htb⟩
    ·exact ⟨o,hkp b o w' z⟩
   ·by_cases w1:b=h'.objs.size
    ·have z':H' b=some (Lam h'.objs.size qual e clos c'):=by rw [w1];exact Sy
     rw [z'] at z;cases z
     rw [w1]
     exact Jvm (yr _ rfl)
    ·by_cases w2:b=c'
     ·rw [w2,hc1] at z;cases z
      rw [w2]
      exact hrec.keeps λ_ _ z=>yj _ z
     ·have z':H b=some u:=by
       have:H' b=H b:=by show upd (upd H c' _) _ _ b=_;rw [Jkt w1,Jkt w2]
       rw [<-this];exact z
      by_cases w3:b=P
      ·rw [w3,ht] at z';cases z'
       refine ⟨_,by rw [w3];exact yj _ htb,?_⟩
       rw [Array.toList_append]
       exact Scm.snoc hm hc1 (tr.mono λb q z=>hS _ _ z)
      ·refine (I.hok b u z').stay (λc v hc zz=>hkp c v ?_ zz) (λc zz=>hS _ _ zz) (λc xs zz=>hS _ _ zz) λc q zz=>hS _ _ zz
       rcases hc with rfl|hc
       ·exact w3
       ·intro w';rw [w',ht] at hc;cases hc
  exact h _ _ c' H' J hS hf Sy hc1
end
def Sg4 (H:Hp) (f:S5) (qual:Str) (e:Expr) (caps:List (Str×V)):Prop:=
 ∃(clos:List (Str×S5)) (c:S5),H f=some (Lam f qual e clos c)/\H c=some (.cod qual)/\(∀x y b,clos.lookup x=some b->clos.lookup y=some b->x=y)/\(∀y∈(Jlb e).names,y.2= .free->∃b,clos.lookup y.1=some b)/\
  (∀x b,clos.lookup x=some b->∃v,Scj H b v)/\∀x v,(x,v)∈caps->∃b,clos.lookup x=some b/\Scj H b v
def IsL (H:Hp) (f:S5):Prop:=∃qual e clos c,H f=some (Lam f qual e clos c)
theorem Sg4.isl {H:Hp} {f:S5} {qual:Str} {e:Expr} {caps:List (Str×V)} (h:Sg4 H f qual e caps):IsL H f:=by
 obtain ⟨clos,c,a,_⟩:=h
 exact ⟨qual,e,clos,c,a⟩
def Jyk (X:Cx) (H:Hp) (caps:List Str) (vs:List V):Prop:=caps.length=vs.length/\∀y∈caps.zip vs,∃b,X.env.cells.lookup y.1=some b/\Scj H b y.2
def Sro (X:Cx) (P:S5) (lb:Array (Nat×Nat×Str)) (qual:Str) (e:Expr) (caps:List Str):TE:=λ_ H Q=>H P=some (.tbl lb)/\∃vs:List V,Jyk X H caps vs/\∀f H',Sn H H'->H f=none->Sg4 H' f qual e (caps.zip vs)->Q (.ref f) H'
def Srl (X:Cx) (caps:List (Str×Nat)) (t:TS):TS:=λD σ H=>∃vs:List V,(∀y∈caps.zip vs,σ[y.1.2]?=some (some y.2))/\caps.length=vs.length/\∀H',Sn H H'->Jyk X H' (caps.map (·.1)) vs->t D σ H'
section
variable {X:Cx} {t:TS} {e:Expr} {l:List Sf} {qual:Str} {c P:S5} {lb:Array (Nat×Nat×Str)}
theorem Jwt {caps:List (Str×Nat)} (hcap:∀y∈caps,X.N[y.2]?=some y.1/\X.fn y.1=true/\X.env.scope.names.lookup y.1=some .cell) (h:PB (X.fix λx=>(caps.map (·.1)).contains x) l t):PB X l (Srl X caps t):=by
 intro pins s σ H D I hq
 obtain ⟨vs,hvs,hlen,hq⟩:=hq
 obtain ⟨J,sJ⟩:=I.fix (λx=>(caps.map (·.1)).contains x)
 refine h pins s σ _ D J (hq _ sJ ⟨by rw [yf];exact hlen,λz hz=>?_⟩)
 obtain ⟨k,hk⟩:=List.getElem?_of_mem hz
 rw [ybo,yk] at hk
 obtain ⟨k1,k2⟩:=hk
 obtain ⟨y,hy,ey⟩:=yac.mp k1
 have my:=yo hy
 obtain ⟨c1,c2,c3⟩:=hcap y my
 have hσ:σ[y.2]?=some (some z.2):=hvs (y,z.2) (yo (i:=k) (by rw [ybo];exact ⟨hy,k2⟩))
 rw [<-ey]
 exact I.celAt J c1 hσ (.inl c3) (List.contains_iff_mem.mpr (List.mem_map_of_mem my)) c2
theorem Jwu {f₀:S5} {caps:List Str} (n:Nst X.K f₀ c P) (B:Bmn X.mg X.base) (hcd:X.env.code= .ref c) (he:e= .Lambda (Jnr e) (Jne e) (Jlb e) (Jny e)) (hd:defaultsOf (Jnr e) X.env=([],[]))
  (hq:X.env.qual++"<lambda>" =qual) (hm:((Jny e).line,(Jny e).col,qual)∈lb) (hu:∀q,((Jny e).line,(Jny e).col,q)∈lb->q=qual) (hall:∀y∈(Jlb e).names,y.2= .free->y.1∈caps)
  (hcap:∀y∈caps,(Jlb e).names.lookup y=some .free):PE X e (Sro X P lb qual e caps):=by
 intro pins s σ H Q I h
 obtain ⟨ht,vs,⟨hlen,hvs⟩,h⟩:=h
 have cel:∀x∈caps,∃(b:S5) (v:V),X.env.cells.lookup x=some b/\Scj H b v:=λx hx=>by
  obtain ⟨k,hk⟩:=List.getElem?_of_mem hx
  have hk':k < vs.length:=by rw [<-hlen];exact (yw.mp hk).1
  obtain ⟨b,q⟩:=hvs (x,vs[k]) (yo (i:=k) (by rw [ybo];exact ⟨hk,yq hk'⟩))
  exact ⟨b,_,q⟩
 have hfr:∀y∈(Jlb e).names,y.2= .free->∃b,X.env.cells.lookup y.1=some b:=λy hy hyf=>by
  obtain ⟨b,v,q,_⟩:=cel y.1 (hall y hy hyf)
  exact ⟨b,q⟩
 have hcl:=Jpx (env:=X.env) hfr
 have hin:∀x b,(Jmy X.env.cells (Jlb e).names []).lookup x=some b->X.env.cells.lookup x=some b:=λx b e=>Jnw (cells:=X.env.cells) _ [] (λx c e=>by simp at e) x b e
 rw [he]
 refine PySem.W.kla_eval hd ?_
 rw [hq]
 refine Jz4 I hcd (n.code I.mod.kin) B ht hm hu hcl λs1 f c' H1 I1 s01 hf hlam hcod=>?_
 refine ⟨.ref f,H1,I1,rfl,h f H1 s01 hf ⟨_,c',hlam,hcod,λx y b h1 h2=>I.ok.inj x y b (hin x b h1) (hin y b h2),λy hy hyf=>?_,λx b z=>?_,λx v z=>?_⟩⟩
 ·have hh:=Jn9 (cells:=X.env.cells) (x:=y.1) (Jlb e).names [] (by rw [<-hyf];exact hy) (hfr y hy hyf)
  exact ybf.mp hh
 ·obtain ⟨b',v,e1,e2⟩:=cel x (hall (x,.free) (Jo7 (Jlb e).names [] z (by simp)) rfl)
  have e3:=hin _ _ z
  rw [e1] at e3;cases e3
  exact ⟨v,e2.same s01⟩
 ·obtain ⟨b,e1,e2⟩:=hvs (x,v) z
  have hx:=hcap x (ybe z).1
  obtain ⟨b',hb'⟩:=ybf.mp (Jn9 (cells:=X.env.cells) (x:=x) (Jlb e).names [] (PySem.mem_of_lookup hx) ⟨b,e1⟩)
  have e3:=hin _ _ hb'
  rw [e1] at e3;cases e3
  exact ⟨b,hb',e2.same s01⟩
end
structure Sbz (P:Sb) (w:Sd) (K:Si) (mg:Str->Option S6) (base:Sg) (CX:CXT) (k:Nat) (f:S5) (sp:Sp):Prop where
 isl:∀vs H Q E,sp vs H Q E->IsL H f
 run:∀(A:Se) (outer:List Env) (s:S7) (H:Hp) (us:List S6) (vs:List V) (Q:VK) (E:XK),Sam k A->Sec P w K mg base A outer s H->Sa1 vs us->sp vs H Q E->codeAny (model P w) A (.call (.ref f) ⟨us,[]⟩) (CR CX outer P w H s Q E) s
def Jrx (qual:Str) (e:Expr) (fr:List Str) (sp:List V->Sp) (f:S5):Sp:=λvs H Q E=>∃cs,Sg4 H f qual e (fr.zip cs)/\sp cs vs H Q E
theorem Sjz {CX:CXT} {P:Sb} {w:Sd} {K:Si} {mg:Str->Option S6} {base:Sg} {k:Nat} {qual:Str} {e:Expr} {N ps fr:List Str} {sp:List V->Sp} (S:Joc N ps fr (Jlb e))
  (hb:∀(clos:List (Str×S5)) (pm:S6) (c:S5) (ct:S6) (us:List S6),us.length=ps.length->bindArgs (PySem.W.kla_fn "<lambda>" qual (Jnr e) (Jne e) (Jlb e) clos pm (.ref c) ct) ⟨us,[]⟩=pure (ps.zip us))
  (len:∀cs vs H Q E,sp cs vs H Q E->vs.length=ps.length/\cs.length=fr.length)
  (hbody:∀(f c:S5) (clos:List (Str×S5)) (A:Se) (outer:List Env) (s:S7) (H:Hp) (vs cs:List V) (Q:VK) (E:XK),Sam k (A.deeper (PySem.W.envX qual (Jlb e) s.heap.objs.size f (.ref c) (cellsFrom (s.heap.objs.size+1) (Jlb e).names []++clos)))->sp cs vs H Q E->
   ∃t,PE (Jx7 CX P w K mg base N qual (Jlb e) clos f (.ref c) A outer s H E) (Jne e) t/\t (start N (vs++cs)) H Q) (f:S5):
  Sbz P w K mg base CX (k+1) f (Jrx qual e fr sp f):=by
 refine ⟨λvs H Q E ⟨cs,h,_⟩=>h.isl,λA outer s H us vs Q E hr e0 r zq=>?_⟩
 obtain ⟨cs,⟨clos,c,h1,h2,h3,h4,h5,h6⟩,hsp⟩:=zq
 obtain ⟨hl,hlc⟩:=len _ _ _ _ _ hsp
 have hlu:us.length=ps.length:=by rw [<-r.length];exact hl
 have lim:s.heap.NoLimit:=e0.mod.nolimit.keeps λb o e=>(e0.bs b o e).1
 obtain ⟨⟨pm,ct,ho⟩,_⟩:=e0.hok f _ h1
 refine PySem.W.kla_callFunE hr.depth ho rfl S.co S.gen rfl (show s.heap.CodeRec (.ref c) qual from e0.hok c _ h2) ?_
 rw [hb clos pm c ct us hlu]
 refine S9 (Yw S.kind (λ⟨y,v⟩ hy=>?_) λenv he s1 z=>?_)
 ·exact (S.par y (ybe hy).1).imp id λq=>⟨q,PySem.W.cellsFrom_some _ _ _ (.inl q)⟩
 subst he
 refine ⟨lim.keeps z.toInCall.keep,PySem.W.kla_codeExpr ?_⟩
 obtain ⟨t,ht,hq⟩:=hbody f c clos A outer s H vs cs Q E (hr.deeper _) hsp
 refine wpAny_mono (ht [] s1 (start N (vs++cs)) H Q (Jwi S hr.hd e0 hl hlc r h3 h4 h5 h6 z) hq) (λu s' hs=>?_) λe s' hs=>hs
 obtain ⟨v,H',J,rv,q⟩:=hs
 exact ⟨v,H',J.os,J.bare,J.base,J.hok,rv,q⟩
theorem Sbz.mono {P:Sb} {w:Sd} {K:Si} {mg:Str->Option S6} {base:Sg} {CX:CXT} {j k:Nat} {f:S5} {sp:Sp} (G:Sbz P w K mg base CX j f sp) (h:j<=k):Sbz P w K mg base CX k f sp:=⟨G.isl,λA outer s H us vs Q E hr=>G.run A outer s H us vs Q E (hr.mono h)⟩
theorem Sbz.or {P:Sb} {w:Sd} {K:Si} {mg:Str->Option S6} {base:Sg} {CX:CXT} {k:Nat} {f:S5} {sp sq:Sp} (G:Sbz P w K mg base CX k f sp) (G':Sbz P w K mg base CX k f sq):Sbz P w K mg base CX k f (λvs H Q E=>sp vs H Q E\/sq vs H Q E):=
 ⟨λvs H Q E h=>h.elim (G.isl vs H Q E) (G'.isl vs H Q E),λA outer s H us vs Q E hr e0 r h=>h.elim (G.run A outer s H us vs Q E hr e0 r) (G'.run A outer s H us vs Q E hr e0 r)⟩
section
variable {X:Cx} {CX:CXT} {k j:Nat} {sp:S5->Sp} {x:Str} {p pos:Pos} {e:Expr} {es:List Expr} {t:TA}
theorem Jzc (G:∀f,Sbz X.prog X.w X.K X.mg X.base CX0 k f (sp f)) (hr:Sam j X.A) (hk:k<=j) (i:Nat) (ha:PA X (e::es) t) (hN:X.N[i]?=some x:=by rfl) (hv:Vis X.env.scope x:=by first|exact ye rfl|exact Or.inr (ye rfl)|exact Or.inr (Or.inr rfl))
  (hd:(x==("__debug__" :Str))=false:=by decide) (hcd:(x==("__classdict__" :Str))=false:=by decide) (he:starEach (e::es) X.env=(false,eval e X.env)::starEach es X.env:=by rfl) (hpl:(backTo pos (starEach es X.env)).any (·.1)=false:=by rfl):
  PE X (.Call (.Name x p) (e::es) [] pos) (Skr i sp (λ_=>E0) t):=by
 intro pins s σ H Q I h
 obtain ⟨f,hf,h⟩:=h
 refine wpAny_Call_Name_kw (thn (Jzf hN hv hd hcd pins s σ H (λv H'=>v= .ref f/\H'=H) I ⟨_,hf,rfl,rfl⟩) λu s1 zq=>?_)
 obtain ⟨v,H',I1,r,e1,e2⟩:=zq
 subst e1 e2
 cases r
 have hat:∀{s2:S7} {H2:Hp},Sv X pins σ H2 s2->IsL H2 f->PySem.W.FnAt f s2.heap:=λJ ⟨qual,e,clos,c,z⟩=>by
  obtain ⟨⟨pm,ct,q⟩,_⟩:=J.hok f _ z
  exact ⟨_,_,_,_,q⟩
 rw [he]
 refine PySem.W.callWith_of (P:=PySem.W.FnAt f) (by show ((false||(backTo pos (starEach es X.env)).any (·.1))||false)=false;rw [hpl];rfl) PySem.W.keeps_F (Calls.evalArgs_plain ?_)
 have ha':=ha pos pins s1 σ H' _ I1 h
 rw [he] at ha'
 refine thn ha' λus s2 ⟨vs,H2,I2,r2,q2⟩=>⟨hat I2 ((G f).isl _ _ _ _ q2),?_⟩
 refine wpAny_call (codeAny_mono ((G f).run X.A X.stack s2 H2 us vs Q E0 (hr.mono hk) I2.env0 r2 q2) λr s' hq=>?_)
 cases r with
 |error e=>exact hq.elim
 |ok fl=>
  cases fl with
  |ret u=>exact I2.after hq
  |next=>exact False.elim hq
  |brk=>exact False.elim hq
  |cont=>exact False.elim hq
end
theorem Juh {P:Sb} {w:Sd} {K:Si} {mg:Str->Option S6} {base:Sg} {k:Nat} {qual:Str} {e:Expr} {N ps fr:List Str} {sp:List V->Sp} (S:Joc N ps fr (Jlb e))
  (hb:∀(clos:List (Str×S5)) (pm:S6) (c:S5) (ct:S6) (us:List S6),us.length=ps.length->bindArgs (PySem.W.kla_fn "<lambda>" qual (Jnr e) (Jne e) (Jlb e) clos pm (.ref c) ct) ⟨us,[]⟩=pure (ps.zip us))
  (len:∀cs vs H Q E,sp cs vs H Q E->vs.length=ps.length/\cs.length=fr.length)
  (hbody:∀(f c:S5) (clos:List (Str×S5)) (A:Se) (outer:List Env) (s:S7) (H:Hp) (vs cs:List V) (Q:VK) (E:XK),Sam k (A.deeper (PySem.W.envX qual (Jlb e) s.heap.objs.size f (.ref c) (cellsFrom (s.heap.objs.size+1) (Jlb e).names []++clos)))->sp cs vs H Q E->
   ∃t,PE (Jx7 CX0 P w K mg base N qual (Jlb e) clos f (.ref c) A outer s H E).nox (Jne e) t/\t (start N (vs++cs)) H Q) (f:S5):Sbz P w K mg base CX0 (k+1) f (Jrx qual e fr sp f):=
 Sjz S hb len (λf c clos A outer s H vs cs Q E hr h=>(hbody f c clos A outer s H vs cs Q E hr h).elim λt q=>⟨t,q.1.nox,q.2⟩) f
theorem lvS {n:Nat} (u:List S6) (e:u.length=n+1):∃a r,u=a::r/\r.length=n:=by
 cases u with
 |nil=>cases e
 |cons a r=>exact ⟨a,r,rfl,Nat.succ.inj e⟩
theorem lv1 (u:List S6) (e:u.length=1):∃a,u= [a]:=by
 obtain ⟨a,r,rfl,z⟩:=lvS u e
 cases r with
 |nil=>exact ⟨a,rfl⟩
 |cons b r=>cases z
theorem lv2 (u:List S6) (e:u.length=2):∃a b,u= [a,b]:=by
 obtain ⟨a,r,rfl,z⟩:=lvS u e
 obtain ⟨b,rfl⟩:=lv1 r z
 exact ⟨a,b,rfl⟩
theorem lv3 (u:List S6) (e:u.length=3):∃a b c,u= [a,b,c]:=by
 obtain ⟨a,r,rfl,z⟩:=lvS u e
 obtain ⟨b,c,rfl⟩:=lv2 r z
 exact ⟨a,b,c,rfl⟩
theorem lv4 (u:List S6) (e:u.length=4):∃a b c d,u= [a,b,c,d]:=by
 obtain ⟨a,r,rfl,z⟩:=lvS u e
 obtain ⟨b,c,d,rfl⟩:=lv3 r z
 exact ⟨a,b,c,d,rfl⟩
theorem lv5 (u:List S6) (e:u.length=5):∃a b c d f,u= [a,b,c,d,f]:=by
 obtain ⟨a,r,rfl,z⟩:=lvS u e
 obtain ⟨b,c,d,f,rfl⟩:=lv4 r z
 exact ⟨a,b,c,d,f,rfl⟩
theorem lv6 (u:List S6) (e:u.length=6):∃a b c d f g,u= [a,b,c,d,f,g]:=by
 obtain ⟨a,r,rfl,z⟩:=lvS u e
 obtain ⟨b,c,d,f,g,rfl⟩:=lv5 r z
 exact ⟨a,b,c,d,f,g,rfl⟩
theorem lv7 (u:List S6) (e:u.length=7):∃a b c d f g i,u= [a,b,c,d,f,g,i]:=by
 obtain ⟨a,r,rfl,z⟩:=lvS u e
 obtain ⟨b,c,d,f,g,i,rfl⟩:=lv6 r z
 exact ⟨a,b,c,d,f,g,i,rfl⟩
theorem Yat {c:Nat}:∀(a b R R':List Nat),c∉a->c∉b->a++c::R=b++c::R'->a=b/\R=R':=by
 intro a
 induction a with
 |nil=>
  intro b R R' _ hb e
  cases b with
  |nil=>exact ⟨rfl,(List.cons.inj e).2⟩
  |cons y b=>exact absurd (by rw [(List.cons.inj e).1];exact yao ..) hb
 |cons x a ih=>
  intro b R R' ha hb e
  cases b with
  |nil=>exact absurd (by rw [<-(List.cons.inj e).1];exact yao ..) ha
  |cons y b=>
   obtain ⟨e1,e2⟩:=List.cons.inj e
   obtain ⟨f1,f2⟩:=ih b R R' (λz=>ha (yae _ z)) (λz=>hb (yae _ z)) e2
   exact ⟨by rw [e1,f1],f2⟩
theorem Jx6 (a b:Str):(a++b).cps.toList=a.cps.toList++b.cps.toList:=by
 show (a.cps++b.cps).toList=_
 exact Array.toList_append
theorem Jxl {a b:Str} (h:a.cps.toList=b.cps.toList):a=b:=Str.ext' (Array.toList_inj.mp h)
theorem Jog {c:Nat} (a b:Str) (r:List Str):(Str.join ⟨#[c]⟩ (a::b::r)).cps.toList=a.cps.toList++c::(Str.join ⟨#[c]⟩ (b::r)).cps.toList:=by
 show (a++(⟨#[c]⟩:Str)++Str.join ⟨#[c]⟩ (b::r)).cps.toList=_
 rw [Jx6,Jx6,List.append_assoc]
 rfl
theorem Jxy {c:Nat}:∀(ps ws:List Str),ps≠ []->ws≠ []->(∀p∈ps,c∉p.cps.toList)->(∀p∈ws,c∉p.cps.toList)->Str.join ⟨#[c]⟩ ps=Str.join ⟨#[c]⟩ ws->ps=ws:=by
 intro ps
 induction ps with
 |nil=>intro ws h;exact absurd rfl h
 |cons a ps ih=>
  intro ws _ hw fa fw e
  cases ws with
  |nil=>exact absurd rfl hw
  |cons b ws=>
   have e':=congrArg (λz:Str=>z.cps.toList) e
   have na:=fa a (yao ..)
   have nb:=fw b (yao ..)
   cases ps with
   |nil=>
    cases ws with
    |nil=>rw [show a=b from e]
    |cons b' ws=>
     rw [Jog] at e'
     exact absurd (by rw [show a.cps.toList=_ from e'];simp) na
   |cons a' ps=>
    cases ws with
    |nil=>
     rw [Jog] at e'
     exact absurd (by rw [<-show _=b.cps.toList from e'];simp) nb
    |cons b' ws=>
     rw [Jog,Jog] at e'
     obtain ⟨f1,f2⟩:=Yat _ _ _ _ na nb e'
     rw [Jxl f1,ih (b'::ws) (by simp) (by simp) (λp hp=>fa p (yae _ hp)) (λp hp=>fw p (yae _ hp)) (Jxl f2)]
theorem Jsw {c:Nat} {ws:List Str} (h0:ws≠ []) (hf:∀p∈ws,c∉p.cps.toList):Txt.split (Txt.join ⟨#[c]⟩ ws) ⟨#[c]⟩=ws:=by
 refine Jxy _ ws (λz=>?_) h0 (StrLaws.split_free _ c) hf ?_
 ·have:=split_pos (Txt.join ⟨#[c]⟩ ws) ⟨#[c]⟩
  rw [z] at this
  cases this
 ·rw [StrLaws.join_split]
  exact StrLaws.glued_eq_join _ _
theorem Jyh:∀l:List (Str×Tok),Sa1 ((l.map (·.1)).map V.str) (strValues l):=by
 intro l
 induction l with
 |nil=>exact .nil
 |cons q r ih=>exact .cons ⟨_,rfl⟩ ih
section
open PySem.Builtin PySem.Builtin.Str
variable {prog:Sb} {w:Sd} {A:Se} {E:S6->S7->Prop} {s:S7} {x y:Str} {t u:Tok} {Q:S6->S7->Prop}
theorem Jyc (hy:(y.length==0)=false) (hx:x.length+2<=Sa) (hq:∀(l:List (Str×Tok)) (k:Tok),l.map (·.1)=Txt.split x y->Q (.ref s.heap.objs.size) {s with heap:=s.heap.push {cls:=.type "list",data:=.seq (strValues l).toArray},toks:=k}):
  Sh (model prog w) A (call (.builtin "str.split") [.str x t,.str y u]) Q E s:=by
 cases h1:(decide (x.length < y.length)||decide (strKind x < strKind y))
 ·cases hf:(occurrences x y 0 x.length (x.length+1)).isEmpty
  ·have e:Txt.split x y=partsBetween x (occurrences x y 0 x.length (x.length+1)) y.length:=(if_neg (ne_true_of_eq_false h1)).trans (if_neg (ne_true_of_eq_false hf))
   have hn:=split_le x y
   rw [e] at hn
   refine call_meets F.slot_str_split (typeIs_str _ _ _) F.entry_str_split (F.args_str_split_2 _ _) (meets_str_split_sep x y t u h1 hy hf (by omega) (by omega)) ?_
   show wants Q E _ {s with toks:=_,heap:=s.heap.push {cls:=.type "list",data:=.seq (strsFrom s.toks (partsBetween x (occurrences x y 0 x.length (x.length+1)) y.length)).toArray}}
   rw [strsFrom_eq]
   exact hq (numbered s.toks _) _ ((numbered_texts _ _).trans e.symm)
  ·exact call_meets F.slot_str_split (typeIs_str _ _ _) F.entry_str_split (F.args_str_split_2 _ _) (meets_str_split_not_found x y t u h1 hy hf) (hq [(x,t)] _ ((if_neg (ne_true_of_eq_false h1)).trans (if_pos hf)).symm)
 ·exact call_meets F.slot_str_split (typeIs_str _ _ _) F.entry_str_split (F.args_str_split_2 _ _) (meets_str_split_cannot_occur x y t u h1) (hq [(x,t)] _ (if_pos h1).symm)
end
def Sk9:V->List V->Hp->VK->Prop:=λx xs H Q=>∃(z y:Str),x= .str z/\xs= [.str y]/\(y.length==0)=false/\z.length<=100000/\∀D,H D=none->Q (.ref D) (upd H D (.lst ((Txt.split z y).map V.str)))
theorem Jvo {X:Cx}:MtR X "str.split" Sk9:=by
 intro pins s σ H x xs v us Q I rx rs h
 obtain ⟨z,y,rfl,rfl,hy,hz,q⟩:=h
 obtain ⟨t,rfl⟩:=rx
 obtain ⟨u,rfl,ru⟩:=Jnq rs
 obtain ⟨t',rfl⟩:=ru
 have hl:z.length+2<=Sa:=yz (Nat.add_le_add_right hz 2) (by decide)
 refine Jyc hy hl λl k e=>?_
 have hn:=split_le z y
 refine ⟨.ref s.heap.objs.size,_,I.laid (t':=k) (λb o e=>yj _ e) (yh _) (show Sah X.prog X.w _ _ _ (.lst ((Txt.split z y).map V.str)) from ⟨by rw [yf];omega,strValues l,_,by rw [<-e];exact Jyh l,yr _ rfl⟩),rfl,q _ (I.hok.fresh (yh _))⟩
theorem Jrl {X:Cx}:Jng X (.type "str") (λxs H Q=>(∃i,xs= [.int i]/\i.natAbs.log2 < 1920/\Q (.str (toString i)) H)\/∃z,xs= [.str z]/\Q (.str z) H):=by
 intro pins s σ H xs us Q I r h
 rcases h with ⟨i,rfl,hz,q⟩|⟨z,rfl,q⟩
 ·obtain ⟨u,rfl,t,rfl⟩:=Jnq r
  exact PySem.P.str_of_int hz ⟨.str _,H,I.tok _,⟨_,rfl⟩,q⟩
 ·obtain ⟨u,rfl,t,rfl⟩:=Jnq r
  exact PySem.P.str_of_str ⟨.str _,H,I,⟨_,rfl⟩,q⟩
def isS (z:Str):S6->Bool
 | .str x _=>x==z
 |_=>false
theorem Yt {z:Str} {v:S6} (h:isS z v=true):Sa7 (.str z) v:=by
 unfold isS at h
 split at h
 ·rename_i x t
  rw [<-beq_iff_eq.mp h]
  exact ⟨t,rfl⟩
 ·cases h
def Jxm:List S6->List Str->Bool
 | [],[]=>true
 |v::r,z::s=>isS z v&&Jxm r s
 |_,_=>false
theorem Jx0:∀(us:List S6) (zs:List Str),Jxm us zs=true->Sa1 (zs.map V.str) us:=by
 intro us
 induction us with
 |nil=>
  intro zs h
  cases zs with
  |nil=>exact .nil
  |cons z s=>cases h
 |cons v r ih=>
  intro zs h
  cases zs with
  |nil=>cases h
  |cons z s=>
   have h':(isS z v&&Jxm r s)=true:=h
   rw [yp] at h'
   exact .cons (Yt h'.1) (ih s h'.2)
theorem tq_mk {K:Si} {p:S5} {oc:S6} {od:Option S5} {its:Array S6} {n:Nat} {sl:Array (Option S6)} {zs:List Str} (l:K.lookup p=some ⟨oc,od,.seq its n,sl⟩) (h1:oc= .type "tuple") (h3:(decide (its.size<=100)&&Jxm its.toList zs)=true):∀H:Hp,SqT K H p (zs.map V.str):=by
 rw [yp,decide_eq_true_eq] at h3
 exact λH=>.inr ⟨_,its,n,l,h1,rfl,yz h3.1 (by decide),Jx0 _ _ h3.2⟩
theorem walk_ofM {l:PySem.W.OpenLaw} {n k:Nat} {q:Sb} {loose:List Str} {XP:(Str->Option S6)->Sg->Prop} {YP:Sd->Sg->Prop} {d:DefRec} {K:Params->Si} {CX:CXT} {x:Str} {tl:List S5}
  (hn:l.most=some n) (hn2:n<=Sa) (hdf:d.params.defaults= []) (hr:Sam k callerA) (hY:∀(w:Sd) (h:Sg),YP w h->(K w.params).In h) (hTb:∀(w:Sd) (h:Sg),YP w h->∀P∈tl,h.get? P=some (PySem.W.tabObj #[])) (hK:∀w:Sd,PySem.W.noTabs (K w.params)=true)
  (F:∀(w:Sd) (mg:Str->Option S6) (fa:S5) (h:Sg),(K w.params).In h->h.Ns mainGlobals mg->(∀P∈tl,h.get? P=some (PySem.W.tabObj #[]))->mg d.name=some (.ref fa)->
   ∃(fd:Sc) (sp:Sp) (tabs:List (S5×Array (Nat×Nat×Str))),(∀(s:S7) (u:S6),BindsTo s fd ⟨[u],[]⟩ [(x,u)])/\(∀p∈tabs,isCodeTable h p.1/\h.get? p.1=some (PySem.W.tabObj #[]))/\(tabs.map (·.1)).Nodup/\
    (∀base:Sg,(K w.params).In base->base.Ns mainGlobals mg->Bmn mg base->Sx l.prog w (K w.params) mg base CX k fa fd [x] sp)/\
    ∀(H:Hp) (a:S5) (ns:List Int),ns.length<=n->(∀p∈tabs,H p.1=some (.tbl p.2))->Sw (K w.params) H a (ns.map V.int)->sp [.ref a] H (λv _=>v= .bl true) λ_ _ _=>False)
  (hCX:∀(H:Hp) (s:S7) (e:S6) (s':S7),CX [] H s (λ_ _ _=>False) e s'->False):
  PySem.W.WalkO q loose XP YP l.row.toRowW d [] (λf vs=>PySem.call f vs):=by
 refine Att.attach_call hn hdf λw s₀ s₁ mg mb fa o pm cd doc a vs ns G Y ho hd hcd hmg hobj hints hlen hg=>?_
 have KX:=hY w _ Y
 obtain ⟨fd,sp,tabs,hb,hT,hnd,hF,hsp⟩:=F w mg fa _ KX G.T.g (hTb w _ Y) hmg
 exact Jy0 KX G.T.g G.T.b G.T.builtins G.T.nolimit hg hobj hints (yz hlen hn2) hr hT hnd (hK w) G.T.bmain hF hb (λH h1 h2=>hsp H a ns hlen h1 h2) λH e s'=>hCX H s₁ e s'
theorem tab_km {K:Si} {h:Sg} {f c P:S5} (n:Nst K f c P) (X:K.In h) (e:h.get? P=some (PySem.W.tabObj #[])):isCodeTable h P/\h.get? P=some (PySem.W.tabObj #[]):=⟨((n.code X).tab e).isCodeTable,e⟩
end L2

namespace K06
open PySem L2 PyProof.Rows PySem.NumText
def top (i:Nat):Sf:=PySem.Challenge.pw_weirwatch_k06_whole_rivers_as_texts.main.body.getD i (.Pass ⟨0,0,0,0⟩)
set_option genInjectivity false in
structure Ad where
 Jfm:S5
 Jfn:Sc
 Jfo:S5
 Jfp:Sc
 Jfq:S5
 Jfr:Sc
 Jfs:S5
 Jft:Sc
 Jfu:S5
 Jfv:Sc
 Jfw:S5
 Jfx:Sc
 Jfy:S5
 Jfz:Sc
 Jg0:S5
 Jg1:Sc
 Jg2:S5
 Jg3:Sc
 Jg4:S5
 Jg5:Sc
 Jg6:S5
 Jg7:Sc
 Jg8:S5
 Jg9:Sc
 Jga:S5
 Jgb:Sc
 Jgc:S5
 Jgd:Sc
 Jge:S5
 Jgf:Sc
 Jgg:S5
 Jgh:Sc
 Jgi:S5
 Jgj:Sc
 Jgk:S5
 Jgl:Sc
 Jgm:S5
 Jgn:Sc
 Jgo:S5
 Jgp:Sc
 Jgq:S5
 Jgr:Sc
 Jgs:S5
 Jgt:Sc
 Jgu:S5
 Jgv:Sc
 Jgw:S5
 Jgx:Sc
 Jgy:S5
 Jgz:Sc
 Jh0:S5
 Jh1:Sc
 Jh2:S5
 Jh3:Sc
 Jh4:S5
 Jh5:Sc
 Jh6:S5
 Jh7:Sc
 Jh8:S5
 Jh9:Sc
 Jha:S5
 Jhb:Sc
 Jhc:S5
 Jhd:Sc
 Jhe:S5
 Jhf:Sc
 Jhg:S5
 Jhh:Sc
 Jhi:S5
 Jhj:Sc
 Jhk:S5
 Jhl:Sc
 Jhm:S5
 Jhn:Sc
 Jho:S5
 Jhp:Sc
 Jhq:S5
 Jhr:Sc
 Jhs:S5
 Jht:Sc
 Jhu:S5
 Jhv:Sc
 Jhw:S5
 Jhx:Sc
 Jhy:S5
 Jhz:Sc
 Ji0:S5
 Ji1:Sc
 Ji2:S5
 Ji3:Sc
 Ji4:S5
 Ji5:Sc
 Ji6:S5
 Ji7:Sc
 Ji8:S5
 Ji9:Sc
 Jia:S5
 Jib:Sc
 Jic:S5
 Jid:Sc
 Jie:S5
 Jif:Sc
 Jig:S5
 Jih:Sc
 Jii:S5
 Jij:Sc
 Jik:S5
 Jil:Sc
 Jim:S5
 Jin:Sc
 Jio:S5
 Jip:Sc
 Jiq:S5
 Jir:Sc
 Jis:S5
 Jit:Sc
 Jiu:S5
 Jiv:Sc
 Jiw:S5
 Jix:Sc
 Jiy:S5
 Jiz:Sc
 Jj0:S5
 Jj1:Sc
 Jj2:S5
 Jj3:Sc
 Jj4:S5
 Jj5:Sc
 Jj6:S5
 Jj7:Sc
 Jj8:S5
 Jj9:Sc
 Jja:S5
 Jjb:Sc
 Jjc:S5
 Jjd:Sc
 Jje:S5
 Jjf:Sc
 Jjg:S5
 Jjh:Sc
 Jji:S5
 Jjj:Sc
 Jjk:S5
 Jjl:Sc
 a_law:S5
 d_law:Sc
 Jjm:Tok
 Jjn:Tok
 Jjo:Tok
 Jjp:Tok
 Jjq:Tok
 Jjr:Tok
 Jjs:Tok
 Jjt:Tok
 Jju:Tok
 Jjv:Tok
 Jjw:Tok
 Jjx:Tok
 Jjy:Tok
 Jjz:S5
 Jk0:S5
 Jk1:S5
 Jk2:S5
 Jk3:S5
 Jk4:S5
 Jk5:S5
 Jk6:S5
 Jk7:S5
 Jk8:S5
 Jk9:S5
 Jka:S5
 Jkb:S5
 Jkc:S5
 Jkd:S5
 Jke:S5
 Jkf:S5
 Jkg:S5
 Jkh:S5
 Jki:S5
 Jkj:S5
 Jkk:S5
 Jkl:S5
 Jkm:S5
structure Tx (K:Si) (mg:Str->Option S6) (a:Ad):Prop where
 J0:FT K mg "is_whole" (top 15) ["thing","low","high"] a.Jg2 a.Jg3
 J8:FT K mg "is_made_of" (top 16) ["text","signs"] a.Jg4 a.Jg5
 J9:FT K mg "is_name" (top 17) ["thing"] a.Jg6 a.Jg7
 Ja:FT K mg "is_plain" (top 18) ["text"] a.Jg8 a.Jg9
 Jb:FT K mg "number_in" (top 19) ["text","low","high"] a.Jga a.Jgb
 Jc:FT K mg "are_marks" (top 24) ["thing","lowest"] a.Jgc a.Jgd
 Jd:FT K mg "kept_marks" (top 25) ["marks","lowest"] a.Jge a.Jgf
 Je:FT K mg "words_of" (top 26) ["name","marks"] a.Jgg a.Jgh
 Jf:FT K mg "refuse_no_level" (top 38) ["thing","low","high"] a.Jh8 a.Jh9
 Jg:FT K mg "are_unlike" (top 41) ["names"] a.Jhe a.Jhf
 Jh:FT K mg "are_basins" (top 42) ["thing"] a.Jhg a.Jhh
 Ji:FT K mg "are_towns" (top 43) ["thing","basins"] a.Jhi a.Jhj
 Jj:FT K mg "line_of" (top 47) ["parts"] a.Jhq a.Jhr
 Jk:FT K mg "basin_line" (top 48) ["basin"] a.Jhs a.Jht
 Jl:FT K mg "town_line" (top 49) ["town"] a.Jhu a.Jhv
 Jm:FT K mg "show_river" (top 50) ["river"] a.Jhw a.Jhx
 Jn:FT K mg "read_marks" (top 52) ["reader","lowest"] a.Jic a.Jid
 Jo:FT K mg "read_gate" (top 53) ["reader"] a.Jie a.Jif
 Jp:FT K mg "names_of" (top 54) ["things"] a.Jig a.Jih
 Jq:FT K mg "read_basin" (top 55) ["reader","basins"] a.Jii a.Jij
 Jr:FT K mg "read_town" (top 56) ["reader","basins","towns"] a.Jik a.Jil
 Js:FT K mg "first_words" (top 57) ["basins","towns"] a.Jim a.Jin
 Jt:FT K mg "read_thing" (top 58) ["reader","basins","towns"] a.Jio a.Jip
 Ju:FT K mg "read_cloud" (top 59) ["reader"] a.Jiq a.Jir
 Jv:FT K mg "read_river" (top 60) ["text"] a.Jis a.Jit
 Jw:FT K mg "_law_cell" (top 62) ["_law_script","_law_k"] a.Jiu a.Jiv
 Jx:FT K mg "_law_stream" (top 63) ["_law_cell_here"] a.Jiw a.Jix
 Jy:FT K mg "_law_take" (top 64) ["_law_stream_here","_law_many"] a.Jiy a.Jiz
 Jz:FT K mg "_law_names" (top 65) ["_law_stream_here","_law_many"] a.Jj0 a.Jj1
 Ja0:FT K mg "_law_marks" (top 66) ["_law_stream_here","_law_least"] a.Jj2 a.Jj3
 Ja1:FT K mg "_law_called" (top 67) ["_law_stream_here","_law_many"] a.Jj4 a.Jj5
 Ja2:FT K mg "_law_river" (top 68) ["_law_stream_here"] a.Jj6 a.Jj7
 Ja3:FT K mg "_law_text" (top 69) ["_law_told"] a.Jj8 a.Jj9
 Ja4:FT K mg "_law_gate" (top 70) ["_law_kind","_law_marks_here"] a.Jja a.Jjb
 Ja5:FT K mg "_law_made" (top 71) ["_law_told"] a.Jjc a.Jjd
 Ja6:FT K mg "_law_due" (top 72) ["_law_kind","_law_mark","_law_level"] a.Jje a.Jjf
 Ja7:FT K mg "_law_gate_is" (top 73) ["_law_gate_here","_law_kind","_law_marks_here"] a.Jjg a.Jjh
 Ja8:FT K mg "_law_numbers_are" (top 74) ["_law_found","_law_due_here"] a.Jji a.Jjj
 Ja9:FT K mg "_law_is" (top 75) ["_law_river_here","_law_told"] a.Jjk a.Jjl
 f_law:FT K mg "law" (top 76) ["_law_script"] a.a_law a.d_law
 Jaa:mg "LETTERS" =some (.str "abcdefghijklmnopqrstuvwxyz" a.Jjm)
 Jab:mg "FIGURES" =some (.str "0123456789" a.Jjn)
 Jac:mg "MOST_LETTERS" =some (.int 8 a.Jjo)
 Jad:mg "MOST_FIGURES" =some (.int 6 a.Jjp)
 Jae:mg "MOST_SETTINGS" =some (.int 4 a.Jjq)
 Jaf:mg "HIGHEST_MARK" =some (.int 12 a.Jjr)
 Jag:mg "HIGHEST_LEVEL" =some (.int 1000 a.Jjs)
 Jah:mg "HIGHEST" =some (.int 12 a.Jjt)
 Jai:mg "MOST_RAIN" =some (.int 6 a.Jju)
 Jaj:mg "MOST_WANT" =some (.int 6 a.Jjv)
 Jak:mg "MOST_CLOUD" =some (.int 12 a.Jjw)
 Jal:mg "MOST_BASINS" =some (.int 16 a.Jjx)
 Jam:mg "MOST_TOWNS" =some (.int 3 a.Jjy)
 Jan:mg "SORTS" =some (.ref a.Jjz)
 Jao:∀H:Hp,SqT K H a.Jjz ((["step","flap","part"]:List Str).map V.str)
 Jap:mg "all" =none
 Jaq:mg "bool" =none
 Jar:mg "enumerate" =none
 Jas:mg "int" =none
 Jat:mg "isinstance" =none
 Jau:mg "len" =none
 Jav:mg "list" =none
 Jaw:mg "max" =none
 Jax:mg "min" =none
 Jay:mg "range" =none
 Jaz:mg "set" =none
 Jb0:mg "str" =none
 Jb1:mg "tuple" =none
 Jb2:mg "zip" =none
 q69:mg "WeirError" =some (.ref a.Jk0)
 Jb3:mg "NoName" =some (.ref a.Jk1)
 Jb4:mg "NoGate" =some (.ref a.Jk2)
 Jb5:mg "NoBasin" =some (.ref a.Jk3)
 Jb6:mg "NoTown" =some (.ref a.Jk4)
 Jb7:mg "NoCloud" =some (.ref a.Jk5)
 Jb8:mg "NoRiver" =some (.ref a.Jk6)
 Jb9:mg "NoText" =some (.ref a.Jk7)
 Jba:mg "NoNumber" =some (.ref a.Jk8)
 Jbb:mg "Gate" =some (.ref a.Jk9)
 Jbc:mg "StepGate" =some (.ref a.Jka)
 Jbd:mg "FlapGate" =some (.ref a.Jkb)
 Jbe:mg "PartGate" =some (.ref a.Jkc)
 Jbf:mg "Basin" =some (.ref a.Jkd)
 Jbg:mg "Town" =some (.ref a.Jke)
 Jbh:mg "River" =some (.ref a.Jkf)
 Jbi:mg "LineReader" =some (.ref a.Jkg)
 q86:Sk K (.ref a.Jk1) "__init__" =some (some (.ref a.Jfm))
 q87:Sk K (.ref a.Jk2) "__init__" =some (some (.ref a.Jfo))
 q88:Sk K (.ref a.Jk3) "__init__" =some (some (.ref a.Jfq))
 q89:Sk K (.ref a.Jk4) "__init__" =some (some (.ref a.Jfs))
 q90:Sk K (.ref a.Jk5) "__init__" =some (some (.ref a.Jfu))
 q91:Sk K (.ref a.Jk6) "__init__" =some (some (.ref a.Jfw))
 q92:Sk K (.ref a.Jk7) "__init__" =some (some (.ref a.Jfy))
 q93:Sk K (.ref a.Jk8) "__init__" =some (some (.ref a.Jg0))
 q94:Sk K (.ref a.Jk9) "lets" =some (some (.ref a.Jgi))
 q95:Sk K (.ref a.Jka) "__init__" =some (some (.ref a.Jgk))
 q96:Sk K (.ref a.Jka) "settings" =some (some (.ref a.Jgm))
 q97:Sk K (.ref a.Jka) "passes" =some (some (.ref a.Jgo))
 q98:Sk K (.ref a.Jka) "words" =some (some (.ref a.Jgq))
 q99:Sk K (.ref a.Jkb) "__init__" =some (some (.ref a.Jgs))
 Jbj:Sk K (.ref a.Jkb) "settings" =some (some (.ref a.Jgu))
 Jbk:Sk K (.ref a.Jkb) "passes" =some (some (.ref a.Jgw))
 Jbl:Sk K (.ref a.Jkb) "words" =some (some (.ref a.Jgy))
 Jbm:Sk K (.ref a.Jkc) "__init__" =some (some (.ref a.Jh0))
 Jbn:Sk K (.ref a.Jkc) "settings" =some (some (.ref a.Jh2))
 Jbo:Sk K (.ref a.Jkc) "passes" =some (some (.ref a.Jh4))
 Jbp:Sk K (.ref a.Jkc) "words" =some (some (.ref a.Jh6))
 Jbq:Sk K (.ref a.Jkd) "__init__" =some (some (.ref a.Jha))
 Jbr:Sk K (.ref a.Jke) "__init__" =some (some (.ref a.Jhc))
 Jbs:Sk K (.ref a.Jkf) "__init__" =some (some (.ref a.Jhk))
 Jbt:Sk K (.ref a.Jkf) "place_of" =some (some (.ref a.Jhm))
 Jbu:Sk K (.ref a.Jkf) "beginning" =some (some (.ref a.Jho))
 Jbv:Sk K (.ref a.Jkg) "__init__" =some (some (.ref a.Jhy))
 Jbw:Sk K (.ref a.Jkg) "at_end" =some (some (.ref a.Ji0))
 Jbx:Sk K (.ref a.Jkg) "take" =some (some (.ref a.Ji2))
 Jby:Sk K (.ref a.Jkg) "take_of" =some (some (.ref a.Ji4))
 Jbz:Sk K (.ref a.Jkg) "take_new_name" =some (some (.ref a.Ji6))
 Jc0:Sk K (.ref a.Jkg) "take_number" =some (some (.ref a.Ji8))
 Jc1:Sk K (.ref a.Jkg) "take_end" =some (some (.ref a.Jia))
 Jc2:FM K "__init__" "NoName.__init__" (Jkx (top 2) 0) ["self","thing"] a.Jfm a.Jfn
 Jc3:FM K "__init__" "NoGate.__init__" (Jkx (top 3) 0) ["self","thing"] a.Jfo a.Jfp
 Jc4:FM K "__init__" "NoBasin.__init__" (Jkx (top 4) 0) ["self","thing"] a.Jfq a.Jfr
 Jc5:FM K "__init__" "NoTown.__init__" (Jkx (top 5) 0) ["self","thing"] a.Jfs a.Jft
 Jc6:FM K "__init__" "NoCloud.__init__" (Jkx (top 6) 0) ["self","thing"] a.Jfu a.Jfv
 Jc7:FM K "__init__" "NoRiver.__init__" (Jkx (top 7) 0) ["self","thing"] a.Jfw a.Jfx
 Jc8:FM K "__init__" "NoText.__init__" (Jkx (top 8) 0) ["self","line","place"] a.Jfy a.Jfz
 Jc9:FM K "__init__" "NoNumber.__init__" (Jkx (top 9) 0) ["self","thing"] a.Jg0 a.Jg1
 Jca:FM K "lets" "Gate.lets" (Jkx (top 27) 0) ["self","setting","level"] a.Jgi a.Jgj
 Jcb:FM K "__init__" "StepGate.__init__" (Jkx (top 28) 0) ["self","marks"] a.Jgk a.Jgl
 Jcc:FM K "settings" "StepGate.settings" (Jkx (top 28) 1) ["self"] a.Jgm a.Jgn
 Jcd:FM K "passes" "StepGate.passes" (Jkx (top 28) 2) ["self","setting","level"] a.Jgo a.Jgp
 Jce:FM K "words" "StepGate.words" (Jkx (top 28) 3) ["self"] a.Jgq a.Jgr
 Jcf:FM K "__init__" "FlapGate.__init__" (Jkx (top 29) 0) ["self","marks"] a.Jgs a.Jgt
 Jcg:FM K "settings" "FlapGate.settings" (Jkx (top 29) 1) ["self"] a.Jgu a.Jgv
 Jch:FM K "passes" "FlapGate.passes" (Jkx (top 29) 2) ["self","setting","level"] a.Jgw a.Jgx
 Jci:FM K "words" "FlapGate.words" (Jkx (top 29) 3) ["self"] a.Jgy a.Jgz
 Jcj:FM K "__init__" "PartGate.__init__" (Jkx (top 30) 0) ["self","marks"] a.Jh0 a.Jh1
 Jck:FM K "settings" "PartGate.settings" (Jkx (top 30) 1) ["self"] a.Jh2 a.Jh3
 Jcl:FM K "passes" "PartGate.passes" (Jkx (top 30) 2) ["self","setting","level"] a.Jh4 a.Jh5
 Jcm:FM K "words" "PartGate.words" (Jkx (top 30) 3) ["self"] a.Jh6 a.Jh7
 Jcn:FM K "__init__" "Basin.__init__" (Jkx (top 39) 0) ["self","name","low","high","start","rain","gate"] a.Jha a.Jhb
 Jco:FM K "__init__" "Town.__init__" (Jkx (top 40) 0) ["self","name","basin","want"] a.Jhc a.Jhd
 Jcp:FM K "__init__" "River.__init__" (Jkx (top 44) 0) ["self","cloud","gain","basins","towns"] a.Jhk a.Jhl
 Jcq:FM K "place_of" "River.place_of" (Jkx (top 44) 1) ["self","name"] a.Jhm a.Jhn
 Jcr:FM K "beginning" "River.beginning" (Jkx (top 44) 2) ["self"] a.Jho a.Jhp
 Jcs:FM K "__init__" "LineReader.__init__" (Jkx (top 51) 0) ["self","line","row"] a.Jhy a.Jhz
 Jct:FM K "at_end" "LineReader.at_end" (Jkx (top 51) 1) ["self"] a.Ji0 a.Ji1
 Jcu:FM K "take" "LineReader.take" (Jkx (top 51) 2) ["self","can_stand"] a.Ji2 a.Ji3
 Jcv:FM K "take_of" "LineReader.take_of" (Jkx (top 51) 3) ["self","allowed"] a.Ji4 a.Ji5
 Jcw:FM K "take_new_name" "LineReader.take_new_name" (Jkx (top 51) 4) ["self","names"] a.Ji6 a.Ji7
 Jcx:FM K "take_number" "LineReader.take_number" (Jkx (top 51) 5) ["self","low","high"] a.Ji8 a.Ji9
 Jcy:FM K "take_end" "LineReader.take_end" (Jkx (top 51) 6) ["self"] a.Jia a.Jib
 Jcz:Sai K a.Jk1 a.Jk0 a.Jfm
 Jd0:Sai K a.Jk2 a.Jk0 a.Jfo
 Jd1:Sai K a.Jk3 a.Jk0 a.Jfq
 Jd2:Sai K a.Jk4 a.Jk0 a.Jfs
 Jd3:Sai K a.Jk5 a.Jk0 a.Jfu
 Jd4:Sai K a.Jk6 a.Jk0 a.Jfw
 Jd5:Sai K a.Jk7 a.Jk0 a.Jfy
 Jd6:Sai K a.Jk8 a.Jk0 a.Jg0
 Jd7:Cls K a.Jka
 Jd8:Sfh K a.Jka
 Jd9:Mk K a.Jka a.Jgk
 Jda:Jn0 K a.Jka "lets" a.Jgi
 Jdb:Jn0 K a.Jka "settings" a.Jgm
 Jdc:Jn0 K a.Jka "passes" a.Jgo
 Jdd:Jn0 K a.Jka "words" a.Jgq
 Jde:Cls K a.Jkb
 Jdf:Sfh K a.Jkb
 Jdg:Mk K a.Jkb a.Jgs
 Jdh:Jn0 K a.Jkb "lets" a.Jgi
 Jdi:Jn0 K a.Jkb "settings" a.Jgu
 Jdj:Jn0 K a.Jkb "passes" a.Jgw
 Jdk:Jn0 K a.Jkb "words" a.Jgy
 Jdl:Cls K a.Jkc
 Jdm:Sfh K a.Jkc
 Jdn:Mk K a.Jkc a.Jh0
 Jdo:Jn0 K a.Jkc "lets" a.Jgi
 Jdp:Jn0 K a.Jkc "settings" a.Jh2
 Jdq:Jn0 K a.Jkc "passes" a.Jh4
 Jdr:Jn0 K a.Jkc "words" a.Jh6
 Jds:Cls K a.Jkd
 Jdt:Sfh K a.Jkd
 Jdu:Mk K a.Jkd a.Jha
 Jdv:Cls K a.Jke
 Jdw:Sfh K a.Jke
 Jdx:Mk K a.Jke a.Jhc
 Jdy:Cls K a.Jkf
 Jdz:Sfh K a.Jkf
 Je0:Mk K a.Jkf a.Jhk
 Je1:Jn0 K a.Jkf "place_of" a.Jhm
 Je2:Jn0 K a.Jkf "beginning" a.Jho
 Je3:Cls K a.Jkg
 Je4:Mk K a.Jkg a.Jhy
 Je5:Jn0 K a.Jkg "at_end" a.Ji0
 Je6:Jn0 K a.Jkg "take" a.Ji2
 Je7:Jn0 K a.Jkg "take_of" a.Ji4
 Je8:Jn0 K a.Jkg "take_new_name" a.Ji6
 Je9:Jn0 K a.Jkg "take_number" a.Ji8
 Jea:Jn0 K a.Jkg "take_end" a.Jia
 Jeb:NoAttr K a.Jk1 "thing"
 Jec:NoAttr K a.Jk2 "thing"
 Jed:NoAttr K a.Jk3 "thing"
 Jee:NoAttr K a.Jk4 "thing"
 Jef:NoAttr K a.Jka "marks"
 Jeg:NoAttr K a.Jkb "marks"
 Jeh:NoAttr K a.Jkc "marks"
 Jei:NoAttr K a.Jkd "name"
 Jej:NoAttr K a.Jkd "low"
 Jek:NoAttr K a.Jkd "high"
 Jel:NoAttr K a.Jkd "start"
 Jem:NoAttr K a.Jkd "rain"
 Jen:NoAttr K a.Jkd "gate"
 Jeo:NoAttr K a.Jke "name"
 Jep:NoAttr K a.Jke "basin"
 Jeq:NoAttr K a.Jke "want"
 Jer:NoAttr K a.Jkf "cloud"
 Jes:NoAttr K a.Jkf "gain"
 Jet:NoAttr K a.Jkf "basins"
 Jeu:NoAttr K a.Jkf "towns"
 Jev:NoAttr K a.Jkg "line"
 Jew:NoAttr K a.Jkg "place"
 Jex:NoAttr K a.Jkg "parts"
 Jey:Nst K a.Ji4 a.Jkh a.Jki
 Jez:Nst K a.Ji6 a.Jkj a.Jkk
 Jf0:Nst K a.Ji8 a.Jkl a.Jkm
 tnd: [a.Jki,a.Jkk,a.Jkm].Nodup
 Jf1:Sj K (.ref a.Jka) (.ref a.Jk9)=some true
 Jf2:Sj K (.ref a.Jkb) (.ref a.Jk9)=some true
 Jf3:Sj K (.ref a.Jkc) (.ref a.Jk9)=some true
 Jf4:Sj K (.ref a.Jkd) (.ref a.Jkd)=some true
 Jf5:Sj K (.ref a.Jke) (.ref a.Jke)=some true
 Jf6:Sj K (.ref a.Jka) (.type "bool")=some false
 Jf7:Sj K (.ref a.Jkb) (.type "bool")=some false
 Jf8:Sj K (.ref a.Jkc) (.type "bool")=some false
 Jf9:W.kitAny K (.ref a.Jka) [.ref a.Jka,.ref a.Jkb,.ref a.Jkc]=some true
 Jfa:W.kitAny K (.ref a.Jkb) [.ref a.Jka,.ref a.Jkb,.ref a.Jkc]=some true
 Jfb:W.kitAny K (.ref a.Jkc) [.ref a.Jka,.ref a.Jkb,.ref a.Jkc]=some true
 Jfc:Sj K (.ref a.Jka) (.ref a.Jka)=some true
 Jfd:Sj K (.ref a.Jka) (.ref a.Jkb)=some false
 Jfe:Sj K (.ref a.Jka) (.ref a.Jkc)=some false
 Jff:Sj K (.ref a.Jkb) (.ref a.Jka)=some false
 Jfg:Sj K (.ref a.Jkb) (.ref a.Jkb)=some true
 Jfh:Sj K (.ref a.Jkb) (.ref a.Jkc)=some false
 Jfi:Sj K (.ref a.Jkc) (.ref a.Jka)=some false
 Jfj:Sj K (.ref a.Jkc) (.ref a.Jkb)=some false
 Jfk:Sj K (.ref a.Jkc) (.ref a.Jkc)=some true
 Jfl:Sj K (.ref a.Jkf) (.ref a.Jkf)=some true
def Jlz:Int->List V->Bool
 |_,[]=>true
 |lo,.int i::r=>(decide (lo<=i)&&decide (i<=12))&&Jlz (i+1) r
 |_,_::_=>false
def Jn1 (lo:Int) (xs:List V):Bool:=decide (1<=xs.length/\xs.length<=4)&&Jlz lo xs
theorem Jrs (lo:Int) (x:V) (r:List V):Jlz lo (x::r)=(Jlm x lo 12&&match x with| .int i=>Jlz (i+1) r|_=>false):=by
 cases x <;> simp [Jlz,Jlm]
inductive Sq (H:Hp):V->List V->Prop where
 |lst {p:S5} {xs:List V}:H p=some (.lst xs)->Sq H (.ref p) xs
 |tup {p:S5} {xs:List V}:H p=some (.tup xs)->Sq H (.ref p) xs
theorem Sq.same {H H':Hp} {x:V} {xs:List V} (s:Sn H H') (h:Sq H x xs):Sq H' x xs:=by
 cases h with
 |lst e=>exact .lst (s _ _ e)
 |tup e=>exact .tup (s _ _ e)
theorem Sq.ty {K:Si} {H:Hp} {x:V} {xs:List V} (h:Sq H x xs):∃t,TyX K H x t/\tpB t=true/\W.kitAny K t [.type "list",.type "tuple"]=some true:=by
 cases h with
 |lst e=>exact ⟨_,.of (.lst e),rfl,rfl⟩
 |tup e=>exact ⟨_,.of (.tup e),rfl,rfl⟩
inductive Shp (K:Si) (H:Hp) (lo:Int):V->Bool->Prop where
 |seq {x:V} {xs:List V}:Sq H x xs->(∀y∈xs,Tm K H y)->Shp K H lo x (Jn1 lo xs)
 |non {x:V} {t:S6}:TyX K H x t->W.kitAny K t [.type "list",.type "tuple"]=some false->Shp K H lo x false
def Sn4 (K:Si):Sp:=λvs H Q _=>∃(x:V) (lo:Int) (b:Bool),vs= [x,.int lo]/\Shp K H lo x b/\∀H',Sn H H'->Q (.bl b) H'
def Rf (a:Ad) (H H':Hp) (x:V) (c:S6) (eo:Option S5):Prop:=∃e dx,c= .ref a.Jk2/\eo=some e/\Sn H H'/\H' e=some (XO e a.Jk2 (some dx) false)/\H' dx=some (XD dx [("thing",x)])
theorem Rf.of {a:Ad} {H H1 H':Hp} {x:V} {c:S6} {eo:Option S5} (s:Sn H H1) (h:Rf a H1 H' x c eo):Rf a H H' x c eo:=by
 obtain ⟨e,dx,h1,h2,h3,h4,h5⟩:=h
 exact ⟨e,dx,h1,h2,s.trans h3,h4,h5⟩
theorem Rf.new {a:Ad} {H:Hp} {x:V} {e dx:S5} (h1:H e=none) (h2:H dx=none) (ne:dx≠e):Rf a H (upd (upd (upd H dx (XD dx [("thing",x)])) e (XO e a.Jk2 (some dx) true)) e (XO e a.Jk2 (some dx) false)) x (.ref a.Jk2) (some e):=by
 refine ⟨e,dx,rfl,rfl,?_,Sy,?_⟩
 ·rw [Jnu]
  intro b o q
  rw [Jkt (Jkw q h1),Jkt (Jkw q h2)]
  exact q
 ·rw [Jkt ne,Jkt ne,Sy]
def Skf (K:Si) (a:Ad):Sp:=λvs H Q E=>∃(x:V) (lo:Int),vs= [x,.int lo]/\
 ((∃xs,Sq H x xs/\(∀y∈xs,Tm K H y)/\Jn1 lo xs=true/\∀t H',Sn H H'->H' t=some (.tup xs)->Q (.ref t) H')\/(Shp K H lo x false/\∀c eo H',Rf a H H' x c eo->E c eo H'))
def IsC (a:Ad) (C:S5):Prop:=C=a.Jka\/C=a.Jkb\/C=a.Jkc
def Sbj (C:S5) (H:Hp) (g:S5) (xs:List V):Prop:=∃dx t,H g=some (.ins C dx [("marks",.ref t)])/\H t=some (.tup xs)
theorem Sbj.same {C:S5} {H H':Hp} {g:S5} {xs:List V} (s:Sn H H') (h:Sbj C H g xs):Sbj C H' g xs:=by obtain ⟨dx,t,h1,h2⟩:=h;exact ⟨dx,t,s _ _ h1,s _ _ h2⟩
def Jv8 (K:Si) (a:Ad) (lo:Int):Sp:=λvs H Q E=>∃(p C dx:S5) (x:V),vs= [.ref p,x]/\H p=some (.ins C dx [])/\Cls K C/\NoAttr K C "marks" /\
 ((∃xs,Sq H x xs/\(∀y∈xs,Tm K H y)/\Jn1 lo xs=true/\∀t H',Sn H H'->H' t=some (.tup xs)->Q .non (upd H' p (.ins C dx [("marks",.ref t)])))\/(Shp K H lo x false/\∀c eo H',Rf a H H' x c eo->E c eo H'))
def Jzv (C:S5):Sp:=λvs H Q _=>∃(p:S5) (xs:List V),vs= [.ref p]/\Sbj C H p xs/\Q (.int xs.length) H
inductive GS (K:Si) (a:Ad) (H:Hp):V->Nat->Prop where
 |plain {g C:S5} {xs:List V}:IsC a C->Sbj C H g xs->xs.length<=4->GS K a H (.ref g) xs.length
theorem GS.same {K:Si} {a:Ad} {H H':Hp} {x:V} {n:Nat} (s:Sn H H') (h:GS K a H x n):GS K a H' x n:=by
 cases h with
 |plain i g l=>exact .plain i (g.same s) l
def Knd (z:Str):Prop:=z=("step" :Str)\/z=("flap" :Str)\/z=("part" :Str)
def Jns (z:Str):Int:=if z=("part" :Str) then 1 else 0
def cOf (a:Ad) (z:Str):S5:=if z=("step" :Str) then a.Jka else if z=("flap" :Str) then a.Jkb else a.Jkc
theorem Sjp {a:Ad} {z:Str}:IsC a (cOf a z):=by
 unfold cOf
 split
 ·exact .inl rfl
 ·split
  ·exact .inr (.inl rfl)
  ·exact .inr (.inr rfl)
theorem Jq0:¬(("part" :Str)="step"):=by decide +kernel
theorem Jpz:¬(("part" :Str)="flap"):=by decide +kernel
theorem Jp7:¬(("flap" :Str)="step"):=by decide +kernel
theorem Siq:¬(("flap" :Str)="part"):=by decide +kernel
theorem Sir:¬(("step" :Str)="part"):=by decide +kernel
theorem Jsx {x y:Str} (h:¬x=y):¬V.str x=V.str y:=λe=>h (V.str.inj e)
def LET:Str:="abcdefghijklmnopqrstuvwxyz"
def Jqr (g z:Str):Bool:=z.cps.toList.all λc=>decide (c∈g.cps.toList)
def Jno (z:Str):Bool:=decide (1<=z.length/\z.length<=8)&&Jqr LET z
structure Wd (n:Nat) (z:Str):Prop where
 len:z.length<=n
 low:∀c∈z.cps.toList,c < 128
theorem Jou (z:Str):z.cps.toList.length=z.length:=Array.length_toList
theorem Jyl {g:Str} {r:Int} (h0:0<=r) (h1:r < g.length):∃c,c∈g.cps.toList/\atI g.cps.toList r=some c:=by
 obtain ⟨n,rfl⟩:=yaa h0
 have hn:n < g.cps.toList.length:=by rw [Jou];omega
 exact ⟨g.cps.toList[n],ybq hn,Jnb (yq hn)⟩
theorem Y7 {z:Str} {n:Nat} (h:(decide (z.length<=n)&&z.cps.toList.all (λc=>decide (c < 128)))=true):Wd n z:=by
 rw [yp] at h
 exact ⟨of_decide_eq_true h.1,λc hc=>of_decide_eq_true (yai.mp h.2 c hc)⟩
theorem Sl1:Wd 26 LET:=Y7 (by decide +kernel)
def Jnp:V->Bool
 | .str z=>Jno z
 |_=>false
def Nmd (K:Si) (H:Hp) (x:V):Prop:=Tm K H x/\∀z,x= .str z->Wd 50 z
def Skh:Sp:=λvs H Q _=>∃z g:Str,vs= [.str z,.str g]/\z.length<=2000/\∀H',Sn H H'->Q (.bl (Jqr g z)) H'
def Ski (K:Si):Sp:=λvs H Q _=>∃x:V,vs= [x]/\Nmd K H x/\∀H',Sn H H'->Q (.bl (Jnp x)) H'
def RfC (C:S5) (H H':Hp) (x:V) (c:S6) (eo:Option S5):Prop:=∃e dx,c= .ref C/\eo=some e/\Sn H H'/\H' e=some (XO e C (some dx) false)/\H' dx=some (XD dx [("thing",x)])
theorem RfC.of {C:S5} {H H1 H':Hp} {x:V} {c:S6} {eo:Option S5} (s:Sn H H1) (h:RfC C H1 H' x c eo):RfC C H H' x c eo:=by
 obtain ⟨e,dx,h1,h2,h3,h4,h5⟩:=h
 exact ⟨e,dx,h1,h2,s.trans h3,h4,h5⟩
theorem RfC.new {C:S5} {H:Hp} {x:V} {e dx:S5} (h1:H e=none) (h2:H dx=none) (ne:dx≠e):RfC C H (upd (upd (upd H dx (XD dx [("thing",x)])) e (XO e C (some dx) true)) e (XO e C (some dx) false)) x (.ref C) (some e):=by
 refine ⟨e,dx,rfl,rfl,?_,Sy,?_⟩
 ·rw [Jnu]
  intro b o q
  rw [Jkt (Jkw q h1),Jkt (Jkw q h2)]
  exact q
 ·rw [Jkt ne,Jkt ne,Sy]
def Jyb (K:Si) (a:Ad):Sp:=λvs H Q E=>∃(x:V) (lo hi:Int),vs= [x,.int lo,.int hi]/\Tm K H x/\((Jlm x lo hi=true/\Q .non H)\/(Jlm x lo hi=false/\∀c eo H',RfC a.Jk3 H H' x c eo->E c eo H'))
inductive Due (n lo hi st rn g:V) (gb:Bool):Option (Nat×V)->Prop
 |name:Jnp n=false->Due n lo hi st rn g gb (some (0,n))
 |low:Jnp n=true->Jlm lo 0 12=false->Due n lo hi st rn g gb (some (1,lo))
 |high (l:Int):Jnp n=true->lo= .int l->Jlm lo 0 12=true->Jlm hi l 12=false->Due n lo hi st rn g gb (some (1,hi))
 |start (l h:Int):Jnp n=true->lo= .int l->hi= .int h->Jlm lo 0 12=true->Jlm hi l 12=true->Jlm st l h=false->Due n lo hi st rn g gb (some (1,st))
 |rain (l h:Int):Jnp n=true->lo= .int l->hi= .int h->Jlm lo 0 12=true->Jlm hi l 12=true->Jlm st l h=true->Jlm rn 0 6=false->Due n lo hi st rn g gb (some (1,rn))
 |gate (l h:Int):Jnp n=true->lo= .int l->hi= .int h->Jlm lo 0 12=true->Jlm hi l 12=true->Jlm st l h=true->Jlm rn 0 6=true->gb=false->Due n lo hi st rn g gb (some (2,g))
 |good (l h:Int):Jnp n=true->lo= .int l->hi= .int h->Jlm lo 0 12=true->Jlm hi l 12=true->Jlm st l h=true->Jlm rn 0 6=true->gb=true->Due n lo hi st rn g gb none
inductive Sgq (n b wt:V):Option (Nat×V)->Prop
 |name:Jnp n=false->Sgq n b wt (some (0,n))
 |basin:Jnp n=true->Jnp b=false->Sgq n b wt (some (0,b))
 |want:Jnp n=true->Jnp b=true->Jlm wt 1 6=false->Sgq n b wt (some (3,wt))
 |good:Jnp n=true->Jnp b=true->Jlm wt 1 6=true->Sgq n b wt none
def Sqy (a:Ad):Nat->S5
 |0=>a.Jk1
 |1=>a.Jk3
 |2=>a.Jk2
 |_=>a.Jk4
def GtI (K:Si) (a:Ad) (H:Hp) (g:V) (gb:Bool):Prop:=∃t,TyX K H g t/\Sj K t (.ref a.Jk9)=some gb/\W.kitAny K t [.ref a.Jka,.ref a.Jkb,.ref a.Jkc]=some gb/\
 ∃b,Sj K t (.type "bool")=some b/\(gb=true->b=false)/\t≠ .type "float"
def Si4 (n lo hi st rn g:V):List (Str×V):=[("name",n),("low",lo),("high",hi),("start",st),("rain",rn),("gate",g)]
def twnF (n b wt:V):List (Str×V):=[("name",n),("basin",b),("want",wt)]
def Si9 (a:Ad) (d:Option (Nat×V)) (H:Hp) (E:XK) (G:Prop):Prop:=match d with
 |none=>G
 |some (k,x)=>∀c eo H',RfC (Sqy a k) H H' x c eo->E c eo H'
def Jxk (K:Si) (a:Ad):Sp:=λvs H Q E=>∃(p dx:S5) (n lo hi st rn g:V) (gb:Bool) (d:Option (Nat×V)),vs= [.ref p,n,lo,hi,st,rn,g]/\H p=some (.ins a.Jkd dx [])/\Nmd K H n/\Tm K H lo/\Tm K H hi/\Tm K H st/\Tm K H rn/\GtI K a H g gb/\Due n lo hi st rn g gb d/\
 Si9 a d H E (∀H',Sn H H'->Q .non (upd H' p (.ins a.Jkd dx (Si4 n lo hi st rn g))))
def Skp (K:Si) (a:Ad):Sp:=λvs H Q E=>∃(p dx:S5) (n b wt:V) (d:Option (Nat×V)),vs= [.ref p,n,b,wt]/\H p=some (.ins a.Jke dx [])/\Nmd K H n/\Nmd K H b/\Tm K H wt/\Sgq n b wt d/\
 Si9 a d H E (∀H',Sn H H'->Q .non (upd H' p (.ins a.Jke dx (twnF n b wt))))
theorem Nmd.same {K:Si} {H H':Hp} {x:V} (s:Sn H H') (h:Nmd K H x):Nmd K H' x:=⟨h.1.same s,h.2⟩
theorem Jvd {K:Si} {H H':Hp} {x:V} {t:S6} (s:Sn H H') (h:TyX K H x t):TyX K H' x t:=h.same (λb o _ q=>s b o q) (λb fs q=>s b _ q)
theorem GtI.same {K:Si} {a:Ad} {H H':Hp} {g:V} {gb:Bool} (s:Sn H H') (h:GtI K a H g gb):GtI K a H' g gb:=by obtain ⟨t,ty,r⟩:=h;exact ⟨t,Jvd s ty,r⟩
theorem Sky {K:Si} {H:Hp} {x:V} {t:S6} (h:TyX K H x t) (e:t= .type "str"):∃z,x= .str z:=by
 cases h with
 |exc=>cases e
 |of ty=>
  cases ty with
  |str z=>exact ⟨z,rfl⟩
  |ins=>cases e
  |non=>exact absurd (Value.type.inj e) (by decide)
  |bl=>exact absurd (Value.type.inj e) (by decide)
  |int=>exact absurd (Value.type.inj e) (by decide)
  |flt=>exact absurd (Value.type.inj e) (by decide)
  |lst=>exact absurd (Value.type.inj e) (by decide)
  |frz=>exact absurd (Value.type.inj e) (by decide)
  |tup=>exact absurd (Value.type.inj e) (by decide)
  |dK=>exact absurd (Value.type.inj e) (by decide)
  |dT=>exact absurd (Value.type.inj e) (by decide)
structure Bsn where
 z:Str
 lo:Int
 hi:Int
 st:Int
 rn:Int
 g:V
 n:Nat
def Sew (K:Si) (a:Ad) (H:Hp) (o:S5) (B:Bsn):Prop:=∃dx,H o=some (.ins a.Jkd dx (Si4 (.str B.z) (.int B.lo) (.int B.hi) (.int B.st) (.int B.rn) B.g))/\GS K a H B.g B.n
theorem Sew.same {K:Si} {a:Ad} {H H':Hp} {o:S5} {B:Bsn} (s:Sn H H') (h:Sew K a H o B):Sew K a H' o B:=by obtain ⟨dx,h1,h2⟩:=h;exact ⟨dx,s _ _ h1,h2.same s⟩
structure Twn where
 z:Str
 b:Str
 wt:Int
def Sfg (a:Ad) (H:Hp) (o:S5) (B:Twn):Prop:=∃dx,H o=some (.ins a.Jke dx (twnF (.str B.z) (.str B.b) (.int B.wt)))
theorem Sfg.same {a:Ad} {H H':Hp} {o:S5} {B:Twn} (s:Sn H H') (h:Sfg a H o B):Sfg a H' o B:=by obtain ⟨dx,h1⟩:=h;exact ⟨dx,s _ _ h1⟩
def Sdk (K:Si) (a:Ad) (H:Hp):List S5->List Bsn->Prop
 | [],[]=>True
 |o::os,B::Bs=>Sew K a H o B/\Sdk K a H os Bs
 |_,_=>False
def Sdy (a:Ad) (H:Hp):List S5->List Twn->Prop
 | [],[]=>True
 |o::os,B::Bs=>Sfg a H o B/\Sdy a H os Bs
 |_,_=>False
theorem Sdk.same {K:Si} {a:Ad} {H H':Hp} (s:Sn H H'):∀{os:List S5} {Bs:List Bsn},Sdk K a H os Bs->Sdk K a H' os Bs:=by
 intro os
 induction os with
 |nil=>
  intro Bs h
  cases Bs with
  |nil=>exact True.intro
  |cons B Bs=>exact False.elim h
 |cons o os ih=>
  intro Bs h
  cases Bs with
  |nil=>exact False.elim h
  |cons B Bs=>exact ⟨(And.left h).same s,ih (And.right h)⟩
theorem Sdy.same {a:Ad} {H H':Hp} (s:Sn H H'):∀{os:List S5} {Bs:List Twn},Sdy a H os Bs->Sdy a H' os Bs:=by
 intro os
 induction os with
 |nil=>
  intro Bs h
  cases Bs with
  |nil=>exact True.intro
  |cons B Bs=>exact False.elim h
 |cons o os ih=>
  intro Bs h
  cases Bs with
  |nil=>exact False.elim h
  |cons B Bs=>exact ⟨(And.left h).same s,ih (And.right h)⟩
theorem Sdk.len {K:Si} {a:Ad} {H:Hp} {os:List S5}:∀{Bs:List Bsn},Sdk K a H os Bs->os.length=Bs.length:=by
 induction os with
 |nil=>
  intro Bs h
  cases Bs with
  |nil=>rfl
  |cons B Bs=>exact h.elim
 |cons o os ih=>
  intro Bs h
  cases Bs with
  |nil=>exact h.elim
  |cons B Bs=>rw [yaj,yaj,ih h.2]
theorem Sdy.len {a:Ad} {H:Hp} {os:List S5}:∀{Bs:List Twn},Sdy a H os Bs->os.length=Bs.length:=by
 induction os with
 |nil=>
  intro Bs h
  cases Bs with
  |nil=>rfl
  |cons B Bs=>exact h.elim
 |cons o os ih=>
  intro Bs h
  cases Bs with
  |nil=>exact h.elim
  |cons B Bs=>rw [yaj,yaj,ih h.2]
theorem Sdk.get {K:Si} {a:Ad} {H:Hp}:∀{os:List S5} {Bs:List Bsn} {i:Nat} {v:V},Sdk K a H os Bs->(os.map V.ref)[i]?=some v->∃o B,v= .ref o/\Bs[i]?=some B/\Sew K a H o B:=by
 intro os
 induction os with
 |nil=>intro Bs i v h e;simp at e
 |cons o os ih=>
  intro Bs i v h e
  cases Bs with
  |nil=>exact False.elim h
  |cons B Bs=>
   cases i with
   |zero=>exact ⟨o,B,by simpa using e.symm,rfl,And.left h⟩
   |succ i=>exact ih (Bs:=Bs) (i:=i) (And.right h) (by simpa using e)
theorem Sdy.get {a:Ad} {H:Hp}:∀{os:List S5} {Bs:List Twn} {i:Nat} {v:V},Sdy a H os Bs->(os.map V.ref)[i]?=some v->∃o B,v= .ref o/\Bs[i]?=some B/\Sfg a H o B:=by
 intro os
 induction os with
 |nil=>intro Bs i v h e;simp at e
 |cons o os ih=>
  intro Bs i v h e
  cases Bs with
  |nil=>exact False.elim h
  |cons B Bs=>
   cases i with
   |zero=>exact ⟨o,B,by simpa using e.symm,rfl,And.left h⟩
   |succ i=>exact ih (Bs:=Bs) (i:=i) (And.right h) (by simpa using e)
def Jzx (K:Si):Sp:=λvs H Q _=>∃(l:S5) (zs:List Str),vs= [.ref l]/\Sw K H l (zs.map V.str)/\zs.length<=2000/\∀H',Sn H H'->Q (.bl (decide ((uq zs).length=zs.length))) H'
def Jzo (K:Si) (a:Ad):Sp:=λvs H Q _=>∃(l:S5) (os:List S5) (Bs:List Bsn),vs= [.ref l]/\H l=some (.lst (os.map V.ref))/\Sdk K a H os Bs/\(1<=Bs.length/\Bs.length<=16)/\(Bs.map (·.z)).Nodup/\∀H',Sn H H'->Q (.bl true) H'
def Yaq (K:Si) (a:Ad):Sp:=λvs H Q _=>∃(l m:S5) (os ts:List S5) (Bs:List Bsn) (Ts:List Twn),vs= [.ref m,.ref l]/\H l=some (.lst (os.map V.ref))/\Sdk K a H os Bs/\Bs.length<=16/\H m=some (.lst (ts.map V.ref))/\Sdy a H ts Ts/\Ts.length<=3/\(Ts.map (·.z)).Nodup/\(∀t∈Ts,t.b∈Bs.map (·.z))/\∀H',Sn H H'->Q (.bl true) H'
section
variable {P:Sb} {w:Sd} {K:Si} {mg:Str->Option S6} {base:Sg} {a:Ad}
theorem Jqj:Jky ["self","thing"] ["self","thing"] (Jku (Jkx (top 3) 0)):=⟨rfl,rfl,rfl,by decide +kernel,rfl,by decide +kernel,by decide +kernel⟩
theorem Jnz (T:Tx K mg a):Sx P w K mg base CX0 1 a.Jfo a.Jfp ["self","thing"] (Joz K "thing"):=by
 refine T.Jc3.fn.ok Jqj (λvs H Q E h=>?_) (λcdv A outer s H vs Q E hr h=>?_)
 ·obtain ⟨e,C,W,fI,y,rfl,_⟩:=h
  rfl
 ·obtain ⟨e,C,W,fI,y,rfl,q,c,n,k⟩:=h
  refine ⟨_,(Jkr (Joa (pv 0) (pv 1) rfl)),?_⟩
  exact ⟨_,rfl,_,rfl,e,C,W,fI,true,rfl,q,c,n,k⟩
theorem Jw1:Jky ["thing","low","high"] ["thing","low","high"] (Jku (top 15)):=⟨rfl,rfl,rfl,by decide +kernel,rfl,by decide +kernel,by decide +kernel⟩
theorem Jni (T:Tx K mg a):Sx P w K mg base CX0 1 a.Jg2 a.Jg3 ["thing","low","high"] (Yar K):=by
 refine T.J0.fn.ok Jw1 (λvs H Q E h=>?_) (λcdv A outer s H vs Q E hr h=>?_)
 ·obtain ⟨x,lo,hi,rfl,_⟩:=h
  rfl
 ·obtain ⟨x,lo,hi,rfl,tm,k⟩:=h
  refine ⟨_,(Jkq (Jld (PW.pt (Jp1 (Jlh (Jl0 Jmi (by rfl) T.Jat Jl8 (So (pv 0) (So (Jmv (v:=.ty "bool") (by rfl) T.Jaq Jx5 rfl) Ss)))) (Jnn (Jlg (Jlh (Jl0 Jmi (by rfl) T.Jat Jl8 (So (pv 0) (So (Jmv (v:=.ty "int") (by rfl) T.Jas Jsa rfl) Ss)))))))) (Jkr (Jkz Jml)) Jl1)
   (Jkr (Jkz (Jvw Jp0 Jp0 (pv 1) (pv 0) (pv 2))))),?_⟩
  rcases tm with ⟨i,rfl⟩|⟨t,ty,ht⟩
  ·refine ⟨_,rfl,_,_,_,_,_,rfl,rfl,.of (.int i),(by rfl:Sj K (.type "int") (.type "bool")=some false),_,rfl,Jlp ⟨_,rfl,_,_,_,_,_,rfl,rfl,.of (.int i),(by rfl:Sj K (.type "int") (.type "int")=some true),_,rfl,Jlp ?_⟩⟩
   refine ⟨_,rfl,_,rfl,_,_,rfl,rfl,_,rfl,?_⟩
   have k':Q (.bl (decide (lo<=i)&&decide (i<=hi))) H:=k
   by_cases h1:lo<=i
   ·rw [decide_eq_true h1] at k'⊢
    exact Jn5 ⟨_,rfl,_,_,rfl,rfl,by simpa using k'⟩
   ·rw [decide_eq_false h1] at k'⊢
    exact Jlp (by simpa using k')
  ·rw [Yx ty ht] at k
   have e:=Skv (K:=K) ht
   cases eb:(t== .type "bool") with
   |true=>
    rw [eb] at e
    exact ⟨_,rfl,_,_,_,_,_,rfl,rfl,ty,e.2,_,rfl,Jn5 (Jn5 k)⟩
   |false=>
    rw [eb] at e
    exact ⟨_,rfl,_,_,_,_,_,rfl,rfl,ty,e.2,_,rfl,Jlp ⟨_,rfl,_,_,_,_,_,rfl,rfl,ty,e.1,_,rfl,Jn5 k⟩⟩
theorem Sbk:Jky ["thing","lowest","least","mark"] ["thing","lowest"] (Jku (top 24)):=⟨rfl,rfl,rfl,by decide +kernel,rfl,by decide +kernel,by decide +kernel⟩
theorem Jun (T:Tx K mg a):Sx P w K mg base CX0 2 a.Jgc a.Jgd ["thing","lowest"] (Sn4 K):=by
 have Sad:=Jni (P:=P) (w:=w) (base:=base) T
 refine T.Jc.fn.ok Sbk (λvs H Q E h=>?_) (λcdv A outer s H vs Q E hr h=>?_)
 ·obtain ⟨x,lo,b,rfl,_⟩:=h
  rfl
 ·obtain ⟨x,lo,b,rfl,sh,k⟩:=h
  refine ⟨_,(Jkq (Jld (Jlg (Jlh (Jl0 Jsb (by rfl) T.Jat Jl8 (So (pv 0) (So (Jsq (So (Jmv (v:=.ty "list") (by rfl) T.Jav Jua rfl) (So (Jmv (v:=.ty "tuple") (by rfl) T.Jb1 Jnh rfl) Ss))) Ss))))) (Jkr (Jkz Jml)) Jl1)
   (Jkq (Jld (Jlg (Jr6 Jp0 Jp0 Sz (Jl0 Jl2 (by rfl) T.Jau Jlu (So (pv 0) Ss)) (Jlc (by rfl) T.Jae (v:=.int 4) ⟨_,rfl⟩))) (Jkr (Jkz Jml)) Jl1)
   (Jkq (Jl4 (i:=2) Sbk.nd rfl (ye rfl) (pv 1))
   (Jkq (Jms PassesOwn.never rfl (Sk6 (pv 0)) (Jl3 (i:=3) Sbk.nd rfl (ye rfl)) (Jkq (Jld (Jlg (Jlh (Jkv T.J0 Sad hr (by decide) (So (pv 3) (So (pv 2) (So (Jlc (by rfl) T.Jaf (v:=.int 12) ⟨_,rfl⟩) Ss)))))) (Jkr (Jkz Jml)) Jl1)
    (Jkr (Jl4 (i:=2) Sbk.nd rfl (ye rfl) (Jl9 Jm3 (pv 3) Sz)))))
   (Jkr (Jkz Jml)))))),?_⟩
  cases sh with
  | @non t ty e=>
   refine ⟨_,rfl,(show 2<=Sa by decide),λp hp=>⟨_,p,_,_,t,_,rfl,Sy,rfl,ty.same (λb o _ q=>Sn.upd hp b o q) (λb fs q=>Sn.upd hp b _ q),e,_,rfl,Jn5 (k _ (Sn.upd hp))⟩⟩
  | @seq xs sq tms=>
   obtain ⟨t,ty,_,e⟩:=sq.ty (K:=K)
   refine ⟨_,rfl,(show 2<=Sa by decide),λp hp=>⟨_,p,_,_,t,_,rfl,Sy,rfl,ty.same (λb o _ q=>Sn.upd hp b o q) (λb fs q=>Sn.upd hp b _ q),e,_,rfl,Jlp ?_⟩⟩
   have s1:=Sn.upd (o:=.tup [.ty "list",.ty "tuple"]) hp
   have sq1:=sq.same s1
   obtain ⟨q,rfl⟩:∃q,x= .ref q:=by cases sq <;> exact ⟨_,rfl⟩
   have len:Sw K (upd H p (.tup [.ty "list",.ty "tuple"])) q xs\/SqT K (upd H p (.tup [.ty "list",.ty "tuple"])) q xs:=by
    cases sq1 with
    |lst e=>exact .inl (Sw.of e)
    |tup e=>exact .inr (SqT.of e)
   refine ⟨_,rfl,q,xs,rfl,len,_,_,rfl,rfl,_,rfl,?_⟩
   have no:Jn1 lo xs=false->∀H',Sn H H'->Q (.bl false) H':=λz H' s'=>by
    have:=k H' s'
    rw [z] at this
    exact this
   by_cases h1:(1:Int)<=(xs.length:Int)
   ·rw [decide_eq_true h1]
    refine Jn5 ⟨_,_,rfl,rfl,_,rfl,?_⟩
    by_cases h2:(xs.length:Int)<=4
    ·rw [decide_eq_true h2]
     refine Jlp ⟨_,rfl,?_⟩
     have lz:decide (1<=xs.length/\xs.length<=4)=true:=decide_eq_true (by omega)
     have ar:Jn1 lo xs=Jlz lo xs:=by unfold Jn1;rw [lz,Bool.true_and]
     refine ⟨_,rfl,q,rfl,Yp (xs:=xs) (λi σ H'=>∃(l:Int) (o:Option V),σ= [some (.ref q),some (.int lo),some (.int l),o]/\H'=upd H p (.tup [.ty "list",.ty "tuple"])/\Jlz lo xs=Jlz l (xs.drop i)) ⟨lo,_,rfl,rfl,rfl⟩ ?_ ?_ ?_⟩
     ·rcases len with z|z
      ·exact .inl λi σ H' _ ⟨_,_,_,e,_⟩=>by rw [e];exact z
      ·exact .inr λi σ H' _ ⟨_,_,_,e,_⟩=>by rw [e];exact z
     ·rintro i y σ H' hy ⟨l,o,rfl,rfl,em⟩
      have hd:xs.drop i=y::xs.drop (i+1):=by
       obtain ⟨hi,rfl⟩:=yw.mp hy
       exact List.drop_eq_getElem_cons hi
      refine ⟨_,rfl,_,rfl,y,l,12,rfl,(tms y (yo hy)).same s1,_,rfl,?_⟩
      cases z:Jlm y l 12 with
      |false=>
       refine Jn5 (no ?_ _ s1)
       rw [ar,em,hd,Jrs,z,Bool.false_and]
      |true=>
       rw [hd,Jrs,z,Bool.true_and] at em
       cases y with
       |int i'=>exact Jlp ⟨_,rfl,_,_,rfl,rfl,i'+1,_,rfl,rfl,em⟩
       |_=>cases z
     ·rintro σ H' ⟨l,o,rfl,rfl,em⟩
      have e:Jn1 lo xs=true:=by rw [ar,em,List.drop_of_length_le (yh _)];rfl
      have:=k _ s1
      rw [e] at this
      exact this
    ·rw [decide_eq_false h2]
     refine Jn5 (no ?_ _ s1)
     unfold Jn1
     rw [decide_eq_false (by omega:¬(1<=xs.length/\xs.length<=4)),Bool.false_and]
   ·rw [decide_eq_false h1]
    refine Jlp ⟨_,rfl,Jn5 (no ?_ _ s1)⟩
    unfold Jn1
    rw [decide_eq_false (by omega:¬(1<=xs.length/\xs.length<=4)),Bool.false_and]
theorem Jtj:Jky ["marks","lowest"] ["marks","lowest"] (Jku (top 25)):=⟨rfl,rfl,rfl,by decide +kernel,rfl,by decide +kernel,by decide +kernel⟩
theorem Job (T:Tx K mg a):Sx P w K mg base (CXX P w) 3 a.Jge a.Jgf ["marks","lowest"] (Skf K a):=by
 have Sf4:=Jun (P:=P) (w:=w) (base:=base) T
 have Sag:=Jnz (P:=P) (w:=w) (base:=base) T
 refine T.Jd.fn.okX Jtj (λvs H Q E h=>?_) (λcdv A outer s H vs Q E hr h=>?_)
 ·obtain ⟨x,lo,rfl,_⟩:=h
  rfl
 ·obtain ⟨x,lo,rfl,h⟩:=h
  refine ⟨_,(Jkq (Jld (Jlg (Jlh (Jkv T.Jc Sf4 hr (by decide) (So (pv 0) (So (pv 1) Ss))))) (Jkr (Jlv Jlw rfl (Jmm T.Jd0 Sag hr (by decide) T.Jc3.bd T.Jb4 (So (pv 0) Ss)))) Jl1)
   (Jkr (Jkz (Jln Jmt (by rfl) T.Jb1 Jnh (So (pv 0) Ss))))),?_⟩
  rcases h with ⟨xs,sq,tms,e,k⟩|⟨sh,k⟩
  ·have sh:=Shp.seq (lo:=lo) sq tms
   rw [e] at sh
   refine ⟨_,rfl,_,rfl,x,lo,true,rfl,sh,λH1 s1=>⟨_,rfl,Jlp ?_⟩⟩
   cases sq with
   |lst e=>exact ⟨_,rfl,_,xs,rfl,.inl ⟨Sw.of (s1 _ _ e),λl hl=>k l _ (s1.trans (Sn.upd hl)) Sy⟩⟩
   |tup e=>exact ⟨_,rfl,_,xs,rfl,.inr ⟨SqT.of (s1 _ _ e),k _ _ s1 (s1 _ _ e)⟩⟩
  ·exact ⟨_,rfl,_,rfl,x,lo,false,rfl,sh,λH1 s1=>⟨_,rfl,Jn5 (Jo4 T.Jd0 T.Jec rfl λe dx h1 h2 h3=>k _ _ _ ((Rf.new h1 h2 h3).of s1))⟩⟩
theorem Jpl:Jky ["self","marks"] ["self","marks"] (Jku (Jkx (top 28) 0)):=⟨rfl,rfl,rfl,by decide +kernel,rfl,by decide +kernel,by decide +kernel⟩
theorem Jok (T:Tx K mg a):Sx P w K mg base (CXX P w) 4 a.Jgk a.Jgl ["self","marks"] (Jv8 K a 0):=by
 have Sb5:=Job (P:=P) (w:=w) (base:=base) T
 refine T.Jcb.fn.okX Jpl (λvs H Q E h=>?_) (λcdv A outer s H vs Q E hr h=>?_)
 ·obtain ⟨p,C,dx,x,rfl,_⟩:=h
  rfl
 ·obtain ⟨p,C,dx,x,rfl,hp,c,n,h⟩:=h
  refine ⟨_,(Jkr (Jmb (pv 0) (Jo2 T.Jd Sb5 Jlw hr (by decide) (So (pv 1) (So Sz Ss))) rfl)),?_⟩
  rcases h with ⟨xs,sq,tms,e,k⟩|⟨sh,k⟩
  ·exact ⟨_,rfl,x,0,rfl,.inl ⟨xs,sq,tms,e,λt H' s' ht=>⟨_,rfl,p,C,dx,[],rfl,s' _ _ hp,c,n,by simp,k t H' s' ht⟩⟩⟩
  ·exact ⟨_,rfl,x,0,rfl,.inr ⟨sh,k⟩⟩
theorem Jpm:Jky ["self"] ["self"] (Jku (Jkx (top 28) 1)):=⟨rfl,rfl,rfl,by decide +kernel,rfl,by decide +kernel,by decide +kernel⟩
theorem Jpb (T:Tx K mg a):Sx P w K mg base CX0 1 a.Jgm a.Jgn ["self"] (Jzv a.Jka):=by
 refine T.Jcc.fn.ok Jpm (λvs H Q E h=>?_) (λcdv A outer s H vs Q E hr h=>?_)
 ·obtain ⟨p,xs,rfl,_⟩:=h
  rfl
 ·obtain ⟨p,xs,rfl,⟨dx,t,h1,h2⟩,k⟩:=h
  refine ⟨_,(Jkr (Jkz (Jl0 Jl2 (by rfl) T.Jau Jlu (So (Jl5 (pv 0) (by rfl)) Ss)))),?_⟩
  exact ⟨_,rfl,p,_,dx,_,_,rfl,h1,T.Jd7,T.Jef,rfl,t,xs,rfl,.inr (SqT.of h2),k⟩
theorem Jpf:Jky ["self","marks"] ["self","marks"] (Jku (Jkx (top 29) 0)):=⟨rfl,rfl,rfl,by decide +kernel,rfl,by decide +kernel,by decide +kernel⟩
theorem Joi (T:Tx K mg a):Sx P w K mg base (CXX P w) 4 a.Jgs a.Jgt ["self","marks"] (Jv8 K a 0):=by
 have Sb5:=Job (P:=P) (w:=w) (base:=base) T
 refine T.Jcf.fn.okX Jpf (λvs H Q E h=>?_) (λcdv A outer s H vs Q E hr h=>?_)
 ·obtain ⟨p,C,dx,x,rfl,_⟩:=h
  rfl
 ·obtain ⟨p,C,dx,x,rfl,hp,c,n,h⟩:=h
  refine ⟨_,(Jkr (Jmb (pv 0) (Jo2 T.Jd Sb5 Jlw hr (by decide) (So (pv 1) (So Sz Ss))) rfl)),?_⟩
  rcases h with ⟨xs,sq,tms,e,k⟩|⟨sh,k⟩
  ·exact ⟨_,rfl,x,0,rfl,.inl ⟨xs,sq,tms,e,λt H' s' ht=>⟨_,rfl,p,C,dx,[],rfl,s' _ _ hp,c,n,by simp,k t H' s' ht⟩⟩⟩
  ·exact ⟨_,rfl,x,0,rfl,.inr ⟨sh,k⟩⟩
theorem Jpg:Jky ["self"] ["self"] (Jku (Jkx (top 29) 1)):=⟨rfl,rfl,rfl,by decide +kernel,rfl,by decide +kernel,by decide +kernel⟩
theorem Jp8 (T:Tx K mg a):Sx P w K mg base CX0 1 a.Jgu a.Jgv ["self"] (Jzv a.Jkb):=by
 refine T.Jcg.fn.ok Jpg (λvs H Q E h=>?_) (λcdv A outer s H vs Q E hr h=>?_)
 ·obtain ⟨p,xs,rfl,_⟩:=h
  rfl
 ·obtain ⟨p,xs,rfl,⟨dx,t,h1,h2⟩,k⟩:=h
  refine ⟨_,(Jkr (Jkz (Jl0 Jl2 (by rfl) T.Jau Jlu (So (Jl5 (pv 0) (by rfl)) Ss)))),?_⟩
  exact ⟨_,rfl,p,_,dx,_,_,rfl,h1,T.Jde,T.Jeg,rfl,t,xs,rfl,.inr (SqT.of h2),k⟩
theorem Jpj:Jky ["self","marks"] ["self","marks"] (Jku (Jkx (top 30) 0)):=⟨rfl,rfl,rfl,by decide +kernel,rfl,by decide +kernel,by decide +kernel⟩
theorem Joj (T:Tx K mg a):Sx P w K mg base (CXX P w) 4 a.Jh0 a.Jh1 ["self","marks"] (Jv8 K a 1):=by
 have Sb5:=Job (P:=P) (w:=w) (base:=base) T
 refine T.Jcj.fn.okX Jpj (λvs H Q E h=>?_) (λcdv A outer s H vs Q E hr h=>?_)
 ·obtain ⟨p,C,dx,x,rfl,_⟩:=h
  rfl
 ·obtain ⟨p,C,dx,x,rfl,hp,c,n,h⟩:=h
  refine ⟨_,(Jkr (Jmb (pv 0) (Jo2 T.Jd Sb5 Jlw hr (by decide) (So (pv 1) (So Sz Ss))) rfl)),?_⟩
  rcases h with ⟨xs,sq,tms,e,k⟩|⟨sh,k⟩
  ·exact ⟨_,rfl,x,1,rfl,.inl ⟨xs,sq,tms,e,λt H' s' ht=>⟨_,rfl,p,C,dx,[],rfl,s' _ _ hp,c,n,by simp,k t H' s' ht⟩⟩⟩
  ·exact ⟨_,rfl,x,1,rfl,.inr ⟨sh,k⟩⟩
theorem Jpk:Jky ["self"] ["self"] (Jku (Jkx (top 30) 1)):=⟨rfl,rfl,rfl,by decide +kernel,rfl,by decide +kernel,by decide +kernel⟩
theorem Jpa (T:Tx K mg a):Sx P w K mg base CX0 1 a.Jh2 a.Jh3 ["self"] (Jzv a.Jkc):=by
 refine T.Jck.fn.ok Jpk (λvs H Q E h=>?_) (λcdv A outer s H vs Q E hr h=>?_)
 ·obtain ⟨p,xs,rfl,_⟩:=h
  rfl
 ·obtain ⟨p,xs,rfl,⟨dx,t,h1,h2⟩,k⟩:=h
  refine ⟨_,(Jkr (Jkz (Jl0 Jl2 (by rfl) T.Jau Jlu (So (Jl5 (pv 0) (by rfl)) Ss)))),?_⟩
  exact ⟨_,rfl,p,_,dx,_,_,rfl,h1,T.Jdl,T.Jeh,rfl,t,xs,rfl,.inr (SqT.of h2),k⟩
theorem Jtm {j:Nat} {σ:L2.St} {H:Hp} {x:V} {n:Nat} {Q:VK} (T:Tx K mg a) (g:GS K a H x n) (k:Q (.int n) H) (hj:1<=j):
  ∃g' C dx fs f fd ps sp k',x= .ref g'/\H g'=some (.ins C dx fs)/\fs.lookup ("settings" :Str)=none/\Cls K C/\Jn0 K C "settings" f/\Sx P w K mg base CX0 k' f fd ps sp/\k'<=j/\Sb1 K fd ps []/\Jva σ H λvs H2=>sp (x::vs) H2 Q E0:=by
 cases g with
 | @plain g C xs i ga l=>
  obtain ⟨dx,t,h1,h2⟩:=ga
  rcases i with rfl|rfl|rfl
  ·exact ⟨g,_,dx,_,_,_,_,_,_,rfl,h1,rfl,T.Jd7,T.Jdb,Jpb T,hj,T.Jcc.bd,g,xs,rfl,⟨dx,t,h1,h2⟩,k⟩
  ·exact ⟨g,_,dx,_,_,_,_,_,_,rfl,h1,rfl,T.Jde,T.Jdi,Jp8 T,hj,T.Jcg.bd,g,xs,rfl,⟨dx,t,h1,h2⟩,k⟩
  ·exact ⟨g,_,dx,_,_,_,_,_,_,rfl,h1,rfl,T.Jdl,T.Jdp,Jpa T,hj,T.Jck.bd,g,xs,rfl,⟨dx,t,h1,h2⟩,k⟩
theorem Jw2:Jky ["_law_script","_law_k"] ["_law_script","_law_k"] (Jku (top 62)):=⟨rfl,rfl,rfl,by decide +kernel,rfl,by decide +kernel,by decide +kernel⟩
theorem Jvr (T:Tx K mg a):Sx P w K mg base CX0 1 a.Jiu a.Jiv ["_law_script","_law_k"] (Skc K):=by
 refine T.Jw.fn.ok Jw2 (λvs H Q E h=>?_) (λcdv A outer s H vs Q E hr h=>?_)
 ·obtain ⟨x,ns,i,rfl,_⟩:=h
  rfl
 ·obtain ⟨x,ns,i,rfl,hS,k⟩:=h
  refine ⟨_,(Jkq (Jld (Jle Ju2 (pv 1) (Jl0 Jl2 (by rfl) T.Jau Jlu (So (pv 0) Ss)) (Jla _)) (Jkr (Jkz (Jlf Jl6 (pv 0) (pv 1) (λ_ _=>rfl)))) Jl1)
   (Jkr (Jkz (Jl9 Jm3 (Jl9 Jqg Sz (pv 1)) Sz)))),?_⟩
  refine ⟨_,rfl,_,rfl,x,_,rfl,.inl hS,_,_,rfl,rfl,_,rfl,Jsg (λq=>?_) (λq=>?_)⟩
  ·have hi:i < ns.length:=by
    have q':=of_decide_eq_true q
    rw [yf] at q'
    omega
   exact ⟨_,rfl,_,rfl,x,_,_,_,rfl,rfl,hS,Jxc hi,k _⟩
  ·exact ⟨_,rfl,_,_,rfl,rfl,.inl ⟨by decide,by decide⟩,_,_,rfl,rfl,k _⟩
theorem Jtk:Jky ["_law_cell_here"] ["_law_cell_here"] (Jku (top 63)):=⟨rfl,rfl,rfl,by decide +kernel,rfl,by decide +kernel,by decide +kernel⟩
theorem Jt8 (T:Tx K mg a):Sx P w K mg base CX0 1 a.Jiw a.Jix ["_law_cell_here"] Jzw:=by
 refine T.Jx.fn.ok Jtk (λvs H Q E h=>?_) (λcdv A outer s H vs Q E hr h=>?_)
 ·obtain ⟨c,rfl,_⟩:=h
  rfl
 ·obtain ⟨c,rfl,k⟩:=h
  refine ⟨_,(Jkr (Jkz (Jli (So (Jl0 (Jpn rfl) (by rfl) T.Jaw Jub (So Sz (So (Jl9 Jo1 (pv 0) (Jl9 Sk4 Sz Sz)) Ss))) (So (Jl9 Jpd (pv 0) Sz) (So Sz Ss)))))),?_⟩
  refine ⟨_,rfl,_,_,rfl,rfl,⟨by decide,by decide,by decide⟩,_,_,rfl,rfl,_,_,rfl,_,rfl,_,_,rfl,rfl,(by show (0:Int) < 2147483647;decide),Jlo _ (by show 3<=2000;decide),λp hp=>?_⟩
  exact k p _ hp (Sn.upd hp) ⟨_,_,_,Sy⟩
theorem Sc0:Jky ["_law_stream_here","_law_many","_law_digit","_law_number"] ["_law_stream_here","_law_many"] (Jku (top 64)):=⟨rfl,rfl,rfl,by decide +kernel,rfl,by decide +kernel,by decide +kernel⟩
theorem Jo9 (T:Tx K mg a):Sx P w K mg base CX0 1 a.Jiy a.Jiz ["_law_stream_here","_law_many"] Sko:=by
 refine T.Jy.fn.ok Sc0 (λvs H Q E h=>?_) (λcdv A outer s H vs Q E hr h=>?_)
 ·obtain ⟨p,m,rfl,_⟩:=h
  rfl
 ·obtain ⟨p,m,rfl,⟨a0,b0,c0,hp⟩,hm,hl,k⟩:=h
  refine ⟨_,(Jkq (Jzi (Jl9 Jm3 (Jlf Jl6 (pv 0) Sz (λ_ _=>rfl)) Sz) (Jzg (pv 0) Sz Jw6))
   (Jkq (Jld (Jle Jzb (Jlf Jl6 (pv 0) Sz (λ_ _=>rfl)) Sz (Jla _)) (Jkq (Jl4 (i:=2) Sc0.nd rfl (ye rfl) (Jl9 Jpd (Jlf Jl6 (pv 0) Sz (λ_ _=>rfl)) (pv 1)))
    (Jkq (Jzi (Jl9 Jr4 (Jlf Jl6 (pv 0) Sz (λ_ _=>rfl)) (pv 1)) (Jzg (pv 0) Sz Jw6))
    (Jkr (Jkz (pv 2))))) Jl1)
   (Jkq (Jl4 (i:=3) Sc0.nd rfl (ye rfl) (Jl9 Jpd (Jl9 Jqg (Jl9 Jm3 (Jlf Jl6 (pv 0) Sz (λ_ _=>rfl)) (Jl9 Jqg Sz (Jlf Jl6 (pv 0) Sz (λ_ _=>rfl)))) Sz) Sz))
   (Jkq (Jl4 (i:=3) Sc0.nd rfl (ye rfl) (Jl9 Jpd (Jl9 Jqg (pv 3) (pv 3)) Sz))
   (Jkr (Jkz (Jl9 Jpd (Jl9 Jr4 (Jl9 Jpd (Jl9 Jm3 (Jl9 Jqg (pv 3) (Jl9 Jm3 (pv 3) Sz)) (Jl9 Jqg Sz (Jlf Jl6 (pv 0) Sz (λ_ _=>rfl)))) Sz) Sz) (pv 1)))))))),?_⟩
  refine ⟨_,rfl,p,_,_,_,rfl,rfl,Sw.of hp,rfl,_,_,rfl,rfl,_,rfl,p,_,_,_,rfl,rfl,hp,rfl,?_⟩
  refine ⟨_,rfl,p,_,_,_,rfl,rfl,Sw.of Sy,rfl,_,_,rfl,rfl,_,rfl,Jsg (λ_=>?_) (λ_=>?_)⟩
  ·refine ⟨_,rfl,p,_,_,_,rfl,rfl,Sw.of Sy,rfl,_,rfl,_,_,rfl,rfl,hm,?_⟩
   refine ⟨_,rfl,p,_,_,_,rfl,rfl,Sw.of Sy,rfl,_,rfl,_,_,rfl,rfl,⟨hm,hl⟩,_,rfl,p,_,_,_,rfl,rfl,Sy,rfl,?_⟩
   refine ⟨_,rfl,k _ _ (Int.emod_nonneg _ (by omega)) (ybr _ hm) ⟨λb o ne e=>?_,_,_,_,Sy⟩⟩
   rw [Jkt ne,Jkt ne]
   exact e
  ·refine ⟨_,rfl,p,_,_,_,rfl,rfl,Sw.of Sy,rfl,_,rfl,p,_,_,_,rfl,rfl,Sw.of Sy,rfl,_,_,rfl,rfl,.inl ⟨by decide,by decide⟩,_,_,rfl,rfl,_,_,rfl,rfl,.inr ⟨by decide,by decide⟩,_,_,rfl,rfl,(by show (0:Int) < 2147483629;decide),?_⟩
   have n1:∀x:Int,-(2^64) < x%2147483629/\x%2147483629 < 2^64:=λx=>by
    have h1:=Int.emod_nonneg x (show (2147483629:Int)≠0 by decide)
    have h2:=ybr x (show (0:Int) < 2147483629 by decide)
    constructor <;> omega
   have n2:∀x:Int,-(2^64) < x%2147483587/\x%2147483587 < 2^64:=λx=>by
    have h1:=Int.emod_nonneg x (show (2147483587:Int)≠0 by decide)
    have h2:=ybr x (show (0:Int) < 2147483587 by decide)
    constructor <;> omega
   refine ⟨_,rfl,_,rfl,_,_,rfl,rfl,.inl (n1 _),_,_,rfl,rfl,(by show (0:Int) < 2147483587;decide),?_⟩
   refine ⟨_,rfl,_,rfl,_,_,rfl,rfl,_,_,rfl,rfl,.inl (n2 _),_,rfl,p,_,_,_,rfl,rfl,Sw.of Sy,rfl,_,_,rfl,rfl,.inl ⟨by decide,by decide⟩,_,_,rfl,rfl,_,_,rfl,rfl,(by show (0:Int) < 2147483647;decide),_,_,rfl,rfl,⟨by decide,by decide⟩,_,rfl,_,_,rfl,rfl,hm,?_⟩
   refine k _ _ (Int.emod_nonneg _ (by omega)) (ybr _ hm) ⟨λb o ne e=>?_,_,_,_,Sy⟩
   rw [Jkt ne]
   exact e
theorem Jqk:Jky ["self","thing"] ["self","thing"] (Jku (Jkx (top 2) 0)):=⟨rfl,rfl,rfl,by decide +kernel,rfl,by decide +kernel,by decide +kernel⟩
theorem Jp9 (T:Tx K mg a):Sx P w K mg base CX0 1 a.Jfm a.Jfn ["self","thing"] (Joz K "thing"):=by
 refine T.Jc2.fn.ok Jqk (λvs H Q E h=>?_) (λcdv A outer s H vs Q E hr h=>?_)
 ·obtain ⟨e,C,W,fI,y,rfl,_⟩:=h
  rfl
 ·obtain ⟨e,C,W,fI,y,rfl,q,c,n,k⟩:=h
  refine ⟨_,(Jkr (Joa (pv 0) (pv 1) rfl)),?_⟩
  exact ⟨_,rfl,_,rfl,e,C,W,fI,true,rfl,q,c,n,k⟩
theorem Jpu:Jky ["self","thing"] ["self","thing"] (Jku (Jkx (top 4) 0)):=⟨rfl,rfl,rfl,by decide +kernel,rfl,by decide +kernel,by decide +kernel⟩
theorem Jrz (T:Tx K mg a):Sx P w K mg base CX0 1 a.Jfq a.Jfr ["self","thing"] (Joz K "thing"):=by
 refine T.Jc4.fn.ok Jpu (λvs H Q E h=>?_) (λcdv A outer s H vs Q E hr h=>?_)
 ·obtain ⟨e,C,W,fI,y,rfl,_⟩:=h
  rfl
 ·obtain ⟨e,C,W,fI,y,rfl,q,c,n,k⟩:=h
  refine ⟨_,(Jkr (Joa (pv 0) (pv 1) rfl)),?_⟩
  exact ⟨_,rfl,_,rfl,e,C,W,fI,true,rfl,q,c,n,k⟩
theorem Jqm:Jky ["self","thing"] ["self","thing"] (Jku (Jkx (top 5) 0)):=⟨rfl,rfl,rfl,by decide +kernel,rfl,by decide +kernel,by decide +kernel⟩
theorem Jsl (T:Tx K mg a):Sx P w K mg base CX0 1 a.Jfs a.Jft ["self","thing"] (Joz K "thing"):=by
 refine T.Jc5.fn.ok Jqm (λvs H Q E h=>?_) (λcdv A outer s H vs Q E hr h=>?_)
 ·obtain ⟨e,C,W,fI,y,rfl,_⟩:=h
  rfl
 ·obtain ⟨e,C,W,fI,y,rfl,q,c,n,k⟩:=h
  refine ⟨_,(Jkr (Joa (pv 0) (pv 1) rfl)),?_⟩
  exact ⟨_,rfl,_,rfl,e,C,W,fI,true,rfl,q,c,n,k⟩
theorem Jti:Jky ["text","signs"] ["text","signs"] (Jku (top 16)):=⟨rfl,rfl,rfl,by decide +kernel,rfl,by decide +kernel,by decide +kernel⟩
theorem Jq4 (T:Tx K mg a):Sx P w K mg base CX0 1 a.Jg4 a.Jg5 ["text","signs"] Skh:=by
 refine T.J8.fn.ok Jti (λvs H Q E h=>?_) (λcdv A outer s H vs Q E hr h=>?_)
 ·obtain ⟨z,g,rfl,_⟩:=h
  rfl
 ·obtain ⟨z,g,rfl,hz,k⟩:=h
  refine ⟨_,(Jkr (Jkz (Jl0 (Jqv rfl) (by rfl) T.Jap Ju9 (So (Jmh (N:=(["sign","signs"]:List Str)) (ini:=[none,some 1]) rfl (Sk7 (pv 0)) (λ_ _ _ _ _=>(Jl3 (i:=0) (by decide +kernel:(["sign","signs"]:List Str).Nodup) rfl (ye rfl))) (λ_ _ _ _ _=>Jm6) (λ_ _ _ _ _=>(Jm5 Jy4 (pv 0) (pv 1) (by with_unfolding_all rfl)))) Ss)))),?_⟩
  refine ⟨_,rfl,z,rfl,λD hD=>?_⟩
  refine Jyp (z:=z) (D:=D) (λi σ H'=>∃o,σ= [o,some (.str g)]/\H'=upd H D (.lst ((z.cps.toList.take i).map λc=>V.bl (decide (c∈g.cps.toList))))) ?_ ?_ ?_
  ·exact ⟨none,rfl,rfl⟩
  ·rintro i c σ H' hc ⟨o,rfl,rfl⟩
   refine Jmo ⟨_,rfl,_,rfl,⟨#[c]⟩,g,rfl,rfl,_,Sy,?_,_,rfl,?_⟩
   ·rw [yf,yx,Jou]
    exact Jls (by omega)
   ·rw [Jnu,StrLaws.found_one]
    have e:z.cps.toList[i]?=some c:=by simpa using hc
    rw [yam,e]
    simp
  ·rintro σ H' ⟨o,rfl,rfl⟩
   have e:z.cps.toList.take z.cps.size=z.cps.toList:=yab (by simp)
   refine ⟨D,z.cps.toList.map λc=>decide (c∈g.cps.toList),rfl,Sw.of (by rw [Sy,e,List.map_map];rfl),?_⟩
   have e2:(z.cps.toList.map λc=>decide (c∈g.cps.toList)).all id=Jqr g z:=by
    unfold Jqr
    rw [List.all_map]
    rfl
   rw [e2]
   exact k _ (Sn.upd hD)
theorem Yy {H:Hp} {x:V} (h:Tm K H x) (n:∀z,x≠ .str z):∃t,TyX K H x t/\Sj K t (.type "str")=some false:=by
 rcases h with ⟨i,rfl⟩|⟨t,ty,ht⟩
 ·exact ⟨_,.of (.int i),rfl⟩
 ·refine ⟨t,ty,?_⟩
  unfold tpB at ht
  simp only [List.contains_cons,List.contains_nil,Bool.or_false,Bool.or_eq_true,beq_iff_eq] at ht
  rcases ht with rfl|rfl|rfl|rfl|rfl|rfl
  ·rfl
  ·obtain ⟨z,e⟩:=Sky ty rfl
   exact absurd e (n z)
  ·rfl
  ·rfl
  ·rfl
  ·rfl
theorem Jwv:Jky ["thing"] ["thing"] (Jku (top 17)):=⟨rfl,rfl,rfl,by decide +kernel,rfl,by decide +kernel,by decide +kernel⟩
theorem Jqb (T:Tx K mg a):Sx P w K mg base CX0 2 a.Jg6 a.Jg7 ["thing"] (Ski K):=by
 have Sc9:=Jq4 (P:=P) (w:=w) (base:=base) T
 refine T.J9.fn.ok Jwv (λvs H Q E h=>?_) (λcdv A outer s H vs Q E hr h=>?_)
 ·obtain ⟨x,rfl,_⟩:=h
  rfl
 ·obtain ⟨x,rfl,nm,k⟩:=h
  refine ⟨_,(Jkq (Jld (Jlg (Jlh (Jl0 Jmi (by rfl) T.Jat Jl8 (So (pv 0) (So (Jmv (v:=.ty "str") (by rfl) T.Jb0 Joo rfl) Ss))))) (Jkr (Jkz Jml)) Jl1)
   (Jkr (Jkz (Juy (Jvw Jp0 Jp0 Sz (Jl0 Jqx (by rfl) T.Jau Jlu (So (pv 0) Ss)) (Jlc (by rfl) T.Jac (v:=.int 8) ⟨_,rfl⟩)) (Jsp (Jkv T.J8 Sc9 hr (by decide) (So (pv 0) (So (Jlc (by rfl) T.Jaa (v:=.str "abcdefghijklmnopqrstuvwxyz") ⟨_,rfl⟩) Ss)))))))),?_⟩
  by_cases hx:∃z,x= .str z
  ·obtain ⟨z,rfl⟩:=hx
   have k:∀H',Sn H H'->Q (.bl (Jno z)) H':=k
   have hz:z.length<=2000:=by have:=(nm.2 z rfl).len;omega
   refine ⟨_,rfl,_,_,_,_,_,rfl,rfl,.of (.str z),(by rfl:Sj K (.type "str") (.type "str")=some true),_,rfl,Jlp ?_⟩
   refine ⟨_,rfl,z,rfl,Jlo _ hz,_,_,rfl,rfl,_,rfl,?_⟩
   have no:¬(1<=z.length/\z.length<=8)->Q (.bl false) H:=λq=>by
    have k':=k H (Sn.refl H)
    unfold Jno at k'
    rw [decide_eq_false q,Bool.false_and] at k'
    exact k'
   by_cases h1:(1:Int)<=(z.length:Int)
   ·rw [decide_eq_true h1]
    refine Jn5 ⟨_,_,rfl,rfl,_,rfl,?_⟩
    by_cases h2:(z.length:Int)<=8
    ·rw [decide_eq_true h2]
     refine Jn5 ⟨_,rfl,z,_,rfl,hz,λH' s'=>?_⟩
     have e:Jno z=Jqr LET z:=by
      unfold Jno
      rw [decide_eq_true (by omega:1<=z.length/\z.length<=8),Bool.true_and]
     have k':=k H' s'
     rw [e] at k'
     exact k'
    ·rw [decide_eq_false h2]
     exact Jlp (no (by omega))
   ·rw [decide_eq_false h1]
    exact Jlp ⟨_,rfl,Jlp (no (by omega))⟩
  ·obtain ⟨t,ty,e1⟩:=Yy nm.1 λz e=>hx ⟨z,e⟩
   have k':=k H (Sn.refl H)
   have e:Jnp x=false:=by
    cases x with
    |str z=>exact absurd ⟨z,rfl⟩ hx
    |_=>rfl
   rw [e] at k'
   exact ⟨_,rfl,_,_,_,_,_,rfl,rfl,ty,e1,_,rfl,Jn5 k'⟩
theorem Jqq:Jky ["thing","low","high"] ["thing","low","high"] (Jku (top 38)):=⟨rfl,rfl,rfl,by decide +kernel,rfl,by decide +kernel,by decide +kernel⟩
theorem Jqe (T:Tx K mg a):Sx P w K mg base (CXX P w) 3 a.Jh8 a.Jh9 ["thing","low","high"] (Jyb K a):=by
 have Sad:=Jni (P:=P) (w:=w) (base:=base) T
 have Scx:=Jrz (P:=P) (w:=w) (base:=base) T
 refine T.Jf.fn.okX Jqq (λvs H Q E h=>?_) (λcdv A outer s H vs Q E hr h=>?_)
 ·obtain ⟨x,lo,hi,rfl,_⟩:=h
  rfl
 ·obtain ⟨x,lo,hi,rfl,tm,h⟩:=h
  refine ⟨_,(Jkr (Jld (Jlg (Jlh (Jkv T.J0 Sad hr (by decide) (So (pv 0) (So (pv 1) (So (pv 2) Ss)))))) (Jkr (Jlv Jlw rfl (Jmm T.Jd1 Scx hr (by decide) T.Jc4.bd T.Jb5 (So (pv 0) Ss)))) Jl1)),?_⟩
  refine ⟨_,rfl,_,rfl,_,rfl,x,lo,hi,rfl,tm,_,rfl,?_⟩
  rcases h with ⟨e,k⟩|⟨e,k⟩
  ·rw [e]
   exact Jlp k
  ·rw [e]
   exact Jn5 (Jo4 T.Jd1 T.Jed rfl λe dx h1 h2 h3=>k _ _ _ (RfC.new h1 h2 h3))
theorem Jm9 {f:Str} {v:V}:∀{fs:List (Str×V)},(fs.map (·.1)).contains f=false->Jm8 f v fs=fs++ [(f,v)]
 | [],_=>rfl
 | (g,x) :: r,h=>by
  rw [yas,List.contains_cons,Bool.or_eq_false_iff] at h
  have ne:¬g=f:=λe=>by
   have:=h.1
   rw [e] at this
   simp at this
  show (if g=f then (g,v)::r else (g,x)::Jm8 f v r)=_
  rw [if_neg ne,Jm9 h.2]
  rfl
theorem Jr7:Jky ["self","name","low","high","start","rain","gate"] ["self","name","low","high","start","rain","gate"] (Jku (Jkx (top 39) 0)):=⟨rfl,rfl,rfl,by decide +kernel,rfl,by decide +kernel,by decide +kernel⟩
theorem Jq1 (T:Tx K mg a):Sx P w K mg base (CXX P w) 4 a.Jha a.Jhb ["self","name","low","high","start","rain","gate"] (Jxk K a):=by
 have Sbl:=Jqb (P:=P) (w:=w) (base:=base) T
 have Sau:=Jqe (P:=P) (w:=w) (base:=base) T
 have Sat:=Jp9 (P:=P) (w:=w) (base:=base) T
 have Sag:=Jnz (P:=P) (w:=w) (base:=base) T
 refine T.Jcn.fn.okX Jr7 (λvs H Q E h=>?_) (λcdv A outer s H vs Q E hr h=>?_)
 ·obtain ⟨p,dx,n,lo,hi,st,rn,g,gb,d,rfl,_⟩:=h
  rfl
 ·obtain ⟨p,dx,n,lo,hi,st,rn,g,gb,d,rfl,hp,nm,tlo,thi,tst,trn,gt,du,k⟩:=h
  refine ⟨?t,?B,?C⟩
  case B=>
   refine' Jkq (Jld (Jlg (Jlh (Jkv T.J9 Sbl hr (by decide) (So (pv 1) Ss)))) (Jkr (Jlv Jlw rfl (Jmm T.Jcz Sat hr (by decide) T.Jc2.bd T.Jb3 (So (pv 1) Ss)))) Jl1) ?_
   rotate_left
   refine' Jkq (Jlr (Jo2 T.Jf Sau Jlw hr (by decide) (So (pv 2) (So Sz (So (Jlc (by rfl) T.Jah (v:=.int 12) ⟨_,rfl⟩) Ss))))) ?_
   rotate_left
   refine' Jkq (Jlr (Jo2 T.Jf Sau Jlw hr (by decide) (So (pv 3) (So (pv 2) (So (Jlc (by rfl) T.Jah (v:=.int 12) ⟨_,rfl⟩) Ss))))) ?_
   rotate_left
   refine' Jkq (Jlr (Jo2 T.Jf Sau Jlw hr (by decide) (So (pv 4) (So (pv 2) (So (pv 3) Ss))))) ?_
   rotate_left
   refine' Jkq (Jlr (Jo2 T.Jf Sau Jlw hr (by decide) (So (pv 5) (So Sz (So (Jlc (by rfl) T.Jai (v:=.int 6) ⟨_,rfl⟩) Ss))))) ?_
   rotate_left
   refine' Jkq (Jld (Jlg (Jlh (Jl0 Jmi (by rfl) T.Jat Jl8 (So (pv 6) (So (Jlc (by rfl) T.Jbb (v:=.ref _) rfl) Ss))))) (Jkr (Jlv Jlw rfl (Jmm T.Jd0 Sag hr (by decide) T.Jc3.bd T.Jb4 (So (pv 6) Ss)))) Jl1) ?_
   rotate_left
   refine' Jkq (Jmb (pv 0) (pv 1) rfl) ?_
   rotate_left
   refine' Jkq (Jmb (pv 0) (pv 2) rfl) ?_
   rotate_left
   refine' Jkq (Jmb (pv 0) (pv 3) rfl) ?_
   rotate_left
   refine' Jkq (Jmb (pv 0) (pv 4) rfl) ?_
   rotate_left
   refine' Jkq (Jmb (pv 0) (pv 5) rfl) ?_
   rotate_left
   exact (Jkr (Jmb (pv 0) (pv 6) rfl))
  refine ⟨_,rfl,n,rfl,nm,λH1 s1=>⟨_,rfl,?_⟩⟩
  cases du with
  |name e=>
   rw [e]
   exact Jn5 (Jo4 T.Jcz T.Jeb rfl λe dx h1 h2 h3=>k _ _ _ ((RfC.new h1 h2 h3).of s1))
  |low e1 e2=>
   rw [e1]
   exact Jlp ⟨_,rfl,lo,0,12,rfl,tlo.same s1,.inr ⟨e2,λc eo H' rf=>k c eo H' (rf.of s1)⟩⟩
  |high l e1 e2 e3 e4=>
   subst e2
   rw [e1]
   refine Jlp ⟨_,rfl,_,0,12,rfl,tlo.same s1,.inl ⟨e3,?_⟩⟩
   exact ⟨_,rfl,_,rfl,hi,l,12,rfl,thi.same s1,.inr ⟨e4,λc eo H' rf=>k c eo H' (rf.of s1)⟩⟩
  |start l h e1 e2 e3 e4 e5 e6=>
   subst e2 e3
   rw [e1]
   refine Jlp ⟨_,rfl,_,0,12,rfl,tlo.same s1,.inl ⟨e4,?_⟩⟩
   refine ⟨_,rfl,_,rfl,_,l,12,rfl,thi.same s1,.inl ⟨e5,?_⟩⟩
   exact ⟨_,rfl,_,rfl,_,rfl,st,l,h,rfl,tst.same s1,.inr ⟨e6,λc eo H' rf=>k c eo H' (rf.of s1)⟩⟩
  |rain l h e1 e2 e3 e4 e5 e6 e7=>
   subst e2 e3
   rw [e1]
   refine Jlp ⟨_,rfl,_,0,12,rfl,tlo.same s1,.inl ⟨e4,?_⟩⟩
   refine ⟨_,rfl,_,rfl,_,l,12,rfl,thi.same s1,.inl ⟨e5,?_⟩⟩
   refine ⟨_,rfl,_,rfl,_,rfl,st,l,h,rfl,tst.same s1,.inl ⟨e6,?_⟩⟩
   exact ⟨_,rfl,rn,0,6,rfl,trn.same s1,.inr ⟨e7,λc eo H' rf=>k c eo H' (rf.of s1)⟩⟩
  |gate l h e1 e2 e3 e4 e5 e6 e7 e8=>
   subst e2 e3 e8
   obtain ⟨t,ty,g1,g2,g3⟩:=gt
   rw [e1]
   refine Jlp ⟨_,rfl,_,0,12,rfl,tlo.same s1,.inl ⟨e4,?_⟩⟩
   refine ⟨_,rfl,_,rfl,_,l,12,rfl,thi.same s1,.inl ⟨e5,?_⟩⟩
   refine ⟨_,rfl,_,rfl,_,rfl,st,l,h,rfl,tst.same s1,.inl ⟨e6,?_⟩⟩
   refine ⟨_,rfl,rn,0,6,rfl,trn.same s1,.inl ⟨e7,?_⟩⟩
   exact ⟨_,rfl,g,_,_,t,_,rfl,rfl,Jvd s1 ty,g1,_,rfl,Jn5 (Jo4 T.Jd0 T.Jec rfl λe dx h1 h2 h3=>k _ _ _ ((RfC.new h1 h2 h3).of s1))⟩
  |good l h e1 e2 e3 e4 e5 e6 e7 e8=>
   subst e2 e3 e8
   obtain ⟨t,ty,g1,g2,g3⟩:=gt
   rw [e1]
   refine Jlp ⟨_,rfl,_,0,12,rfl,tlo.same s1,.inl ⟨e4,?_⟩⟩
   refine ⟨_,rfl,_,rfl,_,l,12,rfl,thi.same s1,.inl ⟨e5,?_⟩⟩
   refine ⟨_,rfl,_,rfl,_,rfl,st,l,h,rfl,tst.same s1,.inl ⟨e6,?_⟩⟩
   refine ⟨_,rfl,rn,0,6,rfl,trn.same s1,.inl ⟨e7,?_⟩⟩
   refine ⟨_,rfl,g,_,_,t,_,rfl,rfl,Jvd s1 ty,g1,_,rfl,Jlp ?_⟩
   refine ⟨_,rfl,_,rfl,p,_,dx,[],rfl,s1 _ _ hp,T.Jds,T.Jei,by simp,?_⟩
   rw [show Jm8 "name" n []=([("name",n)]:List (Str×V)) from rfl]
   refine ⟨_,rfl,_,rfl,p,_,dx,_,rfl,Sy,T.Jds,T.Jej,by simp,?_⟩
   rw [show Jm8 "low" (.int l) [("name",n)]=([("name",n),("low",(.int l))]:List (Str×V)) from Jm9 (fs:=[("name",n)]) (show (["name"]:List Str).contains "low" =false by decide +kernel)]
   refine ⟨_,rfl,_,rfl,p,_,dx,_,rfl,Sy,T.Jds,T.Jek,by simp,?_⟩
   rw [show Jm8 "high" (.int h) [("name",n),("low",.int l)]=([("name",n),("low",.int l),("high",(.int h))]:List (Str×V)) from Jm9 (fs:=[("name",n),("low",.int l)]) (show (["name","low"]:List Str).contains "high" =false by decide +kernel)]
   refine ⟨_,rfl,_,rfl,p,_,dx,_,rfl,Sy,T.Jds,T.Jel,by simp,?_⟩
   rw [show Jm8 "start" st [("name",n),("low",.int l),("high",.int h)]=([("name",n),("low",.int l),("high",.int h),("start",st)]:List (Str×V)) from Jm9 (fs:=[("name",n),("low",.int l),("high",.int h)]) (show (["name","low","high"]:List Str).contains "start" =false by decide +kernel)]
   refine ⟨_,rfl,_,rfl,p,_,dx,_,rfl,Sy,T.Jds,T.Jem,by simp,?_⟩
   rw [show Jm8 "rain" rn [("name",n),("low",.int l),("high",.int h),("start",st)]=([("name",n),("low",.int l),("high",.int h),("start",st),("rain",rn)]:List (Str×V)) from Jm9 (fs:=[("name",n),("low",.int l),("high",.int h),("start",st)]) (show (["name","low","high","start"]:List Str).contains "rain" =false by decide +kernel)]
   refine ⟨_,rfl,_,rfl,p,_,dx,_,rfl,Sy,T.Jds,T.Jen,by simp,?_⟩
   rw [show Jm8 "gate" g [("name",n),("low",.int l),("high",.int h),("start",st),("rain",rn)]=([("name",n),("low",.int l),("high",.int h),("start",st),("rain",rn),("gate",g)]:List (Str×V)) from Jm9 (fs:=[("name",n),("low",.int l),("high",.int h),("start",st),("rain",rn)]) (show (["name","low","high","start","rain"]:List Str).contains "gate" =false by decide +kernel)]
   show Q .non _
   simp only [Jnu]
   exact k _ s1
theorem Jrr:Jky ["self","name","basin","want"] ["self","name","basin","want"] (Jku (Jkx (top 40) 0)):=⟨rfl,rfl,rfl,by decide +kernel,rfl,by decide +kernel,by decide +kernel⟩
theorem Jr3 (T:Tx K mg a):Sx P w K mg base (CXX P w) 4 a.Jhc a.Jhd ["self","name","basin","want"] (Skp K a):=by
 have Sbl:=Jqb (P:=P) (w:=w) (base:=base) T
 have Sad:=Jni (P:=P) (w:=w) (base:=base) T
 have Sat:=Jp9 (P:=P) (w:=w) (base:=base) T
 have Sd1:=Jsl (P:=P) (w:=w) (base:=base) T
 refine T.Jco.fn.okX Jrr (λvs H Q E h=>?_) (λcdv A outer s H vs Q E hr h=>?_)
 ·obtain ⟨p,dx,n,b,wt,d,rfl,_⟩:=h
  rfl
 ·obtain ⟨p,dx,n,b,wt,d,rfl,hp,nm,nb,tw,du,k⟩:=h
  refine ⟨?t,?B,?C⟩
  case B=>
   refine' Jkq (Jld (Jlg (Jlh (Jkv T.J9 Sbl hr (by decide) (So (pv 1) Ss)))) (Jkr (Jlv Jlw rfl (Jmm T.Jcz Sat hr (by decide) T.Jc2.bd T.Jb3 (So (pv 1) Ss)))) Jl1) ?_
   rotate_left
   refine' Jkq (Jld (Jlg (Jlh (Jkv T.J9 Sbl hr (by decide) (So (pv 2) Ss)))) (Jkr (Jlv Jlw rfl (Jmm T.Jcz Sat hr (by decide) T.Jc2.bd T.Jb3 (So (pv 2) Ss)))) Jl1) ?_
   rotate_left
   refine' Jkq (Jld (Jlg (Jlh (Jkv T.J0 Sad hr (by decide) (So (pv 3) (So Sz (So (Jlc (by rfl) T.Jaj (v:=.int 6) ⟨_,rfl⟩) Ss)))))) (Jkr (Jlv Jlw rfl (Jmm T.Jd2 Sd1 hr (by decide) T.Jc5.bd T.Jb6 (So (pv 3) Ss)))) Jl1) ?_
   rotate_left
   refine' Jkq (Jmb (pv 0) (pv 1) rfl) ?_
   rotate_left
   refine' Jkq (Jmb (pv 0) (pv 2) rfl) ?_
   rotate_left
   exact (Jkr (Jmb (pv 0) (pv 3) rfl))
  refine ⟨_,rfl,n,rfl,nm,λH1 s1=>⟨_,rfl,?_⟩⟩
  cases du with
  |name e=>
   rw [e]
   exact Jn5 (Jo4 T.Jcz T.Jeb rfl λe dx h1 h2 h3=>k _ _ _ ((RfC.new h1 h2 h3).of s1))
  |basin e1 e2=>
   rw [e1]
   refine Jlp ⟨_,rfl,b,rfl,nb.same s1,λH2 s2=>⟨_,rfl,?_⟩⟩
   rw [e2]
   exact Jn5 (Jo4 T.Jcz T.Jeb rfl λe dx h1 h2 h3=>k _ _ _ ((RfC.new h1 h2 h3).of (s1.trans s2)))
  |want e1 e2 e3=>
   rw [e1]
   refine Jlp ⟨_,rfl,b,rfl,nb.same s1,λH2 s2=>⟨_,rfl,?_⟩⟩
   rw [e2]
   refine Jlp ⟨_,rfl,wt,1,6,rfl,tw.same (s1.trans s2),_,rfl,?_⟩
   rw [e3]
   exact Jn5 (Jo4 T.Jd2 T.Jee rfl λe dx h1 h2 h3=>k _ _ _ ((RfC.new h1 h2 h3).of (s1.trans s2)))
  |good e1 e2 e3=>
   rw [e1]
   refine Jlp ⟨_,rfl,b,rfl,nb.same s1,λH2 s2=>⟨_,rfl,?_⟩⟩
   rw [e2]
   refine Jlp ⟨_,rfl,wt,1,6,rfl,tw.same (s1.trans s2),_,rfl,?_⟩
   rw [e3]
   refine Jlp ⟨_,rfl,_,rfl,p,_,dx,[],rfl,s2 _ _ (s1 _ _ hp),T.Jdv,T.Jeo,by simp,?_⟩
   rw [show Jm8 "name" n []=([("name",n)]:List (Str×V)) from rfl]
   refine ⟨_,rfl,_,rfl,p,_,dx,_,rfl,Sy,T.Jdv,T.Jep,by simp,?_⟩
   rw [show Jm8 "basin" b [("name",n)]=([("name",n),("basin",b)]:List (Str×V)) from Jm9 (fs:=[("name",n)]) (show (["name"]:List Str).contains "basin" =false by decide +kernel)]
   refine ⟨_,rfl,_,rfl,p,_,dx,_,rfl,Sy,T.Jdv,T.Jeq,by simp,?_⟩
   rw [show Jm8 "want" wt [("name",n),("basin",b)]=([("name",n),("basin",b),("want",wt)]:List (Str×V)) from Jm9 (fs:=[("name",n),("basin",b)]) (show (["name","basin"]:List Str).contains "want" =false by decide +kernel)]
   show Q .non _
   simp only [Jnu]
   exact k _ (s1.trans s2)
theorem Jru:∀(ns:List Int) (lo m n:Int),Jlz lo (ns.map V.int)=true->ns.getLast?=some m->m+1<=n->n<=12->Jlz lo ((ns++ [n]).map V.int)=true
 | [],_,_,_,_,h,_,_=>by simp at h
 | [x],lo,m,n,h,hl,h1,h2=>by
  have e:x=m:=by simpa using hl
  subst e
  simp [Jlz] at h⊢
  omega
 |x::y::r,lo,m,n,h,hl,h1,h2=>by
  have hl':(y::r).getLast?=some m:=by simpa using hl
  have h':((decide (lo<=x)&&decide (x<=12))&&Jlz (x+1) ((y::r).map V.int))=true:=h
  rw [yp] at h'
  have ih:=Jru (y::r) (x+1) m n h'.2 hl' h1 h2
  show ((decide (lo<=x)&&decide (x<=12))&&Jlz (x+1) (((y::r)++ [n]).map V.int))=true
  rw [h'.1,ih]
  rfl
theorem Jrt:∀(ns:List Int) (lo m:Int),Jlz lo (ns.map V.int)=true->ns.getLast?=some m->lo<=m/\m<=12
 | [],_,_,_,h=>by simp at h
 | [x],lo,m,h,hl=>by
  have e:x=m:=by simpa using hl
  subst e
  simpa [Jlz] using h
 |x::y::r,lo,m,h,hl=>by
  have hl':(y::r).getLast?=some m:=by simpa using hl
  have h':((decide (lo<=x)&&decide (x<=12))&&Jlz (x+1) ((y::r).map V.int))=true:=h
  rw [yp,yp,decide_eq_true_eq,decide_eq_true_eq] at h'
  have ih:=Jrt (y::r) (x+1) m h'.2 hl'
  omega
theorem Jqt {ns:List Int} {m:Int} (h:ns.getLast?=some m):atI (ns.map V.int) (-1)=some (.int m):=by
 have hl:1<=ns.length:=by cases ns <;> simp at h⊢
 have e:ixN (ns.map V.int).length (-1)=some (ns.length - 1):=by
  unfold ixN
  rw [yf,if_neg (by decide),if_pos (by omega)]
  congr 1
  omega
 unfold atI
 rw [e]
 show (ns.map V.int)[ns.length - 1]?=some (.int m)
 rw [yk,<-List.getLast?_eq_getElem?,h]
 rfl
def Yak:Sp:=λvs H Q _=>∃(p:S5) (lo:Int),vs= [.ref p,.int lo]/\Scg H p/\(lo=0\/lo=1)/\∀(l:S5) (ns:List Int) (H':Hp),H l=none->But p H H'->H' l=some (.lst (ns.map V.int))->Jn1 lo (ns.map V.int)=true->Q (.ref l) H'
theorem Scc:Jky ["_law_stream_here","_law_least","_law_marks_here","_law_k"] ["_law_stream_here","_law_least"] (Jku (top 66)):=⟨rfl,rfl,rfl,by decide +kernel,rfl,by decide +kernel,by decide +kernel⟩
theorem Jup (T:Tx K mg a):Sx P w K mg base CX0 2 a.Jj2 a.Jj3 ["_law_stream_here","_law_least"] Yak:=by
 have Su:=Jo9 (P:=P) (w:=w) (base:=base) T
 refine T.Ja0.fn.ok Scc (λvs H Q E h=>?_) (λcdv A outer s H vs Q E hr h=>?_)
 ·obtain ⟨p,lo,rfl,_⟩:=h
  rfl
 ·obtain ⟨p,lo,rfl,st,hlo,k⟩:=h
  refine ⟨_,(Jkq (Jl4 (i:=2) Scc.nd rfl (ye rfl) (Jli (So (Jl9 Jm3 (pv 1) (Jkv T.Jy Su hr (by decide) (So (pv 0) (So (Jl9 Jo1 Sz (pv 1)) Ss)))) Ss)))
   (Jkq (Jms PassesOwn.never rfl (Jol (by rfl) T.Jay (So (Jkv T.Jy Su hr (by decide) (So (pv 0) (So Sz Ss))) Ss)) (Jl3 (i:=3) Scc.nd rfl (ye rfl)) (Jkr (Jld (Jle Ju2 (Jlf Jl6 (pv 2) (Jvy Jt0 Sz) (λ_ _=>rfl)) Sz (Jla _)) (Jkr (Jlr (Jmg F.plainAttrs_list F.slot_list_append F.type_list_append Jly (pv 2) (So (Jl9 Jm3 (Jl9 Jm3 (Jlf Jl6 (pv 2) (Jvy Jt0 Sz) (λ_ _=>rfl)) Sz) (Jkv T.Jy Su hr (by decide) (So (pv 0) (So (Jl9 Jo1 Sz (Jlf Jl6 (pv 2) (Jvy Jt0 Sz) (λ_ _=>rfl))) Ss)))) Ss)))) Jl1)))
   (Jkr (Jkz (pv 2))))),?_⟩
  have hm:(0:Int) < 13 - lo/\(13 - lo).natAbs.log2 < 9000:=by rcases hlo with rfl|rfl <;> decide
  refine ⟨_,rfl,_,rfl,_,rfl,_,_,rfl,rfl,p,13 - lo,rfl,st,hm.1,hm.2,λr H1 r0 r1 b1=>⟨_,_,rfl,rfl,(show 1<=Sa by decide),λl hl=>?_⟩⟩
  have hl0:H l=none:=But.free st b1 hl
  have nlp:l≠p:=st.ne hl0
  have b1':But p H (upd H1 l (.lst [.int (lo+r)])):=b1.updD hl0 nlp
  refine ⟨_,rfl,p,4,rfl,b1'.2,by decide,by decide,λj H2 j0 j1 b2=>⟨j,rfl,by omega,by omega,?_⟩⟩
  refine Joe (λi σ H'=>∃(o:Option V) (ns:List Int) (m:Int),σ= [some (.ref p),some (.int lo),some (.ref l),o]/\But p H H'/\H' l=some (.lst (ns.map V.int))/\Jlz lo (ns.map V.int)=true/\ns.getLast?=some m/\ns.length<=i+1)
   ⟨_,[lo+r],lo+r,rfl,b1'.trans b2,b2.1 _ _ nlp Sy,?_,rfl,by simp⟩ ?_ ?_
  ·simp [Jlz]
   omega
  ·rintro i σ H3 hi ⟨o,ns,m,rfl,b3,h3,hmk,hla,hle⟩
   have hb:=Jrt ns lo m hmk hla
   refine ⟨_,rfl,_,rfl,l,_,-1,_,rfl,rfl,Sw.of h3,Jqt hla,_,_,rfl,rfl,_,rfl,Jsg (λq=>?_) (λq=>?_)⟩
   ·have q':m < 12:=of_decide_eq_true q
    refine ⟨_,rfl,.inl ⟨rfl,_,Sw.of h3⟩,_,rfl,_,rfl,l,_,-1,_,rfl,rfl,Sw.of h3,Jqt hla,_,_,rfl,rfl,_,rfl,_,rfl,_,rfl,l,_,-1,_,rfl,rfl,Sw.of h3,Jqt hla,_,_,rfl,rfl,p,12 - m,rfl,b3.2,by omega,?_,λr' H4 s0 s1 b4=>?_⟩
    ·have:(12 - m).natAbs<=12:=by rcases hlo with rfl|rfl <;> omega
     exact ybj (ybs _) (by omega)
    ·have h4:=b4.1 _ _ nlp h3
     refine ⟨_,_,rfl,rfl,l,_,_,rfl,rfl,h4,by rw [yf];exact Jls (by omega),?_⟩
     refine ⟨_,ns++ [m+1+r'],m+1+r',rfl,?_,?_,Jru ns lo m _ hmk hla (by omega) (by omega),by simp,by simp;omega⟩
     ·refine ⟨λb o nb e=>?_,?_⟩
      ·rw [Jkt (Jkw e hl0)]
       exact b4.1 _ _ nb (b3.1 _ _ nb e)
      ·obtain ⟨x,y,z,q⟩:=b4.2
       exact ⟨x,y,z,by rw [Jkt (ym nlp)];exact q⟩
     ·rw [Sy]
      simp
   ·exact ⟨_,ns,m,rfl,b3,h3,hmk,hla,by omega⟩
  ·rintro σ H3 ⟨o,ns,m,rfl,b3,h3,hmk,hla,hle⟩
   refine ⟨_,rfl,k l ns H3 hl0 b3 h3 ?_⟩
   have hn:1<=ns.length:=by cases ns <;> simp at hla⊢
   unfold Jn1
   rw [hmk,Bool.and_true,yf]
   exact decide_eq_true (by omega)
structure Jn7 where
 kd:Str
 ns:List Int
 sv:Option Int
structure Sbv (G:Jn7):Prop where
 kd:Knd G.kd
 ns:Jn1 (Jns G.kd) (G.ns.map V.int)=true
 sv:∀i,G.sv=some i->0<=i/\i < G.ns.length
theorem Sbv.len {G:Jn7} (h:Sbv G):1<=G.ns.length/\G.ns.length<=4:=by
 have q:=h.ns
 unfold Jn1 at q
 rw [yp,decide_eq_true_eq,yf] at q
 exact q.1
def nOf (G:Jn7):Nat:=match G.sv with
 |some _=>1
 |none=>G.ns.length
def GX (a:Ad) (H:Hp) (x:V) (G:Jn7):Prop:=∃(g:S5),Sbj (cOf a G.kd) H g (G.ns.map V.int)/\match G.sv with
 |none=>x= .ref g
 |some _=>False
theorem GX.same {a:Ad} {H H':Hp} {x:V} {G:Jn7} (s:Sn H H') (h:GX a H x G):GX a H' x G:=by
 obtain ⟨g,ga,r⟩:=h
 refine ⟨g,ga.same s,?_⟩
 cases e:G.sv with
 |none=>rw [e] at r;exact r
 |some j=>
  rw [e] at r
  exact r.elim
theorem GX.gs {K:Si} {a:Ad} {H:Hp} {x:V} {G:Jn7} (gg:Sbv G) (h:GX a H x G):GS K a H x (nOf G):=by
 obtain ⟨g,ga,r⟩:=h
 unfold nOf
 cases e:G.sv with
 |none=>
  rw [e] at r
  subst r
  have q:=GS.plain (K:=K) Sjp ga (by rw [yf];exact gg.len.2)
  rw [yf] at q
  exact q
 |some j=>
  rw [e] at r
  exact r.elim
theorem Jxg {i:Int} (h:i.natAbs<=1000):i.natAbs.log2 < 9000:=ybj (ybs _) (by omega)
theorem ifF {b:Bool} {A B:Prop} (h:b=false) (k:B):if b=true then A else B:=by rw [h];exact Jlp k
theorem ifT {b:Bool} {A B:Prop} (h:b=true) (k:A):if b=true then A else B:=by rw [h];exact Jn5 k
theorem Jpt {H:Hp} {ns:List Int} {y:V} (h:y∈ns.map V.int):Tm K H y:=by
 obtain ⟨i,_,rfl⟩:=yag.mp h
 exact .inl ⟨i,rfl⟩
theorem Jof {C:S5} {lo:Int} {x:V} {H:Hp} {Q1:Hp->Prop} {E:XK} {g dx:S5} (c:Cls K C) (n:NoAttr K C "marks") (hg:H g=none) (hd:H dx=none) (ne:dx≠g)
  (h:∃xs,Sq H x xs/\(∀y∈xs,Tm K H y)/\Jn1 lo xs=true/\∀H',Sn H H'->Sbj C H' g xs->Q1 H'):
  Jv8 K a lo [.ref g,x] (upd (upd H dx (.own g)) g (.ins C dx [])) (λv H2=>v= .non/\Q1 H2) E:=by
 have s1:Sn H (upd (upd H dx (.own g)) g (.ins C dx [])):=λb o e=>by rw [Jkt (Jkw e hg),Jkt (Jkw e hd)];exact e
 refine ⟨g,C,dx,x,rfl,Sy,c,n,?_⟩
 obtain ⟨xs,sq,tms,e,k⟩:=h
 refine .inl ⟨xs,sq.same s1,λy hy=>(tms y hy).same s1,e,λt H' s' ht=>⟨rfl,?_⟩⟩
 have ng:t≠g:=Sms ht (s' _ _ Sy) (by intro z;cases z)
 exact k _ (λb o e=>by rw [Jkt (Jkw e hg)];exact s' _ _ (s1 _ _ e)) ⟨dx,t,Sy,by rw [Jkt ng];exact ht⟩
def Jpe (kd:Str) (m lv:Int):Int:=if kd=("step" :Str) then (if lv < m then lv else m) else if kd=("flap" :Str) then (if 0 > lv - m then 0 else lv - m) else lv/m
def lvG (G:Jn7) (s lv:Int):Int:=Jpe G.kd (G.ns.getD (match G.sv with|some j=>j|none=>s).toNat 0) lv
def Jwy (C:S5) (lo:Int) (f:Int->Int->Int):Sp:=λvs H Q _=>∃(g:S5) (ns:List Int) (s lv:Int),vs= [.ref g,.int s,.int lv]/\Sbj C H g (ns.map V.int)/\(0<=s/\s < ns.length)/\(∀n∈ns,lo<=n/\n<=12)/\(0<=lv/\lv<=1000)/\Q (.int (f (ns.getD s.toNat 0) lv)) H
theorem Juj {ns:List Int} {s:Int} (h:0<=s/\s < ns.length):atI (ns.map V.int) s=some (.int (ns.getD s.toNat 0))/\ns.getD s.toNat 0∈ns:=by
 obtain ⟨i,rfl⟩:=yaa h.1
 have hi:i < ns.length:=by omega
 have e:ns.getD (i:Int).toNat 0=ns[i]:=by simp [ybp,hi]
 rw [e]
 exact ⟨Jxc hi,ybq hi⟩
theorem Jqp:Jky ["self","setting","level"] ["self","setting","level"] (Jku (Jkx (top 28) 2)):=⟨rfl,rfl,rfl,by decide +kernel,rfl,by decide +kernel,by decide +kernel⟩
theorem Jqa (T:Tx K mg a):Sx P w K mg base CX0 1 a.Jgo a.Jgp ["self","setting","level"] (Jwy a.Jka 0 λm lv=>if lv < m then lv else m):=by
 refine T.Jcd.fn.ok Jqp (λvs H Q E h=>?_) (λcdv A outer s H vs Q E hr h=>?_)
 ·obtain ⟨g,ns,s,lv,rfl,_⟩:=h
  rfl
 ·obtain ⟨g,ns,s,lv,rfl,⟨dx,t,hg,ht⟩,hs,hn,hl,k⟩:=h
  obtain ⟨hat,hin⟩:=Juj hs
  refine ⟨?t,?B,?C⟩
  case B=>
   refine' Jkr ?O0
   case O0=>exact (Jkz (Jl0 (Jrk rfl) (by rfl) T.Jax Jwg (So (Jlf Jsi (Jl5 (pv 0) (by rfl)) (pv 1) (λ_ _=>rfl)) (So (pv 2) Ss))))
  exact ⟨_,rfl,g,_,dx,_,_,rfl,hg,T.Jd7,T.Jef,rfl,_,rfl,t,_,_,_,rfl,rfl,SqT.of ht,hat,_,rfl,_,_,rfl,k⟩
theorem Jqh:Jky ["self","setting","level"] ["self","setting","level"] (Jku (Jkx (top 29) 2)):=⟨rfl,rfl,rfl,by decide +kernel,rfl,by decide +kernel,by decide +kernel⟩
theorem Jq6 (T:Tx K mg a):Sx P w K mg base CX0 1 a.Jgw a.Jgx ["self","setting","level"] (Jwy a.Jkb 0 λm lv=>if 0 > lv - m then 0 else lv - m):=by
 refine T.Jch.fn.ok Jqh (λvs H Q E h=>?_) (λcdv A outer s H vs Q E hr h=>?_)
 ·obtain ⟨g,ns,s,lv,rfl,_⟩:=h
  rfl
 ·obtain ⟨g,ns,s,lv,rfl,⟨dx,t,hg,ht⟩,hs,hn,hl,k⟩:=h
  obtain ⟨hat,hin⟩:=Juj hs
  refine ⟨?t,?B,?C⟩
  case B=>
   refine' Jkr ?O0
   case O0=>exact (Jkz (Jl0 (Jpn rfl) (by rfl) T.Jaw Jub (So (Jl9 Jo1 (pv 2) (Jlf Jsi (Jl5 (pv 0) (by rfl)) (pv 1) (λ_ _=>rfl))) (So Sz Ss))))
  exact ⟨_,rfl,_,rfl,g,_,dx,_,_,rfl,hg,T.Jde,T.Jeg,rfl,_,rfl,t,_,_,_,rfl,rfl,SqT.of ht,hat,_,_,rfl,rfl,_,_,rfl,k⟩
theorem Jqn:Jky ["self","setting","level"] ["self","setting","level"] (Jku (Jkx (top 30) 2)):=⟨rfl,rfl,rfl,by decide +kernel,rfl,by decide +kernel,by decide +kernel⟩
theorem Jq8 (T:Tx K mg a):Sx P w K mg base CX0 1 a.Jh4 a.Jh5 ["self","setting","level"] (Jwy a.Jkc 1 λm lv=>lv/m):=by
 refine T.Jcl.fn.ok Jqn (λvs H Q E h=>?_) (λcdv A outer s H vs Q E hr h=>?_)
 ·obtain ⟨g,ns,s,lv,rfl,_⟩:=h
  rfl
 ·obtain ⟨g,ns,s,lv,rfl,⟨dx,t,hg,ht⟩,hs,hn,hl,k⟩:=h
  obtain ⟨hat,hin⟩:=Juj hs
  refine ⟨?t,?B,?C⟩
  case B=>
   refine' Jkr ?O0
   case O0=>exact (Jkz (Jl9 Jr4 (pv 2) (Jlf Jsi (Jl5 (pv 0) (by rfl)) (pv 1) (λ_ _=>rfl))))
  have hm:=hn _ hin
  refine ⟨_,rfl,_,rfl,g,_,dx,_,_,rfl,hg,T.Jdl,T.Jeh,rfl,_,rfl,t,_,_,_,rfl,rfl,SqT.of ht,hat,?_⟩
  exact ⟨_,_,rfl,rfl,⟨by omega,Jxg (by omega)⟩,k⟩
theorem Jty:∀{ns:List Int} {lo:Int},Jlz lo (ns.map V.int)=true->∀n∈ns,lo<=n/\n<=12
 | [],_,_=>λ_ h=>nomatch h
 |x::r,lo,h=>by
  have h':((decide (lo<=x)&&decide (x<=12))&&Jlz (x+1) (r.map V.int))=true:=h
  rw [yp,yp,decide_eq_true_eq,decide_eq_true_eq] at h'
  intro n hn
  rcases yi.mp hn with rfl|hn
  ·exact h'.1
  ·have:=Jty h'.2 n hn
   omega
theorem Sbv.marks {G:Jn7} (h:Sbv G):∀n∈G.ns,Jns G.kd<=n/\n<=12:=by
 have q:(decide (1<=(G.ns.map V.int).length/\(G.ns.map V.int).length<=4)&&Jlz (Jns G.kd) (G.ns.map V.int))=true:=h.ns
 rw [yp] at q
 exact Jty q.2
theorem Jvv {H:Hp} {g:S5} {kd:Str} {ns:List Int} {s lv:Int} {Q:VK} (T:Tx K mg a) (hk:Knd kd) (ga:Sbj (cOf a kd) H g (ns.map V.int)) (hs:0<=s/\s < ns.length) (hn:∀n∈ns,Jns kd<=n/\n<=12) (hl:0<=lv/\lv<=1000) (k:Q (.int (Jpe kd (ns.getD s.toNat 0) lv)) H):
  ∃C dx fs f fd ps sp,H g=some (.ins C dx fs)/\fs.lookup ("passes" :Str)=none/\Cls K C/\Jn0 K C "passes" f/\Sx P w K mg base CX0 1 f fd ps sp/\Sb1 K fd ps []/\sp [.ref g,.int s,.int lv] H Q E0:=by
 obtain ⟨dx,t,h1,h2⟩:=id ga
 rcases hk with rfl|rfl|rfl
 ·have e2:cOf a "step" =a.Jka:=if_pos rfl
  rw [e2] at h1 ga
  exact ⟨_,dx,_,_,_,_,_,h1,rfl,T.Jd7,T.Jdc,Jqa T,T.Jcd.bd,g,ns,s,lv,rfl,ga,hs,hn,hl,k⟩
 ·have e2:cOf a "flap" =a.Jkb:=by unfold cOf;rw [if_neg Jp7,if_pos rfl]
  rw [e2] at h1 ga
  have ek:Jpe "flap" (ns.getD s.toNat 0) lv=(if 0 > lv - ns.getD s.toNat 0 then 0 else lv - ns.getD s.toNat 0):=by unfold Jpe;rw [if_neg Jp7,if_pos rfl]
  rw [ek] at k
  exact ⟨_,dx,_,_,_,_,_,h1,rfl,T.Jde,T.Jdj,Jq6 T,T.Jch.bd,g,ns,s,lv,rfl,ga,hs,hn,hl,k⟩
 ·have e2:cOf a "part" =a.Jkc:=by unfold cOf;rw [if_neg Jq0,if_neg Jpz]
  rw [e2] at h1 ga
  have ek:Jpe "part" (ns.getD s.toNat 0) lv=lv/ns.getD s.toNat 0:=by unfold Jpe;rw [if_neg Jq0,if_neg Jpz]
  rw [ek] at k
  exact ⟨_,dx,_,_,_,_,_,h1,rfl,T.Jdl,T.Jdq,Jq8 T,T.Jcl.bd,g,ns,s,lv,rfl,ga,hs,hn,hl,k⟩
theorem GX.passes {H:Hp} {x:V} {G:Jn7} {s lv:Int} {Q:VK} (T:Tx K mg a) (gg:Sbv G) (gx:GX a H x G) (hs:0<=s/\s < (nOf G:Int)) (hl:0<=lv/\lv<=1000) (k:Q (.int (lvG G s lv)) H):
  ∃o C dx fs f fd ps sp k',x= .ref o/\H o=some (.ins C dx fs)/\fs.lookup ("passes" :Str)=none/\Cls K C/\Jn0 K C "passes" f/\Sx P w K mg base CX0 k' f fd ps sp/\k'<=2/\Sb1 K fd ps []/\sp [x,.int s,.int lv] H Q E0:=by
 obtain ⟨g,ga,r⟩:=gx
 unfold lvG at k
 unfold nOf at hs
 cases e:G.sv with
 |none=>
  rw [e] at r k hs
  subst r
  obtain ⟨C,dx',fs,f,fd,ps,sp,h1,h2,c,m,ok,bd,hsp⟩:=Jvv (P:=P) (w:=w) (base:=base) (Q:=Q) T gg.kd ga hs gg.marks hl k
  exact ⟨g,C,dx',fs,f,fd,ps,sp,1,rfl,h1,h2,c,m,ok,by decide,bd,hsp⟩
 |some j=>
  rw [e] at r
  exact r.elim
def Jzq (a:Ad):Sp:=λvs H Q _=>∃(x:V) (G:Jn7) (s lv:Int),vs= [x,.int s,.int lv]/\GX a H x G/\Sbv G/\(0<=s/\s < (nOf G:Int))/\(0<=lv/\lv<=1000)/\Q (.int (lvG G s lv)) H
theorem Jpi:Jky ["self","thing"] ["self","thing"] (Jku (Jkx (top 9) 0)):=⟨rfl,rfl,rfl,by decide +kernel,rfl,by decide +kernel,by decide +kernel⟩
theorem Jrq (T:Tx K mg a):Sx P w K mg base CX0 1 a.Jg0 a.Jg1 ["self","thing"] (Joz K "thing"):=by
 refine T.Jc9.fn.ok Jpi (λvs H Q E h=>?_) (λcdv A outer s H vs Q E hr h=>?_)
 ·obtain ⟨e,C,W,fI,y,rfl,_⟩:=h
  rfl
 ·obtain ⟨e,C,W,fI,y,rfl,q,c,n,k⟩:=h
  refine ⟨_,(Jkr (Joa (pv 0) (pv 1) rfl)),?_⟩
  exact ⟨_,rfl,_,rfl,e,C,W,fI,true,rfl,q,c,n,k⟩
theorem Jv4:Jky ["self","setting","level"] ["self","setting","level"] (Jku (Jkx (top 27) 0)):=⟨rfl,rfl,rfl,by decide +kernel,rfl,by decide +kernel,by decide +kernel⟩
theorem Jow (T:Tx K mg a):Sx P w K mg base (CXX P w) 3 a.Jgi a.Jgj ["self","setting","level"] (Jzq a):=by
 have Sad:=Jni (P:=P) (w:=w) (base:=base) T
 have Sag:=Jnz (P:=P) (w:=w) (base:=base) T
 have Scr:=Jrq (P:=P) (w:=w) (base:=base) T
 refine T.Jca.fn.okX Jv4 (λvs H Q E h=>?_) (λcdv A outer s H vs Q E hr h=>?_)
 ·obtain ⟨x,G,s,lv,rfl,_⟩:=h
  rfl
 ·obtain ⟨x,G,s,lv,rfl,gx,gg,hs,hl,k⟩:=h
  refine ⟨?t,?B,?C⟩
  case B=>
   refine' Jkq ?O0 ?O1
   case O0=>
    refine' Jld ?O2 ?O3 ?O4
    case O2=>exact (Jlg (Jlh (Jkv T.J0 Sad hr (by decide) (So (pv 1) (So Sz (So (Jl9 Jo1 (Ju3 (pv 0) hr) Sz) Ss))))))
    case O3=>
     refine' Jkr ?O5
     case O5=>exact (Jlv Jlw rfl (Jmm T.Jd0 Sag hr (by decide) T.Jc3.bd T.Jb4 (So (pv 1) Ss)))
    case O4=>exact Jl1
   case O1=>
   refine' Jkq ?O6 ?O7
   case O6=>
    refine' Jld ?O8 ?O9 ?Oa
    case O8=>exact (Jlg (Jlh (Jkv T.J0 Sad hr (by decide) (So (pv 2) (So Sz (So (Jlc (by rfl) T.Jag (v:=.int 1000) ⟨_,rfl⟩) Ss))))))
    case O9=>
     refine' Jkr ?Ob
     case Ob=>exact (Jlv Jlw rfl (Jmm T.Jd6 Scr hr (by decide) T.Jc9.bd T.Jba (So (pv 2) Ss)))
    case Oa=>exact Jl1
   case O7=>
   refine' Jkr ?Oc
   case Oc=>exact (Jkz (Jvx (pv 0) hr (So (pv 1) (So (pv 2) Ss))))
  have gs:GS K a H x (nOf G):=gx.gs gg
  obtain ⟨o,C,dx',fs,f,fd,ps,sp,k',rfl,h1,h2,c,m,ok,hk,bd,hsp⟩:=gx.passes (P:=P) (w:=w) (base:=base) (Q:=Q) T gg hs hl k
  refine ⟨_,rfl,_,rfl,Jtm T gs ⟨_,_,rfl,rfl,.int s,0,(nOf G:Int) - 1,rfl,.inl ⟨s,rfl⟩,_,rfl,ifF (by simp [Jlm];omega) ?_⟩ (by decide)⟩
  refine ⟨_,rfl,.int lv,0,1000,rfl,.inl ⟨lv,rfl⟩,_,rfl,ifF (by simp [Jlm];omega) ?_⟩
  exact ⟨_,rfl,o,C,dx',fs,f,fd,ps,sp,k',rfl,h1,h2,c,m,ok,hk,bd,_,rfl,_,rfl,hsp⟩
theorem Jtg:Jky ["names"] ["names"] (Jku (top 41)):=⟨rfl,rfl,rfl,by decide +kernel,rfl,by decide +kernel,by decide +kernel⟩
theorem Jq3 (T:Tx K mg a):Sx P w K mg base CX0 1 a.Jhe a.Jhf ["names"] (Jzx K):=by
 refine T.Jg.fn.ok Jtg (λvs H Q E h=>?_) (λcdv A outer s H vs Q E hr h=>?_)
 ·obtain ⟨l,zs,rfl,_⟩:=h
  rfl
 ·obtain ⟨l,zs,rfl,hq,hz,k⟩:=h
  refine ⟨_,(Jkr (Jkz (Jm5 Jmu (Jl0 Jsc (by rfl) T.Jau Jlu (So (Jln (Jsd rfl) (by rfl) T.Jaz Sjn (So (pv 0) Ss)) Ss)) (Jl0 Jl2 (by rfl) T.Jau Jlu (So (pv 0) Ss)) (Jla _)))),?_⟩
  refine ⟨_,rfl,l,zs,rfl,hq,hz,λt ht=>⟨t,zs,rfl,Sy,?_⟩⟩
  have s1:=Sn.upd (o:=TxS P w t zs) ht
  refine ⟨_,rfl,l,_,rfl,.inl (s1.seq hq),rfl,?_⟩
  have e:decide (V.int ((uq zs).length:Nat)=V.int ((zs.map V.str).length:Nat))=decide ((uq zs).length=zs.length):=by
   rw [yf]
   by_cases h:(uq zs).length=zs.length
   ·rw [decide_eq_true h,decide_eq_true (by rw [h])]
   ·rw [decide_eq_false h,decide_eq_false (λq=>h (by have:=V.int.inj q;omega))]
  rw [e]
  exact k _ s1
theorem Jtf:Jky ["thing"] ["thing"] (Jku (top 42)):=⟨rfl,rfl,rfl,by decide +kernel,rfl,by decide +kernel,by decide +kernel⟩
theorem Jt5 (T:Tx K mg a):Sx P w K mg base CX0 2 a.Jhg a.Jhh ["thing"] (Jzo K a):=by
 have Sc8:=Jq3 (P:=P) (w:=w) (base:=base) T
 refine T.Jh.fn.ok Jtf (λvs H Q E h=>?_) (λcdv A outer s H vs Q E hr h=>?_)
 ·obtain ⟨l,os,Bs,rfl,_⟩:=h
  rfl
 ·obtain ⟨l,os,Bs,rfl,hl,bl,hn,nd,k⟩:=h
  have len:=bl.len
  refine ⟨?t,?B,?C⟩
  case B=>
   refine' Jkq ?O0 ?O1
   case O0=>
    refine' Jld ?O2 ?O3 ?O4
    case O2=>exact (PW.pt (Jp1 (Jlg (Jlh (Jl0 Jsb (by rfl) T.Jat Jl8 (So (pv 0) (So (Jsq (So (Jmv (v:=.ty "list") (by rfl) T.Jav Jua rfl) (So (Jmv (v:=.ty "tuple") (by rfl) T.Jb1 Jnh rfl) Ss))) Ss))))) (Jnn (Jlg (Jr6 Jp0 Jp0 Sz (Jl0 Jl2 (by rfl) T.Jau Jlu (So (pv 0) Ss)) (Jlc (by rfl) T.Jal (v:=.int 16) ⟨_,rfl⟩))))))
    case O3=>
     refine' Jkr ?O5
     case O5=>exact (Jkz Jml)
    case O4=>exact Jl1
   case O1=>
   refine' Jkq ?O6 ?O7
   case O6=>
    refine' Jld ?O8 ?O9 ?Oa
    case O8=>exact (Jlg (Jlh (Jl0 (Jqv rfl) (by rfl) T.Jap Ju9 (So (Jmh (N:=(["basin"]:List Str)) (ini:=[none]) rfl (Jm2 (pv 0)) (λ_ _ _ _ _=>(Jl3 (i:=0) (by decide +kernel:(["basin"]:List Str).Nodup) rfl (ye rfl))) (λ_ _ _ _ _=>Jm6) (λ_ _ _ _ _=>(Jl0 (Jrj (K:=K) rfl) (by rfl) T.Jat Jl8 (So (pv 0) (So (Jlc (by rfl) T.Jbf (v:=.ref _) rfl) Ss))))) Ss))))
    case O9=>
     refine' Jkr ?Ob
     case Ob=>exact (Jkz Jml)
    case Oa=>exact Jl1
   case O7=>
   refine' Jkr ?Oc
   case Oc=>exact (Jkz (Jkv T.Jg Sc8 hr (by decide) (So (Jmh (N:=(["basin"]:List Str)) (ini:=[none]) rfl (Jm2 (pv 0)) (λ_ _ _ _ _=>(Jl3 (i:=0) (by decide +kernel:(["basin"]:List Str).Nodup) rfl (ye rfl))) (λ_ _ _ _ _=>Jm6) (λ_ _ _ _ _=>(Jps (K:=K) rfl (pv 0) (by rfl)))) Ss)))
  refine ⟨_,rfl,(show 2<=Sa by decide),λp hp=>⟨_,p,_,_,.type "list",true,rfl,Sy,rfl,.of (.lst (Sn.upd hp _ _ hl)),rfl,_,rfl,Jlp ?_⟩⟩
  have s1:=Sn.upd (o:=.tup [.ty "list",.ty "tuple"]) hp
  refine ⟨_,rfl,l,_,rfl,.inl (Sw.of (s1 _ _ hl)),_,_,rfl,rfl,_,rfl,ifT (by rw [yf];simp;omega) ⟨_,_,rfl,rfl,_,rfl,ifF (by rw [yf];simp;omega) ?_⟩⟩
  refine ⟨_,rfl,l,rfl,⟨_,Sw.of (s1 _ _ hl)⟩,λD hD=>?_⟩
  refine Jmp (K:=K) (a:=l) (xs:=os.map V.ref) (D:=D) (λi σ H'=>∃o,σ= [o]/\H' D=some (.lst ((List.replicate i true).map V.bl))/\Sn (upd H p (.tup [.ty "list",.ty "tuple"])) H') ⟨_,rfl,Sy,Sn.upd hD⟩ (λi σ H' _ ⟨o,_,_,sm⟩=>Sw.of (sm _ _ (s1 _ _ hl))) ?_ ?_
  ·rintro i v σ H' hv ⟨o,rfl,hDs,sm⟩
   obtain ⟨ob,B,rfl,hB,dx,hb,gs⟩:=(bl.same (s1.trans sm)).get hv
   have hi:i < os.length:=by have:=(yw.mp hv).1;rwa [yf] at this
   refine Jmo ⟨_,rfl,_,_,_,_,true,rfl,rfl,.of (T.Jdt.ty T.Jds hb),T.Jf4,_,hDs,?_,_,rfl,?_,λc o z=>?_⟩
   ·rw [yf,ybn]
    exact Jls (by omega)
   ·rw [Sy,List.replicate_succ',yaf]
    rfl
   ·rw [Jkt (Jkw z hD)]
    exact sm _ _ z
  rintro σ H1 ⟨o,rfl,hDs,sm⟩
  refine ⟨D,_,rfl,Sw.of hDs,_,rfl,ifF (by simp) ?_⟩
  have s2:=s1.trans sm
  refine ⟨_,rfl,l,rfl,⟨_,Sw.of (s2 _ _ hl)⟩,λD2 hD2=>?_⟩
  refine Jmp (K:=K) (a:=l) (xs:=os.map V.ref) (D:=D2) (λi σ H'=>∃o,σ= [o]/\H' D2=some (.lst (((Bs.take i).map (·.z)).map V.str))/\Sn H1 H') ⟨_,rfl,Sy,Sn.upd hD2⟩ (λi σ H' _ ⟨o,_,_,sm⟩=>Sw.of (sm _ _ (s2 _ _ hl))) ?_ ?_
  ·rintro i v σ H' hv ⟨o,rfl,hDs,sm3⟩
   obtain ⟨ob,B,rfl,hB,dx,hb,gs⟩:=(bl.same (s2.trans sm3)).get hv
   refine Jmo ⟨_,rfl,ob,_,dx,_,_,rfl,hb,T.Jds,T.Jei,rfl,_,hDs,?_,_,rfl,?_,λc o z=>?_⟩
   ·rw [yf,yf,yx]
    exact Jls (by omega)
   ·rw [Sy,yam,hB]
    simp
   ·rw [Jkt (Jkw z hD2)]
    exact sm3 _ _ z
  rintro σ H2 ⟨o,rfl,hDs,sm3⟩
  rw [yf,yab (by omega)] at hDs
  refine ⟨D2,Bs.map (·.z),rfl,Sw.of hDs,by rw [yf];omega,λH3 s3=>?_⟩
  rw [Jwd nd,decide_eq_true rfl]
  exact k _ ((s2.trans sm3).trans s3)
theorem Sd8:Jky ["thing","basins","names"] ["thing","basins"] (Jku (top 43)):=⟨rfl,rfl,rfl,by decide +kernel,rfl,by decide +kernel,by decide +kernel⟩
theorem Juo (T:Tx K mg a):Sx P w K mg base CX0 2 a.Jhi a.Jhj ["thing","basins"] (Yaq K a):=by
 have Sc8:=Jq3 (P:=P) (w:=w) (base:=base) T
 refine T.Ji.fn.ok Sd8 (λvs H Q E h=>?_) (λcdv A outer s H vs Q E hr h=>?_)
 ·obtain ⟨l,m,os,ts,Bs,Ts,rfl,_⟩:=h
  rfl
 ·obtain ⟨l,m,os,ts,Bs,Ts,rfl,hl,bl,hn,hm,tl,tn,nd,inn,k⟩:=h
  have len:=bl.len
  have tlen:=tl.len
  refine ⟨?t,?B,?C⟩
  case B=>
   refine' Jkq ?O0 ?O1
   case O0=>
    refine' Jld ?O2 ?O3 ?O4
    case O2=>exact (PW.pt (Jp1 (Jlg (Jlh (Jl0 Jsb (by rfl) T.Jat Jl8 (So (pv 0) (So (Jsq (So (Jmv (v:=.ty "list") (by rfl) T.Jav Jua rfl) (So (Jmv (v:=.ty "tuple") (by rfl) T.Jb1 Jnh rfl) Ss))) Ss))))) (Jnn (Jle Jzb (Jl0 Jl2 (by rfl) T.Jau Jlu (So (pv 0) Ss)) (Jlc (by rfl) T.Jam (v:=.int 3) ⟨_,rfl⟩) (Jla _)))))
    case O3=>
     refine' Jkr ?O5
     case O5=>exact (Jkz Jml)
    case O4=>exact Jl1
   case O1=>
   refine' Jkq ?O6 ?O7
   case O6=>
    refine' Jld ?O8 ?O9 ?Oa
    case O8=>exact (Jlg (Jlh (Jl0 (Jqv rfl) (by rfl) T.Jap Ju9 (So (Jmh (N:=(["town"]:List Str)) (ini:=[none]) rfl (Jm2 (pv 0)) (λ_ _ _ _ _=>(Jl3 (i:=0) (by decide +kernel:(["town"]:List Str).Nodup) rfl (ye rfl))) (λ_ _ _ _ _=>Jm6) (λ_ _ _ _ _=>(Jl0 (Jrj (K:=K) rfl) (by rfl) T.Jat Jl8 (So (pv 0) (So (Jlc (by rfl) T.Jbg (v:=.ref _) rfl) Ss))))) Ss))))
    case O9=>
     refine' Jkr ?Ob
     case Ob=>exact (Jkz Jml)
    case Oa=>exact Jl1
   case O7=>
   refine' Jkq ?Oc ?Od
   case Oc=>exact (Jl4 (i:=2) Sd8.nd rfl (Or.inr rfl) (Jmh (N:=(["basin"]:List Str)) (ini:=[none]) rfl (Jm2 (pv 1)) (λ_ _ _ _ _=>(Jl3 (i:=0) (by decide +kernel:(["basin"]:List Str).Nodup) rfl (ye rfl))) (λ_ _ _ _ _=>Jm6) (λ_ _ _ _ _=>(Jps (K:=K) rfl (pv 0) (by rfl)))))
   case Od=>
   refine' Jkr ?Oe
   case Oe=>exact (Jkz (Juy (Jkv T.Jg Sc8 hr (by decide) (So (Jmh (N:=(["town"]:List Str)) (ini:=[none]) rfl (Jm2 (pv 0)) (λ_ _ _ _ _=>(Jl3 (i:=0) (by decide +kernel:(["town"]:List Str).Nodup) rfl (ye rfl))) (λ_ _ _ _ _=>Jm6) (λ_ _ _ _ _=>(Jps (K:=K) rfl (pv 0) (by rfl)))) Ss)) (Jsp (Jl0 (Jqv rfl) (by rfl) T.Jap Ju9 (So (Jmh (N:=(["town","names"]:List Str)) (ini:=[none,some 2]) rfl (Jm2 (pv 0)) (λ_ _ _ _ _=>(Jl3 (i:=0) (by decide +kernel:(["town","names"]:List Str).Nodup) rfl (ye rfl))) (λ_ _ _ _ _=>Jm6) (λ_ _ _ _ _=>(Jm5 (Jws (K:=K) rfl) (Jps (K:=K) rfl (pv 0) (by rfl)) (pv 1) (by with_unfolding_all rfl)))) Ss)))))
  refine ⟨_,rfl,(show 2<=Sa by decide),λp hp=>⟨_,p,_,_,.type "list",true,rfl,Sy,rfl,.of (.lst (Sn.upd hp _ _ hm)),rfl,_,rfl,Jlp ?_⟩⟩
  have s1:=Sn.upd (o:=.tup [.ty "list",.ty "tuple"]) hp
  refine ⟨_,rfl,m,_,rfl,.inl (Sw.of (s1 _ _ hm)),_,_,rfl,rfl,_,rfl,ifF (by rw [yf];simp;omega) ?_⟩
  refine ⟨_,rfl,m,rfl,⟨_,Sw.of (s1 _ _ hm)⟩,λD hD=>?_⟩
  refine Jmp (K:=K) (a:=m) (xs:=ts.map V.ref) (D:=D) (λi σ H'=>∃o,σ= [o]/\H' D=some (.lst ((List.replicate i true).map V.bl))/\Sn (upd H p (.tup [.ty "list",.ty "tuple"])) H') ⟨_,rfl,Sy,Sn.upd hD⟩ (λi σ H' _ ⟨o,_,_,sm⟩=>Sw.of (sm _ _ (s1 _ _ hm))) ?_ ?_
  ·rintro i v σ H' hv ⟨o,rfl,hDs,sm⟩
   obtain ⟨ob,B,rfl,hB,dx,hb⟩:=(tl.same (s1.trans sm)).get hv
   have hi:i < ts.length:=by have:=(yw.mp hv).1;rwa [yf] at this
   refine Jmo ⟨_,rfl,_,_,_,_,true,rfl,rfl,.of (T.Jdw.ty T.Jdv hb),T.Jf5,_,hDs,?_,_,rfl,?_,λc o z=>?_⟩
   ·rw [yf,ybn]
    exact Jls (by omega)
   ·rw [Sy,List.replicate_succ',yaf]
    rfl
   ·rw [Jkt (Jkw z hD)]
    exact sm _ _ z
  rintro σ H1 ⟨o,rfl,hDs,sm⟩
  refine ⟨D,_,rfl,Sw.of hDs,_,rfl,ifF (by simp) ?_⟩
  have s2:=s1.trans sm
  refine ⟨_,rfl,l,rfl,⟨_,Sw.of (s2 _ _ hl)⟩,λD2 hD2=>?_⟩
  refine Jmp (K:=K) (a:=l) (xs:=os.map V.ref) (D:=D2) (λi σ H'=>∃o,σ= [o]/\H' D2=some (.lst (((Bs.take i).map (·.z)).map V.str))/\Sn H1 H') ⟨_,rfl,Sy,Sn.upd hD2⟩ (λi σ H' _ ⟨o,_,_,sm⟩=>Sw.of (sm _ _ (s2 _ _ hl))) ?_ ?_
  ·rintro i v σ H' hv ⟨o,rfl,hDs,sm3⟩
   obtain ⟨ob,B,rfl,hB,dx,hb,gs⟩:=(bl.same (s2.trans sm3)).get hv
   refine Jmo ⟨_,rfl,ob,_,dx,_,_,rfl,hb,T.Jds,T.Jei,rfl,_,hDs,?_,_,rfl,?_,λc o z=>?_⟩
   ·rw [yf,yf,yx]
    exact Jls (by omega)
   ·rw [Sy,yam,hB]
    simp
   ·rw [Jkt (Jkw z hD2)]
    exact sm3 _ _ z
  rintro σ H2 ⟨o,rfl,hD2s,sm3⟩
  rw [yf,yab (by omega)] at hD2s
  have s3:=s2.trans sm3
  refine ⟨_,rfl,m,rfl,⟨_,Sw.of (s3 _ _ hm)⟩,λD3 hD3=>?_⟩
  refine Jmp (K:=K) (a:=m) (xs:=ts.map V.ref) (D:=D3) (λi σ H'=>∃o,σ= [o]/\H' D3=some (.lst (((Ts.take i).map (·.z)).map V.str))/\Sn H2 H') ⟨_,rfl,Sy,Sn.upd hD3⟩ (λi σ H' _ ⟨o,_,_,sm⟩=>Sw.of (sm _ _ (s3 _ _ hm))) ?_ ?_
  ·rintro i v σ H' hv ⟨o,rfl,hDs,sm4⟩
   obtain ⟨ob,B,rfl,hB,dx,hb⟩:=(tl.same (s3.trans sm4)).get hv
   refine Jmo ⟨_,rfl,ob,_,dx,_,_,rfl,hb,T.Jdv,T.Jeo,rfl,_,hDs,?_,_,rfl,?_,λc o z=>?_⟩
   ·rw [yf,yf,yx]
    exact Jls (by omega)
   ·rw [Sy,yam,hB]
    simp
   ·rw [Jkt (Jkw z hD3)]
    exact sm4 _ _ z
  rintro σ H3 ⟨o,rfl,hD3s,sm4⟩
  rw [yf,yab (by omega)] at hD3s
  refine ⟨D3,Ts.map (·.z),rfl,Sw.of hD3s,by rw [yf];omega,λH4 s4=>⟨_,rfl,ifT (by rw [Jwd nd,decide_eq_true rfl]) ?_⟩⟩
  have s5:=(s3.trans sm4).trans s4
  have hD24:=s4 _ _ (sm4 _ _ hD2s)
  refine ⟨_,rfl,m,rfl,⟨_,Sw.of (s5 _ _ hm)⟩,λD4 hD4=>?_⟩
  refine Jmp (K:=K) (a:=m) (xs:=ts.map V.ref) (D:=D4) (λi σ H'=>∃o,σ= [o,some (.ref D2)]/\H' D4=some (.lst ((List.replicate i true).map V.bl))/\Sn H4 H') ⟨_,rfl,Sy,Sn.upd hD4⟩ (λi σ H' _ ⟨o,_,_,sm⟩=>Sw.of (sm _ _ (s5 _ _ hm))) ?_ ?_
  ·rintro i v σ H' hv ⟨o,rfl,hDs,sm6⟩
   obtain ⟨ob,B,rfl,hB,dx,hb⟩:=(tl.same (s5.trans sm6)).get hv
   have hi:i < ts.length:=by have:=(yw.mp hv).1;rwa [yf] at this
   refine Jmo ⟨_,rfl,ob,_,dx,_,_,rfl,hb,T.Jdv,T.Jep,rfl,_,rfl,D2,_,rfl,.inl (Sw.of (sm6 _ _ hD24)),rfl,by simp [Jpy],?_⟩
   have e:inV (V.str B.b) ((Bs.map (·.z)).map V.str)=true:=by
    obtain ⟨z,hz,ez⟩:=yag.mp (inn B (yo hB))
    unfold inV
    refine List.any_eq_true.mpr ⟨V.str z.z,yag.mpr ⟨z.z,yag.mpr ⟨z,hz,rfl⟩,rfl⟩,?_⟩
    simp [eqV,ez]
   show ∃ys,_
   rw [if_neg yv,e]
   refine ⟨_,hDs,?_,_,rfl,?_,λc o z=>?_⟩
   ·rw [yf,ybn]
    exact Jls (by omega)
   ·rw [Sy,List.replicate_succ',yaf]
    rfl
   ·rw [Jkt (Jkw z hD4)]
    exact sm6 _ _ z
  rintro σ H5 ⟨o,rfl,hD4s,sm6⟩
  refine ⟨D4,_,rfl,Sw.of hD4s,?_⟩
  rw [show (List.replicate (ts.map V.ref).length true).all id=true by simp]
  exact k _ (s5.trans sm6)
theorem Jpv:Jky ["self","thing"] ["self","thing"] (Jku (Jkx (top 6) 0)):=⟨rfl,rfl,rfl,by decide +kernel,rfl,by decide +kernel,by decide +kernel⟩
theorem Js0 (T:Tx K mg a):Sx P w K mg base CX0 1 a.Jfu a.Jfv ["self","thing"] (Joz K "thing"):=by
 refine T.Jc6.fn.ok Jpv (λvs H Q E h=>?_) (λcdv A outer s H vs Q E hr h=>?_)
 ·obtain ⟨e,C,W,fI,y,rfl,_⟩:=h
  rfl
 ·obtain ⟨e,C,W,fI,y,rfl,q,c,n,k⟩:=h
  refine ⟨_,(Jkr (Joa (pv 0) (pv 1) rfl)),?_⟩
  exact ⟨_,rfl,_,rfl,e,C,W,fI,true,rfl,q,c,n,k⟩
theorem Jpw:Jky ["self","thing"] ["self","thing"] (Jku (Jkx (top 7) 0)):=⟨rfl,rfl,rfl,by decide +kernel,rfl,by decide +kernel,by decide +kernel⟩
theorem Js1 (T:Tx K mg a):Sx P w K mg base CX0 1 a.Jfw a.Jfx ["self","thing"] (Joz K "thing"):=by
 refine T.Jc7.fn.ok Jpw (λvs H Q E h=>?_) (λcdv A outer s H vs Q E hr h=>?_)
 ·obtain ⟨e,C,W,fI,y,rfl,_⟩:=h
  rfl
 ·obtain ⟨e,C,W,fI,y,rfl,q,c,n,k⟩:=h
  refine ⟨_,(Jkr (Joa (pv 0) (pv 1) rfl)),?_⟩
  exact ⟨_,rfl,_,rfl,e,C,W,fI,true,rfl,q,c,n,k⟩
theorem Jwc {H:Hp} {p q:S5} {o u:HO} (h:p≠q):upd (upd H p o) q u=upd (upd H q u) p o:=by
 funext c
 by_cases h1:c=p
 ·subst h1
  rw [Sy,Jkt h,Sy]
 ·rw [Jkt h1]
  by_cases h2:c=q
  ·subst h2
   rw [Sy,Sy]
  ·rw [Jkt h2,Jkt h2,Jkt h1]
def Sh9 (c g b t:V):List (Str×V):=[("cloud",c),("gain",g),("basins",b),("towns",t)]
def Yan (K:Si) (a:Ad):Sp:=λvs H Q _=>∃(p dx l m:S5) (c g:Int) (os ts:List S5) (Bs:List Bsn) (Ts:List Twn),vs= [.ref p,.int c,.int g,.ref l,.ref m]/\H p=some (.ins a.Jkf dx [])/\(0<=c/\c<=12)/\(0<=g/\g<=c)/\H l=some (.lst (os.map V.ref))/\Sdk K a H os Bs/\(1<=Bs.length/\Bs.length<=16)/\(Bs.map (·.z)).Nodup/\H m=some (.lst (ts.map V.ref))/\Sdy a H ts Ts/\Ts.length<=3/\(Ts.map (·.z)).Nodup/\(∀t∈Ts,t.b∈Bs.map (·.z))/\∀H' b t,Sn H H'->H' b=some (.tup (os.map V.ref))->H' t=some (.tup (ts.map V.ref))->b≠p->t≠p->Q .non (upd H' p (.ins a.Jkf dx (Sh9 (.int c) (.int g) (.ref b) (.ref t))))
theorem Jnk {i lo hi:Int} (h1:lo<=i) (h2:i<=hi):Jlm (.int i) lo hi=true:=by
 show (decide (lo<=i)&&decide (i<=hi))=true
 rw [decide_eq_true h1,decide_eq_true h2]
 rfl
theorem Jra:Jky ["self","cloud","gain","basins","towns"] ["self","cloud","gain","basins","towns"] (Jku (Jkx (top 44) 0)):=⟨rfl,rfl,rfl,by decide +kernel,rfl,by decide +kernel,by decide +kernel⟩
theorem Jq2 (T:Tx K mg a):Sx P w K mg base (CXX P w) 4 a.Jhk a.Jhl ["self","cloud","gain","basins","towns"] (Yan K a):=by
 have Sad:=Jni (P:=P) (w:=w) (base:=base) T
 have Seg:=Jt5 (P:=P) (w:=w) (base:=base) T
 have Sf5:=Juo (P:=P) (w:=w) (base:=base) T
 have Sbo:=Js0 (P:=P) (w:=w) (base:=base) T
 have Sbp:=Js1 (P:=P) (w:=w) (base:=base) T
 refine T.Jcp.fn.okX Jra (λvs H Q E h=>?_) (λcdv A outer s H vs Q E hr h=>?_)
 ·obtain ⟨p,dx,l,m,c,g,os,ts,Bs,Ts,rfl,_⟩:=h
  rfl
 ·obtain ⟨p,dx,l,m,c,g,os,ts,Bs,Ts,rfl,hp,hc,hg,hl,bl,hn,nd,hm,tl,tn,tnd,inn,k⟩:=h
  refine ⟨?t,?B,?C⟩
  case B=>
   refine' Jkq ?O0 ?O1
   case O0=>
    refine' Jld ?O2 ?O3 ?O4
    case O2=>exact (Jlg (Jlh (Jkv T.J0 Sad hr (by decide) (So (pv 1) (So Sz (So (Jlc (by rfl) T.Jak (v:=.int 12) ⟨_,rfl⟩) Ss))))))
    case O3=>
     refine' Jkr ?O5
     case O5=>exact (Jlv Jlw rfl (Jmm T.Jd3 Sbo hr (by decide) T.Jc6.bd T.Jb7 (So (pv 1) Ss)))
    case O4=>exact Jl1
   case O1=>
   refine' Jkq ?O6 ?O7
   case O6=>
    refine' Jld ?O8 ?O9 ?Oa
    case O8=>exact (Jlg (Jlh (Jkv T.J0 Sad hr (by decide) (So (pv 2) (So Sz (So (pv 1) Ss))))))
    case O9=>
     refine' Jkr ?Ob
     case Ob=>exact (Jlv Jlw rfl (Jmm T.Jd3 Sbo hr (by decide) T.Jc6.bd T.Jb7 (So (pv 2) Ss)))
    case Oa=>exact Jl1
   case O7=>
   refine' Jkq ?Oc ?Od
   case Oc=>
    refine' Jld ?Oe ?Of ?Og
    case Oe=>exact (Jlg (Jlh (Jkv T.Jh Seg hr (by decide) (So (pv 3) Ss))))
    case Of=>
     refine' Jkr ?Oh
     case Oh=>exact (Jlv Jlw rfl (Jmm T.Jd4 Sbp hr (by decide) T.Jc7.bd T.Jb8 (So (pv 3) Ss)))
    case Og=>exact Jl1
   case Od=>
   refine' Jkq ?Oi ?Oj
   case Oi=>
    refine' Jld ?Ok ?Ol ?Om
    case Ok=>exact (Jlg (Jlh (Jkv T.Ji Sf5 hr (by decide) (So (pv 4) (So (pv 3) Ss)))))
    case Ol=>
     refine' Jkr ?On
     case On=>exact (Jlv Jlw rfl (Jmm T.Jd4 Sbp hr (by decide) T.Jc7.bd T.Jb8 (So (pv 4) Ss)))
    case Om=>exact Jl1
   case Oj=>
   refine' Jkq ?Oo ?Op
   case Oo=>exact (Jmb (pv 0) (pv 1) rfl)
   case Op=>
   refine' Jkq ?Oq ?Or
   case Oq=>exact (Jmb (pv 0) (pv 2) rfl)
   case Or=>
   refine' Jkq ?Os ?Ot
   case Os=>exact (Jmb (pv 0) (Jln Jmt (by rfl) T.Jb1 Jnh (So (pv 3) Ss)) rfl)
   case Ot=>
   refine' Jkr ?Ou
   case Ou=>exact (Jmb (pv 0) (Jln Jmt (by rfl) T.Jb1 Jnh (So (pv 4) Ss)) rfl)
  refine ⟨_,rfl,_,0,12,rfl,.inl ⟨_,rfl⟩,_,rfl,ifF (by rw [Jnk hc.1 hc.2];rfl) ?_⟩
  refine ⟨_,rfl,_,rfl,_,0,c,rfl,.inl ⟨_,rfl⟩,_,rfl,ifF (by rw [Jnk hg.1 hg.2];rfl) ?_⟩
  refine ⟨_,rfl,l,os,Bs,rfl,hl,bl,hn,nd,λH1 s1=>⟨_,rfl,Jlp ?_⟩⟩
  refine ⟨_,rfl,_,rfl,l,m,os,ts,Bs,Ts,rfl,s1 _ _ hl,bl.same s1,hn.2,s1 _ _ hm,tl.same s1,tn,tnd,inn,λH2 s2=>⟨_,rfl,Jlp ?_⟩⟩
  have s3:=s1.trans s2
  have hp2:=s3 _ _ hp
  refine ⟨_,rfl,_,rfl,p,_,dx,[],rfl,hp2,T.Jdy,T.Jer,by simp,?_⟩
  rw [show Jm8 "cloud" (.int c) []=([("cloud",.int c)]:List (Str×V)) from rfl]
  refine ⟨_,rfl,_,rfl,p,_,dx,_,rfl,Sy,T.Jdy,T.Jes,by simp,?_⟩
  rw [show Jm8 "gain" (.int g) [("cloud",.int c)]=([("cloud",.int c),("gain",.int g)]:List (Str×V)) from Jm9 (fs:=[("cloud",.int c)]) (show (["cloud"]:List Str).contains "gain" =false by decide +kernel),Jnu]
  have nl:l≠p:=λe=>by subst e;rw [hl] at hp;cases hp
  have nm:m≠p:=λe=>by subst e;rw [hm] at hp;cases hp
  refine ⟨_,rfl,l,_,rfl,.inl ⟨Sw.of (by rw [Jkt nl];exact s3 _ _ hl),λb hb=>?_⟩⟩
  have nb:b≠p:=λe=>by subst e;rw [Sy] at hb;cases hb
  rw [Jkt nb] at hb
  rw [Jwc nb.symm]
  refine ⟨_,rfl,p,_,dx,_,rfl,Sy,T.Jdy,T.Jet,by simp,?_⟩
  rw [show Jm8 "basins" (.ref b) [("cloud",.int c),("gain",.int g)]=([("cloud",.int c),("gain",.int g),("basins",.ref b)]:List (Str×V)) from Jm9 (fs:=[("cloud",.int c),("gain",.int g)]) (show (["cloud","gain"]:List Str).contains "basins" =false by decide +kernel),Jnu]
  have s4:=s3.trans (Sn.upd (o:=.tup (os.map V.ref)) hb)
  refine ⟨_,rfl,m,_,rfl,.inl ⟨Sw.of (by rw [Jkt nm];exact s4 _ _ hm),λt ht=>?_⟩⟩
  have nt:t≠p:=λe=>by subst e;rw [Sy] at ht;cases ht
  rw [Jkt nt] at ht
  rw [Jwc nt.symm]
  refine ⟨_,rfl,p,_,dx,_,rfl,Sy,T.Jdy,T.Jeu,by simp,?_⟩
  rw [show Jm8 "towns" (.ref t) [("cloud",.int c),("gain",.int g),("basins",.ref b)]=(Sh9 (.int c) (.int g) (.ref b) (.ref t)) from Jm9 (fs:=[("cloud",.int c),("gain",.int g),("basins",.ref b)]) (show (["cloud","gain","basins"]:List Str).contains "towns" =false by decide +kernel),Jnu]
  have s5:=Sn.upd (o:=.tup (ts.map V.ref)) ht
  exact k _ b t (s4.trans s5) (s5 _ _ Sy) Sy nb nt
def Yah (a:Ad):Sp:=λvs H Q _=>∃(m:S5) (kd:Str) (ns:List Int),vs= [.str kd,.ref m]/\H m=some (.lst (ns.map V.int))/\Sbv ⟨kd,ns,none⟩/\∀(g:S5) (H':Hp),Sn H H'->Sbj (cOf a kd) H' g (ns.map V.int)->Q (.ref g) H'
theorem Jw3:Jky ["_law_kind","_law_marks_here"] ["_law_kind","_law_marks_here"] (Jku (top 70)):=⟨rfl,rfl,rfl,by decide +kernel,rfl,by decide +kernel,by decide +kernel⟩
theorem Jvs (T:Tx K mg a):Sx P w K mg base CX0 6 a.Jja a.Jjb ["_law_kind","_law_marks_here"] (Yah a):=by
 have Sb0:=Jok (P:=P) (w:=w) (base:=base) T
 have Say:=Joi (P:=P) (w:=w) (base:=base) T
 have Saz:=Joj (P:=P) (w:=w) (base:=base) T
 refine T.Ja4.fn.ok Jw3 (λvs H Q E h=>?_) (λcdv A outer s H vs Q E hr h=>?_)
 ·obtain ⟨m,kd,ns,rfl,_⟩:=h
  rfl
 ·obtain ⟨m,kd,ns,rfl,hm,gg,k⟩:=h
  have hkd:Knd kd:=gg.kd
  have har:Jn1 (Jns kd) (ns.map V.int)=true:=gg.ns
  refine ⟨?t,?B,?C⟩
  case B=>
   refine' Jkq ?O0 ?O1
   case O0=>
    refine' Jld ?O2 ?O3 ?O4
    case O2=>exact (Jle Jmu (pv 0) Jl7 (Jla _))
    case O3=>
     refine' Jkr ?O5
     case O5=>exact (Jkz (Jmq T.Jd9 Sb0.calm (hr.mono (by decide)) (by rfl) T.Jbc T.Jcb.bd .nil Jlk (So (pv 1) Ss)))
    case O4=>exact Jl1
   case O1=>
   refine' Jkq ?O6 ?O7
   case O6=>
    refine' Jld ?O8 ?O9 ?Oa
    case O8=>exact (Jle Jmu (pv 0) Jl7 (Jla _))
    case O9=>
     refine' Jkr ?Ob
     case Ob=>exact (Jkz (Jmq T.Jdg Say.calm (hr.mono (by decide)) (by rfl) T.Jbd T.Jcf.bd .nil Jlk (So (pv 1) Ss)))
    case Oa=>exact Jl1
   case O7=>
   refine' Jkr ?Oc
   case Oc=>exact (Jkz (Jmq T.Jdn Saz.calm (hr.mono (by decide)) (by rfl) T.Jbe T.Jcj.bd .nil Jlk (So (pv 1) Ss)))
  rcases hkd with rfl|rfl|rfl
  ·have e1:Jns "step" =0:=if_neg Sir
   have e2:cOf a "step" =a.Jka:=if_pos rfl
   have hr':Jn1 (0) (ns.map V.int)=true:=by rw [<-e1];exact har
   refine ⟨_,rfl,rfl,_,rfl,Jwj rfl ⟨_,rfl,λg dx hg hd ne=>Jof T.Jd7 T.Jef hg hd ne ⟨ns.map V.int,.lst hm,λy hy=>Jpt hy,hr',λH' s' ga=>?_⟩⟩⟩
   exact k g H' s' (by rw [e2];exact ga)
  ·have e1:Jns "flap" =0:=if_neg Siq
   have e2:cOf a "flap" =a.Jkb:=by unfold cOf;rw [if_neg Jp7,if_pos rfl]
   have hr':Jn1 (0) (ns.map V.int)=true:=by rw [<-e1];exact har
   refine ⟨_,rfl,rfl,_,rfl,Jt4 (Jsx Jp7) ⟨_,rfl,rfl,_,rfl,Jwj rfl ⟨_,rfl,λg dx hg hd ne=>Jof T.Jde T.Jeg hg hd ne ⟨ns.map V.int,.lst hm,λy hy=>Jpt hy,hr',λH' s' ga=>?_⟩⟩⟩⟩
   exact k g H' s' (by rw [e2];exact ga)
  ·have e1:Jns "part" =1:=if_pos rfl
   have e2:cOf a "part" =a.Jkc:=by unfold cOf;rw [if_neg Jq0,if_neg Jpz]
   have hr':Jn1 (1) (ns.map V.int)=true:=by rw [<-e1];exact har
   refine ⟨_,rfl,rfl,_,rfl,Jt4 (Jsx Jq0) ⟨_,rfl,rfl,_,rfl,Jt4 (Jsx Jpz) ⟨_,rfl,λg dx hg hd ne=>Jof T.Jdl T.Jeh hg hd ne ⟨ns.map V.int,.lst hm,λy hy=>Jpt hy,hr',λH' s' ga=>?_⟩⟩⟩⟩
   exact k g H' s' (by rw [e2];exact ga)
def FIG:Str:="0123456789"
def nmS (i:Int):Str:=toString i
theorem Jum:∀n:Nat,n < 13->(decide (1<=(nmS n).length/\(nmS n).length<=6)&&Jqr FIG (nmS n)&&(decide (nmS n=("0" :Str))||!decide ((nmS n).cps.toList[0]?=some 48))&&decide (PySem.intText? (nmS n)=some (n:Int))&&(nmS n).cps.toList.all (λc=>decide (c≠32/\c≠10/\c < 128)))=true:=by decide +kernel
def Yal:Sp:=λvs H Q _=>∃n:Nat,vs= [.str (nmS n)]/\n < 13/\∀H',Sn H H'->Q (.bl true) H'
def Jzs:Sp:=λvs H Q _=>∃(n:Nat) (lo hi:Int),vs= [.str (nmS n),.int lo,.int hi]/\n < 13/\(lo<=n/\(n:Int)<=hi)/\∀H',Sn H H'->Q (.int n) H'
theorem Jw0:Jky ["text"] ["text"] (Jku (top 18)):=⟨rfl,rfl,rfl,by decide +kernel,rfl,by decide +kernel,by decide +kernel⟩
theorem Jvq (T:Tx K mg a):Sx P w K mg base CX0 2 a.Jg8 a.Jg9 ["text"] Yal:=by
 have Sc9:=Jq4 (P:=P) (w:=w) (base:=base) T
 refine T.Ja.fn.ok Jw0 (λvs H Q E h=>?_) (λcdv A outer s H vs Q E hr h=>?_)
 ·obtain ⟨n,rfl,_⟩:=h
  rfl
 ·obtain ⟨n,rfl,hn,k⟩:=h
  have ok:=Jum n hn
  simp only [yp] at ok
  obtain ⟨⟨⟨⟨h1,h2⟩,h3⟩,_⟩,_⟩:=ok
  generalize nmS n=z at h1 h2 h3
  have h1:=of_decide_eq_true h1
  refine ⟨_,(Jkq (Jld (PW.pt (Jp1 (Jlg (Jr6 Jp0 Jp0 Sz (Jl0 Jqx (by rfl) T.Jau Jlu (So (pv 0) Ss)) (Jlc (by rfl) T.Jad (v:=.int 6) ⟨_,rfl⟩))) (Jnn (Jlg (Jlh (Jkv T.J8 Sc9 hr (by decide) (So (pv 0) (So (Jlc (by rfl) T.Jab (v:=.str "0123456789") ⟨_,rfl⟩) Ss)))))))) (Jkr (Jkz Jml)) Jl1)
   (Jkr (Jkz (Smv (Jm5 Jmu (pv 0) Jl7 (Jla _)) (Jsp (Jm5 Jso (Jlf Jwk (pv 0) Sz (λ_ _=>rfl)) Jl7 (Jla _))))))),?_⟩
  refine ⟨_,rfl,z,rfl,Jlo _ (by omega),_,_,rfl,rfl,_,rfl,?_⟩
  rw [decide_eq_true (by omega:(1:Int)<=(z.length:Int))]
  refine Jn5 ⟨_,_,rfl,rfl,_,rfl,?_⟩
  rw [decide_eq_true (by omega:(z.length:Int)<=6)]
  refine Jlp ⟨_,rfl,z,_,rfl,by omega,λH' s'=>⟨_,rfl,?_⟩⟩
  have e':Jqr "0123456789" z=true:=h2
  rw [e']
  refine Jlp ⟨_,rfl,rfl,_,rfl,?_⟩
  by_cases hz0:z=("0" :Str)
  ·rw [decide_eq_true (congrArg V.str hz0:V.str z=V.str "0")]
   exact Jn5 (k H' s')
  ·rw [decide_eq_false (λq=>hz0 (V.str.inj q):¬V.str z=V.str "0")]
   have hl:0 < z.cps.toList.length:=by rw [Jou];omega
   refine Jlp ⟨_,rfl,z,0,z.cps.toList[0],rfl,rfl,Jlo _ (by omega),Jnb (j:=0) (yq hl),rfl,?_⟩
   rw [decide_eq_false hz0,Bool.false_or,yq hl] at h3
   have q:¬z.cps.toList[0]=48:=λq=>by rw [q] at h3;simp at h3
   have e0:("0" :Str)=⟨#[48]⟩:=by decide +kernel
   have e1:decide (V.str (⟨#[z.cps.toList[0]]⟩:Str)=V.str "0")=false:=by
    rw [e0]
    exact decide_eq_false (λr=>q (by simpa using r))
   rw [e1]
   exact k H' s'
theorem Sd9:Jky ["text","low","high","number"] ["text","low","high"] (Jku (top 19)):=⟨rfl,rfl,rfl,by decide +kernel,rfl,by decide +kernel,by decide +kernel⟩
theorem Jus (T:Tx K mg a):Sx P w K mg base CX0 3 a.Jga a.Jgb ["text","low","high"] Jzs:=by
 have Sfq:=Jvq (P:=P) (w:=w) (base:=base) T
 refine T.Jb.fn.ok Sd9 (λvs H Q E h=>?_) (λcdv A outer s H vs Q E hr h=>?_)
 ·obtain ⟨n,lo,hi,rfl,_⟩:=h
  rfl
 ·obtain ⟨n,lo,hi,rfl,hn,hb,k⟩:=h
  have ok:=Jum n hn
  simp only [yp] at ok
  obtain ⟨⟨⟨⟨h1,_⟩,_⟩,h4⟩,_⟩:=ok
  have h1:=of_decide_eq_true h1
  refine ⟨_,(Jkq (Jld (PW.pt (Jp1 (Jlg (Jlh (Jl0 Jmi (by rfl) T.Jat Jl8 (So (pv 0) (So (Jmv (v:=.ty "str") (by rfl) T.Jb0 Joo rfl) Ss))))) (Jnn (Jlg (Jlh (Jkv T.Ja Sfq hr (by decide) (So (pv 0) Ss))))))) (Jkr (Jkz Juz)) Jl1)
   (Jkq (Jl4 (i:=3) Sd9.nd rfl (ye rfl) (Jln Jqw (by rfl) T.Jas Jsa (So (pv 0) Ss)))
   (Jkr (Jkz (Jzd (Jr6 Jp0 Jp0 (pv 1) (pv 3) (pv 2)) (pv 3) Juz))))),?_⟩
  refine ⟨_,rfl,_,_,_,_,_,rfl,rfl,.of (.str _),rfl,_,rfl,Jlp ⟨_,rfl,n,rfl,hn,λH' s'=>⟨_,rfl,Jlp ?_⟩⟩⟩
  refine ⟨_,rfl,nmS n,n,rfl,of_decide_eq_true h4,by omega,?_⟩
  refine ⟨_,rfl,_,rfl,_,_,rfl,rfl,_,rfl,?_⟩
  rw [decide_eq_true hb.1]
  refine Jn5 ⟨_,rfl,_,_,rfl,rfl,_,rfl,?_⟩
  rw [decide_eq_true hb.2]
  exact Jn5 ⟨_,rfl,k H' s'⟩
def Btr (r:S5) (H H':Hp):Prop:=∀b o,b≠r->H b=some o->H' b=some o
theorem Btr.of {r:S5} {H H':Hp} (s:Sn H H'):Btr r H H':=λ_ _ _ e=>s _ _ e
theorem Btr.trans {r:S5} {H H' H'':Hp} (s:Btr r H H') (s':Btr r H' H''):Btr r H H'':=λb o n e=>s' b o n (s b o n e)
theorem Btr.put {r:S5} {H H':Hp} {o:HO} (s:Btr r H H'):Btr r H (upd H' r o):=λb o' n e=>by rw [Jkt n];exact s b o' n e
def rdF (l:Int) (k:Int) (P:S5):List (Str×V):=[("line",.int l),("place",.int k),("parts",.ref P)]
def Sav (a:Ad) (H:Hp) (r:S5) (k:Nat) (ws:List Str):Prop:=∃(dx P:S5) (l:Int),H r=some (.ins a.Jkg dx (rdF l k P))/\H P=some (.lst (ws.map V.str))/\ws.length<=100
theorem Sav.same {a:Ad} {H H':Hp} {r:S5} {k:Nat} {ws:List Str} (s:Sn H H') (h:Sav a H r k ws):Sav a H' r k ws:=by
 obtain ⟨dx,P,l,h1,h2,h3⟩:=h
 exact ⟨dx,P,l,s _ _ h1,s _ _ h2,h3⟩
def noC (c:Nat) (z:Str):Prop:=c∉z.cps.toList
def SPC:Str:=" "
theorem Jwz:SPC=⟨#[32]⟩:=by decide +kernel
def Sn5 (a:Ad):Sp:=λvs H Q _=>∃(r:S5) (k:Nat) (ws:List Str),vs= [.ref r]/\Sav a H r k ws/\Q (.bl (decide (k=ws.length))) H
def Jw7 (a:Ad):Sp:=λvs H Q _=>∃(r dx:S5) (l:Int) (ws:List Str),vs= [.ref r,.int l,.str (Txt.join SPC ws)]/\H r=some (.ins a.Jkg dx [])/\ws≠ []/\(∀z∈ws,noC 32 z)/\ws.length<=100/\(Txt.join SPC ws).length<=100000/\∀H',Btr r H H'->Sav a H' r 0 ws->Q .non H'
theorem Jql:Jky ["self","line","place"] ["self","line","place"] (Jku (Jkx (top 8) 0)):=⟨rfl,rfl,rfl,by decide +kernel,rfl,by decide +kernel,by decide +kernel⟩
theorem Jo0 (T:Tx K mg a):Sx P w K mg base CX0 1 a.Jfy a.Jfz ["self","line","place"] (Ske K "line" "place"):=by
 refine T.Jc8.fn.ok Jql (λvs H Q E h=>?_) (λcdv A outer s H vs Q E hr h=>?_)
 ·obtain ⟨e,C,W,fI,y,z,rfl,_⟩:=h
  rfl
 ·obtain ⟨e,C,W,fI,y,z,rfl,q,c,n1,n2,k⟩:=h
  refine ⟨_,(Jkq (Joa (pv 0) (pv 1) rfl)
   (Jkr (Ya5 (pv 0) (pv 2) rfl))),?_⟩
  refine ⟨_,rfl,_,rfl,e,C,W,fI,true,rfl,q,c,n1,λdx h1 h2=>?_⟩
  refine ⟨_,rfl,_,rfl,e,C,W,fI,dx,_,true,rfl,Sy,by rw [Jkt h2,Sy],c,n2,by simp,?_⟩
  have zz:=k dx h1 h2
  have e2:upd (upd (upd H dx (XD dx [("line",y)])) e (XO e C (some dx) true)) dx (XD dx (Jm8 "place" z [("line",y)]))=upd (upd H dx (XD dx (Jm8 "place" z [("line",y)]))) e (XO e C (some dx) true):=by
   funext b
   unfold upd
   by_cases h3:b=dx
   ·subst h3
    simp [h2]
   ·simp [h3]
  show Q .non _
  rw [e2]
  exact zz
theorem Jph:Jky ["self"] ["self"] (Jku (Jkx (top 51) 1)):=⟨rfl,rfl,rfl,by decide +kernel,rfl,by decide +kernel,by decide +kernel⟩
theorem Jmk (T:Tx K mg a):Sx P w K mg base CX0 1 a.Ji0 a.Ji1 ["self"] (Sn5 a):=by
 refine T.Jct.fn.ok Jph (λvs H Q E h=>?_) (λcdv A outer s H vs Q E hr h=>?_)
 ·obtain ⟨r,k,ws,rfl,_⟩:=h
  rfl
 ·obtain ⟨r,k,ws,rfl,⟨dx,P,l,h1,h2,h3⟩,q⟩:=h
  refine ⟨_,(Jkr (Jkz (Jm5 Jmu (Jl5 (pv 0) (by rfl)) (Jl0 Jl2 (by rfl) T.Jau Jlu (So (Jl5 (pv 0) (by rfl)) Ss)) (Jla _)))),?_⟩
  refine ⟨_,rfl,r,_,dx,_,_,rfl,h1,T.Je3,T.Jew,rfl,_,rfl,r,_,dx,_,_,rfl,h1,T.Je3,T.Jex,rfl,P,_,rfl,.inl (Sw.of h2),rfl,?_⟩
  have e:decide (V.int (k:Int)=V.int (((ws.map V.str).length:Nat):Int))=decide (k=ws.length):=by
   rw [yf]
   by_cases c:k=ws.length
   ·rw [c];simp
   ·rw [decide_eq_false c,decide_eq_false (λz=>c (by have:=V.int.inj z;omega))]
  rw [e]
  exact q
theorem Jox:Jky ["self","line","row"] ["self","line","row"] (Jku (Jkx (top 51) 0)):=⟨rfl,rfl,rfl,by decide +kernel,rfl,by decide +kernel,by decide +kernel⟩
theorem Jq7 (T:Tx K mg a):Sx P w K mg base CX0 1 a.Jhy a.Jhz ["self","line","row"] (Jw7 a):=by
 refine T.Jcs.fn.ok Jox (λvs H Q E h=>?_) (λcdv A outer s H vs Q E hr h=>?_)
 ·obtain ⟨r,dx,l,ws,rfl,_⟩:=h
  rfl
 ·obtain ⟨r,dx,l,ws,rfl,hr0,h0,hf,hl,hz,k⟩:=h
  refine ⟨_,(Jkq (Jmb (pv 0) (pv 1) rfl)
   (Jkq (Jmb (pv 0) Sz rfl)
   (Jkr (Jmb (pv 0) (Jmg F.plainAttrs_str F.slot_str_split F.type_str_split Jvo (pv 2) (So Jl7 Ss)) rfl)))),?_⟩
  refine ⟨_,rfl,_,rfl,r,_,dx,[],rfl,hr0,T.Je3,T.Jev,by simp,?_⟩
  rw [show Jm8 "line" (V.int l) []=([("line",V.int l)]:List (Str×V)) from rfl]
  refine ⟨_,rfl,r,_,dx,_,rfl,Sy,T.Je3,T.Jew,by simp,?_⟩
  rw [show Jm8 "place" (V.int 0) [("line",V.int l)]=([("line",V.int l),("place",V.int 0)]:List (Str×V)) from Jm9 (fs:=[("line",V.int l)]) (show (["line"]:List Str).contains "place" =false by decide +kernel),Jnu]
  refine ⟨_,rfl,rfl,_,SPC,rfl,rfl,by decide +kernel,hz,λD hD=>?_⟩
  rw [Jwz,Jsw h0 hf]
  have nD:D≠r:=λz=>by rw [z,Sy] at hD;cases hD
  refine ⟨_,rfl,r,_,dx,_,rfl,(by rw [Jkt (ym nD)];exact Sy),T.Je3,T.Jex,by simp,?_⟩
  rw [show Jm8 "parts" (V.ref D) [("line",V.int l),("place",V.int 0)]=rdF l (0:Nat) D from Jm9 (fs:=[("line",V.int l),("place",V.int 0)]) (show (["line","place"]:List Str).contains "parts" =false by decide +kernel)]
  refine k _ (λb o n e=>?_) ⟨dx,D,l,Sy,by rw [Jkt nD];exact Sy,hl⟩
  have nb:b≠D:=λz=>by rw [z] at e;rw [Jkt nD] at hD;rw [e] at hD;cases hD
  rw [Jkt n,Jkt nb,Jkt n]
  exact e
abbrev lb_LineReader_take_of:Array (Nat×Nat×Str):=#[((Jny (Jn8 (Jkx (top 51) 3))).line,(Jny (Jn8 (Jkx (top 51) 3))).col,"LineReader.take_of.<locals>.<lambda>")]
abbrev lb_LineReader_take_new_name:Array (Nat×Nat×Str):=#[((Jny (Jn8 (Jkx (top 51) 4))).line,(Jny (Jn8 (Jkx (top 51) 4))).col,"LineReader.take_new_name.<locals>.<lambda>")]
abbrev lb_LineReader_take_number:Array (Nat×Nat×Str):=#[((Jny (Jn8 (Jkx (top 51) 5))).line,(Jny (Jn8 (Jkx (top 51) 5))).col,"LineReader.take_number.<locals>.<lambda>")]
theorem Ys {z:Str} {zs:List Str} (h:z∈zs):inV (.str z) (zs.map V.str)=true:=by
 unfold inV
 rw [List.any_eq_true]
 exact ⟨_,List.mem_map_of_mem h,by simp [eqV]⟩
theorem Jwq {z:Str} {zs:List Str} (h:z∉zs):inV (.str z) (zs.map V.str)=false:=by
 unfold inV
 rw [List.any_eq_false]
 intro x hx
 obtain ⟨y,hy,rfl⟩:=yag.mp hx
 simp only [eqV,beq_iff_eq]
 exact λe=>h (e▸hy)
theorem Jtu (zs:List Str):(zs.map V.str).all Jpy=true:=by
 rw [yai]
 intro x hx
 obtain ⟨y,_,rfl⟩:=yag.mp hx
 rfl
theorem Yac {K:Si} {H H':Hp} {A:S5} {xs:List V} (s:Sn H H') (h:SqT K H A xs):SqT K H' A xs:=by
 rcases h with (h|⟨o,h⟩)|h
 ·exact .inl (.inl (s _ _ h))
 ·exact .inl (.inr ⟨o,s _ _ h⟩)
 ·exact .inr h
def Sn8 (K:Si):List V->Sp:=λcs vs H Q _=>∃(A:S5) (zs:List Str) (z:Str),cs= [.ref A]/\vs= [.str z]/\(Sw K H A (zs.map V.str)\/SqT K H A (zs.map V.str))/\z∈zs/\∀H',Sn H H'->Q (.bl true) H'
def Sn9 (K:Si):List V->Sp:=λcs vs H Q _=>∃(A:S5) (zs:List Str) (z:Str),cs= [.ref A]/\vs= [.str z]/\Sw K H A (zs.map V.str)/\z∉zs/\Jno z=true/\Wd 50 z/\∀H',Sn H H'->Q (.bl true) H'
def Sna:List V->Sp:=λcs vs H Q _=>∃(lo hi:Int) (n:Nat),cs= [.int lo,.int hi]/\vs= [.str (nmS n)]/\n < 13/\(lo<=n/\(n:Int)<=hi)/\∀H',Sn H H'->Q (.bl true) H'
def Sit (K:Si) (f:S5):Sp:=λvs H Q E=>Jrx "LineReader.take_of.<locals>.<lambda>" (Jn8 (Jkx (top 51) 3)) ["allowed"] (Sn8 K) f vs H Q E\/(Jrx "LineReader.take_new_name.<locals>.<lambda>" (Jn8 (Jkx (top 51) 4)) ["names"] (Sn9 K) f vs H Q E\/Jrx "LineReader.take_number.<locals>.<lambda>" (Jn8 (Jkx (top 51) 5)) ["low","high"] Sna f vs H Q E)
def Srj (K:Si) (a:Ad):Sp:=λvs H Q _=>∃(r f:S5) (k:Nat) (ws:List Str) (z:Str),vs= [.ref r,.ref f]/\Sav a H r k ws/\ws[k]?=some z/\(∀Q',(∀H',Sn H H'->Q' (.bl true) H')->Sit K f [.str z] H Q' E0)/\∀H',Btr r H H'->Sav a H' r (k+1) ws->Q (.str z) H'
theorem Jo6:Joc ["part","allowed"] ["part"] ["allowed"] (Jlb (Jn8 (Jkx (top 51) 3))):=⟨rfl,rfl,rfl,by decide +kernel,rfl,by decide +kernel,by decide +kernel,by decide +kernel⟩
theorem Jz7 (T:Tx K mg a) (f:S5):Sbz P w K mg base CX0 3 f (Jrx "LineReader.take_of.<locals>.<lambda>" (Jn8 (Jkx (top 51) 3)) ["allowed"] (Sn8 K) f):=by
 refine Juh Jo6 (λ_ _ _ _ us hl=>by obtain ⟨_,rfl⟩:=lv1 us hl;rfl) (λcs vs H Q E h=>?_) (λf c clos A outer s H vs cs Q E hr h=>?_) f
 ·obtain ⟨A,zs,z,rfl,rfl,_⟩:=h
  exact ⟨rfl,rfl⟩
 ·obtain ⟨A,zs,z,rfl,rfl,hA,hz,k⟩:=h
  refine ⟨_,(Jm5 Ju1 (pv 0) (pv 1) (by with_unfolding_all rfl)),?_⟩
  refine ⟨_,rfl,_,rfl,A,_,rfl,hA,rfl,Jtu zs,?_⟩
  rw [if_neg yv,Ys hz]
  exact k H (Sn.refl H)
theorem Jn6:Joc ["part","names"] ["part"] ["names"] (Jlb (Jn8 (Jkx (top 51) 4))):=⟨rfl,rfl,rfl,by decide +kernel,rfl,by decide +kernel,by decide +kernel,by decide +kernel⟩
theorem Jz8 (T:Tx K mg a) (f:S5):Sbz P w K mg base CX0 3 f (Jrx "LineReader.take_new_name.<locals>.<lambda>" (Jn8 (Jkx (top 51) 4)) ["names"] (Sn9 K) f):=by
 have Sbl:=Jqb (P:=P) (w:=w) (base:=base) T
 refine Juh Jn6 (λ_ _ _ _ us hl=>by obtain ⟨_,rfl⟩:=lv1 us hl;rfl) (λcs vs H Q E h=>?_) (λf c clos A outer s H vs cs Q E hr h=>?_) f
 ·obtain ⟨A,zs,z,rfl,rfl,_⟩:=h
  exact ⟨rfl,rfl⟩
 ·obtain ⟨A,zs,z,rfl,rfl,hA,hz,nz,wd,k⟩:=h
  refine ⟨_,(Juy (Jkv T.J9 Sbl hr (by decide) (So (pv 0) Ss)) (Jsp (Jm5 Jux (pv 0) (pv 1) (by with_unfolding_all rfl)))),?_⟩
  refine ⟨_,rfl,.str z,rfl,⟨.inr ⟨_,.of (.str z),rfl⟩,λy e=>by cases e;exact wd⟩,λH1 s1=>?_⟩
  refine ⟨_,rfl,ifT nz ?_⟩
  refine ⟨_,rfl,_,rfl,A,_,rfl,.inl (s1.seq hA),rfl,Jtu zs,?_⟩
  rw [if_pos rfl,Jwq hz]
  exact k H1 s1
theorem Jnj:Joc ["part","low","high"] ["part"] ["low","high"] (Jlb (Jn8 (Jkx (top 51) 5))):=⟨rfl,rfl,rfl,by decide +kernel,rfl,by decide +kernel,by decide +kernel,by decide +kernel⟩
theorem Jz9 (T:Tx K mg a) (f:S5):Sbz P w K mg base CX0 4 f (Jrx "LineReader.take_number.<locals>.<lambda>" (Jn8 (Jkx (top 51) 5)) ["low","high"] Sna f):=by
 have Sf7:=Jus (P:=P) (w:=w) (base:=base) T
 refine Juh Jnj (λ_ _ _ _ us hl=>by obtain ⟨_,rfl⟩:=lv1 us hl;rfl) (λcs vs H Q E h=>?_) (λf c clos A outer s H vs cs Q E hr h=>?_) f
 ·obtain ⟨lo,hi,n,rfl,rfl,_⟩:=h
  exact ⟨rfl,rfl⟩
 ·obtain ⟨lo,hi,n,rfl,rfl,hn,hb,k⟩:=h
  refine ⟨_,(Jm5 Ya1 (Jkv T.Jb Sf7 hr (by decide) (So (pv 0) (So (pv 1) (So (pv 2) Ss)))) Juz (Jla _)),?_⟩
  exact ⟨_,rfl,_,rfl,_,rfl,n,lo,hi,rfl,hn,hb,λH1 s1=>⟨rfl,k H1 s1⟩⟩
theorem Sk2 (T:Tx K mg a) (f:S5):Sbz P w K mg base CX0 4 f (Sit K f):=((Jz7 T f).mono (by decide)).or (((Jz8 T f).mono (by decide)).or (Jz9 T f))
theorem Jqi:Jky ["self","can_stand"] ["self","can_stand"] (Jku (Jkx (top 51) 2)):=⟨rfl,rfl,rfl,by decide +kernel,rfl,by decide +kernel,by decide +kernel⟩
theorem Jmx (T:Tx K mg a):Sx P w K mg base (CXX P w) 5 a.Ji2 a.Ji3 ["self","can_stand"] (Srj K a):=by
 have Sa9:=Jmk (P:=P) (w:=w) (base:=base) T
 have Sf6:=λf=>Sk2 (P:=P) (w:=w) (base:=base) T f
 have Sa8:=Jo0 (P:=P) (w:=w) (base:=base) T
 refine T.Jcu.fn.okX Jqi (λvs H Q E h=>?_) (λcdv A outer s H vs Q E hr h=>?_)
 ·obtain ⟨r,f,k,ws,z,rfl,_⟩:=h
  rfl
 ·obtain ⟨r,f,k,ws,z,rfl,rd,hz,can,q⟩:=h
  have kl:k < ws.length:=(yw.mp hz).1
  refine ⟨?t,?B,?C⟩
  case B=>
   refine' Jkq ?O0 ?O1
   case O0=>
    refine' Jld ?O2 ?O3 ?O4
    case O2=>exact (PW.pt (Jp1 (Jlh (Jo3 (pv 0) T.Je3 T.Je5 Sa9 (hr.mono (by decide)) T.Jct.bd .nil Jlk)) (Jnn (Jlg (Jlh (Jzc Sf6 hr (by decide) 1 (So (Jlf Jl6 (Jl5 (pv 0) (by rfl)) (Jl5 (pv 0) (by rfl)) (λ_ _=>rfl)) Ss)))))))
    case O3=>
     refine' Jkr ?O5
     case O5=>exact (Jlv Jlw rfl (Jmm T.Jd5 Sa8 hr (by decide) T.Jc8.bd T.Jb9 (So (Jl5 (pv 0) (by rfl)) (So (Jl5 (pv 0) (by rfl)) Ss))))
    case O4=>exact Jl1
   case O1=>
   refine' Jkq ?O6 ?O7
   case O6=>exact (Jy7 (pv 0) Sz Sjt)
   case O7=>
   refine' Jkr ?O8
   case O8=>exact (Jkz (Jlf Jl6 (Jl5 (pv 0) (by rfl)) (Jl9 Jo1 (Jl5 (pv 0) (by rfl)) Sz) (λ_ _=>rfl)))
  obtain ⟨dx,P,l,h1,h2,h3⟩:=id rd
  refine ⟨_,rfl,r,dx,_,rfl,h1,by rfl,r,k,ws,rfl,rd,_,rfl,ifF (decide_eq_false (by omega)) ?_⟩
  have az:atI (ws.map V.str) (k:Int)=some (.str z):=Jnb (by rw [yk,hz];rfl)
  refine ⟨f,rfl,_,rfl,r,_,dx,_,_,rfl,h1,T.Je3,T.Jex,rfl,_,rfl,r,_,dx,_,_,rfl,h1,T.Je3,T.Jew,rfl,P,_,(k:Int),_,rfl,rfl,Sw.of h2,az,?_⟩
  refine can _ λH1 s1=>?_
  refine ⟨_,rfl,Jlp ?_⟩
  have nP:P≠r:=λe=>by rw [e,h1] at h2;cases h2
  refine ⟨_,rfl,r,_,dx,_,_,rfl,s1 _ _ h1,T.Je3,T.Jew,rfl,_,_,rfl,rfl,dx,_,s1 _ _ h1,by simp [rdF],?_⟩
  have ep:Jm8 "place" (V.int ((k:Int)+1)) (rdF l k P)=rdF l ((k+1:Nat):Int) P:=by
   rw [show ((k+1:Nat):Int)=(k:Int)+1 by omega]
   rfl
  rw [ep]
  have h1':(upd H1 r (.ins a.Jkg dx (rdF l ((k+1:Nat):Int) P))) r=some (.ins a.Jkg dx (rdF l ((k+1:Nat):Int) P)):=Sy
  have h2':(upd H1 r (.ins a.Jkg dx (rdF l ((k+1:Nat):Int) P))) P=some (.lst (ws.map V.str)):=by rw [Jkt nP];exact s1 _ _ h2
  refine ⟨_,rfl,r,_,dx,_,_,rfl,h1',T.Je3,T.Jex,rfl,_,rfl,r,_,dx,_,_,rfl,h1',T.Je3,T.Jew,rfl,_,_,rfl,rfl,P,_,(k:Int),_,rfl,(congrArg V.int (show (((k+1:Nat):Int) - 1)=(k:Int) by omega)),Sw.of h2',az,?_⟩
  exact q _ (Btr.put (Btr.of s1)) ⟨dx,P,l,h1',h2',h3⟩
def Sri (K:Si) (a:Ad):Sp:=λvs H Q _=>∃(r A:S5) (k:Nat) (ws zs:List Str) (z:Str),vs= [.ref r,.ref A]/\H a.Jki=some (.tbl lb_LineReader_take_of)/\Sav a H r k ws/\ws[k]?=some z/\(Sw K H A (zs.map V.str)\/SqT K H A (zs.map V.str))/\z∈zs/\∀H',Btr r H H'->Sav a H' r (k+1) ws->Q (.str z) H'
def Snc (K:Si) (a:Ad):Sp:=λvs H Q _=>∃(r A:S5) (k:Nat) (ws zs:List Str) (z:Str),vs= [.ref r,.ref A]/\H a.Jkk=some (.tbl lb_LineReader_take_new_name)/\Sav a H r k ws/\ws[k]?=some z/\Sw K H A (zs.map V.str)/\z∉zs/\Jno z=true/\Wd 50 z/\∀H',Btr r H H'->Sav a H' r (k+1) ws->Q (.str z) H'
def Snd (a:Ad):Sp:=λvs H Q _=>∃(r:S5) (lo hi:Int) (k n:Nat) (ws:List Str),vs= [.ref r,.int lo,.int hi]/\H a.Jkm=some (.tbl lb_LineReader_take_number)/\Sav a H r k ws/\ws[k]?=some (nmS n)/\n < 13/\(lo<=n/\(n:Int)<=hi)/\∀H',Btr r H H'->Sav a H' r (k+1) ws->Q (.int n) H'
def Skd (a:Ad):Sp:=λvs H Q _=>∃(r:S5) (ws:List Str),vs= [.ref r]/\Sav a H r ws.length ws/\Q .non H
theorem Joy:Jky ["self"] ["self"] (Jku (Jkx (top 51) 6)):=⟨rfl,rfl,rfl,by decide +kernel,rfl,by decide +kernel,by decide +kernel⟩
theorem Jn3 (T:Tx K mg a):Sx P w K mg base (CXX P w) 3 a.Jia a.Jib ["self"] (Skd a):=by
 have Sa9:=Jmk (P:=P) (w:=w) (base:=base) T
 have Sa8:=Jo0 (P:=P) (w:=w) (base:=base) T
 refine T.Jcy.fn.okX Joy (λvs H Q E h=>?_) (λcdv A outer s H vs Q E hr h=>?_)
 ·obtain ⟨r,ws,rfl,_⟩:=h
  rfl
 ·obtain ⟨r,ws,rfl,rd,q⟩:=h
  refine ⟨?t,?B,?C⟩
  case B=>
   refine' Jkr ?O0
   case O0=>
   refine' Jld ?O1 ?O2 ?O3
   case O1=>exact (Jlg (Jlh (Jo3 (pv 0) T.Je3 T.Je5 Sa9 (hr.mono (by decide)) T.Jct.bd .nil Jlk)))
   case O2=>
    refine' Jkr ?O4
    case O4=>exact (Jlv Jlw rfl (Jmm T.Jd5 Sa8 hr (by decide) T.Jc8.bd T.Jb9 (So (Jl5 (pv 0) (by rfl)) (So (Jl5 (pv 0) (by rfl)) Ss))))
   case O3=>exact Jl1
  obtain ⟨dx,P,l,h1,h2,h3⟩:=id rd
  refine ⟨_,rfl,r,dx,_,rfl,h1,by rfl,r,_,ws,rfl,rd,_,rfl,?_⟩
  rw [decide_eq_true rfl]
  exact Jlp q
theorem Jp2:Jky ["self","allowed"] ["self","allowed"] (Jku (Jkx (top 51) 3)):=⟨rfl,rfl,rfl,by decide +kernel,rfl,by decide +kernel,by decide +kernel⟩
theorem Jm1 (T:Tx K mg a) (B:Bmn mg base):Sx P w K mg base CX0 6 a.Ji4 a.Ji5 ["self","allowed"] (Sri K a):=by
 have Saf:=Jmx (P:=P) (w:=w) (base:=base) T
 refine T.Jcv.fn.okN T.Jey Jp2 (λvs H Q E h=>?_) (λA outer s H vs Q E hr h=>?_)
 ·obtain ⟨r,A,k,ws,zs,z,rfl,_⟩:=h
  rfl
 ·obtain ⟨r,A,k,ws,zs,z,rfl,ht,rd,hz,hA,mz,q⟩:=h
  refine ⟨_,PB.nox ((Jwt (caps:=[("allowed",1)]) (by intro y hy;simp only [yi,yt,or_false] at hy;rcases hy with rfl <;> exact ⟨rfl,rfl,rfl⟩) (PSs.pb (Jkr (Jkz (Jlx (pv 0) T.Je3 T.Je6 Saf.calm (hr.mono (by decide)) T.Jcu.bd .nil Jlk (So (Jwu (e:=Jn8 (Jkx (top 51) 3)) (qual:="LineReader.take_of.<locals>.<lambda>") (lb:=lb_LineReader_take_of) (caps:=["allowed"]) T.Jey B rfl rfl rfl rfl Jwl (λ_=>Jui) (by decide +kernel) (by decide +kernel)) Ss))))))),?_⟩
  refine ⟨[.ref A],?_,rfl,λH1 s1 ce=>?_⟩
  ·intro y hy
   simp only [List.zip_cons_cons,List.zip_nil_right,yi,yt,or_false] at hy
   subst hy
   rfl
  obtain ⟨dx,P,l,h1,h2,h3⟩:=rd.same s1
  refine ⟨_,rfl,r,dx,_,rfl,h1,by rfl,s1 _ _ ht,[.ref A],ce,λf H2 s2 hf la=>?_⟩
  have s12:=s1.trans s2
  refine ⟨r,f,k,ws,z,rfl,rd.same s12,hz,λQ' kq=>.inl ⟨[.ref A],la,A,zs,z,rfl,rfl,?_,mz,kq⟩,λH3 b3 rd3=>q H3 ((Btr.of s12).trans b3) rd3⟩
  rcases hA with h|h
  ·exact .inl (s12.seq h)
  ·exact .inr (Yac s12 h)
theorem Jnt:Jky ["self","names"] ["self","names"] (Jku (Jkx (top 51) 4)):=⟨rfl,rfl,rfl,by decide +kernel,rfl,by decide +kernel,by decide +kernel⟩
theorem Jmf (T:Tx K mg a) (B:Bmn mg base):Sx P w K mg base CX0 6 a.Ji6 a.Ji7 ["self","names"] (Snc K a):=by
 have Saf:=Jmx (P:=P) (w:=w) (base:=base) T
 refine T.Jcw.fn.okN T.Jez Jnt (λvs H Q E h=>?_) (λA outer s H vs Q E hr h=>?_)
 ·obtain ⟨r,A,k,ws,zs,z,rfl,_⟩:=h
  rfl
 ·obtain ⟨r,A,k,ws,zs,z,rfl,ht,rd,hz,hA,mz,nz,wd,q⟩:=h
  refine ⟨_,PB.nox ((Jwt (caps:=[("names",1)]) (by intro y hy;simp only [yi,yt,or_false] at hy;rcases hy with rfl <;> exact ⟨rfl,rfl,rfl⟩) (PSs.pb (Jkr (Jkz (Jlx (pv 0) T.Je3 T.Je6 Saf.calm (hr.mono (by decide)) T.Jcu.bd .nil Jlk (So (Jwu (e:=Jn8 (Jkx (top 51) 4)) (qual:="LineReader.take_new_name.<locals>.<lambda>") (lb:=lb_LineReader_take_new_name) (caps:=["names"]) T.Jez B rfl rfl rfl rfl Jwl (λ_=>Jui) (by decide +kernel) (by decide +kernel)) Ss))))))),?_⟩
  refine ⟨[.ref A],?_,rfl,λH1 s1 ce=>?_⟩
  ·intro y hy
   simp only [List.zip_cons_cons,List.zip_nil_right,yi,yt,or_false] at hy
   subst hy
   rfl
  obtain ⟨dx,P,l,h1,h2,h3⟩:=rd.same s1
  refine ⟨_,rfl,r,dx,_,rfl,h1,by rfl,s1 _ _ ht,[.ref A],ce,λf H2 s2 hf la=>?_⟩
  have s12:=s1.trans s2
  exact ⟨r,f,k,ws,z,rfl,rd.same s12,hz,λQ' kq=>.inr (.inl ⟨[.ref A],la,A,zs,z,rfl,rfl,s12.seq hA,mz,nz,wd,kq⟩),λH3 b3 rd3=>q H3 ((Btr.of s12).trans b3) rd3⟩
theorem Jo5:Jky ["self","low","high"] ["self","low","high"] (Jku (Jkx (top 51) 5)):=⟨rfl,rfl,rfl,by decide +kernel,rfl,by decide +kernel,by decide +kernel⟩
theorem Jlq (T:Tx K mg a) (B:Bmn mg base):Sx P w K mg base CX0 6 a.Ji8 a.Ji9 ["self","low","high"] (Snd a):=by
 have Saf:=Jmx (P:=P) (w:=w) (base:=base) T
 refine T.Jcx.fn.okN T.Jf0 Jo5 (λvs H Q E h=>?_) (λA outer s H vs Q E hr h=>?_)
 ·obtain ⟨r,lo,hi,k,n,ws,rfl,_⟩:=h
  rfl
 ·obtain ⟨r,lo,hi,k,n,ws,rfl,ht,rd,hz,hn,hb,q⟩:=h
  have ok:=Jum n hn
  simp only [yp] at ok
  obtain ⟨⟨⟨⟨x1,_⟩,_⟩,x4⟩,_⟩:=ok
  have x1:=of_decide_eq_true x1
  refine ⟨_,PB.nox ((Jwt (caps:=[("low",1),("high",2)]) (by intro y hy;simp only [yi,yt,or_false] at hy;rcases hy with rfl|rfl <;> exact ⟨rfl,rfl,rfl⟩) (PSs.pb (Jkr (Jkz (Jln Jqw (by rfl) T.Jas Jsa (So (Jlx (pv 0) T.Je3 T.Je6 Saf.calm (hr.mono (by decide)) T.Jcu.bd .nil Jlk (So (Jwu (e:=Jn8 (Jkx (top 51) 5)) (qual:="LineReader.take_number.<locals>.<lambda>") (lb:=lb_LineReader_take_number) (caps:=["low","high"]) T.Jf0 B rfl rfl rfl rfl Jwl (λ_=>Jui) (by decide +kernel) (by decide +kernel)) Ss)) Ss))))))),?_⟩
  refine ⟨[.int lo,.int hi],?_,rfl,λH1 s1 ce=>?_⟩
  ·intro y hy
   simp only [List.zip_cons_cons,List.zip_nil_right,yi,yt,or_false] at hy
   rcases hy with rfl|rfl <;> rfl
  obtain ⟨dx,P,l,h1,h2,h3⟩:=rd.same s1
  refine ⟨_,rfl,r,dx,_,rfl,h1,by rfl,s1 _ _ ht,[.int lo,.int hi],ce,λf H2 s2 hf la=>?_⟩
  have s12:=s1.trans s2
  exact ⟨r,f,k,ws,nmS n,rfl,rd.same s12,hz,λQ' kq=>.inr (.inr ⟨[.int lo,.int hi],la,lo,hi,n,rfl,rfl,hn,hb,kq⟩),λH3 b3 rd3=>⟨nmS n,n,rfl,of_decide_eq_true x4,by omega,q H3 ((Btr.of s12).trans b3) rd3⟩⟩
theorem Jnv:∀(ns:List Int) (lo:Int),Jlz lo (ns.map V.int)=true->∀(j:Nat) (x:Int),ns[j]?=some x->(j=0->lo<=x)/\(∀y,j≠0->ns[j - 1]?=some y->y+1<=x)/\lo<=x/\x<=12:=by
 intro ns
 induction ns with
 |nil=>intro lo _ j x h;simp at h
 |cons m ns ih=>
  intro lo h j x hx
  have h':((decide (lo<=m)&&decide (m<=12))&&Jlz (m+1) (ns.map V.int))=true:=h
  simp only [yp,decide_eq_true_eq] at h'
  obtain ⟨⟨h1,h2⟩,h3⟩:=h'
  cases j with
  |zero=>
   cases hx
   exact ⟨λ_=>h1,λy n=>absurd rfl n,h1,h2⟩
  |succ j=>
   have hx':ns[j]?=some x:=hx
   obtain ⟨g1,g2,g3,g4⟩:=ih (m+1) h3 j x hx'
   refine ⟨λz=>absurd z (Nat.succ_ne_zero j),λy _ hy=>?_,by omega,g4⟩
   cases j with
   |zero=>cases hy;exact g1 rfl
   |succ j=>exact g2 y (by simp) hy
def Snb (a:Ad):Sp:=λvs H Q _=>∃(r:S5) (lo:Int) (k:Nat) (ws:List Str) (ns:List Int),vs= [.ref r,.int lo]/\H a.Jkm=some (.tbl lb_LineReader_take_number)/\Sav a H r k ws/\0<=lo/\Jn1 lo (ns.map V.int)=true/\ws.drop k=ns.map nmS/\∀(M:S5) (H':Hp),Btr r H H'->H M=none->Sav a H' r ws.length ws->H' M=some (.lst (ns.map V.int))->Q (.ref M) H'
theorem Scu:Jky ["reader","lowest","marks"] ["reader","lowest"] (Jku (top 52)):=⟨rfl,rfl,rfl,by decide +kernel,rfl,by decide +kernel,by decide +kernel⟩
theorem Jtb (T:Tx K mg a) (B:Bmn mg base):Sx P w K mg base CX0 7 a.Jic a.Jid ["reader","lowest"] (Snb a):=by
 have Sr:=Jlq (P:=P) (w:=w) T B
 have Sa9:=Jmk (P:=P) (w:=w) (base:=base) T
 refine T.Jn.fn.ok Scu (λvs H Q E h=>?_) (λcdv A outer s H vs Q E hr h=>?_)
 ·obtain ⟨r,lo,k,ws,ns,rfl,_⟩:=h
  rfl
 ·obtain ⟨r,lo,k,ws,ns,rfl,ht,rd,hlo,har,hd,q⟩:=h
  unfold Jn1 at har
  rw [yp,decide_eq_true_eq,yf] at har
  obtain ⟨hn,hm⟩:=har
  have hl:ws.length=k+ns.length:=by
   have:=congrArg ybb hd
   rw [yay,yf] at this
   omega
  have at':∀(j:Nat) (x:Int),ns[j]?=some x->ws[k+j]?=some (nmS x):=λj x hx=>by
   rw [<-List.getElem?_drop,hd,yk,hx]
   rfl
  have nat:∀(j:Nat) (x:Int),ns[j]?=some x->∃n:Nat,x=(n:Int)/\n < 13:=λj x hx=>by
   obtain ⟨_,_,g3,g4⟩:=Jnv ns lo hm j x hx
   obtain ⟨n,rfl⟩:=yaa (show 0<=x by omega)
   exact ⟨n,rfl,by omega⟩
  have npr:a.Jkm≠r:=λe=>by
   obtain ⟨dx,P,l,h1,_⟩:=rd
   rw [e,h1] at ht
   cases ht
  refine ⟨?t,?B,?C⟩
  case B=>
   refine' Jkq ?O0 ?O1
   case O0=>exact (Jl4 (i:=2) Scu.nd rfl (ye rfl) (Jli (So (Jlx (pv 0) T.Je3 T.Je9 Sr (hr.mono (by decide)) T.Jcx.bd .nil Jlk (So (pv 1) (So (Jlc (by rfl) T.Jaf (v:=.int 12) ⟨_,rfl⟩) Ss))) Ss)))
   case O1=>
   refine' Jkq ?O2 ?O3
   case O2=>exact (Jzj PassesOwn.never (PW.pt (Jv2 (Jle Ju2 (Jl0 Jl2 (by rfl) T.Jau Jlu (So (pv 2) Ss)) (Jlc (by rfl) T.Jae (v:=.int 4) ⟨_,rfl⟩) (Jla _)) (Js8 (Jlg (Jlh (Jo3 (pv 0) T.Je3 T.Je5 Sa9 (hr.mono (by decide)) T.Jct.bd .nil Jlk)))))) (Jkr (Jlr (Jmg F.plainAttrs_list F.slot_list_append F.type_list_append Jly (pv 2) (So (Jlx (pv 0) T.Je3 T.Je9 Sr (hr.mono (by decide)) T.Jcx.bd .nil Jlk (So (Jl9 Jm3 (Jlf Jl6 (pv 2) (Jvy Jt0 Sz) (λ_ _=>rfl)) Sz) (So (Jlc (by rfl) T.Jaf (v:=.int 12) ⟨_,rfl⟩) Ss))) Ss)))))
   case O3=>
   refine' Jkr ?O4
   case O4=>exact (Jkz (pv 2))
  obtain ⟨x0,hx0⟩:∃x,ns[0]?=some x:=⟨_,yq (by omega)⟩
  obtain ⟨n0,rfl,n13⟩:=nat 0 x0 hx0
  have b0:=Jnv ns lo hm 0 _ hx0
  obtain ⟨dx,P,l,h1,h2,h3⟩:=id rd
  refine ⟨_,rfl,r,dx,_,rfl,h1,by rfl,_,rfl,r,lo,12,k,n0,ws,rfl,ht,rd,at' 0 _ hx0,n13,⟨b0.1 rfl,b0.2.2.2⟩,λH1 c1 rd1=>?_⟩
  refine ⟨(show 1<=Sa by decide),λM hM=>?_⟩
  have hM0:H M=none:=by
   cases hc:H M with
   |none=>rfl
   |some o=>
    by_cases e:M=r
    ·obtain ⟨_,_,_,z,_⟩:=rd1
     rw [e,z] at hM
     cases hM
    ·rw [c1 _ _ e hc] at hM
     cases hM
  have nM:M≠r:=λe=>by
   obtain ⟨_,_,_,z,_⟩:=rd1
   rw [e,z] at hM
   cases hM
  refine Y8 (λσ H'=>∃j:Nat,1<=j/\j<=ns.length/\σ= [some (.ref r),some (.int lo),some (.ref M)]/\Btr r H H'/\H' M=some (.lst ((ns.take j).map V.int))/\Sav a H' r (k+j) ws) (λσ H'=>match H' M with|some (.lst xs)=>5 - xs.length|_=>0) ⟨1,yh _,hn.1,rfl,λb o n e=>by rw [Jkt (λz=>by rw [z,hM0] at e;cases e)];exact c1 b o n e,?_,rd1.same (Sn.upd hM)⟩ ?_ ?_
  ·rw [Sy]
   cases ns with
   |nil=>simp at hn
   |cons y r=>cases hx0;rfl
  ·rintro σ H' ⟨j,j1,j2,rfl,c,hMj,rdj⟩
   obtain ⟨dx',P',l',g1,g2,g3⟩:=id rdj
   have tl:((ns.take j).map V.int).length=j:=by rw [yf,yx];omega
   refine ⟨_,rfl,M,_,rfl,.inl (Sw.of hMj),_,_,rfl,rfl,_,rfl,?_⟩
   rw [tl]
   have fin:j=ns.length->Q (.ref M) H':=λe=>by
    subst e
    rw [List.take_length] at hMj
    rw [<-hl] at rdj
    exact q M H' c hM0 rdj hMj
   by_cases jn:j=ns.length
   ·refine Jsg (λ_=>?_) (λ_=>⟨_,rfl,fin jn⟩)
    refine ⟨_,rfl,r,dx',_,rfl,g1,by rfl,r,k+j,ws,rfl,rdj,_,rfl,?_⟩
    rw [decide_eq_true (by omega:k+j=ws.length)]
    exact Jlp ⟨_,rfl,fin jn⟩
   ·rw [decide_eq_true (by omega:((j:Nat):Int) < 4)]
    refine Jn5 ?_
    refine ⟨_,rfl,r,dx',_,rfl,g1,by rfl,r,k+j,ws,rfl,rdj,_,rfl,?_⟩
    rw [decide_eq_false (by omega:¬k+j=ws.length)]
    refine Jn5 ?_
    obtain ⟨x,hx⟩:∃x,ns[j]?=some x:=⟨_,yq (by omega)⟩
    obtain ⟨y,hy⟩:∃y,ns[j - 1]?=some y:=⟨_,yq (by omega)⟩
    obtain ⟨n,rfl,n13'⟩:=nat j x hx
    have bj:=Jnv ns lo hm j _ hx
    have la:atI ((ns.take j).map V.int) (-1)=some (.int y):=by
     refine Jqt ?_
     rw [List.getLast?_eq_getElem?,show (ns.take j).length=j by (rw [yx];omega),ybm (by omega)]
     exact hy
    refine ⟨_,rfl,.inl ⟨rfl,_,Sw.of hMj⟩,_,rfl,r,dx',_,rfl,g1,by rfl,_,rfl,_,rfl,M,_,_,_,rfl,rfl,Sw.of hMj,la,_,_,rfl,rfl,r,y+1,12,k+j,n,ws,rfl,c _ _ npr ht,rdj,at' j _ hx,n13',⟨bj.2.1 y (by omega) hy,bj.2.2.2⟩,λH2 c2 rd2=>?_⟩
    have hM2:=c2 _ _ nM hMj
    refine ⟨M,_,_,rfl,rfl,hM2,by rw [tl];exact Jls (by omega),⟨j+1,by omega,by omega,rfl,λb o n e=>?_,?_,?_⟩,?_⟩
    ·rw [Jkt (λz=>by rw [z,hM0] at e;cases e)]
     exact c2 _ _ n (c _ _ n e)
    ·rw [Sy,yam,hx,yaf]
     rfl
    ·obtain ⟨dx2,P2,l2,f1,f2,f3⟩:=rd2
     have nP:P2≠M:=λz=>by
      rw [z,hM2] at f2
      have e:=HO.lst.inj (yy.inj f2)
      cases ns with
      |nil=>simp at hn
      |cons m0 ms=>
       cases j with
       |zero=>omega
       |succ j=>
        cases ws with
        |nil=>simp at hl
        |cons w0 ws=>cases e
     exact ⟨dx2,P2,l2,by rw [Jkt (ym nM)];exact f1,by rw [Jkt nP];exact f2,f3⟩
    ·show (match (upd H2 M (.lst ((ns.take j).map V.int++ [.int n]))) M with|some (.lst xs)=>5 - xs.length|_=>0) < (match H' M with|some (.lst xs)=>5 - xs.length|_=>0)
     rw [Sy,hMj]
     show 5 - ((ns.take j).map V.int++ [V.int n]).length < 5 - ((ns.take j).map V.int).length
     rw [yal,tl]
     simp
     omega
  ·intro σ H Q Q' hq h
   obtain ⟨v,hv,p,ys,e1,hs,i,j,e2,e3,c,e4,h⟩:=h
   refine ⟨v,hv,p,ys,e1,hs,i,j,e2,e3,c,e4,?_⟩
   split at h
   ·rename_i hc
    rw [if_pos hc]
    obtain ⟨v',hv',a',dx,fs,e5,e6,e7,r,k,ws,e8,rd,c',e9,h⟩:=h
    exact ⟨v',hv',a',dx,fs,e5,e6,e7,r,k,ws,e8,rd,c',e9,hq _ _ h⟩
   ·rename_i hc
    rw [if_neg hc]
    exact hq _ _ h
structure BTd where
 z:Str
 lo:Int
 hi:Int
 st:Int
 rn:Int
 G:Jn7
structure BGd (B:BTd):Prop where
 lo:0<=B.lo/\B.lo<=B.hi
 hi:B.hi<=12
 rn:0<=B.rn/\B.rn<=6
 G:Sbv B.G
 sv:B.G.sv=none
structure TGd (B:BTd):Prop where
 b:BGd B
 st:B.lo<=B.st/\B.st<=B.hi
 nm:Jno B.z=true
 wd:Wd 50 B.z
def BX (a:Ad) (H:Hp) (o:S5) (B:BTd):Prop:=∃dx g,H o=some (.ins a.Jkd dx (Si4 (.str B.z) (.int B.lo) (.int B.hi) (.int B.st) (.int B.rn) g))/\GX a H g B.G
theorem BX.same {a:Ad} {H H':Hp} {o:S5} {B:BTd} (s:Sn H H') (h:BX a H o B):BX a H' o B:=by
 obtain ⟨dx,g,h1,h2⟩:=h
 exact ⟨dx,g,s _ _ h1,h2.same s⟩
theorem Jom {a:Ad} {H:Hp} {r b:S5} {k:Nat} {ws:List Str} {o:HO} (rd:Sav a H r k ws) (h:H b=some o) (hn:∀C dx l k P,o≠ .ins C dx (rdF l k P)):b≠r:=λe=>by
 obtain ⟨dx,P,l,z,_⟩:=rd
 rw [e,z] at h
 exact hn _ _ _ _ _ (yy.inj h).symm
theorem GX.btr {a:Ad} {H H':Hp} {r:S5} {k:Nat} {ws:List Str} {x:V} {G:Jn7} (rd:Sav a H r k ws) (c:Btr r H H') (h:GX a H x G):GX a H' x G:=by
 obtain ⟨g,⟨dy,t,h3,h4⟩,h5⟩:=h
 exact ⟨g,⟨dy,t,c _ _ (Jom rd h3 λC dx l k P e=>by cases e) h3,c _ _ (Jom rd h4 λC dx l k P e=>by cases e) h4⟩,h5⟩
theorem BX.btr {a:Ad} {H H':Hp} {r o:S5} {k:Nat} {ws:List Str} {B:BTd} (rd:Sav a H r k ws) (c:Btr r H H') (h:BX a H o B):BX a H' o B:=by
 obtain ⟨dx,g,h1,h2⟩:=h
 exact ⟨dx,g,c _ _ (Jom rd h1 λC dx l k P e=>by cases e) h1,h2.btr rd c⟩
def gws (G:Jn7):List Str:=G.kd::G.ns.map nmS
def bws (B:BTd):List Str:=[B.z,nmS B.lo,nmS B.hi,nmS B.st,nmS B.rn]++gws B.G
def Tbs (a:Ad) (H:Hp):Prop:=H a.Jki=some (.tbl lb_LineReader_take_of)/\H a.Jkk=some (.tbl lb_LineReader_take_new_name)/\H a.Jkm=some (.tbl lb_LineReader_take_number)
theorem Tbs.same {a:Ad} {H H':Hp} (s:Sn H H') (h:Tbs a H):Tbs a H':=⟨s _ _ h.1,s _ _ h.2.1,s _ _ h.2.2⟩
theorem Tbs.btr {a:Ad} {H H':Hp} {r:S5} {k:Nat} {ws:List Str} (rd:Sav a H r k ws) (c:Btr r H H') (h:Tbs a H):Tbs a H':=
 ⟨c _ _ (Jom rd h.1 λC dx l k P e=>by cases e) h.1,c _ _ (Jom rd h.2.1 λC dx l k P e=>by cases e) h.2.1,c _ _ (Jom rd h.2.2 λC dx l k P e=>by cases e) h.2.2⟩
def Yam (a:Ad):Sp:=λvs H Q _=>∃(r:S5) (k:Nat) (ws:List Str) (G:Jn7),vs= [.ref r]/\Tbs a H/\Sav a H r k ws/\ws.drop k=gws G/\Sbv G/\G.sv=none/\∀(g:S5) (H':Hp),Btr r H H'->Sav a H' r ws.length ws->Sbj (cOf a G.kd) H' g (G.ns.map V.int)->Q (.ref g) H'
theorem Jn2 {ws zs:List Str} {k j:Nat} {z:Str} (h:ws.drop k=zs) (hz:zs[j]?=some z):ws[k+j]?=some z:=by
 rw [<-List.getElem?_drop,h]
 exact hz
theorem Btr.rest {H H':Hp} {r:S5} (hr:H r=none) (c:Btr r H H'):Sn H H':=λb o e=>c b o (λz=>by rw [z,hr] at e;cases e) e
theorem Sda:Jky ["reader","sort"] ["reader"] (Jku (top 53)):=⟨rfl,rfl,rfl,by decide +kernel,rfl,by decide +kernel,by decide +kernel⟩
theorem Jut (T:Tx K mg a) (B:Bmn mg base):Sx P w K mg base CX0 8 a.Jie a.Jif ["reader"] (Yam a):=by
 have Sa3:=Jm1 (P:=P) (w:=w) T B
 have Scb:=Jtb (P:=P) (w:=w) T B
 have Sb0:=Jok (P:=P) (w:=w) (base:=base) T
 have Say:=Joi (P:=P) (w:=w) (base:=base) T
 have Saz:=Joj (P:=P) (w:=w) (base:=base) T
 refine T.Jo.fn.ok Sda (λvs H Q E h=>?_) (λcdv A outer s H vs Q E hr h=>?_)
 ·obtain ⟨r,k,ws,G,rfl,_⟩:=h
  rfl
 ·obtain ⟨r,k,ws,⟨kd,ns,sv⟩,rfl,tb,rd,hd,gg,sv0,q⟩:=h
  cases (show sv=none from sv0)
  have hkd:Knd kd:=gg.kd
  have har:Jn1 (Jns kd) (ns.map V.int)=true:=gg.ns
  have hd1:ws.drop (k+1)=ns.map nmS:=by
   rw [<-List.drop_drop,hd]
   rfl
  refine ⟨?t,?B,?C⟩
  case B=>
   refine' Jkq ?O0 ?O1
   case O0=>exact (Jl4 (i:=1) Sda.nd rfl (ye rfl) (Jlx (pv 0) T.Je3 T.Je7 Sa3 (hr.mono (by decide)) T.Jcv.bd .nil Jlk (So (Jlc (by rfl) T.Jan (v:=.ref _) rfl) Ss)))
   case O1=>
   refine' Jkq ?O2 ?O3
   case O2=>
    refine' Jld ?O4 ?O5 ?O6
    case O4=>exact (Jle Jmu (pv 1) Jl7 (Jla _))
    case O5=>
     refine' Jkr ?O7
     case O7=>exact (Jkz (Jmq T.Jd9 Sb0.calm (hr.mono (by decide)) (by rfl) T.Jbc T.Jcb.bd .nil Jlk (So (Jkv T.Jn Scb hr (by decide) (So (pv 0) (So Sz Ss))) Ss)))
    case O6=>exact Jl1
   case O3=>
   refine' Jkq ?O8 ?O9
   case O8=>
    refine' Jld ?Oa ?Ob ?Oc
    case Oa=>exact (Jle Jmu (pv 1) Jl7 (Jla _))
    case Ob=>
     refine' Jkr ?Od
     case Od=>exact (Jkz (Jmq T.Jdg Say.calm (hr.mono (by decide)) (by rfl) T.Jbd T.Jcf.bd .nil Jlk (So (Jkv T.Jn Scb hr (by decide) (So (pv 0) (So Sz Ss))) Ss)))
    case Oc=>exact Jl1
   case O9=>
   refine' Jkr ?Oe
   case Oe=>exact (Jkz (Jmq T.Jdn Saz.calm (hr.mono (by decide)) (by rfl) T.Jbe T.Jcj.bd .nil Jlk (So (Jkv T.Jn Scb hr (by decide) (So (pv 0) (So Sz Ss))) Ss)))
  obtain ⟨dx,P,l,h1,h2,h3⟩:=id rd
  have mk:kd∈(["step","flap","part"]:List Str):=by
   rcases hkd with rfl|rfl|rfl
   ·exact .head _
   ·exact .tail _ (.head _)
   ·exact .tail _ (.tail _ (.head _))
  refine ⟨_,rfl,r,dx,_,rfl,h1,by rfl,r,a.Jjz,k,ws,_,kd,rfl,tb.1,rd,Jn2 (j:=0) hd rfl,.inr (T.Jao H),mk,λH1 c1 rd1=>?_⟩
  have tb1:=tb.btr rd c1
  rcases hkd with rfl|rfl|rfl
  ·have e1:Jns "step" =0:=if_neg Sir
   have e2:cOf a "step" =a.Jka:=if_pos rfl
   have hr':Jn1 (0) (ns.map V.int)=true:=by rw [<-e1];exact har
   refine ⟨_,rfl,rfl,_,rfl,Jwj rfl ⟨_,rfl,r,0,k+1,ws,ns,rfl,tb1.2.2,rd1,by decide,hr',hd1,λM H2 c2 hM0 rd2 hM=>λg dg hg hd ne=>Jof T.Jd7 T.Jef hg hd ne ⟨ns.map V.int,.lst hM,λy hy=>Jpt hy,hr',λH3 s3 ga=>?_⟩⟩⟩
   exact q g H3 ((c1.trans c2).trans (Btr.of s3)) (rd2.same s3) (by rw [e2];exact ga)
  ·have e1:Jns "flap" =0:=if_neg Siq
   have e2:cOf a "flap" =a.Jkb:=by unfold cOf;rw [if_neg Jp7,if_pos rfl]
   have hr':Jn1 (0) (ns.map V.int)=true:=by rw [<-e1];exact har
   refine ⟨_,rfl,rfl,_,rfl,Jt4 (Jsx Jp7) ⟨_,rfl,rfl,_,rfl,Jwj rfl ⟨_,rfl,r,0,k+1,ws,ns,rfl,tb1.2.2,rd1,by decide,hr',hd1,λM H2 c2 hM0 rd2 hM=>λg dg hg hd ne=>Jof T.Jde T.Jeg hg hd ne ⟨ns.map V.int,.lst hM,λy hy=>Jpt hy,hr',λH3 s3 ga=>?_⟩⟩⟩⟩
   exact q g H3 ((c1.trans c2).trans (Btr.of s3)) (rd2.same s3) (by rw [e2];exact ga)
  ·have e1:Jns "part" =1:=if_pos rfl
   have e2:cOf a "part" =a.Jkc:=by unfold cOf;rw [if_neg Jq0,if_neg Jpz]
   have hr':Jn1 (1) (ns.map V.int)=true:=by rw [<-e1];exact har
   refine ⟨_,rfl,rfl,_,rfl,Jt4 (Jsx Jq0) ⟨_,rfl,rfl,_,rfl,Jt4 (Jsx Jpz) ⟨_,rfl,r,1,k+1,ws,ns,rfl,tb1.2.2,rd1,by decide,hr',hd1,λM H2 c2 hM0 rd2 hM=>λg dg hg hd ne=>Jof T.Jdl T.Jeh hg hd ne ⟨ns.map V.int,.lst hM,λy hy=>Jpt hy,hr',λH3 s3 ga=>?_⟩⟩⟩⟩
   exact q g H3 ((c1.trans c2).trans (Btr.of s3)) (rd2.same s3) (by rw [e2];exact ga)
theorem Jll {α β:Type} {F:α->β->Prop} {l₁:List α} {l₂:List β} (r:Paired F l₁ l₂):∀{i:Nat} {x:α},l₁[i]?=some x->∃y,l₂[i]?=some y/\F x y:=by
 induction r with
 |nil=>intro i y h;simp at h
 |cons h t ih=>
  intro i y e
  cases i with
  |zero=>simp at e;subst e;exact ⟨_,rfl,h⟩
  |succ j=>exact ih (by simpa using e)
def NmL (K:Si) (H:Hp) (os:List S5) (zs:List Str):Prop:=Paired (λo z=>∃C dx fs,H o=some (.ins C dx fs)/\Cls K C/\NoAttr K C "name" /\fs.lookup ("name" :Str)=some (V.str z)) os zs
theorem NmL.same {K:Si} {H H':Hp} {os:List S5} {zs:List Str} (s:Sn H H') (h:NmL K H os zs):NmL K H' os zs:=Paired.mapP h λ_ _ ⟨C,dx,fs,h1,h2⟩=>⟨C,dx,fs,s _ _ h1,h2⟩
def Skj (K:Si):Sp:=λvs H Q _=>∃(L:S5) (os:List S5) (zs:List Str),vs= [.ref L]/\H L=some (.lst (os.map V.ref))/\NmL K H os zs/\os.length<=100/\∀(D:S5) (H':Hp),Sn H H'->H D=none->H' D=some (.lst (zs.map V.str))->Q (.ref D) H'
def Skl (K:Si) (a:Ad):Sp:=λvs H Q _=>∃(r L:S5) (k:Nat) (ws zs:List Str) (os:List S5) (B:BTd),vs= [.ref r,.ref L]/\Tbs a H/\Sav a H r k ws/\ws.drop k=bws B/\TGd B/\H L=some (.lst (os.map V.ref))/\NmL K H os zs/\os.length<=100/\B.z∉zs/\∀(o:S5) (H':Hp),Btr r H H'->Sav a H' r ws.length ws->BX a H' o B->Q (.ref o) H'
def Scn (a:Ad) (H:Hp) (o:S5) (B:Twn):Prop:=∃dx,H o=some (.ins a.Jke dx (twnF (.str B.z) (.str B.b) (.int B.wt)))
structure WGd (B:Twn):Prop where
 nm:Jno B.z=true
 nb:Jno B.b=true
 wd:Wd 50 B.z
 wb:Wd 50 B.b
 wt:1<=B.wt/\B.wt<=6
def tws (B:Twn):List Str:=[B.z,B.b,nmS B.wt]
def Skm (K:Si) (a:Ad):Sp:=λvs H Q _=>∃(r L M:S5) (k:Nat) (ws zs ys:List Str) (os ps:List S5) (B:Twn),vs= [.ref r,.ref L,.ref M]/\Tbs a H/\Sav a H r k ws/\ws.drop k=tws B/\WGd B/\H L=some (.lst (os.map V.ref))/\NmL K H os zs/\os.length<=100/\H M=some (.lst (ps.map V.ref))/\NmL K H ps ys/\ps.length<=100/\B.z∉ys/\B.b∈zs/\∀(o:S5) (H':Hp),Btr r H H'->Sav a H' r ws.length ws->Scn a H' o B->Q (.ref o) H'
theorem NmL.btr {K:Si} {a:Ad} {H H':Hp} {r:S5} {k:Nat} {ws:List Str} {os:List S5} {zs:List Str} (rd:Sav a H r k ws) (c:Btr r H H') (h:NmL K H os zs):NmL K H' os zs:=Paired.mapP h λo z ⟨C,dx,fs,h1,h2,h3,h4⟩=>⟨C,dx,fs,c _ _ (Jom rd h1 λC' dx' l k P e=>by
 cases e
 cases h4) h1,h2,h3,h4⟩
theorem GS.gti {H:Hp} {x:V} {n:Nat} (T:Tx K mg a) (g:GS K a H x n):GtI K a H x true:=by
 cases g with
 |plain i ga l=>
  obtain ⟨dx,t,h1,h2⟩:=ga
  rcases i with rfl|rfl|rfl
  ·exact ⟨_,.of (T.Jd8.ty T.Jd7 h1),T.Jf1,T.Jf9,_,T.Jf6,λ_=>rfl,by intro w';cases w'⟩
  ·exact ⟨_,.of (T.Jdf.ty T.Jde h1),T.Jf2,T.Jfa,_,T.Jf7,λ_=>rfl,by intro w';cases w'⟩
  ·exact ⟨_,.of (T.Jdm.ty T.Jdl h1),T.Jf3,T.Jfb,_,T.Jf8,λ_=>rfl,by intro w';cases w'⟩
theorem Jym (T:Tx K mg a) {H1:Hp} {x dx g:S5} {C:BTd} {Q1:Hp->Prop} {E:XK} (tg:TGd C) (gx:GX a H1 (.ref g) C.G) (hx1:H1 x=none) (hd1:H1 dx=none)
  (k:∀H2,Sn H1 H2->BX a H2 x C->Q1 H2):Jxk K a [.ref x,.str C.z,.int C.lo,.int C.hi,.int C.st,.int C.rn,.ref g] (upd (upd H1 dx (.own x)) x (.ins a.Jkd dx [])) (λv H2=>v= .non/\Q1 H2) E:=by
 have bg:=tg.b
 have gs:GS K a H1 (.ref g) (nOf C.G):=gx.gs bg.G
 have sn:Sn H1 (upd (upd H1 dx (.own x)) x (.ins a.Jkd dx [])):=λb o e=>by rw [Jkt (Jkw e hx1),Jkt (Jkw e hd1)];exact e
 have b1:=bg.lo
 have b2:=bg.hi
 have b3:=bg.rn
 have b4:=tg.st
 refine ⟨x,dx,.str C.z,.int C.lo,.int C.hi,.int C.st,.int C.rn,.ref g,true,none,rfl,Sy,⟨.inr ⟨_,.of (.str C.z),rfl⟩,λy e=>by cases e;exact tg.wd⟩,.inl ⟨_,rfl⟩,.inl ⟨_,rfl⟩,.inl ⟨_,rfl⟩,.inl ⟨_,rfl⟩,(gs.gti T).same sn,.good C.lo C.hi tg.nm rfl rfl (Jnk (by omega) (by omega)) (Jnk (by omega) (by omega)) (Jnk b4.1 b4.2) (Jnk (by omega) (by omega)) rfl,λH2 s2=>⟨rfl,?_⟩⟩
 have s3:Sn H1 (upd H2 x (.ins a.Jkd dx (Si4 (.str C.z) (.int C.lo) (.int C.hi) (.int C.st) (.int C.rn) (.ref g)))):=λb o e=>by rw [Jkt (Jkw e hx1)];exact s2 _ _ (sn _ _ e)
 exact k _ s3 ⟨dx,_,Sy,gx.same s3⟩
theorem Jw4:Jky ["things"] ["things"] (Jku (top 54)):=⟨rfl,rfl,rfl,by decide +kernel,rfl,by decide +kernel,by decide +kernel⟩
theorem Jrw (T:Tx K mg a):Sx P w K mg base CX0 1 a.Jig a.Jih ["things"] (Skj K):=by
 refine T.Jp.fn.ok Jw4 (λvs H Q E h=>?_) (λcdv A outer s H vs Q E hr h=>?_)
 ·obtain ⟨L,os,zs,rfl,_⟩:=h
  rfl
 ·obtain ⟨L,os,zs,rfl,hL,nm,hl,q⟩:=h
  have len:=Paired.length nm
  refine ⟨_,(Jkr (Jkz (Jmh (N:=(["thing"]:List Str)) (ini:=[none]) rfl (Jm2 (pv 0)) (λ_ _ _ _ _=>(Jl3 (i:=0) (by decide +kernel:(["thing"]:List Str).Nodup) rfl (ye rfl))) (λ_ _ _ _ _=>Jm6) (λ_ _ _ _ _=>(Jps (K:=K) rfl (pv 0) (by rfl)))))),?_⟩
  refine ⟨_,rfl,L,rfl,⟨_,Sw.of hL⟩,λD hD=>?_⟩
  refine Jos (zs.map V.str) hD (by simp;omega) (by simp;omega) hL ?_ ?_
  ·rintro j x y H' Q' hx hy sm kk
   rw [yk] at hx hy
   obtain ⟨o,ho,rfl⟩:=yac.mp hx
   obtain ⟨z,hz,rfl⟩:=yac.mp hy
   obtain ⟨z',hz',C,dx,fs,h1,h2,h3,h4⟩:=Jll nm ho
   rw [hz] at hz'
   cases hz'
   exact ⟨_,rfl,o,C,dx,fs,_,rfl,sm _ _ h1,h2,h3,h4,kk _ (Sn.refl _)⟩
  ·intro H' s' hD'
   exact q D H' s' hD hD'
theorem Sap:Jky ["reader","basins","name","low","high","start","rain"] ["reader","basins"] (Jku (top 55)):=⟨rfl,rfl,rfl,by decide +kernel,rfl,by decide +kernel,by decide +kernel⟩
theorem Jt9 (T:Tx K mg a) (B:Bmn mg base):Sx P w K mg base CX0 9 a.Jii a.Jij ["reader","basins"] (Skl K a):=by
 have Sac:=Jmf (P:=P) (w:=w) T B
 have Sr:=Jlq (P:=P) (w:=w) T B
 have Sca:=Jrw (P:=P) (w:=w) (base:=base) T
 have Sf8:=Jut (P:=P) (w:=w) T B
 have Sb9:=Jq1 (P:=P) (w:=w) (base:=base) T
 refine T.Jq.fn.ok Sap (λvs H Q E h=>?_) (λcdv A outer s H vs Q E hr h=>?_)
 ·obtain ⟨r,L,k,ws,zs,os,B,rfl,_⟩:=h
  rfl
 ·obtain ⟨r,L,k,ws,zs,os,⟨z,lo,hi,st,rn,G⟩,rfl,tb,rd,hd,tg,hL,nm,hl,hz,q⟩:=h
  have b1:0<=lo/\lo<=hi:=tg.b.lo
  have b2:hi<=12:=tg.b.hi
  have b3:0<=rn/\rn<=6:=tg.b.rn
  have b4:lo<=st/\st<=hi:=tg.st
  obtain ⟨lo,rfl⟩:=yaa b1.1
  obtain ⟨hi,rfl⟩:=yaa (show 0<=hi by omega)
  obtain ⟨st,rfl⟩:=yaa (show 0<=st by omega)
  obtain ⟨rn,rfl⟩:=yaa b3.1
  have hd5:ws.drop (k+5)=gws G:=by
   rw [<-List.drop_drop,hd]
   rfl
  refine ⟨?t,?B,?C⟩
  case B=>
   refine' Jkq ?O0 ?O1
   case O0=>exact (Jl4 (i:=2) Sap.nd rfl (ye rfl) (Jlx (pv 0) T.Je3 T.Je8 Sac (hr.mono (by decide)) T.Jcw.bd .nil Jlk (So (Jkv T.Jp Sca hr (by decide) (So (pv 1) Ss)) Ss)))
   case O1=>
   refine' Jkq ?O2 ?O3
   case O2=>exact (Jl4 (i:=3) Sap.nd rfl (ye rfl) (Jlx (pv 0) T.Je3 T.Je9 Sr (hr.mono (by decide)) T.Jcx.bd .nil Jlk (So Sz (So (Jlc (by rfl) T.Jah (v:=.int 12) ⟨_,rfl⟩) Ss))))
   case O3=>
   refine' Jkq ?O4 ?O5
   case O4=>exact (Jl4 (i:=4) Sap.nd rfl (ye rfl) (Jlx (pv 0) T.Je3 T.Je9 Sr (hr.mono (by decide)) T.Jcx.bd .nil Jlk (So (pv 3) (So (Jlc (by rfl) T.Jah (v:=.int 12) ⟨_,rfl⟩) Ss))))
   case O5=>
   refine' Jkq ?O6 ?O7
   case O6=>exact (Jl4 (i:=5) Sap.nd rfl (ye rfl) (Jlx (pv 0) T.Je3 T.Je9 Sr (hr.mono (by decide)) T.Jcx.bd .nil Jlk (So (pv 3) (So (pv 4) Ss))))
   case O7=>
   refine' Jkq ?O8 ?O9
   case O8=>exact (Jl4 (i:=6) Sap.nd rfl (ye rfl) (Jlx (pv 0) T.Je3 T.Je9 Sr (hr.mono (by decide)) T.Jcx.bd .nil Jlk (So Sz (So (Jlc (by rfl) T.Jai (v:=.int 6) ⟨_,rfl⟩) Ss))))
   case O9=>
   refine' Jkr ?Oa
   case Oa=>
   refine' Jkz ?Ob
   case Ob=>exact (Jmq T.Jdu Sb9.calm (hr.mono (by decide)) (by rfl) T.Jbf T.Jcn.bd .nil Jlk (pa6 (pv 2) (pv 3) (pv 4) (pv 5) (pv 6) (Jkv T.Jo Sf8 hr (by decide) (So (pv 0) Ss))))
  obtain ⟨dx,P,l,h1,h2,h3⟩:=id rd
  refine ⟨_,rfl,r,dx,_,rfl,h1,by rfl,_,rfl,L,os,zs,rfl,hL,nm,hl,λD H1 s1 hD0 hD=>?_⟩
  refine ⟨r,D,k,ws,zs,z,rfl,(tb.same s1).2.1,rd.same s1,Jn2 (j:=0) hd rfl,Sw.of hD,hz,tg.nm,tg.wd,λH2 c2 rd2=>?_⟩
  have tb2:=(tb.same s1).btr (rd.same s1) c2
  obtain ⟨_,_,_,g2,_⟩:=id rd2
  refine ⟨_,rfl,r,_,_,rfl,g2,by rfl,r,0,12,k+1,lo,ws,rfl,tb2.2.2,rd2,Jn2 (j:=1) hd rfl,by omega,⟨by omega,by omega⟩,λH3 c3 rd3=>?_⟩
  have tb3:=tb2.btr rd2 c3
  obtain ⟨_,_,_,g3,_⟩:=id rd3
  refine ⟨_,rfl,r,_,_,rfl,g3,by rfl,_,rfl,r,lo,12,k+2,hi,ws,rfl,tb3.2.2,rd3,Jn2 (j:=2) hd rfl,by omega,⟨by omega,by omega⟩,λH4 c4 rd4=>?_⟩
  have tb4:=tb3.btr rd3 c4
  obtain ⟨_,_,_,g4,_⟩:=id rd4
  refine ⟨_,rfl,r,_,_,rfl,g4,by rfl,_,rfl,_,rfl,r,lo,hi,k+3,st,ws,rfl,tb4.2.2,rd4,Jn2 (j:=3) hd rfl,by omega,⟨by omega,by omega⟩,λH5 c5 rd5=>?_⟩
  have tb5:=tb4.btr rd4 c5
  obtain ⟨_,_,_,g5,_⟩:=id rd5
  refine ⟨_,rfl,r,_,_,rfl,g5,by rfl,r,0,6,k+4,rn,ws,rfl,tb5.2.2,rd5,Jn2 (j:=4) hd rfl,by omega,⟨by omega,by omega⟩,λH6 c6 rd6=>?_⟩
  have tb6:=tb5.btr rd5 c6
  refine ⟨_,rfl,_,rfl,_,rfl,_,rfl,_,rfl,_,rfl,r,k+5,ws,G,rfl,tb6,rd6,hd5,tg.b.G,tg.b.sv,λg H7 c7 rd7 ga=>?_⟩
  have sv0:G.sv=none:=tg.b.sv
  have gx:GX a H7 (.ref g) G:=⟨g,ga,by rw [sv0]⟩
  intro x dx' hx1 hd1 ne
  refine Jym (C:=⟨z,lo,hi,st,rn,G⟩) T tg gx hx1 hd1 λH8 s8 bx=>?_
  exact q x H8 ((((((((Btr.of s1).trans c2).trans c3).trans c4).trans c5).trans c6).trans c7).trans (Btr.of s8)) (rd7.same s8) bx
theorem Scd:Jky ["reader","basins","towns","name","basin"] ["reader","basins","towns"] (Jku (top 56)):=⟨rfl,rfl,rfl,by decide +kernel,rfl,by decide +kernel,by decide +kernel⟩
theorem Juu (T:Tx K mg a) (B:Bmn mg base):Sx P w K mg base CX0 9 a.Jik a.Jil ["reader","basins","towns"] (Skm K a):=by
 have Sac:=Jmf (P:=P) (w:=w) T B
 have Sa3:=Jm1 (P:=P) (w:=w) T B
 have Sr:=Jlq (P:=P) (w:=w) T B
 have Sca:=Jrw (P:=P) (w:=w) (base:=base) T
 have Sbi:=Jr3 (P:=P) (w:=w) (base:=base) T
 refine T.Jr.fn.ok Scd (λvs H Q E h=>?_) (λcdv A outer s H vs Q E hr h=>?_)
 ·obtain ⟨r,L,M,k,ws,zs,ys,os,ps,B,rfl,_⟩:=h
  rfl
 ·obtain ⟨r,L,M,k,ws,zs,ys,os,ps,⟨z,b,wt⟩,rfl,tb,rd,hd,tg,hL,nm,hl,hM,nm',hl',hz,hb,q⟩:=h
  have b1:1<=wt/\wt<=6:=tg.wt
  obtain ⟨wt,rfl⟩:=yaa (show 0<=wt by omega)
  have hlen:ws.length=k+3:=by
   have:=congrArg ybb hd
   rw [yay] at this
   simp [tws] at this
   omega
  refine ⟨?t,?B,?C⟩
  case B=>
   refine' Jkq ?O0 ?O1
   case O0=>exact (Jl4 (i:=3) Scd.nd rfl (ye rfl) (Jlx (pv 0) T.Je3 T.Je8 Sac (hr.mono (by decide)) T.Jcw.bd .nil Jlk (So (Jkv T.Jp Sca hr (by decide) (So (pv 2) Ss)) Ss)))
   case O1=>
   refine' Jkq ?O2 ?O3
   case O2=>exact (Jl4 (i:=4) Scd.nd rfl (ye rfl) (Jlx (pv 0) T.Je3 T.Je7 Sa3 (hr.mono (by decide)) T.Jcv.bd .nil Jlk (So (Jkv T.Jp Sca hr (by decide) (So (pv 1) Ss)) Ss)))
   case O3=>
   refine' Jkr ?O4
   case O4=>exact (Jkz (Jmq T.Jdx Sbi.calm (hr.mono (by decide)) (by rfl) T.Jbg T.Jco.bd .nil Jlk (So (pv 3) (So (pv 4) (So (Jlx (pv 0) T.Je3 T.Je9 Sr (hr.mono (by decide)) T.Jcx.bd .nil Jlk (So Sz (So (Jlc (by rfl) T.Jaj (v:=.int 6) ⟨_,rfl⟩) Ss))) Ss)))))
  obtain ⟨dx,P,l,h1,h2,h3⟩:=id rd
  refine ⟨_,rfl,r,dx,_,rfl,h1,by rfl,_,rfl,M,ps,ys,rfl,hM,nm',hl',λD H1 s1 hD0 hD=>?_⟩
  have rd1:=rd.same s1
  have tb1:=tb.same s1
  have nL:L≠r:=Jom rd hL λC dx l k P e=>by cases e
  refine ⟨r,D,k,ws,ys,z,rfl,tb1.2.1,rd1,Jn2 (j:=0) hd rfl,Sw.of hD,hz,tg.nm,tg.wd,λH2 c2 rd2=>?_⟩
  have tb2:=tb1.btr rd1 c2
  obtain ⟨_,_,_,g2,_⟩:=id rd2
  refine ⟨_,rfl,r,_,_,rfl,g2,by rfl,_,rfl,L,os,zs,rfl,c2 _ _ nL (s1 _ _ hL),(nm.same s1).btr rd1 c2,hl,λD3 H3 s3 hD30 hD3=>?_⟩
  refine ⟨r,D3,k+1,ws,zs,b,rfl,(tb2.same s3).1,rd2.same s3,Jn2 (j:=1) hd rfl,.inl (Sw.of hD3),hb,λH4 c4 rd4=>?_⟩
  have tb4:=(tb2.same s3).btr (rd2.same s3) c4
  obtain ⟨_,_,_,g4,_⟩:=id rd4
  refine ⟨_,rfl,_,rfl,_,rfl,r,_,_,rfl,g4,by rfl,r,1,6,k+2,wt,ws,rfl,tb4.2.2,rd4,Jn2 (j:=2) hd rfl,by omega,⟨by omega,by omega⟩,λH5 c5 rd5=>?_⟩
  intro x dx' hx1 hd1 ne
  have sn:Sn H5 (upd (upd H5 dx' (.own x)) x (.ins a.Jke dx' [])):=λb o e=>by rw [Jkt (Jkw e hx1),Jkt (Jkw e hd1)];exact e
  refine ⟨x,dx', .str z,.str b,.int wt,none,rfl,Sy,⟨.inr ⟨_,.of (.str z),rfl⟩,λy e=>by cases e;exact tg.wd⟩,⟨.inr ⟨_,.of (.str b),rfl⟩,λy e=>by cases e;exact tg.wb⟩,.inl ⟨_,rfl⟩,.good tg.nm tg.nb (Jnk (by omega) (by omega)),λH6 s6=>⟨rfl,?_⟩⟩
  have s7:Sn H5 (upd H6 x (.ins a.Jke dx' (twnF (.str z) (.str b) (.int wt)))):=λb o e=>by rw [Jkt (Jkw e hx1)];exact s6 _ _ (sn _ _ e)
  refine q x _ ((((((Btr.of s1).trans c2).trans (Btr.of s3)).trans c4).trans c5).trans (Btr.of s7)) ?_ ⟨dx',Sy⟩
  rw [hlen]
  exact rd5.same s7
theorem GX.put {a:Ad} {H:Hp} {D:S5} {x:V} {G:Jn7} {xs:List V} {u:HO} (hD:H D=some (.lst xs)) (h:GX a H x G):GX a (upd H D u) x G:=by
 obtain ⟨g,⟨dy,t,h3,h4⟩,h5⟩:=h
 have n:∀{b:S5} {v:HO},H b=some v->(∀ys,v≠ .lst ys)->(upd H D u) b=some v:=λe ne=>by
  rw [Jkt λz=>?_]
  ·exact e
  ·rw [z,hD] at e
   exact ne _ (yy.inj e).symm
 exact ⟨g,⟨dy,t,n h3 (λ_ z=>by cases z),n h4 (λ_ z=>by cases z)⟩,h5⟩
theorem BX.put {a:Ad} {H:Hp} {o D:S5} {B:BTd} {xs:List V} {u:HO} (hD:H D=some (.lst xs)) (h:BX a H o B):BX a (upd H D u) o B:=by
 obtain ⟨dx,g,h1,h2⟩:=h
 refine ⟨dx,g,?_,h2.put hD⟩
 rw [Jkt λz=>?_]
 ·exact h1
 ·rw [z,hD] at h1
  cases h1
theorem Scn.put {a:Ad} {H:Hp} {o D:S5} {B:Twn} {xs:List V} {u:HO} (hD:H D=some (.lst xs)) (h:Scn a H o B):Scn a (upd H D u) o B:=by
 obtain ⟨dx,h1⟩:=h
 refine ⟨dx,?_⟩
 rw [Jkt λz=>?_]
 ·exact h1
 ·rw [z,hD] at h1
  cases h1
theorem Scn.same {a:Ad} {H H':Hp} {o:S5} {B:Twn} (s:Sn H H') (h:Scn a H o B):Scn a H' o B:=h.elim λdx e=>⟨dx,s _ _ e⟩
theorem Scn.btr {a:Ad} {H H':Hp} {r o:S5} {k:Nat} {ws:List Str} {B:Twn} (rd:Sav a H r k ws) (c:Btr r H H') (h:Scn a H o B):Scn a H' o B:=by
 obtain ⟨dx,h1⟩:=h
 exact ⟨dx,c _ _ (Jom rd h1 λC dx l k P e=>by cases e) h1⟩
theorem Sav.put {a:Ad} {H:Hp} {r D:S5} {k:Nat} {ws:List Str} {os:List S5} {u:HO} (h0:ws≠ []) (hD:H D=some (.lst (os.map V.ref))) (h:Sav a H r k ws):Sav a (upd H D u) r k ws:=by
 obtain ⟨dx,P,l,h1,h2,h3⟩:=h
 refine ⟨dx,P,l,?_,?_,h3⟩
 ·rw [Jkt λz=>?_]
  ·exact h1
  ·rw [z,hD] at h1
   cases h1
 ·rw [Jkt λz=>?_]
  ·exact h2
  ·rw [z,hD] at h2
   have e:=HO.lst.inj (yy.inj h2)
   cases ws with
   |nil=>exact h0 rfl
   |cons w0 ws=>
    cases os with
    |nil=>cases e
    |cons o os=>cases e
structure RvS (a:Ad) (H:Hp) (L M:S5) (os:List S5) (Bs:List BTd) (ps:List S5) (Ts:List Twn):Prop where
 hL:H L=some (.lst (os.map V.ref))
 hB:Paired (λo B=>BX a H o B) os Bs
 hM:H M=some (.lst (ps.map V.ref))
 hT:Paired (λo B=>Scn a H o B) ps Ts
 ne:L≠M
theorem RvS.same {a:Ad} {H H':Hp} {L M:S5} {os:List S5} {Bs:List BTd} {ps:List S5} {Ts:List Twn} (s:Sn H H') (h:RvS a H L M os Bs ps Ts):RvS a H' L M os Bs ps Ts:=
 ⟨s _ _ h.hL,Paired.mapP h.hB λ_ _ q=>q.same s,s _ _ h.hM,Paired.mapP h.hT λ_ _ q=>q.same s,h.ne⟩
theorem RvS.btr {a:Ad} {H H':Hp} {r L M:S5} {k:Nat} {ws:List Str} {os:List S5} {Bs:List BTd} {ps:List S5} {Ts:List Twn} (rd:Sav a H r k ws) (c:Btr r H H') (h:RvS a H L M os Bs ps Ts):RvS a H' L M os Bs ps Ts:=
 ⟨c _ _ (Jom rd h.hL λC dx l k P e=>by cases e) h.hL,Paired.mapP h.hB λ_ _ q=>q.btr rd c,c _ _ (Jom rd h.hM λC dx l k P e=>by cases e) h.hM,Paired.mapP h.hT λ_ _ q=>q.btr rd c,h.ne⟩
theorem Jv6 {t1 t2:TS} {D:Jon} {σ:L2.St} {H:Hp} (Mid:L2.St->Hp->Prop) (h1:∀R,(∀σ H,Mid σ H->R σ H)->t1 {D with nx:=R} σ H) (h2:∀σ H,Mid σ H->t2 D σ H):Jw9 t1 t2 D σ H:=h1 _ h2
def CLD:Str:="cloud"
def BAS:Str:="basin"
def TWN:Str:="town"
def Yag:Sp:=λvs H Q _=>∃(L M:S5) (os ps:List S5),vs= [.ref L,.ref M]/\H L=some (.lst (os.map V.ref))/\H M=some (.lst (ps.map V.ref))/\∀(D:S5) (zs:List Str) (H':Hp),Sn H H'->H D=none->H' D=some (.lst (zs.map V.str))->(os.length < 16/\ps.length=0->BAS∈zs)->(0 < os.length/\ps.length < 3->TWN∈zs)->Q (.ref D) H'
def Yap (a:Ad):Sp:=λvs H Q _=>∃(r L M:S5) (ws:List Str) (os ps:List S5) (Bs:List BTd) (Ts:List Twn),vs= [.ref r,.ref L,.ref M]/\Tbs a H/\Sav a H r 0 ws/\RvS a H L M os Bs ps Ts/\
 ((∃B:BTd,ws=BAS::bws B/\TGd B/\B.z∉Bs.map (·.z)/\Bs.length < 16/\Ts= []/\∀o H',(∀b u,b≠r->b≠L->H b=some u->H' b=some u)->RvS a H' L M (os++ [o]) (Bs++ [B]) ps Ts->Q .non H')\/
  (∃W:Twn,ws=TWN::tws W/\WGd W/\W.z∉Ts.map (·.z)/\W.b∈Bs.map (·.z)/\Bs.length<=16/\Ts.length < 3/\∀o H',(∀b u,b≠r->b≠M->H b=some u->H' b=some u)->RvS a H' L M os Bs (ps++ [o]) (Ts++ [W])->Q .non H'))
def Jzt (a:Ad):Sp:=λvs H Q _=>∃(r:S5) (ws:List Str) (c g:Nat),vs= [.ref r]/\Tbs a H/\Sav a H r 0 ws/\ws= [CLD,nmS c,nmS g]/\g<=c/\c < 13/\∀(t:S5) (H':Hp),Btr r H H'->H' t=some (.tup [.int c,.int g])->Q (.ref t) H'
theorem Jyn (T:Tx K mg a) {H:Hp} {os:List S5} {Bs:List BTd} (h:Paired (λo B=>BX a H o B) os Bs):NmL K H os (Bs.map (·.z)):=by
 induction h with
 |nil=>exact .nil
 |cons h t ih=>
  obtain ⟨dx,g,h1,_⟩:=h
  exact .cons ⟨_,dx,_,h1,T.Jds,T.Jei,rfl⟩ ih
theorem twn_nm (T:Tx K mg a) {H:Hp} {os:List S5} {Bs:List Twn} (h:Paired (λo B=>Scn a H o B) os Bs):NmL K H os (Bs.map (·.z)):=by
 induction h with
 |nil=>exact .nil
 |cons h t ih=>
  obtain ⟨dx,h1⟩:=h
  exact .cons ⟨_,dx,_,h1,T.Jdv,T.Jeo,rfl⟩ ih
theorem Sco:Jky ["basins","towns","firsts"] ["basins","towns"] (Jku (top 57)):=⟨rfl,rfl,rfl,by decide +kernel,rfl,by decide +kernel,by decide +kernel⟩
theorem Jsm (T:Tx K mg a):Sx P w K mg base CX0 1 a.Jim a.Jin ["basins","towns"] Yag:=by
 refine T.Js.fn.ok Sco (λvs H Q E h=>?_) (λcdv A outer s H vs Q E hr h=>?_)
 ·obtain ⟨L,M,os,ps,rfl,_⟩:=h
  rfl
 ·obtain ⟨L,M,os,ps,rfl,hL,hM,q⟩:=h
  refine ⟨?t,?B,?C⟩
  case B=>
   refine' Jkq ?O0 ?O1
   case O0=>exact (Jl4 (i:=2) Sco.nd rfl (ye rfl) (Jli Ss))
   case O1=>
   refine' Jkq ?O2 ?O3
   case O2=>
    refine' Jld ?O4 ?O5 ?O6
    case O4=>exact (PW.pt (Jv2 (Jle Ju2 (Jl0 Jl2 (by rfl) T.Jau Jlu (So (pv 0) Ss)) (Jlc (by rfl) T.Jal (v:=.int 16) ⟨_,rfl⟩) (Jla _)) (Js8 (Jle Jmu (Jl0 Jl2 (by rfl) T.Jau Jlu (So (pv 1) Ss)) Sz (Jla _)))))
    case O5=>
     refine' Jkr ?O7
     case O7=>exact (Jlr (Jmg F.plainAttrs_list F.slot_list_append F.type_list_append Jly (pv 2) (So Jl7 Ss)))
    case O6=>exact Jl1
   case O3=>
   refine' Jkq ?O8 ?O9
   case O8=>
    refine' Jld ?Oa ?Ob ?Oc
    case Oa=>exact (PW.pt (Jv2 (Jle Jzb (Jl0 Jl2 (by rfl) T.Jau Jlu (So (pv 0) Ss)) Sz (Jla _)) (Js8 (Jle Ju2 (Jl0 Jl2 (by rfl) T.Jau Jlu (So (pv 1) Ss)) (Jlc (by rfl) T.Jam (v:=.int 3) ⟨_,rfl⟩) (Jla _)))))
    case Ob=>
     refine' Jkr ?Od
     case Od=>exact (Jlr (Jmg F.plainAttrs_list F.slot_list_append F.type_list_append Jly (pv 2) (So Jl7 Ss)))
    case Oc=>exact Jl1
   case O9=>
   refine' Jkr ?Oe
   case Oe=>exact (Jkz (pv 2))
  refine ⟨(show 0<=Sa by decide),λD hD=>?_⟩
  have nL:L≠D:=λz=>by rw [z,hD] at hL;cases hL
  have nM:M≠D:=λz=>by rw [z,hD] at hM;cases hM
  have keep:∀{H':Hp} {o:HO},Sn H H'->Sn H (upd H' D o):=λs b u z=>by rw [Jkt (Jkw z hD)];exact s _ _ z
  have q1:=keep (o:=.lst []) (Sn.refl H)
  have hD1:(upd H D (.lst [])) D=some (.lst (([]:List Str).map V.str)):=Sy
  generalize upd H D (.lst [])=H1 at q1 hD1⊢
  unfold Siw
  dsimp only
  refine Jv6 (λσ H2=>∃zs:List Str,σ= [some (.ref L),some (.ref M),some (.ref D)]/\Sn H H2/\H2 D=some (.lst (zs.map V.str))/\zs.length<=1/\(os.length < 16/\ps.length=0->BAS∈zs)) (λR hR=>?_) ?_
  ·have hL1:=q1 _ _ hL
   have hM1:=q1 _ _ hM
   refine ⟨_,rfl,L,_,rfl,.inl (Sw.of hL1),_,_,rfl,rfl,_,rfl,Jsg (λc1=>?_) (λc1=>?_)⟩
   ·refine ⟨_,rfl,M,_,rfl,.inl (Sw.of hM1),rfl,_,rfl,Jsg (λc2=>?_) (λc2=>?_)⟩
    ·refine ⟨_,rfl,.inl ⟨rfl,_,Sw.of hD1⟩,D,_,_,rfl,rfl,hD1,(show 0 < Sa by decide),hR _ _ ⟨[BAS],rfl,keep q1,Sy,by simp,λ_=>.head _⟩⟩
    ·exact hR _ _ ⟨[],rfl,q1,hD1,by simp,λh=>absurd (by rw [yf,h.2];rfl) c2⟩
   ·refine Jlp (hR _ _ ⟨[],rfl,q1,hD1,by simp,λh=>absurd (decide_eq_true (by rw [yf];omega)) c1⟩)
  ·rintro σ2 H2 ⟨zs,rfl,s2,hD2,hl,m1⟩
   have hL2:=s2 _ _ hL
   have hM2:=s2 _ _ hM
   have fin:∀(H':Hp) (ys:List Str),Sn H H'->H' D=some (.lst (ys.map V.str))->(os.length < 16/\ps.length=0->BAS∈ys)->(0 < os.length/\ps.length < 3->TWN∈ys)->Q (.ref D) H':=λH' ys s' h' m1 m2=>q D ys H' s' hD h' m1 m2
   refine Jv6 (λσ H3=>∃ys:List Str,σ= [some (.ref L),some (.ref M),some (.ref D)]/\Sn H H3/\H3 D=some (.lst (ys.map V.str))/\(os.length < 16/\ps.length=0->BAS∈ys)/\(0 < os.length/\ps.length < 3->TWN∈ys)) (λR hR=>?_) ?_
   ·refine ⟨_,rfl,L,_,rfl,.inl (Sw.of hL2),_,_,rfl,rfl,_,rfl,Jsg (λc1=>?_) (λc1=>?_)⟩
    ·refine ⟨_,rfl,M,_,rfl,.inl (Sw.of hM2),_,_,rfl,rfl,_,rfl,Jsg (λc2=>?_) (λc2=>?_)⟩
     ·refine ⟨_,rfl,.inl ⟨rfl,_,Sw.of hD2⟩,D,_,_,rfl,rfl,hD2,by rw [yf];exact Jls (by omega),hR _ _ ⟨zs++ [TWN],rfl,keep s2,by rw [Sy,yaf];rfl,λh=>List.mem_append_left _ (m1 h),λ_=>yaq _ (.head _)⟩⟩
     ·exact hR _ _ ⟨zs,rfl,s2,hD2,m1,λh=>absurd (decide_eq_true (by rw [yf];omega)) c2⟩
    ·refine Jlp (hR _ _ ⟨zs,rfl,s2,hD2,m1,λh=>absurd (decide_eq_true (by rw [yf];omega)) c1⟩)
   ·rintro σ3 H3 ⟨ys,rfl,s3,hD3,n1,n2⟩
    exact ⟨_,rfl,fin H3 ys s3 hD3 n1 n2⟩
theorem Jtl:Jky ["reader","basins","towns"] ["reader","basins","towns"] (Jku (top 58)):=⟨rfl,rfl,rfl,by decide +kernel,rfl,by decide +kernel,by decide +kernel⟩
theorem Jtd (T:Tx K mg a) (B:Bmn mg base):Sx P w K mg base CX0 10 a.Jio a.Jip ["reader","basins","towns"] (Yap a):=by
 have Sa3:=Jm1 (P:=P) (w:=w) T B
 have Se4:=Jsm (P:=P) (w:=w) (base:=base) T
 have Sei:=Jt9 (P:=P) (w:=w) T B
 have Sf9:=Juu (P:=P) (w:=w) T B
 have Sar:=Jn3 (P:=P) (w:=w) (base:=base) T
 refine T.Jt.fn.ok Jtl (λvs H Q E h=>?_) (λcdv A outer s H vs Q E hr h=>?_)
 ·obtain ⟨r,L,M,ws,os,ps,Bs,Ts,rfl,_⟩:=h
  rfl
 ·obtain ⟨r,L,M,ws,os,ps,Bs,Ts,rfl,tb,rd,rv,h⟩:=h
  have lo:=Paired.length rv.hB
  have lp:=Paired.length rv.hT
  have nL:L≠r:=Jom rd rv.hL λC dx l k P e=>by cases e
  have nM:M≠r:=Jom rd rv.hM λC dx l k P e=>by cases e
  refine ⟨?t,?B,?C⟩
  case B=>
   refine' Jkq ?O0 ?O1
   case O0=>
    refine' Jld ?O2 ?O3 ?O4
    case O2=>exact (Jle Jmu (Jlx (pv 0) T.Je3 T.Je7 Sa3 (hr.mono (by decide)) T.Jcv.bd .nil Jlk (So (Jkv T.Js Se4 hr (by decide) (So (pv 1) (So (pv 2) Ss))) Ss)) Jl7 (Jla _))
    case O3=>
     refine' Jkr ?O5
     case O5=>exact (Jlr (Jmg F.plainAttrs_list F.slot_list_append F.type_list_append Jly (pv 1) (So (Jkv T.Jq Sei hr (by decide) (So (pv 0) (So (pv 1) Ss))) Ss)))
    case O4=>
    refine' Jkr ?O6
    case O6=>exact (Jlr (Jmg F.plainAttrs_list F.slot_list_append F.type_list_append Jly (pv 2) (So (Jkv T.Jr Sf9 hr (by decide) (So (pv 0) (So (pv 1) (So (pv 2) Ss)))) Ss)))
   case O1=>
   refine' Jkr ?O7
   case O7=>exact (Jlr (Jo3 (pv 0) T.Je3 T.Jea Sar.calm (hr.mono (by decide)) T.Jcy.bd .nil Jlk))
  obtain ⟨dx,P,l,h1,h2,h3⟩:=id rd
  refine ⟨_,rfl,r,dx,_,rfl,h1,by rfl,_,rfl,_,rfl,L,M,os,ps,rfl,rv.hL,rv.hM,λD zs H1 s1 hD0 hD m1 m2=>?_⟩
  have rd1:=rd.same s1
  have tb1:=tb.same s1
  have rv1:=rv.same s1
  rcases h with ⟨B,rfl,tg,hz,hl,rfl,q⟩|⟨W,rfl,tg,hz,hb,hl,hl2,q⟩
  ·have hp:ps.length=0:=lp
   refine ⟨r,D,0,_,zs,BAS,rfl,tb1.1,rd1,rfl,.inl (Sw.of hD),m1 ⟨by omega,hp⟩,λH2 c2 rd2=>?_⟩
   refine ⟨rfl,_,rfl,Jwj rfl ?_⟩
   have tb2:=tb1.btr rd1 c2
   have rv2:=rv1.btr rd1 c2
   refine ⟨_,rfl,.inl ⟨rfl,_,Sw.of rv2.hL⟩,_,rfl,_,rfl,r,L,1,_,_,os,B,rfl,tb2,rd2,rfl,tg,rv2.hL,Jyn T rv2.hB,by omega,hz,λo H3 c3 rd3 bx=>?_⟩
   have rv3:=rv2.btr rd2 c3
   refine ⟨L,_,_,rfl,rfl,rv3.hL,by rw [yf];exact Jls (by omega),?_⟩
   have rd4:=rd3.put (u:=.lst (os.map V.ref++ [.ref o])) (by simp) rv3.hL
   obtain ⟨dx4,P4,l4,g4,_⟩:=id rd4
   refine ⟨_,rfl,r,dx4,_,rfl,g4,by rfl,r,_,rfl,rd4,q o _ (λb u n1 n2 e=>?_) ⟨by rw [Sy,yaf];rfl,Paired.snoc (Paired.mapP rv3.hB λ_ _ q=>q.put rv3.hL) (bx.put rv3.hL),by rw [Jkt (ym rv.ne)];exact rv3.hM,Paired.mapP rv3.hT λ_ _ q=>q.put rv3.hL,rv.ne⟩⟩
   rw [Jkt n2]
   exact c3 _ _ n1 (c2 _ _ n1 (s1 _ _ e))
  ·have hB1:0 < Bs.length:=by
    cases Bs with
    |nil=>cases hb
    |cons b bs=>simp
   refine ⟨r,D,0,_,zs,TWN,rfl,tb1.1,rd1,rfl,.inl (Sw.of hD),m2 ⟨by omega,by omega⟩,λH2 c2 rd2=>?_⟩
   refine ⟨rfl,_,rfl,Jt4 (Jsx (by decide +kernel)) ?_⟩
   have tb2:=tb1.btr rd1 c2
   have rv2:=rv1.btr rd1 c2
   refine ⟨_,rfl,.inl ⟨rfl,_,Sw.of rv2.hM⟩,_,rfl,_,rfl,_,rfl,r,L,M,1,_,_,_,os,ps,W,rfl,tb2,rd2,rfl,tg,rv2.hL,Jyn T rv2.hB,by omega,rv2.hM,twn_nm T rv2.hT,by omega,hz,hb,λo H3 c3 rd3 bx=>?_⟩
   have rv3:=rv2.btr rd2 c3
   refine ⟨M,_,_,rfl,rfl,rv3.hM,by rw [yf];exact Jls (by omega),?_⟩
   have rd4:=rd3.put (u:=.lst (ps.map V.ref++ [.ref o])) (by simp) rv3.hM
   obtain ⟨dx4,P4,l4,g4,_⟩:=id rd4
   refine ⟨_,rfl,r,dx4,_,rfl,g4,by rfl,r,_,rfl,rd4,q o _ (λb u n1 n2 e=>?_) ⟨by rw [Jkt rv.ne];exact rv3.hL,Paired.mapP rv3.hB λ_ _ q=>q.put rv3.hM,by rw [Sy,yaf];rfl,Paired.snoc (Paired.mapP rv3.hT λ_ _ q=>q.put rv3.hM) (bx.put rv3.hM),rv.ne⟩⟩
   rw [Jkt n2]
   exact c3 _ _ n1 (c2 _ _ n1 (s1 _ _ e))
theorem Sc2:Jky ["reader","cloud","gain"] ["reader"] (Jku (top 59)):=⟨rfl,rfl,rfl,by decide +kernel,rfl,by decide +kernel,by decide +kernel⟩
theorem Jta (T:Tx K mg a) (B:Bmn mg base):Sx P w K mg base CX0 7 a.Jiq a.Jir ["reader"] (Jzt a):=by
 have Sa3:=Jm1 (P:=P) (w:=w) T B
 have Sr:=Jlq (P:=P) (w:=w) T B
 have Sar:=Jn3 (P:=P) (w:=w) (base:=base) T
 refine T.Ju.fn.ok Sc2 (λvs H Q E h=>?_) (λcdv A outer s H vs Q E hr h=>?_)
 ·obtain ⟨r,ws,c,g,rfl,_⟩:=h
  rfl
 ·obtain ⟨r,ws,c,g,rfl,tb,rd,rfl,hg,hc,q⟩:=h
  refine ⟨?t,?B,?C⟩
  case B=>
   refine' Jkq ?O0 ?O1
   case O0=>exact (Jlr (Jlx (pv 0) T.Je3 T.Je7 Sa3 (hr.mono (by decide)) T.Jcv.bd .nil Jlk (So (Jli (So Jl7 Ss)) Ss)))
   case O1=>
   refine' Jkq ?O2 ?O3
   case O2=>exact (Jl4 (i:=1) Sc2.nd rfl (ye rfl) (Jlx (pv 0) T.Je3 T.Je9 Sr (hr.mono (by decide)) T.Jcx.bd .nil Jlk (So Sz (So (Jlc (by rfl) T.Jak (v:=.int 12) ⟨_,rfl⟩) Ss))))
   case O3=>
   refine' Jkq ?O4 ?O5
   case O4=>exact (Jl4 (i:=2) Sc2.nd rfl (ye rfl) (Jlx (pv 0) T.Je3 T.Je9 Sr (hr.mono (by decide)) T.Jcx.bd .nil Jlk (So Sz (So (pv 1) Ss))))
   case O5=>
   refine' Jkq ?O6 ?O7
   case O6=>exact (Jlr (Jo3 (pv 0) T.Je3 T.Jea Sar.calm (hr.mono (by decide)) T.Jcy.bd .nil Jlk))
   case O7=>
   refine' Jkr ?O8
   case O8=>exact (Jkz (Jsq (So (pv 1) (So (pv 2) Ss))))
  obtain ⟨dx,P,l,h1,h2,h3⟩:=id rd
  refine ⟨_,rfl,r,dx,_,rfl,h1,by rfl,(show 1<=Sa by decide),λD hD=>?_⟩
  have s1:=Sn.upd (o:=.lst [.str CLD]) hD
  refine ⟨r,D,0,_,[CLD],CLD,rfl,(tb.same s1).1,rd.same s1,rfl,.inl (Sw.of Sy),.head _,λH2 c2 rd2=>?_⟩
  have tb2:=(tb.same s1).btr (rd.same s1) c2
  obtain ⟨_,_,_,g2,_⟩:=id rd2
  refine ⟨_,rfl,r,_,_,rfl,g2,by rfl,r,0,12,1,c,_,rfl,tb2.2.2,rd2,rfl,hc,⟨by omega,by omega⟩,λH3 c3 rd3=>?_⟩
  have tb3:=tb2.btr rd2 c3
  obtain ⟨_,_,_,g3,_⟩:=id rd3
  refine ⟨_,rfl,r,_,_,rfl,g3,by rfl,_,rfl,r,0,c,2,g,_,rfl,tb3.2.2,rd3,rfl,by omega,⟨by omega,by omega⟩,λH4 c4 rd4=>?_⟩
  obtain ⟨_,_,_,g4,_⟩:=id rd4
  refine ⟨_,rfl,r,_,_,rfl,g4,by rfl,r,[CLD,nmS c,nmS g],rfl,rd4,?_⟩
  refine ⟨_,rfl,_,rfl,(show 2<=Sa by decide),λt ht=>?_⟩
  exact q t _ (((((Btr.of s1).trans c2).trans c3).trans c4).trans (Btr.of (Sn.upd ht))) Sy
def NLN:Str:="\n"
theorem Jz5:NLN=⟨#[10]⟩:=by decide +kernel
theorem Jqy (s:Str) (ws:List Str):Txt.join s ws=Str.join s ws:=StrLaws.glued_eq_join _ _
theorem Jz3 {c x:Nat}:∀(ws:List Str),x∈(Str.join ⟨#[c]⟩ ws).cps.toList->x=c\/∃w∈ws,x∈w.cps.toList:=by
 intro ws
 induction ws with
 |nil=>
  intro h
  have h':x∈([]:List Nat):=h
  cases h'
 |cons a ws ih=>
  intro h
  cases ws with
  |nil=>exact .inr ⟨a,.head _,h⟩
  |cons b ws=>
   rw [Jog] at h
   rcases yar.mp h with h|h
   ·exact .inr ⟨a,.head _,h⟩
   ·rcases yi.mp h with h|h
    ·exact .inl h
    ·rcases ih h with h|⟨w,hw,h⟩
     ·exact .inl h
     ·exact .inr ⟨w,.tail _ hw,h⟩
theorem Jvl {c m:Nat}:∀(ws:List Str),(∀w∈ws,w.length<=m)->(Str.join ⟨#[c]⟩ ws).length<=ws.length*(m+1):=by
 intro ws
 induction ws with
 |nil=>intro _;exact yah _
 |cons a ws ih=>
  intro h
  have ha:=h a (.head _)
  cases ws with
  |nil=>
   show a.length<=_
   simp
   omega
  |cons b ws=>
   have q:=ih λw hw=>h w (.tail _ hw)
   rw [<-Jou,Jog,yal,yaj,Jou,Jou]
   rw [yaj,Nat.succ_mul]
   omega
structure Wrd (z:Str):Prop where
 sp:noC 32 z
 nl:noC 10 z
 len:z.length<=10
theorem Jvh {z:Str} (h:(decide (z.length<=10)&&z.cps.toList.all (λc=>decide (c≠32/\c≠10)))=true):Wrd z:=by
 rw [yp,decide_eq_true_eq,yai] at h
 exact ⟨λm=>(of_decide_eq_true (h.2 _ m)).1 rfl,λm=>(of_decide_eq_true (h.2 _ m)).2 rfl,h.1⟩
theorem Jvg {n:Nat} (h:n < 13):Wrd (nmS n):=by
 have ok:=Jum n h
 simp only [yp] at ok
 obtain ⟨⟨⟨⟨h1,_⟩,_⟩,_⟩,h5⟩:=ok
 have h1:=of_decide_eq_true h1
 rw [yai] at h5
 exact ⟨λm=>(of_decide_eq_true (h5 _ m)).1 rfl,λm=>(of_decide_eq_true (h5 _ m)).2.1 rfl,by omega⟩
theorem Jt1 {z:Str} (h:Jno z=true):Wrd z:=by
 unfold Jno at h
 rw [yp,decide_eq_true_eq] at h
 obtain ⟨h1,h2⟩:=h
 unfold Jqr at h2
 rw [yai] at h2
 have n32:¬(32∈LET.cps.toList):=by decide +kernel
 have n10:¬(10∈LET.cps.toList):=by decide +kernel
 exact ⟨λm=>n32 (of_decide_eq_true (h2 _ m)),λm=>n10 (of_decide_eq_true (h2 _ m)),by omega⟩
theorem Jnl {x:Int} (h0:0<=x) (h1:x<=12):Wrd (nmS x):=by
 obtain ⟨n,rfl⟩:=yaa h0
 exact Jvg (by omega)
theorem Jxp {B:BTd} (tg:TGd B):∀z∈BAS::bws B,Wrd z:=by
 have b1:=tg.b.lo
 have b2:=tg.b.hi
 have b3:=tg.b.rn
 have b4:=tg.st
 intro z hz
 simp only [bws,gws,List.cons_append,List.nil_append,yi] at hz
 rcases hz with rfl|rfl|rfl|rfl|rfl|rfl|rfl|hz
 ·exact Jvh (by decide +kernel)
 ·exact Jt1 tg.nm
 ·exact Jnl (by omega) (by omega)
 ·exact Jnl (by omega) (by omega)
 ·exact Jnl (by omega) (by omega)
 ·exact Jnl (by omega) (by omega)
 ·rcases tg.b.G.kd with e|e|e <;> rw [e] <;> exact Jvh (by decide +kernel)
 ·obtain ⟨x,hx,rfl⟩:=yag.mp hz
  obtain ⟨i,hi,rfl⟩:=List.mem_iff_getElem.mp hx
  have q:=tg.b.G.ns
  unfold Jn1 at q
  rw [yp] at q
  have g:=Jnv _ _ q.2 i _ (yq hi)
  have l0:0<=Jns B.G.kd:=by
   unfold Jns
   split <;> omega
  exact Jnl (by omega) g.2.2.2
theorem Yaz {W:Twn} (tg:WGd W):∀z∈TWN::tws W,Wrd z:=by
 have b1:=tg.wt
 intro z hz
 simp only [tws,yi,yt,or_false] at hz
 rcases hz with rfl|rfl|rfl|rfl
 ·exact Jvh (by decide +kernel)
 ·exact Jt1 tg.nm
 ·exact Jt1 tg.nb
 ·exact Jnl (by omega) (by omega)
theorem Jvf {c g:Nat} (hc:c < 13) (hg:g<=c):∀z∈ [CLD,nmS c,nmS g],Wrd z:=by
 intro z hz
 simp only [yi,yt,or_false] at hz
 rcases hz with rfl|rfl|rfl
 ·exact Jvh (by decide +kernel)
 ·exact Jvg hc
 ·exact Jvg (by omega)
theorem Jpr {ws:List Str} (h:∀z∈ws,Wrd z) (hl:ws.length<=12):noC 10 (Txt.join SPC ws)/\(Txt.join SPC ws).length<=132:=by
 rw [Jqy,Jwz]
 refine ⟨λm=>?_,yz (Jvl (m:=10) ws λw hw=>(h w hw).len) (by omega)⟩
 rcases Jz3 ws m with e|⟨w,hw,e⟩
 ·cases e
 ·exact (h w hw).nl e
def rws (c g:Nat) (Bs:List BTd) (Ts:List Twn):List (List Str):=[CLD,nmS c,nmS g]::(Bs.map (λB=>BAS::bws B)++Ts.map λW=>TWN::tws W)
def rtx (c g:Nat) (Bs:List BTd) (Ts:List Twn):Str:=Txt.join NLN ((rws c g Bs Ts).map (Txt.join SPC))
structure RGd (c g:Nat) (Bs:List BTd) (Ts:List Twn):Prop where
 cc:c < 13
 gc:g<=c
 len:1<=Bs.length/\Bs.length<=16
 bas:∀B∈Bs,TGd B
 bn:(Bs.map (·.z)).Nodup
 tl:Ts.length<=3
 twn:∀W∈Ts,WGd W
 tn:(Ts.map (·.z)).Nodup
 tb:∀W∈Ts,W.b∈Bs.map (·.z)
theorem Jv3 {c g:Nat} {Bs:List BTd} {Ts:List Twn} (h:RGd c g Bs Ts):∀ws∈rws c g Bs Ts,(∀z∈ws,Wrd z)/\ws.length<=12/\ws≠ []:=by
 intro ws hws
 rcases yi.mp hws with rfl|hws
 ·exact ⟨Jvf h.cc h.gc,by simp,by simp⟩
 ·rcases yar.mp hws with hw|hw
  ·obtain ⟨B,hB,rfl⟩:=yag.mp hw
   have l:=(h.bas B hB).b.G.len
   exact ⟨Jxp (h.bas B hB),by simp [bws,gws];omega,by simp⟩
  ·obtain ⟨W,hW,rfl⟩:=yag.mp hw
   exact ⟨Yaz (h.twn W hW),by simp [tws],by simp⟩
theorem Js9 (c g:Nat) (Bs:List BTd) (Ts:List Twn):(rws c g Bs Ts).length=1+(Bs.length+Ts.length):=by
 simp [rws]
 omega
theorem Jy8 {c g:Nat} {Bs:List BTd} {Ts:List Twn} (h:RGd c g Bs Ts):Txt.split (rtx c g Bs Ts) NLN=(rws c g Bs Ts).map (Txt.join SPC)/\(rtx c g Bs Ts).length<=100000:=by
 have ok:=Jv3 h
 have ln:=Js9 c g Bs Ts
 have hl:=h.len
 have ht:=h.tl
 unfold rtx
 constructor
 ·rw [Jz5]
  refine Jsw (by simp [rws]) λp hp=>?_
  obtain ⟨ws,hw,rfl⟩:=yag.mp hp
  exact (Jpr (ok ws hw).1 (ok ws hw).2.1).1
 ·rw [Jqy,Jz5]
  refine yz (Jvl (m:=132) _ λp hp=>?_) ?_
  ·obtain ⟨ws,hw,rfl⟩:=yag.mp hp
   exact (Jpr (ok ws hw).1 (ok ws hw).2.1).2
  ·rw [yf,ln]
   omega
def Se6 (a:Ad) (H:Hp) (y:S5) (c g:Int) (Bs:List BTd) (Ts:List Twn):Prop:=∃(dx b t:S5) (os ps:List S5),H y=some (.ins a.Jkf dx (Sh9 (.int c) (.int g) (.ref b) (.ref t)))/\H b=some (.tup (os.map V.ref))/\H t=some (.tup (ps.map V.ref))/\Paired (λo B=>BX a H o B) os Bs/\Paired (λo B=>Scn a H o B) ps Ts
theorem Se6.same {a:Ad} {H H':Hp} {y:S5} {c g:Int} {Bs:List BTd} {Ts:List Twn} (s:Sn H H') (h:Se6 a H y c g Bs Ts):Se6 a H' y c g Bs Ts:=by
 obtain ⟨dx,b,t,os,ps,h1,h2,h3,h4,h5⟩:=h
 exact ⟨dx,b,t,os,ps,s _ _ h1,s _ _ h2,s _ _ h3,Paired.mapP h4 λ_ _ q=>q.same s,Paired.mapP h5 λ_ _ q=>q.same s⟩
theorem Jyo {K:Si} {a:Ad} {H:Hp} {os:List S5} {Bs:List BTd} (h:Paired (λo B=>BX a H o B) os Bs):(∀B∈Bs,TGd B)->∃Cs:List Bsn,Sdk K a H os Cs/\Cs.map (·.z)=Bs.map (·.z)/\Cs.length=Bs.length:=by
 induction h with
 |nil=>intro _;exact ⟨[],trivial,rfl,rfl⟩
 | @cons o B os Bs h t ih=>
  intro tg
  obtain ⟨Cs,c1,c2,c3⟩:=ih λB' hB'=>tg B' (yae _ hB')
  obtain ⟨dx,g,h1,gx⟩:=h
  exact ⟨⟨B.z,B.lo,B.hi,B.st,B.rn,g,nOf B.G⟩::Cs,⟨⟨dx,h1,gx.gs (tg B (yao ..)).b.G⟩,c1⟩,by simp [c2],by simp [c3]⟩
theorem twn_of {a:Ad} {H:Hp} {os:List S5} {Bs:List Twn} (h:Paired (λo B=>Scn a H o B) os Bs):Sdy a H os Bs:=by
 induction h with
 |nil=>exact trivial
 |cons h t ih=>exact ⟨h,ih⟩
theorem Juk {zs:List Str} (h:zs.Nodup) {i:Nat} {z:Str} (hz:zs[i]?=some z):z∉zs.take i:=by
 intro m
 rw [<-List.take_append_drop i zs,List.nodup_append] at h
 have hd:z∈zs.drop i:=yo (i:=0) (by rw [List.getElem?_drop];exact hz)
 exact h.2.2 z m z hd rfl
def Jzu (a:Ad):Sp:=λvs H Q _=>∃(c g:Nat) (Bs:List BTd) (Ts:List Twn),vs= [.str (rtx c g Bs Ts)]/\Tbs a H/\RGd c g Bs Ts/\∀(y:S5) (H':Hp),Sn H H'->Se6 a H' y c g Bs Ts->Q (.ref y) H'
theorem Jzk {H1:Hp} {x dx:S5} {l:Int} {ws:List Str} {Q1:Hp->Prop} {E:XK} (h0:ws≠ []) (hw:∀z∈ws,Wrd z) (hl:ws.length<=12) (hx1:H1 x=none) (hd1:H1 dx=none)
  (k:∀H2,Sn H1 H2->Sav a H2 x 0 ws->Q1 H2):Jw7 a [.ref x,.int l,.str (Txt.join SPC ws)] (upd (upd H1 dx (.own x)) x (.ins a.Jkg dx [])) (λv H2=>v= .non/\Q1 H2) E:=by
 have sn:Sn H1 (upd (upd H1 dx (.own x)) x (.ins a.Jkg dx [])):=λb o e=>by rw [Jkt (Jkw e hx1),Jkt (Jkw e hd1)];exact e
 refine ⟨x,dx,l,ws,rfl,Sy,h0,λz hz=>(hw z hz).sp,by omega,yz (Jpr hw hl).2 (by decide),λH2 c2 rd2=>⟨rfl,k H2 (λb o e=>c2 b o (Jkw e hx1) (sn b o e)) rd2⟩⟩
theorem Saq:Jky ["text","rows","cloud","basins","towns","line"] ["text"] (Jku (top 60)):=⟨rfl,rfl,rfl,by decide +kernel,rfl,by decide +kernel,by decide +kernel⟩
theorem Jtc (T:Tx K mg a) (B:Bmn mg base):Sx P w K mg base (CXX P w) 11 a.Jis a.Jit ["text"] (Jzu a):=by
 have Sa8:=Jo0 (P:=P) (w:=w) (base:=base) T
 have Sb8:=Jq7 (P:=P) (w:=w) (base:=base) T
 have Sej:=Jta (P:=P) (w:=w) T B
 have Sel:=Jtd (P:=P) (w:=w) T B
 have Sba:=Jq2 (P:=P) (w:=w) (base:=base) T
 refine T.Jv.fn.okX Saq (λvs H Q E h=>?_) (λcdv A outer s H vs Q E hr h=>?_)
 ·obtain ⟨c,g,Bs,Ts,rfl,_⟩:=h
  rfl
 ·obtain ⟨c,g,Bs,Ts,rfl,tb,rg,q⟩:=h
  obtain ⟨sp,lt⟩:=Jy8 rg
  have ok:=Jv3 rg
  have ln:=Js9 c g Bs Ts
  have b16:=rg.len
  have t3:=rg.tl
  refine ⟨?t,?B,?C⟩
  case B=>
   refine' Jkq ?O0 ?O1
   case O0=>
    refine' Jld ?O2 ?O3 ?O4
    case O2=>exact (Jlg (Jlh (Jl0 Jmi (by rfl) T.Jat Jl8 (So (pv 0) (So (Jmv (v:=.ty "str") (by rfl) T.Jb0 Joo rfl) Ss)))))
    case O3=>
     refine' Jkr ?O5
     case O5=>exact (Jlv Jlw rfl (Jmm T.Jd5 Sa8 hr (by decide) T.Jc8.bd T.Jb9 (So Sz (So Sz Ss))))
    case O4=>exact Jl1
   case O1=>
   refine' Jkq ?O6 ?O7
   case O6=>exact (Jl4 (i:=1) Saq.nd rfl (ye rfl) (Jmg F.plainAttrs_str F.slot_str_split F.type_str_split Jvo (pv 0) (So Jl7 Ss)))
   case O7=>
   refine' Jkq ?O8 ?O9
   case O8=>exact (Jl4 (i:=2) Saq.nd rfl (ye rfl) (Jkv T.Ju Sej hr (by decide) (So (Jmq T.Je4 Sb8 (hr.mono (by decide)) (by rfl) T.Jbi T.Jcs.bd .nil Jlk (So Sz (So (Jlf Jl6 (pv 1) Sz (λ_ _=>rfl)) Ss))) Ss)))
   case O9=>
   refine' Jkq ?Oa ?Ob
   case Oa=>exact (Jl4 (i:=3) Saq.nd rfl (ye rfl) (Jli Ss))
   case Ob=>
   refine' Jkq ?Oc ?Od
   case Oc=>exact (Jl4 (i:=4) Saq.nd rfl (ye rfl) (Jli Ss))
   case Od=>
   refine' Jkq ?Oe ?Of
   case Oe=>
    refine' Jms ?Og ?Oh ?Oi ?Oj ?Ok
    case Og=>exact PassesOwn.leaving
    case Oh=>exact rfl
    case Oi=>exact (Jy5 (by rfl) T.Jay (So Sz (So (Jl0 Jl2 (by rfl) T.Jau Jlu (So (pv 1) Ss)) Ss)))
    case Oj=>exact (Jl3 (i:=5) Saq.nd rfl (ye rfl))
    case Ok=>
    refine' Jkr ?Ol
    case Ol=>exact (Jlr (Jkv T.Jt Sel hr (by decide) (So (Jmq T.Je4 Sb8 (hr.mono (by decide)) (by rfl) T.Jbi T.Jcs.bd .nil Jlk (So (pv 5) (So (Jlf Jl6 (pv 1) (pv 5) (λ_ _=>rfl)) Ss))) (So (pv 3) (So (pv 4) Ss)))))
   case Of=>
   refine' Jkq ?Om ?On
   case Om=>
    refine' Jld ?Oo ?Op ?Oq
    case Oo=>exact (Jle Jmu (Jl0 Jl2 (by rfl) T.Jau Jlu (So (pv 3) Ss)) Sz (Jla _))
    case Op=>
     refine' Jkr ?Or
     case Or=>exact (Jlv Jlw rfl (Jmm T.Jd5 Sa8 hr (by decide) T.Jc8.bd T.Jb9 (So (Jl0 Jl2 (by rfl) T.Jau Jlu (So (pv 1) Ss)) (So Sz Ss))))
    case Oq=>exact Jl1
   case On=>
   refine' Jkr ?Os
   case Os=>
   refine' Jkz ?Ot
   case Ot=>exact (Jze T.Je0 Sba Jlw hr (by decide) T.Jcp.bd T.Jbh (pa4 (Jlf Jsi (pv 2) Sz (λ_ _=>rfl)) (Jlf Jsi (pv 2) Sz (λ_ _=>rfl)) (pv 3) (pv 4)))
  refine ⟨_,rfl,_,_,_,_,_,rfl,rfl,.of (.str _),rfl,_,rfl,Jlp ?_⟩
  refine ⟨_,rfl,rfl,_,NLN,rfl,rfl,by decide +kernel,lt,λD hD=>?_⟩
  rw [sp]
  have s1:=Sn.upd (o:=.lst (((rws c g Bs Ts).map (Txt.join SPC)).map V.str)) hD
  have hD1:(upd H D (.lst (((rws c g Bs Ts).map (Txt.join SPC)).map V.str))) D=some (.lst (((rws c g Bs Ts).map (Txt.join SPC)).map V.str)):=Sy
  generalize upd H D (.lst (((rws c g Bs Ts).map (Txt.join SPC)).map V.str))=H1 at s1 hD1⊢
  refine ⟨_,rfl,D,_,0,_,rfl,rfl,Sw.of hD1,Jnb (j:=0) rfl,?_⟩
  intro r0 dx0 hr0 hd0 ne0
  refine Jzk (ws:=[CLD,nmS c,nmS g]) (by simp) (Jvf rg.cc rg.gc) (by simp) hr0 hd0 λH2 s2 rd2=>?_
  refine ⟨r0,_,c,g,rfl,(tb.same s1).same s2,rd2,rfl,rg.gc,rg.cc,λt H3 c3 ht=>?_⟩
  have s3:Sn H1 H3:=Btr.rest hr0 ((Btr.of s2).trans c3)
  have hD3:=s3 _ _ hD1
  have s13:=s1.trans s3
  refine ⟨(show 0<=Sa by decide),λL hL=>?_⟩
  have u4:=Sn.upd (o:=.lst []) hL
  refine ⟨(show 0<=Sa by decide),λM hM=>?_⟩
  have u5:=Sn.upd (o:=.lst []) hM
  have hL0:H L=none:=by
   cases hc:H L with
   |none=>rfl
   |some o=>rw [s13 _ _ hc] at hL;cases hL
  have hM0:H M=none:=by
   cases hc:H M with
   |none=>rfl
   |some o=>rw [u4 _ _ (s13 _ _ hc)] at hM;cases hM
  have nLM:L≠M:=λe=>by rw [<-e,Sy] at hM;cases hM
  have rv5:RvS a (upd (upd H3 L (.lst [])) M (.lst [])) L M [] [] [] []:=⟨u5 _ _ Sy,.nil,Sy,.nil,nLM⟩
  have s5:=s13.trans (u4.trans u5)
  have hD5:=u5 _ _ (u4 _ _ hD3)
  have ht5:=u5 _ _ (u4 _ _ ht)
  have nDL:D≠L:=λe=>by rw [<-e,hD3] at hL;cases hL
  have nDM:D≠M:=λe=>by rw [<-e,u4 _ _ hD3] at hM;cases hM
  generalize upd (upd H3 L (.lst [])) M (.lst [])=H5 at rv5 s5 hD5 ht5⊢
  refine ⟨_,rfl,D,_,rfl,.inl (Sw.of hD5),?_⟩
  refine ⟨1,_,rfl,⟨by decide,by decide,by omega,by simp only [yf,ln];omega⟩,?_⟩
  have en:((((((rws c g Bs Ts).map (Txt.join SPC)).map V.str).length:Nat):Int) - 1).toNat=Bs.length+Ts.length:=by
   simp only [yf,ln]
   omega
  rw [en]
  refine Joe (lo:=1) (λi σ H'=>∃(os ps:List S5) (o5:Option V),σ= [some (.str (rtx c g Bs Ts)),some (.ref D),some (.ref t),some (.ref L),some (.ref M),o5]/\Sn H H'/\H' D=some (.lst (((rws c g Bs Ts).map (Txt.join SPC)).map V.str))/\H' t=some (.tup [.int c,.int g])/\RvS a H' L M os (Bs.take i) ps (Ts.take (i - Bs.length))) ⟨[],[],_,rfl,s5,hD5,ht5,by simpa using rv5⟩ ?_ ?_
  ·rintro i σ H' hi ⟨os,ps,o5,rfl,sm,hD',ht',rv⟩
   have row:∀ws,(Bs.map (λB=>BAS::bws B)++Ts.map λW=>TWN::tws W)[i]?=some ws->atI (((rws c g Bs Ts).map (Txt.join SPC)).map V.str) (1+(i:Int))=some (.str (Txt.join SPC ws))/\ws∈rws c g Bs Ts:=λws h=>by
    have e:(rws c g Bs Ts)[i+1]?=some ws:=h
    refine ⟨?_,yo e⟩
    rw [show (1:Int)+(i:Int)=((i+1:Nat):Int) by omega]
    refine Jnb (j:=i+1) ?_
    rw [yk,yk,e]
    rfl
   have ntL:t≠L:=λe=>by rw [e,rv.hL] at ht';cases ht'
   have ntM:t≠M:=λe=>by rw [e,rv.hM] at ht';cases ht'
   by_cases ib:i < Bs.length
   ·have hB:Bs[i]?=some Bs[i]:=yq ib
    generalize Bs[i]=C at hB
    obtain ⟨r1,r2⟩:=row (BAS::bws C) (by rw [ybg (by rw [yf];exact ib),yk,hB];rfl)
    have mC:=yo hB
    refine ⟨_,rfl,_,rfl,_,rfl,D,_,_,_,rfl,rfl,Sw.of hD',r1,?_⟩
    intro r dr hr' hdr ner
    refine Jzk (ok _ r2).2.2 (ok _ r2).1 (ok _ r2).2.1 hr' hdr λH2 s2 rd2=>?_
    have rv2:=rv.same s2
    have e0:i - Bs.length=0:=by omega
    rw [e0,List.take_zero] at rv2
    refine ⟨_,rfl,_,rfl,r,L,M,_,os,ps,_,_,rfl,(tb.same sm).same s2,rd2,rv2,.inl ⟨C,rfl,rg.bas C mC,?_,by rw [yx];omega,rfl,λo H3 fr rv3=>?_⟩⟩
    ·rw [List.map_take]
     exact Juk rg.bn (by rw [yk,hB];rfl)
    ·refine ⟨os++ [o],ps,_,rfl,λb u e=>fr b u (Jkw (sm _ _ e) hr') (λz=>by rw [z,hL0] at e;cases e) (s2 _ _ (sm _ _ e)),fr _ _ (Jkw hD' hr') nDL (s2 _ _ hD'),fr _ _ (Jkw ht' hr') ntL (s2 _ _ ht'),?_⟩
     rw [yam,hB,show i+1 - Bs.length=0 by omega,List.take_zero]
     exact rv3
   ·have jt:i - Bs.length < Ts.length:=by omega
    have hT:Ts[i - Bs.length]?=some Ts[i - Bs.length]:=yq jt
    generalize Ts[i - Bs.length]=W at hT
    obtain ⟨r1,r2⟩:=row (TWN::tws W) (by rw [ybc (by rw [yf];omega),yf,yk,hT];rfl)
    have mW:=yo hT
    refine ⟨_,rfl,_,rfl,_,rfl,D,_,_,_,rfl,rfl,Sw.of hD',r1,?_⟩
    intro r dr hr' hdr ner
    refine Jzk (ok _ r2).2.2 (ok _ r2).1 (ok _ r2).2.1 hr' hdr λH2 s2 rd2=>?_
    have rv2:=rv.same s2
    rw [yab (by omega:Bs.length<=i)] at rv2
    refine ⟨_,rfl,_,rfl,r,L,M,_,os,ps,_,_,rfl,(tb.same sm).same s2,rd2,rv2,.inr ⟨W,rfl,rg.twn W mW,?_,rg.tb W mW,b16.2,by rw [yx];omega,λo H3 fr rv3=>?_⟩⟩
    ·rw [List.map_take]
     exact Juk rg.tn (by rw [yk,hT];rfl)
    ·refine ⟨os,ps++ [o],_,rfl,λb u e=>fr b u (Jkw (sm _ _ e) hr') (λz=>by rw [z,hM0] at e;cases e) (s2 _ _ (sm _ _ e)),fr _ _ (Jkw hD' hr') nDM (s2 _ _ hD'),fr _ _ (Jkw ht' hr') ntM (s2 _ _ ht'),?_⟩
     rw [yab (by omega:Bs.length<=i+1),show i+1 - Bs.length=(i - Bs.length)+1 by omega,yam,hT]
     exact rv3
  ·rintro σ H' ⟨os,ps,o5,rfl,sm,hD',ht',rv⟩
   rw [yab (by omega),yab (by omega)] at rv
   have lo:=Paired.length rv.hB
   have lp:=Paired.length rv.hT
   refine ⟨_,rfl,L,_,rfl,.inl (Sw.of rv.hL),rfl,_,rfl,ifF ?_ ?_⟩
   ·exact decide_eq_false λe=>by
     have:=V.int.inj e
     rw [yf] at this
     omega
   refine ⟨_,rfl,t,_,0,_,rfl,rfl,SqT.of ht',rfl,_,rfl,t,_,1,_,rfl,rfl,SqT.of ht',rfl,_,rfl,_,rfl,?_⟩
   intro y dy hy hdy ne
   have sn:Sn H' (upd (upd H' dy (.own y)) y (.ins a.Jkf dy [])):=λb o e=>by rw [Jkt (Jkw e hy),Jkt (Jkw e hdy)];exact e
   obtain ⟨Cs,bl,cz,cl'⟩:=Jyo (K:=K) (Paired.mapP rv.hB λ_ _ q=>q.same sn) rg.bas
   have hc:=rg.cc
   have hg:=rg.gc
   refine ⟨y,dy,L,M,c,g,os,ps,Cs,Ts,rfl,Sy,⟨by omega,by omega⟩,⟨by omega,by omega⟩,sn _ _ rv.hL,bl,by omega,by rw [cz];exact rg.bn,sn _ _ rv.hM,twn_of (Paired.mapP rv.hT λ_ _ q=>q.same sn),t3,rg.tn,λW hW=>by rw [cz];exact rg.tb W hW,λH8 b t s8 hb ht nb nt=>⟨rfl,?_⟩⟩
   have s9:Sn H' (upd H8 y (.ins a.Jkf dy (Sh9 (.int c) (.int g) (.ref b) (.ref t)))):=λd o e=>by
    rw [Jkt (Jkw e hy)]
    exact s8 _ _ (sn _ _ e)
   exact q y _ (sm.trans s9) ⟨dy,b,t,os,ps,Sy,by rw [Jkt nb];exact hb,by rw [Jkt nt];exact ht,Paired.mapP rv.hB λ_ _ q=>q.same s9,Paired.mapP rv.hT λ_ _ q=>q.same s9⟩
theorem Jz2 {c:Nat} (ys:List Str) (h:ys≠ []):∀xs:List Str,Str.join ⟨#[c]⟩ (xs++ [Str.join ⟨#[c]⟩ ys])=Str.join ⟨#[c]⟩ (xs++ys):=by
 intro xs
 induction xs with
 |nil=>rfl
 |cons a xs ih=>
  obtain ⟨y,r,rfl⟩:=List.exists_cons_of_ne_nil h
  cases xs with
  |nil=>rfl
  |cons b xs=>
   show a++(⟨#[c]⟩:Str)++Str.join ⟨#[c]⟩ (b::xs++ [_])=a++(⟨#[c]⟩:Str)++Str.join ⟨#[c]⟩ (b::xs++(y::r))
   rw [ih]
def wOf:V->Str
 | .str z=>z
 | .int i=>nmS i
 |_=>SPC
def Prt (v:V):Prop:=(∃z:Str,v= .str z/\z.length<=200)\/∃i:Int,v= .int i/\0<=i/\i<=12
def Yas:Sp:=λvs H Q _=>∃(z:Str) (t:S5) (ns:List Int),vs= [.str z,.ref t]/\H t=some (.tup (ns.map V.int))/\(1<=ns.length/\ns.length<=4)/\(∀x∈ns,0<=x/\x<=12)/\z.length<=10/\∀H',Sn H H'->Q (.str (Txt.join SPC (z::ns.map nmS))) H'
def Jzr:Sp:=λvs H Q _=>∃(L:S5) (xs:List V),vs= [.ref L]/\H L=some (.lst xs)/\(∀x∈xs,Prt x)/\xs.length<=10/\∀H',Sn H H'->Q (.str (Txt.join SPC (xs.map wOf))) H'
theorem Yay {x:V} (h:Prt x):(wOf x).length<=200:=by
 rcases h with ⟨z,rfl,hz⟩|⟨i,rfl,h0,h1⟩
 ·exact hz
 ·exact yz (Jnl h0 h1).len (by decide)
theorem Jsy {m:Nat}:∀ys:List Str,(∀y∈ys,y.length<=m)->(ys.map (·.length)).sum<=ys.length*m:=by
 intro ys
 induction ys with
 |nil=>intro _;simp
 |cons y ys ih=>
  intro h
  have h1:=h y (.head _)
  have h2:=ih λz hz=>h z (.tail _ hz)
  rw [yas,List.sum_cons,yaj,Nat.succ_mul]
  omega
theorem Jw5:Jky ["name","marks"] ["name","marks"] (Jku (top 26)):=⟨rfl,rfl,rfl,by decide +kernel,rfl,by decide +kernel,by decide +kernel⟩
theorem Jpc (T:Tx K mg a):Sx P w K mg base CX0 1 a.Jgg a.Jgh ["name","marks"] Yas:=by
 refine T.Je.fn.ok Jw5 (λvs H Q E h=>?_) (λcdv A outer s H vs Q E hr h=>?_)
 ·obtain ⟨z,t,ns,rfl,_⟩:=h
  rfl
 ·obtain ⟨z,t,ns,rfl,ht,hn,hb,hz,q⟩:=h
  refine ⟨?t,?B,?C⟩
  case B=>
   refine' Jkr ?O0
   case O0=>exact (Jkz (Jmg F.plainAttrs_str F.slot_str_join F.type_str_join Jo8 Jl7 (So (Jl9 Jqf (Jli (So (pv 0) Ss)) (Jmh (N:=(["mark"]:List Str)) (ini:=[none]) rfl (Jv1 (pv 1)) (λ_ _ _ _ _=>(Jl3 (i:=0) (by decide +kernel:(["mark"]:List Str).Nodup) rfl (ye rfl))) (λ_ _ _ _ _=>Jm6) (λ_ _ _ _ _=>(Jln Jop (by rfl) T.Jb0 Joo (So (pv 0) Ss))))) Ss)))
  refine ⟨rfl,_,rfl,(show 1<=Sa by decide),λz1 hz1=>?_⟩
  have q1:=Sn.upd (o:=.lst [.str z]) hz1
  refine ⟨_,rfl,t,rfl,⟨_,SqT.of (q1 _ _ ht)⟩,λD hD=>?_⟩
  refine Jpo ((ns.map nmS).map V.str) hD (by simp) (by simp;omega) (q1 _ _ ht) ?_ ?_
  ·rintro j x y H' Q' hx hy sm kk
   rw [yk] at hx hy
   obtain ⟨i,hi,rfl⟩:=yac.mp hx
   rw [yk,hi] at hy
   cases hy
   have bi:=hb i (yo hi)
   refine ⟨_,rfl,i,rfl,?_,kk _ (Sn.refl _)⟩
   exact ybj (ybs _) (by omega)
  ·intro H2 s2 hD2
   have hz2:=s2 _ _ (Sy (H:=H) (a:=z1) (o:=.lst [.str z]))
   refine ⟨z1,D,_,_,rfl,rfl,hz2,hD2,?_,λW hW=>?_⟩
   ·simp
    exact Jlo _ (by omega)
   refine ⟨SPC,W,z::ns.map nmS,rfl,rfl,Sw.of (by rw [Sy];rfl),?_,q _ ((q1.trans s2).trans (Sn.upd hW))⟩
   have l:=Jsy (m:=10) (z::ns.map nmS) (λy hy=>by
    rcases yi.mp hy with rfl|hy
    ·exact hz
    ·obtain ⟨x,hx,rfl⟩:=yag.mp hy
     exact (Jnl (hb x hx).1 (hb x hx).2).len)
   have e:SPC.length=1:=by decide +kernel
   have ll:(z::ns.map nmS).length=ns.length+1:=by rw [yaj,yf]
   rw [e]
   omega
theorem Jwx:Jky ["parts"] ["parts"] (Jku (top 47)):=⟨rfl,rfl,rfl,by decide +kernel,rfl,by decide +kernel,by decide +kernel⟩
theorem Jqd (T:Tx K mg a):Sx P w K mg base CX0 1 a.Jhq a.Jhr ["parts"] Jzr:=by
 refine T.Jj.fn.ok Jwx (λvs H Q E h=>?_) (λcdv A outer s H vs Q E hr h=>?_)
 ·obtain ⟨L,xs,rfl,_⟩:=h
  rfl
 ·obtain ⟨L,xs,rfl,hL,hp,hl,q⟩:=h
  refine ⟨?t,?B,?C⟩
  case B=>
   refine' Jkr ?O0
   case O0=>exact (Jkz (Jmg F.plainAttrs_str F.slot_str_join F.type_str_join Jo8 Jl7 (So (Jmh (N:=(["part"]:List Str)) (ini:=[none]) rfl (Jm2 (pv 0)) (λ_ _ _ _ _=>(Jl3 (i:=0) (by decide +kernel:(["part"]:List Str).Nodup) rfl (ye rfl))) (λ_ _ _ _ _=>Jm6) (λ_ _ _ _ _=>(Jln Jrl (by rfl) T.Jb0 Joo (So (pv 0) Ss)))) Ss)))
  refine ⟨rfl,_,rfl,L,rfl,⟨_,Sw.of hL⟩,λD hD=>?_⟩
  refine Jos ((xs.map wOf).map V.str) hD (by simp) (by omega) hL ?_ ?_
  ·rintro j x y H' Q' hx hy sm kk
   rw [yk,yk,hx] at hy
   cases hy
   rcases hp x (yo hx) with ⟨z,rfl,hz⟩|⟨i,rfl,h0,h1⟩
   ·exact ⟨_,rfl,.inr ⟨z,rfl,kk _ (Sn.refl _)⟩⟩
   ·exact ⟨_,rfl,.inl ⟨i,rfl,ybj (ybs _) (by omega),kk _ (Sn.refl _)⟩⟩
  ·intro H2 s2 hD2
   refine ⟨SPC,D,xs.map wOf,rfl,rfl,Sw.of hD2,?_,q _ s2⟩
   have l:=Jsy (m:=200) (xs.map wOf) (λy hy=>by
    obtain ⟨x,hx,rfl⟩:=yag.mp hy
    exact Yay (hp x hx))
   have e:SPC.length=1:=by decide +kernel
   have ll:(xs.map wOf).length=xs.length:=yf ..
   rw [e]
   omega
theorem Jve {B:BTd} (tg:TGd B):∀x∈B.G.ns,0<=x/\x<=12:=λx hx=>by
 obtain ⟨i,hi,rfl⟩:=List.mem_iff_getElem.mp hx
 have q:=tg.b.G.ns
 unfold Jn1 at q
 rw [yp] at q
 have g:=Jnv _ _ q.2 i _ (yq hi)
 have l0:0<=Jns B.G.kd:=by
  unfold Jns
  split <;> omega
 exact ⟨by omega,g.2.2.2⟩
def Jsv (C:S5) (kd:Str):Sp:=λvs H Q _=>∃(g:S5) (ns:List Int),vs= [.ref g]/\Sbj C H g (ns.map V.int)/\(1<=ns.length/\ns.length<=4)/\(∀x∈ns,0<=x/\x<=12)/\∀H',Sn H H'->Q (.str (Txt.join SPC (kd::ns.map nmS))) H'
def Yae (a:Ad):Sp:=λvs H Q _=>∃(o:S5) (B:BTd),vs= [.ref o]/\BX a H o B/\TGd B/\∀H',Sn H H'->Q (.str (Txt.join SPC (BAS::bws B))) H'
def Yao (a:Ad):Sp:=λvs H Q _=>∃(o:S5) (W:Twn),vs= [.ref o]/\Scn a H o W/\WGd W/\∀H',Sn H H'->Q (.str (Txt.join SPC (TWN::tws W))) H'
def Skn (a:Ad):Sp:=λvs H Q _=>∃(y:S5) (c g:Nat) (Bs:List BTd) (Ts:List Twn),vs= [.ref y]/\Se6 a H y c g Bs Ts/\RGd c g Bs Ts/\∀H',Sn H H'->Q (.str (rtx c g Bs Ts)) H'
theorem Jrb:Jky ["self"] ["self"] (Jku (Jkx (top 28) 3)):=⟨rfl,rfl,rfl,by decide +kernel,rfl,by decide +kernel,by decide +kernel⟩
theorem Jr2 (T:Tx K mg a):Sx P w K mg base CX0 2 a.Jgq a.Jgr ["self"] (Jsv a.Jka "step"):=by
 have Sbq:=Jpc (P:=P) (w:=w) (base:=base) T
 refine T.Jce.fn.ok Jrb (λvs H Q E h=>?_) (λcdv A outer s H vs Q E hr h=>?_)
 ·obtain ⟨g,ns,rfl,_⟩:=h
  rfl
 ·obtain ⟨g,ns,rfl,⟨dx,t,h1,h2⟩,hn,hb,q⟩:=h
  refine ⟨_,(Jkr (Jkz (Jkv T.Je Sbq hr (by decide) (So Jl7 (So (Jl5 (pv 0) (by rfl)) Ss))))),?_⟩
  exact ⟨_,rfl,g,_,dx,_,_,rfl,h1,T.Jd7,T.Jef,rfl,_,t,ns,rfl,h2,hn,hb,by decide +kernel,q⟩
theorem Jr8:Jky ["self"] ["self"] (Jku (Jkx (top 29) 3)):=⟨rfl,rfl,rfl,by decide +kernel,rfl,by decide +kernel,by decide +kernel⟩
theorem Jqz (T:Tx K mg a):Sx P w K mg base CX0 2 a.Jgy a.Jgz ["self"] (Jsv a.Jkb "flap"):=by
 have Sbq:=Jpc (P:=P) (w:=w) (base:=base) T
 refine T.Jci.fn.ok Jr8 (λvs H Q E h=>?_) (λcdv A outer s H vs Q E hr h=>?_)
 ·obtain ⟨g,ns,rfl,_⟩:=h
  rfl
 ·obtain ⟨g,ns,rfl,⟨dx,t,h1,h2⟩,hn,hb,q⟩:=h
  refine ⟨_,(Jkr (Jkz (Jkv T.Je Sbq hr (by decide) (So Jl7 (So (Jl5 (pv 0) (by rfl)) Ss))))),?_⟩
  exact ⟨_,rfl,g,_,dx,_,_,rfl,h1,T.Jde,T.Jeg,rfl,_,t,ns,rfl,h2,hn,hb,by decide +kernel,q⟩
theorem Jr9:Jky ["self"] ["self"] (Jku (Jkx (top 30) 3)):=⟨rfl,rfl,rfl,by decide +kernel,rfl,by decide +kernel,by decide +kernel⟩
theorem Jr0 (T:Tx K mg a):Sx P w K mg base CX0 2 a.Jh6 a.Jh7 ["self"] (Jsv a.Jkc "part"):=by
 have Sbq:=Jpc (P:=P) (w:=w) (base:=base) T
 refine T.Jcm.fn.ok Jr9 (λvs H Q E h=>?_) (λcdv A outer s H vs Q E hr h=>?_)
 ·obtain ⟨g,ns,rfl,_⟩:=h
  rfl
 ·obtain ⟨g,ns,rfl,⟨dx,t,h1,h2⟩,hn,hb,q⟩:=h
  refine ⟨_,(Jkr (Jkz (Jkv T.Je Sbq hr (by decide) (So Jl7 (So (Jl5 (pv 0) (by rfl)) Ss))))),?_⟩
  exact ⟨_,rfl,g,_,dx,_,_,rfl,h1,T.Jdl,T.Jeh,rfl,_,t,ns,rfl,h2,hn,hb,by decide +kernel,q⟩
theorem GX.words {H:Hp} {x:V} {G:Jn7} (T:Tx K mg a) (gg:Sbv G) (hb:∀x∈G.ns,0<=x/\x<=12) (gx:GX a H x G):
  ∃o C dx fs f fd ps sp k',x= .ref o/\H o=some (.ins C dx fs)/\fs.lookup ("words" :Str)=none/\Cls K C/\Jn0 K C "words" f/\Sx P w K mg base CX0 k' f fd ps sp/\k'<=2/\Sb1 K fd ps []/\∀Q:VK,(∀H',Sn H H'->Q (.str (Txt.join SPC (gws G))) H')->sp [x] H Q E0:=by
 obtain ⟨g,ga,r⟩:=gx
 obtain ⟨dx,t,h1,h2⟩:=id ga
 cases e:G.sv with
 |none=>
  rw [e] at r
  subst r
  unfold gws
  rcases gg.kd with q|q|q
  ·rw [q,show cOf a "step" =a.Jka from if_pos rfl] at h1 ga
   rw [q]
   exact ⟨g,_,dx,_,_,_,_,_,2,rfl,h1,rfl,T.Jd7,T.Jdd,Jr2 T,by decide,T.Jce.bd,λQ k=>⟨g,G.ns,rfl,ga,gg.len,hb,k⟩⟩
  ·rw [q,show cOf a "flap" =a.Jkb by unfold cOf;rw [if_neg Jp7,if_pos rfl]] at h1 ga
   rw [q]
   exact ⟨g,_,dx,_,_,_,_,_,2,rfl,h1,rfl,T.Jde,T.Jdk,Jqz T,by decide,T.Jci.bd,λQ k=>⟨g,G.ns,rfl,ga,gg.len,hb,k⟩⟩
  ·rw [q,show cOf a "part" =a.Jkc by unfold cOf;rw [if_neg Jq0,if_neg Jpz]] at h1 ga
   rw [q]
   exact ⟨g,_,dx,_,_,_,_,_,2,rfl,h1,rfl,T.Jdl,T.Jdr,Jr0 T,by decide,T.Jcm.bd,λQ k=>⟨g,G.ns,rfl,ga,gg.len,hb,k⟩⟩
 |some j=>
  rw [e] at r
  exact r.elim
theorem Jth:Jky ["basin"] ["basin"] (Jku (top 48)):=⟨rfl,rfl,rfl,by decide +kernel,rfl,by decide +kernel,by decide +kernel⟩
theorem Jt6 (T:Tx K mg a):Sx P w K mg base CX0 3 a.Jhs a.Jht ["basin"] (Yae a):=by
 have Sc5:=Jqd (P:=P) (w:=w) (base:=base) T
 refine T.Jk.fn.ok Jth (λvs H Q E h=>?_) (λcdv A outer s H vs Q E hr h=>?_)
 ·obtain ⟨o,B,rfl,_⟩:=h
  rfl
 ·obtain ⟨o,B,rfl,⟨dx,g,ho,gx⟩,tg,q⟩:=h
  have b1:=tg.b.lo
  have b2:=tg.b.hi
  have b3:=tg.b.rn
  have b4:=tg.st
  obtain ⟨og,C,dg,fs,f,fd,ps,sp,k',e1,h1,h2,h3,h4,h5,h6,h7,h8⟩:=gx.words (P:=P) (w:=w) (base:=base) T tg.b.G (Jve tg)
  refine ⟨?t,?B,?C⟩
  case B=>
   refine' Jkr ?O0
   case O0=>
   refine' Jkz ?O1
   case O1=>exact (Jkv T.Jj Sc5 hr (by decide) (So (Jli (pa7 Jl7 (Jl5 (pv 0) (by rfl)) (Jl5 (pv 0) (by rfl)) (Jl5 (pv 0) (by rfl)) (Jl5 (pv 0) (by rfl)) (Jl5 (pv 0) (by rfl)) (Ju3 (Jl5 (pv 0) (by rfl)) hr))) Ss))
  refine ⟨_,rfl,o,_,dx,_,_,rfl,ho,T.Jds,T.Jei,rfl,_,rfl,o,_,dx,_,_,rfl,ho,T.Jds,T.Jej,rfl,_,rfl,o,_,dx,_,_,rfl,ho,T.Jds,T.Jek,rfl,_,rfl,o,_,dx,_,_,rfl,ho,T.Jds,T.Jel,rfl,_,rfl,o,_,dx,_,_,rfl,ho,T.Jds,T.Jem,rfl,?_⟩
  refine ⟨_,rfl,o,_,dx,_,_,rfl,ho,T.Jds,T.Jen,rfl,og,_,dg,fs,f,fd,ps,sp,k',e1,h1,h2,h3,h4,h5,h6,h7,h8 _ λH1 s1=>?_⟩
  refine ⟨(show 7<=Sa by decide),λL hL=>?_⟩
  have gl:(Txt.join SPC (gws B.G)).length<=132:=(Jpr (λz hz=>Jxp tg z (.tail _ (yaq _ hz))) (by have:=tg.b.G.len;simp [gws];omega)).2
  refine ⟨L,_,rfl,Sy,λx hx=>?_,(show 7<=10 by decide),λH2 s2=>?_⟩
  ·simp only [yi,yt,or_false] at hx
   rcases hx with rfl|rfl|rfl|rfl|rfl|rfl|rfl
   ·exact .inl ⟨_,rfl,by decide +kernel⟩
   ·exact .inl ⟨_,rfl,yz tg.wd.len (by decide)⟩
   ·exact .inr ⟨_,rfl,by omega,by omega⟩
   ·exact .inr ⟨_,rfl,by omega,by omega⟩
   ·exact .inr ⟨_,rfl,by omega,by omega⟩
   ·exact .inr ⟨_,rfl,by omega,by omega⟩
   ·exact .inl ⟨_,rfl,by omega⟩
  ·have e0:([V.str "basin",.str B.z,.int B.lo,.int B.hi,.int B.st,.int B.rn,.str (Txt.join SPC (gws B.G))]:List V).map wOf= [BAS,B.z,nmS B.lo,nmS B.hi,nmS B.st,nmS B.rn]++ [Txt.join SPC (gws B.G)]:=rfl
   have e1:Txt.join SPC ([BAS,B.z,nmS B.lo,nmS B.hi,nmS B.st,nmS B.rn]++ [Txt.join SPC (gws B.G)])=Txt.join SPC (BAS::bws B):=by
    rw [Jqy SPC (gws B.G),Jqy SPC (_++_),Jqy SPC (BAS::bws B),Jwz,Jz2 _ (by simp [gws])]
    rfl
   have z:=q H2 ((s1.trans (Sn.upd hL)).trans s2)
   rw [<-e1,<-e0] at z
   exact z
theorem Jv5:Jky ["town"] ["town"] (Jku (top 49)):=⟨rfl,rfl,rfl,by decide +kernel,rfl,by decide +kernel,by decide +kernel⟩
theorem Juv (T:Tx K mg a):Sx P w K mg base CX0 3 a.Jhu a.Jhv ["town"] (Yao a):=by
 have Sc5:=Jqd (P:=P) (w:=w) (base:=base) T
 refine T.Jl.fn.ok Jv5 (λvs H Q E h=>?_) (λcdv A outer s H vs Q E hr h=>?_)
 ·obtain ⟨o,W,rfl,_⟩:=h
  rfl
 ·obtain ⟨o,W,rfl,⟨dx,ho⟩,tg,q⟩:=h
  have b1:=tg.wt
  refine ⟨?t,?B,?C⟩
  case B=>
   refine' Jkr ?O0
   case O0=>
   refine' Jkz ?O1
   case O1=>exact (Jkv T.Jj Sc5 hr (by decide) (So (Jli (pa4 Jl7 (Jl5 (pv 0) (by rfl)) (Jl5 (pv 0) (by rfl)) (Jl5 (pv 0) (by rfl)))) Ss))
  refine ⟨_,rfl,o,_,dx,_,_,rfl,ho,T.Jdv,T.Jeo,rfl,_,rfl,o,_,dx,_,_,rfl,ho,T.Jdv,T.Jep,rfl,_,rfl,o,_,dx,_,_,rfl,ho,T.Jdv,T.Jeq,rfl,(show 4<=Sa by decide),λL hL=>?_⟩
  refine ⟨L,_,rfl,Sy,λx hx=>?_,(show 4<=10 by decide),λH2 s2=>q H2 ((Sn.upd hL).trans s2)⟩
  simp only [yi,yt,or_false] at hx
  rcases hx with rfl|rfl|rfl|rfl
  ·exact .inl ⟨_,rfl,by decide +kernel⟩
  ·exact .inl ⟨_,rfl,yz tg.wd.len (by decide)⟩
  ·exact .inl ⟨_,rfl,yz tg.wb.len (by decide)⟩
  ·exact .inr ⟨_,rfl,by omega,by omega⟩
theorem Scv:Jky ["river","lines"] ["river"] (Jku (top 50)):=⟨rfl,rfl,rfl,by decide +kernel,rfl,by decide +kernel,by decide +kernel⟩
theorem Jte (T:Tx K mg a):Sx P w K mg base CX0 4 a.Jhw a.Jhx ["river"] (Skn a):=by
 have Sc5:=Jqd (P:=P) (w:=w) (base:=base) T
 have Seh:=Jt6 (P:=P) (w:=w) (base:=base) T
 have Sfa:=Juv (P:=P) (w:=w) (base:=base) T
 refine T.Jm.fn.ok Scv (λvs H Q E h=>?_) (λcdv A outer s H vs Q E hr h=>?_)
 ·obtain ⟨y,c,g,Bs,Ts,rfl,_⟩:=h
  rfl
 ·obtain ⟨y,c,g,Bs,Ts,rfl,⟨dx,b,t,os,ps,hy,hb,ht,hB,hT⟩,rg,q⟩:=h
  have lo:=Paired.length hB
  have lp:=Paired.length hT
  have b16:=rg.len
  have t3:=rg.tl
  have hc:=rg.cc
  have hg:=rg.gc
  refine ⟨?t,?B,?C⟩
  case B=>
   refine' Jkq ?O0 ?O1
   case O0=>exact (Jl4 (i:=1) Scv.nd rfl (ye rfl) (Jli (So (Jkv T.Jj Sc5 hr (by decide) (So (Jli (So Jl7 (So (Jl5 (pv 0) (by rfl)) (So (Jl5 (pv 0) (by rfl)) Ss)))) Ss)) Ss)))
   case O1=>
   refine' Jkq ?O2 ?O3
   case O2=>exact (Jlr (Jmg F.plainAttrs_list F.slot_list_extend F.type_list_extend Jtz (pv 1) (So (Jmh (N:=(["basin"]:List Str)) (ini:=[none]) rfl (Jv1 (Jl5 (pv 0) (by rfl))) (λ_ _ _ _ _=>(Jl3 (i:=0) (by decide +kernel:(["basin"]:List Str).Nodup) rfl (ye rfl))) (λ_ _ _ _ _=>Jm6) (λ_ _ _ _ _=>(Jkv T.Jk Seh hr (by decide) (So (pv 0) Ss)))) Ss)))
   case O3=>
   refine' Jkq ?O4 ?O5
   case O4=>exact (Jlr (Jmg F.plainAttrs_list F.slot_list_extend F.type_list_extend Jtz (pv 1) (So (Jmh (N:=(["town"]:List Str)) (ini:=[none]) rfl (Jv1 (Jl5 (pv 0) (by rfl))) (λ_ _ _ _ _=>(Jl3 (i:=0) (by decide +kernel:(["town"]:List Str).Nodup) rfl (ye rfl))) (λ_ _ _ _ _=>Jm6) (λ_ _ _ _ _=>(Jkv T.Jl Sfa hr (by decide) (So (pv 0) Ss)))) Ss)))
   case O5=>
   refine' Jkr ?O6
   case O6=>exact (Jkz (Jmg F.plainAttrs_str F.slot_str_join F.type_str_join Jo8 Jl7 (So (pv 1) Ss)))
  refine ⟨_,rfl,y,_,dx,_,_,rfl,hy,T.Jdy,T.Jer,rfl,_,rfl,y,_,dx,_,_,rfl,hy,T.Jdy,T.Jes,rfl,(show 3<=Sa by decide),λZ hZ=>?_⟩
  have s1:=Sn.upd (o:=.lst [.str CLD,.int c,.int g]) hZ
  refine ⟨Z,_,rfl,Sy,λx hx=>?_,(show 3<=10 by decide),λH2 s2=>?_⟩
  ·simp only [yi,yt,or_false] at hx
   rcases hx with rfl|rfl|rfl
   ·exact .inl ⟨_,rfl,by decide +kernel⟩
   ·exact .inr ⟨_,rfl,by omega,by omega⟩
   ·exact .inr ⟨_,rfl,by omega,by omega⟩
  refine ⟨(show 1<=Sa by decide),λL hL=>?_⟩
  have s3:=(s1.trans s2).trans (Sn.upd (o:=.lst [.str (Txt.join SPC [CLD,nmS c,nmS g])]) hL)
  have hL0:H L=none:=by
   cases hc:H L with
   |none=>rfl
   |some o=>rw [s2 _ _ (s1 _ _ hc)] at hL;cases hL
  have hL3:(upd H2 L (.lst [.str (Txt.join SPC [CLD,nmS c,nmS g])])) L=some (.lst [.str (Txt.join SPC [CLD,nmS c,nmS g])]):=Sy
  show Jw9 _ _ _ _ (upd H2 L (.lst [.str (Txt.join SPC [CLD,nmS c,nmS g])]))
  generalize upd H2 L (.lst [.str (Txt.join SPC [CLD,nmS c,nmS g])])=H3 at s3 hL3⊢
  have keep:∀{H':Hp} {o:HO},Sn H H'->Sn H (upd H' L o):=λs b u z=>by rw [Jkt (Jkw z hL0)];exact s _ _ z
  refine ⟨_,rfl,.inl ⟨rfl,_,Sw.of hL3⟩,_,rfl,y,_,dx,_,_,rfl,s3 _ _ hy,T.Jdy,T.Jet,rfl,b,rfl,⟨_,SqT.of (s3 _ _ hb)⟩,λD hD=>?_⟩
  refine Jpo (Bs.map λB=>V.str (Txt.join SPC (BAS::bws B))) hD (by simp;omega) (by simp;omega) (s3 _ _ hb) ?_ ?_
  ·rintro j x y H' Q' hx hy sm kk
   rw [yk] at hx hy
   obtain ⟨o,ho,rfl⟩:=yac.mp hx
   obtain ⟨B,hBj,bx⟩:=Jll hB ho
   rw [hBj] at hy
   cases hy
   exact ⟨_,rfl,o,B,rfl,bx.same (s3.trans sm),rg.bas B (yo hBj),λH5 s5=>kk _ s5⟩
  intro H4 s4 hD4
  have hL4:=s4 _ _ hL3
  have s34:=s3.trans s4
  refine ⟨L,D,_,_,rfl,rfl,hL4,hD4,?_,?_⟩
  ·simp
   exact Jlo _ (by omega)
  have s5:=keep (o:=.lst ([.str (Txt.join SPC [CLD,nmS c,nmS g])]++Bs.map λB=>V.str (Txt.join SPC (BAS::bws B)))) s34
  have hL5:(upd H4 L (.lst ([.str (Txt.join SPC [CLD,nmS c,nmS g])]++Bs.map λB=>V.str (Txt.join SPC (BAS::bws B))))) L=some (.lst ([.str (Txt.join SPC [CLD,nmS c,nmS g])]++Bs.map λB=>V.str (Txt.join SPC (BAS::bws B)))):=Sy
  generalize upd H4 L (.lst ([.str (Txt.join SPC [CLD,nmS c,nmS g])]++Bs.map λB=>V.str (Txt.join SPC (BAS::bws B))))=H5 at s5 hL5⊢
  refine ⟨_,rfl,.inl ⟨rfl,_,Sw.of hL5⟩,_,rfl,y,_,dx,_,_,rfl,s5 _ _ hy,T.Jdy,T.Jeu,rfl,t,rfl,⟨_,SqT.of (s5 _ _ ht)⟩,λD' hD'=>?_⟩
  refine Jpo (Ts.map λW=>V.str (Txt.join SPC (TWN::tws W))) hD' (by simp;omega) (by simp;omega) (s5 _ _ ht) ?_ ?_
  ·rintro j x y H' Q' hx hy sm kk
   rw [yk] at hx hy
   obtain ⟨o,ho,rfl⟩:=yac.mp hx
   obtain ⟨W,hWj,bx⟩:=Jll hT ho
   rw [hWj] at hy
   cases hy
   exact ⟨_,rfl,o,W,rfl,bx.same (s5.trans sm),rg.twn W (yo hWj),λH5 s5=>kk _ s5⟩
  intro H6 s6 hD6
  have hL6:=s6 _ _ hL5
  have s56:=s5.trans s6
  refine ⟨L,D',_,_,rfl,rfl,hL6,hD6,?_,?_⟩
  ·simp
   exact Jlo _ (by omega)
  have ev: [V.str (Txt.join SPC [CLD,nmS c,nmS g])]++Bs.map (λB=>V.str (Txt.join SPC (BAS::bws B)))++Ts.map (λW=>V.str (Txt.join SPC (TWN::tws W)))=((rws c g Bs Ts).map (Txt.join SPC)).map V.str:=by
   simp [rws,List.map_map,Function.comp_def]
  refine ⟨rfl,_,rfl,NLN,L,(rws c g Bs Ts).map (Txt.join SPC),rfl,rfl,Sw.of (by rw [Sy,ev]),?_,q _ (keep s56)⟩
  have ok:=Jv3 rg
  have ln:=Js9 c g Bs Ts
  have l:=Jsy (m:=132) ((rws c g Bs Ts).map (Txt.join SPC)) (λp hp=>by
   obtain ⟨ws,hw,rfl⟩:=yag.mp hp
   exact (Jpr (ok ws hw).1 (ok ws hw).2.1).2)
  have e:NLN.length=1:=by decide +kernel
  have ll:((rws c g Bs Ts).map (Txt.join SPC)).length=(rws c g Bs Ts).length:=yf ..
  rw [e]
  omega
theorem Jys (xs:List V) (k:Nat) (h:k<=xs.length):Jmj xs none (some (k:Int))=xs.take k:=by
 unfold Jmj
 rw [HT.sIx_none,HT.sIx_nat]
 simp [Nat.min_eq_left h]
theorem Jyr (xs:List V) (k:Nat) (h:k<=xs.length):Jmj xs (some (k:Int)) none=xs.drop k:=by
 unfold Jmj
 rw [HT.sIx_none,HT.sIx_nat,Nat.min_eq_left h]
 exact yab (by rw [yay];exact yh _)
theorem Sjj {xs:List V} {r:Int} (h0:0<=r) (h1:r < xs.length):∃v,v∈xs/\atI xs r=some v:=by
 obtain ⟨n,rfl⟩:=yaa h0
 have hn:n < xs.length:=by omega
 exact ⟨xs[n],ybq hn,Jnb (yq hn)⟩
def one (c:Nat):Str:=⟨#[c]⟩
theorem Jpp (cs:List Nat):(Txt.join ("" :Str) (cs.map one)).cps.toList=cs:=by
 have e1:Txt.join ("" :Str) (cs.map one)=Str.join ("" :Str) (cs.map one):=beq_iff_eq.mp (join_plain_closes ("" :Str) _)
 rw [e1]
 induction cs with
 |nil=>rfl
 |cons c r ih=>
  cases r with
  |nil=>rfl
  |cons d r'=>
   have e:Str.join ("" :Str) ((c::d::r').map one)=one c++("" :Str)++Str.join ("" :Str) ((d::r').map one):=rfl
   rw [e]
   have a:∀x y:Str,(x++y).cps.toList=x.cps.toList++y.cps.toList:=λx y=>by
    show (x.cps++y.cps).toList=_
    exact Array.toList_append
   rw [a,a,ih (beq_iff_eq.mp (join_plain_closes ("" :Str) _))]
   have z:("" :Str).cps.toList= []:=by decide +kernel
   rw [z]
   rfl
theorem Jzy (cs:List Nat):((cs.map one).map (·.length)).sum=cs.length:=by
 induction cs with
 |nil=>rfl
 |cons c r ih=>
  rw [yas,yas,List.sum_cons,ih,yaj]
  show 1+_=_
  omega
def Nms (zs:List Str):Prop:=zs.Nodup/\∀z∈zs,Jno z=true/\Wd 50 z
theorem Yv {z:Str} (h1:1<=z.cps.toList.length) (h2:z.cps.toList.length<=8) (h:∀c∈z.cps.toList,c∈LET.cps.toList):Jno z=true/\Wd 50 z:=by
 rw [Jou] at h1 h2
 refine ⟨?_,by omega,λc hc=>Sl1.low c (h c hc)⟩
 unfold Jno Jqr
 rw [yp]
 exact ⟨decide_eq_true ⟨h1,h2⟩,yai.mpr λd hd=>decide_eq_true (h d hd)⟩
theorem Yu {i j:Int} {c:Nat} (i0:0<=i) (i1:i < 26) (j0:0<=j) (j1:j < 26) (hi:atI LET.cps.toList i=some c) (hj:atI LET.cps.toList j=some c):i=j:=by
 have all:(List.range 26).all (λp=>(List.range 26).all λq=>decide (p=q)||!decide (atI LET.cps.toList (p:Int)=atI LET.cps.toList (q:Int)))=true:=by decide +kernel
 obtain ⟨p,rfl⟩:=yaa i0
 obtain ⟨q,rfl⟩:=yaa j0
 have h1:=yai.mp all p (List.mem_range.mpr (by omega))
 have h2:=yai.mp h1 q (List.mem_range.mpr (by omega))
 rw [hi,hj] at h2
 have h3:p=q:=by simpa using h2
 rw [h3]
def Stp (s:Int):Prop:=s=1\/s=3\/s=5\/s=7\/s=9\/s=11\/s=15\/s=17
theorem Yau {s f:Int} {i j:Nat} (h:Stp s) (hi:i < 17) (hj:j < 17) (e:(f+s*i)%26=(f+s*j)%26):i=j:=by
 rcases h with rfl|rfl|rfl|rfl|rfl|rfl|rfl|rfl <;> omega
def NmK (f s:Int) (n:Nat) (k:Nat) (z:Str):Prop:=1<=z.cps.toList.length/\z.cps.toList.length<=8/\(∀c∈z.cps.toList,c∈LET.cps.toList)/\∃c,atI LET.cps.toList ((f+s*(k:Int))%26)=some c/\z.cps.toList[n]?=some c
theorem Sk1 {f s:Int} {n:Nat} {zs:List Str} (hs:Stp s) (hl:zs.length<=16) (h:∀(k:Nat) z,zs[k]?=some z->NmK f s n k z):Nms zs:=by
 refine ⟨List.pairwise_iff_getElem.mpr λi j hi hj hij e=>?_,λz hz=>?_⟩
 ·obtain ⟨_,_,_,c,a1,b1⟩:=h i _ (yq hi)
  obtain ⟨_,_,_,d,a2,b2⟩:=h j _ (yq hj)
  rw [e,b2] at b1
  cases b1
  have:=Yau hs (by omega) (by omega) (Yu (by omega) (by omega) (by omega) (by omega) a1 a2)
  omega
 ·obtain ⟨k,hk,rfl⟩:=List.getElem_of_mem hz
  obtain ⟨h1,h2,h3,_⟩:=h k _ (yq hk)
  exact Yv h1 h2 h3
def Jv9:Sp:=λvs H Q _=>∃(p:S5) (m:Nat),vs= [.ref p,.int m]/\Scg H p/\m<=16/\∀(l:S5) (zs:List Str) (H':Hp),H l=none->But p H H'->H' l=some (.lst (zs.map V.str))->zs.length=m->Nms zs->Q (.ref l) H'
theorem Sa5:Jky ["_law_stream_here","_law_many","_law_letters","_law_size","_law_at","_law_base","_law_first","_law_step","_law_shorter","_law_names_here","_law_k","_law_sign","_law_word"] ["_law_stream_here","_law_many"] (Jku (top 65)):=⟨rfl,rfl,rfl,by decide +kernel,rfl,by decide +kernel,by decide +kernel⟩
theorem Juq (T:Tx K mg a):Sx P w K mg base CX0 2 a.Jj0 a.Jj1 ["_law_stream_here","_law_many"] Jv9:=by
 have Su:=Jo9 (P:=P) (w:=w) (base:=base) T
 refine T.Jz.fn.ok Sa5 (λvs H Q E h=>?_) (λcdv A outer s H vs Q E hr h=>?_)
 ·obtain ⟨p,m,rfl,_⟩:=h
  rfl
 ·obtain ⟨p,m,rfl,st,hm,k⟩:=h
  refine ⟨?t,?B,?C⟩
  case B=>
   refine' Jkq ?O0 ?O1
   case O0=>exact (Jl4 (i:=2) Sa5.nd rfl (Or.inr rfl) Jl7)
   case O1=>
   refine' Jkq ?O2 ?O3
   case O2=>exact (Jl4 (i:=3) Sa5.nd rfl (ye rfl) (Jl9 Jm3 Sz (Jkv T.Jy Su hr (by decide) (So (pv 0) (So Sz Ss)))))
   case O3=>
   refine' Jkq ?O4 ?O5
   case O4=>exact (Jl4 (i:=4) Sa5.nd rfl (ye rfl) (Jkv T.Jy Su hr (by decide) (So (pv 0) (So (pv 3) Ss))))
   case O5=>
   refine' Jkq ?O6 ?O7
   case O6=>exact (Js7 (i:=5) (N:=(["_law_k","_law_letters","_law_stream_here"]:List Str)) (ini:=[none,some 2,some 0]) Sa5.nd rfl (ye rfl) rfl (Jol (by rfl) T.Jay (So (pv 3) Ss)) (λ_ _ _ _ _=>(Jl3 (i:=0) (by decide +kernel:(["_law_k","_law_letters","_law_stream_here"]:List Str).Nodup) rfl (ye rfl))) (λ_ _ _ _ _=>Jm6) (λ_ _ _ _ _=>(Jlf Jwk (pv 1) (Jkv T.Jy Su hr (by decide) (So (pv 2) (So Sz Ss))) (λ_ _=>rfl))))
   case O7=>
   refine' Jkq ?O8 ?O9
   case O8=>exact (Jl4 (i:=6) Sa5.nd rfl (ye rfl) (Jkv T.Jy Su hr (by decide) (So (pv 0) (So Sz Ss))))
   case O9=>
   refine' Jkq ?Oa ?Ob
   case Oa=>exact (Jl4 (i:=7) Sa5.nd rfl (ye rfl) (Jlf Jl6 (Jli (pa8 Sz Sz Sz Sz Sz Sz Sz Sz)) (Jkv T.Jy Su hr (by decide) (So (pv 0) (So Sz Ss))) (λ_ _=>rfl)))
   case Ob=>
   refine' Jkq ?Oc ?Od
   case Oc=>exact (Jl4 (i:=8) Sa5.nd rfl (ye rfl) (Jkv T.Jy Su hr (by decide) (So (pv 0) (So Sz Ss))))
   case Od=>
   refine' Jkq ?Oe ?Of
   case Oe=>exact (Jl4 (i:=9) Sa5.nd rfl (ye rfl) (Jli Ss))
   case Of=>
   refine' Jkq ?Og ?Oh
   case Og=>
    refine' Jms ?Oi ?Oj ?Ok ?Ol ?Om
    case Oi=>exact PassesOwn.never
    case Oj=>exact rfl
    case Ok=>exact (Jol (by rfl) T.Jay (So (pv 1) Ss))
    case Ol=>exact (Jl3 (i:=10) Sa5.nd rfl (ye rfl))
    case Om=>
    refine' Jkq ?On ?Oo
    case On=>exact (Jl4 (i:=11) Sa5.nd rfl (ye rfl) (Jlf Jwk (pv 2) (Jl9 Jpd (Jl9 Jm3 (pv 6) (Jl9 Jqg (pv 7) (pv 10))) Sz) (λ_ _=>rfl)))
    case Oo=>
    refine' Jkq ?Op ?Oq
    case Op=>exact (Jl4 (i:=12) Sa5.nd rfl (ye rfl) (Jl9 Jqf (Jl9 Jqf (Jmn Jn4 (pv 5) Jnf (Jmw (pv 4))) (Jli (So (pv 11) Ss))) (Jmn Jn4 (pv 5) (Jmw (Jl9 Jm3 (pv 4) Sz)) Jnf)))
    case Oq=>
    refine' Jkq ?Or ?Os
    case Or=>
     refine' Jld ?Ot ?Ou ?Ov
     case Ot=>exact (Jle Jmu (pv 8) Sz (Jla _))
     case Ou=>
      refine' Jkr ?Ow
      case Ow=>exact (Jl4 (i:=12) Sa5.nd rfl (ye rfl) (Jmn Jn4 (pv 12) Jnf (Jmw (Jl9 Jm3 (Jl9 Jm3 (pv 4) Sz) (Jl9 Jpd (pv 10) (Jl9 Jo1 (pv 3) (pv 4)))))))
     case Ov=>exact Jl1
    case Os=>
    refine' Jkr ?Ox
    case Ox=>exact (Jlr (Jmg F.plainAttrs_list F.slot_list_append F.type_list_append Jly (pv 9) (So (Jmg F.plainAttrs_str F.slot_str_join F.type_str_join Jo8 Jl7 (So (pv 12) Ss)) Ss)))
   case Oh=>
   refine' Jkr ?Oy
   case Oy=>exact (Jkz (pv 9))
  refine ⟨_,rfl,p,8,rfl,st,by decide,by decide,λsz H1 z0 z1 b1=>⟨_,_,rfl,rfl,?_⟩⟩
  refine ⟨_,rfl,_,rfl,p,_,rfl,b1.2,by omega,Jxg (by omega),λat_ H2 a0 a1 b2=>?_⟩
  have b12:=b1.trans b2
  refine ⟨_,rfl,_,rfl,by omega,by omega,λD hD=>?_⟩
  have neD:D≠p:=b12.2.ne hD
  refine Jwh (D:=D) (λi σ H'=>∃(o:Option V) (cs:List Nat),σ= [o,some (.str LET),some (.ref p)]/\H' D=some (.lst (cs.map sgn))/\cs.length=i/\(∀c∈cs,c∈LET.cps.toList)/\But p H2 H')
   ?_ ?_ ?_
  ·exact ⟨none,[],rfl,Sy,rfl,(λy hy=>absurd hy (by simp)),But.of b12.2 (Sn.upd hD)⟩
  ·rintro i σ H' hi ⟨o,cs,rfl,hDs,hl,hw,b⟩
   refine Jmo ⟨_,rfl,_,rfl,p,26,rfl,b.2,by decide,by decide,λr H3 r0 r1 b3=>?_⟩
   obtain ⟨c,hc,hat⟩:=Jyl (g:=LET) r0 (by
    have:LET.length=26:=by decide +kernel
    omega)
   refine ⟨LET,r,c,rfl,rfl,Jlo _ (by decide +kernel),hat,cs.map sgn,b3.1 D _ neD hDs,?_,_,cs++ [c],rfl,?_,?_,?_,(b.trans b3).new hD b12.2⟩
   ·rw [yf]
    exact Jls (by omega)
   ·rw [Sy,yaf]
    rfl
   ·rw [yal]
    show cs.length+1=i+1
    omega
   ·intro y hy
    rcases yar.mp hy with hy|hy
    ·exact hw y hy
    ·rw [ybt.mp hy]
     exact hc
  rintro σ H3 ⟨o,cs,rfl,hDs,hl,hw,b3⟩
  have hl':cs.length=(1+sz).toNat:=hl
  have b13:=b12.trans b3
  refine ⟨_,rfl,p,26,rfl,b13.2,by decide,by decide,λf H4 f0 f1 b4=>?_⟩
  refine ⟨(show 8<=Sa by decide),λL1 hL1=>?_⟩
  have t5:=Sn.upd (o:=.lst [.int 1,.int 3,.int 5,.int 7,.int 9,.int 11,.int 15,.int 17]) hL1
  have g5:=Sy (H:=H4) (a:=L1) (o:=.lst [.int 1,.int 3,.int 5,.int 7,.int 9,.int 11,.int 15,.int 17])
  generalize upd H4 L1 (.lst [.int 1,.int 3,.int 5,.int 7,.int 9,.int 11,.int 15,.int 17])=H5 at*
  have b5:=b4.same t5
  refine ⟨_,rfl,p,8,rfl,b5.2,by decide,by decide,λr H6 r0 r1 b6=>?_⟩
  obtain ⟨sv,ms,as⟩:=Sjj (xs:=[.int 1,.int 3,.int 5,.int 7,.int 9,.int 11,.int 15,.int 17]) r0 r1
  obtain ⟨sp,rfl,hsp⟩:∃sp:Int,sv= .int sp/\Stp sp:=by
   simp only [yi,yt,or_false] at ms
   unfold Stp
   rcases ms with rfl|rfl|rfl|rfl|rfl|rfl|rfl|rfl <;> exact ⟨_,rfl,by decide⟩
  refine ⟨L1,_,_,_,rfl,rfl,Sw.of (b6.1 _ _ (Jul b5.2 g5 (λ_ _ _ z=>by cases z)) g5),as,?_⟩
  refine ⟨_,rfl,p,3,rfl,b6.2,by decide,by decide,λsh H7 s0 s1 b7=>?_⟩
  refine ⟨Jlo _ (by show 0<=2000;decide),λL hL=>?_⟩
  have b37:=(b5.trans b6).trans b7
  have hD7:=b37.1 _ _ neD hDs
  have nLD:D≠L:=Jkw hD7 hL
  have hsb: -(2^64) < sp/\sp < 2^64:=by
   rcases hsp with rfl|rfl|rfl|rfl|rfl|rfl|rfl|rfl <;> decide
  obtain ⟨n,rfl⟩:=yaa a0
  obtain ⟨z,rfl⟩:=yaa z0
  have hn:n < cs.length:=by omega
  refine ⟨_,rfl,_,rfl,by omega,by omega,?_⟩
  refine Joe (λi σ H'=>(∃o1 o2 o3,σ= [some (.ref p),some (.int m),some (.str LET),some (.int (1+z)),some (.int n),some (.ref D),some (.int f),some (.int sp),some (.int sh),some (.ref L),o1,o2,o3])/\(∃zs:List Str,H' L=some (.lst (zs.map V.str))/\zs.length=i/\∀(k:Nat) z,zs[k]?=some z->NmK f sp n k z)/\∀b o,b≠L->H7 b=some o->H' b=some o) ⟨⟨_,_,_,rfl⟩,⟨[],Sy,rfl,λk z e=>by simp at e⟩,λb o nb e=>by rw [Jkt nb];exact e⟩ ?_ ?_
  ·rintro i σ H' hi ⟨⟨o1,o2,o3,rfl⟩,⟨zs,hLs,hzl,hz⟩,sm⟩
   obtain ⟨c,hc,hat⟩:=Jyl (g:=LET) (r:=(f+sp*(0+(i:Int)))%26) (by omega) (by
    have:LET.length=26:=by decide +kernel
    omega)
   refine ⟨_,rfl,_,rfl,_,rfl,_,rfl,_,_,rfl,rfl,.inl hsb,_,_,rfl,rfl,_,_,rfl,rfl,(show (0:Int) < 26 by decide),LET,_,c,rfl,rfl,Jlo _ (by decide +kernel),hat,?_⟩
   have hD':=sm D _ nLD hD7
   have e1:Jmj (cs.map sgn) none (some (n:Int))=(cs.take n).map sgn:=by rw [Jys _ n (by rw [yf];omega),List.map_take]
   have e2:Jmj (cs.map sgn) (some ((n:Int)+1)) none=(cs.drop (n+1)).map sgn:=by rw [show ((n:Int)+1)=((n+1:Nat):Int) from rfl,Jyr _ (n+1) (by rw [yf];omega),List.map_drop]
   refine ⟨_,rfl,_,rfl,_,rfl,D,_,rfl,Sw.of hD',λq1 hq1=>?_⟩
   rw [e1]
   have t1:=Sn.upd (o:=.lst ((cs.take n).map sgn)) hq1
   have g1:=Sy (H:=H') (a:=q1) (o:=.lst ((cs.take n).map sgn))
   generalize upd H' q1 (.lst ((cs.take n).map sgn))=K1 at*
   refine ⟨_,rfl,(show 1<=Sa by decide),λq2 hq2=>?_⟩
   have t2:=Sn.upd (o:=.lst [.str ⟨#[c]⟩]) hq2
   have g2:=Sy (H:=K1) (a:=q2) (o:=.lst [.str ⟨#[c]⟩])
   generalize upd K1 q2 (.lst [.str ⟨#[c]⟩])=K2 at*
   have hl3:((cs.take n).map sgn).length+ [V.str ⟨#[c]⟩].length<=Sa:=Jlo _ (by rw [yf,yx];show _+1<=2000;omega)
   refine ⟨q1,q2,_,_,rfl,rfl,t2 _ _ g1,g2,hl3,λq3 hq3=>?_⟩
   have t3:=Sn.upd (o:=.lst ((cs.take n).map sgn++ [.str ⟨#[c]⟩])) hq3
   have g3:=Sy (H:=K2) (a:=q3) (o:=.lst ((cs.take n).map sgn++ [.str ⟨#[c]⟩]))
   generalize upd K2 q3 (.lst ((cs.take n).map sgn++ [.str ⟨#[c]⟩]))=K3 at*
   have t13:=(t1.trans t2).trans t3
   refine ⟨_,rfl,_,rfl,_,_,rfl,rfl,_,rfl,D,_,rfl,Sw.of (t13 _ _ hD'),λq4 hq4=>?_⟩
   rw [e2]
   have t4:=Sn.upd (o:=.lst ((cs.drop (n+1)).map sgn)) hq4
   have g4:=Sy (H:=K3) (a:=q4) (o:=.lst ((cs.drop (n+1)).map sgn))
   generalize upd K3 q4 (.lst ((cs.drop (n+1)).map sgn))=K4 at*
   have hl5:((cs.take n).map sgn++ [V.str ⟨#[c]⟩]).length+((cs.drop (n+1)).map sgn).length<=Sa:=Jlo _ (by rw [yal,yf,yf,yx,yay];show _+1+_<=2000;omega)
   refine ⟨q3,q4,_,_,rfl,rfl,t4 _ _ g3,g4,hl5,λq5 hq5=>?_⟩
   obtain ⟨ws,ew,wl,wn,wi⟩:∃ws:List Nat,(cs.take n).map sgn++ [.str ⟨#[c]⟩]++(cs.drop (n+1)).map sgn=ws.map sgn/\ws.length=cs.length/\ws[n]?=some c/\∀d∈ws,d∈LET.cps.toList:=by
    refine ⟨cs.take n++ [c]++cs.drop (n+1),by simp [sgn],by simp;omega,?_,λd hd=>?_⟩
    ·rw [List.append_assoc,ybc (by simp;omega)]
     simp [Nat.min_eq_left (yav hn)]
    ·rcases yar.mp hd with hd|hd
     ·rcases yar.mp hd with hd|hd
      ·exact hw d (List.mem_of_mem_take hd)
      ·rw [ybt.mp hd];exact hc
     ·exact hw d (List.mem_of_mem_drop hd)
   rw [ew]
   have t5':=Sn.upd (o:=.lst (ws.map sgn)) hq5
   have g5':=Sy (H:=K4) (a:=q5) (o:=.lst (ws.map sgn))
   generalize upd K4 q5 (.lst (ws.map sgn))=K5 at*
   have t15:=(t13.trans t4).trans t5'
   unfold Jtv
   dsimp only
   refine Jv6 (λσ K6=>(∃q6,σ= [some (.ref p),some (.int m),some (.str LET),some (.int (1+z)),some (.int n),some (.ref D),some (.int f),some (.int sp),some (.int sh),some (.ref L),some (.int (0+(i:Int))),some (.str ⟨#[c]⟩),some (.ref q6)]/\∃us:List Nat,K6 q6=some (.lst (us.map sgn))/\us.length<=8/\us[n]?=some c/\∀d∈us,d∈LET.cps.toList)/\Sn H' K6) (λR hR=>?_) ?_
   ·refine ⟨_,rfl,rfl,_,rfl,Jsg (λ_=>?_) (λ_=>?_)⟩
    ·have hsz:(0:Int) < 1+z - n:=by omega
     have hmd:=Int.emod_nonneg ((i:Int)) (show (1+(z:Int) - n)≠0 by omega)
     have hmd2:=ybr ((i:Int)) hsz
     refine ⟨_,rfl,_,rfl,_,_,rfl,rfl,_,rfl,_,rfl,_,rfl,_,_,rfl,rfl,_,_,rfl,rfl,hsz,_,_,rfl,rfl,_,rfl,q5,_,rfl,Sw.of g5',λq6 hq6=>?_⟩
     obtain ⟨u,hu⟩:=yaa (show 0<=(n:Int)+1+(0+(i:Int))%(1+z - n) by rw [Int.zero_add];omega)
     have hu2:n+1<=u/\u<=ws.length:=by rw [Int.zero_add] at hu;omega
     have eu:Jmj (ws.map sgn) none (some ((n:Int)+1+(0+(i:Int))%(1+z - n)))=(ws.take u).map sgn:=by rw [hu,Jys _ u (by rw [yf];omega),List.map_take]
     refine hR _ _ ⟨⟨q6,rfl,ws.take u,by rw [eu];exact Sy,by rw [yx];omega,by rw [ybm (by omega)];exact wn,λd hd=>wi d (List.mem_of_mem_take hd)⟩,t15.trans (Sn.upd hq6)⟩
    ·exact hR _ _ ⟨⟨q5,rfl,ws,g5',by omega,wn,wi⟩,t15⟩
   ·rintro σ K6 ⟨⟨q6,rfl,us,g6,ul,un,ui⟩,t6⟩
    have hL6:=t6 _ _ hLs
    have hsg:us.map sgn=(us.map one).map V.str:=by rw [List.map_map];rfl
    refine ⟨_,rfl,.inl ⟨rfl,_,Sw.of hL6⟩,rfl,_,rfl,"",q6,us.map one,rfl,rfl,Sw.of (by rw [<-hsg];exact g6),?_,L,_,_,rfl,rfl,hL6,?_,⟨_,_,_,rfl⟩,⟨zs++ [Txt.join ("" :Str) (us.map one)],by rw [Sy,yaf];rfl,by rw [yal,hzl];rfl,λk z e=>?_⟩,λb o nb e=>?_⟩
    ·have:("" :Str).length=0:=by decide +kernel
     rw [this,Jzy]
     omega
    ·rw [yf]
     exact Jls (by omega)
    ·rw [List.getElem?_append] at e
     split at e
     ·exact hz k z e
     ·have hk:k=i:=by
       have:=(yw.mp e).1
       simp at this
       omega
      subst hk
      rw [hzl,Nat.sub_self] at e
      cases e
      rw [Int.zero_add] at hat
      refine ⟨?_,?_,?_,c,hat,?_⟩
      ·rw [Jpp]
       have:=(yw.mp un).1
       omega
      ·rw [Jpp];exact ul
      ·rw [Jpp];exact ui
      ·rw [Jpp];exact un
    ·rw [Jkt nb]
     exact t6 _ _ (sm b o nb e)
  ·rintro σ H' ⟨⟨o1,o2,o3,rfl⟩,⟨zs,hLs,hzl,hz⟩,sm⟩
   have nLp:L≠p:=b7.2.ne hL
   have b07:=b13.trans b37
   refine ⟨_,rfl,k L zs H' (b07.free st hL) ⟨λb o nb e=>sm b o ?_ (b07.1 _ _ nb e),?_⟩ hLs (by simpa using hzl) (Sk1 hsp (by simp at hzl;omega) hz)⟩
   ·exact Jkw (b07.1 _ _ nb e) hL
   ·obtain ⟨x,y,z',e⟩:=b07.2
    exact ⟨x,y,z',sm p _ nLp.symm e⟩
theorem Jud (xs:List V) (i:Nat) (h:i<=xs.length):Jmj xs none (some (i:Int))=xs.take i:=by
 unfold Jmj
 rw [HT.sIx_none,HT.sIx_nat,Nat.min_eq_left h,List.drop_zero,Nat.sub_zero]
theorem Jtt (xs:List V) (i:Nat) (h:i<=xs.length):Jmj xs (some (i:Int)) none=xs.drop i:=by
 unfold Jmj
 rw [HT.sIx_nat,Nat.min_eq_left h]
 show List.take (xs.length - i) (xs.drop i)=_
 exact yab (by rw [yay];exact yh _)
def SOM:List Str:=["basin","town","cloud","step","flap","part","a","basins"]
def rot (r:Nat):List Str:=SOM.drop r++SOM.take r
theorem Skb:∀r,r < 8->decide (rot r).Nodup=true/\(rot r).all (λz=>Jno z&&(decide (z.length<=50)&&z.cps.toList.all (λc=>decide (c < 128))))=true:=by decide +kernel
theorem Ya8 {r m:Nat} (h:r < 8):Nms ((rot r).take m):=by
 obtain ⟨h1,h2⟩:=Skb r h
 rw [yai] at h2
 refine ⟨(of_decide_eq_true h1).sublist (List.take_sublist _ _),λz hz=>?_⟩
 have q:=h2 z (List.mem_of_mem_take hz)
 rw [yp] at q
 exact ⟨q.1,Y7 q.2⟩
theorem Sc1:Jky ["_law_stream_here","_law_many","_law_some","_law_first"] ["_law_stream_here","_law_many"] (Jku (top 67)):=⟨rfl,rfl,rfl,by decide +kernel,rfl,by decide +kernel,by decide +kernel⟩
theorem Jt7 (T:Tx K mg a):Sx P w K mg base CX0 3 a.Jj4 a.Jj5 ["_law_stream_here","_law_many"] Jv9:=by
 have Su:=Jo9 (P:=P) (w:=w) (base:=base) T
 have See:=Juq (P:=P) (w:=w) (base:=base) T
 refine T.Ja1.fn.ok Sc1 (λvs H Q E h=>?_) (λcdv A outer s H vs Q E hr h=>?_)
 ·obtain ⟨p,m,rfl,_⟩:=h
  rfl
 ·obtain ⟨p,m,rfl,st,hm,k⟩:=h
  refine ⟨?t,?B,?C⟩
  case B=>
   refine' Jkq ?O0 ?O1
   case O0=>
    refine' Jld ?O2 ?O3 ?O4
    case O2=>exact (PW.pt (Jv2 (Jle Jmu (Jkv T.Jy Su hr (by decide) (So (pv 0) (So Sz Ss))) Sz (Jla _)) (Js8 (Jle Ju2 (pv 1) Sz (Jla _)))))
    case O3=>
     refine' Jkq ?O5 ?O6
     case O5=>exact (Jl4 (i:=2) Sc1.nd rfl (ye rfl) (Jli (pa8 Jl7 Jl7 Jl7 Jl7 Jl7 Jl7 Jl7 Jl7)))
     case O6=>
     refine' Jkq ?O7 ?O8
     case O7=>exact (Jl4 (i:=3) Sc1.nd rfl (ye rfl) (Jkv T.Jy Su hr (by decide) (So (pv 0) (So Sz Ss))))
     case O8=>
     refine' Jkr ?O9
     case O9=>exact (Jkz (Jmn Jn4 (Jl9 Jqf (Jmn Jn4 (pv 2) (Jmw (pv 3)) Jnf) (Jmn Jn4 (pv 2) Jnf (Jmw (pv 3)))) Jnf (Jmw (pv 1))))
    case O4=>exact Jl1
   case O1=>
   refine' Jkr ?Oa
   case Oa=>exact (Jkz (Jkv T.Jz See hr (by decide) (So (pv 0) (So (pv 1) Ss))))
  refine ⟨_,rfl,p,4,rfl,st,by decide,by decide,λr1 H1 r10 r11 b1=>?_⟩
  have rest:∀H2,But p H H2->Jv9 [.ref p,.int m] H2 Q E0:=λH2 b2=>⟨p,m,rfl,b2.2,hm,λl zs H3 hl0 b3 hl ln nm=>k l zs H3 (But.free st b2 hl0) (b2.trans b3) hl ln nm⟩
  refine ⟨rfl,_,rfl,Jsg (λ_=>?_) (λ_=>?_)⟩
  ·refine ⟨_,rfl,_,_,rfl,rfl,_,rfl,Jsg (λc2=>?_) (λ_=>⟨_,rfl,_,rfl,rest H1 b1⟩)⟩
   refine ⟨(show 8<=Sa by decide),λF hF=>?_⟩
   have s2:=Sn.upd (o:=.lst (SOM.map V.str)) hF
   have hF2:(upd H1 F (.lst (SOM.map V.str))) F=some (.lst (SOM.map V.str)):=Sy
   have b2:=b1.same s2
   have nF:F≠p:=b1.2.ne hF
   refine ⟨_,rfl,p,8,rfl,b2.2,by decide,by decide,λr2 H3 r20 r21 b3=>?_⟩
   have hF3:=b3.1 _ _ nF hF2
   have b13:=b2.trans b3
   obtain ⟨i,rfl⟩:=yaa r20
   have ls:(SOM.map V.str).length=8:=rfl
   refine ⟨_,rfl,_,rfl,_,rfl,F,_,rfl,Sw.of hF3,λy1 hy1=>?_⟩
   have w1:=Sn.upd (o:=.lst (Jmj (SOM.map V.str) (some (i:Int)) none)) hy1
   refine ⟨_,rfl,_,rfl,_,rfl,F,_,rfl,Sw.of (w1 _ _ hF3),λy2 hy2=>?_⟩
   have w2:=Sn.upd (o:=.lst (Jmj (SOM.map V.str) none (some (i:Int)))) hy2
   refine ⟨y1,y2,_,_,rfl,rfl,w2 _ _ Sy,Sy,?_,λy3 hy3=>?_⟩
   ·rw [Jtt _ _ (by omega),Jud _ _ (by omega),yay,yx,ls]
    exact Jlo _ (by omega)
   have w3:=Sn.upd (o:=.lst (Jmj (SOM.map V.str) (some (i:Int)) none++Jmj (SOM.map V.str) none (some (i:Int)))) hy3
   refine ⟨_,rfl,_,rfl,y3,_,rfl,Sw.of Sy,λy4 hy4=>?_⟩
   have w4:=Sn.upd (o:=.lst (Jmj (Jmj (SOM.map V.str) (some (i:Int)) none++Jmj (SOM.map V.str) none (some (i:Int))) none (some (m:Int)))) hy4
   have ev:Jmj (Jmj (SOM.map V.str) (some (i:Int)) none++Jmj (SOM.map V.str) none (some (i:Int))) none (some (m:Int))=((rot i).take m).map V.str:=by
    have c2':=of_decide_eq_true c2
    rw [Jtt _ _ (by omega),Jud _ i (by omega),Jud _ m (by rw [yal,yay,yx,ls];omega),<-List.map_drop,<-List.map_take,<-yaf,<-List.map_take]
    rfl
   have b4:=b13.same (((w1.trans w2).trans w3).trans w4)
   refine k y4 ((rot i).take m) _ (But.free st (b13.same ((w1.trans w2).trans w3)) hy4) b4 (by rw [Sy,ev]) ?_ (Ya8 (by omega))
   have c2':=of_decide_eq_true c2
   have l8:(rot i).length=8:=by
    unfold rot
    rw [yal,yay,yx,show SOM.length=8 from rfl]
    omega
   rw [yx,l8]
   omega
  ·exact Jlp ⟨_,rfl,_,rfl,rest H1 b1⟩
theorem Smr (z:Str):(if decide (V.str z=V.str ("part" :Str))=true then (1:Int) else 0)=Jns z:=by
 unfold Jns
 by_cases h:z=("part" :Str)
 ·rw [if_pos h,if_pos (decide_eq_true (by rw [h]))]
 ·rw [if_neg h,if_neg (by rw [decide_eq_false (Jsx h)];decide)]
theorem Smq (z:Str):Jns z=0\/Jns z=1:=by
 unfold Jns
 split
 ·exact .inr rfl
 ·exact .inl rfl
theorem Skq {zs:List Str} {s:Int} (h:0<=s/\s < zs.length):∃z,atI (zs.map V.str) s=some (.str z)/\z∈zs:=by
 obtain ⟨i,rfl⟩:=yaa h.1
 have hi:i < zs.length:=by omega
 exact ⟨zs[i],Jnb (by rw [yk,yq hi];rfl),ybq hi⟩
theorem Jxf {i:Int} (h0:0<=i) (h:i<=1000):i.natAbs.log2 < 9000:=Jxg (by omega)
def TlB (p:S5) (H:Hp) (t:S5) (B:BTd):Prop:=∃m,m≠p/\H t=some (.lst [.str B.z,.int B.lo,.int B.hi,.int B.st,.int B.rn,.str B.G.kd,.ref m])/\H m=some (.lst (B.G.ns.map V.int))/\1<=B.G.ns.length
def TlW (H:Hp) (t:S5) (W:Twn):Prop:=H t=some (.lst [.str W.z,.str W.b,.int W.wt])
theorem TlB.same {p:S5} {H H':Hp} {t:S5} {B:BTd} (s:Sn H H') (h:TlB p H t B):TlB p H' t B:=by
 obtain ⟨m,n,h1,h2,h3⟩:=h
 exact ⟨m,n,s _ _ h1,s _ _ h2,h3⟩
theorem TlB.but {p:S5} {H H':Hp} {t:S5} {B:BTd} (st:Scg H p) (b:But p H H') (h:TlB p H t B):TlB p H' t B:=by
 obtain ⟨m,n,h1,h2,h3⟩:=h
 exact ⟨m,n,b.1 _ _ (Jul st h1 λx y z e=>by cases e) h1,b.1 _ _ n h2,h3⟩
theorem TlB.put {p:S5} {H:Hp} {t L:S5} {B:BTd} {ts:List S5} {u:HO} (hL:H L=some (.lst (ts.map V.ref))) (h:TlB p H t B):TlB p (upd H L u) t B:=by
 obtain ⟨m,n,h1,h2,h3⟩:=h
 refine ⟨m,n,?_,?_,h3⟩
 ·rw [Jkt λz=>?_]
  ·exact h1
  ·rw [z,hL] at h1
   have e:=HO.lst.inj (yy.inj h1)
   cases ts with
   |nil=>cases e
   |cons a b=>cases e
 ·rw [Jkt λz=>?_]
  ·exact h2
  ·rw [z,hL] at h2
   have e:=HO.lst.inj (yy.inj h2)
   cases ts with
   |nil=>
    cases hc:B.G.ns with
    |nil=>rw [hc] at h3;simp at h3
    |cons x r=>rw [hc] at e;cases e
   |cons a b=>
    cases hc:B.G.ns with
    |nil=>rw [hc] at h3;simp at h3
    |cons x r=>rw [hc] at e;cases e
theorem TlW.but {p:S5} {H H':Hp} {t:S5} {W:Twn} (st:Scg H p) (b:But p H H') (h:TlW H t W):TlW H' t W:=b.1 _ _ (Jul st h λx y z e=>by cases e) h
theorem TlW.put {H:Hp} {t L:S5} {W:Twn} {ts:List S5} {u:HO} (hL:H L=some (.lst (ts.map V.ref))) (h:TlW H t W):TlW (upd H L u) t W:=by
 unfold TlW
 rw [Jkt λz=>?_]
 ·exact h
 ·unfold TlW at h
  rw [z,hL] at h
  have e:=HO.lst.inj (yy.inj h)
  cases ts with
  |nil=>cases e
  |cons a b=>cases e
structure TlR (p:S5) (H:Hp) (R:S5) (c g:Nat) (Bs:List BTd) (Ts:List Twn):Prop where
 ex:∃(L M:S5) (ts us:List S5),R≠p/\L≠p/\M≠p/\H R=some (.lst [.int c,.int g,.ref L,.ref M])/\H L=some (.lst (ts.map V.ref))/\Paired (TlB p H) ts Bs/\H M=some (.lst (us.map V.ref))/\Paired (TlW H) us Ts
def Jzp:Sp:=λvs H Q _=>∃p:S5,vs= [.ref p]/\Scg H p/\∀(R:S5) (c g:Nat) (Bs:List BTd) (Ts:List Twn) (H':Hp),But p H H'->TlR p H' R c g Bs Ts->RGd c g Bs Ts->Q (.ref R) H'
theorem Sa6:Jky ["_law_stream_here","_law_cloud","_law_many","_law_basins","_law_name","_law_low","_law_high","_law_start","_law_kind","_law_rain","_law_marks_here","_law_towns"] ["_law_stream_here"] (Jku (top 68)):=⟨rfl,rfl,rfl,by decide +kernel,rfl,by decide +kernel,by decide +kernel⟩
theorem Jur (T:Tx K mg a):Sx P w K mg base CX0 4 a.Jj6 a.Jj7 ["_law_stream_here"] Jzp:=by
 have Su:=Jo9 (P:=P) (w:=w) (base:=base) T
 have Scs:=Jt7 (P:=P) (w:=w) (base:=base) T
 have Sed:=Jup (P:=P) (w:=w) (base:=base) T
 refine T.Ja2.fn.ok Sa6 (λvs H Q E h=>?_) (λcdv A outer s H vs Q E hr h=>?_)
 ·obtain ⟨p,rfl,_⟩:=h
  rfl
 ·obtain ⟨p,rfl,st,k⟩:=h
  refine ⟨?t,?B,?C⟩
  case B=>
   refine' Jkq ?O0 ?O1
   case O0=>exact (Jl4 (i:=1) Sa6.nd rfl (ye rfl) (Jkv T.Jy Su hr (by decide) (So (pv 0) (So Sz Ss))))
   case O1=>
   refine' Jkq ?O2 ?O3
   case O2=>exact (Jl4 (i:=2) Sa6.nd rfl (ye rfl) (Jlf Jl6 (Jli (So (Jl9 Jm3 Sz (Jkv T.Jy Su hr (by decide) (So (pv 0) (So Sz Ss)))) (So (Jl9 Jm3 Sz (Jkv T.Jy Su hr (by decide) (So (pv 0) (So Sz Ss)))) Ss))) (Jln Jtr (by rfl) T.Jas Jsa (So (Jm5 Jmu (Jkv T.Jy Su hr (by decide) (So (pv 0) (So Sz Ss))) Sz (Jla _)) Ss)) (λ_ _=>rfl)))
   case O3=>
   refine' Jkq ?O4 ?O5
   case O4=>exact (Jl4 (i:=3) Sa6.nd rfl (ye rfl) (Jli Ss))
   case O5=>
   refine' Jkq ?O6 ?O7
   case O6=>
    refine' Jms ?O8 ?O9 ?Oa ?Ob ?Oc
    case O8=>exact PassesOwn.never
    case O9=>exact rfl
    case Oa=>exact (Jm2 (Jkv T.Ja1 Scs hr (by decide) (So (pv 0) (So (pv 2) Ss))))
    case Ob=>exact (Jl3 (i:=4) Sa6.nd rfl (ye rfl))
    case Oc=>
    refine' Jkq ?Od ?Oe
    case Od=>exact (Jl4 (i:=5) Sa6.nd rfl (ye rfl) (Jkv T.Jy Su hr (by decide) (So (pv 0) (So Sz Ss))))
    case Oe=>
    refine' Jkq ?Of ?Og
    case Of=>exact (Jl4 (i:=6) Sa6.nd rfl (ye rfl) (Jl9 Jm3 (pv 5) (Jkv T.Jy Su hr (by decide) (So (pv 0) (So (Jl9 Jo1 Sz (pv 5)) Ss)))))
    case Og=>
    refine' Jkq ?Oh ?Oi
    case Oh=>exact (Jl4 (i:=7) Sa6.nd rfl (ye rfl) (Jl9 Jm3 (pv 5) (Jkv T.Jy Su hr (by decide) (So (pv 0) (So (Jl9 Jm3 (Jl9 Jo1 (pv 6) (pv 5)) Sz) Ss)))))
    case Oi=>
    refine' Jkq ?Oj ?Ok
    case Oj=>exact (Jl4 (i:=8) Sa6.nd rfl (ye rfl) (Jlf Jl6 (Jli (So Jl7 (So Jl7 (So Jl7 Ss)))) (Jkv T.Jy Su hr (by decide) (So (pv 0) (So Sz Ss))) (λ_ _=>rfl)))
    case Ok=>
    refine' Jkq ?Ol ?Om
    case Ol=>exact (Jl4 (i:=9) Sa6.nd rfl (ye rfl) (Jkv T.Jy Su hr (by decide) (So (pv 0) (So Sz Ss))))
    case Om=>
    refine' Jkq ?On ?Oo
    case On=>exact (Jl4 (i:=10) Sa6.nd rfl (ye rfl) (Jkv T.Ja0 Sed hr (by decide) (So (pv 0) (So (Jln Jtr (by rfl) T.Jas Jsa (So (Jm5 Jmu (pv 8) Jl7 (Jla _)) Ss)) Ss))))
    case Oo=>
    refine' Jkr ?Op
    case Op=>exact (Jlr (Jmg F.plainAttrs_list F.slot_list_append F.type_list_append Jly (pv 3) (So (Jli (pa7 (pv 4) (pv 5) (pv 6) (pv 7) (pv 9) (pv 8) (pv 10))) Ss)))
   case O7=>
   refine' Jkq ?Oq ?Or
   case Oq=>exact (Jl4 (i:=11) Sa6.nd rfl (ye rfl) (Jli Ss))
   case Or=>
   refine' Jkq ?Os ?Ot
   case Os=>
    refine' Jms ?Ou ?Ov ?Ow ?Ox ?Oy
    case Ou=>exact PassesOwn.never
    case Ov=>exact rfl
    case Ow=>exact (Jm2 (Jkv T.Ja1 Scs hr (by decide) (So (pv 0) (So (Jkv T.Jy Su hr (by decide) (So (pv 0) (So Sz Ss))) Ss))))
    case Ox=>exact (Jl3 (i:=4) Sa6.nd rfl (ye rfl))
    case Oy=>
    refine' Jkr ?Oz
    case Oz=>exact (Jlr (Jmg F.plainAttrs_list F.slot_list_append F.type_list_append Jly (pv 11) (So (Jli (So (pv 4) (So (Jlf Jl6 (Jlf Jl6 (pv 3) (Jkv T.Jy Su hr (by decide) (So (pv 0) (So (pv 2) Ss))) (λ_ _=>rfl)) Sz (λ_ _=>rfl)) (So (Jl9 Jm3 Sz (Jkv T.Jy Su hr (by decide) (So (pv 0) (So Sz Ss)))) Ss)))) Ss)))
   case Ot=>
   refine' Jkr ?U0
   case U0=>
   refine' Jkz ?U1
   case U1=>
   refine' Jli ?U2
   case U2=>
   refine' pa4 ?U3 ?U4 ?U5 ?U6
   case U3=>exact (pv 1)
   case U4=>exact (Jkv T.Jy Su hr (by decide) (So (pv 0) (So (Jl9 Jm3 (pv 1) Sz) Ss)))
   case U5=>exact (pv 3)
   case U6=>exact (pv 11)
  refine ⟨_,rfl,p,13,rfl,st,by decide,by decide,λc H1 c0 c1 b1=>?_⟩
  refine ⟨_,rfl,p,4,rfl,b1.2,by decide,by decide,λr1 H2 r10 r11 b2=>⟨_,_,rfl,rfl,?_⟩⟩
  refine ⟨_,rfl,p,16,rfl,b2.2,by decide,by decide,λr2 H3 r20 r21 b3=>⟨_,_,rfl,rfl,(show 2<=Sa by decide),λl0 h0=>?_⟩⟩
  have c3:=(b1.trans b2).trans b3
  have s0:=Sn.upd (o:=.lst [.int (1+r1),.int (1+r2)]) h0
  have n0:=c3.2.ne h0
  refine ⟨_,rfl,p,4,rfl,c3.2.same s0,by decide,by decide,λr3 H4 r30 r31 b4=>⟨rfl,.inr ⟨_,rfl,?_⟩⟩⟩
  have c4:=(c3.same s0).trans b4
  have hl4:=b4.1 _ _ n0 (Sy (H:=H3) (a:=l0) (o:=.lst [.int (1+r1),.int (1+r2)]))
  have pick:∃n:Nat,atI [V.int (1+r1),.int (1+r2)] (if decide (V.int r3=V.int 0)=true then (1:Int) else 0)=some (.int (n:Int))/\1<=n/\n<=16:=by
   by_cases c:decide (V.int r3=V.int 0)=true
   ·rw [if_pos c]
    exact ⟨(1+r2).toNat,by rw [show (((1+r2).toNat:Nat):Int)=1+r2 by omega];rfl,by omega,by omega⟩
   ·rw [if_neg c]
    exact ⟨(1+r1).toNat,by rw [show (((1+r1).toNat:Nat):Int)=1+r1 by omega];rfl,by omega,by omega⟩
  obtain ⟨n,an,n1,n16⟩:=pick
  refine ⟨l0,_,_,_,rfl,rfl,Sw.of hl4,an,?_⟩
  refine ⟨(show 0<=Sa by decide),λL hL=>?_⟩
  have hL0:H L=none:=But.free st c4 hL
  have nL:L≠p:=st.ne hL0
  have s5:=Sn.upd (o:=.lst []) hL
  have c5:=c4.same s5
  have hL5:(upd H4 L (.lst [])) L=some (.lst (([]:List S5).map V.ref)):=Sy
  generalize upd H4 L (.lst [])=H5 at s5 c5 hL5⊢
  refine ⟨_,rfl,_,rfl,p,n,rfl,c5.2,n16,λZ zs H6 hZ0 b6 hZ zl nms=>?_⟩
  have c6:=c5.trans b6
  have nZ:Z≠p:=c5.2.ne hZ0
  have hL6:=b6.1 _ _ nL hL5
  have nZL:Z≠L:=λe=>by rw [e,hL5] at hZ0;cases hZ0
  refine ⟨Z,rfl,⟨_,Sw.of hZ⟩,?_⟩
  refine Jnx (K:=K) (a:=Z) (xs:=zs.map V.str) (λj σ H'=>∃(ts:List S5) (Bs:List BTd) (o4 o5 o6 o7 o8 o9 o10 o11:Option V),σ= [some (.ref p),some (.int c),some (.int (n:Int)),some (.ref L),o4,o5,o6,o7,o8,o9,o10,o11]/\But p H H'/\H' Z=some (.lst (zs.map V.str))/\H' L=some (.lst (ts.map V.ref))/\Paired (TlB p H') ts Bs/\Bs.map (·.z)=zs.take j/\∀B∈Bs,TGd B) ⟨[],[],_,_,_,_,_,_,_,_,rfl,c6,hZ,hL6,.nil,rfl,(λB h=>nomatch h)⟩ (λj σ H' _ ⟨_,_,_,_,_,_,_,_,_,_,_,_,hz,_⟩=>Sw.of hz) ?_ ?_
  ·rintro j x σ H' hx ⟨ts,Bs,o4,o5,o6,o7,o8,o9,o10,o11,rfl,cc,hZ',hL',td,ez,tg⟩
   rw [yk] at hx
   obtain ⟨z,hz,rfl⟩:=yac.mp hx
   have zn:=nms.2 z (yo hz)
   have jl:j < zs.length:=(yw.mp hz).1
   have lb:Bs.length=j:=by
    have:=congrArg ybb ez
    rw [yf,yx] at this
    omega
   have lt:=Paired.length td
   refine ⟨_,rfl,p,13,rfl,cc.2,by decide,by decide,λlo I1 lo0 lo1 d1=>?_⟩
   refine ⟨_,rfl,_,rfl,_,rfl,_,_,rfl,rfl,p,13 - lo,rfl,d1.2,by omega,Jxf (by omega) (by omega),λrh I2 rh0 rh1 d2=>⟨_,_,rfl,rfl,?_⟩⟩
   refine ⟨_,rfl,_,rfl,_,rfl,_,rfl,_,_,rfl,rfl,_,_,rfl,rfl,p,lo+rh - lo+1,rfl,d2.2,by omega,Jxf (by omega) (by omega),λrs I3 rs0 rs1 d3=>⟨_,_,rfl,rfl,?_⟩⟩
   refine ⟨(show 3<=Sa by decide),λl2 h2=>?_⟩
   have e2:=Sn.upd (o:=.lst [.str "step",.str "flap",.str "part"]) h2
   have n2:=d3.2.ne h2
   refine ⟨_,rfl,p,3,rfl,d3.2.same e2,by decide,by decide,λrk I4 rk0 rk1 d4=>?_⟩
   obtain ⟨kd,a2,m2⟩:=Skq (zs:=["step","flap","part"]) ⟨rk0,rk1⟩
   refine ⟨l2,_,rk,_,rfl,rfl,Sw.of (d4.1 _ _ n2 Sy),a2,?_⟩
   have kn:Knd kd:=by
    simp at m2
    exact m2
   have f4:But p H' I4:=(((d1.trans d2).trans d3).same e2).trans d4
   refine ⟨_,rfl,p,7,rfl,f4.2,by decide,by decide,λrn I5 rn0 rn1 d5=>?_⟩
   have f5:=f4.trans d5
   refine ⟨_,rfl,_,rfl,rfl,.inr ⟨_,rfl,?_⟩⟩
   refine ⟨p,Jns kd,congrArg (λz=>[V.ref p,V.int z]) (Smr kd),f5.2,Smq kd,λm ns I6 hm0 d6 hm6 ar=>?_⟩
   have f6:=f5.trans d6
   have nm6:m≠p:=f5.2.ne hm0
   have hL6':=f6.1 _ _ nL hL'
   have hZ6':=f6.1 _ _ nZ hZ'
   refine ⟨_,rfl,.inl ⟨rfl,_,Sw.of hL6'⟩,_,rfl,_,rfl,_,rfl,_,rfl,_,rfl,_,rfl,_,rfl,(show 7<=Sa by decide),λt ht=>?_⟩
   have e7:=Sn.upd (o:=.lst [.str z,.int lo,.int (lo+rh),.int (lo+rs),.int rn,.str kd,.ref m]) ht
   have tB:TlB p (upd I6 t (.lst [.str z,.int lo,.int (lo+rh),.int (lo+rs),.int rn,.str kd,.ref m])) t ⟨z,lo,lo+rh,lo+rs,rn,⟨kd,ns,none⟩⟩:=⟨m,nm6,Sy,e7 _ _ hm6,by
    unfold Jn1 at ar
    rw [yp,decide_eq_true_eq,yf] at ar
    exact ar.1.1⟩
   have td7:=Paired.mapP td λt B q=>((q.but cc.2 f6).same e7)
   have hL7:=e7 _ _ hL6'
   have hZ7:=e7 _ _ hZ6'
   have f7:=f6.same e7
   generalize upd I6 t (.lst [.str z,.int lo,.int (lo+rh),.int (lo+rs),.int rn,.str kd,.ref m])=I7 at tB td7 hL7 hZ7 f7⊢
   refine ⟨L,_,_,rfl,rfl,hL7,by rw [yf];exact Jls (by omega),ts++ [t],Bs++ [⟨z,lo,lo+rh,lo+rs,rn,⟨kd,ns,none⟩⟩],_,_,_,_,_,_,_,_,rfl,(cc.trans f7).updD hL0 nL,by rw [Jkt nZL];exact hZ7,by rw [Sy,yaf];rfl,Paired.snoc (Paired.mapP td7 λ_ _ q=>q.put hL7) (tB.put hL7),?_,?_⟩
   ·rw [yaf,ez,yam,hz]
    rfl
   ·intro B hB
    rcases yar.mp hB with h|h
    ·exact tg B h
    ·rw [ybt.mp h]
     exact ⟨⟨⟨lo0,show lo<=lo+rh by omega⟩,show lo+rh<=12 by omega,⟨rn0,show rn<=6 by omega⟩,⟨kn,ar,λi e=>by cases e⟩,rfl⟩,⟨show lo<=lo+rs by omega,show lo+rs<=lo+rh by omega⟩,zn.1,zn.2⟩
  ·rintro σ H' ⟨ts,Bs,o4,o5,o6,o7,o8,o9,o10,o11,rfl,cc,hZ',hL',td,ez,tg⟩
   rw [yf,yab (yh _)] at ez
   have lB:Bs.length=n:=by
    have:=congrArg ybb ez
    rw [yf] at this
    omega
   have lt:=Paired.length td
   refine ⟨(show 0<=Sa by decide),λM hM=>?_⟩
   have hM0:H M=none:=But.free st cc hM
   have nM:M≠p:=st.ne hM0
   have nML:M≠L:=λe=>by rw [e,hL'] at hM;cases hM
   have e1:=Sn.upd (o:=.lst []) hM
   have hM1:(upd H' M (.lst [])) M=some (.lst (([]:List S5).map V.ref)):=Sy
   have d1:=cc.same e1
   have hL1:=e1 _ _ hL'
   have td1:=Paired.mapP td λt B q=>q.same e1
   generalize upd H' M (.lst [])=J1 at e1 hM1 d1 hL1 td1⊢
   refine ⟨_,rfl,_,rfl,p,4,rfl,d1.2,by decide,by decide,λra J2 ra0 ra1 f2=>?_⟩
   obtain ⟨q4,rfl⟩:=yaa ra0
   have d2:=d1.trans f2
   refine ⟨p,q4,rfl,d2.2,by omega,λY ys J3 hY0 f3 hY yl nms2=>?_⟩
   have d3:=d2.trans f3
   have nY:Y≠p:=d2.2.ne hY0
   have nYM:Y≠M:=λe=>by rw [e,f2.1 _ _ nM hM1] at hY0;cases hY0
   have f13:=f2.trans f3
   refine ⟨Y,rfl,⟨_,Sw.of hY⟩,?_⟩
   refine Jnx (K:=K) (a:=Y) (xs:=ys.map V.str) (λj σ H'=>∃(us:List S5) (Ts:List Twn) (o4:Option V),σ= [some (.ref p),some (.int c),some (.int (n:Int)),some (.ref L),o4,o5,o6,o7,o8,o9,o10,some (.ref M)]/\But p H H'/\H' Y=some (.lst (ys.map V.str))/\H' L=some (.lst (ts.map V.ref))/\Paired (TlB p H') ts Bs/\H' M=some (.lst (us.map V.ref))/\Paired (TlW H') us Ts/\Ts.map (·.z)=ys.take j/\(∀W∈Ts,WGd W)/\∀W∈Ts,W.b∈Bs.map (·.z)) ⟨[],[],_,rfl,d3,hY,f13.1 _ _ nL hL1,Paired.mapP td1 λt B q=>q.but d1.2 f13,f13.1 _ _ nM hM1,.nil,rfl,(λW h=>nomatch h),(λW h=>nomatch h)⟩ (λj σ H' _ ⟨_,_,_,_,_,hz,_⟩=>Sw.of hz) ?_ ?_
   ·rintro j x σ J4 hx ⟨us,Ts,o4,rfl,d4,hY4,hL4,td4,hM4,tw4,ez4,wg,wb⟩
    rw [yk] at hx
    obtain ⟨z,hz,rfl⟩:=yac.mp hx
    have zn:=nms2.2 z (yo hz)
    have jl:j < ys.length:=(yw.mp hz).1
    have lT:Ts.length=j:=by
     have:=congrArg ybb ez4
     rw [yf,yx] at this
     omega
    have lu:=Paired.length tw4
    refine ⟨_,rfl,.inl ⟨rfl,_,Sw.of hM4⟩,_,rfl,_,rfl,_,rfl,_,rfl,p,n,rfl,d4.2,by omega,Jxf (by omega) (by omega),λrb J5 rb0 rb1 f5=>?_⟩
    obtain ⟨i,rfl⟩:=yaa rb0
    have hL5':=f5.1 _ _ nL hL4
    have td5:=Paired.mapP td4 λt B q=>q.but d4.2 f5
    obtain ⟨t,ht⟩:∃t,ts[i]?=some t:=⟨_,yq (by omega)⟩
    obtain ⟨B,hB,m,nm,tB,_⟩:=Jll td5 ht
    refine ⟨L,_,(i:Int),_,rfl,rfl,Sw.of hL5',Jnb (by rw [yk,ht];rfl),t,_,0,_,rfl,rfl,Sw.of tB,Jnb (j:=0) rfl,?_⟩
    have d5:=d4.trans f5
    refine ⟨_,rfl,p,6,rfl,d5.2,by decide,by decide,λrw' J6 rw0 rw1 f6=>⟨_,_,rfl,rfl,(show 3<=Sa by decide),λu hu=>?_⟩⟩
    have f56:=f5.trans f6
    have e7:=Sn.upd (o:=.lst [.str z,.str B.z,.int (1+rw')]) hu
    have f7:=f56.same e7
    have tW:TlW (upd J6 u (.lst [.str z,.str B.z,.int (1+rw')])) u ⟨z,B.z,1+rw'⟩:=Sy
    generalize upd J6 u (.lst [.str z,.str B.z,.int (1+rw')])=J7 at f7 tW⊢
    have hM7:=f7.1 _ _ nM hM4
    have td7:=Paired.mapP td4 λt B q=>q.but d4.2 f7
    have tw7:=Paired.mapP tw4 λt W q=>TlW.but d4.2 f7 q
    have tgB:=tg B (yo hB)
    refine ⟨M,_,_,rfl,rfl,hM7,by rw [yf];exact Jls (by omega),us++ [u],Ts++ [⟨z,B.z,1+rw'⟩],_,rfl,(d4.trans f7).updD hM0 nM,by rw [Jkt nYM];exact f7.1 _ _ nY hY4,by rw [Jkt (ym nML)];exact f7.1 _ _ nL hL4,Paired.mapP td7 λ_ _ q=>q.put hM7,by rw [Sy,yaf];rfl,Paired.snoc (Paired.mapP tw7 λ_ _ q=>TlW.put hM7 q) (TlW.put hM7 tW),?_,?_,?_⟩
    ·rw [yaf,ez4,yam,hz]
     rfl
    ·intro W hW
     rcases yar.mp hW with h|h
     ·exact wg W h
     ·rw [ybt.mp h]
      exact ⟨zn.1,tgB.nm,zn.2,tgB.wd,⟨show 1<=1+rw' by omega,show 1+rw'<=6 by omega⟩⟩
    ·intro W hW
     rcases yar.mp hW with h|h
     ·exact wb W h
     ·rw [ybt.mp h]
      exact List.mem_map_of_mem (yo hB)
   ·rintro σ J4 ⟨us,Ts,o4,rfl,d4,hY4,hL4,td4,hM4,tw4,ez4,wg,wb⟩
    rw [yf,yab (yh _)] at ez4
    have lT:Ts.length=q4:=by
     have:=congrArg ybb ez4
     rw [yf] at this
     omega
    obtain ⟨cn,rfl⟩:=yaa c0
    refine ⟨_,rfl,_,rfl,_,rfl,_,_,rfl,rfl,p,(cn:Int)+1,rfl,d4.2,by omega,Jxf (by omega) (by omega),λgg J5 g0 g1 f5=>?_⟩
    obtain ⟨gn,rfl⟩:=yaa g0
    refine ⟨_,rfl,_,rfl,(show 4<=Sa by decide),λR hR=>?_⟩
    have e6:=Sn.upd (o:=.lst [.int (cn:Int),.int (gn:Int),.ref L,.ref M]) hR
    have f6:=f5.same e6
    refine k R cn gn Bs Ts _ (d4.trans f6) ⟨L,M,ts,us,(d4.trans f5).2.ne hR,nL,nM,Sy,f6.1 _ _ nL hL4,Paired.mapP td4 λt B q=>q.but d4.2 f6,f6.1 _ _ nM hM4,Paired.mapP tw4 λt W q=>TlW.but d4.2 f6 q⟩ ⟨by omega,by omega,⟨by omega,by omega⟩,tg,by rw [ez];exact nms.1,by omega,wg,by rw [ez4];exact nms2.1,wb⟩
theorem TlR.same {p:S5} {H H':Hp} {R:S5} {c g:Nat} {Bs:List BTd} {Ts:List Twn} (s:Sn H H') (h:TlR p H R c g Bs Ts):TlR p H' R c g Bs Ts:=by
 obtain ⟨L,M,ts,us,n1,n2,n3,h1,h2,h3,h4,h5⟩:=h.ex
 exact ⟨L,M,ts,us,n1,n2,n3,s _ _ h1,s _ _ h2,Paired.mapP h3 λ_ _ q=>q.same s,s _ _ h4,Paired.mapP h5 λ_ _ q=>s _ _ q⟩
def Yaj:Sp:=λvs H Q _=>∃(p R:S5) (c g:Nat) (Bs:List BTd) (Ts:List Twn),vs= [.ref R]/\TlR p H R c g Bs Ts/\RGd c g Bs Ts/\∀H',Sn H H'->Q (.str (rtx c g Bs Ts)) H'
theorem Js6 {i:Int} (h0:0<=i) (h1:i<=12):i.natAbs.log2 < 1920:=ybj (ybs _) (by omega)
theorem Jz1 {ws:List Str} (h:∀z∈ws,Wrd z) (hl:ws.length<=12):(ws.map (·.length)).sum+ws.length*SPC.length<=16777216:=by
 have l:=Jsy (m:=10) ws λy hy=>(h y hy).len
 have e:SPC.length=1:=by decide +kernel
 rw [e]
 omega
def bpx (B:BTd):List V:=[.str B.z,.int B.lo,.int B.hi,.int B.st,.int B.rn,.str B.G.kd]++B.G.ns.map V.int
theorem Yl (B:BTd):(bpx B).length=6+B.G.ns.length:=by
 simp [bpx]
 omega
theorem Smj (B:BTd):(bpx B).map wOf=bws B:=by
 unfold bpx bws gws
 rw [yaf,List.map_map]
 rfl
theorem Ym {B:BTd} (tg:TGd B):∀x∈bpx B,Prt x:=by
 have b1:=tg.b.lo
 have b2:=tg.b.hi
 have b3:=tg.b.rn
 have b4:=tg.st
 intro x hx
 rcases yar.mp hx with h|h
 ·simp only [yi,yt,or_false] at h
  rcases h with rfl|rfl|rfl|rfl|rfl|rfl
  ·exact .inl ⟨_,rfl,yz tg.wd.len (by decide)⟩
  ·exact .inr ⟨_,rfl,by omega,by omega⟩
  ·exact .inr ⟨_,rfl,by omega,by omega⟩
  ·exact .inr ⟨_,rfl,by omega,by omega⟩
  ·exact .inr ⟨_,rfl,by omega,by omega⟩
  ·refine .inl ⟨_,rfl,?_⟩
   rcases tg.b.G.kd with e|e|e <;> rw [e] <;> decide +kernel
 ·obtain ⟨i,hi,rfl⟩:=yag.mp h
  exact .inr ⟨i,rfl,(Jve tg i hi).1,(Jve tg i hi).2⟩
theorem Sbf:Jky ["_law_told","_law_lines","_law_basin","_law_words","_law_town"] ["_law_told"] (Jku (top 69)):=⟨rfl,rfl,rfl,by decide +kernel,rfl,by decide +kernel,by decide +kernel⟩
theorem Jvu (T:Tx K mg a):Sx P w K mg base CX0 1 a.Jj8 a.Jj9 ["_law_told"] Yaj:=by
 refine T.Ja3.fn.ok Sbf (λvs H Q E h=>?_) (λcdv A outer s H vs Q E hr h=>?_)
 ·obtain ⟨p,R,c,g,Bs,Ts,rfl,_⟩:=h
  rfl
 ·obtain ⟨p,R,c,g,Bs,Ts,rfl,⟨L,M,ts,us,nR,nL,nM,hR,hL,td,hM,tw⟩,rg,q⟩:=h
  have ok:=Jv3 rg
  have ln:=Js9 c g Bs Ts
  have hc:=rg.cc
  have hg:=rg.gc
  have b16:=rg.len
  have t3:=rg.tl
  have lt:=Paired.length td
  have lu:=Paired.length tw
  refine ⟨?t,?B,?C⟩
  case B=>
   refine' Jkq ?O0 ?O1
   case O0=>exact (Jl4 (i:=1) Sbf.nd rfl (ye rfl) (Jli (So (Jmg F.plainAttrs_str F.slot_str_join F.type_str_join Jo8 Jl7 (So (Jli (So Jl7 (So (Jln Jop (by rfl) T.Jb0 Joo (So (Jlf Jl6 (pv 0) Sz (λ_ _=>rfl)) Ss)) (So (Jln Jop (by rfl) T.Jb0 Joo (So (Jlf Jl6 (pv 0) Sz (λ_ _=>rfl)) Ss)) Ss)))) Ss)) Ss)))
   case O1=>
   refine' Jkq ?O2 ?O3
   case O2=>
    refine' Jms ?O4 ?O5 ?O6 ?O7 ?O8
    case O4=>exact PassesOwn.never
    case O5=>exact rfl
    case O6=>exact (Jm2 (Jlf Jl6 (pv 0) Sz (λ_ _=>rfl)))
    case O7=>exact (Jl3 (i:=2) Sbf.nd rfl (ye rfl))
    case O8=>
    refine' Jkq ?O9 ?Oa
    case O9=>exact (Js7 (i:=3) (N:=(["_law_part"]:List Str)) (ini:=[none]) Sbf.nd rfl (ye rfl) rfl (Jm2 (Jl9 Jqf (Jmn Jn4 (pv 2) Jnf (Jmw Sz)) (Jlf Jl6 (pv 2) Sz (λ_ _=>rfl)))) (λ_ _ _ _ _=>(Jl3 (i:=0) (by decide +kernel:(["_law_part"]:List Str).Nodup) rfl (ye rfl))) (λ_ _ _ _ _=>Jm6) (λ_ _ _ _ _=>(Jln Jrl (by rfl) T.Jb0 Joo (So (pv 0) Ss))))
    case Oa=>
    refine' Jkr ?Ob
    case Ob=>exact (Jlr (Jmg F.plainAttrs_list F.slot_list_append F.type_list_append Jly (pv 1) (So (Jmg F.plainAttrs_str F.slot_str_join F.type_str_join Jo8 Jl7 (So (Jl9 Jqf (Jli (So Jl7 Ss)) (pv 3)) Ss)) Ss)))
   case O3=>
   refine' Jkq ?Oc ?Od
   case Oc=>
    refine' Jms ?Oe ?Of ?Og ?Oh ?Oi
    case Oe=>exact PassesOwn.never
    case Of=>exact rfl
    case Og=>exact (Jm2 (Jlf Jl6 (pv 0) Sz (λ_ _=>rfl)))
    case Oh=>exact (Jl3 (i:=4) Sbf.nd rfl (ye rfl))
    case Oi=>
    refine' Jkr ?Oj
    case Oj=>exact (Jlr (Jmg F.plainAttrs_list F.slot_list_append F.type_list_append Jly (pv 1) (So (Jmg F.plainAttrs_str F.slot_str_join F.type_str_join Jo8 Jl7 (So (Jl9 Jqf (Jli (So Jl7 Ss)) (Jmh (N:=(["_law_part"]:List Str)) (ini:=[none]) rfl (Jm2 (pv 4)) (λ_ _ _ _ _=>(Jl3 (i:=0) (by decide +kernel:(["_law_part"]:List Str).Nodup) rfl (ye rfl))) (λ_ _ _ _ _=>Jm6) (λ_ _ _ _ _=>(Jln Jrl (by rfl) T.Jb0 Joo (So (pv 0) Ss))))) Ss)) Ss)))
   case Od=>
   refine' Jkr ?Ok
   case Ok=>exact (Jkz (Jmg F.plainAttrs_str F.slot_str_join F.type_str_join Jo8 Jl7 (So (pv 1) Ss)))
  refine ⟨rfl,_,rfl,R,_,0,_,rfl,rfl,Sw.of hR,rfl,c,rfl,Js6 (by omega) (by omega),_,rfl,R,_,1,_,rfl,rfl,Sw.of hR,rfl,g,rfl,Js6 (by omega) (by omega),(show 3<=Sa by decide),λz1 hz1=>?_⟩
  have s1:=Sn.upd (o:=.lst ([CLD,nmS c,nmS g].map V.str)) hz1
  refine ⟨SPC,z1,[CLD,nmS c,nmS g],rfl,rfl,Sw.of Sy,Jz1 (Jvf hc hg) (by simp),(show 1<=Sa by decide),λF hF=>?_⟩
  have hF':(upd H z1 (.lst ([CLD,nmS c,nmS g].map V.str))) F=none:=hF
  have s2:=s1.trans (Sn.upd (o:=.lst [.str (Txt.join SPC [CLD,nmS c,nmS g])]) hF')
  have hF0:H F=none:=by
   cases hc:H F with
   |none=>rfl
   |some o=>rw [s1 _ _ hc] at hF';cases hF'
  have keep:∀{H':Hp} {o:HO},Sn H H'->Sn H (upd H' F o):=λs b u z=>by rw [Jkt (Jkw z hF0)];exact s _ _ z
  have row:∀(i:Nat) ws,(rws c g Bs Ts)[i]?=some ws->∀{H':Hp},H' F=some (.lst ((((rws c g Bs Ts).take i).map (Txt.join SPC)).map V.str))->((((rws c g Bs Ts).take i).map (Txt.join SPC)).map V.str).length < Sa/\(upd H' F (.lst ((((rws c g Bs Ts).take i).map (Txt.join SPC)).map V.str++ [.str (Txt.join SPC ws)]))) F=some (.lst ((((rws c g Bs Ts).take (i+1)).map (Txt.join SPC)).map V.str)):=λi ws h H' _=>by
   refine ⟨?_,?_⟩
   ·rw [yf,yf,yx]
    exact Jls (by omega)
   ·rw [Sy,yam,h,yaf,yaf]
    rfl
  refine ⟨_,rfl,R,_,2,_,rfl,rfl,Sw.of (s2 _ _ hR),rfl,L,rfl,⟨_,Sw.of (s2 _ _ hL)⟩,?_⟩
  refine Jnx (K:=K) (a:=L) (xs:=ts.map V.ref) (λj σ H'=>∃(o2 o3 o4:Option V),σ= [some (.ref R),some (.ref F),o2,o3,o4]/\Sn H H'/\H' F=some (.lst ((((rws c g Bs Ts).take (j+1)).map (Txt.join SPC)).map V.str))) ⟨_,_,_,rfl,s2,Sy⟩ (λj σ H' _ ⟨_,_,_,_,sm,_⟩=>Sw.of (sm _ _ hL)) ?_ ?_
  ·rintro j x σ H' hx ⟨o2,o3,o4,rfl,sm,hFj⟩
   rw [yk] at hx
   obtain ⟨t,ht,rfl⟩:=yac.mp hx
   obtain ⟨B,hB,m,nm,tB,hm,_⟩:=Jll td ht
   have tg:=rg.bas B (yo hB)
   have gl:=tg.b.G.len
   have hr1:(rws c g Bs Ts)[j+1]?=some (BAS::bws B):=by
    show (Bs.map (λB=>BAS::bws B)++Ts.map λW=>TWN::tws W)[j]?=_
    have jl:j < Bs.length:=(yw.mp hB).1
    rw [ybg (by rw [yf];exact jl),yk,hB]
    rfl
   refine ⟨_,rfl,_,rfl,t,_,rfl,Sw.of (sm _ _ tB),λy1 hy1=>?_⟩
   have w1:=Sn.upd (o:=.lst (Jmj [.str B.z,.int B.lo,.int B.hi,.int B.st,.int B.rn,.str B.G.kd,.ref m] none (some 6))) hy1
   refine ⟨_,rfl,t,_,6,_,rfl,rfl,Sw.of (w1 _ _ (sm _ _ tB)),rfl,y1,m,_,_,rfl,rfl,Sy,w1 _ _ (sm _ _ hm),?_,λy2 hy2=>?_⟩
   ·show 6+(B.G.ns.map V.int).length<=Sa
    rw [yf]
    exact Jlo _ (by omega)
   have w2:=w1.trans (Sn.upd (o:=.lst (Jmj [.str B.z,.int B.lo,.int B.hi,.int B.st,.int B.rn,.str B.G.kd,.ref m] none (some 6)++B.G.ns.map V.int)) hy2)
   have hy2':(upd (upd H' y1 (.lst (Jmj [.str B.z,.int B.lo,.int B.hi,.int B.st,.int B.rn,.str B.G.kd,.ref m] none (some 6)))) y2 (.lst (Jmj [.str B.z,.int B.lo,.int B.hi,.int B.st,.int B.rn,.str B.G.kd,.ref m] none (some 6)++B.G.ns.map V.int))) y2=some (.lst (bpx B)):=Sy
   have w2':=sm.trans w2
   have hF2:=w2 _ _ hFj
   generalize upd (upd H' y1 (.lst (Jmj [.str B.z,.int B.lo,.int B.hi,.int B.st,.int B.rn,.str B.G.kd,.ref m] none (some 6)))) y2 (.lst (Jmj [.str B.z,.int B.lo,.int B.hi,.int B.st,.int B.rn,.str B.G.kd,.ref m] none (some 6)++B.G.ns.map V.int))=H2 at hy2' w2' hF2⊢
   refine ⟨y2,rfl,⟨_,Sw.of hy2'⟩,λD hD=>?_⟩
   have bl:=Yl B
   have pr:=Ym tg
   refine Jos (((bpx B).map wOf).map V.str) hD (by simp) (by omega) hy2' ?_ ?_
   ·rintro i x y H' Q' hx hy sm kk
    rw [yk,yk,hx] at hy
    cases hy
    rcases pr x (yo hx) with ⟨z,rfl,hz⟩|⟨i,rfl,h0,h1⟩
    ·exact ⟨_,rfl,.inr ⟨z,rfl,kk _ (Sn.refl _)⟩⟩
    ·exact ⟨_,rfl,.inl ⟨i,rfl,Js6 h0 h1,kk _ (Sn.refl _)⟩⟩
   intro H3 s3 hD3
   rw [Smj] at hD3
   have hF3:=s3 _ _ hF2
   have w3:=w2'.trans s3
   have okr:=ok _ (yo hr1)
   refine ⟨_,rfl,.inl ⟨rfl,_,Sw.of hF3⟩,rfl,(show 1<=Sa by decide),λz3 hz3=>?_⟩
   have w4:=Sn.upd (o:=.lst [.str BAS]) hz3
   refine ⟨_,rfl,z3,D,_,_,rfl,rfl,Sy,w4 _ _ hD3,?_,λz4 hz4=>?_⟩
   ·have:=okr.2.1
    rw [yf]
    exact Jlo _ (by simp at this⊢;omega)
   have w5:=w4.trans (Sn.upd (o:=.lst ([.str BAS]++(bws B).map V.str)) hz4)
   obtain ⟨q1,q2⟩:=row (j+1) _ hr1 (w5 _ _ hF3)
   exact ⟨SPC,z4,BAS::bws B,rfl,rfl,Sw.of Sy,Jz1 okr.1 okr.2.1,F,_,_,rfl,rfl,w5 _ _ hF3,q1,_,_,_,rfl,keep (w3.trans w5),q2⟩
  ·rintro σ H' ⟨o2,o3,o4,rfl,sm,hFj⟩
   rw [yf,lt] at hFj
   refine ⟨_,rfl,R,_,3,_,rfl,rfl,Sw.of (sm _ _ hR),rfl,M,rfl,⟨_,Sw.of (sm _ _ hM)⟩,?_⟩
   refine Jnx (K:=K) (a:=M) (xs:=us.map V.ref) (λj σ H'=>∃(o4:Option V),σ= [some (.ref R),some (.ref F),o2,o3,o4]/\Sn H H'/\H' F=some (.lst ((((rws c g Bs Ts).take (Bs.length+j+1)).map (Txt.join SPC)).map V.str))) ⟨_,rfl,sm,hFj⟩ (λj σ H' _ ⟨_,_,sm,_⟩=>Sw.of (sm _ _ hM)) ?_ ?_
   ·rintro j x σ H2 hx ⟨o4,rfl,sm2,hF2⟩
    rw [yk] at hx
    obtain ⟨u,hu,rfl⟩:=yac.mp hx
    obtain ⟨W,hW,tW⟩:=Jll tw hu
    have tg:=rg.twn W (yo hW)
    have hr1:(rws c g Bs Ts)[Bs.length+j+1]?=some (TWN::tws W):=by
     show (Bs.map (λB=>BAS::bws B)++Ts.map λW=>TWN::tws W)[Bs.length+j]?=_
     rw [ybc (by rw [yf];omega),yf,Nat.add_sub_cancel_left,yk,hW]
     rfl
    have okr:=ok _ (yo hr1)
    have wt:=tg.wt
    refine ⟨_,rfl,.inl ⟨rfl,_,Sw.of hF2⟩,rfl,(show 1<=Sa by decide),λz3 hz3=>?_⟩
    have w4:=Sn.upd (o:=.lst [.str TWN]) hz3
    refine ⟨_,rfl,u,rfl,⟨_,Sw.of (w4 _ _ (sm2 _ _ tW))⟩,λD hD=>?_⟩
    refine Jos ((tws W).map V.str) hD (by simp [tws]) (by simp) (w4 _ _ (sm2 _ _ tW)) ?_ ?_
    ·rintro i x y H' Q' hx hy sm kk
     rcases (show i=0\/i=1\/i=2 by have:=(yw.mp hx).1;simp at this;omega) with rfl|rfl|rfl
     ·cases hx
      cases hy
      exact ⟨_,rfl,.inr ⟨_,rfl,kk _ (Sn.refl _)⟩⟩
     ·cases hx
      cases hy
      exact ⟨_,rfl,.inr ⟨_,rfl,kk _ (Sn.refl _)⟩⟩
     ·cases hx
      cases hy
      exact ⟨_,rfl,.inl ⟨_,rfl,Js6 (by omega) (by omega),kk _ (Sn.refl _)⟩⟩
    intro H3 s3 hD3
    have w3:=(sm2.trans w4).trans s3
    have hF3:=s3 _ _ (w4 _ _ hF2)
    refine ⟨z3,D,_,_,rfl,rfl,s3 _ _ Sy,hD3,?_,λz4 hz4=>?_⟩
    ·exact Jlo _ (by simp [tws])
    have w5:=Sn.upd (o:=.lst ([.str TWN]++(tws W).map V.str)) hz4
    obtain ⟨q1,q2⟩:=row (Bs.length+j+1) _ hr1 (w5 _ _ hF3)
    exact ⟨SPC,z4,TWN::tws W,rfl,rfl,Sw.of Sy,Jz1 okr.1 okr.2.1,F,_,_,rfl,rfl,w5 _ _ hF3,q1,_,rfl,keep (w3.trans w5),q2⟩
   ·rintro σ H2 ⟨o4,rfl,sm2,hF2⟩
    rw [yf,lu,yab (by omega)] at hF2
    refine ⟨rfl,_,rfl,NLN,F,(rws c g Bs Ts).map (Txt.join SPC),rfl,rfl,Sw.of hF2,?_,q _ sm2⟩
    have l:=Jsy (m:=132) ((rws c g Bs Ts).map (Txt.join SPC)) (λp hp=>by
     obtain ⟨ws,hw,rfl⟩:=yag.mp hp
     exact (Jpr (ok ws hw).1 (ok ws hw).2.1).2)
    have e:NLN.length=1:=by decide +kernel
    have ll:((rws c g Bs Ts).map (Txt.join SPC)).length=(rws c g Bs Ts).length:=yf ..
    rw [e]
    omega
def Yai (a:Ad):Sp:=λvs H Q _=>∃(p R:S5) (c g:Nat) (Bs:List BTd) (Ts:List Twn),vs= [.ref R]/\TlR p H R c g Bs Ts/\RGd c g Bs Ts/\∀(y:S5) (H':Hp),Sn H H'->Se6 a H' y c g Bs Ts->Q (.ref y) H'
theorem Sab:Jky ["_law_told","_law_basins","_law_name","_law_low","_law_high","_law_start","_law_rain","_law_kind","_law_marks_here","_law_towns"] ["_law_told"] (Jku (top 71)):=⟨rfl,rfl,rfl,by decide +kernel,rfl,by decide +kernel,by decide +kernel⟩
theorem Jvt (T:Tx K mg a):Sx P w K mg base CX0 7 a.Jjc a.Jjd ["_law_told"] (Yai a):=by
 have Sf1:=Jvs (P:=P) (w:=w) (base:=base) T
 have Sb9:=Jq1 (P:=P) (w:=w) (base:=base) T
 have Sbi:=Jr3 (P:=P) (w:=w) (base:=base) T
 have Sba:=Jq2 (P:=P) (w:=w) (base:=base) T
 refine T.Ja5.fn.ok Sab (λvs H Q E h=>?_) (λcdv A outer s H vs Q E hr h=>?_)
 ·obtain ⟨p,R,c,g,Bs,Ts,rfl,_⟩:=h
  rfl
 ·obtain ⟨p,R,c,g,Bs,Ts,rfl,⟨L,M,ts,us,nR,nL,nM,hR,hL,td,hM,tw⟩,rg,q⟩:=h
  have hc:=rg.cc
  have hg:=rg.gc
  have b16:=rg.len
  have t3:=rg.tl
  have lt:=Paired.length td
  have lu:=Paired.length tw
  refine ⟨?t,?B,?C⟩
  case B=>
   refine' Jkq ?O0 ?O1
   case O0=>exact (Jl4 (i:=1) Sab.nd rfl (ye rfl) (Jli Ss))
   case O1=>
   refine' Jkq ?O2 ?O3
   case O2=>
    refine' Jms ?O4 ?O5 ?O6 ?O7 ?O8
    case O4=>exact PassesOwn.never
    case O5=>exact rfl
    case O6=>exact (Jm2 (Jlf Jl6 (pv 0) Sz (λ_ _=>rfl)))
    case O7=>exact (Sk5 rfl (Jm0 (Jl3 (i:=2) Sab.nd rfl (ye rfl)) (Jm0 (Jl3 (i:=3) Sab.nd rfl (ye rfl)) (Jm0 (Jl3 (i:=4) Sab.nd rfl (ye rfl)) (Jm0 (Jl3 (i:=5) Sab.nd rfl (ye rfl)) (Jm0 (Jl3 (i:=6) Sab.nd rfl (ye rfl)) (Jm0 (Jl3 (i:=7) Sab.nd rfl (ye rfl)) (Jm0 (Jl3 (i:=8) Sab.nd rfl (ye rfl)) Jr5))))))))
    case O8=>
    refine' Jkr ?O9
    case O9=>exact (Jlr (Jmg F.plainAttrs_list F.slot_list_append F.type_list_append Jly (pv 1) (So (Jmq T.Jdu Sb9.calm (hr.mono (by decide)) (by rfl) T.Jbf T.Jcn.bd .nil Jlk (pa6 (pv 2) (pv 3) (pv 4) (pv 5) (pv 6) (Jkv T.Ja4 Sf1 hr (by decide) (So (pv 7) (So (pv 8) Ss))))) Ss)))
   case O3=>
   refine' Jkq ?Oa ?Ob
   case Oa=>exact (Js7 (i:=9) (N:=(["_law_row"]:List Str)) (ini:=[none]) Sab.nd rfl (ye rfl) rfl (Jm2 (Jlf Jl6 (pv 0) Sz (λ_ _=>rfl))) (λ_ _ _ _ _=>(Jl3 (i:=0) (by decide +kernel:(["_law_row"]:List Str).Nodup) rfl (ye rfl))) (λ_ _ _ _ _=>Jm6) (λ_ _ _ _ _=>(Jmq T.Jdx Sbi.calm (hr.mono (by decide)) (by rfl) T.Jbg T.Jco.bd .nil Jlk (So (Jlf (Jsh (K:=K) rfl) (pv 0) Sz (λ_ _=>rfl)) (So (Jlf (Jsh (K:=K) rfl) (pv 0) Sz (λ_ _=>rfl)) (So (Jlf (Jsh (K:=K) rfl) (pv 0) Sz (λ_ _=>rfl)) Ss))))))
   case Ob=>
   refine' Jkr ?Oc
   case Oc=>
   refine' Jkz ?Od
   case Od=>exact (Jmq T.Je0 Sba.calm (hr.mono (by decide)) (by rfl) T.Jbh T.Jcp.bd .nil Jlk (pa4 (Jlf Jl6 (pv 0) Sz (λ_ _=>rfl)) (Jlf Jl6 (pv 0) Sz (λ_ _=>rfl)) (pv 1) (pv 9)))
  refine ⟨(show 0<=Sa by decide),λF hF=>?_⟩
  have s1:=Sn.upd (o:=.lst []) hF
  have keep:∀{H':Hp} {o:HO},Sn H H'->Sn H (upd H' F o):=λs b u z=>by rw [Jkt (Jkw z hF)];exact s _ _ z
  refine ⟨_,rfl,R,_,2,_,rfl,rfl,Sw.of (s1 _ _ hR),rfl,L,rfl,⟨_,Sw.of (s1 _ _ hL)⟩,?_⟩
  refine Jnx (K:=K) (a:=L) (xs:=ts.map V.ref) (λj σ H'=>∃(os:List S5) (o2 o3 o4 o5 o6 o7 o8 o9:Option V),σ= [some (.ref R),some (.ref F),o2,o3,o4,o5,o6,o7,o8,o9]/\Sn H H'/\H' F=some (.lst (os.map V.ref))/\Paired (λo B=>BX a H' o B) os (Bs.take j)) ⟨[],_,_,_,_,_,_,_,_,rfl,s1,Sy,.nil⟩ (λj σ H' _ ⟨_,_,_,_,_,_,_,_,_,_,sm,_⟩=>Sw.of (sm _ _ hL)) ?_ ?_
  ·rintro j x σ H' hx ⟨os,o2,o3,o4,o5,o6,o7,o8,o9,rfl,sm,hFj,po⟩
   rw [yk] at hx
   obtain ⟨t,ht,rfl⟩:=yac.mp hx
   obtain ⟨B,hB,m,nm,tB,hm,_⟩:=Jll td ht
   have jl:j < Bs.length:=(yw.mp hB).1
   have tg:=rg.bas B (yo hB)
   have sv0:=tg.b.sv
   have gg:Sbv ⟨B.G.kd,B.G.ns,none⟩:=⟨tg.b.G.kd,tg.b.G.ns,λi e=>by cases e⟩
   have ol:os.length=j:=by
    have:=Paired.length po
    rw [yx] at this
    omega
   refine ⟨t,_,rfl,Sw.of (sm _ _ tB),rfl,_,_,rfl,_,_,rfl,_,_,rfl,_,_,rfl,_,_,rfl,_,_,rfl,_,_,rfl,rfl,?_⟩
   refine ⟨_,rfl,.inl ⟨rfl,_,Sw.of hFj⟩,_,rfl,_,rfl,_,rfl,_,rfl,_,rfl,_,rfl,_,rfl,m,B.G.kd,B.G.ns,rfl,sm _ _ hm,gg,λgt H1 s1 ga=>?_⟩
   have gx:GX a H1 (.ref gt) B.G:=⟨gt,ga,by rw [sv0]⟩
   intro x dx hx1 hd1 ne
   refine Jym (C:=B) T tg gx hx1 hd1 λH2 s2 bx=>?_
   have s12:=s1.trans s2
   have hF2:=s12 _ _ hFj
   refine ⟨F,_,_,rfl,rfl,hF2,by rw [yf];exact Jls (by omega),os++ [x],_,_,_,_,_,_,_,_,rfl,keep (sm.trans s12),by rw [Sy,yaf];rfl,?_⟩
   rw [yam,hB]
   exact Paired.snoc (Paired.mapP po λ_ _ q=>(q.same s12).put hF2) (bx.put hF2)
  ·rintro σ H' ⟨os,o2,o3,o4,o5,o6,o7,o8,o9,rfl,sm,hFj,po⟩
   rw [yf,yab (by omega)] at po
   have lo:=Paired.length po
   refine ⟨_,rfl,R,_,3,_,rfl,rfl,Sw.of (sm _ _ hR),rfl,M,rfl,⟨_,Sw.of (sm _ _ hM)⟩,λD hD=>?_⟩
   refine Jmp (K:=K) (xs:=us.map V.ref) (λj σ I=>(∃o,σ= [o])/\Sn H' I/\∃ps:List S5,I D=some (.lst (ps.map V.ref))/\Paired (λo W=>Scn a I o W) ps (Ts.take j)) ⟨⟨_,rfl⟩,Sn.upd hD,[],Sy,.nil⟩ (λj σ I _ ⟨_,si,_⟩=>Sw.of (si _ _ (sm _ _ hM))) ?_ ?_
   ·rintro j y σ I hy ⟨⟨o,rfl⟩,si,ps,hDs,pt⟩
    rw [yk] at hy
    obtain ⟨u,hu,rfl⟩:=yac.mp hy
    obtain ⟨W,hW,tW⟩:=Jll tw hu
    have jl:j < Ts.length:=(yw.mp hW).1
    have tg:=rg.twn W (yo hW)
    have wt:=tg.wt
    have tW':=si _ _ (sm _ _ tW)
    have pl:ps.length=j:=by
     have:=Paired.length pt
     rw [yx] at this
     omega
    refine Jmo ⟨_,rfl,u,_,0,_,rfl,rfl,Sw.of tW',rfl,_,rfl,u,_,1,_,rfl,rfl,Sw.of tW',rfl,_,rfl,u,_,2,_,rfl,rfl,Sw.of tW',rfl,?_⟩
    intro x dx' hx1 hd1 ne
    have sn:Sn I (upd (upd I dx' (.own x)) x (.ins a.Jke dx' [])):=λb o e=>by rw [Jkt (Jkw e hx1),Jkt (Jkw e hd1)];exact e
    refine ⟨x,dx', .str W.z,.str W.b,.int W.wt,none,rfl,Sy,⟨.inr ⟨_,.of (.str W.z),rfl⟩,λy e=>by cases e;exact tg.wd⟩,⟨.inr ⟨_,.of (.str W.b),rfl⟩,λy e=>by cases e;exact tg.wb⟩,.inl ⟨_,rfl⟩,.good tg.nm tg.nb (Jnk (by omega) (by omega)),λH6 s6=>⟨rfl,?_⟩⟩
    have s7:Sn I (upd H6 x (.ins a.Jke dx' (twnF (.str W.z) (.str W.b) (.int W.wt)))):=λb o e=>by rw [Jkt (Jkw e hx1)];exact s6 _ _ (sn _ _ e)
    have tx:Scn a (upd H6 x (.ins a.Jke dx' (twnF (.str W.z) (.str W.b) (.int W.wt)))) x W:=⟨dx',Sy⟩
    generalize upd H6 x (.ins a.Jke dx' (twnF (.str W.z) (.str W.b) (.int W.wt)))=I7 at s7 tx⊢
    have hD7:=s7 _ _ hDs
    refine ⟨_,hD7,by rw [yf];exact Jls (by omega),⟨_,rfl⟩,λc2 o' z=>?_,ps++ [x],by rw [Sy,yaf];rfl,?_⟩
    ·rw [Jkt (Jkw z hD)]
     exact s7 _ _ (si _ _ z)
    ·rw [yam,hW]
     exact Paired.snoc (Paired.mapP pt λ_ _ q=>(q.same s7).put hD7) (tx.put hD7)
   rintro σ2 I ⟨_,si,ps,hDs,pt⟩
   rw [yf,yab (by omega)] at pt
   have lp:=Paired.length pt
   have hR2:=si _ _ (sm _ _ hR)
   refine ⟨_,rfl,R,_,0,_,rfl,rfl,Sw.of hR2,rfl,_,rfl,R,_,1,_,rfl,rfl,Sw.of hR2,rfl,_,rfl,_,rfl,?_⟩
   intro y dy hy hdy ne
   have sn:Sn I (upd (upd I dy (.own y)) y (.ins a.Jkf dy [])):=λb o e=>by rw [Jkt (Jkw e hy),Jkt (Jkw e hdy)];exact e
   have po2:=Paired.mapP po λ_ _ q=>q.same si
   obtain ⟨Cs,bl,cz,cl'⟩:=Jyo (K:=K) (Paired.mapP po2 λ_ _ q=>q.same sn) rg.bas
   refine ⟨y,dy,F,D,c,g,os,ps,Cs,Ts,rfl,Sy,⟨by omega,by omega⟩,⟨by omega,by omega⟩,sn _ _ (si _ _ hFj),bl,by omega,by rw [cz];exact rg.bn,sn _ _ hDs,twn_of (Paired.mapP pt λ_ _ q=>q.same sn),t3,rg.tn,λW hW=>by rw [cz];exact rg.tb W hW,λH8 b t s8 hb ht nb nt=>⟨rfl,?_⟩⟩
   have s9:Sn I (upd H8 y (.ins a.Jkf dy (Sh9 (.int c) (.int g) (.ref b) (.ref t)))):=λd o e=>by
    rw [Jkt (Jkw e hy)]
    exact s8 _ _ (sn _ _ e)
   exact q y _ ((sm.trans si).trans s9) ⟨dy,b,t,os,ps,Sy,by rw [Jkt nb];exact hb,by rw [Jkt nt];exact ht,Paired.mapP po2 λ_ _ q=>q.same s9,Paired.mapP pt λ_ _ q=>q.same s9⟩
def Skg:Sp:=λvs H Q _=>∃(kd:Str) (mk lv:Int),vs= [.str kd,.int mk,.int lv]/\Knd kd/\(Jns kd<=mk/\mk<=12)/\(0<=lv/\lv<=12)/\Q (.int (Jpe kd mk lv)) H
def Skk:Sp:=λvs H Q _=>∃(L M:S5) (ns:List Int),vs= [.ref L,.ref M]/\H L=some (.lst (ns.map V.int))/\H M=some (.lst (ns.map V.int))/\ns.length<=10/\∀H',Sn H H'->Q (.bl true) H'
theorem Jmr (ns:List Int):SeqAt.shaped (.tuple (ns.map PyData.int))=true:=by
 have e1:∀l:List Int,PyData.canLayAll0 (l.map PyData.int)=true:=by
  intro l
  induction l with
  |nil=>rfl
  |cons c r ih=>simp only [yas,PyData.canLayAll0,PyData.canLay0,ih,Bool.and_self]
 have e2:∀l:List Int,PyData.depthAll (l.map PyData.int)=0:=by
  intro l
  induction l with
  |nil=>rfl
  |cons c r ih=>simp [PyData.depthAll,PyData.depth,ih]
 simp [SeqAt.shaped,PyData.canLay0,PyData.depth,e1 ns,e2]
theorem Jzn {t1 t2 t3 t4:TS} {D:Jon} {σ:L2.St} {H:Hp} (Mid:L2.St->Hp->Prop) (h1:∀R,(∀σ H,Mid σ H->R σ H)->Jw9 t1 (Jw9 t2 t3) {D with nx:=R} σ H) (h2:∀σ H,Mid σ H->t4 D σ H):Jw9 t1 (Jw9 t2 (Jw9 t3 t4)) D σ H:=h1 _ h2
def Sn6 (a:Ad):Sp:=λvs H Q _=>∃(x:V) (m:S5) (G:Jn7),vs= [x,.str G.kd,.ref m]/\GX a H x G/\Sbv G/\H m=some (.lst (G.ns.map V.int))/\∀H',Sn H H'->Q (.bl true) H'
theorem Jyw (ns:List Int):PyData.eqv (.list (ns.map PyData.int)) (.list (ns.map PyData.int))=true:=by
 have h:∀l:List Int,PyData.eqvAll (l.map PyData.int) (l.map PyData.int)=true:=by
  intro l
  induction l with
  |nil=>rfl
  |cons c r ih=>simp [PyData.eqvAll,PyData.eqv,ih]
 simp [PyData.eqv,h]
theorem Jrn (ns:List Int):PyData.eqv (.tuple (ns.map PyData.int)) (.tuple (ns.map PyData.int))=true:=by
 have h:∀l:List Int,PyData.eqvAll (l.map PyData.int) (l.map PyData.int)=true:=by
  intro l
  induction l with
  |nil=>rfl
  |cons c r ih=>simp [PyData.eqvAll,PyData.eqv,ih]
 simp [PyData.eqv,h]
theorem Jrd (ns:List Int):SeqAt.shaped (.list (ns.map PyData.int))=true:=by
 have e1:∀l:List Int,PyData.canLayAll0 (l.map PyData.int)=true:=by
  intro l
  induction l with
  |nil=>rfl
  |cons c r ih=>simp only [yas,PyData.canLayAll0,PyData.canLay0,ih,Bool.and_self]
 have e2:∀l:List Int,PyData.depthAll (l.map PyData.int)=0:=by
  intro l
  induction l with
  |nil=>rfl
  |cons c r ih=>simp [PyData.depthAll,PyData.depth,ih]
 simp [SeqAt.shaped,PyData.canLay0,PyData.depth,e1 ns,e2]
theorem Jmc {H:Hp}:∀ns:List Int,Sck K H (ns.map V.int) (ns.map PyData.int):=by
 intro ns
 induction ns with
 |nil=>exact .nil
 |cons n r ih=>exact .cons (.int n) ih
theorem Jww:Jky ["_law_kind","_law_mark","_law_level"] ["_law_kind","_law_mark","_law_level"] (Jku (top 72)):=⟨rfl,rfl,rfl,by decide +kernel,rfl,by decide +kernel,by decide +kernel⟩
theorem Jwr (T:Tx K mg a):Sx P w K mg base CX0 1 a.Jje a.Jjf ["_law_kind","_law_mark","_law_level"] Skg:=by
 refine T.Ja6.fn.ok Jww (λvs H Q E h=>?_) (λcdv A outer s H vs Q E hr h=>?_)
 ·obtain ⟨kd,mk,lv,rfl,_⟩:=h
  rfl
 ·obtain ⟨kd,mk,lv,rfl,kn,hm,hl,k⟩:=h
  refine ⟨?t,?B,?C⟩
  case B=>
   refine' Jkq ?O0 ?O1
   case O0=>
    refine' Jld ?O2 ?O3 ?O4
    case O2=>exact (Jle Jmu (pv 0) Jl7 (Jla _))
    case O3=>
     refine' Jkr ?O5
     case O5=>exact (Jkz (Jl0 (Jrk rfl) (by rfl) T.Jax Jwg (So (pv 1) (So (pv 2) Ss))))
    case O4=>exact Jl1
   case O1=>
   refine' Jkq ?O6 ?O7
   case O6=>
    refine' Jld ?O8 ?O9 ?Oa
    case O8=>exact (Jle Jmu (pv 0) Jl7 (Jla _))
    case O9=>
     refine' Jkr ?Ob
     case Ob=>exact (Jkz (Jl0 (Jpn rfl) (by rfl) T.Jaw Jub (So Sz (So (Jl9 Jo1 (pv 2) (pv 1)) Ss))))
    case Oa=>exact Jl1
   case O7=>
   refine' Jkr ?Oc
   case Oc=>exact (Jkz (Jl9 Jr4 (pv 2) (pv 1)))
  rcases kn with rfl|rfl|rfl
  ·refine ⟨_,rfl,rfl,_,rfl,Jwj rfl ?_⟩
   exact ⟨_,rfl,_,rfl,_,_,rfl,k⟩
  ·refine ⟨_,rfl,rfl,_,rfl,Jt4 (Jsx Jp7) ?_⟩
   refine ⟨_,rfl,rfl,_,rfl,Jwj rfl ?_⟩
   refine ⟨_,rfl,_,rfl,_,_,rfl,rfl,_,_,rfl,?_⟩
   have e2:(if lv - mk > 0 then lv - mk else 0)=Jpe "flap" mk lv:=by
    unfold Jpe
    rw [if_neg Jp7,if_pos rfl]
    split <;> split <;> omega
   show Q (.int (if lv - mk > 0 then lv - mk else 0)) H
   rw [e2]
   exact k
  ·refine ⟨_,rfl,rfl,_,rfl,Jt4 (Jsx Jq0) ?_⟩
   refine ⟨_,rfl,rfl,_,rfl,Jt4 (Jsx Jpz) ?_⟩
   have m1:1<=mk:=hm.1
   exact ⟨_,rfl,_,rfl,_,_,rfl,rfl,⟨by omega,Jxg (by omega)⟩,k⟩
theorem Sbs:Jky ["_law_found","_law_due_here","_law_truths"] ["_law_found","_law_due_here"] (Jku (top 74)):=⟨rfl,rfl,rfl,by decide +kernel,rfl,by decide +kernel,by decide +kernel⟩
theorem Jqc (T:Tx K mg a):Sx P w K mg base CX0 1 a.Jji a.Jjj ["_law_found","_law_due_here"] Skk:=by
 refine T.Ja8.fn.ok Sbs (λvs H Q E h=>?_) (λcdv A outer s H vs Q E hr h=>?_)
 ·obtain ⟨L,M,ns,rfl,_⟩:=h
  rfl
 ·obtain ⟨L,M,ns,rfl,hL,hM,hn,k⟩:=h
  have hu64:=Js4 hr
  refine ⟨?t,?B,?C⟩
  case B=>
   refine' Jkq ?O0 ?O1
   case O0=>exact (Js7 (i:=2) (N:=(["_law_number"]:List Str)) (ini:=[none]) Sbs.nd rfl (ye rfl) rfl (Jm2 (pv 0)) (λ_ _ _ _ _=>(Jl3 (i:=0) (by decide +kernel:(["_law_number"]:List Str).Nodup) rfl (ye rfl))) (λ_ _ _ _ _=>(Ya4 (Jlh (Jl0 (Jrj (K:=K) rfl) (by rfl) T.Jat Jl8 (So (pv 0) (So (Jmv (v:=.ty "bool") (by rfl) T.Jaq Jx5 rfl) Ss)))))) (λ_ _ _ _ _=>(pv 0)))
   case O1=>
   refine' Jkr ?O2
   case O2=>exact (Jkz (Juy (Jm5 (Jza hu64) (pv 0) (pv 1) (Jla _)) (Jsp (Jm5 (Jza hu64) (pv 2) (Jli Ss) (Jla _)))))
  refine ⟨_,rfl,L,rfl,⟨_,Sw.of hL⟩,λD hD=>?_⟩
  refine Jmp (K:=K) (xs:=ns.map V.int) (λj σ H'=>(∃o,σ= [o])/\Sn H H'/\H' D=some (.lst [])) ⟨⟨_,rfl⟩,Sn.upd hD,Sy⟩ (λj σ H' _ ⟨_,sm,_⟩=>Sw.of (sm _ _ hL)) ?_ ?_
  ·rintro j x σ H' hx ⟨⟨o,rfl⟩,sm,hD'⟩
   rw [yk] at hx
   obtain ⟨z,hz,rfl⟩:=yac.mp hx
   exact ⟨_,rfl,_,_,_,.type "int",false,rfl,rfl,.of (.int z),rfl,_,rfl,Jlp ⟨⟨_,rfl⟩,sm,hD'⟩⟩
  rintro σ2 H2 ⟨_,s2,hD2⟩
  refine ⟨_,rfl,_,rfl,_,_,.lst (Sw.of (s2 _ _ hL)) (Jmc _),.lst (Sw.of (s2 _ _ hM)) (Jmc _),Jrd _,Jrd _,?_⟩
  rw [if_neg yv,Jyw]
  refine ⟨_,rfl,Jn5 ?_⟩
  refine ⟨_,rfl,(show 0<=Sa by decide),λZ hZ=>?_⟩
  have s3:=Sn.upd (o:=.lst []) hZ
  exact ⟨_,_,.lst (Sw.of (s3 _ _ hD2)) .nil,.lst (Sw.of Sy) .nil,rfl,rfl,k _ (s2.trans s3)⟩
theorem GX.lets {H:Hp} {x:V} {G:Jn7} {s lv:Int} (T:Tx K mg a) (gg:Sbv G) (gx:GX a H x G) (hs:0<=s/\s < (nOf G:Int)) (hl:0<=lv/\lv<=1000):
  ∃o C dx fs f fd ps sp k',x= .ref o/\H o=some (.ins C dx fs)/\fs.lookup ("lets" :Str)=none/\Cls K C/\Jn0 K C "lets" f/\Sx P w K mg base CX0 k' f fd ps sp/\k'<=3/\Sb1 K fd ps []/\∀Q:VK,Q (.int (lvG G s lv)) H->sp [x,.int s,.int lv] H Q E0:=by
 have sp:∀Q:VK,Q (.int (lvG G s lv)) H->Jzq a [x,.int s,.int lv] H Q E0:=λQ k=>⟨x,G,s,lv,rfl,gx,gg,hs,hl,k⟩
 obtain ⟨g,ga,r⟩:=gx
 obtain ⟨dx,t,h1,h2⟩:=id ga
 cases e:G.sv with
 |none=>
  rw [e] at r
  subst r
  rcases gg.kd with q|q|q
  ·rw [q,show cOf a "step" =a.Jka from if_pos rfl] at h1
   exact ⟨g,_,dx,_,_,_,_,_,3,rfl,h1,rfl,T.Jd7,T.Jda,(Jow T).calm,by decide,T.Jca.bd,sp⟩
  ·rw [q,show cOf a "flap" =a.Jkb by unfold cOf;rw [if_neg Jp7,if_pos rfl]] at h1
   exact ⟨g,_,dx,_,_,_,_,_,3,rfl,h1,rfl,T.Jde,T.Jdh,(Jow T).calm,by decide,T.Jca.bd,sp⟩
  ·rw [q,show cOf a "part" =a.Jkc by unfold cOf;rw [if_neg Jq0,if_neg Jpz]] at h1
   exact ⟨g,_,dx,_,_,_,_,_,3,rfl,h1,rfl,T.Jdl,T.Jdo,(Jow T).calm,by decide,T.Jca.bd,sp⟩
 |some j=>
  rw [e] at r
  exact r.elim
theorem Saw:Jky ["_law_gate_here","_law_kind","_law_marks_here","_law_kinds","_law_setting","_law_mark","_law_level"] ["_law_gate_here","_law_kind","_law_marks_here"] (Jku (top 73)):=⟨rfl,rfl,rfl,by decide +kernel,rfl,by decide +kernel,by decide +kernel⟩
theorem Jsn (T:Tx K mg a):Sx P w K mg base CX0 4 a.Jjg a.Jjh ["_law_gate_here","_law_kind","_law_marks_here"] (Sn6 a):=by
 have Sfp:=Jwr (P:=P) (w:=w) (base:=base) T
 refine T.Ja7.fn.ok Saw (λvs H Q E h=>?_) (λcdv A outer s H vs Q E hr h=>?_)
 ·obtain ⟨x,m,G,rfl,_⟩:=h
  rfl
 ·obtain ⟨x,m,⟨kd,ns,sv⟩,rfl,gx,gg,hm,k⟩:=h
  have hu64:=Js4 hr
  obtain ⟨g,⟨dx,t,h1,h2⟩,r⟩:=id gx
  cases sv with
  |some j=>exact r.elim
  |none=>
  have r:x= .ref g:=r
  subst r
  have hm:H m=some (.lst (ns.map V.int)):=hm
  have h2:H t=some (.tup (ns.map V.int)):=h2
  have gl:1<=ns.length/\ns.length<=4:=gg.len
  have hmk:Jn1 (Jns kd) (ns.map V.int)=true:=gg.ns
  unfold Jn1 at hmk
  rw [yp] at hmk
  refine ⟨?t,?B,?C⟩
  case B=>
   refine' Jkq ?O0 ?O1
   case O0=>exact (Jl4 (i:=3) Saw.nd rfl (ye rfl) (Jli (So (Jl0 Jmi (by rfl) T.Jat Jl8 (So (pv 0) (So (Jlc (by rfl) T.Jbc (v:=.ref _) rfl) Ss))) (So (Jl0 Jmi (by rfl) T.Jat Jl8 (So (pv 0) (So (Jlc (by rfl) T.Jbd (v:=.ref _) rfl) Ss))) (So (Jl0 Jmi (by rfl) T.Jat Jl8 (So (pv 0) (So (Jlc (by rfl) T.Jbe (v:=.ref _) rfl) Ss))) Ss)))))
   case O1=>
   refine' Jkq ?O2 ?O3
   case O2=>
    refine' Jld ?O4 ?O5 ?O6
    case O4=>exact (Jle (Juw hu64) (pv 3) (Jli (So (Jm5 Jmu (pv 1) Jl7 (Jla _)) (So (Jm5 Jmu (pv 1) Jl7 (Jla _)) (So (Jm5 Jmu (pv 1) Jl7 (Jla _)) Ss)))) (Jla _))
    case O5=>
     refine' Jkr ?O7
     case O7=>exact (Jkz Jml)
    case O6=>exact Jl1
   case O3=>
   refine' Jkq ?O8 ?O9
   case O8=>
    refine' Jld ?Oa ?Ob ?Oc
    case Oa=>exact (Jle (Juw hu64) (Jl5 (pv 0) (by rfl)) (Jln Jmt (by rfl) T.Jb1 Jnh (So (pv 2) Ss)) (Jla _))
    case Ob=>
     refine' Jkr ?Od
     case Od=>exact (Jkz Jml)
    case Oc=>exact Jl1
   case O9=>
   refine' Jkq ?Oe ?Of
   case Oe=>
    refine' Jms ?Og ?Oh ?Oi ?Oj ?Ok
    case Og=>exact PassesOwn.never
    case Oh=>exact rfl
    case Oi=>exact (Ya3 (by rfl) T.Jar (So (pv 2) Ss))
    case Oj=>exact (Jv0 rfl (Jm0 (Jl3 (i:=4) Saw.nd rfl (ye rfl)) (Jm0 (Jl3 (i:=5) Saw.nd rfl (ye rfl)) Jr5)))
    case Ok=>
    refine' Jkr ?Ol
    case Ol=>
    refine' Jms ?Om ?On ?Oo ?Op ?Oq
    case Om=>exact PassesOwn.never
    case On=>exact rfl
    case Oo=>exact (Jm2 (Jli (So Sz (So Sz (So Sz Ss)))))
    case Op=>exact (Jl3 (i:=6) Saw.nd rfl (ye rfl))
    case Oq=>
    refine' Jkr ?Or
    case Or=>
    refine' Jld ?Os ?Ot ?Ou
    case Os=>exact (Jle Jso (Jvx (pv 0) hr (So (pv 4) (So (pv 6) Ss))) (Jkv T.Ja6 Sfp hr (by decide) (So (pv 1) (So (pv 5) (So (pv 6) Ss)))) (Jla _))
    case Ot=>
     refine' Jkr ?Ov
     case Ov=>exact (Jkz Jml)
    case Ou=>exact Jl1
   case Of=>
   refine' Jkr ?Ow
   case Ow=>exact (Jkz Jml)
  have kdk:Knd kd:=gg.kd
  have h1:H g=some (.ins (cOf a kd) dx [("marks",.ref t)]):=h1
  refine Jzn (λσ H3=>∃o3:V,σ= [some (.ref g),some (.str kd),some (.ref m),some o3,none,none,none]/\Sn H H3) (λR hR=>?_) ?_
  ·rcases kdk with rfl|rfl|rfl
   ·rw [show cOf a "step" =a.Jka from if_pos rfl] at h1
    have ty:∀{H':Hp},Sn H H'->TyX K H' (.ref g) (.ref a.Jka):=λs=>.of (T.Jd8.ty T.Jd7 (s _ _ h1))
    refine ⟨_,rfl,_,_,_,_,_,rfl,rfl,ty (Sn.refl _),T.Jfc,_,rfl,_,_,_,_,_,rfl,rfl,ty (Sn.refl _),T.Jfd,_,rfl,_,_,_,_,_,rfl,rfl,ty (Sn.refl _),T.Jfe,(show 3<=Sa by decide),λZ hZ=>?_⟩
    have s1:=Sn.upd (o:=.lst [.bl true,.bl false,.bl false]) hZ
    refine ⟨_,rfl,_,rfl,rfl,_,rfl,rfl,_,rfl,rfl,(show 3<=Sa by decide),λZ2 hZ2=>?_⟩
    have s2:=Sn.upd (o:=.lst [.bl (decide (V.str "step" =V.str "step")),.bl (decide (V.str "step" =V.str "flap")),.bl (decide (V.str "step" =V.str "part"))]) hZ2
    refine ⟨_,_,.lst (Sw.of (s2 _ _ Sy)) (.cons (.bl _) (.cons (.bl _) (.cons (.bl _) .nil))),.lst (Sw.of Sy) (.cons (.bl _) (.cons (.bl _) (.cons (.bl _) .nil))),rfl,rfl,_,rfl,?_⟩
    rw [if_pos rfl]
    refine ifF (show (!(PyData.list [.bool true,.bool false,.bool false]).eqv (.list [.bool (decide (V.str ("step" :Str)=V.str ("step" :Str))),.bool (decide (V.str ("step" :Str)=V.str ("flap" :Str))),.bool (decide (V.str ("step" :Str)=V.str ("part" :Str)))]))=false by decide +kernel) ?_
    have s12:=s1.trans s2
    refine ⟨_,rfl,g,_,dx,_,_,rfl,s12 _ _ h1,T.Jd7,T.Jef,rfl,_,rfl,m,_,rfl,.inl ⟨Sw.of (s12 _ _ hm),λt2 ht2=>?_⟩⟩
    have s3:=Sn.upd (o:=.tup (ns.map V.int)) ht2
    refine ⟨_,_,.tup (SqT.of (s3 _ _ (s12 _ _ h2))) (Jmc _),.tup (SqT.of Sy) (Jmc _),Jmr _,Jmr _,_,rfl,?_⟩
    rw [if_pos rfl,Jrn]
    exact Jlp (hR _ _ ⟨_,rfl,s12.trans s3⟩)
   ·rw [show cOf a "flap" =a.Jkb from by unfold cOf;rw [if_neg Jp7,if_pos rfl]] at h1
    have ty:∀{H':Hp},Sn H H'->TyX K H' (.ref g) (.ref a.Jkb):=λs=>.of (T.Jdf.ty T.Jde (s _ _ h1))
    refine ⟨_,rfl,_,_,_,_,_,rfl,rfl,ty (Sn.refl _),T.Jff,_,rfl,_,_,_,_,_,rfl,rfl,ty (Sn.refl _),T.Jfg,_,rfl,_,_,_,_,_,rfl,rfl,ty (Sn.refl _),T.Jfh,(show 3<=Sa by decide),λZ hZ=>?_⟩
    have s1:=Sn.upd (o:=.lst [.bl false,.bl true,.bl false]) hZ
    refine ⟨_,rfl,_,rfl,rfl,_,rfl,rfl,_,rfl,rfl,(show 3<=Sa by decide),λZ2 hZ2=>?_⟩
    have s2:=Sn.upd (o:=.lst [.bl (decide (V.str "flap" =V.str "step")),.bl (decide (V.str "flap" =V.str "flap")),.bl (decide (V.str "flap" =V.str "part"))]) hZ2
    refine ⟨_,_,.lst (Sw.of (s2 _ _ Sy)) (.cons (.bl _) (.cons (.bl _) (.cons (.bl _) .nil))),.lst (Sw.of Sy) (.cons (.bl _) (.cons (.bl _) (.cons (.bl _) .nil))),rfl,rfl,_,rfl,?_⟩
    rw [if_pos rfl]
    refine ifF (show (!(PyData.list [.bool false,.bool true,.bool false]).eqv (.list [.bool (decide (V.str ("flap" :Str)=V.str ("step" :Str))),.bool (decide (V.str ("flap" :Str)=V.str ("flap" :Str))),.bool (decide (V.str ("flap" :Str)=V.str ("part" :Str)))]))=false by decide +kernel) ?_
    have s12:=s1.trans s2
    refine ⟨_,rfl,g,_,dx,_,_,rfl,s12 _ _ h1,T.Jde,T.Jeg,rfl,_,rfl,m,_,rfl,.inl ⟨Sw.of (s12 _ _ hm),λt2 ht2=>?_⟩⟩
    have s3:=Sn.upd (o:=.tup (ns.map V.int)) ht2
    refine ⟨_,_,.tup (SqT.of (s3 _ _ (s12 _ _ h2))) (Jmc _),.tup (SqT.of Sy) (Jmc _),Jmr _,Jmr _,_,rfl,?_⟩
    rw [if_pos rfl,Jrn]
    exact Jlp (hR _ _ ⟨_,rfl,s12.trans s3⟩)
   ·rw [show cOf a "part" =a.Jkc from by unfold cOf;rw [if_neg Jq0,if_neg Jpz]] at h1
    have ty:∀{H':Hp},Sn H H'->TyX K H' (.ref g) (.ref a.Jkc):=λs=>.of (T.Jdm.ty T.Jdl (s _ _ h1))
    refine ⟨_,rfl,_,_,_,_,_,rfl,rfl,ty (Sn.refl _),T.Jfi,_,rfl,_,_,_,_,_,rfl,rfl,ty (Sn.refl _),T.Jfj,_,rfl,_,_,_,_,_,rfl,rfl,ty (Sn.refl _),T.Jfk,(show 3<=Sa by decide),λZ hZ=>?_⟩
    have s1:=Sn.upd (o:=.lst [.bl false,.bl false,.bl true]) hZ
    refine ⟨_,rfl,_,rfl,rfl,_,rfl,rfl,_,rfl,rfl,(show 3<=Sa by decide),λZ2 hZ2=>?_⟩
    have s2:=Sn.upd (o:=.lst [.bl (decide (V.str "part" =V.str "step")),.bl (decide (V.str "part" =V.str "flap")),.bl (decide (V.str "part" =V.str "part"))]) hZ2
    refine ⟨_,_,.lst (Sw.of (s2 _ _ Sy)) (.cons (.bl _) (.cons (.bl _) (.cons (.bl _) .nil))),.lst (Sw.of Sy) (.cons (.bl _) (.cons (.bl _) (.cons (.bl _) .nil))),rfl,rfl,_,rfl,?_⟩
    rw [if_pos rfl]
    refine ifF (show (!(PyData.list [.bool false,.bool false,.bool true]).eqv (.list [.bool (decide (V.str ("part" :Str)=V.str ("step" :Str))),.bool (decide (V.str ("part" :Str)=V.str ("flap" :Str))),.bool (decide (V.str ("part" :Str)=V.str ("part" :Str)))]))=false by decide +kernel) ?_
    have s12:=s1.trans s2
    refine ⟨_,rfl,g,_,dx,_,_,rfl,s12 _ _ h1,T.Jdl,T.Jeh,rfl,_,rfl,m,_,rfl,.inl ⟨Sw.of (s12 _ _ hm),λt2 ht2=>?_⟩⟩
    have s3:=Sn.upd (o:=.tup (ns.map V.int)) ht2
    refine ⟨_,_,.tup (SqT.of (s3 _ _ (s12 _ _ h2))) (Jmc _),.tup (SqT.of Sy) (Jmc _),Jmr _,Jmr _,_,rfl,?_⟩
    rw [if_pos rfl,Jrn]
    exact Jlp (hR _ _ ⟨_,rfl,s12.trans s3⟩)
  ·rintro σ3 H3 ⟨o3,rfl,s3⟩
   refine ⟨_,rfl,m,rfl,⟨_,Sw.of (s3 _ _ hm)⟩,?_⟩
   refine Yo (K:=K) (a:=m) (xs:=ns.map V.int) (λi σ H'=>(∃o4 o5 o6,σ= [some (.ref g),some (.str kd),some (.ref m),some o3,o4,o5,o6])/\Sn H H') ⟨⟨_,_,_,rfl⟩,s3⟩ (λi σ H' _ ⟨_,sm⟩=>Sw.of (sm _ _ hm)) ?_ ?_
   ·rintro i x σ H' T1 hx ⟨⟨o4,o5,o6,rfl⟩,sm⟩ hT
    rw [yk] at hx
    obtain ⟨mk,hk,rfl⟩:=yac.mp hx
    have il:i < ns.length:=(yw.mp hk).1
    have bm:=Jnv ns _ hmk.2 i mk hk
    have sT:=Sn.upd (o:=.tup [.int i,.int mk]) hT
    refine ⟨T1,_,rfl,SqT.of Sy,rfl,_,_,rfl,_,_,rfl,rfl,?_⟩
    have s1:=sm.trans sT
    refine ⟨(show 3<=Sa by decide),λZ hZ=>⟨Z,rfl,⟨_,Sw.of Sy⟩,?_⟩⟩
    have s2:=s1.trans (Sn.upd (o:=.lst [.int 0,.int 5,.int 12]) hZ)
    refine Jnx (K:=K) (a:=Z) (xs:=[.int 0,.int 5,.int 12]) (λj σ H2=>(∃o6,σ= [some (.ref g),some (.str kd),some (.ref m),some o3,some (.int (i:Int)),some (.int mk),o6])/\Sn H H2/\H2 Z=some (.lst [.int 0,.int 5,.int 12])) ⟨⟨_,rfl⟩,s2,Sy⟩ (λj σ H2 _ ⟨_,_,hz⟩=>Sw.of hz) ?_ ?_
    ·rintro j y σ H2 hy ⟨⟨o6',rfl⟩,sm2,hz⟩
     obtain ⟨lv,rfl,l0,l1⟩:∃lv:Int,y= .int lv/\0<=lv/\lv<=12:=by
      rcases (show j=0\/j=1\/j=2 by have:=(yw.mp hy).1;simp at this;omega) with rfl|rfl|rfl
      ·cases hy;exact ⟨_,rfl,by decide,by decide⟩
      ·cases hy;exact ⟨_,rfl,by decide,by decide⟩
      ·cases hy;exact ⟨_,rfl,by decide,by decide⟩
     obtain ⟨q,C,dxq,fs,f,fd,ps,sp,k',eq,g1,g2,c',mm,ok,hkk,bd,hsp⟩:=GX.lets (P:=P) (w:=w) (base:=base) (s:=(i:Int)) (lv:=lv) T gg (gx.same sm2) ⟨by omega,by show (i:Int) < (ns.length:Int);omega⟩ ⟨l0,by omega⟩
     refine ⟨_,rfl,q,C,dxq,fs,f,fd,ps,sp,k',eq,g1,g2,c',mm,ok,hkk,bd,_,rfl,_,rfl,hsp _ ?_⟩
     refine ⟨_,rfl,_,rfl,_,rfl,kd,mk,lv,rfl,kdk,⟨bm.2.2.1,bm.2.2.2⟩,⟨l0,l1⟩,rfl,_,rfl,ifF ?_ ⟨⟨_,rfl⟩,sm2,hz⟩⟩
     have e:lvG ⟨kd,ns,none⟩ (i:Int) lv=Jpe kd mk lv:=by
      show Jpe kd (ns.getD (i:Int).toNat 0) lv=_
      rw [show (i:Int).toNat=i by omega,ybp,hk]
      rfl
     rw [e]
     simp
    ·rintro σ H2 ⟨⟨o6',rfl⟩,sm2,hz⟩
     exact ⟨⟨_,_,_,rfl⟩,sm2⟩
   ·rintro σ H' ⟨_,sm⟩
    exact k _ sm
def Yaf (a:Ad):Sp:=λvs H Q _=>∃(r:S5) (Bs:List BTd) (Ts:List Twn) (c g:Int),vs= [.ref r]/\Se6 a H r c g Bs Ts/\Bs.length<=16/\∀(t s:S5) (H':Hp),Sn H H'->H' t=some (.tup [.ref s,.int c])->H' s=some (.tup ((Bs.map (·.st)).map V.int))->Q (.ref t) H'
def Sne (a:Ad):Sp:=λvs H Q _=>∃(o:S5) (c g:Int) (Bs:List BTd) (Ts:List Twn) (n:Nat) (B:BTd),vs= [.ref o,.str B.z]/\Se6 a H o c g Bs Ts/\Bs[n]?=some B/\(Bs.map (·.z)).Nodup/\∀H',Sn H H'->Q (.int (n:Int)) H'
theorem Jqo:Jky ["self"] ["self"] (Jku (Jkx (top 44) 2)):=⟨rfl,rfl,rfl,by decide +kernel,rfl,by decide +kernel,by decide +kernel⟩
theorem Jq9 (T:Tx K mg a):Sx P w K mg base CX0 1 a.Jho a.Jhp ["self"] (Yaf a):=by
 refine T.Jcr.fn.ok Jqo (λvs H Q E h=>?_) (λcdv A outer s H vs Q E hr h=>?_)
 ·obtain ⟨r,Bs,Ts,c,g,rfl,_⟩:=h
  rfl
 ·obtain ⟨r,Bs,Ts,c,g,rfl,rv,l16,k⟩:=h
  obtain ⟨dx,b,t,os,ps,hr0,hb,ht0,pr,_⟩:=id rv
  have len:=Paired.length pr
  refine ⟨?t,?B,?C⟩
  case B=>
   refine' Jkr ?O0
   case O0=>exact (Jkz (Jsq (So (Jln Jmt (by rfl) T.Jb1 Jnh (So (Jmh (N:=(["basin"]:List Str)) (ini:=[none]) rfl (Jv1 (Jl5 (pv 0) (by rfl))) (λ_ _ _ _ _=>(Jl3 (i:=0) (by decide +kernel:(["basin"]:List Str).Nodup) rfl (ye rfl))) (λ_ _ _ _ _=>Jm6) (λ_ _ _ _ _=>(Jps (K:=K) rfl (pv 0) (by rfl)))) Ss)) (So (Jl5 (pv 0) (by rfl)) Ss))))
  refine ⟨_,rfl,r,_,dx,_,_,rfl,hr0,T.Jdy,T.Jet,rfl,b,rfl,⟨_,SqT.of hb⟩,λD hD=>?_⟩
  refine Jpo ((Bs.map (·.st)).map V.int) hD (by simp [len]) (by simp;omega) hb ?_ ?_
  ·intro i x y H' Q' hx hy sm k'
   rw [yk] at hx
   obtain ⟨o,ho,rfl⟩:=yac.mp hx
   obtain ⟨B,hB,bx⟩:=Jll pr ho
   rw [yk,yk,hB] at hy
   cases hy
   obtain ⟨dx',g,h1,_⟩:=bx.same sm
   exact ⟨_,rfl,o,_,dx',_,_,rfl,h1,T.Jds,T.Jel,rfl,k' _ (Sn.refl _)⟩
  intro H1 s1 hD1
  refine ⟨D,_,rfl,.inl ⟨Sw.of hD1,λS hS=>?_⟩⟩
  have s2:=Sn.upd (o:=.tup ((Bs.map (·.st)).map V.int)) hS
  refine ⟨_,rfl,r,_,dx,_,_,rfl,s2 _ _ (s1 _ _ hr0),T.Jdy,T.Jer,rfl,(show 2<=Sa by decide),λT1 hT1=>?_⟩
  exact k T1 S _ ((s1.trans s2).trans (Sn.upd hT1)) Sy (Sn.upd hT1 _ _ Sy)
theorem Sb6:Jky ["self","name","place","basin"] ["self","name"] (Jku (Jkx (top 44) 1)):=⟨rfl,rfl,rfl,by decide +kernel,rfl,by decide +kernel,by decide +kernel⟩
theorem Jr1 (T:Tx K mg a):Sx P w K mg base CX0 1 a.Jhm a.Jhn ["self","name"] (Sne a):=by
 refine T.Jcq.fn.ok Sb6 (λvs H Q E h=>?_) (λcdv A outer s H vs Q E hr h=>?_)
 ·obtain ⟨o,c,g,Bs,Ts,n,B,rfl,_⟩:=h
  rfl
 ·obtain ⟨o,c,g,Bs,Ts,n,B,rfl,⟨dx,b,t,os,ps,ho,hb,ht,pr,_⟩,hn,nd,k⟩:=h
  have len:=Paired.length pr
  refine ⟨?t,?B,?C⟩
  case B=>
   refine' Jkq ?O0 ?O1
   case O0=>
    refine' Jms ?O2 ?O3 ?O4 ?O5 ?O6
    case O2=>exact PassesOwn.never
    case O3=>exact rfl
    case O4=>exact (Jzh (by rfl) T.Jar (So (Jl5 (pv 0) (by rfl)) Ss))
    case O5=>exact (Jv0 rfl (Jm0 (Jl3 (i:=2) Sb6.nd rfl (ye rfl)) (Jm0 (Jl3 (i:=3) Sb6.nd rfl (ye rfl)) Jr5)))
    case O6=>
    refine' Jkr ?O7
    case O7=>
    refine' Jld ?O8 ?O9 ?Oa
    case O8=>exact (Jle Jmu (Jl5 (pv 3) (by rfl)) (pv 1) (Jla _))
    case O9=>
     refine' Jkr ?Ob
     case Ob=>exact (Jkz (pv 2))
    case Oa=>exact Jl1
   case O1=>
   refine' Jkr ?Oc
   case Oc=>exact (Jkz Juz)
  refine ⟨_,rfl,o,_,dx,_,_,rfl,ho,T.Jdy,T.Jet,rfl,b,rfl,⟨_,SqT.of hb⟩,?_⟩
  refine Jyy (xs:=os.map V.ref) (λi σ H'=>(∃o1 o2,σ= [some (.ref o),some (.str B.z),o1,o2])/\Sn H H'/\i<=n) ⟨⟨_,_,rfl⟩,Sn.refl _,yah _⟩ (λi σ H' _ ⟨_,sm,_⟩=>SqT.of (sm _ _ hb)) ?_ ?_
  ·rintro i x σ H' Ta hx ⟨⟨o1,o2,rfl⟩,sm,no⟩ hT
   rw [yk] at hx
   obtain ⟨ob,hob',rfl⟩:=yac.mp hx
   obtain ⟨C,hC,dxb,gb,hob,_⟩:=Jll pr hob'
   have sT:=Sn.upd (o:=.tup [.int i,.ref ob]) hT
   refine ⟨Ta,_,rfl,SqT.of Sy,rfl,_,_,rfl,_,_,rfl,rfl,?_⟩
   refine ⟨_,rfl,ob,_,dxb,_,_,rfl,sT _ _ (sm _ _ hob),T.Jds,T.Jei,rfl,_,rfl,rfl,_,rfl,?_⟩
   by_cases e:i=n
   ·subst e
    rw [hn] at hC
    cases hC
    exact ifT (by simp) ⟨_,rfl,k _ (sm.trans sT)⟩
   ·refine ifF ?_ ⟨⟨_,_,rfl⟩,sm.trans sT,by omega⟩
    refine decide_eq_false λz=>?_
    have z':=V.str.inj z
    refine Juk nd (i:=n) (z:=B.z) (by rw [yk,hn];rfl) ?_
    rw [<-z']
    refine yo (i:=i) ?_
    rw [ybm (by omega),yk,hC]
    rfl
  ·rintro σ H' ⟨_,sm,no⟩
   exfalso
   have:=(yw.mp hn).1
   rw [yf] at no
   omega
def Sn7 (a:Ad):Sp:=λvs H Q _=>∃(p y R:S5) (c g:Nat) (Bs:List BTd) (Ts:List Twn),vs= [.ref y,.ref R]/\Se6 a H y c g Bs Ts/\TlR p H R c g Bs Ts/\RGd c g Bs Ts/\∀H',Sn H H'->Q (.bl true) H'
theorem Jyx (z b:Str):PyData.eqv (.list [.str z,.str b]) (.list [.str z,.str b])=true:=by simp [PyData.eqv,PyData.eqvAll]
theorem Jxh {n:Nat} {z:Str} (h:Wd n z):PyData.strOk z=true:=by
 unfold PyData.strOk
 rw [<-Array.all_toList,yai]
 intro c hc
 have:=h.low c hc
 exact decide_eq_true (by omega)
theorem Jxj {z b:Str} (hz:PyData.strOk z=true) (hb:PyData.strOk b=true):SeqAt.shaped (.list [.str z,.str b])=true:=by
 simp [SeqAt.shaped,PyData.canLay0,PyData.canLayAll0,PyData.depth,PyData.depthAll,hz,hb]
theorem Sbm:Jky ["_law_river_here","_law_told","_law_basin","_law_row","_law_numbers","_law_town"] ["_law_river_here","_law_told"] (Jku (top 75)):=⟨rfl,rfl,rfl,by decide +kernel,rfl,by decide +kernel,by decide +kernel⟩
theorem Jy3 (T:Tx K mg a):Sx P w K mg base CX0 5 a.Jjk a.Jjl ["_law_river_here","_law_told"] (Sn7 a):=by
 have Sb2:=Jqc (P:=P) (w:=w) (base:=base) T
 have Sdu:=Jsn (P:=P) (w:=w) (base:=base) T
 have Sdh:=Jr1 (P:=P) (w:=w) (base:=base) T
 refine T.Ja9.fn.ok Sbm (λvs H Q E h=>?_) (λcdv A outer s H vs Q E hr h=>?_)
 ·obtain ⟨p,y,R,c,g,Bs,Ts,rfl,_⟩:=h
  rfl
 ·obtain ⟨p,y,R,c,g,Bs,Ts,rfl,rv,⟨L,M,ts,us,nR,nL,nM,hR,hL,td,hM,tw⟩,rg,k⟩:=h
  have hu64:=Js4 hr
  obtain ⟨dx,b,t,os,ps,hy,hb,ht,hB,hT⟩:=id rv
  have lo:=Paired.length hB
  have lp:=Paired.length hT
  have lt:=Paired.length td
  have lu:=Paired.length tw
  have b16:=rg.len
  have t3:=rg.tl
  refine ⟨?t,?B,?C⟩
  case B=>
   refine' Jkq ?O0 ?O1
   case O0=>
    refine' Jld ?O2 ?O3 ?O4
    case O2=>exact (PW.pt (Jp1 (Jlg (Jlh (Jl0 Jmi (by rfl) T.Jat Jl8 (So (pv 0) (So (Jlc (by rfl) T.Jbh (v:=.ref _) rfl) Ss))))) (Jnn (Jlg (Jlh (Jkv T.Ja8 Sb2 hr (by decide) (So (Jli (So (Jl5 (pv 0) (by rfl)) (So (Jl5 (pv 0) (by rfl)) Ss))) (So (Jmn Jn4 (pv 1) Jnf (Jmw Sz)) Ss))))))))
    case O3=>
     refine' Jkr ?O5
     case O5=>exact (Jkz Jml)
    case O4=>exact Jl1
   case O1=>
   refine' Jkq ?O6 ?O7
   case O6=>
    refine' Jld ?O8 ?O9 ?Oa
    case O8=>exact (PW.pt (Jp1 (Jle Jso (Jl0 Jl2 (by rfl) T.Jau Jlu (So (Jl5 (pv 0) (by rfl)) Ss)) (Jl0 Jl2 (by rfl) T.Jau Jlu (So (Jlf Jl6 (pv 1) Sz (λ_ _=>rfl)) Ss)) (Jla _)) (Jnn (Jle Jso (Jl0 Jl2 (by rfl) T.Jau Jlu (So (Jl5 (pv 0) (by rfl)) Ss)) (Jl0 Jl2 (by rfl) T.Jau Jlu (So (Jlf Jl6 (pv 1) Sz (λ_ _=>rfl)) Ss)) (Jla _)))))
    case O9=>
     refine' Jkr ?Ob
     case Ob=>exact (Jkz Jml)
    case Oa=>exact Jl1
   case O7=>
   refine' Jkq ?Oc ?Od
   case Oc=>
    refine' Jms ?Oe ?Of ?Og ?Oh ?Oi
    case Oe=>exact PassesOwn.never
    case Of=>exact rfl
    case Og=>exact (Jxi true false (by rfl) T.Jb2 (So (Jl5 (pv 0) (by rfl)) (So (Jlf Jl6 (pv 1) Sz (λ_ _=>rfl)) Ss)))
    case Oh=>exact (Jv0 rfl (Jm0 (Jl3 (i:=2) Sbm.nd rfl (ye rfl)) (Jm0 (Jl3 (i:=3) Sbm.nd rfl (ye rfl)) Jr5)))
    case Oi=>
    refine' Jkq ?Oj ?Ok
    case Oj=>exact (Jl4 (i:=4) Sbm.nd rfl (ye rfl) (Jli (pa4 (Jl5 (pv 2) (by rfl)) (Jl5 (pv 2) (by rfl)) (Jl5 (pv 2) (by rfl)) (Jl5 (pv 2) (by rfl)))))
    case Ok=>
    refine' Jkq ?Ol ?Om
    case Ol=>
     refine' Jld ?On ?Oo ?Op
     case On=>exact (PW.pt (Jp1 (Jle Jso (Jl5 (pv 2) (by rfl)) (Jlf Jl6 (pv 3) Sz (λ_ _=>rfl)) (Jla _)) (Jnn (Jlg (Jlh (Jkv T.Ja8 Sb2 hr (by decide) (So (pv 4) (So (Jmn Jn4 (pv 3) (Jmw Sz) (Jmw Sz)) Ss))))))))
     case Oo=>
      refine' Jkr ?Oq
      case Oq=>exact (Jkz Jml)
     case Op=>exact Jl1
    case Om=>
    refine' Jkr ?Or
    case Or=>
    refine' Jld ?Os ?Ot ?Ou
    case Os=>exact (Jlg (Jlh (Jkv T.Ja7 Sdu hr (by decide) (So (Jl5 (pv 2) (by rfl)) (So (Jlf Jl6 (pv 3) Sz (λ_ _=>rfl)) (So (Jlf Jl6 (pv 3) Sz (λ_ _=>rfl)) Ss))))))
    case Ot=>
     refine' Jkr ?Ov
     case Ov=>exact (Jkz Jml)
    case Ou=>exact Jl1
   case Od=>
   refine' Jkq ?Ow ?Ox
   case Ow=>
    refine' Jms ?Oy ?Oz ?U0 ?U1 ?U2
    case Oy=>exact PassesOwn.never
    case Oz=>exact rfl
    case U0=>exact (Jxi true false (by rfl) T.Jb2 (So (Jl5 (pv 0) (by rfl)) (So (Jlf Jl6 (pv 1) Sz (λ_ _=>rfl)) Ss)))
    case U1=>exact (Jv0 rfl (Jm0 (Jl3 (i:=5) Sbm.nd rfl (ye rfl)) (Jm0 (Jl3 (i:=3) Sbm.nd rfl (ye rfl)) Jr5)))
    case U2=>
    refine' Jkr ?U3
    case U3=>
    refine' Jld ?U4 ?U5 ?U6
    case U4=>exact (PW.pt (Jp1 (Jle (Juw hu64) (Jli (So (Jl5 (pv 5) (by rfl)) (So (Jl5 (pv 5) (by rfl)) Ss))) (Jmn Jn4 (pv 3) Jnf (Jmw Sz)) (Jla _)) (Jnn (Jlg (Jlh (Jkv T.Ja8 Sb2 hr (by decide) (So (Jli (So (Jl5 (pv 5) (by rfl)) Ss)) (So (Jmn Jn4 (pv 3) (Jmw Sz) Jnf) Ss))))))))
    case U5=>
     refine' Jkr ?U7
     case U7=>exact (Jkz Jml)
    case U6=>exact Jl1
   case Ox=>
   refine' Jkr ?U8
   case U8=>exact (Jkz (Jm5 Jmu (Jlx (pv 0) T.Jdy T.Je1 Sdh (hr.mono (by decide)) T.Jcq.bd .nil Jlk (So (Jlf Jl6 (Jlf Jl6 (Jlf Jl6 (pv 1) Sz (λ_ _=>rfl)) (Jvy Jt0 Sz) (λ_ _=>rfl)) Sz (λ_ _=>rfl)) Ss)) (Jl9 Jo1 (Jl0 Jl2 (by rfl) T.Jau Jlu (So (Jlf Jl6 (pv 1) Sz (λ_ _=>rfl)) Ss)) Sz) (Jla _)))
  refine ⟨_,rfl,_,_,_,_,true,rfl,rfl,.of (T.Jdz.ty T.Jdy hy),T.Jfl,_,rfl,Jlp ?_⟩
  refine ⟨_,rfl,y,_,dx,_,_,rfl,hy,T.Jdy,T.Jer,rfl,_,rfl,y,_,dx,_,_,rfl,hy,T.Jdy,T.Jes,rfl,(show 2<=Sa by decide),λZ hZ=>?_⟩
  have s1:=Sn.upd (o:=.lst [.int c,.int g]) hZ
  refine ⟨_,rfl,_,rfl,R,_,rfl,Sw.of (s1 _ _ hR),λZ2 hZ2=>?_⟩
  have s2:=Sn.upd (o:=.lst (Jmj [.int c,.int g,.ref L,.ref M] none (some 2))) hZ2
  refine ⟨Z,Z2,[c,g],rfl,s2 _ _ Sy,Sy,by simp,λH3 s3=>⟨_,rfl,Jlp ?_⟩⟩
  have q3:=(s1.trans s2).trans s3
  refine ⟨_,rfl,y,_,dx,_,_,rfl,q3 _ _ hy,T.Jdy,T.Jet,rfl,b,_,rfl,.inr (SqT.of (q3 _ _ hb)),_,rfl,R,_,2,_,rfl,rfl,Sw.of (q3 _ _ hR),rfl,L,_,rfl,.inl (Sw.of (q3 _ _ hL)),rfl,_,rfl,ifF ?_ ?_⟩
  ·simp
   omega
  refine ⟨_,rfl,y,_,dx,_,_,rfl,q3 _ _ hy,T.Jdy,T.Jeu,rfl,t,_,rfl,.inr (SqT.of (q3 _ _ ht)),_,rfl,R,_,3,_,rfl,rfl,Sw.of (q3 _ _ hR),rfl,M,_,rfl,.inl (Sw.of (q3 _ _ hM)),rfl,_,rfl,ifF ?_ ?_⟩
  ·simp
   omega
  refine ⟨_,rfl,y,_,dx,_,_,rfl,q3 _ _ hy,T.Jdy,T.Jet,rfl,_,rfl,R,_,2,_,rfl,rfl,Sw.of (q3 _ _ hR),rfl,b,L,rfl,⟨_,SqT.of (q3 _ _ hb)⟩,⟨_,Sw.of (q3 _ _ hL)⟩,?_⟩
  refine Jvk (K:=K) (l1:=b) (l2:=L) (b1:=true) (b2:=false) (xs:=os.map V.ref) (ys:=ts.map V.ref) (λi σ H'=>(∃o2 o3 o4 o5,σ= [some (.ref y),some (.ref R),o2,o3,o4,o5])/\Sn H H') ⟨⟨_,_,_,_,rfl⟩,q3⟩ (λi σ H' _ ⟨_,sm⟩=>⟨SqT.of (sm _ _ hb),Sw.of (sm _ _ hL)⟩) (by simp;omega) ?_ ?_
  ·rintro i x y' σ H' T1 hx hy' ⟨⟨o2,o3,o4,o5,rfl⟩,sm⟩ hT1
   rw [yk] at hx hy'
   obtain ⟨o,ho,rfl⟩:=yac.mp hx
   obtain ⟨tt,htt,rfl⟩:=yac.mp hy'
   obtain ⟨B,hBi,dxb,gb,hob,gx⟩:=Jll hB ho
   obtain ⟨B',hBi',m,nm,tB,hm,_⟩:=Jll td htt
   rw [hBi] at hBi'
   cases hBi'
   have tg:=rg.bas B (yo hBi)
   have sT:=Sn.upd (o:=.tup [.ref o,.ref tt]) hT1
   have q1:=sm.trans sT
   refine ⟨T1,_,rfl,SqT.of Sy,rfl,_,_,rfl,_,_,rfl,rfl,?_⟩
   have ho1:=q1 _ _ hob
   refine ⟨_,rfl,o,_,dxb,_,_,rfl,ho1,T.Jds,T.Jej,rfl,_,rfl,o,_,dxb,_,_,rfl,ho1,T.Jds,T.Jek,rfl,_,rfl,o,_,dxb,_,_,rfl,ho1,T.Jds,T.Jel,rfl,_,rfl,o,_,dxb,_,_,rfl,ho1,T.Jds,T.Jem,rfl,(show 4<=Sa by decide),λZ hZ=>?_⟩
   have w1:=Sn.upd (o:=.lst [.int B.lo,.int B.hi,.int B.st,.int B.rn]) hZ
   have q2:=q1.trans w1
   refine ⟨_,rfl,o,_,dxb,_,_,rfl,q2 _ _ hob,T.Jds,T.Jei,rfl,_,rfl,tt,_,0,_,rfl,rfl,Sw.of (q2 _ _ tB),rfl,rfl,_,rfl,ifF (by simp) ?_⟩
   refine ⟨_,rfl,_,rfl,_,rfl,_,rfl,tt,_,rfl,Sw.of (q2 _ _ tB),λZ2 hZ2=>?_⟩
   have w2:=Sn.upd (o:=.lst (Jmj [.str B.z,.int B.lo,.int B.hi,.int B.st,.int B.rn,.str B.G.kd,.ref m] (some 1) (some 5))) hZ2
   refine ⟨Z,Z2,[B.lo,B.hi,B.st,B.rn],rfl,w2 _ _ Sy,Sy,by simp,λH4 s4=>⟨_,rfl,Jlp ?_⟩⟩
   have q4:=(q2.trans w2).trans s4
   refine ⟨_,rfl,o,_,dxb,_,_,rfl,q4 _ _ hob,T.Jds,T.Jen,rfl,_,rfl,tt,_,5,_,rfl,rfl,Sw.of (q4 _ _ tB),rfl,_,rfl,tt,_,6,_,rfl,rfl,Sw.of (q4 _ _ tB),rfl,?_⟩
   exact ⟨gb,m,B.G,rfl,gx.same q4,tg.b.G,q4 _ _ hm,λH5 s5=>⟨_,rfl,Jlp ⟨⟨_,_,_,_,rfl⟩,q4.trans s5⟩⟩⟩
  ·rintro σ H' ⟨⟨o2,o3,o4,o5,rfl⟩,sm⟩
   refine ⟨_,rfl,y,_,dx,_,_,rfl,sm _ _ hy,T.Jdy,T.Jeu,rfl,_,rfl,R,_,3,_,rfl,rfl,Sw.of (sm _ _ hR),rfl,t,M,rfl,⟨_,SqT.of (sm _ _ ht)⟩,⟨_,Sw.of (sm _ _ hM)⟩,?_⟩
   refine Jvk (K:=K) (l1:=t) (l2:=M) (b1:=true) (b2:=false) (xs:=ps.map V.ref) (ys:=us.map V.ref) (λi σ H'=>(∃o2 o3 o4 o5,σ= [some (.ref y),some (.ref R),o2,o3,o4,o5])/\Sn H H') ⟨⟨_,_,_,_,rfl⟩,sm⟩ (λi σ H' _ ⟨_,sm⟩=>⟨SqT.of (sm _ _ ht),Sw.of (sm _ _ hM)⟩) (by simp;omega) ?_ ?_
   ·rintro i x y' σ H' T1 hx hy' ⟨⟨o2,o3,o4,o5,rfl⟩,sm⟩ hT1
    rw [yk] at hx hy'
    obtain ⟨o,ho,rfl⟩:=yac.mp hx
    obtain ⟨u,hu,rfl⟩:=yac.mp hy'
    obtain ⟨W,hWi,dxb,hob⟩:=Jll hT ho
    obtain ⟨W',hWi',tW⟩:=Jll tw hu
    rw [hWi] at hWi'
    cases hWi'
    have sT:=Sn.upd (o:=.tup [.ref o,.ref u]) hT1
    have q1:=sm.trans sT
    refine ⟨T1,_,rfl,SqT.of Sy,rfl,_,_,rfl,_,_,rfl,rfl,?_⟩
    have ho1:=q1 _ _ hob
    refine ⟨_,rfl,o,_,dxb,_,_,rfl,ho1,T.Jdv,T.Jeo,rfl,_,rfl,o,_,dxb,_,_,rfl,ho1,T.Jdv,T.Jep,rfl,(show 2<=Sa by decide),λZ hZ=>?_⟩
    have w1:=Sn.upd (o:=.lst [.str W.z,.str W.b]) hZ
    have q2:=q1.trans w1
    refine ⟨_,rfl,_,rfl,u,_,rfl,Sw.of (q2 _ _ tW),λZ2 hZ2=>?_⟩
    have w2:=Sn.upd (o:=.lst (Jmj [.str W.z,.str W.b,.int W.wt] none (some 2))) hZ2
    refine ⟨_,_,.lst (Sw.of (w2 _ _ Sy)) (.cons (.str _) (.cons (.str _) .nil)),.lst (Sw.of Sy) (.cons (.str _) (.cons (.str _) .nil)),?_,?_,_,rfl,?_⟩
    ·exact Jxj (Jxh (rg.twn W (yo hWi)).wd) (Jxh (rg.twn W (yo hWi)).wb)
    ·exact Jxj (Jxh (rg.twn W (yo hWi)).wd) (Jxh (rg.twn W (yo hWi)).wb)
    rw [if_pos rfl,Jyx]
    refine Jlp ?_
    have q3:=q2.trans w2
    refine ⟨_,rfl,o,_,dxb,_,_,rfl,q3 _ _ hob,T.Jdv,T.Jeq,rfl,(show 1<=Sa by decide),λZ3 hZ3=>?_⟩
    have w3:=Sn.upd (o:=.lst [.int W.wt]) hZ3
    refine ⟨_,rfl,_,rfl,u,_,rfl,Sw.of (w3 _ _ (q3 _ _ tW)),λZ4 hZ4=>?_⟩
    have w4:=Sn.upd (o:=.lst (Jmj [.str W.z,.str W.b,.int W.wt] (some 2) none)) hZ4
    exact ⟨Z3,Z4,[W.wt],rfl,w4 _ _ Sy,Sy,by simp,λH5 s5=>⟨_,rfl,Jlp ⟨⟨_,_,_,_,rfl⟩,((q3.trans w3).trans w4).trans s5⟩⟩⟩
   ·rintro σ H' ⟨⟨o2,o3,o4,o5,rfl⟩,sm⟩
    obtain ⟨tn,htn⟩:∃tn,ts[Bs.length - 1]?=some tn:=⟨_,yq (by omega)⟩
    obtain ⟨B,hBn,m,nm,tB,hm,_⟩:=Jll td htn
    have la:atI (ts.map V.ref) (-1)=some (.ref tn):=by
     unfold atI
     have e:ixN (ts.map V.ref).length (-1)=some (Bs.length - 1):=by
      unfold ixN
      rw [yf,if_neg (by decide),if_pos (by omega)]
      congr 1
      omega
     rw [e]
     show (ts.map V.ref)[Bs.length - 1]?=_
     rw [yk,htn]
     rfl
    refine ⟨_,rfl,y,dx,_,rfl,sm _ _ hy,by rfl,_,rfl,R,_,2,_,rfl,rfl,Sw.of (sm _ _ hR),rfl,_,rfl,L,_,_,_,rfl,rfl,Sw.of (sm _ _ hL),la,tn,_,0,_,rfl,rfl,Sw.of (sm _ _ tB),rfl,?_⟩
    refine ⟨y,c,g,Bs,Ts,Bs.length - 1,B,rfl,rv.same sm,hBn,rg.bn,λH2 s2=>?_⟩
    have q2:=sm.trans s2
    refine ⟨_,rfl,R,_,2,_,rfl,rfl,Sw.of (q2 _ _ hR),rfl,L,_,rfl,.inl (Sw.of (q2 _ _ hL)),_,_,rfl,rfl,rfl,?_⟩
    have e:decide (V.int ((Bs.length - 1:Nat):Int)=V.int (((ts.map V.ref).length:Int) - 1))=true:=by
     rw [yf,lt]
     exact decide_eq_true (congrArg V.int (by omega))
    rw [e]
    exact k _ q2
theorem Yn (ns:List Int) (c:Int):PyData.eqv (.tuple [.tuple (ns.map PyData.int),.int c]) (.tuple [.tuple (ns.map PyData.int),.int c])=true:=by
 have h:∀l:List Int,PyData.eqvAll (l.map PyData.int) (l.map PyData.int)=true:=by
  intro l
  induction l with
  |nil=>rfl
  |cons c r ih=>simp [PyData.eqvAll,PyData.eqv,ih]
 simp [PyData.eqv,PyData.eqvAll,h]
theorem Jsu (ns:List Int) (c:Int):SeqAt.shaped (.tuple [.tuple (ns.map PyData.int),.int c])=true:=by
 have e1:∀l:List Int,PyData.canLayAll0 (l.map PyData.int)=true:=by
  intro l
  induction l with
  |nil=>rfl
  |cons c r ih=>simp only [yas,PyData.canLayAll0,PyData.canLay0,ih,Bool.and_self]
 have e2:∀l:List Int,PyData.depthAll (l.map PyData.int)=0:=by
  intro l
  induction l with
  |nil=>rfl
  |cons c r ih=>simp [PyData.depthAll,PyData.depth,ih]
 simp [SeqAt.shaped,PyData.canLay0,PyData.canLayAll0,PyData.depth,PyData.depthAll,e1 ns,e2]
def spLaw (K:Si) (a:Ad):Sp:=λvs H Q _=>∃(x:S5) (ns:List Int),vs= [.ref x]/\Sw K H x (ns.map V.int)/\ns.length<=63/\Tbs a H/\∀H',Q (.bl true) H'
theorem Scz:Jky ["_law_script","_law_k","_law_told","_law_text_here","_law_turn","_law_river_here","_law_made_here"] ["_law_script"] (Jku (top 76)):=⟨rfl,rfl,rfl,by decide +kernel,rfl,by decide +kernel,by decide +kernel⟩
theorem ok_law (T:Tx K mg a) (B:Bmn mg base):Sx P w K mg base CX0 12 a.a_law a.d_law ["_law_script"] (spLaw K a):=by
 have Sf0:=Jvr (P:=P) (w:=w) (base:=base) T
 have Se3:=Jt8 (P:=P) (w:=w) (base:=base) T
 have Sef:=Jur (P:=P) (w:=w) (base:=base) T
 have Sf3:=Jvu (P:=P) (w:=w) (base:=base) T
 have Sf2:=Jvt (P:=P) (w:=w) (base:=base) T
 have Sg5:=Jy3 (P:=P) (w:=w) (base:=base) T
 have Sek:=Jtc (P:=P) (w:=w) T B
 have Sd2:=Jte (P:=P) (w:=w) (base:=base) T
 have Sbw:=Jq9 (P:=P) (w:=w) (base:=base) T
 refine T.f_law.fn.ok Scz (λvs H Q E h=>?_) (λcdv A outer s H vs Q E hr h=>?_)
 ·obtain ⟨x,ns,rfl,_⟩:=h
  rfl
 ·obtain ⟨x,ns,rfl,hS,hl,tb,k⟩:=h
  have hu64:=Js4 hr
  refine ⟨?t,?B,?C⟩
  case B=>
   refine' Jkq ?O0 ?O1
   case O0=>
    refine' Jms ?O2 ?O3 ?O4 ?O5 ?O6
    case O2=>exact PassesOwn.never
    case O3=>exact rfl
    case O4=>exact (Jol (by rfl) T.Jay (So (Jl0 (Jpn rfl) (by rfl) T.Jaw Jub (So Sz (So (Jl0 (Jrk rfl) (by rfl) T.Jax Jwg (So Sz (So (Jl0 Jl2 (by rfl) T.Jau Jlu (So (pv 0) Ss)) Ss))) Ss))) Ss))
    case O5=>exact (Jl3 (i:=1) Scz.nd rfl (ye rfl))
    case O6=>
    refine' Jkq ?O7 ?O8
    case O7=>exact (Jl4 (i:=2) Scz.nd rfl (ye rfl) (Jkv T.Ja2 Sef hr (by decide) (So (Jkv T.Jx Se3 hr (by decide) (So (Jkv T.Jw Sf0 hr (by decide) (So (pv 0) (So (pv 1) Ss))) Ss)) Ss)))
    case O8=>
    refine' Jkq ?O9 ?Oa
    case O9=>exact (Jl4 (i:=3) Scz.nd rfl (ye rfl) (Jkv T.Ja3 Sf3 hr (by decide) (So (pv 2) Ss)))
    case Oa=>
    refine' Jkq ?Ob ?Oc
    case Ob=>
     refine' Jms ?Od ?Oe ?Of ?Og ?Oh
     case Od=>exact PassesOwn.never
     case Oe=>exact rfl
     case Of=>exact (Jol (by rfl) T.Jay (So Sz Ss))
     case Og=>exact (Jl3 (i:=4) Scz.nd rfl (ye rfl))
     case Oh=>
     refine' Jkq ?Oi ?Oj
     case Oi=>exact (Jl4 (i:=5) Scz.nd rfl (ye rfl) (Jkv T.Jv Sek.calm hr (by decide) (So (pv 3) Ss)))
     case Oj=>
     refine' Jkr ?Ok
     case Ok=>
     refine' Jld ?Ol ?Om ?On
     case Ol=>exact (PW.pt (Jp1 (Jlg (Jlh (Jkv T.Ja9 Sg5 hr (by decide) (So (pv 5) (So (pv 2) Ss))))) (Jnn (Jle Jso (Jkv T.Jm Sd2 hr (by decide) (So (pv 5) Ss)) (pv 3) (Jla _)))))
     case Om=>
      refine' Jkr ?Oo
      case Oo=>exact (Jkz Jml)
     case On=>exact Jl1
    case Oc=>
    refine' Jkq ?Op ?Oq
    case Op=>exact (Jl4 (i:=6) Scz.nd rfl (ye rfl) (Jkv T.Ja5 Sf2 hr (by decide) (So (pv 2) Ss)))
    case Oq=>
    refine' Jkr ?Or
    case Or=>
    refine' Jld ?Os ?Ot ?Ou
    case Os=>exact (PW.pt (Jp1 (Jle Jso (Jkv T.Jm Sd2 hr (by decide) (So (pv 6) Ss)) (pv 3) (Jla _)) (Jnn (Jle (Juw hu64) (Jo3 (pv 6) T.Jdy T.Je2 Sbw (hr.mono (by decide)) T.Jcr.bd .nil Jlk) (Jo3 (pv 5) T.Jdy T.Je2 Sbw (hr.mono (by decide)) T.Jcr.bd .nil Jlk) (Jla _)))))
    case Ot=>
     refine' Jkr ?Ov
     case Ov=>exact (Jkz Jml)
    case Ou=>exact Jl1
   case O1=>
   refine' Jkr ?Ow
   case Ow=>exact (Jkz Jml)
  refine ⟨_,rfl,x,_,rfl,.inl hS,_,_,rfl,_,_,rfl,_,rfl,?_,?_,?_⟩
  ·split <;> split <;> omega
  ·rw [yf]
   split <;> split <;> omega
  refine Joe (lo:=0) (λi σ H'=>(∃o1 o2 o3 o4 o5 o6,σ= [some (.ref x),o1,o2,o3,o4,o5,o6])/\Sn H H') ⟨⟨_,_,_,_,_,_,rfl⟩,Sn.refl _⟩ ?_ ?_
  ·rintro i σ H0 _ ⟨⟨o1,o2,o3,o4,o5,o6,rfl⟩,s0⟩
   refine ⟨_,rfl,_,rfl,x,ns,0+i,by simp,s0.seq hS,λcl=>⟨cl,rfl,λp H1 hp s1 st=>?_⟩⟩
   have hp0:H p=none:=by
    cases hc:H p with
    |none=>rfl
    |some u=>rw [s0 _ _ hc] at hp;cases hp
   have done:∀{H':Hp},But p H1 H'->Sn H H':=λb c o z=>b.1 _ _ (Jkw z hp0) (s1 _ _ (s0 _ _ z))
   refine ⟨p,rfl,st,λR c g Bs Ts H2 b2 tl rg=>?_⟩
   have s2:=done b2
   have b16:=rg.len
   refine ⟨_,rfl,p,R,c,g,Bs,Ts,rfl,tl,rg,λH3 s3=>?_⟩
   have tl3:=tl.same s3
   have s03:=s2.trans s3
   refine ⟨2,rfl,by decide,by decide,?_⟩
   refine Joe (lo:=0) (λj σ H'=>∃(o4 o5:Option V),σ= [some (.ref x),some (.int (0+(i:Int))),some (.ref R),some (.str (rtx c g Bs Ts)),o4,o5,o6]/\Sn H3 H'/\(1<=j->∃y,o5=some (.ref y)/\Se6 a H' y c g Bs Ts)) ⟨_,_,rfl,Sn.refl _,λh=>absurd h (by decide)⟩ ?_ ?_
   ·rintro j σ H4 _ ⟨o4,o5,rfl,s4,_⟩
    refine ⟨_,rfl,c,g,Bs,Ts,rfl,tb.same (s03.trans s4),rg,λy H5 s5 rv=>?_⟩
    have s45:=s4.trans s5
    refine ⟨_,rfl,_,rfl,p,y,R,c,g,Bs,Ts,rfl,rv,tl3.same s45,rg,λH6 s6=>⟨_,rfl,Jlp ?_⟩⟩
    refine ⟨_,rfl,y,c,g,Bs,Ts,rfl,rv.same s6,rg,λH7 s7=>?_⟩
    exact ⟨_,rfl,rfl,_,rfl,ifF (by simp) ⟨_,_,rfl,(s45.trans s6).trans s7,λ_=>⟨y,rfl,(rv.same s6).same s7⟩⟩⟩
   ·rintro σ H4 ⟨o4,o5,rfl,s4,ex⟩
    obtain ⟨y,rfl,rv⟩:=ex (by decide)
    refine ⟨_,rfl,p,R,c,g,Bs,Ts,rfl,tl3.same s4,rg,λz H5 s5 rz=>?_⟩
    refine ⟨_,rfl,z,c,g,Bs,Ts,rfl,rz,rg,λH6 s6=>⟨_,rfl,rfl,_,rfl,ifF (by simp) ?_⟩⟩
    obtain ⟨dz,_,_,_,_,hz,_⟩:=rz.same s6
    refine ⟨_,rfl,z,dz,_,rfl,hz,by rfl,z,Bs,Ts,c,g,rfl,rz.same s6,b16.2,λt1 u1 H7 s7 ht1 hu1=>?_⟩
    have rv7:=rv.same ((s5.trans s6).trans s7)
    obtain ⟨dy,_,_,_,_,hy,_⟩:=id rv7
    refine ⟨_,rfl,y,dy,_,rfl,hy,by rfl,y,Bs,Ts,c,g,rfl,rv7,b16.2,λt2 u2 H8 s8 ht2 hu2=>?_⟩
    refine ⟨_,_,.tup (SqT.of (s8 _ _ ht1)) (.cons (.tup (SqT.of (s8 _ _ hu1)) (Jmc _)) (.cons (.int _) .nil)),.tup (SqT.of ht2) (.cons (.tup (SqT.of hu2) (Jmc _)) (.cons (.int _) .nil)),Jsu _ _,Jsu _ _,_,rfl,?_⟩
    rw [if_pos rfl,Yn]
    exact Jlp ⟨⟨_,_,_,_,_,_,rfl⟩,(((s03.trans s4).trans s5).trans s6).trans (s7.trans s8)⟩
  ·rintro σ H' _
   exact k _
end
end K06
namespace PySem.W.Fast
def tw3587424896528736835:=()
def tw9911621474157159358:=()
def tw15350018279804070813:=()
def tw1130587124213319604:=()
def tw9920711225258316456:=()
def tw8200737555911151567:=()
def tw13709115183219974752:=()
def tw9214433693642749573:=()
def tw6680860076172620259:=()
def tw6385880947374804287:=()
def tw6409408883552958030:=()
def tw17314778860799014034:=()
def tw9472753560419608561:=()
def tw13439230481921131455:=()
def tw9238149603260581263:=()
def tw16961229805874516252:=()
def tw13316558432629025807:=()
def tw192324477937998564:=()
def tw11955587218875978241:=()
def tw18357072490203665369:=()
def tw4749305262611719939:=()
def tw8380498073037919896:=()
def tw1638315392613034045:=()
def tw3492161738486428235:=()
def tw1830148180202272673:=()
def tw9244788362294923838:=()
def tw13287179538237949472:=()
def tw2104164393131315367:=()
def tw3617467707170574161:=()
def tw10859905010667227539:=()
def tw14225323082425975812:=()
def tw5790590721609494475:=()
def tw11423345864476324584:=()
def tw17787043171072121008:=()
def tw5265862265639593746:=()
def tw14748992097405143975:=()
def tw4736159391090631360:=()
def tw250990545816867446:=()
def tw7946199450245317693:=()
def tw1206981705456594172:=()
def tw13077543968058478212:=()
def tw16888745860235048086:=()
def tw13262543776527274287:=()
def tw14602472039119050308:=()
def tw8988730439218236047:=()
def tw6045835665672674353:=()
def tw11183724781823649151:=()
def tw2244058081774127935:=()
def tw9945947210962869400:=()
def tw16302170870182779076:=()
def tw447433952078782601:=()
def tw7607493813140358339:=()
def tw3766230086145323469:=()
def tw10403958353214343884:=()
def tw3968139236115991100:=()
def tw7050487459148629741:=()
def tw4173001545097191188:=()
def tw902198785532177666:=()
def tw578573072599574737:=()
def tw12991335554239289501:=()
def tw13572743949930893404:=()
def tw340824194589829535:=()
def tw7250094854827962963:=()
def tw13936170702867868549:=()
def tw7686014471931217795:=()
def tw5936797100376297468:=()
def tw5849597652753997789:=()
def tw8610199122525692198:=()
def tw10473047358225042126:=()
def tw6867924307183542113:=()
def tw6858611822130356083:=()
def tw12390220070242222783:=()
def tw2234384676498283860:=()
def tw3974478917931046076:=()
def tw13719636753494445312:=()
def tw72683967453121305:=()
def tw13471281090075816772:=()
def tw10162984727690245767:=()
def tw18381790342236747384:=()
def tw734089902475141914:=()
def tw5751495563755501027:=()
def tw7791896177955702716:=()
def tw14238857856423053270:=()
def tw15077457764287771328:=()
def tw1356031380146552244:=()
def tw6200592438817597097:=()
def tw9120398808907707329:=()
def tw17134092512383998972:=()
def tw5491180277063995310:=()
def tw9527860662706431409:=()
def tw12978646384449058875:=()
def tw1032916833749085693:=()
def tw3348141029084602579:=()
def tw17121643184908424487:=()
def tw5111666533617622138:=()
def tw7044413586266557724:=()
def tw12885872229483708462:=()
def tw7941676491833768508:=()
def tw5736259403501652874:=()
def tw1305262164952402686:=()
def tw18397044965514973810:=()
def tw14313965752604303612:=()
def tw13847126950488717017:=()
def tw10993705312942302920:=()
def tw1856875223943455314:=()
def tw12851098627643407150:=()
def tw2972713339211893493:=()
def tw12086921972246724092:=()
def tw11088970425541686830:=()
def tw1551753027329477682:=()
def tw2485684137963830209:=()
def tw15286616736469483517:=()
def tw3639049347882825390:=()
def tw3306517310848996658:=()
def tw11084047022265065874:=()
def tw8509335722695279232:=()
def tw8121303662285673527:=()
def tw6651982023282292507:=()
def tw2306468308406449232:=()
def tw7135881445863817613:=()
def tw8291640766628851017:=()
def tw11513669489497742287:=()
def tw15913984802642337951:=()
def tw3374337546039773039:=()
def tw17008287050124415639:=()
def tw911381264322374616:=()
def tw18308037199034578564:=()
def tw16045016488357680947:=()
def tw2465042565685702566:=()
def tw4506302216820737778:=()
def tw80277839064254086:=()
def tw4817827996508636489:=()
def tw17232211303327352076:=()
def tw4205471158408371290:=()
def tw16901192528214517642:=()
def tw8358782682034250961:=()
def tw7309958450923420038:=()
def tw5606473945094559753:=()
def tw12976698019360266223:=()
def tw12430147566460929680:=()
def tw3135011366904420797:=()
def tw1897835630412761895:=()
def tw9413314869610705189:=()
def tw13741562578520540921:=()
def tw9562303468354493872:=()
def tw15434049663947452348:=()
def tw6697021033179842405:=()
def tw3052993370917833551:=()
def tw15857516104841517684:=()
def tw11889830591999136291:=()
def tw2742240625739410220:=()
def tw15615488261577791264:=()
def tw9611161761787624708:=()
def tw11300363113757382761:=()
def tw11554288335103263299:=()
def tw17613856176435520607:=()
def tw11616095817179573903:=()
def tw1540796341956858331:=()
def tw12351418817097017733:=()
def tw13496655260460335381:=()
def tw17564605696557313072:=()
def tw451408607542072193:=()
def tw2880242497352058544:=()
def tw13896280005554286895:=()
def tw2856609951582827162:=()
def tw581488940164636494:=()
def tw10797971476262568825:=()
def tw18355726472186516021:=()
def tw12773996925524305854:=()
def tw7070914524567253126:=()
def tw4830242565938164961:=()
def tw581064408594957966:=()
def tw9001086159661458295:=()
def tw15300215793330259343:=()
def tw17501743013615865530:=()
def tw7727884032280974231:=()
def tw2297387049083839538:=()
def tw17600103372976134417:=()
def tw6205639291199036836:=()
def tw12988815492628031361:=()
def tw3909339059954486063:=()
def tw6410281320348558701:=()
def tw14297105396946266478:=()
def tw6325042252503660934:=()
def tw7312607609655411311:=()
def tw5308165722796405786:=()
def tw3691771378520940918:=()
def tw1628140479739981536:=()
def tw6957514618394209826:=()
def tw3994068562538249004:=()
def tw3896958383118739163:=()
def tw4654551539243457562:=()
def tw14065496442795161632:=()
def tw10292750899402652848:=()
def tw12180632921730458393:=()
def tw17920160810769178627:=()
def tw4910662585400493203:=()
def tw1126555091165426239:=()
def tw10052614526515922251:=()
def tw5222744589607779581:=()
def tw5389322099012252971:=()
def tw3339479420459027645:=()
def tw15237483848610932318:=()
def tw5649334274891785410:=()
def tw18232945773518519629:=()
def tw5242188649436766874:=()
def tw15049275733292765142:=()
def tw17230746081963766665:=()
def tw18388439017797852703:=()
def tw15806913577356958470:=()
def tw15630032014894421133:=()
def tw9265540891144642679:=()
def tw3553488560922237143:=()
def tw4671323492876000644:=()
def tw6940498400978137163:=()
def tw5117350743802603954:=()
def tw6418633118654779040:=()
def tw8277092659191731398:=()
def tw15075258553927329213:=()
def tw12270119230198304771:=()
def tw12072946849132860484:=()
def tw16880465015248371870:=()
def tw17239437655033711587:=()
def tw16457124535394895294:=()
def tw17098429740770513727:=()
def tw12711166760029860547:=()
def tw9953677040658913190:=()
def tw18235616833250167802:=()
def tw5171752106152730655:=()
def tw5120379944724128662:=()
def tw7714915844875476983:=()
def tw348751610496511740:=()
def tw18207277020474739198:=()
def tw3163854720901172323:=()
def tw12042024422532322035:=()
def tw7419187548607124980:=()
def tw10056050890964087964:=()
def tw1915841913215196704:=()
def tw10305589144765578912:=()
def tw15751574396545108321:=()
def tw10029442475389688003:=()
def tw5092297795214697667:=()
def tw15598190315530383971:=()
def tw8508231906458106184:=()
def tw10514887960547120776:=()
def tw1537041866803404456:=()
def tw79175145399384521:=()
def tw14426642566148727980:=()
def tw13069065567697006380:=()
def tw17701405473451185709:=()
def tw506691397563480878:=()
def tw4241654819362002512:=()
def tw17151772522826080944:=()
def tw3170538072537529104:=()
def tw9689821011135857489:=()
def tw11253483265028758739:=()
def tw15099592202043796500:=()
def tw9134691507607194228:=()
def tw9893674753090004693:=()
def tw10394458135845704088:=()
def tw14374664759567598008:=()
def tw9559122877617053368:=()
def tw18382907089760240923:=()
def tw5619297587421530140:=()
def tw15863462013596804132:=()
def tw15783960756779094148:=()
def tw11346417534873964804:=()
def tw4455764266582675398:=()
def tw12760944055847794120:=()
def tw12647437956354377609:=()
def tw12742504750634342794:=()
def tw3409183609929927981:=()
def tw11708026636478262702:=()
def tw17826407801431353839:=()
def tw1333102484454954129:=()
def tw5901128312284387954:=()
def tw9360320343683077653:=()
def tw6841871560708687445:=()
def tw17724687566401038871:=()
def tw16759603922227412120:=()
def tw2088121024801156056:=()
def tw17160683130919344826:=()
def tw673515437773927162:=()
def tw6807235361447703386:=()
def tw7764332824331729788:=()
def tw446373344233327997:=()
def tw8458593949035926369:=()
def tw10696641057563583011:=()
def tw13367206478343326627:=()
def tw17173029615664561221:=()
def tw18126616011913873098:=()
def tw759228192987181487:=()
def tw10240244944919954198:=()
def tw7827670737988448607:=()
def tw108635401000871808:=()
def tw8854958324770508743:=()
def tw8788907757942111145:=()
def tw18055917339454511927:=()
def tw11575235879480731672:=()
def tw2422119881082457979:=()
def tw7184612982825913607:=()
def tw6162672094350402404:=()
def tw6000868542817624521:=()
def tw9958379009482113:=()
def tw18100735274533552971:=()
def tw2555153761331028353:=()
def tw10022992143058870887:=()
def tw12005316960007376136:=()
def tw14041653597578810414:=()
def tw13200986832149808271:=()
def tw17567828258370719375:=()
def tw12921884703199280720:=()
def tw2080340352315544245:=()
def tw11641950434146254237:=()
def tw17770668773362157181:=()
def tw6364566026017391453:=()
def tw8781334700463164288:=()
def tw9501791528986767713:=()
def tw84937667451112450:=()
def tw11715390293236573346:=()
def tw1099144520684810246:=()
def tw11541162326752823241:=()
def tw13489787637292295663:=()
def tw17679204592586914643:=()
def tw3958537921530358743:=()
def tw2476265507455755225:=()
def tw3907569274634475706:=()
def tw6144623183731509213:=()
def tw17964324581112286195:=()
def tw9280698231405823136:=()
def tw6500185259375224837:=()
def tw5470128149322090181:=()
def tw13367715289149023559:=()
def tw2056614444072606032:=()
def tw955089988353814416:=()
def tw14601615403649325521:=()
def tw3000621771548190417:=()
def tw2086231551689165206:=()
def tw10654807488796281540:=()
def tw2417182542256044890:=()
def tw7758706782701891847:=()
def tw11205955262462712214:=()
def tw12257921550844493410:=()
def tw10200154763786348258:=()
def tw16263646464672898148:=()
def tw7961677144077727845:=()
def tw9135075991565412165:=()
def tw13654950381185054923:=()
def tw6964426298949347884:=()
def tw12641979286378182348:=()
def tw10974971677403639406:=()
def tw9358128213127806289:=()
def tw8263355690266305041:=()
def tw13572586374809100081:=()
def tw13655300318999364691:=()
def tw11003497285787330644:=()
def tw5098653123697899734:=()
def tw9088159648841944090:=()
def tw13270276419233684059:=()
def tw11855084297741894844:=()
def tw6462230246248263868:=()
def tw11920019215308679804:=()
def tw3929220778428061039:=()
def tw13120214912621338464:=()
def tw6615162666015525642:=()
def tw6710575161493413296:=()
def tw11529867368080826353:=()
def tw13171194856847170837:=()
def tw2297783605665241366:=()
def tw5899388560376334488:=()
def tw12799680074491428827:=()
def tw4528155282994990942:=()
def tw9707859638923705676:=()
def tw8470789542688756464:=()
def tw12368438054601339120:=()
def tw1918783639809721091:=()
def tw6003158612730436695:=()
def tw15746623045034947453:=()
def tw12984733817506563400:=()
def tw13814406188662285920:=()
def tw4502851329041634727:=()
def tw12699206102967826761:=()
def tw13871846295383788190:=()
def tw7335037828258205541:=()
def tw14434203086606907910:=()
def tw475670816406251052:=()
def tw15081232750695239644:=()
def tw10647528337072649501:=()
def tw11739191172987933512:=()
def tw9028137358959682675:=()
def tw11910963509289729491:=()
def tw624569930971770266:=()
def tw678850636475706300:=()
def tw9917296417779570803:=()
def tw5402924951581848055:=()
def tw4941920397660300827:=()
def tw14924506805336358137:=()
def tw15806911493669566182:=()
def tw13531052822673694338:=()
def tw14754122825046285778:=()
def tw4797024164868292025:=()
def tw15378455963223905760:=()
def tw3087087000476128129:=()
def tw11229769858079179745:=()
def tw2116760725768878053:=()
def tw687143516155947334:=()
def tw13197950090495217062:=()
def tw4203123200557570760:=()
def tw10469081407069163304:=()
def tw13759216035973243113:=()
def tw12636257694006939754:=()
def tw15576992076899876300:=()
def tw5631205413924857101:=()
def tw12674608760160693395:=()
def tw4427963464822297716:=()
def tw16409374361274165140:=()
def tw16533391663140910807:=()
def tw16176184934924237247:=()
def tw9113744074822966631:=()
def tw13201632145870051598:=()
def tw14223426408391176655:=()
def tw7379508040091693394:=()
def tw16434444953606177845:=()
def tw13068000048841120763:=()
def tw17066518327551186909:=()
def tw15915954957208235231:=()
def tw7846216664390102770:=()
def tw2646980087252069443:=()
def tw8511281937292771:=()
def tw12565524579041876869:=()
def tw1494668460911429546:=()
def tw12070009823747661802:=()
def tw8752009402658958060:=()
def tw175714919581542351:=()
def tw3305324018777834224:=()
def tw11125389913846781138:=()
def tw9574391860268649749:=()
def tw15578769132159565109:=()
def tw3618746585438630325:=()
def tw15270686978785782136:=()
def tw9886982571416689180:=()
def tw7582476695584427934:=()
def tw7356577393603731358:=()
def tw1901059777944504639:=()
def tw16030685550685867327:=()
def tw9032409020355045028:=()
def tw532837430731237253:=()
def tw14894678351965640614:=()
def tw13648919291498588521:=()
def tw7276454467462462409:=()
def tw11164344193694547245:=()
def tw328175361206417838:=()
def tw924161412506116623:=()
def tw11726155618129407187:=()
def tw7858331278841443575:=()
def tw17989114506521934585:=()
def tw12610846698387462920:=()
def tw4877471118844169482:=()
def tw1903931770227022417:=()
def tw17105909746698698869:=()
def tw4092953137043025589:=()
def tw7175769239337564379:=()
def tw11825995299920279683:=()
def tw18013737579221955278:=()
def tw6916902540615343822:=()
def tw17412619758459880566:=()
def tw6900585933486585531:=()
def tw16681156629459435389:=()
def tw15873771825997270594:=()
def tw10389568184676809410:=()
def tw11774242099088019172:=()
def tw9318409782080181989:=()
def tw2448767849781245479:=()
def tw7281620820489204904:=()
def tw16977697638049161226:=()
def tw6246472438288390635:=()
def tw15157418147022876300:=()
def tw17737663134342858190:=()
def tw16121992987173071631:=()
def tw3338628351937412657:=()
def tw896919112355018651:=()
end PySem.W.Fast
open PySem PySem.W PyProof.Rows
set_option maxRecDepth 100000 in
set_option maxHeartbeats 0 in
theorem PySem.Challenge.cw_weirwatch_k06_whole_rivers_as_texts_holds : PySem.Challenge.rw_weirwatch_k06_whole_rivers_as_texts.Holds := by
 w_on;o_law;k_head;(case hw=>w_witness2)
 k_fill
 refine L2.walk_ofM (l:=PySem.Challenge.rw_weirwatch_k06_whole_rivers_as_texts) (n:=63) (k:=12) (x:="_law_script") (CX:=L2.CX0) rfl (by decide) rfl ⟨rfl,by decide,by decide⟩ (λw h Y=>PySem.W.km_in_of Y) (λw h Y=>PySem.W.km_tabs_of Y) ?K ?F ?C
 case K=>intro w;kernel_rfl
 case F=>
  intro w mg fa h KX G TB hmg
  have T:∃a:K06.Ad,(∀(s:S7) (v:S6),BindsTo s a.d_law ⟨[v],[]⟩ [("_law_script",v)])/\K06.Tx (L2.KOf KX) mg a/\(∀P∈ [a.Jki,a.Jkk,a.Jkm],h.get? P=some (PySem.W.tabObj #[])):=by
   have hh:=λaa ab ac ad ae af ag ah ai aj ak al am an ao ap aq ar au av aw ax ay az ba bb bc bd be bf bg bh bi bj bk bl bm bn bo bp bq br bs bt bu bv bw bx bz ca cb cc cd ce cf cg ch ci cj ck cl cm cn co cp cq cr cs ct cu cv cw cx cy cz da db dc dd de df dg dh di dj dk dl dm dn dp dq dr ds dt du dv dw dx dy dz ea eb ec ed ee ef eg eh ei ej ek el em en eo ep eq er es et eu ev ew ex ey ez fb fc fd fe ff fg fh fi fj fk fl fm fn fo fp fq fr fs ft fu fv fw fx fy fz ga gb gc gd ge gf gg gh gi gj gk gl gm gn go gp gq gr gs gt gu gv gw gx gy gz ha hb hc hd he hf=>@K06.Tx.mk (L2.KOf KX) mg ⟨aa,ab,ac,ad,ae,af,ag,ah,ai,aj,ak,al,am,an,ao,ap,aq,ar,au,av,aw,ax,ay,az,ba,bb,bc,bd,be,bf,bg,bh,bi,bj,bk,bl,bm,bn,bo,bp,bq,br,bs,bt,bu,bv,bw,bx,bz,ca,cb,cc,cd,ce,cf,cg,ch,ci,cj,ck,cl,cm,cn,co,cp,cq,cr,cs,ct,cu,cv,cw,cx,cy,cz,da,db,dc,dd,de,df,dg,dh,di,dj,dk,dl,dm,dn,dp,dq,dr,ds,dt,du,dv,dw,dx,dy,dz,ea,eb,ec,ed,ee,ef,eg,eh,ei,ej,ek,el,em,en,eo,ep,eq,er,es,et,eu,ev,ew,ex,ey,ez,fb,fc,fd,fe,ff,fg,fh,fi,fj,fk,fl,fm,fn,fo,fp,fq,fr,fs,ft,fu,fv,fw,fx,fy,fz,ga,gb,gc,gd,ge,gf,gg,gh,gi,gj,gk,gl,gm,gn,go,gp,gq,gr,gs,gt,gu,gv,gw,gx,gy,gz,ha,hb,hc,hd,he,hf⟩
   dsimp only [L2.KOf,L2.NoAttr] at hh⊢
   apply Exists.intro
   refine' ⟨?bb,?tx,?tb⟩
   case tx=>
    apply hh
    iterate 40 (refine' L2.ft_mk KX G ?a ?b ?c ?d ?e;(case a=>k_is);(case b=>k_is);(case c=>k_is);(case d=>k_is);(case e=>first|(intro _ _ _ _ _ _ u h;obtain ⟨_,rfl⟩:=L2.lv1 u h;rfl)|(intro _ _ _ _ _ _ u h;obtain ⟨_,_,rfl⟩:=L2.lv2 u h;rfl)|(intro _ _ _ _ _ _ u h;obtain ⟨_,_,_,rfl⟩:=L2.lv3 u h;rfl)|(intro _ _ _ _ _ _ u h;obtain ⟨_,_,_,_,rfl⟩:=L2.lv4 u h;rfl)|(intro _ _ _ _ _ _ u h;obtain ⟨_,_,_,_,_,rfl⟩:=L2.lv5 u h;rfl)|(intro _ _ _ _ _ _ u h;obtain ⟨_,_,_,_,_,_,_,rfl⟩:=L2.lv7 u h;rfl)))
    iterate 14 (refine' PySem.W.mg_of KX G ?a;(case a=>k_is))
    refine' L2.tq_mk ?a ?b ?c;(case a=>k_is);(case b=>rfl);(case c=>kernel_rfl)
    iterate 14 (refine' PySem.W.mg_none_of KX G ?a;(case a=>k_is))
    iterate 17 (refine' PySem.W.mg_of KX G ?a;(case a=>k_is))
    iterate 33 (k_is)
    iterate 33 (refine' L2.fm_mk ?a ?b ?c ?d;(case a=>k_is);(case b=>k_is);(case c=>k_is);(case d=>first|(intro _ _ _ _ _ _ u h;obtain ⟨_,rfl⟩:=L2.lv1 u h;rfl)|(intro _ _ _ _ _ _ u h;obtain ⟨_,_,rfl⟩:=L2.lv2 u h;rfl)|(intro _ _ _ _ _ _ u h;obtain ⟨_,_,_,rfl⟩:=L2.lv3 u h;rfl)|(intro _ _ _ _ _ _ u h;obtain ⟨_,_,_,_,rfl⟩:=L2.lv4 u h;rfl)|(intro _ _ _ _ _ _ u h;obtain ⟨_,_,_,_,_,rfl⟩:=L2.lv5 u h;rfl)|(intro _ _ _ _ _ _ u h;obtain ⟨_,_,_,_,_,_,_,rfl⟩:=L2.lv7 u h;rfl)))
    iterate 8 (refine' L2.xc_mk ?a ?b ?c;(case a=>k_is);(case b=>kernel_rfl);(case c=>kernel_rfl))
    iterate 40 (constructor <;> k_is)
    iterate 23 (k_is)
    iterate 3 (refine' L2.nst_mk ?a ?b ?c ?d ?e;(case a=>k_is);(case b=>rfl);(case c=>k_is);(case d=>rfl);(case e=>rfl))
    decide
    iterate 21 (kernel_rfl)
   case tb=>exact ybk.mpr ⟨TB _ (by decide),ybk.mpr ⟨TB _ (by decide),ybk.mpr ⟨TB _ (by decide),λ_ z=>nomatch z⟩⟩⟩
   case bb=>exact λs v=>.of_eq rfl
  obtain ⟨a,b,T,tb⟩:=T
  have e:=hmg.symm.trans T.f_law.mgx
  cases e
  exact ⟨a.d_law,K06.spLaw (L2.KOf KX) a,[(a.Jki,K06.lb_LineReader_take_of),(a.Jkk,K06.lb_LineReader_take_new_name),(a.Jkm,K06.lb_LineReader_take_number)],b,ybk.mpr ⟨L2.tab_km T.Jey KX (tb _ (.head _)),ybk.mpr ⟨L2.tab_km T.Jez KX (tb _ (.tail _ (.head _))),ybk.mpr ⟨L2.tab_km T.Jf0 KX (tb _ (.tail _ (.tail _ (.head _)))),λ_ z=>nomatch z⟩⟩⟩,T.tnd,λbase kb nb B=>K06.ok_law T B,λH x ns hl ht hS=>⟨x,ns,rfl,hS,hl,⟨ht _ (.head _),ht _ (.tail _ (.head _)),ht _ (.tail _ (.tail _ (.head _)))⟩,λ_=>rfl⟩⟩
 case C=>exact λ_ _ _ _ z=>z
#print axioms PySem.Challenge.cw_weirwatch_k06_whole_rivers_as_texts_holds
