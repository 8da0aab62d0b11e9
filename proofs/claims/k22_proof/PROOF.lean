import PyProof.Rows.All
import Wide.All
import OpenK.AllK
import Wide.FinOn
import Lean
import PyProof.EqAt
import PyProof.EqKinds
import PyProof.TupleCall
import PySem.Challenge.RW_weirwatch_k22_choices_and_rains
open PySem renaming Addr → S1, Value → S2, Shared → S3, wpAny_bind → S4, wpAny_pure → S5, sizeLine → S6, Program → S7, FuncData → S8, World → S9, Around → Sa, Heap → Sb, wpAny → Sc
open PySem.W renaming Frag → Sd, kitOne → Se, findIn → Sf, mroIn → Sg, instObj → Sh
open List renaming length_map → ye, getElem?_eq_getElem → yh, getElem?_eq_some_iff → yi, getElem?_map → yj, mem_map → yo, mem_cons → yp, size_toArray → yq, mem_of_getElem? → yr, take_add_one → yy, mem_cons_of_mem → yaa, length_append → yab, length_take → yad, take_of_length_le → yae, length_cons → yaf, map_append → yag, mem_cons_self → yah, map_cons → yak, mem_singleton → yan, map_map → yaq, getElem_mem → yat, range → yav, not_mem_nil → yaw, replicate → yax, length_range → yaz, mem_append → yba, append_nil → ybb, mem_map_of_mem → ybc, mem_append_right → ybg, nodup_cons → ybh, all_eq_true → ybi, getElem?_of_mem → ybk, take_length → ybl, getElem?_range → ybm, lookup → ybn, mem_filter → ybp, length_drop → ybs, length_set → ybt, lookup_cons → ybu, forIn_cons → ybv, getD_eq_getElem?_getD → ybw, foldl_append → ybx, mem_range → ycc, flatMap_cons → ycg, length_replicate → ych, getElem?_append → yck, mem_flatMap → ycp, mem_append_left → ycq, mem_of_mem_take → ycr, getElem?_set → ycs, map_congr_left → yct, flatMap_append → ycu, getElem?_eq_none → ycv, mem_or_eq_of_mem_set → ycw, eq_nil_of_length_eq_zero → ycx
open Or renaming inl → yf, inr → yal
open Nat renaming le_refl → yg, ne_of_lt → yz, le_trans → yac, zero_le → yai, lt_of_lt_of_le → yao, lt_irrefl → ybe, not_lt → ybj, ne_of_gt → ybr, min_eq_left → ycb, le_of_lt → ycd, lt_succ_self → yce, lt_succ_of_lt → ycj, mul_le_mul → yco
open PySem.Heap renaming lt_size → yk, get?_push_of_some → ym, get?_push_size → yx, size_push → yas, SameBut → ybf, get?_update_other → ybo, get?_update_self → yci
open Sum renaming inl → yn
open Option renaming some → yt, map_eq_some_iff → yay
open Ne renaming symm → yw
open Bool renaming false_ne_true → yaj, and_eq_true → yap, not_true → yby, false_eq_true → ybz
open And renaming right → yam, left → yar
open Int renaming toNat_natCast → yau, le_trans → ybd, eq_ofNat_of_zero_le → yca, emod_nonneg → ycl, emod_lt_of_pos → ycm, mul_le_mul → ycn
open Array renaming length_toList → ybq, getElem?_eq_some_iff → ycf
set_option Elab.async false
set_option linter.all false
set_option maxRecDepth 100000
namespace L2
open PySem PySem.Spec PyProof.Rows
abbrev Key:=Sum Int Str
def Jtc:Key->S2->Bool
 | .inl k,v=>Value.isInt k v
 | .inr x,v=>Value.isStrOf x v
def Swi (w:S9):Key->Int
 | .inl k=>hashInt k
 | .inr x=>hashStr w x
theorem Jnc:∀{k} {v},Jtc k v=true->(∃i t,k=yn i/\v=Value.int i t)\/(∃x t,k=Sum.inr x/\v=Value.str x t)
 | .inl i,v,h=>by
  obtain ⟨t,e⟩:=Value.isInt_shape h
  exact .inl ⟨i,t,rfl,e⟩
 | .inr x,v,h=>by
  obtain ⟨t,e⟩:=Value.isStrOf_shape h
  exact .inr ⟨x,t,rfl,e⟩
theorem Yaa (i) (t):Jtc (.inl i) (.int i t)=true:=by simp [Jtc,Value.isInt]
theorem Yab (x) (t):Jtc (.inr x) (.str x t)=true:=by simp [Jtc,Value.isStrOf]
theorem Smp (a b):decide ((yn a:Key)=yn b)=(a==b):=by grind
theorem Sms (a b):decide ((Sum.inr a:Key)=Sum.inr b)=decide (a=b):=by simp
theorem Smq (a) (b):decide ((yn a:Key)=Sum.inr b)=false:=rfl
theorem Smr (a) (b):decide ((Sum.inr a:Key)=yn b)=false:=rfl
def Jmo (prog:S7) (w:S9):PySem.KeyKind prog w Key where
 is:=Jtc
 hash:=Swi w
 inj:=λv a b ha hb=>by
  rcases Jnc ha with ⟨i,t,rfl,rfl⟩|⟨x,t,rfl,rfl⟩
  ·rcases Jnc hb with ⟨j,u,rfl,e⟩|⟨y,u,rfl,e⟩
   ·injection e with e1 _;rw [e1]
   ·exact nomatch e
  ·rcases Jnc hb with ⟨j,u,rfl,e⟩|⟨y,u,rfl,e⟩
   ·exact nomatch e
   ·injection e with e1 _;rw [e1]
 byValue:=λk v h=>by
  rcases Jnc h with ⟨i,t,rfl,rfl⟩|⟨x,t,rfl,rfl⟩ <;> rfl
 pyHash:=λhv h=>by
  rcases Jnc hv with ⟨i,t,rfl,rfl⟩|⟨x,t,rfl,rfl⟩
  ·exact wpAny_pyHash_int h
  ·exact wpAny_pyHash_str h
 eqBool:=λhu hv h=>by
  rcases Jnc hu with ⟨i,t,rfl,rfl⟩|⟨x,t,rfl,rfl⟩
  ·rcases Jnc hv with ⟨j,u,rfl,rfl⟩|⟨y,u,rfl,rfl⟩
   ·rw [Smp] at h;exact wpAny_eqBool_int h
   ·rw [Smq] at h;exact SeqAt.EqAt.int_str i t y u _ _ _ _ h
  ·rcases Jnc hv with ⟨j,u,rfl,rfl⟩|⟨y,u,rfl,rfl⟩
   ·rw [Smr] at h;exact SeqAt.EqAt.str_int x t j u _ _ _ _ h
   ·rw [Sms] at h;exact wpAny_eqBool_str h
 «strs»:=λk x t v h=>by
  rcases Jnc h with ⟨i,u,rfl,e⟩|⟨y,u,rfl,e⟩
  ·exact nomatch e
  ·injection e with e1 _
   subst e1
   cases v <;> rfl
theorem Jzk (prog) (w) (k) (v):(Jmo prog w).is k v=Jtc k v:=rfl
theorem Jyi (prog) (w) (i) (t):(Jmo prog w).is (.inl i) (.int i t)=true:=Yaa i t
theorem Jq5 (prog) (w) (x) (t):(Jmo prog w).is (.inr x) (.str x t)=true:=Yab x t
inductive V where
 |non|bl (b:Bool)|int (i:Int)|str (x:Str)|byt (b:Array UInt8)|flt (b:UInt64)|ref (a:S1)|ty (n:String)
 deriving DecidableEq
def RelV:V->S2->Prop
 | .non,u=>u=Value.none
 | .bl b,u=>u=Value.bool b
 | .int i,u=>∃t,u=Value.int i t
 | .str x,u=>∃t,u=Value.str x t
 | .byt b,u=>∃t,u=Value.bytes b t
 | .flt b,u=>∃t,u=Value.float b t
 | .ref a,u=>u=Value.ref a
 | .ty n,u=>u=Value.type n
abbrev Sv:List V->List S2->Prop:=Paired RelV
theorem Sv.length (r:Sv xs us):xs.length=us.length:=Paired.length r
theorem Sv.get:∀{xs} {us} {i:Nat} {x},Sv xs us->xs[i]?=some x->∃u,us[i]?=some u/\RelV x u
 |_,_,_,_,.nil,e=>by simp at e
 |_,_,0,_,.cons r _,e=>by simp at e;subst e;exact ⟨_,rfl,r⟩
 |_,_,i+1,x,.cons _ t,e=>by
  obtain ⟨u,h1,h2⟩:=Sv.get t (by simpa using e)
  exact ⟨u,by simpa using h1,h2⟩
theorem Sv.set {x:V} {u:S2} (r:RelV x u):∀{xs:List V} {us:List S2} (i:Nat),Sv xs us->Sv (xs.set i x) (us.set i u)
 |_,_,_,.nil=>.nil
 |_,_,0,.cons _ t=>.cons r t
 |_,_,i+1,.cons q t=>.cons q (Sv.set r i t)
theorem Sv.append:∀{xs ys:List V} {us ws:List S2},Sv xs us->Sv ys ws->Sv (xs++ys) (us++ws)
 |_,_,_,_,.nil,s=>s
 |_,_,_,_,.cons r t,s=>.cons r (Sv.append t s)
theorem Sv.take:∀{xs:List V} {us:List S2} (n:Nat),Sv xs us->Sv (xs.take n) (us.take n)
 |_,_,0,_=>.nil
 |_,_,_+1,.nil=>.nil
 |_,_,n+1,.cons r t=>.cons r (Sv.take n t)
theorem Sv.drop:∀{xs:List V} {us:List S2} (n:Nat),Sv xs us->Sv (xs.drop n) (us.drop n)
 |_,_,0,r=>r
 |_,_,_+1,.nil=>.nil
 |_,_,n+1,.cons _ t=>Sv.drop n t
def Scb:Option V->Option S2->Prop
 |some v,some u=>RelV v u
 |none,none=>True
 |_,_=>False
def KV {κ:Type}:List (κ×V)->List (κ×S2)->Prop:=Paired λ(p:κ×V) (q:κ×S2)=>p.1=q.1/\RelV p.2 q.2
def kV:Key->V
 | .inl i=>.int i
 | .inr x=>.str x
inductive HO where
 |lst (xs:List V)
 |tup (xs:List V)
 |dK (kvs:List (Key×V))|dT (kvs:List (List Key×V))
 |set (S:Int->Bool) (n:Nat)
 |ins (C dx:S1) (fs:List (Str×V))
 |own (x:S1)
 |xd (fs:List (Str×V))
 |cod (q:Str)
 |rng (lo hi:Int)
 |frz (o:Obj) (u:HO)
 |tbl (ps:Array (Nat×Nat×Str))
 |ext (φ:Sb->Prop)
abbrev Hp:=S1->Option HO
def upd (H:Hp) (a:S1) (o:HO):Hp:=λb=>if b=a then some o else H b
theorem Sn:upd H a o a=some o:=by unfold upd;rw [if_pos rfl]
theorem Sw (h:b≠a):upd H a o b=H b:=by unfold upd;rw [if_neg h]
theorem Jne:upd (upd H a o) a u=upd H a u:=by
 funext b;unfold upd;split <;> rfl
theorem Skq {H:Hp} {a b} {o u} (h:H a=some o) (h':H b=some u) (d:o≠u):a≠b:=by grind
theorem Jm1 {H:Hp} {a b} {o} (h:H a=some o) (h':H b=none):a≠b:=by grind
def Sw6 (o:Obj):HO:=.frz o (.ext λ_=>True)
def Sho (H:Hp) (lb:Array (Nat×Nat×Str)):List S2->Prop
 | []=>True
 | .int l _:: .int c _::v::r=>(∃(n m:Nat) (q:Str) (a:S1),(n,m,q)∈lb/\l=n/\c=m/\v= .ref a/\H a=some (.cod q))/\Sho H lb r
 |_=>False
theorem Sho.mono (k:∀b q,H b=some (.cod q)->H' b=some (.cod q)) (x:Sho H lb l):Sho H' lb l:=by
 fun_induction Sho H lb l with
 |case1=>exact True.intro
 |case2 l _ c _ v r ih=>
  obtain ⟨⟨n,m,q,a,h1,h2,h3,h4,h5⟩,h6⟩:=x
  exact ⟨⟨n,m,q,a,h1,h2,h3,h4,k _ _ h5⟩,ih h6⟩
 |case3=>exact x.elim
section
variable (P:S7) (w:S9)
def Saa (H:Hp) (h:Sb) (a:S1):HO->Prop
 | .lst xs=>xs.length<=S6/\∃(its:List S2) (n:Nat),Sv xs its/\h.get? a=some {cls:=.type "list",data:=.seq its.toArray n}
 | .tup xs=>xs.length<=S6/\∃its:List S2,Sv xs its/\IsTup h a its.toArray
 | .dK kvs=>kvs.length<=S6/\(a==sysModules)=false/\∃vs,KV kvs vs/\h.DictOf (Jmo P w) a vs
 | .dT kvs=>kvs.length<=S6/\(a==sysModules)=false/\∃xs:List (List Key×S1×S2),
   Paired (λ(p:List Key×V) (q:List Key×S1×S2)=>p.1=q.1/\H q.2.1=some (.tup (p.1.map kV))/\RelV p.2 q.2.2) kvs xs/\
   ∃o es ep,h.get? a=some o/\o.ExactDict/\o.data= .dict es ep/\es.toList=xs.map (entryOfKey (tupleKind (Jmo P w)))/\(xs.map (·.1)).Nodup
 | .set S n=>h.SetOf (intKind P w) a S n
 | .ins C dx fs=>H dx=some (.own a)/\fs.length<=1000/\dx≠a/\h.get? a=some (Sh C dx)/\
   ∃mA,h.Ns1 dx mA/\(∀f,Scb (fs.lookup f) (mA f))/\PySem.Within mA (fs.map (·.1))
 | .own _=>∃o,h.get? a=some o
 | .xd fs=>∃mA,h.Ns1 a mA/\∀f,Scb (fs.lookup f) (mA f)
 | .rng lo hi=>∃t u v,h.get? a=some {cls:=.type "range",data:=.fields #[.int lo t,.int hi u,.int 1 v]}
 | .frz o u=>h.get? a=some o/\Saa H h a u
 | .tbl lb=>∃ts:Array S2,h.get? a=some ⟨.none,none,.fields ts,#[]⟩/\Sho H lb ts.toList
 | .cod q=>h.CodeRec (.ref a) q
 | .ext φ=>φ h/\(∃o,h.get? a=some o)/\∀h1 h2:Sb,φ h1->(∀o,h1.get? a=some o->h2.get? a=some o)->φ h2
def HOk (H:Hp) (h:Sb):Prop:=∀a o,H a=some o->Saa P w H h a o
end
section
variable {P:S7} {w:S9} {H H':Hp} {h h':Sb} {a:S1} {o:HO}
theorem Saa.lt (x:Saa P w H h a o):a < h.objs.size:=by
 cases o with
 |lst xs=>obtain ⟨_,_,_,_,e⟩:=x;exact yk e
 |tup xs=>obtain ⟨_,_,_,p⟩:=x;exact p.lt
 |dK kvs=>obtain ⟨_,_,_,_,o,_,_,e,_⟩:=x;exact yk e
 |dT kvs=>obtain ⟨_,_,_,_,o,_,_,e,_⟩:=x;exact yk e
 |set S n=>obtain ⟨o,_,_,_,e,_⟩:=x;exact yk e
 |ins C dx fs=>obtain ⟨_,_,_,e,_⟩:=x;exact yk e
 |own y=>obtain ⟨_,e⟩:=x;exact yk e
 |xd fs=>obtain ⟨_,⟨_,_,_,e,_⟩,_⟩:=x;exact yk e
 |rng lo hi=>obtain ⟨_,_,_,e⟩:=x;exact yk e
 |frz ob u=>obtain ⟨e,_⟩:=x;exact yk e
 |tbl lb=>obtain ⟨_,e,_⟩:=x;exact yk e
 |cod q=>obtain ⟨_,_,_,_,e1,e2,_⟩:=x;cases e1;exact yk e2
 |ext φ=>obtain ⟨_,⟨_,e⟩,_⟩:=x;exact yk e
theorem Paired.mapP {α β:Type} {F G:α->β->Prop}:∀{l₁:List α} {l₂:List β},Paired F l₁ l₂->(∀a b,F a b->G a b)->Paired G l₁ l₂
 |_,_,.nil,_=>.nil
 |_,_,.cons r t,f=>.cons (f _ _ r) (Paired.mapP t f)
theorem Paired.imp' (f:∀a b,F a b->G a b) (r:Paired F l₁ l₂):Paired G l₁ l₂:=Paired.mapP r f
theorem Saa.stay (x:Saa P w H h a o) (k:∀b u,(b=a\/H b=some (.own a))->h.get? b=some u->h'.get? b=some u)
  (ho:∀b,H b=some (.own a)->H' b=some (.own a)) (ht:∀b xs,H b=some (.tup xs)->H' b=some (.tup xs)) (hc:∀b q,H b=some (.cod q)->H' b=some (.cod q)):Saa P w H' h' a o:=by
 induction o with
 |lst xs=>obtain ⟨z,its,n,r,e⟩:=x;exact ⟨z,its,n,r,k _ _ (.inl rfl) e⟩
 |tup xs=>obtain ⟨z,its,r,ob,e,c⟩:=x;exact ⟨z,its,r,ob,k _ _ (.inl rfl) e,c⟩
 |dK kvs=>obtain ⟨z,y,vs,r,ob,es,ep,e,c⟩:=x;exact ⟨z,y,vs,r,ob,es,ep,k _ _ (.inl rfl) e,c⟩
 |dT kvs=>
  obtain ⟨z,y,xs,r,ob,es,ep,e,c⟩:=x
  exact ⟨z,y,xs,Paired.mapP r λp q z=>⟨z.1,ht _ _ z.2.1,z.2.2⟩,ob,es,ep,k _ _ (.inl rfl) e,c⟩
 |set S n=>obtain ⟨ob,es,ep,t,e,c⟩:=x;exact ⟨ob,es,ep,t,k _ _ (.inl rfl) e,c⟩
 |ins C dx fs=>
  obtain ⟨d,z,ne,e,mA,⟨od,es,ep,e2,c⟩,r⟩:=x
  exact ⟨ho _ d,z,ne,k _ _ (.inl rfl) e,mA,⟨od,es,ep,k _ _ (.inr d) e2,c⟩,r⟩
 |own y=>obtain ⟨ob,e⟩:=x;exact ⟨ob,k _ _ (.inl rfl) e⟩
 |xd fs=>obtain ⟨mA,⟨od,es,ep,e,c⟩,r⟩:=x;exact ⟨mA,⟨od,es,ep,k _ _ (.inl rfl) e,c⟩,r⟩
 |rng lo hi=>obtain ⟨t,u,v,e⟩:=x;exact ⟨t,u,v,k _ _ (.inl rfl) e⟩
 |frz ob u ih=>obtain ⟨e,q⟩:=x;exact ⟨k _ _ (.inl rfl) e,ih q⟩
 |tbl lb=>obtain ⟨ts,e,r⟩:=x;exact ⟨ts,k _ _ (.inl rfl) e,r.mono hc⟩
 |cod q=>obtain ⟨c,o,vs,t,e1,e2,e3,e4⟩:=x;cases e1;exact ⟨_,o,vs,t,rfl,k _ _ (.inl rfl) e2,e3,e4⟩
 |ext φ=>obtain ⟨p,⟨o,e⟩,st⟩:=x;exact ⟨st _ _ p λo q=>k _ _ (.inl rfl) q,⟨o,k _ _ (.inl rfl) e⟩,st⟩
theorem HOk.lt (x:HOk P w H h) (e:H a=some o):a < h.objs.size:=(x a o e).lt
theorem HOk.fresh (x:HOk P w H h) (e:h.objs.size<=a):H a=none:=by
 cases q:H a with
 |none=>rfl
 |some u=>exact absurd (yao (x.lt q) e) (ybe _)
theorem HOk.kept (x:HOk P w H h) (k:∀b u,h.get? b=some u->h'.get? b=some u):HOk P w H h':=λa o e=>
 (x a o e).stay (λb u _ q=>k b u q) (λ_ q=>q) (λ_ _ q=>q) λ_ _ q=>q
theorem HOk.laid (x:HOk P w H h) (k:∀b u,h.get? b=some u->h'.get? b=some u) (hp:h.objs.size<=a) (new:Saa P w (upd H a o) h' a o):HOk P w (upd H a o) h':=λb u e=>by
 have hn:=x.fresh hp
 by_cases hb:b=a
 ·subst hb;rw [Sn] at e;cases e;exact new
 ·rw [Sw hb] at e
  exact (x b u e).stay (λc v _ q=>k c v q) (λc q=>by rw [Sw (Jm1 q hn)];exact q) (λc xs q=>by rw [Sw (Jm1 q hn)];exact q) λc xs q=>by rw [Sw (Jm1 q hn)];exact q
end
def Rd (H:Hp) (a:S1) (u:HO):Prop:=H a=some u\/∃o,H a=some (.frz o u)
theorem Rd.ok (r:Rd H a u) (x:HOk P w H h):Saa P w H h a u:=by
 rcases r with r|⟨o,r⟩
 ·exact x a u r
 ·obtain ⟨_,q⟩:=x a _ r
  exact q
def Mut:Option HO->Prop
 |some (.lst _)=>True
 |some (.dK _)=>True
 |some (.dT _)=>True
 |some (.set _ _)=>True
 |some (.ins _ _ _)=>True
 |some (.ext _)=>True
 |_=>False
section
variable {P:S7} {w:S9} {H:Hp} {h h':Sb} {x e:S1} {o':HO}
theorem HOk.write (ok:HOk P w H h) (mu:Mut (H x)) (he:e=x\/H e=some (.own x)) (k:∀b u,b≠e->h.get? b=some u->h'.get? b=some u) (heo:∃u,h'.get? e=some u)
  (new:Saa P w (upd H x o') h' x o'):HOk P w (upd H x o') h':=λb u q=>by
 have nown:∀c y,H c=some (.own y)->c≠x:=λc y r z=>by subst z;rw [r] at mu;exact mu
 have ntup:∀c xs,H c=some (.tup xs)->c≠x:=λc xs r z=>by subst z;rw [r] at mu;exact mu
 by_cases hb:b=x
 ·subst hb;rw [Sn] at q;cases q;exact new
 ·rw [Sw hb] at q
  by_cases hbe:b=e
  ·have q':H b=some (.own x):=by
    rcases he with z|z
    ·exact absurd (hbe.trans z) hb
    ·rw [hbe];exact z
   rw [q] at q';cases q'
   obtain ⟨v,hv⟩:=heo
   exact ⟨v,by rw [hbe];exact hv⟩
  ·refine (ok b u q).stay (λc v hc r=>k c v ?_ r) (λc r=>by rw [Sw (nown c b r)];exact r) (λc xs r=>by rw [Sw (ntup c xs r)];exact r) λc xs r=>by rw [Sw λz=>by subst z;rw [r] at mu;exact mu];exact r
   rcases hc with rfl|hc
   ·exact hbe
   ·rintro rfl
    rcases he with z|z
    ·exact nown c b hc z
    ·rw [hc] at z;cases z;exact hb rfl
end
structure Un (fs ex:List S1) (H H':Hp) (h h':Sb):Prop where
 keep:∀b o,h.get? b=some o->H b=none->b∉fs->b∉ex->h'.get? b=some o
 slot:∀b o,h.get? b=some o->H b=none->b∈fs->b∉ex->∃sl,h'.get? b=some {o with slots:=sl}
 free:∀b o,h.get? b=some o->H b=none->b∉ex->H' b=none
 there:∀b o,h.get? b=some o->b∉ex->∃o',h'.get? b=some o'
 tups:∀b xs,H b=some (.tup xs)->H' b=some (.tup xs)
 frzs:∀b o u,H b=some (.frz o u)->H' b=some (.frz o u)
 tbls:∀b ps,H b=some (.tbl ps)->∃more,H' b=some (.tbl (ps++more))
section
variable {fs fs' ex ex':List S1} {H H1 H2:Hp} {h h1 h2 h':Sb} {a x e:S1} {o:HO}
theorem Un.any (u:Un fs ex H H1 h h1) (q:h.get? b=some ob) (n:H b=none) (hx:b∉ex):∃sl,h1.get? b=some {ob with slots:=sl}:=by
 by_cases hb:b∈fs
 ·exact u.slot b ob q n hb hx
 ·exact ⟨ob.slots,u.keep b ob q n hb hx⟩
theorem Un.trans (a:Un fs ex H H1 h h1) (b:Un fs ex H1 H2 h1 h2):Un fs ex H H2 h h2 where
 keep:=λc ob q n hc hx=>b.keep c ob (a.keep c ob q n hc hx) (a.free c ob q n hx) hc hx
 slot:=λc ob q n hc hx=>by
  obtain ⟨sl,e1⟩:=a.slot c ob q n hc hx
  obtain ⟨sl',e2⟩:=b.slot c _ e1 (a.free c ob q n hx) hc hx
  exact ⟨sl',e2⟩
 free:=λc ob q n hx=>by
  obtain ⟨o',e1⟩:=a.there c ob q hx
  exact b.free c o' e1 (a.free c ob q n hx) hx
 there:=λc ob q hx=>by
  obtain ⟨o',e1⟩:=a.there c ob q hx
  exact b.there c o' e1 hx
 tups:=λc xs q=>b.tups c xs (a.tups c xs q)
 frzs:=λc ob xs q=>b.frzs c ob xs (a.frzs c ob xs q)
 tbls:=λc ps q=>by
  obtain ⟨m1,e1⟩:=a.tbls c ps q
  obtain ⟨m2,e2⟩:=b.tbls c _ e1
  exact ⟨m1++m2,by rw [e2,Array.append_assoc]⟩
theorem Un.kept (k:∀b u,h.get? b=some u->h'.get? b=some u):Un fs ex H H h h':=
 ⟨λb ob q _ _ _=>k b ob q,λb ob q _ _ _=>⟨ob.slots,k b ob q⟩,λ_ _ _ n _=>n,λb ob q _=>⟨ob,k b ob q⟩,λ_ _ q=>q,λ_ _ _ q=>q,λ_ ps q=>⟨#[],by rw [q];simp⟩⟩
theorem Un.refl:Un fs ex H H h h:=Un.kept λ_ _ q=>q
theorem Un.laid (k:∀b u,h.get? b=some u->h'.get? b=some u) (hp:h.objs.size<=a) (hn:H a=none):Un fs ex H (upd H a o) h h' where
 keep:=λb u q _ _ _=>k b u q
 slot:=λb u q _ _ _=>⟨u.slots,k b u q⟩
 free:=λb u q n _=>by rw [Sw (yz (yao (yk q) hp))];exact n
 there:=λb u q _=>⟨u,k b u q⟩
 tups:=λb xs q=>by rw [Sw (Jm1 q hn)];exact q
 frzs:=λb u xs q=>by rw [Sw (Jm1 q hn)];exact q
 tbls:=λb ps q=>⟨#[],by rw [Sw (Jm1 q hn),q];simp⟩
theorem Un.write (mu:Mut (H x)) (he:e=x\/H e=some (.own x)) (k:∀b u,b≠e->h.get? b=some u->h'.get? b=some u) (heo:∃u,h'.get? e=some u):Un fs ex H (upd H x o) h h':=by
 have hx:∀b,H b=none->b≠x:=λb n z=>by subst z;rw [n] at mu;exact mu
 have hb:∀b,H b=none->b≠e:=λb n z=>by
  subst z
  rcases he with r|r
  ·exact hx b n r
  ·rw [n] at r;cases r
 have hm:∀b u,H b=some u->¬Mut (some u)->b≠x:=λb u q nm z=>by subst z;rw [q] at mu;exact nm mu
 refine ⟨λb u q n _ _=>k b u (hb b n) q,λb u q n _ _=>⟨u.slots,k b u (hb b n) q⟩,λb u q n _=>by rw [Sw (hx b n)];exact n,λb u q _=>?_,
  λb xs q=>by rw [Sw (hm b _ q λz=>z)];exact q,λb u xs q=>by rw [Sw (hm b _ q λz=>z)];exact q,λb ps q=>⟨#[],by rw [Sw (hm b _ q λz=>z),q];simp⟩⟩
 by_cases hbe:b=e
 ·subst hbe;exact heo
 ·exact ⟨u,k b u hbe q⟩
end
def trk (h:Sb) (H:Hp):List S1:=(yav h.objs.size).filter λa=>(H a).isSome
def Jyb (h:Sb) (H:Hp):Sb:=PySem.W.hideAll h (trk h H)
theorem Ya7 (h) (H):(Jyb h H).objs.size=h.objs.size:=PySem.W.hideAll_size _ _
theorem Ybn {H} {b} {o} (e:h.get? b=some o) (n:H b=none):(Jyb h H).get? b=some o:=
 PySem.W.hideAll_get _ e λhm=>by
  have q:=(ybp.mp hm).2
  rw [n] at q;simp at q
theorem Ye4 (e:(Jyb h H).get? b=some o):h.get? b=some o/\H b=none:=by
 have e':=PySem.W.of_hideAll (trk h H) e
 refine ⟨e',?_⟩
 cases q:H b with
 |none=>rfl
 |some x=>
  have hm:b∈trk h H:=ybp.mpr ⟨ycc.mpr (yk e'),by simp [q]⟩
  have z:(Jyb h H).get? b=none:=PySem.W.hideAll_none (trk h H) hm
  rw [z] at e;cases e
structure Mod (K:Sd) (mg:Str->Option S2) (base:Sb):Prop where
 kin:K.In base
 glob:base.Ns mainGlobals mg
 blt:∃mb,base.Ns builtinsNs mb/\∀x:Str,x≠"__name__" ->mb x=bootBuiltins x
 nolimit:base.NoLimit
structure Cx where
 prog:S7
 w:S9
 K:Sd
 mg:Str->Option S2
 base:Sb
 A:Sa
 N:List Str
 s₀:S3
 H₀:Hp
 env:Env
 outer:List Env
 stack:List Env
 ex:List S1
 fn:Str->Bool
 calm:Bool
 pn:List (S1×Obj)
 xe:S2->S3->Prop
def frs (l:List Env):List S1:=l.filterMap (·.frame)
abbrev Cx.fs (X:Cx):List S1:=frs X.outer
def Vis (sc:Scope) (x:Str):Prop:=sc.names.lookup x=some .local\/sc.names.lookup x=some .cell\/sc.names.lookup x=some .free
def Loc (sc:Scope) (x:Str):Prop:=sc.names.lookup x=some .local\/sc.names.lookup x=some .cell
def Svp (env:Env) (h:Sb) (m:Str->Option S2) (x:Str) (u:S2):Prop:=
 (env.kindOf x=some .local/\m x=some u)\/((env.kindOf x=some .cell\/env.kindOf x=some .free)/\∃c,env.cells.lookup x=some c/\h.IsCell c (some u))
structure Cx.Ok (X:Cx):Prop where
 mod:Mod X.K X.mg X.base
 kind:X.env.scope.kind= .function
 glob:X.env.globals=mainGlobals
 blt:X.env.builtins=builtinsNs
 above:X.s₀.heap.objs.size<=X.env.locals
 inj:∀x y c,X.env.cells.lookup x=some c->X.env.cells.lookup y=some c->x=y
 has:∀x,(X.env.kindOf x=some .cell\/X.env.kindOf x=some .free)->∃c,X.env.cells.lookup x=some c
 cab:∀x c,X.fn x=true->X.env.cells.lookup x=some c->X.s₀.heap.objs.size<=c
 hd:X.calm=true->X.A.handled=none
 frames:X.A.frames=some X.stack
 stk:X.stack=X.outer\/(X.stack=X.env::X.outer/\X.env.frame=some X.env.locals)
 exf:∀b∈X.ex,b≠X.env.locals/\∀x c,X.env.cells.lookup x=some c->c≠b
 bs:∀b o,X.base.get? b=some o->X.s₀.heap.get? b=some o/\X.H₀ b=none
 bsz:X.base.objs.size<=X.s₀.heap.objs.size
 noex:∀b o,X.base.get? b=some o->b∉X.ex
 exfs:∀b∈X.ex,b∉X.fs
 funs:X.s₀.heap.FunFrames X.base X.outer
 frf:∀b∈X.fs,X.H₀ b=none
structure Sm (X:Cx) (pins:List (S1×Obj)) (σ:List (Option V)) (H:Hp) (s:S3):Prop where
 ok:X.Ok
 os:s.os=X.s₀.os
 bare:AllBare s.gens
 base:Un X.fs X.ex X.H₀ H X.s₀.heap s.heap
 loc:∃m,s.heap.Ns X.env.locals m/\∀(i:Nat) (x:Str) (v:V),X.N[i]?=some x->σ[i]?=some (some v)->Vis X.env.scope x->∃u,RelV v u/\Svp X.env s.heap m x u
 cell:∀x c,X.env.cells.lookup x=some c->∃v,s.heap.IsCell c v
 free:H X.env.locals=none
 freeC:∀x c,X.env.cells.lookup x=some c->H c=none\/(X.fn x=false/\∃o,H c=some (Sw6 o))
 pin:∀p∈X.pn++pins,s.heap.get? p.1=some p.2/\H p.1=none/\p.1≠X.env.locals/\p.1∉X.fs/\∀v,p.2.data≠ .cell v
 hok:HOk X.prog X.w H s.heap
 len:σ.length=X.N.length
section
variable {X:Cx} {pins:List (S1×Obj)} {σ:List (Option V)} {H H':Hp} {s:S3} {h':Sb}
theorem Cx.Ok.nofr (ok:X.Ok) (e:X.base.get? b=some o):b∉X.fs:=λhb=>by
 have:=(ok.funs.mem hb).1
 rw [e] at this;cases this
theorem Sm.bs (I:Sm X pins σ H s):∀b o,X.base.get? b=some o->s.heap.get? b=some o/\H b=none:=λb o e=>
 ⟨I.base.keep b o (I.ok.bs b o e).1 (I.ok.bs b o e).2 (I.ok.nofr e) (I.ok.noex b o e),I.base.free b o (I.ok.bs b o e).1 (I.ok.bs b o e).2 (I.ok.noex b o e)⟩
theorem Sm.bk (I:Sm X pins σ H s):∀b o,X.base.get? b=some o->s.heap.get? b=some o:=λb o e=>(I.bs b o e).1
theorem Sm.mod (I:Sm X pins σ H s):Mod X.K X.mg X.base:=I.ok.mod
theorem Sm.kIn (I:Sm X pins σ H s):X.K.In s.heap:=I.ok.mod.kin.keeps I.bk
theorem Sm.lt (I:Sm X pins σ H s):X.env.locals < s.heap.objs.size:=let ⟨_,hn,_⟩:=I.loc;hn.lt
theorem Sm.sz (I:Sm X pins σ H s):X.s₀.heap.objs.size<=s.heap.objs.size:=yac I.ok.above (ycd I.lt)
theorem Sm.nofs (I:Sm X pins σ H s) (h:s.heap.objs.size<=a):a∉X.fs:=λhb=>by
 obtain ⟨_,o,ho,_⟩:=I.ok.funs.mem hb
 exact absurd (yao (yk ho) (yac I.sz h)) (ybe _)
theorem Sm.cne (I:Sm X pins σ H s):∀x c,X.env.cells.lookup x=some c->c≠X.env.locals:=λx c e z=>by
 obtain ⟨v,o,ho,hd⟩:=I.cell x c e
 obtain ⟨m,⟨o',es,ep,ho',hd',_⟩,_⟩:=I.loc
 rw [z,ho'] at ho;cases ho;rw [hd'] at hd;cases hd
theorem Sm.funs (I:Sm X pins σ H s):s.heap.FunFrames X.base X.outer:=by
 have all:∀l,(∀b∈frs l,b∈X.fs)->X.s₀.heap.FunFrames X.base l->s.heap.FunFrames X.base l:=by
  intro l
  induction l with
  |nil=>intro _ _;trivial
  |cons env r ih=>
   rintro hs ⟨hk,⟨L,o,hf,hn,ho,hd⟩,hr⟩
   have hL:=hs L (by unfold frs;rw [List.filterMap_cons,hf];exact yah)
   obtain ⟨sl,e⟩:=I.base.slot L o ho (I.ok.frf L hL) hL λz=>I.ok.exfs L z hL
   exact ⟨hk,⟨L,_,hf,hn,e,hd⟩,ih (λb hb=>hs b (by unfold frs;rw [List.filterMap_cons,hf];exact yaa _ hb)) hr⟩
 exact all X.outer (λ_ hb=>hb) I.ok.funs
theorem Sm.stack (I:Sm X pins σ H s):s.heap.FunFrames X.base X.stack:=by
 rcases I.ok.stk with e|⟨e,hf⟩
 ·rw [e];exact I.funs
 ·rw [e]
  obtain ⟨m,hn,_⟩:=I.loc
  exact .cons (by rw [I.ok.kind];decide) hf hn (Heap.get?_none_of_le (yac I.ok.bsz I.ok.above)) I.funs
theorem Sm.stkSub (I:Sm X pins σ H s):∀b∈frs X.stack,b∈X.env.locals::X.fs:=λb hb=>by
 rcases I.ok.stk with e|⟨e,hf⟩
 ·rw [e] at hb;exact yaa _ hb
 ·rw [e] at hb
  unfold frs at hb
  rw [List.filterMap_cons,hf] at hb
  exact hb
theorem Sm.stkFree (I:Sm X pins σ H s):∀b∈frs X.stack,H b=none:=λb hb=>by
 rcases yp.mp (I.stkSub b hb) with e|hb
 ·rw [e];exact I.free
 ·obtain ⟨_,o,ho,_⟩:=I.ok.funs.mem hb
  exact I.base.free b o ho (I.ok.frf b hb) λz=>I.ok.exfs b z hb
theorem Sm.step {ch:List S1} (I:Sm X pins σ H s)
  (hch:∀b∈ch,(b∈X.ex\/X.s₀.heap.objs.size<=b)/\b≠X.env.locals/\(∀x c,X.env.cells.lookup x=some c->c≠b)/\∀p∈X.pn++pins,p.1≠b)
  (keep:∀b o,b≠X.env.locals->b∉X.fs->b∉ch->s.heap.get? b=some o->H b=none->h'.get? b=some o)
  (slot:∀b o,b≠X.env.locals->b∈X.fs->b∉ch->s.heap.get? b=some o->H b=none->∃sl,h'.get? b=some {o with slots:=sl}) (free:∀b o,b∉ch->s.heap.get? b=some o->H b=none->H' b=none)
  (there:∀b o,b∉ch->s.heap.get? b=some o->∃o',h'.get? b=some o')
  (tups:∀b xs,H b=some (.tup xs)->H' b=some (.tup xs)) (frzs:∀b o u,H b=some (.frz o u)->H' b=some (.frz o u)) (tbls:∀b ps,H b=some (.tbl ps)->∃more,H' b=some (.tbl (ps++more)))
  (ns:∀m,s.heap.Ns X.env.locals m->h'.Ns X.env.locals m) (hok:HOk X.prog X.w H' h') (hg:AllBare g'):
  Sm X pins σ H' {s with heap:=h',gens:=g',drawn:=d',toks:=t'}:=by
 have neL:∀b o,X.s₀.heap.get? b=some o->b≠X.env.locals:=λb o e=>yz (yao (yk e) I.ok.above)
 have neC:∀b o,X.s₀.heap.get? b=some o->b∉X.ex->b∉ch:=λb o e hx hb=>by
  rcases (hch b hb).1 with z|z
  ·exact hx z
  ·exact absurd (yao (yk e) z) (ybe _)
 have cellK:∀x c,X.env.cells.lookup x=some c->∀v,s.heap.IsCell c v->h'.IsCell c v:=λx c e v ⟨o,ho,hd⟩=>by
  have nch:=λz=>(hch c z).2.2.1 x c e rfl
  rcases I.freeC x c e with n|⟨_,ob,q⟩
  ·by_cases hc:c∈X.fs
   ·obtain ⟨sl,q⟩:=slot c o (I.cne x c e) hc nch ho n
    exact ⟨_,q,hd⟩
   ·exact ⟨o,keep c o (I.cne x c e) hc nch ho n,hd⟩
  ·obtain ⟨e1,_⟩:=I.hok c _ q
   obtain ⟨e2,_⟩:=hok c _ (frzs c ob _ q)
   rw [ho] at e1;cases e1
   exact ⟨_,e2,hd⟩
 refine ⟨I.ok,I.os,hg,⟨λb o e n hb hx=>?_,λb o e n hb hx=>?_,λb o e n hx=>?_,λb o e hx=>?_,λb xs e=>tups b xs (I.base.tups b xs e),λb o xs e=>frzs b o xs (I.base.frzs b o xs e),λb ps e=>?_⟩,?_,λx c e=>?_,?_,λx c e=>?_,λp hp=>?_,hok,I.len⟩
 ·exact keep b o (neL b o e) hb (neC b o e hx) (I.base.keep b o e n hb hx) (I.base.free b o e n hx)
 ·obtain ⟨sl,e1⟩:=I.base.slot b o e n hb hx
  obtain ⟨sl',e2⟩:=slot b _ (neL b o e) hb (neC b o e hx) e1 (I.base.free b o e n hx)
  exact ⟨sl',e2⟩
 ·obtain ⟨o',e1⟩:=I.base.there b o e hx
  exact free b o' (neC b o e hx) e1 (I.base.free b o e n hx)
 ·obtain ⟨o',e1⟩:=I.base.there b o e hx
  exact there b o' (neC b o e hx) e1
 ·obtain ⟨m1,e1⟩:=I.base.tbls b ps e
  obtain ⟨m2,e2⟩:=tbls b _ e1
  exact ⟨m1++m2,by rw [e2,Array.append_assoc]⟩
 ·obtain ⟨m,hn,hl⟩:=I.loc
  refine ⟨m,ns m hn,λi x v e1 e2 e3=>?_⟩
  obtain ⟨u,r,l⟩:=hl i x v e1 e2 e3
  refine ⟨u,r,?_⟩
  rcases l with l|⟨k,c,e,z⟩
  ·exact .inl l
  ·exact .inr ⟨k,c,e,cellK x c e _ z⟩
 ·obtain ⟨v,z⟩:=I.cell x c e
  exact ⟨v,cellK x c e v z⟩
 ·obtain ⟨m,⟨o,_,_,ho,_⟩,_⟩:=I.loc
  exact free _ o (λz=>(hch _ z).2.1 rfl) ho I.free
 ·obtain ⟨v,o,ho,hd⟩:=I.cell x c e
  rcases I.freeC x c e with n|⟨hf,ob,q⟩
  ·exact .inl (free c o (λz=>(hch c z).2.2.1 x c e rfl) ho n)
  ·exact .inr ⟨hf,ob,frzs c ob _ q⟩
 ·obtain ⟨e,n,ne,nf,d⟩:=I.pin p hp
  have nch:=λz=>(hch p.1 z).2.2.2 p hp rfl
  exact ⟨keep p.1 p.2 ne nf nch e n,free p.1 p.2 nch e n,ne,nf,d⟩
theorem Sm.un (I:Sm X pins σ H s) (u:Un X.fs [] H H' s.heap h') (hok:HOk X.prog X.w H' h'):Sm X pins σ H' {s with heap:=h',toks:=t'}:=by
 obtain ⟨m,⟨o,es,ep,ho,r⟩,_⟩:=id I.loc
 obtain ⟨sl,hL⟩:=u.any ho I.free (by simp)
 exact I.step (ch:=[]) (λ_ z=>nomatch z) (λb o _ hb _ e n=>u.keep b o e n hb (by simp)) (λb o _ hb _ e n=>u.slot b o e n hb (by simp)) (λb o _ e n=>u.free b o e n (by simp)) (λb o _ e=>u.there b o e (by simp)) u.tups u.frzs u.tbls (λm' hm=>by
  obtain ⟨o',es',ep',ho',r'⟩:=hm
  rw [ho] at ho';cases ho'
  exact ⟨_,es',ep',hL,r'⟩) hok I.bare
theorem Sm.call (I:Sm X pins σ H s) (u:Un (frs X.stack) ch H H' s.heap h') (hok:HOk X.prog X.w H' h') (hg:AllBare g')
  (hch:∀b∈ch,(b∈X.ex\/X.s₀.heap.objs.size<=b)/\b≠X.env.locals/\(∀x c,X.env.cells.lookup x=some c->c≠b)/\∀p∈X.pn++pins,p.1≠b):
  Sm X pins σ H' {s with heap:=h',gens:=g',drawn:=d',toks:=t'}:=by
 obtain ⟨m,⟨o,es,ep,ho,r⟩,_⟩:=id I.loc
 obtain ⟨sl,hL⟩:=u.any ho I.free λz=>(hch _ z).2.1 rfl
 exact I.step hch (λb o hL hb hc e n=>u.keep b o e n (λz=>(yp.mp (I.stkSub b z)).elim hL hb) hc) (λb o _ _ hc e n=>u.any e n hc) (λb o hc e n=>u.free b o e n hc) (λb o hc e=>u.there b o e hc) u.tups u.frzs u.tbls (λm' hm=>by
  obtain ⟨o',es',ep',ho',r'⟩:=hm
  rw [ho] at ho';cases ho'
  exact ⟨_,es',ep',hL,r'⟩) hok hg
theorem Sm.turned (I:Sm X pins σ H s) (k:∀b o,b≠it->s.heap.get? b=some o->h'.get? b=some o) (hn:H it=none) (hL:it≠X.env.locals)
  (h1:it∈X.ex\/X.s₀.heap.objs.size<=it) (h2:∀x c,X.env.cells.lookup x=some c->c≠it) (h3:∀p∈X.pn++pins,p.1≠it):Sm X pins σ H {s with heap:=h',toks:=t'}:=by
 have nit:∀b u,H b=some u->b≠it:=λb u e z=>by rw [z,hn] at e;cases e
 refine I.step (ch:=[it]) (λb hb=>?_) (λb o _ _ hc e _=>k b o (λz=>hc (by simp [z])) e) (λb o _ _ hc e _=>⟨o.slots,k b o (λz=>hc (by simp [z])) e⟩) (λ_ _ _ _ n=>n)
  (λb o hc e=>⟨o,k b o (λz=>hc (by simp [z])) e⟩) (λ_ _ e=>e) (λ_ _ _ e=>e) (λb ps e=>⟨#[],by rw [e];simp⟩) (λm hm=>?_) (λb u e=>?_) I.bare
 ·have e:=by simpa using hb
  subst e
  exact ⟨h1,hL,h2,h3⟩
 ·obtain ⟨o,es,ep,ho,r⟩:=hm
  exact ⟨o,es,ep,k _ o (yw hL) ho,r⟩
 ·refine (I.hok b u e).stay (λc v hc q=>k c v ?_ q) (λ_ q=>q) (λ_ _ q=>q) λ_ _ q=>q
  rcases hc with z|z
  ·rw [z];exact nit b u e
  ·exact nit c _ z
theorem Sm.tok (I:Sm X pins σ H s) (t):Sm X pins σ H {s with toks:=t}:=I.un Un.refl I.hok
theorem Sm.kept (I:Sm X pins σ H s) (k:∀b u,s.heap.get? b=some u->h'.get? b=some u):Sm X pins σ H {s with heap:=h',toks:=t'}:=I.un (Un.kept k) (I.hok.kept k)
theorem Sm.laid (I:Sm X pins σ H s) (k:∀b u,s.heap.get? b=some u->h'.get? b=some u) (hp:s.heap.objs.size<=a) (new:Saa X.prog X.w (upd H a o) h' a o):
  Sm X pins σ (upd H a o) {s with heap:=h',toks:=t'}:=I.un (Un.laid k hp (I.hok.fresh hp)) (I.hok.laid k hp new)
theorem Sm.write (I:Sm X pins σ H s) (mu:Mut (H x)) (he:e=x\/H e=some (.own x)) (k:∀b u,b≠e->s.heap.get? b=some u->h'.get? b=some u) (heo:∃u,h'.get? e=some u)
  (new:Saa X.prog X.w (upd H x o) h' x o):Sm X pins σ (upd H x o) {s with heap:=h',toks:=t'}:=I.un (Un.write mu he k heo) (I.hok.write mu he k heo new)
theorem Sm.pins_of (I:Sm X pins σ H s) (h:∀p∈pins',s.heap.get? p.1=some p.2/\H p.1=none/\p.1≠X.env.locals/\p.1∉X.fs/\∀v,p.2.data≠ .cell v):Sm X pins' σ H s:=
 ⟨I.ok,I.os,I.bare,I.base,I.loc,I.cell,I.free,I.freeC,λp hp=>(yba.mp hp).elim (λz=>I.pin p (ycq _ z)) (h p),I.hok,I.len⟩
theorem Juo {N:List Str} (hN:N.Nodup) {i:Nat} (a:N[i]?=some x) (b:N[j]?=some x):i=j:=by
 obtain ⟨h1,e1⟩:=yi.mp a
 obtain ⟨h2,e2⟩:=yi.mp b
 exact (List.getElem_inj hN).mp (e1.trans e2.symm)
theorem Jwo {E} {i} {x} {v} {u} {Q} (I:Sm X pins σ H s) (hN:X.N.Nodup) (hi:X.N[i]?=some x) (hx:Loc X.env.scope x) (r:RelV v u)
  (h:∀s',Sm X pins (σ.set i (some v)) H s'->(∃a,ybf a s.heap s'.heap/\(a=X.env.locals\/X.env.cells.lookup x=some a))->Q () s') (hf:X.fn x=true\/X.env.scope.names.lookup x=some .local:=by first|exact .inl rfl|exact .inr rfl|assumption):Sc M A (storeName X.env x u) Q E s:=by
 obtain ⟨m,hn,hl⟩:=id I.loc
 have hcls:(X.env.scope.kind== .class||(X.env.scope.kind== .module&&X.env.locals !=X.env.globals))=false:=by rw [I.ok.kind];rfl
 have hiσ:i < σ.length:=by rw [I.len];exact (yi.mp hi).1
 have cne:=I.cne
 have tracked:∀{a:S1} {h':Sb},(∃o,s.heap.get? a=some o/\H a=none)->ybf a s.heap h'->HOk X.prog X.w H h':=λ{a h'} ha hs b ob e=>by
  obtain ⟨_,_,hfree⟩:=ha
  refine (I.hok b ob e).stay (λc w' hc q=>(hs.2 c ?_).trans q) (λ_ q=>q) (λ_ _ q=>q) λ_ _ q=>q
  rintro rfl
  rcases hc with rfl|hc
  ·rw [hfree] at e;cases e
  ·rw [hfree] at hc;cases hc
 rcases hx with hk|hk
 ·refine wpAny_storeName_local hk hn (λh' hn' hs=>?_) hcls
  obtain ⟨oL,_,_,hoL,_⟩:=id hn
  refine h _ ⟨I.ok,I.os,I.bare,⟨λb o e n hb hx=>?_,λb o e n hb hx=>?_,I.base.free,λb o e hx=>?_,I.base.tups,I.base.frzs,I.base.tbls⟩,⟨_,hn',λj y v' e1 e2 e3=>?_⟩,λy c e=>?_,I.free,I.freeC,λp hp=>?_,tracked ⟨oL,hoL,I.free⟩ hs,by simpa using I.len⟩ ⟨_,hs,.inl rfl⟩
  ·exact (hs.2 b (yz (yao (yk e) I.ok.above))).trans (I.base.keep b o e n hb hx)
  ·obtain ⟨sl,e1⟩:=I.base.slot b o e n hb hx
   exact ⟨sl,(hs.2 b (yz (yao (yk e) I.ok.above))).trans e1⟩
  ·obtain ⟨o',e1⟩:=I.base.there b o e hx
   exact ⟨o',(hs.2 b (yz (yao (yk e) I.ok.above))).trans e1⟩
  ·by_cases hj:j=i
   ·subst hj
    rw [hi] at e1;cases e1
    rw [List.getElem?_set_self hiσ] at e2
    cases e2
    exact ⟨u,r,.inl ⟨hk,by simp⟩⟩
   ·rw [List.getElem?_set_ne (yw hj)] at e2
    obtain ⟨u',r',q⟩:=hl j y v' e1 e2 e3
    refine ⟨u',r',?_⟩
    rcases q with ⟨k,e⟩|⟨k,c,e,z⟩
    ·refine .inl ⟨k,?_⟩
     have:y≠x:=λe=>hj (Juo hN e1 (e▸hi))
     simp [this,e]
    ·exact .inr ⟨k,c,e,z.sameBut hs (cne y c e)⟩
  ·obtain ⟨w',z⟩:=I.cell y c e
   exact ⟨w',z.sameBut hs (cne y c e)⟩
  ·obtain ⟨e,n,ne,nf,d⟩:=I.pin p hp
   exact ⟨(hs.2 p.1 ne).trans e,n,ne,nf,d⟩
 ·have hfn:X.fn x=true:=by
   rcases hf with z|z
   ·exact z
   ·rw [z] at hk;cases hk
  obtain ⟨c,hc⟩:=I.ok.has x (.inl hk)
  obtain ⟨w',z⟩:=I.cell x c hc
  refine wpAny_storeName_cell I.ok.kind hk hc z (λh' hc' hs=>?_)
  obtain ⟨oc,hoc,hocd⟩:=id z
  refine h {s with heap:=h'} ⟨I.ok,I.os,I.bare,⟨λb o e n hb hx=>?_,λb o e n hb hx=>?_,I.base.free,λb o e hx=>?_,I.base.tups,I.base.frzs,I.base.tbls⟩,⟨m,hn.sameBut hs (yw (cne x c hc)),λj y v' e1 e2 e3=>?_⟩,λy c' e=>?_,I.free,I.freeC,λp hp=>?_,tracked ⟨oc,hoc,(I.freeC x c hc).elim id λz=>by rw [hfn] at z;cases z.1⟩ hs,by simpa using I.len⟩ ⟨c,hs,.inr hc⟩
  ·exact (hs.2 b (yz (yao (yk e) (I.ok.cab x c hfn hc)))).trans (I.base.keep b o e n hb hx)
  ·obtain ⟨sl,e1⟩:=I.base.slot b o e n hb hx
   exact ⟨sl,(hs.2 b (yz (yao (yk e) (I.ok.cab x c hfn hc)))).trans e1⟩
  ·obtain ⟨o',e1⟩:=I.base.there b o e hx
   exact ⟨o',(hs.2 b (yz (yao (yk e) (I.ok.cab x c hfn hc)))).trans e1⟩
  ·by_cases hj:j=i
   ·subst hj
    rw [hi] at e1;cases e1
    rw [List.getElem?_set_self hiσ] at e2
    cases e2
    exact ⟨u,r,.inr ⟨.inl hk,c,hc,hc'⟩⟩
   ·rw [List.getElem?_set_ne (yw hj)] at e2
    obtain ⟨u',r',q⟩:=hl j y v' e1 e2 e3
    refine ⟨u',r',?_⟩
    rcases q with q|⟨k,c',e,z'⟩
    ·exact .inl q
    ·refine .inr ⟨k,c',e,z'.sameBut hs ?_⟩
     rintro rfl
     exact hj (Juo hN e1 (I.ok.inj _ _ _ e hc▸hi))
  ·by_cases hcc:c'=c
   ·subst hcc;exact ⟨_,hc'⟩
   ·obtain ⟨w2,z2⟩:=I.cell y c' e
    exact ⟨w2,z2.sameBut hs hcc⟩
  ·obtain ⟨e,n,ne,nf,d⟩:=I.pin p hp
   refine ⟨(hs.2 p.1 ?_).trans e,n,ne,nf,d⟩
   intro q
   rw [q,hoc] at e
   exact d w' (by rw [<-(yt.inj e)];exact hocd)
theorem Jsg {i} {x} {v} {u} {Q} (I:Sm X pins σ H s) (hN:X.N.Nodup) (hi:X.N[i]?=some x) (hx:Loc X.env.scope x) (r:RelV v u)
  (h:∀s',Sm X pins (σ.set i (some v)) H s'->Q () s') (hf:X.fn x=true\/X.env.scope.names.lookup x=some .local:=by first|exact .inl rfl|exact .inr rfl|assumption):Sc M A (storeName X.env x u) Q E s:=
 Jwo I hN hi hx r (λs' I' _=>h s' I') hf
theorem Sm.call' (I:Sm X pins σ H s) (ho:s'.os=s.os) (u:Un (frs X.stack) ch H H' s.heap s'.heap) (hok:HOk X.prog X.w H' s'.heap) (hg:AllBare s'.gens)
  (hch:∀b∈ch,(b∈X.ex\/X.s₀.heap.objs.size<=b)/\b≠X.env.locals/\(∀x c,X.env.cells.lookup x=some c->c≠b)/\∀p∈X.pn++pins,p.1≠b):Sm X pins σ H' s':=by
 obtain ⟨h',g',d',t',o'⟩:=s'
 subst ho
 exact I.call u hok hg hch
end
abbrev XK:=S2->Option S1->Hp->Prop
abbrev St:=List (Option V)
abbrev VK:=V->Hp->Prop
abbrev TE:=St->Hp->VK->Prop
abbrev TT:=St->Hp->(Bool->Hp->Prop)->Prop
abbrev TA:=St->Hp->(List V->Hp->Prop)->Prop
structure Sc1 where
 nx:St->Hp->Prop
 rt:VK
 bk:St->Hp->Prop:=λ_ _=>False
 ct:St->Hp->Prop:=λ_ _=>False
abbrev TS:=Sc1->St->Hp->Prop
def EP (X:Cx) (pins:List (S1×Obj)) (σ:St) (Q:VK) (u:S2) (s':S3):Prop:=∃v H',Sm X pins σ H' s'/\RelV v u/\Q v H'
def TP (X:Cx) (pins:List (S1×Obj)) (σ:St) (Q:Bool->Hp->Prop) (b:Bool) (s':S3):Prop:=∃H',Sm X pins σ H' s'/\Q b H'
def AP (X:Cx) (pins:List (S1×Obj)) (σ:St) (Q:List V->Hp->Prop) (us:List S2) (s':S3):Prop:=∃vs H',Sm X pins σ H' s'/\Sv vs us/\Q vs H'
def SP (X:Cx) (pins:List (S1×Obj)) (D:Sc1) (f:Flow) (s':S3):Prop:=
 match f with
 | .next=>∃σ' H',Sm X pins σ' H' s'/\D.nx σ' H'
 | .brk=>∃σ' H',Sm X pins σ' H' s'/\D.bk σ' H'
 | .cont=>∃σ' H',Sm X pins σ' H' s'/\D.ct σ' H'
 | .ret u=>∃v σ' H',Sm X pins σ' H' s'/\RelV v u/\D.rt v H'
def PE (X:Cx) (e:Expr) (t:TE):Prop:=
 ∀(pins:List (S1×Obj)) (s:S3) (σ:St) (H:Hp) (Q:VK),Sm X pins σ H s->t σ H Q->Sc (model X.prog X.w) X.A (eval e X.env) (EP X pins σ Q) X.xe s
def PT (X:Cx) (e:Expr) (t:TT):Prop:=
 ∀(pins:List (S1×Obj)) (s:S3) (σ:St) (H:Hp) (Q:Bool->Hp->Prop),Sm X pins σ H s->t σ H Q->Sc (model X.prog X.w) X.A (isTrue e X.env (eval e X.env)) (TP X pins σ Q) X.xe s
def PW (X:Cx) (e:Expr) (t:TT):Prop:=
 ∀(whole:Sem S2) (pins:List (S1×Obj)) (s:S3) (σ:St) (H:Hp) (Q:Bool->Hp->Prop),Sm X pins σ H s->t σ H Q->Sc (model X.prog X.w) X.A (isTrue e X.env whole) (TP X pins σ Q) X.xe s
theorem PW.pt (h:PW X e t):PT X e t:=h _
def PA (X:Cx) (es:List Expr) (t:TA):Prop:=
 ∀(pos:Pos) (pins:List (S1×Obj)) (s:S3) (σ:St) (H:Hp) (Q:List V->Hp->Prop),Sm X pins σ H s->t σ H Q->Sc (model X.prog X.w) X.A (spliced (backTo pos (starEach es X.env))) (AP X pins σ Q) X.xe s
def PS (X:Cx) (st:Stmt) (t:TS):Prop:=
 ∀(pins:List (S1×Obj)) (s:S3) (σ:St) (H:Hp) (D:Sc1),Sm X pins σ H s->t D σ H->Sc (model X.prog X.w) X.A (exec st X.env) (SP X pins D) X.xe s
def PSs (X:Cx) (st:List Stmt) (t:TS):Prop:=
 ∀(pins:List (S1×Obj)) (s:S3) (σ:St) (H:Hp) (D:Sc1),Sm X pins σ H s->t D σ H->Sc (model X.prog X.w) X.A (execs st X.env) (SP X pins D) X.xe s
theorem thn (h:Sc M A t Q E s) (hQ:∀a s,Q a s->Q' a s):Sc M A t Q' E s:=wpAny_mono h hQ λ_ _ x=>x
section
variable {X:Cx}
inductive Sjt (i:Nat) (σ:St) (H:Hp) (Q:VK):Prop where
 |mk (v:_) (_:σ[i]?=some (some v)) (_:Q v H)
def tC (v:V):TE:=λ_ H Q=>Q v H
theorem Sn2 (hN:X.N[i]?=some x) (hv:Vis X.env.scope x) (hd:(x==("__debug__" :Str))=false:=by decide) (hcd:(x==("__classdict__" :Str))=false:=by decide):PE X (.Name x pos) (Sjt i):=by
 rintro pins s σ H Q I ⟨v,e,h⟩
 obtain ⟨m,hn,hl⟩:=I.loc
 obtain ⟨u,r,l⟩:=hl i x v hN e hv
 have fin:EP X pins σ Q u s:=⟨v,H,I,r,h⟩
 rcases l with ⟨hk,hm⟩|⟨hk,c,hc,hcell⟩
 ·exact wpAny_Name (wpAny_loadName_local I.ok.kind hk hn hm fin) hd
 ·rcases hk with hk|hk
  ·exact wpAny_Name (wpAny_loadName_cell I.ok.kind hk hc hcell fin) hd
  ·exact wpAny_Name (wpAny_loadName_free I.ok.kind hk hc hcell fin hcd) hd
theorem Sr:PE X (.Constant (.int i) j pos) (tC (.int i)):=λ_ _ _ H _ I h=>wpAny_Constant_int ⟨.int i,H,I.tok _,⟨_,rfl⟩,h⟩
theorem Jo6:PE X (.Constant (.bool b) j pos) (tC (.bl b)):=λ_ _ _ H _ I h=>Constant_bool ⟨.bl b,H,I,rfl,h⟩
theorem Joy:PE X (.Constant .none j pos) (tC .non):=λ_ _ _ H _ I h=>Constant_none ⟨.non,H,I,rfl,h⟩
theorem Jp7:PE X (.Constant (.str x) j pos) (tC (.str x)):=λ_ _ _ H _ I h=>Calls.Constant_str ⟨.str x,H,I.tok _,⟨_,rfl⟩,h⟩
def Gl (X:Cx) (x:Str):Prop:=X.env.kindOf x=some .globalImplicit
theorem Jqt {pins} {s} {σ:St} {H} {x} {u} {pos} {Q} (I:Sm X pins σ H s) (hg:Gl X x) (hm:X.mg x=some u) (h:Q u s)
  (hd:(x==("__debug__" :Str))=false:=by decide):Sc (model X.prog X.w) X.A (eval (.Name x pos) X.env) Q E s:=
 Calls.Name_function_global I.ok.kind hg (Calls.loadGlobal_global (by rw [I.ok.glob];exact I.mod.glob.keeps I.bk) hm h) hd
theorem Jpm {E} {pins} {s} {σ:St} {H} {x} {u} {pos} {Q} (I:Sm X pins σ H s) (hg:Gl X x) (hm:X.mg x=none) (hv:bootBuiltins x=some u) (h:Q u s)
  (hn:x≠"__name__" :=by decide) (hd:(x==("__debug__" :Str))=false:=by decide):Sc (model X.prog X.w) X.A (eval (.Name x pos) X.env) Q E s:=by
 obtain ⟨mb,h1,h2⟩:=I.mod.blt
 exact Calls.Name_function_global I.ok.kind hg (Calls.loadGlobal_builtin (by rw [I.ok.glob];exact I.mod.glob.keeps I.bk) hm (by rw [I.ok.blt];exact h1.keeps I.bk) ((h2 x hn).trans hv) h) hd
theorem Jn7 (hg:Gl X x) (hm:X.mg x=some u) (r:RelV v u) (hd:(x==("__debug__" :Str))=false:=by decide):PE X (.Name x pos) (tC v):=
 λ_ _ _ H _ I h=>Jqt I hg hm ⟨v,H,I,r,h⟩ hd
theorem Jo0 (hg:Gl X x) (hm:X.mg x=none) (hv:bootBuiltins x=some u) (r:RelV v u) (hn:x≠"__name__" :=by decide) (hd:(x==("__debug__" :Str))=false:=by decide):PE X (.Name x pos) (tC v):=
 λ_ _ _ H _ I h=>Jpm I hg hm hv ⟨v,H,I,r,h⟩ hn hd
variable {a b:Expr} {ta tb:TE} {pos:Pos}
inductive Sx4 (Q:(Bool->Hp->Prop)) (x:V) (H1:Hp):Prop where
 |mk (c:_) (_:x= .bl c) (_:Q c H1)
def tB (t:TE):TT:=λσ H Q=>t σ H (Sx4 Q)
theorem Jmx (h:PE X e t) (he:∀whole,isTrue e X.env whole=(do let v<-whole;standAt e.pos;holding [v] (truthy v)):=by intro _;rfl):PT X e (tB t):=by
 intro pins s σ H Q I hw
 refine isTrue_plain (thn (h pins s σ H _ I hw) λv s1 zq=>?_) (he _)
 obtain ⟨x,H1,I1,r1,q1⟩:=zq
 obtain ⟨d,rfl,q⟩:=q1
 cases r1
 exact wpAny_truthy_bool ⟨H1,I1,q⟩
variable {tA tB':TT} {rest:List Expr}
def Sx1 (t u:TT):TT:=λσ H Q=>t σ H λc H1=>if c=true then u σ H1 Q else Q false H1
def tOr (t u:TT):TT:=λσ H Q=>t σ H λc H1=>if c=true then Q true H1 else u σ H1 Q
def Sx9 (t:TT):TT:=λσ H Q=>t σ H λc H1=>Q (!c) H1
theorem Yei (ha:PT X a tA):PW X (.BoolOp .And [a] pos) tA:=by
 intro wh pins s σ H Q I h
 refine isTrue_and (thn (ha pins s σ H Q I h) λc s1 e=>?_)
 cases c with
 |true=>exact isTrue_and_nil e
 |false=>exact e
theorem Jt1 (ha:PT X a tA):PW X (.BoolOp .Or [a] pos) tA:=by
 intro wh pins s σ H Q I h
 refine isTrue_or (thn (ha pins s σ H Q I h) λc s1 e=>?_)
 cases c with
 |false=>exact isTrue_or_nil e
 |true=>exact e
theorem Sn7 (ha:PT X a tA) (hb:PW X (.BoolOp .And (b::rest) pos) tB'):PW X (.BoolOp .And (a::b::rest) pos) (Sx1 tA tB'):=by
 intro wh pins s σ H Q I h
 refine isTrue_and (thn (ha pins s σ H _ I h) λc s1 zq=>?_)
 obtain ⟨H1,I1,q1⟩:=zq
 cases c with
 |true=>exact hb wh pins s1 σ H1 Q I1 q1
 |false=>exact ⟨H1,I1,q1⟩
theorem Jtl (ha:PT X a tA) (hb:PW X (.BoolOp .Or (b::rest) pos) tB'):PW X (.BoolOp .Or (a::b::rest) pos) (tOr tA tB'):=by
 intro wh pins s σ H Q I h
 refine isTrue_or (thn (ha pins s σ H _ I h) λc s1 zq=>?_)
 obtain ⟨H1,I1,q1⟩:=zq
 cases c with
 |true=>exact ⟨H1,I1,q1⟩
 |false=>exact hb wh pins s1 σ H1 Q I1 q1
theorem Jmu (ha:PT X a tA):PT X (.UnaryOp .Not a pos) (Sx9 tA):=by
 intro pins s σ H Q I h
 exact isTrue_not (ha pins s σ H (λc H1=>Q (!c) H1) I h)
inductive Yf9 (ta tb:TE) (σ:St) (Q:VK) (x:V) (H1:Hp):Prop where
 |mk (c:_) (_:x= .bl c) (_:if c=true then tb σ H1 Q else Q (.bl false) H1)
def Ssb (ta tb:TE):TE:=λσ H Q=>ta σ H (Yf9 ta tb σ Q)
theorem Yc9 (h:PE X a t):PE X (.BoolOp op [a] pos) t:=λpins s σ H Q I hw=>BoolOp_one (h pins s σ H Q I hw)
theorem Yc6 (ha:PE X a ta) (hb:PE X (.BoolOp .And (b::rest) pos) tb):PE X (.BoolOp .And (a::b::rest) pos) (Ssb ta tb):=by
 intro pins s σ H Q I h
 refine BoolOp_and (thn (ha pins s σ H _ I h) λv s1 zq=>?_)
 obtain ⟨x,H1,I1,r1,q1⟩:=zq
 obtain ⟨c,rfl,q1⟩:=q1
 cases r1
 refine wpAny_truthy_bool ?_
 cases c with
 |true=>exact hb pins s1 σ H1 Q I1 q1
 |false=>exact ⟨.bl false,H1,I1,rfl,q1⟩
def tIf (t:TT) (ta tb:TE):TE:=λσ H Q=>t σ H λc H1=>if c=true then ta σ H1 Q else tb σ H1 Q
theorem Jv3 (hc:PT X c tA) (ha:PE X a ta) (hb:PE X b tb):PE X (.IfExp c a b pos) (tIf tA ta tb):=by
 intro pins s σ H Q I h
 refine wpAny_IfExp (thn (hc pins s σ H _ I h) λd s1 zq=>?_)
 obtain ⟨H1,I1,q1⟩:=zq
 cases d with
 |true=>exact ha pins s1 σ H1 Q I1 q1
 |false=>exact hb pins s1 σ H1 Q I1 q1
end
def Ss (K:Sd) (H:Hp) (a:S1) (xs:List V):Prop:=
 Rd H a (.lst xs)\/
  ∃(o:Obj) (its:Array S2) (n:Nat),K.lookup a=some o/\o.cls= .type "list" /\o.dict=none/\o.data= .seq its n/\its.size<=S6/\Sv xs its.toList
def Sy (K:Sd) (H:Hp) (a:S1) (xs:List V):Prop:=
 Rd H a (.tup xs)\/
  ∃(o:Obj) (its:Array S2) (n:Nat),K.lookup a=some o/\o.cls= .type "tuple" /\o.data= .seq its n/\its.size<=S6/\Sv xs its.toList
def Sw5:S2->Option V
 | .none=>some .non
 | .bool b=>some (.bl b)
 | .int i _=>some (.int i)
 | .str x _=>some (.str x)
 | .bytes b _=>some (.byt b)
 | .float b _=>some (.flt b)
 | .ref a=>some (.ref a)
 | .type n=>some (.ty n)
 |_=>none
theorem RelV.abs (r:RelV x u):Sw5 u=some x:=by
 cases x with
 |non=>cases r;rfl
 |bl _=>cases r;rfl
 |int _=>obtain ⟨t,rfl⟩:=r;rfl
 |str _=>obtain ⟨t,rfl⟩:=r;rfl
 |byt _=>obtain ⟨t,rfl⟩:=r;rfl
 |flt _=>obtain ⟨t,rfl⟩:=r;rfl
 |ref _=>cases r;rfl
 |ty _=>cases r;rfl
theorem RelV.inj (r:RelV x u) (q:RelV y u):x=y:=yt.inj (r.abs.symm.trans q.abs)
theorem Sv.inj:∀{xs ys:List V} {us:List S2},Sv xs us->Sv ys us->xs=ys
 |_,_,_,.nil,.nil=>rfl
 |_,_,_,.cons r t,.cons r' t'=>by rw [r.inj r',Sv.inj t t']
section
variable {X:Cx} {pins:List (S1×Obj)} {σ:St} {H:Hp} {s:S3} {a:S1} {xs ys:List V}
theorem Ss.of {K} (h:H a=some (.lst xs)):Ss K H a xs:=.inl (.inl h)
theorem Sy.of {K} (h:H a=some (.tup xs)):Sy K H a xs:=.inl (.inl h)
theorem Sm.list (I:Sm X pins σ H s) (h:Ss X.K H a xs):∃its:List S2,Sv xs its/\PlainL s.heap a its.toArray/\xs.length<=S6:=by
 rcases h with h|⟨o,its,n,hk,hc,hd,hs,hz,r⟩
 ·obtain ⟨z,its,n,r,e⟩:=h.ok I.hok
  exact ⟨its,r,⟨_,n,e,rfl,rfl,rfl⟩,z⟩
 ·refine ⟨its.toList,r,⟨o,n,I.kIn a o hk,hc,hd,by simpa using hs⟩,?_⟩
  have e:=r.length
  simp only [ybq] at e
  omega
theorem Sm.tuple (I:Sm X pins σ H s) (h:Sy X.K H a xs):∃its:List S2,Sv xs its/\IsTup s.heap a its.toArray/\xs.length<=S6:=by
 rcases h with h|⟨o,its,n,hk,hc,hs,hz,r⟩
 ·obtain ⟨z,its,r,p⟩:=h.ok I.hok
  exact ⟨its,r,p,z⟩
 ·refine ⟨its.toList,r,⟨o,I.kIn a o hk,hc,n,by simpa using hs⟩,?_⟩
  have e:=r.length
  simp only [ybq] at e
  omega
theorem Sm.list_inj (I:Sm X pins σ H s) (h:Ss X.K H a xs) (h':Ss X.K H a ys):xs=ys:=by
 obtain ⟨its,r,⟨o,n,e,_,_,d⟩,_⟩:=I.list h
 obtain ⟨its',r',⟨o',n',e',_,_,d'⟩,_⟩:=I.list h'
 rw [e] at e';cases e'
 rw [d] at d'
 injection d' with d1 _
 have:=by simpa using congrArg Array.toList d1
 subst this
 exact r.inj r'
theorem Sm.tuple_inj (I:Sm X pins σ H s) (h:Sy X.K H a xs) (h':Sy X.K H a ys):xs=ys:=by
 obtain ⟨its,r,⟨o,e,_,n,d⟩,_⟩:=I.tuple h
 obtain ⟨its',r',⟨o',e',_,n',d'⟩,_⟩:=I.tuple h'
 rw [e] at e';cases e'
 rw [d] at d'
 injection d' with d1 _
 have:=by simpa using congrArg Array.toList d1
 subst this
 exact r.inj r'
end
abbrev Cx.wish (X:Cx) (E:S2->S3->Prop):Cx:={X with xe:=E}
abbrev Cx.nox (X:Cx):Cx:=X.wish λ_ _=>False
theorem Cx.Ok.wish {X:Cx} (ok:X.Ok) (E):(X.wish E).Ok:=
 ⟨ok.mod,ok.kind,ok.glob,ok.blt,ok.above,ok.inj,ok.has,ok.cab,ok.hd,ok.frames,ok.stk,ok.exf,ok.bs,ok.bsz,ok.noex,ok.exfs,ok.funs,ok.frf⟩
theorem Cx.Ok.unwish {X:Cx} (ok:(X.wish E).Ok):X.Ok:=
 ⟨ok.mod,ok.kind,ok.glob,ok.blt,ok.above,ok.inj,ok.has,ok.cab,ok.hd,ok.frames,ok.stk,ok.exf,ok.bs,ok.bsz,ok.noex,ok.exfs,ok.funs,ok.frf⟩
section
variable {X:Cx} {pins:List (S1×Obj)} {σ:St} {H:Hp} {s:S3} {E:S2->S3->Prop}
theorem Sm.wish (I:Sm X pins σ H s) (E):Sm (X.wish E) pins σ H s:=⟨I.ok.wish E,I.os,I.bare,I.base,I.loc,I.cell,I.free,I.freeC,I.pin,I.hok,I.len⟩
theorem Sm.unwish (I:Sm (X.wish E) pins σ H s):Sm X pins σ H s:=⟨I.ok.unwish,I.os,I.bare,I.base,I.loc,I.cell,I.free,I.freeC,I.pin,I.hok,I.len⟩
theorem SP.unwish (h:SP (X.wish E) pins D f s'):SP X pins D f s':=by
 cases f with
 |next=>obtain ⟨σ',H',I,q⟩:=h;exact ⟨σ',H',I.unwish,q⟩
 |brk=>obtain ⟨σ',H',I,q⟩:=h;exact ⟨σ',H',I.unwish,q⟩
 |cont=>obtain ⟨σ',H',I,q⟩:=h;exact ⟨σ',H',I.unwish,q⟩
 |ret u=>obtain ⟨v,σ',H',I,r,q⟩:=h;exact ⟨v,σ',H',I.unwish,r,q⟩
theorem PSs.nox {st} (h:PSs X.nox st t):PSs X st t:=λpins s σ H D I hw=>
 wpAny_mono (h pins s σ H D (I.wish _) hw) (λ_ _ q=>q.unwish) λ_ _ z=>False.elim z
end
section
variable {X:Cx} {st:Stmt} {rest:List Stmt} {t u:TS} {e:Expr} {te:TE} {pos:Pos}
def Ssk:TS:=λD σ H=>D.nx σ H
def Sjs (t u:TS):TS:=λD σ H=>t {D with nx:=u D} σ H
theorem Jma:PSs X [] Ssk:=λ_ _ σ H _ I h=>wpAny_execs_nil ⟨σ,H,I,h⟩
theorem Su (h1:PS X st t) (h2:PSs X rest u):PSs X (st::rest) (Sjs t u):=by
 intro pins s σ H D I h
 refine wpAny_execs_cons (thn (h1 pins s σ H {D with nx:=u D} I h) λf s1 q=>?_)
 cases f with
 |next=>
  obtain ⟨σ',H',I',q⟩:=q
  exact h2 pins s1 σ' H' D I' q
 |ret v=>exact q
 |brk=>exact q
 |cont=>exact q
theorem Sx (h1:PS X st t):PSs X [st] t:=by
 intro pins s σ H D I h
 refine wpAny_execs_cons (thn (h1 pins s σ H D I h) λf s1 q=>?_)
 cases f with
 |next=>exact wpAny_execs_nil q
 |ret v=>exact q
 |brk=>exact q
 |cont=>exact q
theorem Sm.quiet (I:Sm X pins σ H s):interactive X.env=false:=by simp [interactive,I.ok.kind]
def Ssf (te:TE):TS:=λD σ H=>te σ H λ_ H1=>D.nx σ H1
theorem Jnd (he:PE X e te) (hs:swapsWith e none pos.line X.env=pure false:=by rfl):PS X (.Expr e pos) (Ssf te):=by
 intro pins s σ H D I h
 exact wpAny_Expr_any (thn (he pins s σ H _ I h) λv s1 ⟨x,H1,I1,r1,q1⟩=>⟨σ,H1,I1,q1⟩) I.quiet hs
def Sxa (te:TE):TS:=λD σ H=>te σ H D.rt
theorem Jm5 (he:PE X e te):PS X (.Return (some e) pos) (Sxa te):=by
 intro pins s σ H D I h
 exact wpAny_Return_some (thn (he pins s σ H _ I h) λv s1 ⟨x,H1,I1,r1,q1⟩=>⟨x,σ,H1,I1,r1,q1⟩)
def Sx7 (c:TT) (t u:TS):TS:=λD σ H=>c σ H λb H1=>if b=true then t D σ H1 else u D σ H1
theorem Jmr (hc:PT X c tc) (ha:PSs X a t) (hb:PSs X b u):PS X (.If c a b pos) (Sx7 tc t u):=by
 intro pins s σ H D I h
 refine wpAny_If (thn (hc pins s σ H _ I h) λd s1 zq=>?_)
 obtain ⟨H1,I1,q1⟩:=zq
 cases d with
 |true=>exact ha pins s1 σ H1 D I1 q1
 |false=>exact hb pins s1 σ H1 D I1 q1
end
abbrev TG:=V->St->Hp->(St->Hp->Prop)->Prop
abbrev TGs:=List V->St->Hp->(St->Hp->Prop)->Prop
def PG (X:Cx) (target:Expr) (t:TG):Prop:=
 ∀(pins:List (S1×Obj)) (s:S3) (σ:St) (H:Hp) (v:V) (u:S2) (Q:St->Hp->Prop),Sm X pins σ H s->RelV v u->t v σ H Q->
  Sc (model X.prog X.w) X.A (assign target X.env u) (λ_ s'=>∃σ' H',Sm X pins σ' H' s'/\Q σ' H') X.xe s
def PGs (X:Cx) (ts:List Expr) (t:TGs):Prop:=
 ∀(pins:List (S1×Obj)) (s:S3) (σ:St) (H:Hp) (vs:List V) (us:List S2) (Q:St->Hp->Prop),Sm X pins σ H s->Sv vs us->t vs σ H Q->
  Sc (model X.prog X.w) X.A (assignInOrder ((assignEach ts X.env).map (·.2)) us) (λ_ s'=>∃σ' H',Sm X pins σ' H' s'/\Q σ' H') X.xe s
abbrev Sly:=V->V->V->Hp->(Hp->Prop)->Prop
def Slv (X:Cx) (t:Sly):Prop:=
 ∀(pins:List (S1×Obj)) (s:S3) (σ:St) (H:Hp) (o i v:V) (ov iv u:S2) (Q:Hp->Prop),Sm X pins σ H s->RelV o ov->RelV i iv->RelV v u->t o i v H Q->
  Sc (model X.prog X.w) X.A (setItem ov iv u) (λ_ s'=>∃H',Sm X pins σ H' s'/\Q H') X.xe s
abbrev TIp:=V->V->Hp->VK->Prop
def PIp (X:Cx) (op:Operator) (t:TIp):Prop:=
 ∀(pins:List (S1×Obj)) (s:S3) (σ:St) (H:Hp) (x y:V) (v u:S2) (Q:VK),Sm X pins σ H s->RelV x v->RelV y u->t x y H Q->
  Sc (model X.prog X.w) X.A (inplaceOp op v u) (EP X pins σ Q) X.xe s
section
variable {X:Cx} {pos:Pos}
def Jog (i:Nat):TG:=λv σ H Q=>Q (σ.set i (some v)) H
theorem Jm3 (hN:X.N.Nodup) (hi:X.N[i]?=some x) (hx:Loc X.env.scope x) (hf:X.fn x=true\/X.env.scope.names.lookup x=some .local:=by first|exact .inl rfl|exact .inr rfl|assumption):PG X (.Name x pos) (Jog i):=by
 intro pins s σ H v u Q I r h
 exact wpAny_assign_Name (Jsg I hN hi hx r (λs' I'=>⟨_,H,I',h⟩) hf)
def Smf:TGs:=λvs σ H Q=>vs= []/\Q σ H
def Jtb (t:TG) (u:TGs):TGs:=λvs σ H Q=>∃v r,vs=v::r/\t v σ H λσ' H'=>u r σ' H' Q
theorem Jnv:PGs X [] Smf:=by
 rintro pins s σ H vs us Q I r ⟨e,h⟩
 subst e
 cases r
 exact assignInOrder_nil ⟨σ,H,I,h⟩
theorem Jmb (h1:PG X e t) (h2:PGs X es u)
  (hs:(assignEach (e::es) X.env).map (·.2)=assign e X.env::(assignEach es X.env).map (·.2):=by rfl):PGs X (e::es) (Jtb t u):=by
 rintro pins s σ H vs us Q I r ⟨v,vr,e1,h⟩
 subst e1
 cases r with
 |cons r rr=>
  rw [hs]
  exact assignInOrder_cons (thn (h1 pins s σ H _ _ _ I r h) λ_ s1 ⟨σ1,H1,I1,q1⟩=>h2 pins s1 σ1 H1 _ _ Q I1 rr q1)
inductive Sjh (K:Sd) (n:Nat) (t:TGs) (v:V) (σ:St) (H:Hp) (Q:(St->Hp->Prop)):Prop where
 |mk (a:_) (xs:_) (_:v= .ref a) (_:Sy K H a xs) (_:xs.length=n) (_:t xs σ H Q)
theorem Jqe {k} (hc:X.calm=true) (h:PGs X es t)
  (hn:(assignEach es X.env).length=n:=by rfl) (hst:(assignEach es X.env).findIdx? (·.1)=none:=by rfl):PG X (.Tuple es k pos) (Sjh X.K n t):=by
 rintro pins s σ H v u Q I r ⟨a,xs,e1,hq,hl,hw⟩
 subst e1
 cases r
 obtain ⟨its,rv,ht,hz⟩:=I.tuple hq
 refine assign_Tuple_tuple (I.ok.hd hc) ht (by simp [hn,<-hl,rv.length]) hst λh' hx=>?_
 have I1:Sm X pins σ H {s with heap:=h'}:=I.kept λb o e=>hx b o (yz (yk e)) e
 exact h pins _ σ H xs _ Q I1 (by simpa using rv) hw
def Swc (to ti:TE) (t:Sly):TG:=λv σ H Q=>to σ H λo H1=>ti σ H1 λi H2=>t o i v H2 λH3=>Q σ H3
theorem Jzt (ho:PE X o to) (hi:PE X i ti) (hs:Slv X t)
  (ha:∀v,assign (.Subscript o i pos) X.env v=(do
   let ov<-holding [v] (eval o X.env)
   let iv<-holding [v,ov] (eval i X.env)
   standAt pos
   holding [v,ov,iv] (setItem ov iv v)
   release [v,ov,iv] []):=by intro _;rfl):PG X (.Subscript o i pos) (Swc to ti t):=by
 intro pins s σ H v u Q I r h
 exact S4 (wpAny_holding (thn (ho pins s σ H _ I h) λov s1 ⟨x,H1,I1,r1,q1⟩=>S4 (wpAny_holding (thn (hi pins s1 σ H1 _ I1 q1) λiv s2 ⟨y,H2,I2,r2,q2⟩=>S4 (wpAny_standAt (S4 (wpAny_holding (thn (hs pins s2 σ H2 x y v ov iv u _ I2 r1 r2 r q2) λ_ s3 ⟨H3,I3,q3⟩=>wpAny_release ⟨σ,H3,I3,q3⟩))))))))
def Ssc (te:TE) (g:TG):TS:=λD σ H=>te σ H λx H1=>g x σ H1 D.nx
theorem Jzx (he:PE X e te) (hg:PG X tg g) (hs:swapsWithSole [tg] e pos.line X.env=pure false:=by rfl) (hw:swappedStores [tg] e X.env=pure none:=by rfl)
  (h1:(assignEach [tg] X.env).map (·.2)= [assign tg X.env]:=by rfl):PS X (.Assign [tg] e pos) (Ssc te g):=by
 intro pins s σ H D I h
 refine wpAny_Assign_stores (thn (he pins s σ H _ I h) λv s1 zq=>?_) hs hw
 obtain ⟨x,H1,I1,r1,q1⟩:=zq
 rw [h1]
 exact thn (hg pins s1 σ H1 x v _ I1 r1 q1) λ_ s2 q=>q
theorem Jm7 (hN:X.N.Nodup) (hi:X.N[i]?=some x) (hx:Loc X.env.scope x) (he:PE X e te) (hs:swapsWith e (some (.Name x pos')) pos.line X.env=pure false:=by rfl) (hf:X.fn x=true\/X.env.scope.names.lookup x=some .local:=by first|exact .inl rfl|exact .inr rfl|assumption):
  PS X (.Assign [.Name x pos'] e pos) (Ssc te (Jog i)):=by
 intro pins s σ H D I h
 exact wpAny_Assign_Name (thn (he pins s σ H _ I h) λv s1 ⟨y,H1,I1,r1,q1⟩=>Jsg I1 hN hi hx r1 (λs2 I2=>⟨_,H1,I2,q1⟩) hf) hs
inductive Sx2 (i:Nat) (te:TE) (ti:TIp) (D:Sc1) (σ:St) (H:Hp):Prop where
 |mk (x:_) (_:σ[i]?=some (some x)) (_:te σ H λy H1=>ti x y H1 λz H2=>D.nx (σ.set i (some z)) H2)
theorem Jzy (hN:X.N.Nodup) (hi:X.N[i]?=some x) (hx:Loc X.env.scope x) (he:PE X e te) (ho:PIp X op ti) (hf:X.fn x=true\/X.env.scope.names.lookup x=some .local:=by first|exact .inl rfl|exact .inr rfl|assumption):
  PS X (.AugAssign (.Name x pos') op e pos) (Sx2 i te ti):=by
 rintro pins s σ H D I ⟨v,e1,h⟩
 obtain ⟨m,hn,hl⟩:=I.loc
 have vis:Vis X.env.scope x:=by rcases hx with k|k;exact .inl k;exact .inr (.inl k)
 obtain ⟨u,r,l⟩:=hl i x v hi e1 vis
 refine wpAny_AugAssign_Name ?_
 have go:Sc (model X.prog X.w) X.A (eval e X.env) (λw s₂=>Sc (model X.prog X.w) X.A (inplaceOp op u w) (λr s₃=>Sc (model X.prog X.w) X.A (storeName X.env x r) (λ_=>SP X pins D .next) X.xe s₃) X.xe s₂) X.xe s:=thn (he pins s σ H _ I h) λw s1 ⟨y,H1,I1,r1,q1⟩=>thn (ho pins s1 σ H1 v y u w _ I1 r r1 q1) λz s2 ⟨zv,H2,I2,r2,q2⟩=>Jsg I2 hN hi hx r2 (λs3 I3=>⟨_,H2,I3,q2⟩) hf
 rcases l with ⟨hk,hm⟩|⟨hk,c,hc,hcell⟩
 ·exact wpAny_loadName_local I.ok.kind hk hn hm go
 ·rcases hk with hk|hk
  ·exact wpAny_loadName_cell I.ok.kind hk hc hcell go
  ·rcases hx with k|k
   ·have:X.env.scope.names.lookup x=some .free:=hk
    rw [k] at this;cases this
   ·have:X.env.scope.names.lookup x=some .free:=hk
    rw [k] at this;cases this
def Ssd (to ti te:TE) (tget:V->V->Hp->VK->Prop) (tip:TIp) (tset:Sly):TS:=λD σ H=>to σ H λo H1=>ti σ H1 λi H2=>tget o i H2 λx H3=>te σ H3 λy H4=>tip x y H4 λz H5=>tset o i z H5 λH6=>D.nx σ H6
def Squ (X:Cx) (t:V->V->Hp->VK->Prop):Prop:=
 ∀(pins:List (S1×Obj)) (s:S3) (σ:St) (H:Hp) (o i:V) (ov iv:S2) (Q:VK),Sm X pins σ H s->RelV o ov->RelV i iv->t o i H Q->
  Sc (model X.prog X.w) X.A (getItem ov iv) (EP X pins σ Q) X.xe s
theorem Yeg (ho:PE X o to) (hi:PE X i ti) (hg:Squ X tget) (he:PE X e te) (hp:PIp X op tip) (hs:Slv X tset)
  (ha:∀ov iv new,augStore i ov iv new=(do holding [new,ov,iv] (setItem ov iv new);release [new,ov,iv] [];pure .next):=by intros;rfl):PS X (.AugAssign (.Subscript o i tpos) op e pos) (Ssd to ti te tget tip tset):=by
 intro pins s σ H D I h
 exact wpAny_AugAssign_SubscriptAny (thn (ho pins s σ H _ I h) λov s1 ⟨x1,H1,I1,r1,q1⟩=>thn (hi pins s1 σ H1 _ I1 q1) λiv s2 ⟨x2,H2,I2,r2,q2⟩=>thn (hg pins s2 σ H2 x1 x2 ov iv _ I2 r1 r2 q2) λold s3 ⟨x3,H3,I3,r3,q3⟩=>thn (he pins s3 σ H3 _ I3 q3) λv s4 ⟨x4,H4,I4,r4,q4⟩=>thn (hp pins s4 σ H4 x3 x4 old v _ I4 r3 r4 q4) λnew s5 ⟨x5,H5,I5,r5,q5⟩=>thn (hs pins s5 σ H5 x1 x2 x5 ov iv new _ I5 r1 r2 r5 q5) λ_ s6 ⟨H6,I6,q6⟩=>⟨σ,H6,I6,q6⟩) ha
inductive ipI (f:Int->Int->Int) (x:V) (y:V) (H:Hp) (Q:VK):Prop where
 |mk (i:_) (j:_) (_:x= .int i) (_:y= .int j) (_:Q (.int (f i j)) H)
theorem Smi:PIp X .Add (ipI λi j=>i+j):=by
 rintro pins s σ H x y v u Q I r1 r2 ⟨i,j,e1,e2,q⟩
 subst e1;subst e2
 obtain ⟨t,rfl⟩:=r1
 obtain ⟨t',rfl⟩:=r2
 exact iadd_int ⟨.int _,H,I.tok _,⟨_,rfl⟩,q⟩
theorem Smj:PIp X .Sub (ipI λi j=>i - j):=by
 rintro pins s σ H x y v u Q I r1 r2 ⟨i,j,e1,e2,q⟩
 subst e1;subst e2
 obtain ⟨t,rfl⟩:=r1
 obtain ⟨t',rfl⟩:=r2
 exact isub_int ⟨.int _,H,I.tok _,⟨_,rfl⟩,q⟩
def Soj (c:TT) (tb:TS):TS:=λD σ H=>∃W:Nat->St->Hp->Prop,(∃m,W m σ H)/\∀m σ H,W m σ H->
 c σ H λb H1=>if b=true then ∃N:St->Hp->Prop,(∀σ' H',N σ' H'->∃m',m' < m/\W m' σ' H')/\tb {D with nx:=N,ct:=N,bk:=D.nx} σ H1 else D.nx σ H1
theorem Ycf (hp:PassesOwn (model X.prog X.w) X.A X.env X.xe) (hc:PT X c tc) (hb:PSs X body tb):PS X (.While c body [] pos) (Soj tc tb):=by
 rintro pins s σ H D I ⟨W,⟨m0,w0⟩,turn⟩
 refine wpAny_While (codeAny_whileLoop (λn s'=>∃σ' H',Sm X pins σ' H' s'/\W n σ' H') ?_ m0 ⟨σ,H,I,w0⟩)
 rintro n s1 ⟨σ1,H1,I1,w1⟩
 refine wpAny_passesOwn hp (thn (hc pins s1 σ1 H1 _ I1 (turn n σ1 H1 w1)) λb s2 zq=>?_)
 obtain ⟨H2,I2,q2⟩:=zq
 cases b with
 |true=>
  obtain ⟨N,hN,q2⟩:=q2
  refine wpAny_passesOwn hp (thn (hb pins s2 σ1 H2 _ I2 q2) λf s3 q3=>?_)
  cases f with
  |next=>
   obtain ⟨σ3,H3,I3,n3⟩:=q3
   obtain ⟨m',hm,w3⟩:=hN σ3 H3 n3
   exact ⟨m',hm,σ3,H3,I3,w3⟩
  |cont=>
   obtain ⟨σ3,H3,I3,n3⟩:=q3
   obtain ⟨m',hm,w3⟩:=hN σ3 H3 n3
   exact ⟨m',hm,σ3,H3,I3,w3⟩
  |brk=>exact q3
  |ret v=>exact q3
 |false=>
  exact wpAny_execs_nil ⟨σ1,H2,I2,q2⟩
end
structure It where
 go:Nat->Hp->Prop
 yld:Nat->Hp->V->Hp->Prop
 stop:Nat->Hp->Prop
def Jsi (X:Cx) (pins:List (S1×Obj)) (H:Hp) (b:S1):Prop:=
 H b=none/\b≠X.env.locals/\b∉X.fs/\(b∈X.ex\/X.s₀.heap.objs.size<=b)/\(∀x c,X.env.cells.lookup x=some c->c≠b)/\∀p∈X.pn++pins,p.1≠b
theorem Sm.fpOk {σ:St} {H H'} {s} {b:S1} (I:Sm X pins σ H s) (hb:s.heap.objs.size<=b) (hn:H' b=none):Jsi X pins H' b:=by
 refine ⟨hn,ybr (yao I.lt hb),I.nofs hb,.inr (yac I.sz hb),λx c e z=>?_,λp hp z=>?_⟩
 ·obtain ⟨v,q⟩:=I.cell x c e
  exact absurd (yao q.lt (by rw [z];exact hb)) (ybe _)
 ·exact absurd (yao (yk (I.pin p hp).1) (by rw [z];exact hb)) (ybe _)
structure Turn (P:S7) (w:S9) (K:Sd) (tg:Expr) (J:It) (fp:List S1) (it:S1) (tn:Nat->Sb->Prop):Prop where
 mem:it∈fp
 obj:∀i h,tn i h->∀b∈fp,∃o,h.get? b=some o/\∀v,o.data≠ .cell v
 keep:∀i h h',tn i h->(∀b∈fp,∀o,h.get? b=some o->h'.get? b=some o)->tn i h'
 item:∀(X:Cx),X.prog=P->X.w=w->X.K=K->X.calm=true->∀(i:Nat) (pins:List (S1×Obj)) (s:S3) (σ:St) (H:Hp) (E:S2->S3->Prop),Sm X pins σ H s->(∀b∈fp,Jsi X pins H b)->tn i s.heap->J.go i H->
  Sc (model P w) X.A (pyNext (.ref it)) (λr s1=>∃u,r=some u/\
   Sc (model P w) X.A (letOwnedTupleGo tg (.ref it) u) (λ_ s2=>∃x H',Sm X pins σ H' s2/\RelV x u/\J.yld i H x H'/\tn (i+1) s2.heap/\∀b∈fp,H' b=none) E s1) E s
 done:∀(X:Cx),X.prog=P->X.w=w->X.K=K->X.calm=true->∀(i:Nat) (pins:List (S1×Obj)) (s:S3) (σ:St) (H:Hp) (E:S2->S3->Prop),Sm X pins σ H s->(∀b∈fp,Jsi X pins H b)->tn i s.heap->J.stop i H->
  Sc (model P w) X.A (pyNext (.ref it)) (λr s1=>r=none/\Sm X pins σ H s1) E s
 self:∀(A:Sa) (i:Nat) (s:S3) (Q:S2->S3->Prop) (E:S2->S3->Prop),tn i s.heap->Q (.ref it) s->Sc (model P w) A (pyIter (.ref it)) Q E s
abbrev TI:=St->Hp->(It->Hp->Prop)->Prop
def PIE (X:Cx) (pins:List (S1×Obj)) (σ:St) (tg:Expr) (R:It->Hp->Prop) (itv:S2) (s2:S3):Prop:=
 ∃(it:S1) (fp:List S1) (tn:Nat->Sb->Prop) (J:It) (H':Hp),itv= .ref it/\Sm X pins σ H' s2/\Turn X.prog X.w X.K tg J fp it tn/\tn 0 s2.heap/\(∀b∈fp,Jsi X pins H' b)/\R J H'
def PI (X:Cx) (tg iter:Expr) (wi:TI):Prop:=
 ∀(pins:List (S1×Obj)) (s:S3) (σ:St) (H:Hp) (R:It->Hp->Prop),Sm X pins σ H s->wi σ H R->
  Sc (model X.prog X.w) X.A (eval iter X.env) (λv s1=>Sc (model X.prog X.w) X.A (pyIter v) (PIE X pins σ tg R) X.xe s1) X.xe s
theorem Yh {s} {tg} {it} {u} {o} {n} {vs} {Q} (ho:s.heap.get? it=some o) (hc:o.cls= .type n) (hd:o.data= .fields vs)
  (hn: ["enumerate","zip","dict_itemiterator","dict_reverseitemiterator","odict_iterator","itertools.zip_longest","itertools.pairwise"].contains n=false) (hQ:Q () s):Sc M A (letOwnedTupleGo tg (.ref it) u) Q E s:=by
 cases tg <;> first
  |exact S5 hQ
  | (cases u <;> first
    |exact S5 hQ
    | (refine S4 (wpAny_load ho ?_)
       rw [hc,hd]
       show Sc M A (if (["enumerate","zip","dict_itemiterator","dict_reverseitemiterator","odict_iterator","itertools.zip_longest","itertools.pairwise"].contains n&&vs[0]?==some (rawInt _))=true then _ else _) Q E s
       rw [if_neg (by intro h;rw [hn] at h;cases h)]
       exact S5 hQ))
def Itl (K:Sd) (a:S1):It:=
 ⟨λi H=>∃xs x,Ss K H a xs/\xs[i]?=some x,λi H x H'=>H'=H/\∀xs,Ss K H a xs->xs[i]?=some x,λi H=>∃xs,Ss K H a xs/\xs.length<=i⟩
def Itt (K:Sd) (a:S1):It:=
 ⟨λi H=>∃xs x,Sy K H a xs/\xs[i]?=some x,λi H x H'=>H'=H/\∀xs,Sy K H a xs->xs[i]?=some x,λi H=>∃xs,Sy K H a xs/\xs.length<=i⟩
def Itr (lo:Int) (n:Nat):It:=⟨λi _=>i < n,λi H x H'=>H'=H/\x= .int (lo+i),λi _=>n<=i⟩
theorem Jwp {K} (a it):Turn P w K tg (Itl K a) [it] it (λi h=>h.IsListIter it a i) where
 mem:=by simp
 obj:=λi h st b hb=>by
  have e:=by simpa using hb
  subst e
  obtain ⟨o,e,c,d⟩:=st
  exact ⟨o,e,λv z=>by rw [d] at z;cases z⟩
 keep:=λi h h' st k=>st.at λo e=>k it (by simp) o e
 item:=by
  intro X hP hw hK hc i pins s σ H E I hf st hg
  subst hP hw hK
  obtain ⟨xs,x,hq,hx⟩:=hg
  obtain ⟨its,rv,p,hz⟩:=I.list hq
  obtain ⟨u,hu,ru⟩:=rv.get hx
  obtain ⟨f0,f1,f2,f3,f4,f5⟩:=hf it (by simp)
  refine wpAny_pyNext_list_item st p.isList (by simpa using hu) λh' st' sb=>?_
  have I1:Sm X pins σ H {s with heap:=h'}:=I.turned (λb o hb e=>(sb.2 b hb).trans e) f0 f1 f3 f4 f5
  obtain ⟨o,e,c,d⟩:=id st'
  exact ⟨u,rfl,Yh e c d (by decide) ⟨x,H,I1,ru,⟨rfl,λys hy=>by rw [I.list_inj hy hq];exact hx⟩,st',λb hb=>(hf b hb).1⟩⟩
 done:=by
  intro X hP hw hK hc i pins s σ H E I hf st hg
  subst hP hw hK
  obtain ⟨xs,hq,hx⟩:=hg
  obtain ⟨its,rv,p,hz⟩:=I.list hq
  obtain ⟨f0,f1,f2,f3,f4,f5⟩:=hf it (by simp)
  have hl:=rv.length
  exact wpAny_pyNext_list_end (I.ok.hd hc) st p.isList (by simp;omega) λh' eb=>⟨rfl,I.turned (λb o hb e=>eb b o hb e) f0 f1 f3 f4 f5⟩
 self:=λ_ _ _ _ _ st h=>wpAny_pyIter_listiter st h
theorem Jvc {K} (a it):Turn P w K tg (Itt K a) [it] it (λi h=>h.IsTupleIter it a i) where
 mem:=by simp
 obj:=λi h st b hb=>by
  have e:=by simpa using hb
  subst e
  obtain ⟨o,e,c,d⟩:=st
  exact ⟨o,e,λv z=>by rw [d] at z;cases z⟩
 keep:=λi h h' st k=>st.at λo e=>k it (by simp) o e
 item:=by
  intro X hP hw hK hc i pins s σ H E I hf st hg
  subst hP hw hK
  obtain ⟨xs,x,hq,hx⟩:=hg
  obtain ⟨its,rv,p,hz⟩:=I.tuple hq
  obtain ⟨u,hu,ru⟩:=rv.get hx
  obtain ⟨f0,f1,f2,f3,f4,f5⟩:=hf it (by simp)
  refine wpAny_pyNext_tuple_item st (p) (by simpa using hu) λh' st' sb=>?_
  have I1:Sm X pins σ H {s with heap:=h'}:=I.turned (λb o hb e=>(sb.2 b hb).trans e) f0 f1 f3 f4 f5
  obtain ⟨o,e,c,d⟩:=id st'
  exact ⟨u,rfl,Yh e c d (by decide) ⟨x,H,I1,ru,⟨rfl,λys hy=>by rw [I.tuple_inj hy hq];exact hx⟩,st',λb hb=>(hf b hb).1⟩⟩
 done:=by
  intro X hP hw hK hc i pins s σ H E I hf st hg
  subst hP hw hK
  obtain ⟨xs,hq,hx⟩:=hg
  obtain ⟨its,rv,p,hz⟩:=I.tuple hq
  obtain ⟨f0,f1,f2,f3,f4,f5⟩:=hf it (by simp)
  have hl:=rv.length
  exact wpAny_pyNext_tuple_end (I.ok.hd hc) st (p) (by simp;omega) λh' eb=>⟨rfl,I.turned (λb o hb e=>eb b o hb e) f0 f1 f3 f4 f5⟩
 self:=λ_ _ _ _ _ st h=>wpAny_pyIter_tupleiter st h
theorem Y7 {K} (it) (lo) (n):Turn P w K tg (Itr lo n) [it] it (λi h=>IsRangeIter h it (lo+i*1) (n - i) 1) where
 mem:=by simp
 obj:=λi h st b hb=>by
  have e:=by simpa using hb
  subst e
  exact ⟨_,st,λv z=>by
   cases z⟩
 keep:=λi h h' st k=>k it (by simp) _ st
 item:=by
  intro X hP hw hK hc i pins s σ H E I hf st hg
  obtain ⟨f0,f1,f2,f3,f4,f5⟩:=hf it (by simp)
  refine (Walks.range (I.ok.hd hc) it lo 1 n).item i s _ _ hg st λv h' tk hv st' kk=>?_
  obtain ⟨t,rfl⟩:=hv
  have I1:Sm X pins σ H {s with heap:=h',toks:=tk}:=I.turned (λb o hb e=>kk b o (by simpa using hb) e) f0 f1 f3 f4 f5
  refine ⟨_,rfl,Yh st' rfl rfl (by decide) ⟨.int (lo+i),H,I1,⟨t,?_⟩,⟨rfl,rfl⟩,st',λb hb=>(hf b hb).1⟩⟩
  rw [Int.mul_one]
 done:=by
  intro X hP hw hK hc i pins s σ H E I hf st hg
  obtain ⟨f0,f1,f2,f3,f4,f5⟩:=hf it (by simp)
  exact wpAny_pyNext_range_end (I.ok.hd hc) st (by have:n<=i:=hg;omega) λh' eb=>⟨rfl,I.turned (λb o hb e=>eb b o hb e) f0 f1 f3 f4 f5⟩
 self:=λ_ _ _ _ _ st h=>wpAny_pyIter_rangeiter st h
section
variable {X:Cx} {tg:Expr}
def Srd (K:Sd) (tl:TE):TI:=λσ H R=>tl σ H λx H1=>∃a,x= .ref a/\(∃xs,Ss K H1 a xs)/\R (Itl K a) H1
def Swh (K:Sd) (tl:TE):TI:=λσ H R=>tl σ H λx H1=>∃a,x= .ref a/\(∃xs,Sy K H1 a xs)/\R (Itt K a) H1
theorem Jml (hl:PE X l tl):PI X tg l (Srd X.K tl):=by
 intro pins s σ H R I h
 refine thn (hl pins s σ H _ I h) λv s1 zq=>?_
 obtain ⟨x,H1,I1,r1,q1⟩:=zq
 obtain ⟨a,e,⟨xs,hq⟩,q⟩:=q1
 subst e
 cases r1
 obtain ⟨its,rv,p,hz⟩:=I1.list hq
 refine wpAny_pyIter_list p.isList ⟨s1.heap.objs.size,[s1.heap.objs.size],_,_,H1,rfl,I1.kept λb o e=>ym _ e,Jwp a _,⟨_,yx _ rfl,rfl,rfl⟩,λb hb=>?_,q⟩
 have e:=by simpa using hb
 subst e
 exact I1.fpOk (yg _) (I1.hok.fresh (yg _))
theorem Jt0 (hl:PE X l tl):PI X tg l (Swh X.K tl):=by
 intro pins s σ H R I h
 refine thn (hl pins s σ H _ I h) λv s1 zq=>?_
 obtain ⟨x,H1,I1,r1,q1⟩:=zq
 obtain ⟨a,e,⟨xs,hq⟩,q⟩:=q1
 subst e
 cases r1
 obtain ⟨its,rv,p,hz⟩:=I1.tuple hq
 refine wpAny_pyIter_tuple (p) ⟨s1.heap.objs.size,[s1.heap.objs.size],_,_,H1,rfl,I1.kept λb o e=>ym _ e,Jvc a _,⟨_,yx _ rfl,rfl,rfl⟩,λb hb=>?_,q⟩
 have e:=by simpa using hb
 subst e
 exact I1.fpOk (yg _) (I1.hok.fresh (yg _))
theorem Ycj {σ:St} {H} {s} {R} {E} {lo hi} {t u v} {tk} (I:Sm X pins σ H s) (h1: -(2^62)<=lo) (h2:lo < 2^62) (h3: -(2^62)<=hi) (h4:hi < 2^62)
  (q:R (Itr lo (hi - lo).toNat) H):Sc (model X.prog X.w) X.A (pyIter (.ref s.heap.objs.size)) (PIE X pins σ tg R) E {s with heap:=s.heap.push {cls:=.type "range",data:=.fields #[.int lo t,.int hi u,.int 1 v]},toks:=tk}:=by
 refine wpAny_pyIter_range (IsRange.new ..) (small_one h1 h2 h3 h4) ?_
 have I1:Sm X pins σ H {s with heap:=s.heap.push {cls:=.type "range",data:=.fields #[.int lo t,.int hi u,.int 1 v]},toks:=tk}:=I.kept λb o e=>ym _ e
 refine ⟨(s.heap.push {cls:=.type "range",data:=.fields #[.int lo t,.int hi u,.int 1 v]}).objs.size,[(s.heap.push {cls:=.type "range",data:=.fields #[.int lo t,.int hi u,.int 1 v]}).objs.size],_,_,H,rfl,
  I1.kept λb o e=>ym _ e,Y7 _ lo (hi - lo).toNat,?_,λb hb=>?_,q⟩
 ·have e1:lo+(0:Nat)*1=lo:=by simp
  have e2:(hi - lo).toNat - (0:Nat)=Builtin.Range.rangeSize lo hi 1:=by rw [rangeSize_one];split <;> omega
  rw [e1,e2]
  exact yx _ rfl
 ·have e:b=(s.heap.push {cls:=.type "range",data:=.fields #[.int lo t,.int hi u,.int 1 v]}).objs.size:=by simpa using hb
  subst e
  exact I1.fpOk (yg _) (I1.hok.fresh (yg _))
def Sre (ta:TA):TI:=λσ H R=>ta σ H λvs H1=>∃j:Int,vs= [.int j]/\ -(2^62)<=j/\j < 2^62/\R (Itr 0 j.toNat) H1
theorem Jnp (hg:Gl X "range") (hm:X.mg "range" =none) (ha:PA X [a] ta) (hs:starEach [a] X.env= [(false,eval a X.env)]:=by rfl):PI X tg (.Call (.Name "range" p) [a] [] pos) (Sre ta):=by
 intro pins s σ H R I h
 refine Call_ (Jpm I hg hm boot_range (PyProof.Rows.callWith_type1 (thn (ha pos pins s σ H _ I h) λus s1 zq=>?_) hs rfl))
 obtain ⟨vs,H1,I1,r1,q1⟩:=zq
 obtain ⟨j,e,q1,q2,q⟩:=q1
 subst e
 cases r1 with
 |cons r rr=>
  cases rr
  obtain ⟨t,rfl⟩:=r
  exact call_range_1 (Ycj I1 (by omega) (by omega) q1 q2 (by simpa using q))
def Sx5 (wi:TI) (g:TG) (tb:TS):TS:=λD σ H=>wi σ H λJ H1=>∃W:Nat->Nat->St->Hp->Prop,(∃m,W 0 m σ H1)/\∀i m σ H,W i m σ H->
 (J.stop i H/\D.nx σ H)\/(J.go i H/\∃N:St->Hp->Prop,(∀σ' H',N σ' H'->∃m',m' < m/\W (i+1) m' σ' H')/\∀x H',J.yld i H x H'->g x σ H' λσ2 H2=>tb {D with nx:=N,ct:=N,bk:=D.nx} σ2 H2)
def Jv4 (fp:List S1) (h:Sb):List (S1×Obj):=fp.filterMap λb=>(h.get? b).map λo=>(b,o)
theorem Jpn (hb:b∈fp) (e:h.get? b=some o):(b,o)∈Jv4 fp h:=List.mem_filterMap.mpr ⟨b,hb,by rw [e];rfl⟩
theorem Yae (hp:p∈Jv4 fp h):p.1∈fp/\h.get? p.1=some p.2:=by
 obtain ⟨b,hb,e⟩:=List.mem_filterMap.mp hp
 cases q:h.get? b with
 |none=>rw [q] at e;cases e
 |some o=>
  rw [q] at e
  have e':=yt.inj e
  subst e'
  exact ⟨hb,q⟩
theorem Sm.pinned (I:Sm X pins σ H s) (hf:∀b∈fp,Jsi X pins H b) (ho:∀b∈fp,∃o,s.heap.get? b=some o/\∀v,o.data≠ .cell v):Sm X (pins++Jv4 fp s.heap) σ H s:=
 I.pins_of λp hp=>(yba.mp hp).elim (λz=>I.pin p (ybg _ z)) λz=>by
  obtain ⟨hb,e⟩:=Yae z
  obtain ⟨f0,f1,f2,_⟩:=hf p.1 hb
  obtain ⟨o,e',d⟩:=ho p.1 hb
  rw [e] at e';cases e'
  exact ⟨e,f0,f1,f2,d⟩
theorem Sm.unpinned (I:Sm X (pins++pl) σ H s):Sm X pins σ H s:=I.pins_of λp hp=>I.pin p (ybg _ (ycq _ hp))
theorem Jn5 (hp:PassesOwn (model X.prog X.w) X.A X.env X.xe) (hc:X.calm=true) (hi:PI X tg iter wi) (hg:PG X tg g) (hb:PSs X body tb)
  (hs:∀x,foldedSetIterable iter X.env x=pure x:=by intro _;rfl):PS X (.For tg iter body [] pos) (Sx5 wi g tb):=by
 intro pins s σ H D I h
 refine wpAny_For (thn (hi pins s σ H _ I h) λv s1 h1=>thn h1 λitv s2 h2=>?_) hs
 obtain ⟨it,fp,tn,J,H2,e,I2,T,st2,f2,W,⟨m0,w0⟩,turn⟩:=h2
 subst e
 have stat:∀{H':Hp},(∀b∈fp,H' b=none)->∀b∈fp,Jsi X pins H' b:=λhn b hb=>⟨hn b hb,(f2 b hb).2⟩
 refine codeAny_forLoop_any (λn s'=>∃i σ' H',Sm X pins σ' H' s'/\tn i s'.heap/\(∀b∈fp,H' b=none)/\W i n σ' H') ?_ m0 ⟨0,σ,H2,I2,st2,λb hb=>(f2 b hb).1,w0⟩
 rintro n s3 ⟨i,σ3,H3,I3,st3,fr3,w3⟩
 rcases turn i n σ3 H3 w3 with ⟨stop,qn⟩|⟨go,N,hN,step⟩
 ·refine wpAny_passesOwn hp (thn (T.done X rfl rfl rfl hc i pins s3 σ3 H3 X.xe I3 (stat fr3) st3 stop) λr s4 ⟨hr,I4⟩=>?_)
  subst hr
  exact wpAny_execs_nil ⟨σ3,H3,I4,qn⟩
 ·refine wpAny_passesOwn hp (thn (T.item X rfl rfl rfl hc i pins s3 σ3 H3 X.xe I3 (stat fr3) st3 go) λr s4 ⟨u,hr,h4⟩=>?_)
  subst hr
  refine wpAny_passesOwn hp (thn h4 λ_ s5 ⟨x,H5,I5,r5,y5,st5,fr5⟩=>wpAny_passesOwn hp (thn (hg _ s5 σ3 H5 x u _ (I5.pinned (stat fr5) (T.obj _ _ st5)) r5 (step x H5 y5)) λ_ s6 ⟨σ6,H6,I6,q6⟩=>wpAny_passesOwn hp (thn (hb _ s6 σ6 H6 _ I6 q6) λf s7 q7=>?_)))
  have again:∀{σ7:St} {H7:Hp},Sm X (pins++Jv4 fp s5.heap) σ7 H7 s7->N σ7 H7->∃m,m < n/\∃i σ' H',Sm X pins σ' H' s7/\tn i s7.heap/\(∀b∈fp,H' b=none)/\W i m σ' H':=λ{σ7 H7} I7 n7=>by
   obtain ⟨m',hm,w7⟩:=hN σ7 H7 n7
   refine ⟨m',hm,i+1,σ7,H7,I7.unpinned,T.keep _ _ _ st5 λb hb o e=>(I7.pin (b,o) (ybg _ (ybg _ (Jpn hb e)))).1,λb hb=>?_,w7⟩
   obtain ⟨o,e,d⟩:=T.obj _ _ st5 b hb
   exact (I7.pin (b,o) (ybg _ (ybg _ (Jpn hb e)))).2.1
  cases f with
  |next=>obtain ⟨σ7,H7,I7,n7⟩:=q7;exact again I7 n7
  |cont=>obtain ⟨σ7,H7,I7,n7⟩:=q7;exact again I7 n7
  |brk=>obtain ⟨σ7,H7,I7,q7⟩:=q7;exact ⟨σ7,H7,I7.unpinned,q7⟩
  |ret v=>obtain ⟨x7,σ7,H7,I7,r7,q7⟩:=q7;exact ⟨x7,σ7,H7,I7.unpinned,r7,q7⟩
end
theorem Jno {K} {a} {xs} {g:TG} {tb:TS} {D:Sc1} {σ} {H} (Pv:Nat->St->Hp->Prop) (h0:Pv 0 σ H) (hl:∀i σ H,i<=xs.length->Pv i σ H->Ss K H a xs)
  (hs:∀i x σ H,xs[i]?=some x->Pv i σ H->g x σ H λσ2 H2=>tb {D with nx:=Pv (i+1),ct:=Pv (i+1),bk:=D.nx} σ2 H2) (hd:∀σ H,Pv xs.length σ H->D.nx σ H):
  ∃W:Nat->Nat->St->Hp->Prop,(∃m,W 0 m σ H)/\∀i m σ H,W i m σ H->
   ((Itl K a).stop i H/\D.nx σ H)\/((Itl K a).go i H/\∃N:St->Hp->Prop,(∀σ' H',N σ' H'->∃m',m' < m/\W (i+1) m' σ' H')/\∀x H',(Itl K a).yld i H x H'->g x σ H' λσ2 H2=>tb {D with nx:=N,ct:=N,bk:=D.nx} σ2 H2):=by
 refine ⟨λi m σ H=>m=xs.length - i/\i<=xs.length/\Pv i σ H,⟨xs.length,by simp,yai _,h0⟩,?_⟩
 rintro i m σ H ⟨rfl,hi,p⟩
 have q:=hl i σ H hi p
 by_cases hlt:i < xs.length
 ·refine .inr ⟨⟨xs,xs[i],q,by simp [hlt]⟩,Pv (i+1),λσ' H' p'=>⟨xs.length - (i+1),by omega,rfl,hlt,p'⟩,λx H' y=>?_⟩
  obtain ⟨e,y⟩:=y
  subst e
  exact hs i x σ _ (y xs q) p
 ·have e:i=xs.length:=by omega
  subst e
  exact .inl ⟨⟨xs,q,yg _⟩,hd σ H p⟩
theorem Ju0 {K} {a} {xs} {g:TG} {tb:TS} {D:Sc1} {σ} {H} (Pv:Nat->St->Hp->Prop) (h0:Pv 0 σ H) (hl:∀i σ H,i<=xs.length->Pv i σ H->Sy K H a xs)
  (hs:∀i x σ H,xs[i]?=some x->Pv i σ H->g x σ H λσ2 H2=>tb {D with nx:=Pv (i+1),ct:=Pv (i+1),bk:=D.nx} σ2 H2) (hd:∀σ H,Pv xs.length σ H->D.nx σ H):
  ∃W:Nat->Nat->St->Hp->Prop,(∃m,W 0 m σ H)/\∀i m σ H,W i m σ H->
   ((Itt K a).stop i H/\D.nx σ H)\/((Itt K a).go i H/\∃N:St->Hp->Prop,(∀σ' H',N σ' H'->∃m',m' < m/\W (i+1) m' σ' H')/\∀x H',(Itt K a).yld i H x H'->g x σ H' λσ2 H2=>tb {D with nx:=N,ct:=N,bk:=D.nx} σ2 H2):=by
 refine ⟨λi m σ H=>m=xs.length - i/\i<=xs.length/\Pv i σ H,⟨xs.length,by simp,yai _,h0⟩,?_⟩
 rintro i m σ H ⟨rfl,hi,p⟩
 have q:=hl i σ H hi p
 by_cases hlt:i < xs.length
 ·refine .inr ⟨⟨xs,xs[i],q,by simp [hlt]⟩,Pv (i+1),λσ' H' p'=>⟨xs.length - (i+1),by omega,rfl,hlt,p'⟩,λx H' y=>?_⟩
  obtain ⟨e,y⟩:=y
  subst e
  exact hs i x σ _ (y xs q) p
 ·have e:i=xs.length:=by omega
  subst e
  exact .inl ⟨⟨xs,q,yg _⟩,hd σ H p⟩
theorem Jw9 {lo} {n} {g:TG} {tb:TS} {D:Sc1} {σ} {H} (Pv:Nat->St->Hp->Prop) (h0:Pv 0 σ H)
  (hs:∀i σ H,i < n->Pv i σ H->g (.int (lo+i)) σ H λσ2 H2=>tb {D with nx:=Pv (i+1),ct:=Pv (i+1),bk:=D.nx} σ2 H2) (hd:∀σ H,Pv n σ H->D.nx σ H):
  ∃W:Nat->Nat->St->Hp->Prop,(∃m,W 0 m σ H)/\∀i m σ H,W i m σ H->
   ((Itr lo n).stop i H/\D.nx σ H)\/((Itr lo n).go i H/\∃N:St->Hp->Prop,(∀σ' H',N σ' H'->∃m',m' < m/\W (i+1) m' σ' H')/\∀x H',(Itr lo n).yld i H x H'->g x σ H' λσ2 H2=>tb {D with nx:=N,ct:=N,bk:=D.nx} σ2 H2):=by
 refine ⟨λi m σ H=>m=n - i/\i<=n/\Pv i σ H,⟨n,by simp,yai _,h0⟩,?_⟩
 rintro i m σ H ⟨rfl,hi,p⟩
 by_cases hlt:i < n
 ·refine .inr ⟨hlt,Pv (i+1),λσ' H' p'=>⟨n - (i+1),by omega,rfl,hlt,p'⟩,λx H' y=>?_⟩
  obtain ⟨e,y⟩:=y
  subst e y
  exact hs i σ _ hlt p
 ·have e:i=n:=by omega
  subst e
  exact .inl ⟨yg _,hd σ H p⟩
abbrev R2:=V->V->Hp->VK->Prop
def OpR (X:Cx) (f:S2->S2->Sem S2) (r:R2):Prop:=
 ∀(pins:List (S1×Obj)) (s:S3) (σ:St) (H:Hp) (x y:V) (v u:S2) (Q:VK),Sm X pins σ H s->RelV x v->RelV y u->r x y H Q->
  Sc (model X.prog X.w) X.A (f v u) (EP X pins σ Q) X.xe s
def UnR (X:Cx) (f:S2->Sem S2) (r:V->Hp->VK->Prop):Prop:=
 ∀(pins:List (S1×Obj)) (s:S3) (σ:St) (H:Hp) (x:V) (v:S2) (Q:VK),Sm X pins σ H s->RelV x v->r x H Q->
  Sc (model X.prog X.w) X.A (f v) (EP X pins σ Q) X.xe s
def Jnr (X:Cx) (f:S2) (r:List V->Hp->VK->Prop):Prop:=
 ∀(pins:List (S1×Obj)) (s:S3) (σ:St) (H:Hp) (xs:List V) (us:List S2) (Q:VK),Sm X pins σ H s->Sv xs us->r xs H Q->
  Sc (model X.prog X.w) X.A (call f us) (EP X pins σ Q) X.xe s
def Svu (X:Cx) (r:V->Hp->(Bool->Hp->Prop)->Prop):Prop:=
 ∀(pins:List (S1×Obj)) (s:S3) (σ:St) (H:Hp) (x:V) (v:S2) (Q:Bool->Hp->Prop),Sm X pins σ H s->RelV x v->r x H Q->
  Sc (model X.prog X.w) X.A (truthy v) (TP X pins σ Q) X.xe s
def tOp (r:R2) (ta tb:TE):TE:=λσ H Q=>ta σ H λx H1=>tb σ H1 λy H2=>r x y H2 Q
def tUn (r:V->Hp->VK->Prop) (ta:TE):TE:=λσ H Q=>ta σ H λx H1=>r x H1 Q
inductive rI (C:Int->Int->Prop) (g:Int->Int->V) (x:V) (y:V) (H:Hp) (Q:VK):Prop where
 |mk (i:_) (j:_) (_:x= .int i) (_:y= .int j) (_:C i j) (_:Q (g i j) H)
inductive rI0 (g:Int->Int->V) (x:V) (y:V) (H:Hp) (Q:VK):Prop where
 |mk (i:_) (j:_) (_:x= .int i) (_:y= .int j) (_:Q (g i j) H)
inductive rU (g:Int->V) (x:V) (H:Hp) (Q:VK):Prop where
 |mk (i:_) (_:x= .int i) (_:Q (g i) H)
section
variable {X:Cx} {a b c:Expr} {ta tb tc:TE} {pos:Pos}
theorem Sm0 (ha:PE X a ta) (hb:PE X b tb) {R:V->V->Hp->Prop} (I:Sm X pins σ H s)
  (h:ta σ H λx H1=>tb σ H1 λy H2=>R x y H2) {f:S2->S2->Sem S2}
  (hf:∀v u s2 x y H2,Sm X pins σ H2 s2->RelV x v->RelV y u->R x y H2->Sc (model X.prog X.w) X.A (f v u) Q X.xe s2):
  Sc (model X.prog X.w) X.A (eval a X.env) (λv s₁=>Sc (model X.prog X.w) X.A (eval b X.env) (λu s₂=>Sc (model X.prog X.w) X.A (f v u) Q X.xe s₂) X.xe s₁) X.xe s:=thn (ha pins s σ H _ I h) λv s1 ⟨x,H1,I1,r1,q1⟩=>thn (hb pins s1 σ H1 _ I1 q1) λu s2 ⟨y,H2,I2,r2,q2⟩=>hf v u s2 x y H2 I2 r1 r2 q2
theorem Jm8 (ho:OpR X (binaryOp op) r) (ha:PE X a ta) (hb:PE X b tb):PE X (.BinOp a op b pos) (tOp r ta tb):=by
 intro pins s σ H Q I h
 exact wpAny_BinOp (Sm0 ha hb I h λv u s2 x y H2 I2 rx ry q=>ho pins s2 σ H2 x y v u Q I2 rx ry q)
theorem Sks (ho:UnR X (unaryOp op) r) (ha:PE X a ta):PE X (.UnaryOp op a pos) (tUn r ta):=by
 intro pins s σ H Q I h
 exact UnaryOp_ (thn (ha pins s σ H _ I h) λv s1 ⟨x,H1,I1,r1,q1⟩=>ho pins s1 σ H1 x v Q I1 r1 q1)
theorem opI {C} {g:Int->Int->Int}
  (rule:∀i j t u s Q E,C i j->Q (.int (g i j) s.toks) {s with toks:=s.toks+1}->Sc (model X.prog X.w) X.A (f (.int i t) (.int j u)) Q E s):
  OpR X f (rI C λi j=>.int (g i j)):=by
 rintro pins s σ H x y v u Q I rx ry ⟨i,j,rfl,rfl,hc,q⟩
 obtain ⟨t,rfl⟩:=rx
 obtain ⟨t',rfl⟩:=ry
 exact rule i j t t' s _ _ hc ⟨.int (g i j),H,I.tok _,⟨_,rfl⟩,q⟩
theorem Srm {g:Int->Int->Int}
  (rule:∀i j t u s Q E,Q (.int (g i j) s.toks) {s with toks:=s.toks+1}->Sc (model X.prog X.w) X.A (f (.int i t) (.int j u)) Q E s):
  OpR X f (rI0 λi j=>.int (g i j)):=by
 rintro pins s σ H x y v u Q I rx ry ⟨i,j,rfl,rfl,q⟩
 obtain ⟨t,rfl⟩:=rx
 obtain ⟨t',rfl⟩:=ry
 exact rule i j t t' s _ _ ⟨.int (g i j),H,I.tok _,⟨_,rfl⟩,q⟩
theorem Sjn {g:Int->Int->Bool}
  (rule:∀i j t u s Q E,Q (.bool (g i j)) s->Sc (model X.prog X.w) X.A (f (.int i t) (.int j u)) Q E s):
  OpR X f (rI0 λi j=>.bl (g i j)):=by
 rintro pins s σ H x y v u Q I rx ry ⟨i,j,rfl,rfl,q⟩
 obtain ⟨t,rfl⟩:=rx
 obtain ⟨t',rfl⟩:=ry
 exact rule i j t t' s _ _ ⟨.bl (g i j),H,I,rfl,q⟩
def Su6 (i j:Int):Prop:=0<=j/\j<=1000000/\i.natAbs < 2^64
def Siv (i j:Int):Prop:=(-(2^64) < i/\i < 2^64)\/(-(2^64) < j/\j < 2^64)
theorem Siv.ok (h:Siv i j):IntMulOk i j:=by
 rcases h with ⟨h1,h2⟩|⟨h1,h2⟩
 ·exact .of_left (intBits_le_64 h1 h2)
 ·exact .of_right (intBits_le_64 h1 h2)
theorem Jmg:OpR X (binaryOp .Add) (rI0 λi j=>.int (i+j)):=Srm λ_ _ _ _ _ _ _ q=>add_int q
theorem Jnl:OpR X (binaryOp .Sub) (rI0 λi j=>.int (i - j)):=Srm λ_ _ _ _ _ _ _ q=>sub_int q
theorem Jow:OpR X (binaryOp .Mult) (rI Siv λi j=>.int (i*j)):=opI λ_ _ _ _ _ _ _ hc q=>mul_int q hc.ok
theorem Jpo:OpR X (binaryOp .Mod) (rI (λ_ j=>0 < j) λi j=>.int (i%j)):=opI λi j _ _ _ _ _ hc q=>mod_int' (by omega) (by rw [Int.fmod_eq_emod_of_nonneg i (by omega)];exact q)
theorem Yc5:OpR X (binaryOp .Pow) (rI Su6 λi j=>.int (i^j.toNat)):=opI λ_ _ _ _ _ _ _ hc q=>pow_int_small hc.1 hc.2.1 hc.2.2 q
theorem unI {g:Int->Int}
  (rule:∀i t s Q E,Q (.int (g i) s.toks) {s with toks:=s.toks+1}->Sc (model X.prog X.w) X.A (f (.int i t)) Q E s):
  UnR X f (rU λi=>.int (g i)):=by
 rintro pins s σ H x v Q I rx ⟨i,rfl,q⟩
 obtain ⟨t,rfl⟩:=rx
 exact rule i t s _ _ ⟨.int (g i),H,I.tok _,⟨_,rfl⟩,q⟩
theorem Ydh:UnR X (unaryOp .USub) (rU λi=>.int (-i)):=unI λ_ _ _ _ _ q=>neg_int q
end
def Ss0:V->V->Bool
 | .non,.non=>true| .non,.int _=>true| .int _,.non=>true| .non,.bl _=>true| .bl _,.non=>true| .non,.str _=>true| .str _,.non=>true
 | .int _,.int _=>true| .bl _,.bl _=>true| .str _,.str _=>true| .byt _,.byt _=>true
 | .int _,.str _=>true| .str _,.int _=>true| .bl _,.str _=>true| .str _,.bl _=>true
 |_,_=>false
inductive rEq (x:V) (y:V) (H:Hp) (Q:VK):Prop where
 |mk (_:Ss0 x y=true) (_:Q (.bl (decide (x=y))) H)
inductive rNe (x:V) (y:V) (H:Hp) (Q:VK):Prop where
 |mk (_:Ss0 x y=true) (_:Q (.bl (!decide (x=y))) H)
theorem Yf:decide (V.int i=V.int j)=(i==j):=by grind
theorem Ybc:decide (V.bl i=V.bl j)=(i==j):=by grind
theorem Yg:decide (V.str i=V.str j)=(i==j):=by grind
theorem Ye:decide (V.byt i=V.byt j)=(i.toList==j.toList):=by
 rw [Bool.eq_iff_iff]
 cases i
 cases j
 simp
section
variable {X:Cx} {a b c:Expr} {ta tb tc:TE} {pos:Pos}
theorem Jms {σ:St} {H} {s} {Q} {k k'} (I:Sm X pins σ H s) (q:Q (.bl k) H) (e:k=k'):EP X pins σ Q (.bool k') s:=by
 subst e
 exact ⟨.bl k,H,I,rfl,q⟩
theorem Jr8:OpR X (compareOp .Eq) rEq:=by
 rintro pins s σ H x y v u Q I rx ry ⟨hs,q⟩
 cases x with
 |non=>
  cases rx
  cases y with
  |non=>cases ry;exact PySem.EqNone.eq_none_none (Jms I q (by simp))
  |bl j=>cases ry;exact PySem.EqNone.eq_none_bool (Jms I q (by simp))
  |int j=>obtain ⟨t',rfl⟩:=ry;exact PySem.EqNone.eq_none_int (Jms I q (by simp))
  |str j=>obtain ⟨t',rfl⟩:=ry;exact PySem.EqNone.eq_none_str (Jms I q (by simp))
  |_=>exact absurd (show false=true from hs) yaj
 |bl i=>
  cases rx
  cases y with
  |non=>cases ry;exact PySem.EqNone.eq_bool_none (Jms I q (by simp))
  |bl j=>cases ry;exact eq_bool (Jms I q Ybc)
  |str j=>obtain ⟨t',rfl⟩:=ry;exact PySem.EqMixed.eq_bool_str (Jms I q (by simp))
  |_=>exact absurd (show false=true from hs) yaj
 |int i=>
  obtain ⟨t,rfl⟩:=rx
  cases y with
  |non=>cases ry;exact PySem.EqNone.eq_int_none (Jms I q (by simp))
  |int j=>obtain ⟨t',rfl⟩:=ry;exact eq_int (Jms I q Yf)
  |str j=>obtain ⟨t',rfl⟩:=ry;exact PySem.EqMixed.eq_int_str (Jms I q (by simp))
  |_=>exact absurd (show false=true from hs) yaj
 |str i=>
  obtain ⟨t,rfl⟩:=rx
  cases y with
  |non=>cases ry;exact PySem.EqNone.eq_str_none (Jms I q (by simp))
  |bl j=>cases ry;exact PySem.EqMixed.eq_str_bool (Jms I q (by simp))
  |int j=>obtain ⟨t',rfl⟩:=ry;exact PySem.EqMixed.eq_str_int (Jms I q (by simp))
  |str j=>obtain ⟨t',rfl⟩:=ry;exact eq_str (Jms I q Yg)
  |_=>exact absurd (show false=true from hs) yaj
 |byt i=>
  obtain ⟨t,rfl⟩:=rx
  cases y with
  |byt j=>obtain ⟨t',rfl⟩:=ry;exact PySem.W.eq_bytes (Jms I q Ye)
  |_=>exact absurd (show false=true from hs) yaj
 |_=>cases y <;> exact absurd (hs) yaj
theorem Skr:OpR X (compareOp .NotEq) rNe:=by
 rintro pins s σ H x y v u Q I rx ry ⟨hs,q⟩
 cases x with
 |non=>
  cases rx
  cases y with
  |non=>cases ry;exact PySem.EqNone.ne_none_none (Jms I q (by simp))
  |bl j=>cases ry;exact PySem.EqNone.ne_none_bool (Jms I q (by simp))
  |int j=>obtain ⟨t',rfl⟩:=ry;exact PySem.EqNone.ne_none_int (Jms I q (by simp))
  |str j=>obtain ⟨t',rfl⟩:=ry;exact PySem.EqNone.ne_none_str (Jms I q (by simp))
  |_=>exact absurd (hs) yaj
 |bl i=>
  cases rx
  cases y with
  |non=>cases ry;exact PySem.EqNone.ne_bool_none (Jms I q (by simp))
  |bl j=>cases ry;exact ne_bool (Jms I q (congrArg not Ybc))
  |str j=>obtain ⟨t',rfl⟩:=ry;exact PySem.EqMixed.ne_bool_str (Jms I q (by simp))
  |_=>exact absurd (show false=true from hs) yaj
 |int i=>
  obtain ⟨t,rfl⟩:=rx
  cases y with
  |non=>cases ry;exact PySem.EqNone.ne_int_none (Jms I q (by simp))
  |int j=>obtain ⟨t',rfl⟩:=ry;exact ne_int (Jms I q (congrArg not Yf))
  |str j=>obtain ⟨t',rfl⟩:=ry;exact PySem.EqMixed.ne_int_str (Jms I q (by simp))
  |_=>exact absurd (show false=true from hs) yaj
 |str i=>
  obtain ⟨t,rfl⟩:=rx
  cases y with
  |non=>cases ry;exact PySem.EqNone.ne_str_none (Jms I q (by simp))
  |bl j=>cases ry;exact PySem.EqMixed.ne_str_bool (Jms I q (by simp))
  |int j=>obtain ⟨t',rfl⟩:=ry;exact PySem.EqMixed.ne_str_int (Jms I q (by simp))
  |str j=>obtain ⟨t',rfl⟩:=ry;exact ne_str (Jms I q (congrArg not Yg))
  |_=>exact absurd (show false=true from hs) yaj
 |byt i=>
  obtain ⟨t,rfl⟩:=rx
  cases y with
  |byt j=>obtain ⟨t',rfl⟩:=ry;exact PySem.W.ne_bytes (Jms I q (congrArg not Ye))
  |_=>exact absurd (show false=true from hs) yaj
 |_=>cases y <;> exact absurd (hs) yaj
theorem Srn:OpR X (compareOp .Lt) (rI0 λi j=>.bl (decide (i < j))):=Sjn λ_ _ _ _ _ _ _ q=>lt_int q
theorem Jqd:OpR X (compareOp .LtE) (rI0 λi j=>.bl (decide (i<=j))):=Sjn λ_ _ _ _ _ _ _ q=>le_int q
theorem Jwk:OpR X (compareOp .Gt) (rI0 λi j=>.bl (decide (j < i))):=Sjn λ_ _ _ _ _ _ _ q=>gt_int q
theorem Yc4:OpR X (compareOp .GtE) (rI0 λi j=>.bl (decide (j<=i))):=Sjn λ_ _ _ _ _ _ _ q=>ge_int q
theorem Yag:OpR X (compareOp .In) (λx y H Q=>∃i j,x= .str i/\y= .str j/\Q (.bl (!(Builtin.Str.occurrences j i 0 j.length 1).isEmpty)) H):=by
 rintro pins s σ H x y v u Q I rx ry ⟨i,j,rfl,rfl,q⟩
 obtain ⟨t,rfl⟩:=rx
 obtain ⟨t',rfl⟩:=ry
 exact in_str (Jms I q rfl)
theorem Jzq:OpR X (compareOp .Is) (λx y H Q=>y= .non/\Q (.bl (decide (x= .non))) H):=by
 rintro pins s σ H x y v u Q I rx ry ⟨rfl,q⟩
 cases ry
 refine is_none_gen (Jms I q ?_)
 cases x <;> first
  | (cases rx; rfl)
  | (obtain ⟨t,rfl⟩:=rx; rfl)
theorem Ye9:OpR X (compareOp .IsNot) (λx y H Q=>y= .non/\Q (.bl (!decide (x= .non))) H):=by
 rintro pins s σ H x y v u Q I rx ry ⟨rfl,q⟩
 cases ry
 refine isnot_none_gen (Jms I q ?_)
 cases x <;> first
  | (cases rx; rfl)
  | (obtain ⟨t,rfl⟩:=rx; rfl)
theorem Jmy (b) (h:op≠ .In:=by decide) (h2:op≠ .NotIn:=by decide):behindInMarks op b=false:=by
 have e1:(op==CmpOp.In)=false:=by cases op <;> first|rfl|exact absurd rfl h
 have e2:(op==CmpOp.NotIn)=false:=by cases op <;> first|rfl|exact absurd rfl h2
 cases b <;> simp [behindInMarks,e1,e2]
theorem Js7 (ho:OpR X (compareOp op) r) (ha:PE X a ta) (hb:PE X b tb) (hm:behindInMarks op b=false):PE X (.Compare a [op] [b] pos) (tOp r ta tb):=by
 intro pins s σ H Q I h
 exact wpAny_Compare1 (Sm0 ha hb I h λv u s2 x y H2 I2 rx ry q=>ho pins s2 σ H2 x y v u Q I2 rx ry q) hm
inductive Yfe (Q:(Bool->Hp->Prop)) (x:V) (H':Hp):Prop where
 |mk (k:_) (_:x= .bl k) (_:Q k H')
def Sl3 (t:TE):TT:=λσ H Q=>t σ H (Yfe Q)
theorem Jmp (ho:OpR X (compareOp op) r) (ha:PE X a ta) (hb:PE X b tb) (hm:behindInMarks op b=false):PT X (.Compare a [op] [b] pos) (Sl3 (tOp r ta tb)):=by
 intro pins s σ H Q I h
 refine wpAny_isTrue_Compare1 (thn (ha pins s σ H _ I h) λv s1 ⟨x,H1,I1,r1,q1⟩=>thn (hb pins s1 σ H1 _ I1 q1) λu s2 ⟨y,H2,I2,r2,q2⟩=>
  thn (ho pins s2 σ H2 x y v u _ I2 r1 r2 q2) λc s3 ⟨z,H3,I3,r3,k,e,q3⟩=>?_) hm
 subst e
 cases r3
 exact wpAny_truthy_bool ⟨H3,I3,q3⟩
def Ydc (r r':R2) (ta tb tc:TE):TE:=λσ H Q=>ta σ H λx H1=>tb σ H1 λy H2=>r x y H2 λz H3=>∃k,z= .bl k/\
 (if k=true then tc σ H3 λw' H4=>r' y w' H4 Q else Q (.bl false) H3)
theorem Jyn (ho:OpR X (compareOp op) r) (ho':OpR X (compareOp op') r') (ha:PE X a ta) (hb:PE X b tb) (hc:PE X c tc)
  (hm:lastMarks [op,op'] [b,c]=false:=by with_unfolding_all rfl):PE X (.Compare a [op,op'] [b,c] pos) (Ydc r r' ta tb tc):=by
 intro pins s σ H Q I h
 refine Compare_chain (thn (ha pins s σ H _ I h) λv s1 ⟨x,H1,I1,r1,q1⟩=>chain_link (thn (hb pins s1 σ H1 _ I1 q1) λu s2 ⟨y,H2,I2,r2,q2⟩=>
  thn (ho pins s2 σ H2 x y v u _ I2 r1 r2 q2) λd s3 ⟨z,H3,I3,r3,k,e,q3⟩=>?_)) hm
 subst e
 cases r3
 refine wpAny_truthy_bool ?_
 cases k with
 |false=>exact ite_ff ⟨.bl false,H3,I3,rfl,q3⟩
 |true=>exact ite_tt (chain_last (thn (hc pins s3 σ H3 _ I3 q3) λw' s4 ⟨z',H4,I4,r4,q4⟩=>ho' pins s4 σ H4 y z' u w' Q I4 r2 r4 q4))
theorem Jv5 (ho:OpR X (compareOp op) r) (ho':OpR X (compareOp op') r') (ha:PE X a ta) (hb:PE X b tb) (hc:PE X c tc)
  (hm:lastMarks [op,op'] [b,c]=false:=by with_unfolding_all rfl):PT X (.Compare a [op,op'] [b,c] pos) (Sl3 (Ydc r r' ta tb tc)):=by
 intro pins s σ H Q I h
 refine isTrue_chain (thn (ha pins s σ H _ I h) λv s1 ⟨x,H1,I1,r1,q1⟩=>test_link (thn (hb pins s1 σ H1 _ I1 q1) λu s2 ⟨y,H2,I2,r2,q2⟩=>
  thn (ho pins s2 σ H2 x y v u _ I2 r1 r2 q2) λd s3 ⟨z,H3,I3,r3,k,e,q3⟩=>?_)) hm
 subst e
 cases r3
 refine wpAny_truthy_bool ?_
 cases k with
 |false=>
  obtain ⟨k',e',q'⟩:=q3
  cases e'
  exact ite_ff ⟨H3,I3,q'⟩
 |true=>
  refine ite_tt (test_last (thn (hc pins s3 σ H3 _ I3 q3) λw' s4 ⟨z',H4,I4,r4,q4⟩=>thn (ho' pins s4 σ H4 y z' u w' _ I4 r2 r4 q4) λd' s5 zq=>?_))
  obtain ⟨z2,H5,I5,r5,k2,e2,q5⟩:=zq
  subst e2
  cases r5
  exact wpAny_truthy_bool ⟨H5,I5,q5⟩
def Sr1 (K:Sd) (x:V) (H:Hp) (k:Bool):Prop:=
 match x with
 | .non=>k=false
 | .bl b=>k=b
 | .int i=>k=(i !=0)
 | .str y=>y.length<=S6/\k=((y.length:Int) !=0)
 | .byt y=>y.size<=S6/\k=((y.size:Int) !=0)
 | .ref p=>(∃xs,Ss K H p xs/\k=!xs.isEmpty)\/(∃xs,Sy K H p xs/\k=!xs.isEmpty)\/∃kvs,H p=some (.dK kvs)/\k=!kvs.isEmpty
 |_=>False
theorem Jze (r:KV kvs vs):(!vs.isEmpty)=!kvs.isEmpty:=by
 cases r <;> rfl
theorem Juj (r:Sv xs its):(!its.toArray.isEmpty)=!xs.isEmpty:=by
 cases r <;> simp
theorem Jrc:(S6) < 2^63:=by rw [sizeLine_eq];decide
theorem Son:Svu X (λx H Q=>∃k,Sr1 X.K x H k/\Q k H):=by
 rintro pins s σ H x v Q I rx ⟨k,e,q⟩
 have hs:=sizeLine_eq
 cases x with
 |non=>
  cases rx
  have e':=e
  subst e'
  exact truthy_none ⟨H,I,q⟩
 |bl b=>
  cases rx
  have e':=e
  subst e'
  exact wpAny_truthy_bool ⟨H,I,q⟩
 |int i=>
  obtain ⟨t,rfl⟩:=rx
  have e':=e
  subst e'
  exact PySem.P.truthy_int ⟨H,I,q⟩
 |str y=>
  obtain ⟨t,rfl⟩:=rx
  obtain ⟨hy,e'⟩:y.length<=S6/\k=((y.length:Int) !=0):=e
  subst e'
  exact PySem.P.truthy_str (by omega) ⟨H,I.tok _,q⟩
 |byt y=>
  obtain ⟨t,rfl⟩:=rx
  obtain ⟨hy,e'⟩:y.size<=S6/\k=((y.size:Int) !=0):=e
  subst e'
  exact PySem.W.truthy_bytes (by omega) ⟨H,I.tok _,q⟩
 |ref p=>
  cases rx
  have e':=e
  rcases e' with ⟨xs,hx,e'⟩|⟨xs,hx,e'⟩|⟨kvs,hx,e'⟩
  ·subst e'
   obtain ⟨its,r,pl,hz⟩:=I.list hx
   have hlen:=r.length
   exact wpAny_truthy_list pl.isList (by simp only [yq];omega) ⟨H,I.tok _,by rw [Juj r];exact q⟩
  ·subst e'
   obtain ⟨its,r,pl,hz⟩:=I.tuple hx
   have hlen:=r.length
   exact truthy_tuple pl (by simp only [yq];omega) ⟨H,I.tok _,by rw [Juj r];exact q⟩
  ·subst e'
   obtain ⟨hz,hS,vs,r,m⟩:kvs.length<=S6/\(p==sysModules)=false/\∃vs,KV kvs vs/\s.heap.DictOf (Jmo X.prog X.w) p vs:=I.hok p _ hx
   have hlen:=Paired.length r
   exact wpAny_truthy_dict hS m (by omega) ⟨H,I.tok _,by rw [Jze r];exact q⟩
 |_=>exact (e).elim
theorem Ycg (ha:PE X a ta) (he:∀whole,isTrue a X.env whole=(do let v<-whole;standAt a.pos;holding [v] (truthy v))):
  PT X a (λσ H Q=>ta σ H λx H'=>∃k,Sr1 X.K x H' k/\Q k H'):=by
 intro pins s σ H Q I h
 exact isTrue_plain (thn (ha pins s σ H _ I h) λv s1 ⟨x,H1,I1,r1,q1⟩=>Son pins s1 σ H1 x v Q I1 r1 q1) (he _)
theorem Joi (r:Sv [x] us):∃u,us= [u]/\RelV x u:=by
 cases r with
 |cons r1 r2=>cases r2;exact ⟨_,rfl,r1⟩
theorem Jz1 (r:Sv [x,y] us):∃u w',us= [u,w']/\RelV x u/\RelV y w':=by
 cases r with
 |cons r1 r2=>
  cases r2 with
  |cons r3 r4=>cases r4;exact ⟨_,_,rfl,r1,r3⟩
theorem Jp9 (hc:X.calm=true):Jnr X (.builtin "max") (λxs H Q=>∃i j,xs= [.int i,.int j]/\Q (.int (if j > i then j else i)) H):=by
 rintro pins s σ H xs us Q I r ⟨i,j,rfl,q⟩
 obtain ⟨u,w',rfl,⟨t,rfl⟩,⟨t',rfl⟩⟩:=Jz1 r
 refine max_two_ints (I.ok.hd hc) λh' tk k=>⟨_,H,I.kept k,?_,q⟩
 by_cases hj:j > i
 ·rw [if_pos hj,if_pos hj];exact ⟨_,rfl⟩
 ·rw [if_neg hj,if_neg hj];exact ⟨_,rfl⟩
theorem Joq (hc:X.calm=true):Jnr X (.builtin "min") (λxs H Q=>∃i j,xs= [.int i,.int j]/\Q (.int (if j < i then j else i)) H):=by
 rintro pins s σ H xs us Q I r ⟨i,j,rfl,q⟩
 obtain ⟨u,w',rfl,⟨t,rfl⟩,⟨t',rfl⟩⟩:=Jz1 r
 refine min_two_ints (I.ok.hd hc) λh' tk k=>⟨_,H,I.kept k,?_,q⟩
 by_cases hj:j < i
 ·rw [if_pos hj,if_pos hj];exact ⟨_,rfl⟩
 ·rw [if_neg hj,if_neg hj];exact ⟨_,rfl⟩
theorem Yx:Jnr X (.type "int") (λxs H Q=>(∃i,xs= [.int i]/\Q (.int i) H)\/∃k,xs= [.bl k]/\Q (.int (if k then 1 else 0)) H):=by
 intro pins s σ H xs us Q I r h
 rcases h with ⟨i,rfl,q⟩|⟨k,rfl,q⟩
 ·obtain ⟨u,rfl,t,rfl⟩:=Joi r
  exact call_int_int ⟨.int i,H,I,⟨_,rfl⟩,q⟩
 ·obtain ⟨u,rfl,r1⟩:=Joi r
  cases r1
  exact call_int_bool ⟨.int (if k then 1 else 0),H,I.tok _,⟨_,rfl⟩,q⟩
end
structure Sh5 (h:Sb) (x dx C:S1) (mA:Str->Option S2):Prop where
 obj:h.get? x=some (Sh C dx)
 ns:h.Ns1 dx mA
 ne:dx≠x
theorem Jwe {h:Sb} (n:h.Ns1 dx mA):∃od,h.get? dx=some od/\∀name,PySem.W.lookIn name od=some (mA name):=by
 obtain ⟨o,es,ep,ho,hd,hk,_,hm⟩:=n
 refine ⟨o,ho,λname=>?_⟩
 have e:=hm name
 unfold nsFind findBy at e
 rw [<-Array.find?_toList] at e
 unfold PySem.W.lookIn
 rw [hd]
 dsimp only
 split
 ·rename_i y q
  rw [q] at e
  exact congrArg some e
 ·rename_i q
  rw [q] at e
  have a:es.toList.any (·.refKey)=false:=by
   rw [List.any_eq_false]
   intro y hy
   obtain ⟨z,t,hkey⟩:=hk y (Array.mem_toList_iff.mp hy)
   simp [DictEntry.refKey,hkey]
  have a':¬es.toList.any (·.refKey)=true:=by rw [a];exact yaj
  rw [if_neg a']
  exact congrArg some e
theorem Sh5.look (I:Sh5 h x dx C mA):∃od,PySem.W.InstAt h x (Sh C dx) C (some od)/\∀name,PySem.W.lookIn name od=some (mA name):=
 let ⟨od,ho,hl⟩:=Jwe I.ns
 ⟨od,⟨I.obj,rfl,rfl,ho⟩,hl⟩
section
variable {prog:S7} {w:S9} {A:Sa} {E:S2->S3->Prop} {s:S3} {K:Sd} {x dx C f:S1} {mA:Str->Option S2} {name:Str} {v:S2}
theorem Yds {Q} (X:K.In s.heap) (I:Sh5 s.heap x dx C mA) (hg:PySem.W.plainGet K C name=true) (hh:PySem.W.hasDictIn K C=true)
  (ha:Sf K (.ref C) name=some none) (hv:mA name=some v) (hv':PySem.W.handedIn v=true) (h:Q v {s with toks:=s.toks+1}):
  Sc (model prog w) A (getAttr (.ref x) name expr) Q E s:=by
 obtain ⟨od,J,hl⟩:=I.look
 exact PySem.W.get_value X J (PySem.W.plainGet_of hg).1 (PySem.W.findObj_own hh ha rfl (by rw [hl,hv])) hv' h
theorem Ybm {Q} (X:K.In s.heap) (I:Sh5 s.heap x dx C mA) (hg:PySem.W.plainGet K C name=true)
  (hf:Sf K (.ref C) name=some (some (.ref f))) (ht:PySem.W.isFn K (.ref f)=true) (hv:mA name=none) (h:Q (.ref f,[.ref x]) s):
  Sc (model prog w) A (getMethod (.ref x) name pl) Q E s:=by
 obtain ⟨od,J,hl⟩:=I.look
 exact PySem.W.method_fn X J (PySem.W.plainGet_of hg).1 (PySem.W.plainGet_of hg).2 hf (beq_iff_eq.mp ht) (by show (PySem.W.lookIn name od).map (·.isSome)=some false;rw [hl,hv];rfl) h
theorem Yeo (X:K.In s.heap) (I:Sh5 s.heap x dx C mA)
  (hs:Sf K (.ref C) "__setattr__" =some (some (.builtin "object.__setattr__"))) (hp:PySem.W.plainOver K C=true) (ht:PySem.W.takerIn K C name=some none) (hh:PySem.W.hasDictIn K C=true)
  (hw:PySem.Within mA ns) (hsz:ns.length<=S6)
  (h:∀h',Sh5 h' x dx C (λy=>if y=name then some v else mA y)->ybf dx s.heap h'->Q () {s with heap:=h',toks:=s.toks+2}):
  Sc (model prog w) A (setAttr (.ref x) name v) Q E s:=by
 obtain ⟨od,J,hl⟩:=I.look
 refine PySem.W.set_plain X J hs (PySem.W.osa_open X J hp ht λb=>?_)
 obtain ⟨cd,hc,hd'⟩:=PySem.W.any_some hh
 refine S4 (S5 (S4 (S4 (wpAny_loadPart I.obj (S4 (PySem.W.Looks.here (PySem.W.looks_clsIn X hc) ?_))))))
 rw [hd']
 refine S5 (S4 (S5 (S4 (wpAny_nsSet1 I.ns λh' hn2 hs2=>?_))))
 obtain ⟨oD,esD,epD,hoD,hdD,hcD⟩:=hn2.count (PySem.Within.cons name v hw)
 exact S4 (wpAny_lookBehind hoD (by rw [hdD];exact pastItsLine_dict (yac hcD (by rw [yaf];omega))) (S5 (h _ ⟨(hs2.2 _ (yw I.ne)).trans I.obj,hn2,I.ne⟩ hs2)))
theorem Ybx (X:K.In s.heap) (hm:PySem.W.makesIn K C=true)
  (hi:Sf K (.ref C) "__init__" =some (some (.ref f))) (hf:PySem.W.typeIn K (.ref f)=some (.type "function"))
  (h:codeAny (model prog w) (A.under (.builtin "type.__call__" ⟨.ref C::vs,kw⟩)) (.call (.ref f) ⟨.ref (s.heap.objs.size+1)::vs,kw⟩) (PySem.W.InitBack (s.heap.objs.size+1) R)
   {s with heap:=(s.heap.push PySem.W.emptyDict).push (Sh C s.heap.objs.size)}):
  codeAny (model prog w) A (.call (.ref C) ⟨vs,kw⟩) R s:=PySem.W.make_core (PySem.W.makes_of X hm) (PySem.W.looks_findIn X hi) (λself=>PySem.W.bind_fn X self hf) (.inl rfl) h
end
def Jn2 (f:Str) (v:V):List (Str×V)->List (Str×V)
 | []=>[(f,v)]
 | (g,x) :: r=>if g = f then (g,v) :: r else (g,x) :: Jn2 f v r
theorem Jte (f g) (v):∀fs:List (Str×V),(Jn2 f v fs).lookup g=if g=f then some v else fs.lookup g
 | []=>by
  show ybn g [(f,v)]=_
  by_cases h:g=f
  ·have hb:(g==f)=true:=beq_iff_eq.mpr h
   simp only [ybn,hb,if_pos h]
  ·have hb:=beq_eq_false_iff_ne.mpr h
   simp only [ybn,hb,if_neg h]
 | (k,x) :: r=>by
  rw [show Jn2 f v ((k,x)::r)=(if k=f then (k,v)::r else (k,x)::Jn2 f v r) from rfl]
  by_cases hk:k=f
  ·rw [if_pos hk]
   by_cases h:g=k
   ·have hb:=beq_iff_eq.mpr h
    simp only [ybn,hb,if_pos (h.trans hk)]
   ·have hb:=beq_eq_false_iff_ne.mpr h
    simp only [ybn,hb,if_neg (λe:g=f=>h (e.trans hk.symm))]
  ·rw [if_neg hk]
   by_cases h:g=k
   ·have hb:=beq_iff_eq.mpr h
    simp only [ybn,hb,if_neg (λe:g=f=>hk (h.symm.trans e))]
   ·have hb:=beq_eq_false_iff_ne.mpr h
    simp only [ybn,hb]
    exact (Jte f g v r)
theorem Jsr (f) (v):∀fs:List (Str×V),f∈(Jn2 f v fs).map (·.1)/\∀g,g∈fs.map (·.1)->g∈(Jn2 f v fs).map (·.1)
 | []=>⟨by simp [Jn2],λg h=>by simp at h⟩
 | (k,x) :: r=>by
  obtain ⟨i1,i2⟩:=Jsr f v r
  rw [show Jn2 f v ((k,x)::r)=(if k=f then (k,v)::r else (k,x)::Jn2 f v r) from rfl]
  by_cases hk:k=f
  ·rw [if_pos hk]
   subst hk
   exact ⟨by simp,λg h=>by simpa using h⟩
  ·rw [if_neg hk]
   refine ⟨?_,λg h=>?_⟩
   ·rw [yak]
    exact yaa _ i1
   ·rw [yak] at h⊢
    rcases yp.mp h with e|e
    ·exact yp.mpr (.inl e)
    ·exact yaa _ (i2 g e)
theorem Jtd (f) (v):∀fs:List (Str×V),(Jn2 f v fs).length<=fs.length+1
 | []=>by simp [Jn2]
 | (k,x) :: r=>by
  have ih:=Jtd f v r
  rw [show Jn2 f v ((k,x)::r)=(if k=f then (k,v)::r else (k,x)::Jn2 f v r) from rfl]
  by_cases hk:k=f
  ·rw [if_pos hk,yaf,yaf];omega
  ·rw [if_neg hk,yaf,yaf];omega
theorem Scb.some_of (r:Scb (some v) o):∃u,o=some u/\RelV v u:=by
 cases o with
 |none=>exact (r).elim
 |some u=>exact ⟨u,rfl,r⟩
theorem Scb.none_of (r:Scb none o):o=none:=by
 cases o with
 |none=>rfl
 |some u=>exact (r).elim
theorem Jwa (r:RelV v u):PySem.W.handedIn u=true:=by
 cases v with
 |non=>cases (r);rfl
 |bl b=>cases (r);rfl
 |int i=>obtain ⟨t,e⟩:=(show ∃t,u=Value.int i t from r);cases e;rfl
 |str x=>obtain ⟨t,e⟩:=(show ∃t,u=Value.str x t from r);cases e;rfl
 |byt b=>obtain ⟨t,e⟩:=(show ∃t,u=Value.bytes b t from r);cases e;rfl
 |flt b=>obtain ⟨t,e⟩:=(show ∃t,u=Value.float b t from r);cases e;rfl
 |ref a=>cases (r);rfl
 |ty n=>cases (r);rfl
section
variable {P:S7} {w:S9} {H H':Hp} {h h':Sb} {a C dx:S1} {fs fs':List (Str×V)}
theorem Ju1 (hok:HOk P w H h) (e:H a=some (.ins C dx fs)):∃mA,Sh5 h a dx C mA/\(∀f,Scb (fs.lookup f) (mA f))/\PySem.Within mA (fs.map (·.1))/\fs.length<=1000/\H dx=some (.own a):=by
 obtain ⟨d,z,ne,ob,mA,n,r,q⟩:=(hok a _ e)
 exact ⟨mA,⟨ob,n,ne⟩,r,q,z,d⟩
end
structure Cls (K:Sd) (C:S1):Prop where
 pg:PySem.W.plainGet K C Str.empty=true
 hd:PySem.W.hasDictIn K C=true
 po:PySem.W.plainOver K C=true
 sa:Sf K (.ref C) "__setattr__" =some (some (.builtin "object.__setattr__"))
theorem Cls.get {K} (c:Cls K C) (f):PySem.W.plainGet K C f=true:=c.pg
def NoAttr (K:Sd) (C:S1) (f:Str):Prop:=Sf K (.ref C) f=some none
theorem NoAttr.taker {K} (n:NoAttr K C f):PySem.W.takerIn K C f=some none:=by
 unfold PySem.W.takerIn
 rw [n]
 rfl
structure Joc (K:Sd) (C:S1) (m:Str) (f:S1):Prop where
 at_:Sf K (.ref C) m=some (some (.ref f))
 fn:PySem.W.isFn K (.ref f)=true
 kp:PySem.W.keepIn K (.ref f)=true
section
variable {X:Cx} {pins:List (S1×Obj)} {σ:St} {H:Hp} {s:S3} {a C dx:S1} {fs:List (Str×V)} {f:Str} {v:V} {A:Sa} {E:S2->S3->Prop}
theorem Jzd (I:Sm X pins σ H s) (e:H a=some (.ins C dx fs)) (c:Cls X.K C) (n:NoAttr X.K C f) (l:fs.lookup f=some v)
  (h:∀u s',Sm X pins σ H s'->RelV v u->Q u s'):Sc (model X.prog X.w) A (getAttr (.ref a) f b) Q E s:=by
 obtain ⟨mA,O,r,_,_,_⟩:=Ju1 I.hok e
 obtain ⟨u,hu,ru⟩:=Scb.some_of (by rw [<-l];exact r f)
 exact Yds I.kIn O (c.get f) c.hd n hu (Jwa ru) (h u _ (I.tok _) ru)
theorem Jos {Q} (I:Sm X pins σ H s) (e:H a=some (.ins C dx fs)) (c:Cls X.K C) (k:Joc X.K C m g) (l:fs.lookup m=none)
  (h:Q (.ref g,[.ref a]) s):Sc (model X.prog X.w) A (getMethod (.ref a) m pl) Q E s:=by
 obtain ⟨mA,O,r,_,_,_⟩:=Ju1 I.hok e
 exact Ybm I.kIn O (c.get m) k.at_ k.fn (Scb.none_of (by rw [<-l];exact r m)) h
theorem Y3 (I:Sm X pins σ H s) (e:H a=some (.ins C dx fs)) (c:Cls X.K C) (n:NoAttr X.K C f) (hl:fs.length < 1000) (ry:RelV y u)
  (h:∀s',Sm X pins σ (upd H a (.ins C dx (Jn2 f y fs))) s'->Q () s'):Sc (model X.prog X.w) A (setAttr (.ref a) f u) Q E s:=by
 obtain ⟨mA,O,r,wi,_,ho⟩:=Ju1 I.hok e
 have hz:(fs.map (·.1)).length<=S6:=by rw [ye,sizeLine_eq];omega
 refine Yeo I.kIn O c.sa c.po n.taker c.hd wi hz λh' O' sb=>h _ ?_
 have hd:∃o,h'.get? dx=some o:=let ⟨o,_,_,e',_⟩:=O'.ns;⟨o,e'⟩
 refine I.write (by rw [e];exact True.intro) (.inr ho) (λb q hb z=>(sb.2 b hb).trans z) hd ⟨by rw [Sw O.ne];exact ho,?_,O.ne,O'.obj,_,O'.ns,λg=>?_,λg hg=>?_⟩
 ·have:=Jtd f y fs;omega
 ·show Scb ((Jn2 f y fs).lookup g) (if g=f then some u else mA g)
  rw [Jte]
  by_cases q:g=f
  ·rw [if_pos q,if_pos q];exact ry
  ·rw [if_neg q,if_neg q];exact r g
 ·by_cases q:g=f
  ·rw [q];exact (Jsr f y fs).1
  ·refine (Jsr f y fs).2 g (wi g λz=>hg ?_)
   show (if g=f then some u else mA g)=none
   rw [if_neg q];exact z
theorem Sm.made (I:Sm X pins σ H s):Sm X pins σ (upd (upd H s.heap.objs.size (.own (s.heap.objs.size+1))) (s.heap.objs.size+1) (.ins C s.heap.objs.size []))
  {s with heap:=(s.heap.push PySem.W.emptyDict).push (Sh C s.heap.objs.size)}:=by
 have e1:(s.heap.push PySem.W.emptyDict).get? s.heap.objs.size=some PySem.W.emptyDict:=yx s.heap rfl
 have e2:=by
  have:=yx (s.heap.push PySem.W.emptyDict) (o:=Sh C s.heap.objs.size) rfl
  rwa [yas] at this
 have e3:(s.heap.push PySem.W.emptyDict).Ns s.heap.objs.size (λ_=>none):=⟨PySem.W.emptyDict,#[],_,e1,rfl,(λe he=>absurd he (by simp)),λ_=>rfl⟩
 refine (I.laid (o:=.own (s.heap.objs.size+1)) (t':=s.toks) (λb u q=>ym _ q) (yg _) ⟨_,e1⟩).laid (λb u q=>ym _ q) (Nat.le_of_eq (yas _ _)) ?_
 have ne:s.heap.objs.size≠s.heap.objs.size+1:=yz (yce _)
 refine ⟨by rw [Sw ne,Sn],yai _,ne,e2,λ_=>none,(Heap.Ns1.of_empty e3).at λo q=>ym _ q,λ_=>True.intro,λy hy=>absurd rfl hy⟩
theorem Ya (hb:attributeBase e f env (eval e env)=eval e env)
  (h:Sc (model prog w) A (eval e env) (λo s₁=>Sc (model prog w) A (getAttr o f true) Q E s₁) E s):Sc (model prog w) A (eval (.Attribute e f pos) env) Q E s:=
 Attribute_any_ h (by rw [arm_eval_Attribute,hb])
end
inductive Soe (K:Sd) (f:Str) (Q:VK) (x:V) (H1:Hp):Prop where
 |mk (a:_) (C:_) (dx:_) (fs:_) (v:_) (_:x= .ref a) (_:H1 a=some (.ins C dx fs)) (_:Cls K C) (_:NoAttr K C f) (_:fs.lookup f=some v) (_:Q v H1)
def Ssh (K:Sd) (ta:TE) (f:Str):TE:=λσ H Q=>ta σ H (Soe K f Q)
def Swv (K:Sd) (ta tv:TE) (f:Str):TS:=λD σ H=>tv σ H λy H1=>ta σ H1 λx H2=>∃a C dx fs,x= .ref a/\H2 a=some (.ins C dx fs)/\Cls K C/\NoAttr K C f/\fs.length < 1000/\
 D.nx σ (upd H2 a (.ins C dx (Jn2 f y fs)))
section
variable {X:Cx} {o e value:Expr} {f:Str} {pos pos' tpos:Pos} {ta tv:TE}
theorem Jm9 (he:PE X e ta) (hb:attributeBase e f X.env (eval e X.env)=eval e X.env):PE X (.Attribute e f pos) (Ssh X.K ta f):=by
 intro pins s σ H Q I h
 refine Ya hb (thn (he pins s σ H _ I h) λu s1 zq=>?_)
 obtain ⟨x,H1,I1,rx,a,C,dx,fs,v,ex,ea,c,n,l,q⟩:=zq
 subst ex
 obtain rfl:u=Value.ref a:=rx
 exact Jzd I1 ea c n l λu' s2 I2 ru=>⟨v,H1,I2,ru,q⟩
theorem Jmv (ha:PE X o ta) (hv:PE X value tv) (hs:swapsWith value (some (.Attribute o f pos')) pos.line X.env=pure false):PS X (.Assign [.Attribute o f pos'] value pos) (Swv X.K ta tv f):=by
 intro pins s σ H D I h
 refine plainObj_wpAny_Assign_Attribute (thn (hv pins s σ H _ I h) λu s1 ⟨y,H1,I1,ry,q⟩=>thn (ha pins s1 σ H1 _ I1 q) λov s2 zq=>?_) hs
 obtain ⟨x,H2,I2,rx,a,C,dx,fs,ex,ea,c,n,l,q2⟩:=zq
 subst ex
 obtain rfl:ov=Value.ref a:=rx
 exact Y3 I2 ea c n l ry λs3 I3=>⟨σ,_,I3,q2⟩
end
section
variable {X:Cx} {pins:List (S1×Obj)} {σ:St} {H:Hp} {s:S3} {A:Sa} {E:S2->S3->Prop} {Q:S2->S3->Prop} {c:S2} {b:Bool}
inductive Jsk (K:Sd) (H:Hp):V->S2->Prop where
 |non:Jsk K H .non (.type "NoneType")
 |bl (x:Bool):Jsk K H (.bl x) (.type "bool")
 |int (i:Int):Jsk K H (.int i) (.type "int")
 |str (x:Str):Jsk K H (.str x) (.type "str")
 |flt (x:UInt64):Jsk K H (.flt x) (.type "float")
 |lst {a:S1} {xs:List V} (e:H a=some (.lst xs)):Jsk K H (.ref a) (.type "list")
 |frz {a:S1} {o:Obj} {xs:List V} (e:H a=some (.frz o (.lst xs))):Jsk K H (.ref a) (.type "list")
 |tup {a:S1} {xs:List V} (e:H a=some (.tup xs)):Jsk K H (.ref a) (.type "tuple")
 |dK {a:S1} {kvs:List (Key×V)} (e:H a=some (.dK kvs)):Jsk K H (.ref a) (.type "dict")
 |dT {a:S1} {kvs:List (List Key×V)} (e:H a=some (.dT kvs)):Jsk K H (.ref a) (.type "dict")
 |ins {a C dx:S1} {fs:List (Str×V)} (e:H a=some (.ins C dx fs)) (cl:Cls K C) (ha:Sf K (.ref C) "__class__" =some (some (.builtin "object.__class__")))
   (hn:PySem.W.specialIn K (.builtin "object.__class__") "__get__" =some (some (.builtin "getset_descriptor.__get__"))) (htk:PySem.W.takesIn K (.builtin "object.__class__")=some true)
   (hm:Sg K C (.type "object")=some true):Jsk K H (.ref a) (.ref C)
end
structure San (k:Nat) (A:Sa):Prop where
 hd:A.handled=none
 dp:A.depth+3*k+5 < recursionLimit
 un:A.units+16*k+200 < cLine
 gd:A.guards=some []
theorem San.mono (r:San k A) (h:j<=k):San j A:=⟨r.hd,by have:=r.dp;omega,by have:=r.un;omega,r.gd⟩
theorem San.deeper (r:San (k+1) A) (env):San k (A.deeper env):=
 ⟨r.hd,by have:=r.dp;show A.depth+1+3*k+5 < _;omega,by have:=r.un;show A.units+3+16*k+200 < _;omega,r.gd⟩
theorem Jzg {A:Sa}:(A.under (.builtin "type.__call__" ⟨.ref C::us,kw⟩)).depth=A.depth+1:=by
 first|rfl|simp [Around.under]
theorem Jzh {A:Sa}:(A.under (.builtin "type.__call__" ⟨.ref C::us,kw⟩)).units=A.units+1:=rfl
theorem Jyh {A:Sa}:(A.under (.builtin "type.__call__" ⟨.ref C::us,kw⟩)).guards=A.guards:=by
 have e:(Code.builtin "type.__call__" ⟨.ref C::us,kw⟩).guards= []:=by
  have g:(Code.builtin "type.__call__" ⟨.ref C::us,kw⟩).isGuard=false:=by
   show guardIds.contains "type.__call__" =false
   decide +kernel
  unfold Code.guards
  rw [g]
  rfl
 show pushGuards (Code.builtin "type.__call__" ⟨.ref C::us,kw⟩).guards A.guards=_
 rw [e]
 rfl
theorem San.make (r:San (k+1) A) (C) (us) (kw):San k (A.under (.builtin "type.__call__" ⟨.ref C::us,kw⟩)):=
 ⟨r.hd,by have:=r.dp;rw [Jzg];omega,by have:=r.un;rw [Jzh];omega,by rw [Jyh];exact r.gd⟩
theorem San.depth (r:San k A):A.depth < recursionLimit:=by have:=r.dp;omega
theorem San.units (r:San k A):A.units+64 < cLine:=by have:=r.un;omega
def Jvt:TA:=λ_ H Q=>Q [] H
def Jn8 (ta:TE) (tr:TA):TA:=λσ H Q=>ta σ H λx H1=>tr σ H1 λxs H2=>Q (x::xs) H2
section
variable {X:Cx} {e:Expr} {es:List Expr} {te:TE} {t:TA} {pos:Pos}
theorem Sl:PA X [] Jvt:=λ_ _ _ _ H Q I h=>Calls.spliced_nil ⟨[],H,I,.nil,h⟩
theorem Sj (ha:PE X e te) (hr:PA X es t) (hs:starEach (e::es) X.env=(false,eval e X.env)::starEach es X.env:=by rfl):PA X (e::es) (Jn8 te t):=by
 intro pos pins s σ H Q I h
 rw [hs]
 show Sc _ _ (spliced ((false,eval e X.env)::backTo pos (starEach es X.env))) _ _ s
 exact Calls.spliced_cons (thn (ha pins s σ H _ I h) λu s1 ⟨x,H1,I1,r1,q1⟩=>thn (hr pos pins s1 σ H1 _ I1 q1) λus s2 ⟨xs,H2,I2,r2,q2⟩=>⟨x::xs,H2,I2,.cons r1 r2,q2⟩)
inductive Soi (Q:VK) (xs:List V) (H1:Hp):Prop where
 |mk (_:xs.length<=S6) (_:∀p,H1 p=none->Q (.ref p) (upd H1 p (.tup xs)))
def Sxc (t:TA):TE:=λσ H Q=>t σ H (Soi Q)
inductive Sog (Q:VK) (xs:List V) (H1:Hp):Prop where
 |mk (_:xs.length<=S6) (_:∀p,H1 p=none->Q (.ref p) (upd H1 p (.lst xs)))
def Sx8 (t:TA):TE:=λσ H Q=>t σ H (Sog Q)
theorem Jn1 (h:PA X es t):PE X (.Tuple es x1 pos) (Sxc t):=by
 intro pins s σ H Q I hq
 refine wpAny_Tuple_spliced (thn (h pos pins s σ H _ I hq) λus s1 ⟨xs,H1,I1,r,z,q⟩=>⟨by rw [<-r.length];exact z,⟨.ref s1.heap.objs.size,upd H1 s1.heap.objs.size (.tup xs),I1.laid (λb u e=>ym _ e) (yg _) ?_,rfl,q _ (I1.hok.fresh (yg _))⟩⟩)
 exact ⟨z,us,r,⟨_,yx _ rfl,rfl,_,rfl⟩⟩
theorem Jmt (h:PA X es t):PE X (.List es pos) (Sx8 t):=by
 intro pins s σ H Q I hq
 refine wpAny_List_spliced (thn (h pos pins s σ H _ I hq) λus s1 ⟨xs,H1,I1,r,z,q⟩=>⟨by rw [<-r.length];exact z,⟨.ref s1.heap.objs.size,upd H1 s1.heap.objs.size (.lst xs),I1.laid (λb u e=>ym _ e) (yg _) ?_,rfl,q _ (I1.hok.fresh (yg _))⟩⟩)
 exact ⟨z,us,0,r,yx _ rfl⟩
end
abbrev Sp:=List V->Hp->VK->XK->Prop
abbrev CXT:=List Env->Hp->S3->XK->S2->S3->Prop
structure Sgy (P:S7) (w:S9) (K:Sd) (mg:Str->Option S2) (base:Sb) (A:Sa) (outer:List Env) (s:S3) (H:Hp):Prop where
 frames:A.frames=some outer
 mod:Mod K mg base
 bs:∀b o,base.get? b=some o->s.heap.get? b=some o/\H b=none
 bsz:base.objs.size<=s.heap.objs.size
 funs:s.heap.FunFrames base outer
 frf:∀b∈frs outer,H b=none
 hok:HOk P w H s.heap
 bare:AllBare s.gens
def CE (outer:List Env) (P:S7) (w:S9) (H:Hp) (s:S3) (Q:VK) (u:S2) (s':S3):Prop:=
 ∃v H',s'.os=s.os/\AllBare s'.gens/\Un (frs outer) [] H H' s.heap s'.heap/\HOk P w H' s'.heap/\RelV v u/\Q v H'
def CR (CX:CXT) (outer:List Env) (P:S7) (w:S9) (H:Hp) (s:S3) (Q:VK) (E:XK) (r:Result) (s':S3):Prop:=
 match r with
 | .ok (.ret u)=>CE outer P w H s Q u s'
 | .ok _=>False
 | .error e=>CX outer H s E e s'
structure So (P:S7) (w:S9) (K:Sd) (mg:Str->Option S2) (base:Sb) (CX:CXT) (k:Nat) (f:S1) (fd:S8) (ps:List Str) (sp:Sp):Prop where
 len:∀vs H Q E,sp vs H Q E->vs.length=ps.length
 run:∀(A:Sa) (outer:List Env) (s:S3) (H:Hp) (args:Args) (us:List S2) (vs:List V) (Q:VK) (E:XK),San k A->Sgy P w K mg base A outer s H->BindsTo s fd args (ps.zip us)->Sv vs us->sp vs H Q E->
  codeAny (model P w) A (.call (.ref f) args) (CR CX outer P w H s Q E) s
theorem So.imp {K} (F:So P w K mg base CX k f fd ps sp)
  (h:∀vs H Q E,sp' vs H Q E->sp vs H Q E):So P w K mg base CX k f fd ps sp':=
 ⟨λvs H Q E q=>F.len vs H Q E (h _ _ _ _ q),λA outer s H args us vs Q E hr he hb hv hs=>F.run A outer s H args us vs Q E hr he hb hv (h _ _ _ _ hs)⟩
theorem Sgy.make {K} (e:Sgy P w K mg base A outer s H) (C) (us) (kw):
  Sgy P w K mg base (A.under (.builtin "type.__call__" ⟨.ref C::us,kw⟩)) outer s H:=⟨by first|exact e.frames|(simpa [Around.under] using e.frames),e.mod,e.bs,e.bsz,e.funs,e.frf,e.hok,e.bare⟩
section
variable {X:Cx} {pins:List (S1×Obj)} {σ:St} {H:Hp} {s s':S3}
theorem Sm.env0 (I:Sm X pins σ H s):Sgy X.prog X.w X.K X.mg X.base X.A X.stack s H:=
 ⟨I.ok.frames,I.ok.mod,I.bs,yac I.ok.bsz I.sz,I.stack,I.stkFree,I.hok,I.bare⟩
theorem Sm.after (I:Sm X pins σ H s) (h:CE X.stack X.prog X.w H s Q u s'):EP X pins σ Q u s':=by
 obtain ⟨v,H',os,bare,un,hok,r,q⟩:=h
 obtain ⟨hh,g,d,t,os'⟩:=s'
 obtain rfl:os'=s.os:=os
 exact ⟨v,H',I.call un hok bare (λb z=>absurd z (by simp)),r,q⟩
end
def Sl0 (sp:Sp) (dvs:List V) (E:XK) (t:TA):TE:=λσ H Q=>t σ H λvs H1=>sp (vs++dvs) H1 Q E
inductive Yfb (C:S1) (m:Str) (sp:Sp) (dvs:List V) (E:XK) (t:TA) (σ:St) (Q:VK) (x:V) (H1:Hp):Prop where
 |mk (a:_) (dx:_) (fs:_) (_:x= .ref a) (_:H1 a=some (.ins C dx fs)) (_:fs.lookup m=none) (_:t σ H1 λvs H2=>sp (x::(vs++dvs)) H2 Q E)
def Sl2 (C:S1) (m:Str) (sp:Sp) (dvs:List V) (E:XK) (ta:TE) (t:TA):TE:=λσ H Q=>ta σ H (Yfb C m sp dvs E t σ Q)
def Ssj (C:S1) (sp:Sp) (dvs:List V) (E:XK) (t:TA):TE:=λσ H Q=>t σ H λvs H1=>∀x dx,H1 x=none->H1 dx=none->dx≠x->
 sp (.ref x::(vs++dvs)) (upd (upd H1 dx (.own x)) x (.ins C dx [])) (λv H2=>v= .non/\Q (.ref x) H2) E
def Sb2 (K:Sd) (fd:S8) (ps:List Str) (ds:List S2):Prop:=
 ∀(s:S3) (us:List S2),K.In s.heap->(us++ds).length=ps.length->BindsTo s fd ⟨us,[]⟩ (ps.zip (us++ds))
theorem Sb2.all {K} (h:∀us:List S2,us.length=ps.length->bindArgs fd ⟨us,[]⟩=pure (ps.zip us)):Sb2 K fd ps []:=λs us _ hl=>by
 rw [ybb] at hl⊢
 exact .of_eq (h us hl)
def Jr9 (CX:CXT) (X:Cx) (E:XK):Prop:=∀(pins:List (S1×Obj)) (σ:St) (H:Hp) (s:S3) (e:S2) (s':S3),Sm X pins σ H s->CX X.stack H s E e s'->X.xe e s'
section
variable {X:Cx} {CX:CXT} {k:Nat} {f C:S1} {fd:S8} {ps:List Str} {sp:Sp} {dvs:List V} {ds:List S2} {E:XK} {x m:Str} {p pos apos:Pos} {e o:Expr} {es:List Expr} {ta:TE} {t:TA}
theorem Jv6 (F:So X.prog X.w X.K X.mg X.base CX k f fd ps sp) (hr:San k X.A) (hb:Sb2 X.K fd ps ds) (hd:Sv dvs ds) (hx:Jr9 CX X E)
  (I:Sm X pins σ H s) (r:Sv vs us) (h:sp (vs++dvs) H Q E):Sc (model X.prog X.w) X.A (call (.ref f) us) (EP X pins σ Q) X.xe s:=by
 have r2:=r.append hd
 have hl:(us++ds).length=ps.length:=by rw [<-r2.length];exact F.len _ _ _ _ h
 refine wpAny_call (codeAny_mono (F.run X.A X.stack s H ⟨us,[]⟩ (us++ds) (vs++dvs) Q E hr I.env0 (hb s us I.kIn hl) r2 h) λr s' hq=>?_)
 cases r with
 |error e=>exact hx pins σ H s e s' I hq
 |ok fl=>
  cases fl with
  |ret u=>exact I.after hq
  |next=>exact False.elim hq
  |brk=>exact False.elim hq
  |cont=>exact False.elim hq
theorem Yea (F:So X.prog X.w X.K X.mg X.base CX k f fd ps sp) (hr:San k X.A) (hg:Gl X x) (hm:X.mg x=some (.ref f)) (hk:PySem.W.keepIn X.K (.ref f)=true) (hb:Sb2 X.K fd ps ds) (hd:Sv dvs ds) (hx:Jr9 CX X E)
  (ha:PA X (e::es) t) (hdb:(x==("__debug__" :Str))=false:=by decide) (he:starEach (e::es) X.env=(false,eval e X.env)::starEach es X.env:=by rfl) (hpl:(backTo pos (starEach es X.env)).any (·.1)=false:=by rfl):
  PE X (.Call (.Name x p) (e::es) [] pos) (Sl0 sp dvs E t):=by
 intro pins s σ H Q I h
 exact wpAny_Call_Name_kw (Jqt I hg hm (PySem.W.callWith_K I.ok.mod.kin hk (thn (ha pos pins s σ H _ I h) λus s1 ⟨vs,H1,I1,r,q⟩=>⟨I1.kIn,Jv6 F hr hb hd hx I1 r q⟩) he hpl) hdb)
theorem Jxh {pl} (he:PE X o ta) (c:Cls X.K C) (hm:Joc X.K C m f) (F:So X.prog X.w X.K X.mg X.base CX k f fd ps sp) (hr:San k X.A) (hb:Sb2 X.K fd ps ds) (hd:Sv dvs ds) (hx:Jr9 CX X E) (ha:PA X (e::es) t)
  (hst:starEach (e::es) X.env=(false,eval e X.env)::starEach es X.env:=by rfl) (hpl:(backTo pos (starEach es X.env)).any (·.1)=false:=by rfl)
  (ht:eval (.Call (.Attribute o m apos) (e::es) [] pos) X.env=(do
   let ov<-eval o X.env
   standAt apos.atName
   let (f,first)<-holding [ov] (getMethod ov m pl)
   callWith pos f first (backTo pos (starEach (e::es) X.env)) (backToKw pos (keywordEach [] X.env))):=by rfl):
  PE X (.Call (.Attribute o m apos) (e::es) [] pos) (Sl2 C m sp dvs E ta t):=by
 intro pins s σ H Q I h
 refine PySem.W.methodCall_KW (thn (he pins s σ H _ I h) λu s1 zq=>?_) ht
 obtain ⟨x,H1,I1,rx,a,dx,fs,ex,ea,l,q⟩:=zq
 subst ex
 obtain rfl:u=Value.ref a:=rx
 exact Jos I1 ea c hm l (PySem.W.callWith_K I.ok.mod.kin hm.kp (thn (ha pos pins s1 σ H1 _ I1 q) λus s2 ⟨vs,H2,I2,r,q2⟩=>⟨I2.kIn,Jv6 (vs:=.ref a::vs) F hr hb hd hx I2 (.cons rfl r) q2⟩) hst hpl)
theorem Jyo (he:PE X o ta) (c:Cls X.K C) (hm:Joc X.K C m f) (F:So X.prog X.w X.K X.mg X.base CX k f fd ps sp) (hr:San k X.A) (hb:Sb2 X.K fd ps ds) (hd:Sv dvs ds) (hx:Jr9 CX X E)
  (ht:eval (.Call (.Attribute o m apos) [] [] pos) X.env=(do
   let ov<-eval o X.env
   standAt apos.atName
   let (f,first)<-holding [ov] (getMethod ov m pl)
   callWith pos f first (backTo pos (starEach [] X.env)) (backToKw pos (keywordEach [] X.env))):=by rfl):
  PE X (.Call (.Attribute o m apos) [] [] pos) (Sl2 C m sp dvs E ta Jvt):=by
 intro pins s σ H Q I h
 refine PySem.W.methodCall_KW (thn (he pins s σ H _ I h) λu s1 zq=>?_) ht
 obtain ⟨x,H1,I1,rx,a,dx,fs,ex,ea,l,q⟩:=zq
 subst ex
 obtain rfl:u=Value.ref a:=rx
 exact Jos I1 ea c hm l (PySem.W.callWith_K0 I1.kIn hm.kp (Jv6 (vs:=[.ref a]) F hr hb hd hx I1 (.cons rfl .nil) q))
structure Mk (K:Sd) (C f:S1):Prop where
 makes:PySem.W.makesIn K C=true
 init:Sf K (.ref C) "__init__" =some (some (.ref f))
 fn:PySem.W.isFn K (.ref f)=true
 kp:PySem.W.keepIn K (.ref C)=true
theorem Ycs {σ:St} {H} {s} {Q} {us} {vs} (M:Mk X.K C f) (F:So X.prog X.w X.K X.mg X.base CX k f fd ps sp) (hr:San (k+1) X.A) (hb:Sb2 X.K fd ps ds) (hd:Sv dvs ds)
  (hx:Jr9 CX X E) (I:Sm X pins σ H s) (r:Sv vs us)
  (h:∀x dx,H x=none->H dx=none->dx≠x->sp (.ref x::(vs++dvs)) (upd (upd H dx (.own x)) x (.ins C dx [])) (λv H2=>v= .non/\Q (.ref x) H2) E):
  Sc (model X.prog X.w) X.A (call (.ref C) us) (EP X pins σ Q) X.xe s:=by
 have hq:=h (s.heap.objs.size+1) s.heap.objs.size (I.hok.fresh (Nat.le_succ _)) (I.hok.fresh (yg _)) (yz (yce _))
 have I2:=Sm.made (C:=C) I
 have r2:Sv (V.ref (s.heap.objs.size+1)::(vs++dvs)) (Value.ref (s.heap.objs.size+1)::(us++ds)):=.cons rfl (r.append hd)
 have hl:=by
  have e:=r2.length
  rw [F.len _ _ _ _ hq] at e
  exact e.symm
 refine wpAny_call (Ybx I.kIn M.makes M.init (beq_iff_eq.mp M.fn) (codeAny_mono (F.run _ X.stack _ _ ⟨Value.ref (s.heap.objs.size+1)::us,[]⟩ (Value.ref (s.heap.objs.size+1)::(us++ds)) _ _ E (hr.make C us [])
  (I2.env0.make C us []) (hb _ (Value.ref (s.heap.objs.size+1)::us) I2.kIn hl) r2 hq) λr s' hq'=>?_))
 cases r with
 |error e=>exact hx pins σ _ _ e s' I2 hq'
 |ok fl=>
  cases fl with
  |ret u=>
   obtain ⟨v,H',I3,rv,ev,q3⟩:=I2.after hq'
   subst ev
   exact ⟨rv,⟨V.ref (s.heap.objs.size+1),H',I3,rfl,q3⟩⟩
  |next=>exact False.elim hq'
  |brk=>exact False.elim hq'
  |cont=>exact False.elim hq'
theorem Jof (M:Mk X.K C f) (F:So X.prog X.w X.K X.mg X.base CX k f fd ps sp) (hr:San (k+1) X.A) (hg:Gl X x) (hm:X.mg x=some (.ref C)) (hb:Sb2 X.K fd ps ds) (hd:Sv dvs ds) (hx:Jr9 CX X E)
  (ha:PA X (e::es) t) (hdb:(x==("__debug__" :Str))=false:=by decide) (he:starEach (e::es) X.env=(false,eval e X.env)::starEach es X.env:=by rfl) (hpl:(backTo pos (starEach es X.env)).any (·.1)=false:=by rfl):
  PE X (.Call (.Name x p) (e::es) [] pos) (Ssj C sp dvs E t):=by
 intro pins s σ H Q I h
 exact wpAny_Call_Name_kw (Jqt I hg hm (PySem.W.callWith_K I.ok.mod.kin M.kp (thn (ha pos pins s σ H _ I h) λus s1 ⟨vs,H1,I1,r,q⟩=>⟨I1.kIn,Ycs M F hr hb hd hx I1 r q⟩) he hpl) hdb)
end
section
variable {X:Cx} {CX:CXT} {k:Nat} {f C:S1} {fd:S8} {ps ks:List Str} {sp:Sp} {E:XK} {x m:Str} {p pos apos kpos:Pos} {e o:Expr} {es:List Expr} {kws:List Keyword} {te ta:TE} {t tk:TA} {nm:Option Str}
variable {g:List S2->List S2->List S2} {gV:List V->List V->List V}
end
structure Jm2 (N P:List Str) (sc:Scope):Prop where
 kind:sc.kind= .function
 co:sc.isCoroutine=false
 gen:sc.isGenerator=false
 nd:N.Nodup
 pre:N.take P.length=P
 par:∀x∈P,sc.names.lookup x=some .local\/sc.names.lookup x=some .cell
 nofree:∀y∈sc.names,y.2≠ .free
theorem Jw0 {kindOf}:∀{binds} {m},(∀v,(x,v)∉binds)->bindL kindOf binds m x=m x
 | [],_,_=>rfl
 | (n,v) :: r,m,h=>by
  unfold bindL
  rw [Jw0 λw hw=>h w (yaa _ hw)]
  split
  ·have:x≠n:=by rintro rfl;exact h v yah
   simp [this]
  ·rfl
theorem Jvy {kindOf}:∀{binds} {m},(∀v,(x,v)∉binds)->bindC kindOf binds m x=m x
 | [],_,_=>rfl
 | (n,v) :: r,m,h=>by
  unfold bindC
  rw [Jvy λw hw=>h w (yaa _ hw)]
  split
  ·rfl
  ·have:x≠n:=by rintro rfl;exact h v yah
   simp [this]
theorem Jvz {kindOf:Str->Option NameKind} {x:Str} {v:S2}:∀{P:List Str} {vs:List S2} {i:Nat} {m:Str->Option S2},P.Nodup->P[i]?=some x->vs[i]?=some v->kindOf x=some .local->
  bindL kindOf (P.zip vs) m x=some v
 | [],_,_,_,_,h,_,_=>by simp at h
 |_::_,[],_,_,_,_,h,_=>by simp at h
 |p::P,w::vs,0,m,nd,h1,h2,hk=>by
  simp at h1 h2;subst h1;subst h2
  show bindL kindOf ((p,w)::P.zip vs) m p=_
  unfold bindL
  rw [Jw0 λv hv=>(ybh.mp nd).1 (List.of_mem_zip hv).1,if_pos hk]
  simp
 |p::P,w::vs,i+1,m,nd,h1,h2,hk=>by
  show bindL kindOf ((p,w)::P.zip vs) m x=_
  unfold bindL
  exact Jvz (i:=i) (ybh.mp nd).2 (by simpa using h1) (by simpa using h2) hk
theorem Jvx {kindOf:Str->Option NameKind} {x:Str} {v:S2}:∀{P:List Str} {vs:List S2} {i:Nat} {m:Str->Option S2},P.Nodup->P[i]?=some x->vs[i]?=some v->kindOf x≠some .local->
  bindC kindOf (P.zip vs) m x=some v
 | [],_,_,_,_,h,_,_=>by simp at h
 |_::_,[],_,_,_,_,h,_=>by simp at h
 |p::P,w::vs,0,m,nd,h1,h2,hk=>by
  simp at h1 h2;subst h1;subst h2
  show bindC kindOf ((p,w)::P.zip vs) m p=_
  unfold bindC
  rw [Jvy λv hv=>(ybh.mp nd).1 (List.of_mem_zip hv).1,if_neg hk]
  simp
 |p::P,w::vs,i+1,m,nd,h1,h2,hk=>by
  show bindC kindOf ((p,w)::P.zip vs) m x=_
  unfold bindC
  exact Jvx (i:=i) (ybh.mp nd).2 (by simpa using h1) (by simpa using h2) hk
def start (N:List Str) (vs:List V):St:=vs.map some++yax (N.length - vs.length) none
def Jy7 (CX:CXT) (P:S7) (w:S9) (K:Sd) (mg:Str->Option S2) (base:Sb) (N:List Str) (qual:Str) (scope:Scope) (f:S1) (cd:S2) (A:Sa) (outer:List Env) (s:S3) (H:Hp) (E:XK):Cx where
 prog:=P
 w:=w
 K:=K
 mg:=mg
 base:=base
 A:=A.deeper (envOfC qual scope s.heap.objs.size f cd)
 N:=N
 s₀:=s
 H₀:=H
 env:=envOfC qual scope s.heap.objs.size f cd
 outer:=outer
 stack:=envOfC qual scope s.heap.objs.size f cd::outer
 ex:=[]
 calm:=true
 fn:=λ_=>true
 pn:=[]
 xe:=λe s'=>Sc (model P w) (A.deeper (envOfC qual scope s.heap.objs.size f cd)) (leaving (envOfC qual scope s.heap.objs.size f cd) e) (λ_ s''=>CX outer H s E e s'') (λe' s''=>CX outer H s E e' s'') s'
theorem Jy4 {sc:Scope} (h:sc.names.lookup x=some .cell):∃c,(cellsFrom n sc.names []).lookup x=some c:=Option.isSome_iff_exists.mp (PySem.W.cellsFrom_some sc.names n [] (.inl h))
theorem Ya9 {K}
  (S:Jm2 N ps scope) (hd:A.handled=none) (e0:Sgy P w K mg base A outer s H) (hl:vs.length=ps.length) (r:Sv vs us)
  (x:InCallC s s.heap.objs.size (bindL (envOfC qual scope s.heap.objs.size f cd).kindOf (ps.zip us) λ_=>none) (cellsFrom (s.heap.objs.size+1) scope.names []) (bindC (envOfC qual scope s.heap.objs.size f cd).kindOf (ps.zip us) λ_=>none) s1):
  Sm (Jy7 CX P w K mg base N qual scope f cd A outer s H E) [] (start N vs) H s1:=by
 have hpl:=by have:=congrArg List.length S.pre;rw [yad] at this;omega
 obtain ⟨h1,tk,rfl,hk⟩:=x.done
 have noA:∀b:S1,b∉(Jy7 CX P w K mg base N qual scope f cd A outer s H E).ex:=λb z=>absurd (show b∈ [] from z) (by simp)
 refine ⟨⟨e0.mod,S.kind,rfl,rfl,yg _,λy z c h1 h2=>?_,λy hy=>?_,λy c _ h=>?_,λ_=>hd,Around.frames_deeper e0.frames,.inr ⟨rfl,rfl⟩,λb z=>absurd z (noA b),e0.bs,e0.bsz,λb _ _=>noA b,λb z=>absurd z (noA b),e0.funs,e0.frf⟩,
  rfl,e0.bare,Un.kept hk,⟨_,x.toInCall.ns,λi y v h1 h2 h3=>?_⟩,λy c h=>⟨_,x.cell y c h⟩,e0.hok.fresh (yg _),λy c h=>?_,λp hp=>absurd (show p∈ [] from hp) (by simp),e0.hok.kept hk,?_⟩
 ·exact name_of_addr x.apart (PySem.mem_of_lookup h1) (PySem.mem_of_lookup h2)
 ·have hy:=hy
  rcases hy with hy|hy
  ·exact Jy4 hy
  ·exact absurd rfl (S.nofree _ (PySem.mem_of_lookup hy))
 ·exact ycd (x.above y c (PySem.mem_of_lookup h))
 ·have hi:i < vs.length:=by
   unfold start at h2
   by_cases hi:i < vs.length
   ·exact hi
   ·rw [List.getElem?_append_right (by simpa using hi)] at h2
    rw [List.getElem?_replicate] at h2
    split at h2 <;> cases h2
  have ha:vs[i]?=some v:=by
   unfold start at h2
   rw [List.getElem?_append_left (by simpa using hi),yj] at h2
   cases e:vs[i]? with
   |none=>rw [e] at h2;cases h2
   |some a=>rw [e] at h2;cases h2;rfl
  obtain ⟨u,hu,rv⟩:=r.get ha
  have hp:ps[i]?=some y:=by
   rw [<-S.pre,List.getElem?_take_of_lt (by omega)];exact h1
  have ndP:ps.Nodup:=by rw [<-S.pre];exact S.nd.sublist (List.take_sublist _ _)
  refine ⟨u,rv,?_⟩
  rcases S.par y (yr hp) with k|k
  ·exact .inl ⟨k,Jvz ndP hp hu k⟩
  ·obtain ⟨c,e⟩:=Jy4 k
   refine .inr ⟨.inl k,c,e,?_⟩
   have q:=x.cell y c e
   rw [Jvx ndP hp hu (by show scope.names.lookup y≠_;rw [k];decide)] at q
   exact q
 ·exact .inl (e0.hok.fresh (ycd (x.above y c (PySem.mem_of_lookup h))))
 ·unfold start
  show _=N.length
  rw [yab,ye,ych]
  omega
theorem Skn {K} {kV oc}
  (lk:K.lookup f=some ⟨oc,od,.func (PySem.W.fnOf name qual params body scope dV kV doc pm an cdv ct),osl⟩) (hcd:PySem.W.codeIn K cdv qual=true) (S:Jm2 N ps scope)
  (len:∀vs H Q E,sp vs H Q E->vs.length=ps.length)
  (hbody:∀A outer s H vs Q E,San k (A.deeper (envOfC qual scope s.heap.objs.size f cdv))->sp vs H Q E->
   ∃t,PSs (Jy7 CX P w K mg base N qual scope f cdv A outer s H E) body t/\t {nx:=λ_ H'=>Q .non H',rt:=Q} (start N vs) H):
  So P w K mg base CX (k+1) f (PySem.W.fnOf name qual params body scope dV kV doc pm an cdv ct) ps sp:=by
 refine ⟨len,λA outer s H args us vs Q E hr e0 hb r hsp=>?_⟩
 have KX:=e0.mod.kin.keeps λb o e=>(e0.bs b o e).1
 have hkind:∀y∈ps.zip us,scope.names.lookup y.1=some .local\/(scope.names.lookup y.1=some .cell/\((cellsFrom (s.heap.objs.size+1) scope.names []).lookup y.1).isSome=true):=λ⟨n,v⟩ hy=>by
  rcases S.par n (List.of_mem_zip hy).1 with q|q
  ·exact .inl q
  ·exact .inr ⟨q,PySem.W.cellsFrom_some _ _ _ (.inl q)⟩
 refine codeAny_call_function hr.depth (KX _ _ lk) rfl S.co S.gen rfl (PySem.W.codeRec_of KX hcd) (hb _ _ _ _ (wpAny_newFunctionEnv_cells S.kind hkind λenv he s1 x=>?_))
 subst he
 refine ⟨(e0.mod.nolimit.keeps λb o e=>(e0.bs b o e).1).keeps x.toInCall.keep,codeAny_func ?_⟩
 obtain ⟨t,ht,hq⟩:=hbody A outer s H vs Q E (hr.deeper _) hsp
 have I:Sm (Jy7 CX P w K mg base N qual scope f cdv A outer s H E) [] (start N vs) H s1:=Ya9 S hr.hd e0 (len _ _ _ _ hsp) r x
 refine wpAny_mono (ht [] s1 (start N vs) H _ I hq) (λfl s' hs=>?_) λe s' hs=>hs
 have fin:∀{σ':St} {H':Hp} {v:V} {u:S2},Sm (Jy7 CX P w K mg base N qual scope f cdv A outer s H E) [] σ' H' s'->RelV v u->Q v H'->CE outer P w H s Q u s':=
  λ{σ' H' v u} J rv q=>⟨v,H',J.os,J.bare,J.base,J.hok,rv,q⟩
 cases fl with
 |ret u=>
  obtain ⟨v,σ',H',J,rv,q⟩:=hs
  exact fin J rv q
 |next=>
  obtain ⟨σ',H',J,q⟩:=hs
  exact fin (v:=V.non) J rfl q
 |brk=>
  obtain ⟨_,_,_,q⟩:=hs
  exact False.elim q
 |cont=>
  obtain ⟨_,_,_,q⟩:=hs
  exact False.elim q
section
variable {X:Cx} {x:Str} {p pos:Pos} {e:Expr} {es:List Expr} {t:TA} {id T:String} {r:List V->Hp->VK->Prop}
def tCB (r:List V->Hp->VK->Prop) (t:TA):TE:=λσ H Q=>t σ H λvs H1=>r vs H1 Q
theorem Jm4 (hc:Jnr X (.builtin id) r) (hg:Gl X x) (hm:X.mg x=none) (hv:bootBuiltins x=some (.builtin id)) (ha:PA X (e::es) t) (hn:x≠"__name__" :=by decide) (hdb:(x==("__debug__" :Str))=false:=by decide)
  (he:starEach (e::es) X.env=(false,eval e X.env)::starEach es X.env:=by rfl) (hpl:(backTo pos (starEach es X.env)).any (·.1)=false:=by rfl):PE X (.Call (.Name x p) (e::es) [] pos) (tCB r t):=by
 intro pins s σ H Q I h
 exact wpAny_Call_Name_kw (Jpm I hg hm hv (PyProof.Rows.callWith_builtin1 (thn (ha pos pins s σ H _ I h) λus s1 ⟨vs,H1,I1,r1,q1⟩=>hc pins s1 σ H1 vs us Q I1 r1 q1) he hpl) hn hdb)
theorem Jmf (hc:Jnr X (.type T) r) (hg:Gl X x) (hm:X.mg x=none) (hv:bootBuiltins x=some (.type T)) (ha:PA X (e::es) t) (hn:x≠"__name__" :=by decide) (hdb:(x==("__debug__" :Str))=false:=by decide)
  (he:starEach (e::es) X.env=(false,eval e X.env)::starEach es X.env:=by rfl) (hpl:(backTo pos (starEach es X.env)).any (·.1)=false:=by rfl):PE X (.Call (.Name x p) (e::es) [] pos) (tCB r t):=by
 intro pins s σ H Q I h
 exact wpAny_Call_Name_kw (Jpm I hg hm hv (PyProof.Rows.callWith_type1 (thn (ha pos pins s σ H _ I h) λus s1 ⟨vs,H1,I1,r1,q1⟩=>hc pins s1 σ H1 vs us Q I1 r1 q1) he hpl) hn hdb)
end
end L2
namespace HT
open PySem PyProof.Rows
section
open PySem.SeqAt
open PySem.AutoSeq1 (wpAny_loadPart')
open PySem.MeetsSeq PySem.MeetsSeq2 PySem.MeetsSeq3
end
section
variable {prog:S7} {w:S9} {A:Sa} {E:S2->S3->Prop} {s:S3}
theorem cat_tup (ht:IsTup s.heap t vs.toArray) (hb:IsTup s.heap b ws.toArray) (hv:vs≠ [])
  (h1:ws= []->Q (.ref t) s) (h2:ws≠ []->Q (.ref s.heap.objs.size) {s with heap:=s.heap.push {cls:=.type "tuple",data:=.seq (vs++ws).toArray}})
  (hsz:vs.length+ws.length<=S6):Sc (model prog w) A (binaryOp .Add (.ref t) (.ref b)) Q E s:=by
 obtain ⟨⟨cls,dd,data,sl⟩,ho,hc,n,hd⟩:=id ht
 obtain ⟨⟨cls2,dd2,data2,sl2⟩,ho2,hc2,n2,hd2⟩:=id hb
 subst hc hd hc2 hd2
 have e:vs.toArray++ws.toArray=(vs++ws).toArray:=by simp
 by_cases hw:ws= []
 ·exact concat_meets ⟨_,ho,rfl⟩ ⟨_,ho2,rfl⟩ noFill_tuple_add seq_tuple_add PySem.F.slot_tuple_add PySem.F.entry_tuple_add (PySem.F.args_tuple_add_2 _ _)
   (tuple_addW1 t b vs.toArray ws.toArray n n2 dd dd2 sl sl2 (by simpa using hv) (by simp [hw])) ⟨ho,ho2,h1 hw⟩
 ·refine concat_meets ⟨_,ho,rfl⟩ ⟨_,ho2,rfl⟩ noFill_tuple_add seq_tuple_add PySem.F.slot_tuple_add PySem.F.entry_tuple_add (PySem.F.args_tuple_add_2 _ _)
   (tuple_addW2 t b vs.toArray ws.toArray n n2 dd dd2 sl sl2 (by simpa using hv) (by simpa using hw) (by rw [yq];exact hsz)) ⟨ho,ho2,?_⟩
  rw [e]
  exact h2 hw
def sIx (n d:Nat):Option Int->Nat
 |none=>d
 |some v=>if v < 0 then (v+(n:Int)).toNat else min v.toNat n
theorem sIx_none (n d):sIx n d none=d:=rfl
theorem sIx_nat (n d k:Nat):sIx n d (some k)=min k n:=rfl
theorem Yc (v:Int) (n d:Nat):(if v < 0 then max (v+n) 0 else min v n)=((sIx n d (some v):Nat):Int):=by
 show (if v < 0 then max (v+n) 0 else min v n)=(if v < 0 then (v+n).toNat else min v.toNat n)
 by_cases hv:v < 0
 ·simp only [if_pos hv];omega
 ·simp only [if_neg hv];omega
theorem Jz6 (lo hi) (n:Nat):Builtin.Slice.sliceAdjust lo hi 1 (n)=(((sIx n 0 lo:Nat):Int),(sIx n n hi:Int)):=by
 refine Prod.ext ?_ ?_
 ·cases lo with
  |none=>rfl
  |some v=>exact Yc v n 0
 ·cases hi with
  |none=>rfl
  |some v=>exact Yc v n n
theorem Jzu (i j:Nat):Builtin.Slice.slicePlaces (i) (j) 1=j - i:=by
 unfold Builtin.Slice.slicePlaces
 split <;> omega
theorem Jv9 (p:IsPart v o) (h:Q o s):Sc (model prog w) A (Builtin.Slice.slicePartIndex v) Q E s:=by
 cases p with
 |none=>exact slicePart_none h
 |int i t=>exact slicePart_int h
theorem Jt7 {lo hi} {n:Nat} {Q} (hs:s.heap.IsSliceOf sl vl vu .none) (pl:IsPart vl lo) (pu:IsPart vu hi)
  (h:Q (((sIx n 0 lo:Nat):Int),1,sIx n n hi - sIx n 0 lo) s):Sc (model prog w) A (Builtin.Slice.sliceApplied (.ref sl) (pure n)) Q E s:=by
 obtain ⟨os,hos,hcs,hds⟩:=id hs
 refine S4 (S4 (wpAny_field hos hds rfl (S4 (wpAny_field hos hds rfl (S4 (wpAny_field hos hds rfl (S5 (S4 (slicePart_none (S4 (Jv9 pl (S4 (Jv9 pu (S4 (S5 ?_)))))))))))))))
 show Sc _ _ (match Builtin.Slice.sliceAdjust lo hi 1 n with|(lo,hi)=>pure (lo,(1:Int),Builtin.Slice.slicePlaces lo hi 1)) _ _ s
 rw [Jz6 lo hi n]
 show Sc _ _ (pure ((sIx n 0 lo:Int),1,Builtin.Slice.slicePlaces (sIx n 0 lo) (sIx n n hi) 1)) _ _ s
 rw [Jzu]
 exact S5 h
theorem Yca (xs:Array S2) (i k:Nat):((yav k).filterMap λ(m:Nat)=>xs[((i:Int)+m*1).toNat]?).toArray=((xs.toList.drop i).take k).toArray:=by
 have e:(λ(m:Nat)=>xs[((i:Int)+m*1).toNat]?)=λm=>xs[i+m]?:=by
  funext m
  have:((i:Int)+m*1).toNat=i+m:=by omega
  rw [this]
 rw [e]
 have:=pick_run xs i k
 rw [List.filterMap_map] at this
 have e2:((λx=>xs[x]?)∘λx=>i+x)=λm=>xs[i+m]?:=rfl
 rw [e2] at this
 rw [this]
theorem getItem_tuple_cut {items} {vl vu} {lo hi} {Q} (ht:IsTup s.heap t items) (hs:s.heap.IsSliceOf sl vl vu .none) (pl:IsPart vl lo) (pu:IsPart vu hi)
  (hw:¬(sIx items.size 0 lo=0/\sIx items.size items.size hi=items.size))
  (h:Q (.ref s.heap.objs.size) {s with heap:=s.heap.push {cls:=.type "tuple",data:=.seq ((items.toList.drop (sIx items.size 0 lo)).take (sIx items.size items.size hi - sIx items.size 0 lo)).toArray}})
  (hsz:items.size<=S6):Sc (model prog w) A (getItem (.ref t) (.ref sl)) Q E s:=by
 have htake:=by
  show ((items.toList.drop (sIx items.size 0 lo)).take (sIx items.size items.size hi - sIx items.size 0 lo)).toArray.size<=S6
  rw [yq,yad,ybs,ybq]
  omega
 obtain ⟨os,hos,hcs,hds⟩:=id hs
 have hTs:s.TypeIs (.ref sl) "slice" :=⟨os,hos,hcs⟩
 unfold getItem
 try with_reducible refine wpAny_holding ?_
 refine S4 (wpAny_sequenceKey ht.typeIs (by decide) (S4 (wpAny_callSpecial?_slot ht.typeIs PyProof.Rows.slot_tuple_getitem
  (wpAny_call_entry PyProof.Rows.slot_tuple_getitem ht.typeIs entry_tuple_getitem ?_ (args_tuple_getitem _ _)))))
 show Sc _ _ (Builtin.Tuple.tupleItemsOf (.ref t) >>=_) _ _ s
 refine S4 (tupleItemsOf_ ht (S4 (wpAny_typeOf hTs (S4 (Jt7 hs pl pu ?_)))))
 have hno:¬(((sIx items.size 0 lo:Int)==0&&(1:Int)==1&&(sIx items.size items.size hi - sIx items.size 0 lo)==items.size)=true):=by
  intro q
  rw [yap,yap] at q
  have q1:=eq_of_beq q.1.1
  have q2:=eq_of_beq q.2
  exact hw ⟨by omega,by omega⟩
 show Sc _ _ (if ((sIx items.size 0 lo:Int)==0&&1==1&&(sIx items.size items.size hi - sIx items.size 0 lo)==items.size)=true then _ else _) _ _ s
 rw [if_neg hno,Yca]
 first
  |exact S4 (wpAny_newObj_type (S5 ⟨_,rfl,S5 h⟩) htake)
  |exact S4 (wpAny_newObj_type (S4 (S5 (S5 ⟨_,rfl,S5 h⟩))) htake)
  |exact S4 (S4 (wpAny_newObj_type (S5 (S5 ⟨_,rfl,S5 h⟩)) htake))
  |exact S4 (S4 (wpAny_newObj_type (S5 ⟨_,rfl,S5 h⟩) htake))
end
end HT
namespace L2
open PySem PySem.Spec PyProof.Rows
abbrev TO:=St->Hp->(Option Int->Hp->Prop)->Prop
def PO (X:Cx) (e:Option Expr) (t:TO):Prop:=
 ∀(pins:List (S1×Obj)) (s:S3) (σ:St) (H:Hp) (Q:Option Int->Hp->Prop),Sm X pins σ H s->t σ H Q->
  Sc (model X.prog X.w) X.A (evalPart e X.env) (λu s'=>∃o H',Sm X pins σ H' s'/\IsPart u o/\Q o H') X.xe s
def Yfc:TO:=λ_ H Q=>Q none H
inductive Yfd (Q:(Option Int->Hp->Prop)) (x:V) (H1:Hp):Prop where
 |mk (i:_) (_:x= .int i) (_:Q (some i) H1)
def Ssl (t:TE):TO:=λσ H Q=>t σ H (Yfd Q)
section
variable {X:Cx} {e:Expr} {te:TE} {lo hi:Option Expr} {tl th:TO} {pos p2:Pos}
theorem Js9:PO X none Yfc:=by
 intro pins s σ H Q I h
 exact S5 ⟨none,H,I,.none,h⟩
theorem Jpp (h:PE X e te):PO X (some e) (Ssl te):=by
 intro pins s σ H Q I hw
 refine thn (h pins s σ H _ I hw) λu s1 zq=>?_
 obtain ⟨x,H1,I1,r1,q1⟩:=zq
 obtain ⟨i,rfl,q⟩:=q1
 obtain ⟨t,rfl⟩:=r1
 exact ⟨some i,H1,I1,.int i t,q⟩
def SlR (X:Cx) (r:V->Option Int->Option Int->Hp->VK->Prop):Prop:=
 ∀(pins:List (S1×Obj)) (s:S3) (σ:St) (H:Hp) (x:V) (v vl vu:S2) (lo hi:Option Int) (sl:S1) (Q:VK),Sm X pins σ H s->RelV x v->s.heap.IsSliceOf sl vl vu .none->IsPart vl lo->IsPart vu hi->r x lo hi H Q->
  ∃T id,typeLookup (.type T) "__getitem__" =pure (some (.builtin id))/\s.TypeIs v T/\Sc (model X.prog X.w) X.A (getItem v (.ref sl)) (EP X pins σ Q) X.xe s
def tSl (r:V->Option Int->Option Int->Hp->VK->Prop) (te:TE) (tl th:TO):TE:=λσ H Q=>te σ H λx H1=>tl σ H1 λl H2=>th σ H2 λu H3=>r x l u H3 Q
theorem Jpi (hr:SlR X r) (he:PE X e te) (hl:PO X lo tl) (hu:PO X hi th):PE X (.Subscript e (.Slice lo hi none p2) pos) (tSl r te tl th):=by
 intro pins s σ H Q I h
 refine Subscript_ (thn (he pins s σ H _ I h) λv s1 ⟨x,H1,I1,r1,q1⟩=>wpAny_Slice (thn (hl pins s1 σ H1 _ I1 q1) λvl s2 ⟨l,H2,I2,pl,q2⟩=>thn (hu pins s2 σ H2 _ I2 q2) λvu s3 ⟨u,H3,I3,pu,q3⟩=>S5 ?_))
 have I4:Sm X pins σ H3 {s3 with heap:=s3.heap.push {cls:=.type "slice",data:=.fields #[vl,vu,.none]}}:=I3.kept λb ob q=>ym _ q
 obtain ⟨T,id,hT,ht,hg⟩:=hr pins {s3 with heap:=s3.heap.push {cls:=.type "slice",data:=.fields #[vl,vu,.none]}} σ H3 x v vl vu l u s3.heap.objs.size Q I4 r1 (Heap.IsSliceOf.new ..) pl pu q3
 exact tail_any ht hT hg (by with_unfolding_all rfl)
def Jq3 (xs:List V) (lo hi:Option Int):List V:=(xs.drop (HT.sIx xs.length 0 lo)).take (HT.sIx xs.length xs.length hi - HT.sIx xs.length 0 lo)
theorem Jt9 (xs) (lo hi):(Jq3 xs lo hi).length<=xs.length:=by
 unfold Jq3
 rw [yad,ybs]
 omega
inductive Swu (K:Sd) (x:V) (lo:Option Int) (hi:Option Int) (H:Hp) (Q:VK):Prop where
 |mk (a:_) (xs:_) (_:x= .ref a) (_:Sy K H a xs) (_:¬(HT.sIx xs.length 0 lo=0/\HT.sIx xs.length xs.length hi=xs.length)) (_:∀p,H p=none->Q (.ref p) (upd H p (.tup (Jq3 xs lo hi))))
theorem Snl:SlR X (Swu X.K):=by
 intro pins s σ H x v vl vu lo hi sl Q I rx hs pl pu h
 obtain ⟨a,xs,rfl,hx,hw,q⟩:=h
 cases rx
 obtain ⟨its,r,ht,hz⟩:=I.tuple hx
 have hlen:its.toArray.size=xs.length:=by rw [yq];exact r.length.symm
 refine ⟨"tuple",_,PyProof.Rows.slot_tuple_getitem.lookup,ht.typeIs,HT.getItem_tuple_cut ht hs pl pu (by rw [hlen];exact hw) ?_ (by rw [hlen];exact hz)⟩
 rw [hlen]
 refine ⟨.ref s.heap.objs.size,_,I.laid (λb ob q=>ym _ q) (yg _) ?_,rfl,q _ (I.hok.fresh (yg _))⟩
 exact ⟨yac (Jt9 xs lo hi) hz,_,(r.drop (HT.sIx xs.length 0 lo)).take (HT.sIx xs.length xs.length hi - HT.sIx xs.length 0 lo),IsTup.new _ _⟩
inductive Srq (K:Sd) (x:V) (y:V) (H:Hp) (Q:VK):Prop where
 |mk (a:_) (b:_) (xs:_) (ys:_) (_:x= .ref a) (_:y= .ref b) (_:Sy K H a xs) (_:Sy K H b ys) (_:xs≠ []) (_:xs.length+ys.length<=S6) (_:(ys= []->Q (.ref a) H)) (_:(ys≠ []->∀p,H p=none->Q (.ref p) (upd H p (.tup (xs++ys)))))
theorem Sv.nil_iff (r:Sv xs us):us= []↔xs= []:=by
 cases r with
 |nil=>simp
 |cons _ _=>simp
theorem Ye7:OpR X (binaryOp .Add) (Srq X.K):=by
 rintro pins s σ H x y v u Q I rx ry ⟨a,b,xs,ys,rfl,rfl,ha,hb,hx,hz,q1,q2⟩
 cases rx
 cases ry
 obtain ⟨its,r1,p1,_⟩:=I.tuple ha
 obtain ⟨its2,r2,p2,_⟩:=I.tuple hb
 refine HT.cat_tup p1 p2 (λz=>hx (r1.nil_iff.mp z)) (λz=>⟨.ref a,H,I,rfl,q1 (r2.nil_iff.mp z)⟩) (λz=>⟨.ref s.heap.objs.size,_,I.laid (λb ob q=>ym _ q) (yg _) ?_,rfl,q2 (λw=>z (r2.nil_iff.mpr w)) _ (I.hok.fresh (yg _))⟩) (by rw [<-r1.length,<-r2.length];exact hz)
 exact ⟨by rw [yab];exact hz,_,r1.append r2,IsTup.new _ _⟩
end
def ixN (n:Nat) (i:Int):Option Nat:=if 0<=i then (if i < n then some i.toNat else none) else if -(n:Int)<=i then some (i+n).toNat else none
def atI {α:Type} (xs:List α) (i:Int):Option α:=(ixN xs.length i).bind λj=>xs[j]?
theorem Yi (h:ixN n i=some j):seqIndex? i n=some j/\j < n/\ -(n)<=i/\i < n:=by
 unfold ixN at h
 by_cases h0:0<=i
 ·rw [if_pos h0] at h
  by_cases h1:i < n
  ·rw [if_pos h1] at h
   have e:=yt.inj h
   exact ⟨by rw [seqIndex_of h0 h1,e],by omega,by omega,h1⟩
  ·rw [if_neg h1] at h;cases h
 ·rw [if_neg h0] at h
  by_cases h1: -n<=i
  ·rw [if_pos h1] at h
   have e:=yt.inj h
   exact ⟨by rw [seqIndex_neg (by omega) h1,e],by omega,h1,by omega⟩
  ·rw [if_neg h1] at h;cases h
theorem Jtz (h:atI xs i=some v):∃j,seqIndex? i xs.length=some j/\xs[j]?=some v/\j < xs.length/\ -(xs.length:Int)<=i/\i < xs.length:=by
 unfold atI at h
 cases e:ixN xs.length i with
 |none=>rw [e] at h;cases h
 |some j=>
  rw [e] at h
  obtain ⟨h1,h2,h3,h4⟩:=Yi e
  exact ⟨j,h1,h,h2,h3,h4⟩
theorem Jrr {j:Nat} (h:xs[j]?=some v):atI xs (j)=some v:=by
 have hj:=(yi.mp h).1
 have e:ixN xs.length j=some j:=by
  unfold ixN
  rw [if_pos (by omega),if_pos (by omega)];simp
 unfold atI;rw [e];exact h
def Ydo (b:Expr):Prop:=∀o i,subscripted b false o i=operate [o,i] (getItem o i)
def IxR (X:Cx) (r:R2):Prop:=
 ∀(value slice:Expr) (pins:List (S1×Obj)) (s:S3) (σ:St) (H:Hp) (x y:V) (v u:S2) (Q:VK),Sm X pins σ H s->RelV x v->RelV y u->r x y H Q->
  subscripted slice false v u=operate [v,u] (getItem v u)->Sc (model X.prog X.w) X.A (subscriptTail value slice v u) (EP X pins σ Q) X.xe s
def MtR (X:Cx) (id:String) (r:V->List V->Hp->VK->Prop):Prop:=
 ∀(pins:List (S1×Obj)) (s:S3) (σ:St) (H:Hp) (x:V) (xs:List V) (v:S2) (us:List S2) (Q:VK),Sm X pins σ H s->RelV x v->Sv xs us->r x xs H Q->
  Sc (model X.prog X.w) X.A (call (.builtin id) (v::us)) (EP X pins σ Q) X.xe s
section
variable {X:Cx} {a b:Expr} {ta tb:TE} {pos:Pos}
theorem Jmc (hr:IxR X r) (ha:PE X a ta) (hb:PE X b tb) (hs:Ydo b):PE X (.Subscript a b pos) (tOp r ta tb):=by
 intro pins s σ H Q I h
 exact Subscript_ (Sm0 ha hb I h λv u s2 x y H2 I2 rx ry q=>hr a b pins s2 σ H2 x y v u Q I2 rx ry q (hs _ _))
inductive Sws (K:Sd) (x:V) (y:V) (H:Hp) (Q:VK):Prop where
 |mk (p:_) (xs:_) (i:_) (v:_) (_:x= .ref p) (_:y= .int i) (_:Ss K H p xs) (_:atI xs i=some v) (_:Q v H)
inductive Srt (K:Sd) (x:V) (y:V) (H:Hp) (Q:VK):Prop where
 |mk (p:_) (xs:_) (i:_) (v:_) (_:x= .ref p) (_:y= .int i) (_:Sy K H p xs) (_:atI xs i=some v) (_:Q v H)
inductive Swt (x:V) (y:V) (H:Hp) (Q:VK):Prop where
 |mk (z:_) (i:_) (c:_) (_:x= .str z) (_:y= .int i) (_:z.length<=S6) (_:atI z.cps.toList i=some c) (_:Q (.str ⟨#[c]⟩) H)
theorem Jn3:IxR X (Sws X.K):=by
 rintro value slice pins s σ H x y v u Q I rx ry ⟨p,xs,i,z,rfl,rfl,hq,he,q⟩ hs
 cases rx
 obtain ⟨t,rfl⟩:=ry
 obtain ⟨its,r,pl,hz⟩:=I.list hq
 obtain ⟨j,h1,h2,h3,h4,h5⟩:=Jtz he
 obtain ⟨w,ew,rw'⟩:=r.get h2
 have hl:=r.length
 have hn:=Jrc
 have fin:EP X pins σ Q w s:=⟨z,H,I,rw',q⟩
 by_cases h0:0<=i
 ·have hj:=by
   rw [seqIndex_of h0 h5] at h1
   exact yt.inj h1
  exact item_listR pl.isList h0 (by omega) (by rw [hj];simpa using ew) fin hs
 ·have hj:(i+its.toArray.size).toNat=j:=by
   rw [seqIndex_neg (by omega) h4] at h1
   rw [yq,<-hl]
   exact yt.inj h1
  exact subscriptTail_builtinR pl.isList.typeIs slot_list_getitem.lookup
   (wpAny_getItem_list_neg pl.isList (by omega) (by rw [yq] <;> omega) (by omega) (by rw [hj];simpa using ew) ⟨rfl,fin⟩) hs
theorem Jmh:IxR X (Srt X.K):=by
 rintro value slice pins s σ H x y v u Q I rx ry ⟨p,xs,i,z,rfl,rfl,hq,he,q⟩ hs
 cases rx
 obtain ⟨t,rfl⟩:=ry
 obtain ⟨its,r,pl,hz⟩:=I.tuple hq
 obtain ⟨j,h1,h2,h3,h4,h5⟩:=Jtz he
 obtain ⟨w,ew,rw'⟩:=r.get h2
 have hn:=Jrc
 have fin:EP X pins σ Q w s:=⟨z,H,I,rw',q⟩
 exact subscriptTail_builtinR pl.typeIs slot_tuple_getitem.lookup
  (getItem_tuple pl (by omega) (by omega) (by rw [yq,<-r.length];exact h1) (by simpa using ew) ⟨rfl,fin⟩) hs
theorem Ybs:IxR X Swt:=by
 rintro value slice pins s σ H x y v u Q I rx ry ⟨z,i,c,rfl,rfl,hz,he,q⟩ hs
 obtain ⟨t,rfl⟩:=rx
 obtain ⟨t',rfl⟩:=ry
 obtain ⟨j,h1,h2,h3,h4,h5⟩:=Jtz he
 have hl:z.cps.toList.length=z.length:=by simp [Str.length]
 rw [hl] at h1 h4 h5
 have hn:=Jrc
 exact tail_any (typeIs_str s z t) slot_str_getitem.lookup (getItem_str (by
  have e1:decide (i < -2^63)=false:=decide_eq_false (by omega)
  have e2:decide (i≥2^63)=false:=decide_eq_false (by omega)
  rw [e1,e2,Bool.or_false]) (by rw [h1];simpa using h2) ⟨.str ⟨#[c]⟩,H,I.tok _,⟨_,rfl⟩,q⟩) hs
theorem Jzi (its:List S2) (n j) (u):Obj.mapSeq (·.setIfInBounds j u) {cls:=.type "list",data:=.seq its.toArray n}={cls:=.type "list",data:=.seq (its.set j u).toArray n}:=by
 simp [Obj.mapSeq]
theorem Sm.lst (I:Sm X pins σ H s) (h:H p=some (.lst xs)):
  ∃(its:List S2) (n:Nat),Sv xs its/\s.heap.get? p=some {cls:=.type "list",data:=.seq its.toArray n}/\xs.length<=S6:=by
 obtain ⟨z,its,n,r,e⟩:=I.hok p _ h
 exact ⟨its,n,r,e,z⟩
theorem Sm.lstUpd {σ:St} {H} {s} {p} {xs ys} {its its':List S2} {n n'} {f} (I:Sm X pins σ H s) (h:H p=some (.lst xs))
  (ho:s.heap.get? p=some {cls:=.type "list",data:=.seq its.toArray n}) (hf:f {cls:=.type "list",data:=.seq its.toArray n}={cls:=.type "list",data:=.seq its'.toArray n'}) (r:Sv ys its') (hz:ys.length<=S6) (t):
  Sm X pins σ (upd H p (.lst ys)) {s with heap:=s.heap.update p f,toks:=t}:=by
 have e:(s.heap.update p f).get? p=some {cls:=.type "list",data:=.seq its'.toArray n'}:=by
  rw [yci f ho (by rw [hf] <;> rfl),hf]
 refine I.write (by rw [h];trivial) (.inl rfl) (λb u hb q=>(ybo _ _ (yw hb)).trans q) ⟨_,e⟩ ?_
 exact ⟨hz,its',n',r,e⟩
inductive Sru (o:V) (i:V) (v:V) (H:Hp) (Q:(Hp->Prop)):Prop where
 |mk (p:_) (xs:_) (k:_) (j:_) (_:o= .ref p) (_:i= .int k) (_:H p=some (.lst xs)) (_:ixN xs.length k=some j) (_:Q (upd H p (.lst (xs.set j v))))
theorem Jsf:Slv X Sru:=by
 rintro pins s σ H o i v ov iv u Q I ro ri rv ⟨p,xs,k,j,rfl,rfl,hp,hj,q⟩
 cases ro
 obtain ⟨t,rfl⟩:=ri
 obtain ⟨its,n,r,ho,hz⟩:=I.lst hp
 obtain ⟨h1,h2,h3,h4⟩:=Yi hj
 have hl:=r.length
 have hn:=Jrc
 have I':=
  I.lstUpd hp ho (Jzi its n j u) (r.set rv j) (by rw [ybt];exact hz) s.toks
 by_cases h0:0<=k
 ·have hk:=by
   rw [seqIndex_of h0 h4] at h1
   exact yt.inj h1
  exact PySem.W.ki_setAt ho h0 (by omega) (by rw [yq,<-hl];exact h4) (by rw [hk];exact ⟨_,I',q⟩)
 ·have hk:(k+its.toArray.size).toNat=j:=by
   rw [seqIndex_neg (by omega) h3] at h1
   rw [yq,<-hl]
   exact yt.inj h1
  exact PySem.W.ki_setBack ho (by omega) (by rw [yq,<-hl];exact h3) (by omega) (by rw [hk];exact ⟨_,I',q⟩)
theorem Jxo (lo hi) (n):(sliceBounds lo hi none n).1=((HT.sIx n 0 lo:Nat):Int)/\(sliceBounds lo hi none n).2.1=((HT.sIx n n hi:Nat):Int)/\(sliceBounds lo hi none n).2.2=1:=by
 refine ⟨?_,?_,rfl⟩
 ·cases lo with
  |none=>simp [sliceBounds,HT.sIx]
  |some i=>
   simp only [sliceBounds,HT.sIx,Option.getD_none,show (1:Int) > 0 by decide,if_true]
   by_cases h:i < 0
   ·simp only [h,if_true] <;> omega
   ·simp only [h,if_false] <;> omega
 ·cases hi with
  |none=>simp [sliceBounds,HT.sIx]
  |some i=>
   simp only [sliceBounds,HT.sIx,Option.getD_none,show (1:Int) > 0 by decide,if_true]
   by_cases h:i < 0
   ·simp only [h,if_true] <;> omega
   ·simp only [h,if_false] <;> omega
theorem Jvs (its:List S2) (lo hi):slicePick its.toArray lo hi none=((its.drop (HT.sIx its.length 0 lo)).take (HT.sIx its.length its.length hi - HT.sIx its.length 0 lo)).toArray:=by
 obtain ⟨h1,h2,h3⟩:=Jxo lo hi its.toArray.size
 unfold slicePick
 rw [h1,h2,h3]
 simp only [sliceRange_one,pick_run] <;> rfl
inductive Srv (K:Sd) (x:V) (lo:Option Int) (hi:Option Int) (H:Hp) (Q:VK):Prop where
 |mk (a:_) (xs:_) (_:x= .ref a) (_:Ss K H a xs) (_:∀p,H p=none->Q (.ref p) (upd H p (.lst (Jq3 xs lo hi))))
theorem Jxn:SlR X (Srv X.K):=by
 intro pins s σ H x v vl vu lo hi sl Q I rx hs pl pu h
 obtain ⟨a,xs,rfl,hx,q⟩:=h
 cases rx
 obtain ⟨its,r,ht,hz⟩:=I.list hx
 have hlen:=r.length
 refine ⟨"list",_,slot_list_getitem.lookup,ht.isList.typeIs,wpAny_getItem_list_slice ht.isList hs pl pu .none (by simp) ?_ (by rw [yq] <;> omega)⟩
 rw [Jvs,<-hlen]
 refine ⟨.ref s.heap.objs.size,_,I.laid (λb ob q=>ym _ q) (yg _) ?_,rfl,q _ (I.hok.fresh (yg _))⟩
 exact ⟨yac (Jt9 xs lo hi) hz,_,0,(r.drop (HT.sIx xs.length 0 lo)).take (HT.sIx xs.length xs.length hi - HT.sIx xs.length 0 lo),yx _ rfl⟩
def Jrv:V->Bool
 | .non=>true
 | .bl _=>true
 | .int _=>true
 | .str _=>true
 |_=>false
def eqV:V->V->Bool
 | .non,.non=>true
 | .bl a,.bl b=>a==b
 | .bl a,.int b=>(if a then 1 else 0)==b
 | .int a,.bl b=>a==(if b then 1 else 0)
 | .int a,.int b=>a==b
 | .str a,.str b=>a==b
 |_,_=>false
theorem Smc (ry:RelV y u) (rx:RelV x v) (fy:Jrv y=true) (fx:Jrv x=true):SeqAt.EqAt A s u v (eqV y x):=by
 cases y with
 |non=>
  cases ry
  cases x with
  |non=>cases rx;exact SeqAt.EqAt.same _
  |bl b=>cases rx;exact SeqAt.EqAt.none_bool b
  |int b=>obtain ⟨t,rfl⟩:=rx;exact SeqAt.EqAt.none_int b t
  |str b=>obtain ⟨t,rfl⟩:=rx;exact SeqAt.EqAt.none_str b t
  |_=>exact absurd (fx) yaj
 |bl a=>
  cases ry
  cases x with
  |non=>cases rx;exact SeqAt.EqAt.bool_none a
  |bl b=>cases rx;exact SeqAt.EqAt.bool_bool a b
  |int b=>obtain ⟨t,rfl⟩:=rx;exact SeqAt.EqAt.bool_int a b t
  |str b=>obtain ⟨t,rfl⟩:=rx;exact SeqAt.EqAt.bool_str a b t
  |_=>exact absurd (fx) yaj
 |int a=>
  obtain ⟨t',rfl⟩:=ry
  cases x with
  |non=>cases rx;exact SeqAt.EqAt.int_none a t'
  |bl b=>cases rx;exact SeqAt.EqAt.int_bool a t' b
  |int b=>obtain ⟨t,rfl⟩:=rx;exact SeqAt.EqAt.int_int a t' b t
  |str b=>obtain ⟨t,rfl⟩:=rx;exact SeqAt.EqAt.int_str a t' b t
  |_=>exact absurd (fx) yaj
 |str a=>
  obtain ⟨t',rfl⟩:=ry
  cases x with
  |non=>cases rx;exact SeqAt.EqAt.str_none a t'
  |bl b=>cases rx;exact SeqAt.EqAt.str_bool a t' b
  |int b=>obtain ⟨t,rfl⟩:=rx;exact SeqAt.EqAt.str_int a t' b t
  |str b=>obtain ⟨t,rfl⟩:=rx;exact SeqAt.EqAt.str_str a t' b t
  |_=>exact absurd (fx) yaj
 |_=>exact absurd (fy) yaj
def eqU (x:V) (u:S2):Bool:=match u with
 | .none=>eqV .non x
 | .bool b=>eqV (.bl b) x
 | .int i _=>eqV (.int i) x
 | .str z _=>eqV (.str z) x
 |_=>false
theorem Ybg (r:RelV y u) (f:Jrv y=true):eqU x u=eqV y x:=by
 cases y with
 |non=>cases r;rfl
 |bl b=>cases r;rfl
 |int i=>obtain ⟨t,rfl⟩:=r;rfl
 |str z=>obtain ⟨t,rfl⟩:=r;rfl
 |_=>exact absurd (f) yaj
theorem Jws {x:V}:∀{xs:List V} {us:List S2},Sv xs us->xs.all Jrv=true->us.any (eqU x)=xs.any λy=>eqV y x
 |_,_,.nil,_=>rfl
 |y::xs,u::us,.cons r t,f=>by
  rw [List.all_cons,yap] at f
  rw [List.any_cons,List.any_cons,Ybg r f.1,Jws t f.2]
theorem Jum {A:Sa} {s:S3} {x:V} {v:S2} (rx:RelV x v) (fx:Jrv x=true):∀{xs:List V} {us:List S2},Sv xs us->xs.all Jrv=true->∀u∈us,SeqAt.EqAt A s u v (eqU x u)
 |_,_,.nil,_=>λu hu=>by cases hu
 |y::xs,u::us,.cons r t,f=>λu' hu=>by
  rw [List.all_cons,yap] at f
  rcases yp.mp hu with rfl|hu
  ·rw [Ybg r f.1];exact Smc r rx f.1 fx
  ·exact Jum rx fx t f.2 u' hu
def inV (x:V) (xs:List V):Bool:=xs.any λy=>eqV y x
inductive rIn (K:Sd) (neg:Bool) (x:V) (y:V) (H:Hp) (Q:VK):Prop where
 |mk (p:_) (xs:_) (_:y= .ref p) (_:(Ss K H p xs\/Sy K H p xs)) (_:Jrv x=true) (_:xs.all Jrv=true) (_:Q (.bl (if neg then !inV x xs else inV x xs)) H)
theorem Yaf:OpR X (compareOp .In) (rIn X.K false):=by
 rintro pins s σ H x y v u Q I rx ry ⟨p,xs,rfl,hq,fx,fs,q⟩
 cases ry
 rcases hq with hq|hq
 ·obtain ⟨its,r,pl,hz⟩:=I.list hq
  refine SeqAt.in_listAt (eqU x) pl.isList (λw hw=>Jum rx fx r fs w (by simpa using hw)) ⟨.bl _,H,I,rfl,?_⟩
  rw [show its.toArray.any (eqU x)=its.any (eqU x) by simp,Jws r fs]
  exact q
 ·obtain ⟨its,r,pl,hz⟩:=I.tuple hq
  refine SeqAt.in_tupleAt (eqU x) pl (λw hw=>Jum rx fx r fs w (by simpa using hw)) ⟨.bl _,H,I,rfl,?_⟩
  rw [show its.toArray.any (eqU x)=its.any (eqU x) by simp,Jws r fs]
  exact q
theorem Jmd:Jnr X (.builtin "len") (λxs H Q=>∃p ys,xs= [.ref p]/\(Ss X.K H p ys\/Sy X.K H p ys)/\Q (.int ys.length) H):=by
 rintro pins s σ H xs us Q I r ⟨p,ys,rfl,hq,q⟩
 obtain ⟨u,rfl,rx⟩:=Joi r
 cases rx
 have hn:=Jrc
 rcases hq with hq|hq
 ·obtain ⟨its,r',pl,hz⟩:=I.list hq
  have hlen:=r'.length
  exact Calls.call_len_list pl.isList (by simp only [yq] <;> omega) ⟨.int ys.length,H,I.tok _,⟨s.toks+1,by rw [yq,hlen]⟩,q⟩
 ·obtain ⟨its,r',pl,hz⟩:=I.tuple hq
  have hlen:=r'.length
  exact len_tuple pl (by simp only [yq] <;> omega) ⟨.int ys.length,H,I.tok _,⟨s.toks+1,by rw [yq,hlen]⟩,q⟩
theorem Jwt:Jnr X (.builtin "len") (λxs H Q=>∃z,xs= [.str z]/\z.length<=S6/\Q (.int z.length) H):=by
 rintro pins s σ H xs us Q I r ⟨z,rfl,hz,q⟩
 obtain ⟨u,rfl,t,rfl⟩:=Joi r
 have hn:=Jrc
 exact len_str (by omega) ⟨.int z.length,H,I.tok _,⟨_,rfl⟩,q⟩
theorem Jnu:Jnr X (.type "list") (λxs H Q=>∃p ys,xs= [.ref p]/\(Ss X.K H p ys\/Sy X.K H p ys)/\∀l,H l=none->Q (.ref l) (upd H l (.lst ys))):=by
 rintro pins s σ H xs us Q I r ⟨p,ys,rfl,hq,q⟩
 obtain ⟨u,rfl,rx⟩:=Joi r
 cases rx
 have fin:∀its,Sv ys its->ys.length<=S6->∀h' c',(∀b o',s.heap.get? b=some o'->h'.get? b=some o')->
   h'.get? s.heap.objs.size=some {cls:=.type "list",dict:=none,data:=.seq its.toArray c',slots:=#[]}->EP X pins σ Q (.ref s.heap.objs.size) {s with heap:=h'}:=λits r' hz h' c' kp e=>
  ⟨.ref s.heap.objs.size,_,I.laid kp (yg _) (show Saa X.prog X.w _ h' _ (.lst ys) from ⟨hz,its,c',r',e⟩),rfl,q _ (I.hok.fresh (yg _))⟩
 rcases hq with hq|hq
 ·obtain ⟨its,r',pl,hz⟩:=I.list hq
  have hlen:=r'.length
  obtain ⟨o,ho,hc,n,hd⟩:=pl.isList
  exact call_list_seq p (.inl rfl) ho hc hd (λh' c' kp e=>fin its r' hz h' c' kp e) (by simp only [yq] <;> omega)
 ·obtain ⟨its,r',pl,hz⟩:=I.tuple hq
  have hlen:=r'.length
  obtain ⟨o,ho,hc,n,hd⟩:=pl
  exact call_list_seq p (.inr rfl) ho hc hd (λh' c' kp e=>fin its r' hz h' c' kp e) (by simp only [yq] <;> omega)
theorem Jng:Jnr X (.type "tuple") (λxs H Q=>∃p ys,xs= [.ref p]/\((Ss X.K H p ys/\∀l,H l=none->Q (.ref l) (upd H l (.tup ys)))\/(Sy X.K H p ys/\Q (.ref p) H))):=by
 rintro pins s σ H xs us Q I r ⟨p,ys,rfl,h⟩
 obtain ⟨u,rfl,rx⟩:=Joi r
 cases rx
 rcases h with ⟨hq,q⟩|⟨hq,q⟩
 ·obtain ⟨its,r',pl,hz⟩:=I.list hq
  have hlen:=r'.length
  refine call_tuple_list pl.isList (λh' kp=>?_) (by simp only [yq] <;> omega)
  have I1:Sm X pins σ H {s with heap:=h'}:=I.kept kp
  have I2:Sm X pins σ (upd H h'.objs.size (.tup ys)) {s with heap:=h'.push {cls:=.type "tuple",data:=.seq its.toArray}}:=
   I1.laid (λb o e=>ym _ e) (yg _) (⟨hz,its,r',IsTup.new _ _⟩)
  exact ⟨.ref h'.objs.size,_,I2,rfl,q _ (I1.hok.fresh (yg _))⟩
 ·obtain ⟨its,r',pl,hz⟩:=I.tuple hq
  exact call_tuple_same pl ⟨.ref p,H,I,rfl,q⟩
def tyV (K:Sd) (T:String) (x:V) (H:Hp):Prop:=match x with
 | .str _=>T="str"
 | .int _=>T="int"
 | .ref p=>(T="list" /\∃xs,Ss K H p xs)\/(T="tuple" /\∃o,K.lookup p=some o/\o.cls= .type "tuple" /\o.dict=none)\/
   (T="dict" /\((∃kvs,H p=some (.dK kvs))\/∃kvs,H p=some (.dT kvs)))\/(T="set" /\∃S n,H p=some (.set S n))
 |_=>False
theorem Ydg (I:Sm X pins σ H s) (r:RelV x v) (ty:tyV X.K T x H):
  s.TypeIs v T/\∀a,v= .ref a->∃ob,s.heap.get? a=some ob/\ob.dict=none:=by
 cases x with
 |str z=>
  obtain ⟨t,rfl⟩:=r
  cases (ty)
  exact ⟨typeIs_str s z t,λ_ e=>nomatch e⟩
 |int i=>
  obtain ⟨t,rfl⟩:=r
  cases (ty)
  exact ⟨typeIs_int s i t,λ_ e=>nomatch e⟩
 |ref p=>
  cases r
  rcases ty with ⟨rfl,xs,hq⟩|⟨rfl,o,hk,hc,hd⟩|⟨rfl,hk⟩|⟨rfl,S,n,hk⟩
  ·obtain ⟨its,_,pl,_⟩:=I.list hq
   refine ⟨pl.isList.typeIs,λa e=>?_⟩
   cases e
   obtain ⟨o,n,e,c,hd,_⟩:=pl
   exact ⟨o,e,hd⟩
  ·refine ⟨⟨o,I.kIn p o hk,hc⟩,λa e=>?_⟩
   cases e
   exact ⟨o,I.kIn _ o hk,hd⟩
  ·have z:∃o,s.heap.get? p=some o/\o.ExactDict:=by
    rcases hk with ⟨kvs,hk⟩|⟨kvs,hk⟩
    ·obtain ⟨_,_,_,_,o,_,_,e,ex,_⟩:=I.hok p _ hk
     exact ⟨o,e,ex⟩
    ·obtain ⟨_,_,_,_,o,_,_,e,ex,_⟩:=I.hok p _ hk
     exact ⟨o,e,ex⟩
   obtain ⟨o,e,ex⟩:=z
   refine ⟨⟨o,e,ex.1⟩,λa e2=>?_⟩
   cases e2
   exact ⟨o,e,ex.2.1⟩
  ·obtain ⟨o,_,_,_,e,ex,_⟩:=I.hok p _ hk
   refine ⟨⟨o,e,ex.1⟩,λa e2=>?_⟩
   cases e2
   exact ⟨o,e,ex.2.1⟩
 |_=>exact False.elim ty
inductive Sob (K:Sd) (T:String) (r:V->List V->Hp->VK->Prop) (Q:VK) (x:V) (H1:Hp):Prop where
 |mk (_:tyV K T x H1) (_:r x [] H1 Q)
def Sx3 (K:Sd) (T:String) (r:V->List V->Hp->VK->Prop) (to:TE):TE:=λσ H Q=>to σ H (Sob K T r Q)
inductive Sse (K:Sd) (T:String) (r:V->List V->Hp->VK->Prop) (t:TA) (σ:St) (Q:VK) (x:V) (H1:Hp):Prop where
 |mk (_:tyV K T x H1) (_:t σ H1 λxs H2=>r x xs H2 Q)
def tBM (K:Sd) (T:String) (r:V->List V->Hp->VK->Prop) (to:TE) (t:TA):TE:=λσ H Q=>to σ H (Sse K T r t σ Q)
variable {o e:Expr} {es:List Expr} {to:TE} {t:TA} {name:Str} {apos cpos:Pos} {T id:String} {r:V->List V->Hp->VK->Prop}
theorem Smz (pa:PlainAttrs T) (slot:Slot T name id) (hty:typeOf (.builtin id)=pure (.type "method_descriptor")) (hm:MtR X id r) (ho:PE X o to)
  (hbase:attributeBase o name X.env (eval o X.env)=eval o X.env:=by rfl) (hline:(apos.endLine==cpos.line)=true:=by rfl):PE X (.Call (.Attribute o name apos) [] [] cpos) (Sx3 X.K T r to):=by
 intro pins s σ H Q I h
 refine wpAny_Call_method0_late hbase hline (thn (ho pins s σ H _ I h) λv s1 zq=>?_)
 obtain ⟨x,H1,I1,r1,ty,q1⟩:=zq
 obtain ⟨h1,h2⟩:=Ydg I1 r1 ty
 exact ⟨T,id,pa,slot,hty,h1,h2,Calls.callWith_builtin rfl (PySem.evalArgs_none (hm pins s1 σ H1 x [] v [] Q I1 r1 .nil q1))⟩
theorem Jps (pa:PlainAttrs T) (slot:Slot T name id) (hty:typeOf (.builtin id)=pure (.type "method_descriptor")) (hm:MtR X id r) (ho:PE X o to) (ha:PA X (e::es) t)
  (hbase:attributeBase o name X.env (eval o X.env)=eval o X.env:=by rfl)
  (hfew:((backTo cpos (starEach (e::es) X.env)).all (λx=>!x.1)&&(backToKw cpos (keywordEach [] X.env)).all (λx=>x.1.isSome)
   &&decide ((e::es).length+([]:List Keyword).length+(if ([]:List Keyword).isEmpty then 0 else 1) < 30))=true:=by rfl)
  (hline:(apos.endLine==cpos.line)=true:=by rfl) (hs:starEach (e::es) X.env=(false,eval e X.env)::starEach es X.env:=by rfl) (hplain:(backTo cpos (starEach es X.env)).any (·.1)=false:=by rfl):
  PE X (.Call (.Attribute o name apos) (e::es) [] cpos) (tBM X.K T r to t):=by
 intro pins s σ H Q I h
 refine wpAny_Call_method_late hbase hfew hline rfl (thn (ho pins s σ H _ I h) λv s1 zq=>?_)
 obtain ⟨x,H1,I1,r1,ty,q1⟩:=zq
 obtain ⟨h1,h2⟩:=Ydg I1 r1 ty
 refine ⟨T,id,pa,slot,hty,h1,h2,?_⟩
 have hA:=ha cpos pins s1 σ H1 _ I1 q1
 rw [hs] at hA⊢
 exact Calls.callWith_builtin (by show (false||(backTo cpos (starEach es X.env)).any (·.1))=false;rw [hplain] <;> rfl) (Calls.evalArgs_plain (thn hA λus s2 ⟨vs,H2,I2,r2,q2⟩=>hm pins s2 σ H2 x vs v us Q I2 r1 r2 q2))
end
def MtM (X:Cx) (id:String) (r:V->List V->Hp->VK->Prop):Prop:=
 ∀(pins:List (S1×Obj)) (s:S3) (σ:St) (H:Hp) (x:V) (xs:List V) (v:S2) (us:List S2) (Q:VK),Sm X pins σ H s->RelV x v->Sv xs us->r x xs H Q->
  Sc (model X.prog X.w) X.A (call (.builtin id) (v::us)) (EP X pins σ Q) X.xe s
theorem Sv.one:∀{x:V} {us:List S2},Sv [x] us->∃u,us= [u]/\RelV x u
 |_,_,.cons r .nil=>⟨_,rfl,r⟩
theorem Sv.zero:∀{us:List S2},Sv [] us->us= []
 |_,.nil=>rfl
theorem Sv.eraseIdx:∀{xs:List V} {us:List S2} (i:Nat),Sv xs us->Sv (xs.eraseIdx i) (us.eraseIdx i)
 |_,_,_,.nil=>.nil
 |_,_,0,.cons _ t=>t
 |_,_,i+1,.cons r t=>.cons r (Sv.eraseIdx i t)
theorem Jwd {α:Type}:∀(l:List α) (i:Nat),(l.eraseIdx i).length<=l.length
 | [],_=>yg _
 |_::_,0=>Nat.le_succ _
 |_::r,i+1=>Nat.succ_le_succ (Jwd r i)
section
variable {X:Cx} {pins:List (S1×Obj)} {σ:St} {H:Hp} {s:S3} {l b:S1} {xs ys zs:List V}
theorem Sm.lset {its its':List S2} {n} {f} {t'} (I:Sm X pins σ H s) (hH:H l=some (.lst xs))
  (e:s.heap.get? l=some {cls:=.type "list",data:=.seq its.toArray n}) (hf:f its.toArray=its'.toArray) (hv:Sv ys its') (hz:ys.length<=S6):
  Sm X pins σ (upd H l (.lst ys)) {s with heap:=s.heap.update l (Obj.mapSeq f),toks:=t'}:=by
 have q:=PySem.IsL.update e f
 rw [hf] at q
 refine I.write (by rw [hH];exact trivial) (.inl rfl) (λb' u hb hu=>(ybo s.heap (Obj.mapSeq f) (yw hb)).trans hu) ⟨_,q⟩ ?_
 exact ⟨hz,its',_,hv,q⟩
theorem Sm.lnew (I:Sm X pins σ H s) (hv:Sv ys its) (hz:ys.length<=S6):
  Sm X pins σ (upd H s.heap.objs.size (.lst ys)) {s with heap:=s.heap.push {cls:=.type "list",data:=.seq its.toArray},toks:=t'}:=
 I.laid (λ_ _ q=>ym _ q) (yg _) ⟨hz,its,0,hv,yx _ rfl⟩
theorem Sm.fresh (I:Sm X pins σ H s):H s.heap.objs.size=none:=I.hok.fresh (yg _)
theorem Sm.lstM (I:Sm X pins σ H s) (hH:H l=some (.lst xs)):xs.length<=S6/\∃(its:List S2) (n:Nat),Sv xs its/\xs.length=its.length/\s.heap.get? l=some {cls:=.type "list",data:=.seq its.toArray n}:=by
 obtain ⟨z,its,n,r,e⟩:=I.hok l _ hH
 exact ⟨z,its,n,r,r.length,e⟩
theorem Yc2 (h:n<=S6):Builtin.List.listTooLong n=false:=decide_eq_false (by omega)
end
section
variable {X:Cx}
inductive Yej (x:V) (vs:List V) (H:Hp) (Q:VK):Prop where
 |mk (l:_) (xs:_) (y:_) (_:x= .ref l) (_:vs= [y]) (_:H l=some (.lst xs)) (_:xs.length < S6) (_:Q .non (upd H l (.lst (xs++ [y]))))
theorem Jor:MtM X "list.append" Yej:=by
 rintro pins s σ H x vs v us Q I rx rv ⟨l,xs,y,rfl,rfl,hH,hz,q⟩
 cases rx
 obtain ⟨u,rfl,ru⟩:=rv.one
 obtain ⟨z,its,n,r,hl,e⟩:=I.lstM hH
 refine call_meets F.slot_list_append ⟨_,e,rfl⟩ F.entry_list_append (F.args_list_append_2 _ _) (PySem.list_append l its.toArray n u (by rw [yq];omega)) ⟨e,⟨.non,_,I.lset hH e (by simp) (r.append (.cons ru .nil)) ?_,rfl,q⟩⟩
 rw [yab,List.length_singleton]
 omega
inductive Yek (x:V) (vs:List V) (H:Hp) (Q:VK):Prop where
 |mk (l:_) (b:_) (xs:_) (zs:_) (_:x= .ref l) (_:vs= [.ref b]) (_:H l=some (.lst xs)) (_:H b=some (.lst zs)) (_:xs.length+zs.length<=S6) (_:Q .non (upd H l (.lst (xs++zs))))
theorem Jpg:MtM X "list.extend" Yek:=by
 rintro pins s σ H x vs v us Q I rx rv ⟨l,b,xs,zs,rfl,rfl,hH,hB,hz,q⟩
 cases rx
 obtain ⟨u,rfl,ru⟩:=rv.one
 cases ru
 obtain ⟨z,its,n,r,hl,e⟩:=I.lstM hH
 obtain ⟨z2,its2,n2,r2,hl2,e2⟩:=I.lstM hB
 have hsz:its.toArray.size+its2.toArray.size<=S6:=by rw [yq,yq];omega
 have hlong:¬(!its.toArray.isEmpty&&Builtin.List.listTooLong (its.toArray.size+its2.toArray.size))=true:=by
  rw [Yc2 hsz,Bool.and_false]
  exact yaj
 refine call_meets F.slot_list_extend ⟨_,e,rfl⟩ F.entry_list_extend (F.args_list_extend_2 _ _)
  (AutoSeq1.list_extend_list_list_0 l its.toArray n b its2.toArray n2 hlong (by rw [yq];omega) (by omega)) ⟨e,e2,?_⟩
 refine ⟨.non,_,I.lset hH e (by simp) (r.append r2) ?_,rfl,q⟩
 rw [yab]
 omega
inductive Sn9 (x:V) (vs:List V) (H:Hp) (Q:VK):Prop where
 |mk (l:_) (xs:_) (i:_) (k:_) (y:_) (_:x= .ref l) (_:vs= [.int i]) (_:H l=some (.lst xs)) (_: -(2^63)<=i) (_:i < 2^63) (_:seqIndex? i xs.length=some k) (_:xs[k]?=some y) (_:Q y (upd H l (.lst (xs.eraseIdx k))))
theorem Yc0:MtM X "list.pop" Sn9:=by
 rintro pins s σ H x vs v us Q I rx rv ⟨l,xs,i,k,y,rfl,rfl,hH,h1,h2,hk,hy,q⟩
 cases rx
 obtain ⟨u,rfl,ru⟩:=rv.one
 obtain ⟨t,rfl⟩:=ru
 obtain ⟨z,its,n,r,hl,e⟩:=I.lstM hH
 obtain ⟨w,hw,rw'⟩:=r.get hy
 refine call_meets F.slot_list_pop ⟨_,e,rfl⟩ F.entry_list_pop (F.args_list_pop_2 _ _)
  (MeetsSeq.list_pop_at l its.toArray n i t k w (fitsIndex_both h1 h2) (by rw [yq,<-hl];exact hk) (by rw [<-Array.getElem?_toList];exact hw) (by rw [yq];omega)) ⟨e,?_⟩
 refine ⟨y,_,I.lset hH e ?_ (r.eraseIdx k) ?_,rw',q⟩
 ·show its.toArray.eraseIdxIfInBounds k=(its.eraseIdx k).toArray
  rw [List.eraseIdxIfInBounds_toArray]
 ·have:=Jwd xs k
  omega
inductive Sn8 (x:V) (vs:List V) (H:Hp) (Q:VK):Prop where
 |mk (l:_) (xs:_) (_:x= .ref l) (_:vs= []) (_:H l=some (.lst xs)) (_:Q .non (upd H l (.lst [])))
theorem Yby:MtM X "list.clear" Sn8:=by
 rintro pins s σ H x vs v us Q I rx rv ⟨l,xs,rfl,rfl,hH,q⟩
 cases rx
 have hus:=rv.zero
 subst hus
 obtain ⟨z,its,n,r,hl,e⟩:=I.lstM hH
 exact call_meets F.slot_list_clear ⟨_,e,rfl⟩ F.entry_list_clear (F.args_list_clear_1 _) (AutoSeq1.list_clear_list_0 l its.toArray n (by rw [yq];omega)) ⟨e,⟨.non,_,I.lset hH e rfl .nil (yai _),rfl,q⟩⟩
inductive Swp (x:V) (y:V) (H:Hp) (Q:VK):Prop where
 |mk (l:_) (b:_) (xs:_) (zs:_) (_:x= .ref l) (_:y= .ref b) (_:H l=some (.lst xs)) (_:H b=some (.lst zs)) (_:xs.length+zs.length<=S6) (_:∀p,H p=none->Q (.ref p) (upd H p (.lst (xs++zs))))
theorem Juz:OpR X (binaryOp .Add) Swp:=by
 rintro pins s σ H x y v u Q I rx ry ⟨l,b,xs,zs,rfl,rfl,hH,hB,hz,q⟩
 cases rx
 cases ry
 obtain ⟨z,its,n,r,hl,e⟩:=I.lstM hH
 obtain ⟨z2,its2,n2,r2,hl2,e2⟩:=I.lstM hB
 refine PySem.P.add_list e e2 ?_ (by rw [yq,yq];omega)
 have ea:its.toArray++its2.toArray=(its++its2).toArray:=by simp
 rw [ea]
 exact ⟨.ref _,_,I.lnew (r.append r2) (by rw [yab];omega),rfl,q _ I.fresh⟩
end
section
variable {prog:S7} {w:S9} {A:Sa} {E:S2->S3->Prop} {s:S3}
end
section
variable {X:Cx}
end
section
variable {κ:Type} [DecidableEq κ]
def Jop (kvs:List (κ×V)) (k:κ):Option V:=(kvs.find? λkv=>decide (kv.1=k)).map (·.2)
def Jpj (kvs:List (κ×V)) (k:κ) (v:V):List (κ×V):=
 if (kvs.any λkv=>decide (kv.1=k))=true then kvs.map (λkv=>if kv.1=k then (kv.1,v) else kv) else kvs++ [(k,v)]
theorem Jvf {p:κ×V} (e:p.1=k):Jop (p::r) k=some p.2:=by simp [Jop,e]
theorem Jve {p:κ×V} (e:¬p.1=k):Jop (p::r) k=Jop r k:=by simp [Jop,e]
theorem Jvd (k:κ):∀kvs:List (κ×V),(kvs.any λkv=>decide (kv.1=k))=(Jop kvs k).isSome
 | []=>rfl
 |p::r=>by
  rw [List.any_cons]
  by_cases e:p.1=k
  ·simp only [Jvf e,decide_eq_true e,Bool.true_or,Option.isSome_some]
  ·rw [Jve e,decide_eq_false e,Bool.false_or];exact Jvd k r
theorem Jq4 (kvs:List (κ×V)) (k) (v):(Jpj kvs k v).length<=kvs.length+1:=by
 unfold Jpj
 split
 ·rw [ye];omega
 ·rw [yab,yaf,List.length_nil];omega
theorem Ych {kvs:List (κ×V)} (v) (h:Jop kvs k=none):Jpj kvs k v=kvs++ [(k,v)]:=by
 unfold Jpj
 rw [Jvd,h]
 exact if_neg (by decide)
theorem Scb.isSome_eq (r:Scb o u):o.isSome=u.isSome:=by
 cases o with
 |none=>cases u with
  |none=>rfl
  |some _=>exact (r).elim
 |some _=>cases u with
  |none=>exact (r).elim
  |some _=>rfl
theorem KV.val {kvs:List (κ×V)} (r:KV kvs vs) (k):Scb (Jop kvs k) (valueAt vs k):=by
 induction r with
 |nil=>exact True.intro
 | @cons p q ps qs h t ih=>
  obtain ⟨h1,h2⟩:=h
  by_cases e:p.1=k
  ·have e':=h1.symm.trans e
   have b:valueAt (q::qs) k=some q.2:=by simp [valueAt,e']
   rw [Jvf e,b];exact h2
  ·have e':¬q.1=k:=λz=>e (h1.trans z)
   have b:valueAt (q::qs) k=valueAt qs k:=by simp [valueAt,e']
   rw [Jve e,b];exact ih
theorem KV.any {kvs:List (κ×V)} (r:KV kvs vs) (k):(kvs.any λkv=>decide (kv.1=k))=vs.any λkv=>decide (kv.1=k):=by
 induction r with
 |nil=>rfl
 |cons h t ih=>rw [List.any_cons,List.any_cons,ih,h.1]
theorem KV.repl {kvs:List (κ×V)} (r:KV kvs vs) (k) (ry:RelV y u):
  KV (kvs.map λkv=>if kv.1=k then (kv.1,y) else kv) (vs.map λkv=>if kv.1=k then (kv.1,u) else kv):=by
 induction r with
 |nil=>exact .nil
 | @cons p q ps qs h t ih=>
  rw [yak,yak]
  refine .cons ?_ ih
  obtain ⟨h1,h2⟩:=h
  by_cases e:p.1=k
  ·rw [if_pos e,if_pos (h1.symm.trans e)];exact ⟨h1,ry⟩
  ·rw [if_neg e,if_neg (λz=>e (h1.trans z))];exact ⟨h1,h2⟩
theorem KV.put {kvs:List (κ×V)} (r:KV kvs vs) (k) (ry:RelV y u):KV (Jpj kvs k y) (stored vs k u):=by
 unfold Jpj stored
 rw [r.any k]
 by_cases e:(vs.any λkv=>decide (kv.1=k))=true
 ·rw [if_pos e,if_pos e];exact r.repl k ry
 ·rw [if_neg e,if_neg e];exact Paired.snoc r ⟨rfl,ry⟩
theorem KV.length (r:KV kvs vs):kvs.length=vs.length:=Paired.length r
end
theorem Yk (r:RelV (kV k) u):(Jmo P w).is k u=true:=by
 cases k with
 |inl i=>obtain ⟨t,e⟩:=(show ∃t,u=Value.int i t from r);subst e;exact Jyi P w i t
 |inr x=>obtain ⟨t,e⟩:=(show ∃t,u=Value.str x t from r);subst e;exact Jq5 P w x t
theorem Jwc {P:S7} {w:S9}:∀{ks:List Key} {us:List S2},Sv (ks.map kV) us->ItemsAre (Jmo P w) ks us
 | [],_,r=>by rw [List.map_nil] at r;cases r;exact .nil
 |k::ks,_,r=>by
  rw [yak] at r
  cases r with
  |cons h t=>exact .cons (Yk h) (Jwc t)
abbrev KT (H:Hp):List (List Key×V)->List (List Key×S1×S2)->Prop:=Paired λp q=>p.1=q.1/\H q.2.1=some (.tup (p.1.map kV))/\RelV p.2 q.2.2
theorem KT.val (r:KT H kvs xs) (k):Scb (Jop kvs k) ((atKey xs k).map (·.2)):=by
 induction r with
 |nil=>exact True.intro
 | @cons p q ps qs h t ih=>
  obtain ⟨h1,_,h2⟩:=h
  by_cases e:p.1=k
  ·have e':=h1.symm.trans e
   have b:atKey (q::qs) k=some q.2:=by simp [atKey,e']
   rw [Jvf e,b];exact h2
  ·have e':¬q.1=k:=λz=>e (h1.trans z)
   have b:atKey (q::qs) k=atKey qs k:=by simp [atKey,e']
   rw [Jve e,b];exact ih
theorem KT.repl (r:KT H kvs xs) (k) (ry:RelV y u):
  KT H (kvs.map λkv=>if kv.1=k then (kv.1,y) else kv) (xs.map (putAt k u)):=by
 induction r with
 |nil=>exact .nil
 | @cons p q ps qs h t ih=>
  rw [yak]
  refine .cons ?_ ih
  obtain ⟨h1,h2,h3⟩:=h
  unfold putAt
  by_cases e:p.1=k
  ·rw [if_pos e,if_pos (h1.symm.trans e)];exact ⟨h1,h2,ry⟩
  ·rw [if_neg e,if_neg (λz=>e (h1.trans z))];exact ⟨h1,h2,h3⟩
theorem KT.put (r:KT H kvs xs) (k) (hb:H b=some (.tup (k.map kV))) (ry:RelV y u):
  KT H (Jpj kvs k y) (storedH xs k b u):=by
 have e:(kvs.any λkv=>decide (kv.1=k))=(atKey xs k).isSome:=by
  rw [Jvd,(r.val k).isSome_eq,Option.isSome_map]
 unfold Jpj storedH
 rw [e]
 by_cases q:(atKey xs k).isSome=true
 ·rw [if_pos q,if_pos q];exact r.repl k ry
 ·rw [if_neg q,if_neg q];exact Paired.snoc r ⟨rfl,hb,ry⟩
theorem KT.keeps (r:KT H kvs xs) (ht:∀b ys,H b=some (.tup ys)->H' b=some (.tup ys)):KT H' kvs xs:=
 Paired.mapP r λ_ _ z=>⟨z.1,ht _ _ z.2.1,z.2.2⟩
section
variable {P:S7} {w:S9} {H:Hp} {h:Sb} {a:S1}
theorem Skw (ok:HOk P w H h) (e:Rd H a u):Saa P w H h a u:=e.ok ok
theorem Jta (ok:HOk P w H h) (e:Rd H a (.dK kvs)):kvs.length<=S6/\(a==sysModules)=false/\∃vs,KV kvs vs/\h.DictOf (Jmo P w) a vs:=
 Skw ok e
theorem Ybe (ok:HOk P w H h) (e:H a=some (.dK kvs)):kvs.length<=S6/\(a==sysModules)=false/\∃vs,KV kvs vs/\h.DictOf (Jmo P w) a vs:=Jta ok (.inl e)
theorem Jwz (ok:HOk P w H h) (e:H a=some (.tup (ks.map kV))):(tupleKind (Jmo P w)).is h ks a:=by
 obtain ⟨_,its,r,o,h1,h2,n,h3⟩:=(ok a _ e)
 exact ⟨o,its.toArray,n,h1,h2,h3,by simpa using Jwc r⟩
theorem Jya (ok:HOk P w H h) (e:Rd H a (.dT kvs)):kvs.length<=S6/\(a==sysModules)=false/\
  ∃xs,KT H kvs xs/\h.DictOfH (tupleKind (Jmo P w)) a xs:=by
 obtain ⟨z,y,xs,r,o,es,ep,h1,h2,h3,h4,h5⟩:=(Skw ok e)
 refine ⟨z,y,xs,r,o,es,ep,h1,h2,h3,h4,λx hx=>?_,h5⟩
 have all:∀{l:List (List Key×V)} {m:List (List Key×S1×S2)},KT H l m->∀x∈m,(tupleKind (Jmo P w)).is h x.1 x.2.1:=by
  intro l m q
  induction q with
  |nil=>intro x hx;exact nomatch hx
  | @cons p q ps qs hq t ih=>
   intro x hx
   rcases yp.mp hx with e|hx
   ·subst e
    exact Jwz ok (by rw [<-hq.1];exact hq.2.1)
   ·exact ih x hx
 exact all r x hx
theorem Sr7 (ok:HOk P w H h) (e:H a=some (.dT kvs)):kvs.length<=S6/\(a==sysModules)=false/\
  ∃xs,KT H kvs xs/\h.DictOfH (tupleKind (Jmo P w)) a xs:=Jya ok (.inl e)
end
def Si6 (H:Hp) (a:S1) (y:V) (r:Option V):Prop:=
 (∃kvs k,Rd H a (.dK kvs)/\y=kV k/\r=Jop kvs k)\/∃kvs k b,Rd H a (.dT kvs)/\y= .ref b/\H b=some (.tup (k.map kV))/\r=Jop kvs k
def Sgx (H:Hp) (a:S1) (y v:V) (H':Hp):Prop:=
 (∃kvs k,H a=some (.dK kvs)/\y=kV k/\kvs.length < S6/\H'=upd H a (.dK (Jpj kvs k v)))\/
 ∃kvs k b,H a=some (.dT kvs)/\y= .ref b/\H b=some (.tup (k.map kV))/\kvs.length < S6/\H'=upd H a (.dT (Jpj kvs k v))
theorem Sgx.k {k} {v} (e:H a=some (.dK kvs)) (hl:kvs.length < S6):Sgx H a (kV k) v (upd H a (.dK (Jpj kvs k v))):=.inl ⟨kvs,k,e,rfl,hl,rfl⟩
section
variable {X:Cx} {pins:List (S1×Obj)} {σ:St} {H:Hp} {s:S3} {a:S1} {y v:V} {u r:S2} {o:Option V} {A:Sa} {E:S2->S3->Prop}
theorem Sm.big (I:Sm X pins σ H s):sysModules < s.heap.objs.size:=Nat.lt_trans (by decide) ((I.mod.glob.keeps I.bk).lt)
theorem Ya4 (hu:A.units+1 < cLine) (I:Sm X pins σ H s) (g:Si6 H a y (some v)) (ry:RelV y u) (h:∀w' s',Sm X pins σ H s'->RelV v w'->Q w' s'):
  Sc (model X.prog X.w) A (getItem (.ref a) u) Q E s:=by
 rcases g with ⟨kvs,k,e,ey,l⟩|⟨kvs,k,b,e,ey,eb,l⟩
 ·subst ey
  obtain ⟨z,hd,vs,rel,dd⟩:=Jta I.hok e
  obtain ⟨w',hw,rw'⟩:=Scb.some_of (by rw [l];exact rel.val k)
  exact wpAny_getItem_of (Yk ry) dd.mapOf hw (h w' _ (I.tok _) rw')
 ·subst ey
  cases (ry)
  obtain ⟨z,hd,xs,rel,dd⟩:=Jya I.hok e
  obtain ⟨w',hw,rw'⟩:=Scb.some_of (by rw [l];exact rel.val k)
  obtain ⟨p,hp,hp2⟩:=yay.mp hw
  refine wpAny_getItem_heap (tupleKind_room_in1 hu) (Jwz I.hok eb) dd hp ?_
  rw [hp2]
  exact h w' _ (I.tok _) rw'
theorem Sw8 (hu:A.units+1 < cLine) (I:Sm X pins σ H s) (g:Si6 H a y o) (ry:RelV y u) (h:∀s',Sm X pins σ H s'->Q (.bool o.isSome) s'):
  Sc (model X.prog X.w) A (compareOp .In u (.ref a)) Q E s:=by
 rcases g with ⟨kvs,k,e,ey,l⟩|⟨kvs,k,b,e,ey,eb,l⟩
 ·subst ey
  obtain ⟨z,hd,vs,rel,dd⟩:=Jta I.hok e
  refine wpAny_in_of (Yk ry) hd dd.mapOf ?_
  rw [<-(rel.val k).isSome_eq,<-l]
  exact h _ (I.tok _)
 ·subst ey
  cases (ry)
  obtain ⟨z,hd,xs,rel,dd⟩:=Jya I.hok e
  refine wpAny_in_heap (tupleKind_room_in1 hu) (Jwz I.hok eb) hd dd ?_
  have q:=(rel.val k).isSome_eq
  rw [Option.isSome_map] at q
  rw [<-q,<-l]
  exact h _ (I.tok _)
theorem Yd (I:Sm X pins σ H s) (mu:Mut (H a)) (hs:ybf a s.heap h') (he:∃q,h'.get? a=some q) (new:Saa X.prog X.w (upd H a ob) h' a ob):
  Sm X pins σ (upd H a ob) {s with heap:=h',toks:=t'}:=
 I.write mu (.inl rfl) (λb q hb z=>(hs.2 b hb).trans z) he new
theorem Sma (z:kvs.length<=S6) (hd:(a==sysModules)=false) (rel:KV kvs vs) (dd:h'.DictOf (Jmo P w) a vs):
  Saa P w H' h' a (.dK kvs):=⟨z,hd,vs,rel,dd⟩
theorem Jw7 (hu:A.units+1 < cLine) (I:Sm X pins σ H s) (g:Sgx H a y v H') (ry:RelV y u) (rv:RelV v r) (h:∀s',Sm X pins σ H' s'->Q () s'):
  Sc (model X.prog X.w) A (setItem (.ref a) u r) Q E s:=by
 rcases g with ⟨kvs,k,e,ey,l,eH⟩|⟨kvs,k,b,e,ey,eb,l,eH⟩
 ·subst ey eH
  obtain ⟨z,hd,vs,rel,dd⟩:=Ybe I.hok e
  have hz:vs.length<=S6:=by rw [<-rel.length];exact z
  have hl:(Jpj kvs k v).length<=S6:=by have:=Jq4 kvs k v;omega
  refine wpAny_setItem_pairs (hsz:=hz) (Yk ry) dd λh' dd' hs=>h _ ?_
  have he:∃q,h'.get? a=some q:=let ⟨q,_,_,hq,_⟩:=dd';⟨q,hq⟩
  exact Yd I (by rw [e];exact True.intro) hs he (Sma hl hd (rel.put k rv) dd')
 ·subst ey eH
  cases (ry)
  obtain ⟨z,hd,xs,rel,dd⟩:=Sr7 I.hok e
  have hz:xs.length<=S6:=by rw [<-Paired.length rel];exact z
  have hl:(Jpj kvs k v).length<=S6:=by have:=Jq4 kvs k v;omega
  refine wpAny_setItem_heap (hsz:=hz) (tupleKind_room_in1 hu) (Jwz I.hok eb) dd λh' dd' hs=>h _ ?_
  obtain ⟨q,es,ep,hq,h2,h3,h4,_,h5⟩:=dd'
  refine Yd I (by rw [e];exact True.intro) hs ⟨q,hq⟩ ⟨hl,hd,_,(rel.put k eb rv).keeps λc ys ec=>?_,q,es,ep,hq,h2,h3,h4,h5⟩
  rw [Sw (Skq ec e (λz=>nomatch z))]
  exact ec
end
section
variable {X:Cx} {pins:List (S1×Obj)} {σ:St} {H:Hp} {s:S3} {a:S1} {kvs:List (Key×V)} {k:Key} {u:S2} {A:Sa} {E:S2->S3->Prop}
end
def Slu (i:Expr):Prop:=∀ov iv,subscripted i false ov iv=operate [ov,iv] (getItem ov iv)
theorem Yf8 {id}
  (hl:typeLookup (.type T) "__getitem__" =pure (some (.builtin id))) (hs:Slu slice)
  (h:Sc (model prog w) A (eval value env) (λo s₁=>Sc (model prog w) A (eval slice env) (λi s₂=>s₂.TypeIs o T/\Sc (model prog w) A (getItem o i) Q E s₂) E s₁) E s):
  Sc (model prog w) A (eval (.Subscript value slice pos) env) Q E s:=by
 refine Subscript_ (wpAny_mono h (λo s₁ h₁=>wpAny_mono h₁ (λi s₂ h₂=>?_) λ_ _ x=>x) λ_ _ x=>x)
 obtain ⟨hT,h₂⟩:=h₂
 refine S4 (S4 (wpAny_specialOf hT hl ?_))
 have fin:Sc (model prog w) A (subscripted slice false o i) (λr s₃=>Sc (model prog w) A (letTemporaryGo value o r >>=λ_=>pure r) Q E s₃) E s₂:=by
  rw [hs o i]
  exact wpAny_operating (wpAny_mono h₂ (λr s₃ h₃=>S4 (wpAny_letTemporaryGo (S5 h₃))) λ_ _ x=>x)
 first
  |exact S5 (S4 fin)
  |exact S4 (S5 (S4 fin))
  |exact S4 fin
theorem Jy9 (I:Sm X pins σ H s) (g:Si6 H a y o):s.TypeIs (.ref a) "dict" :=by
 rcases g with ⟨kvs,k,e,_,_⟩|⟨kvs,k,b,e,_,_,_⟩
 ·obtain ⟨_,_,vs,_,dd⟩:=Jta I.hok e
  exact dd.typeIs
 ·obtain ⟨_,_,xs,_,dd⟩:=Jya I.hok e
  exact dd.typeIs
def Sl1 (td ty:TE):TE:=λσ H Q=>td σ H λx H1=>ty σ H1 λy H2=>∃a v,x= .ref a/\Si6 H2 a y (some v)/\Q v H2
def Sky (td ty tv:TE):TS:=λD σ H=>tv σ H λv H1=>td σ H1 λx H2=>ty σ H2 λy H3=>∃a H4,x= .ref a/\Sgx H3 a y v H4/\D.nx σ H4
section
variable {X:Cx} {o i e value:Expr} {pos pos' tpos:Pos} {td ty tv:TE}
theorem Yeb (hu:X.A.units+1 < cLine) (ho:PE X o td) (hi:PE X i ty) (hs:Slu i):PE X (.Subscript o i pos) (Sl1 td ty):=by
 intro pins s σ H Q I h
 refine Yf8 PySem.F.slot_dict_getitem.lookup hs (thn (ho pins s σ H _ I h) λu s1 ⟨x,H1,I1,rx,q1⟩=>thn (hi pins s1 σ H1 _ I1 q1) λiv s2 zq=>?_)
 obtain ⟨y,H2,I2,ry,a,v,ex,g,q2⟩:=zq
 subst ex
 obtain rfl:u=Value.ref a:=rx
 exact ⟨Jy9 I2 g,Ya4 hu I2 g ry λw' s3 I3 rw'=>⟨v,H2,I3,rw',q2⟩⟩
theorem Yeh (hu:X.A.units+1 < cLine) (ho:PE X o td) (hi:PE X i ty) (hv:PE X value tv) (hs:swapsWith value (some (.Subscript o i pos')) pos.line X.env=pure false):
  PS X (.Assign [.Subscript o i pos'] value pos) (Sky td ty tv):=by
 intro pins s σ H D I h
 refine wpAny_Assign_Subscript (thn (hv pins s σ H _ I h) λr s1 ⟨v,H1,I1,rv,q1⟩=>thn (ho pins s1 σ H1 _ I1 q1) λu s2 ⟨x,H2,I2,rx,q2⟩=>thn (hi pins s2 σ H2 _ I2 q2) λiv s3 zq=>?_) hs
 obtain ⟨y,H3,I3,ry,a,H4,ex,g,q3⟩:=zq
 subst ex
 obtain rfl:u=Value.ref a:=rx
 exact Jw7 hu I3 g ry rv λs4 I4=>⟨σ,H4,I4,q3⟩
end
theorem Ybd (h:Sb) (hb:sysModules < h.objs.size):Saa P w H (h.push {cls:=.type "dict",data:=.dict #[]}) h.objs.size (.dK []):=
 ⟨yai _,beq_eq_false_iff_ne.mpr (yw (yz hb)),[],.nil,Heap.DictOf.new h⟩
def Sod:TE:=λ_ H Q=>∀p,H p=none->Q (.ref p) (upd H p (.dK []))
section
variable {X:Cx} {pos:Pos}
theorem Jv2:PE X (.Dict [] [] pos) Sod:=λpins s σ H Q I h=>
 wpAny_Dict_empty ⟨.ref s.heap.objs.size,_,I.laid (λ_ _ q=>ym _ q) (yg _) (Ybd s.heap I.big),rfl,h _ (I.hok.fresh (yg _))⟩
end
def IsD (H:Hp) (a:S1):Prop:=(∃kvs,Rd H a (.dK kvs))\/∃kvs,Rd H a (.dT kvs)
theorem Smk (I:Sm X pins σ H s) (d:IsD H a):
  s.TypeIs (.ref a) "dict" /\(∀b,Value.ref a= .ref b->∃ob,s.heap.get? b=some ob/\ob.dict=none)/\(a==sysModules)=false:=by
 rcases d with ⟨kvs,e⟩|⟨kvs,e⟩
 ·obtain ⟨_,hd,vs,_,dd⟩:=Jta I.hok e
  refine ⟨dd.typeIs,λb q=>?_,hd⟩
  cases q
  obtain ⟨ob,_,_,h1,h2,_⟩:=dd
  exact ⟨ob,h1,h2.2.1⟩
 ·obtain ⟨_,hd,xs,_,dd⟩:=Jya I.hok e
  refine ⟨dd.typeIs,λb q=>?_,hd⟩
  cases q
  obtain ⟨ob,_,_,h1,h2,_⟩:=dd
  exact ⟨ob,h1,h2.2.1⟩
section
variable {X:Cx} {pins:List (S1×Obj)} {σ:St} {H:Hp} {s:S3} {a:S1} {y d:V} {u r:S2} {o:Option V} {A:Sa} {E:S2->S3->Prop}
end
section
variable {X:Cx} {o e f:Expr} {apos cpos:Pos} {td ty tx:TE}
end
section
variable {X:Cx} {pins:List (S1×Obj)} {σ:St} {H:Hp} {s:S3} {a:S1} {kvs:List (Key×V)} {A:Sa} {E:S2->S3->Prop}
end
section
variable {X:Cx} {pins:List (S1×Obj)} {σ:St} {H:Hp} {s:S3} {a:S1} {y:V} {u:S2} {A:Sa} {E:S2->S3->Prop}
end
end L2
namespace Att
open PySem PySem.W PySem.Calls PyProof.Rows
theorem Jtn:∀ns vs,WellAll P h vs (ns.map WData.int)->IntsAre vs ns:=by
 intro ns
 induction ns with
 |nil=>
  intro vs w
  cases w
  exact .nil
 |cons n ns ih=>
  intro vs w
  cases w with
  |cons a b=>
   cases a
   exact .cons _ _ (ih _ b)
theorem Yaj {l:OpenLaw} (hn:l.most=some n)
  (hpre:l.row.toRowW.claim.pre args=true) (hwl:WellAll P h vals args):
  ∃a vs ns,vals= [Value.ref a]/\args= [WData.list (ns.map WData.int)]/\h.get? a=some {cls:=.type "list",data:=.seq vs.toArray}/\IntsAre vs ns/\ns.length<=n:=by
 obtain ⟨d,r,rfl,h1,h2⟩:=hasAllW_cons ((pre_splitW hpre).1)
 obtain rfl:=hasAllW_nil h2
 obtain ⟨xs,rfl,h3⟩:=hasW_list h1
 obtain ⟨ns,rfl⟩:=items_int h3
 have hlen:=by
  have h4:=by
   have h4:=(holds_andW ((pre_splitW hpre).2)).1
   rw [hn] at h4
   exact h4
  have h5:=condW_of h4 (w_not (w_lt w_lit (w_len_list (w_arg rfl))))
  first
   | (rw [decide_eq_true q'] at h5; exact absurd h5 (by decide))
   | (simp at h5; omega)
 cases hwl with
 |cons w1 w2=>
  cases w2
  cases w1 with
  |list ho hall=>exact ⟨_,_,ns,rfl,rfl,ho,Jtn ns _ hall,hlen⟩
theorem Yai (l:OpenLaw) (args):l.row.toRowW.claim.post args (.bool true) args=true:=
 postW_of
  (by first|rfl|decide|simp [WShape.has])
  (w_eq_bool (w_res rfl) w_lit) rfl
theorem attach_call {l:OpenLaw} {n} {q} {loose} {XP} {YP} {d}
  (hn:l.most=some n) (hdf:d.params.defaults= [])
  (call:∀w s₀ s₁ mg mb fa o pm cd doc a vs ns,
   Ground q loose [] XP w s₀ mg mb s₁.heap->YP w s₁.heap->
   s₁.heap.get? fa=some o->o.data= .func (docDef d.name d.params d.body d.scope pm cd doc)->s₁.heap.CodeRec cd d.name->mg d.name=some (.ref fa)->
   s₁.heap.get? a=some {cls:=.type "list",data:=.seq vs.toArray}->IntsAre vs ns->ns.length<=n->s₁.gens= #[]->
   codeAny (model l.prog w) callerA (.call (.ref fa) ⟨[.ref a],[]⟩) (λr s'=>r= .ok (.ret (.bool true))/\OldK s₁.heap s'.heap/\s'.os=s₁.os/\AllBare s'.gens) s₁):
  WalkO q loose XP YP l.row.toRowW d [] (λf vs=>PySem.call f vs):=by
 intro w s₀ s₁ mg mb G Y fa o pm cd doc dV kV ho hd hcd hD hmg hg args vals as hpre hlay hrd hwl hlo
 obtain rfl:dV= .none:=Dflts.none hD hdf
 obtain rfl:kV= .none:=Dflts.noKw hD
 obtain ⟨a,vs,ns,rfl,rfl,hobj,hints,hlen⟩:=Yaj hn hpre hwl
 refine enter_call (codeAny_mono (call w s₀ s₁ mg mb fa o pm cd doc a vs ns G Y ho (fd_plain hd) hcd hmg hobj hints hlen hg) λr s' hq=>?_)
 obtain ⟨rfl,h2,h3,h4⟩:=hq
 exact ⟨.inl ⟨.bool true,.bool true,[],rfl,λ_=>rfl,.bool true,Yai l _,λ_=>⟨List.Pairwise.nil,λ_ hm=>(nomatch hm)⟩⟩,h2,h3,h4⟩
section
variable {prog:S7} {w:S9} {A:Sa} {E:S2->S3->Prop} {s:S3} {K:Sd}
end
end Att
namespace L2
open PySem PySem.Spec PyProof.Rows
theorem Jwq:∀{vs:List S2} {ns:List Int},IntsAre vs ns->Sv (ns.map V.int) vs
 |_,_,.nil=>.nil
 |_,_,.cons n t h=>.cons ⟨t,rfl⟩ (Jwq h)
def Sjd (H:Hp):Prop:=∀b,H b=none\/∃o xs,H b=some (.frz o (.lst xs))
theorem Ybt {K}
  (KX:K.In s₁.heap) (hns:s₁.heap.Ns mainGlobals mg) (hb:s₁.heap.Ns builtinsNs mb) (hbb:∀x:Str,x≠"__name__" ->mb x=bootBuiltins x) (hlim:s₁.heap.NoLimit) (hg:s₁.gens= #[])
  (ha:s₁.heap.get? a=some {cls:=.type "list",data:=.seq vs.toArray}) (hi:IntsAre vs ns) (hl:ns.length<=S6) (hr:San k callerA)
  (F:∀base:Sb,K.In base->base.Ns mainGlobals mg->So P w K mg base CX k fa fd [x] sp) (hbind:∀s u,BindsTo s fd ⟨[u],[]⟩ [(x,u)])
  (hsp:∀H:Hp,Sjd H->Ss K H a (ns.map V.int)->sp [.ref a] H (λv _=>v= .bl true) λ_ _ _=>False)
  (hCX:∀H e s',CX [] H s₁ (λ_ _ _=>False) e s'->False):
  codeAny (model P w) callerA (.call (.ref fa) ⟨[.ref a],[]⟩) (λr s'=>r= .ok (.ret (.bool true))/\OldK s₁.heap s'.heap/\s'.os=s₁.os/\AllBare s'.gens) s₁:=by
 have rv:=Jwq hi
 have core:∀H:Hp,Sjd H->Ss K H a (ns.map V.int)->HOk P w H s₁.heap->(∀b,H b≠none->b=a)->(H a≠none->K.lookup a=none)->
   codeAny (model P w) callerA (.call (.ref fa) ⟨[.ref a],[]⟩) (λr s'=>r= .ok (.ret (.bool true))/\OldK s₁.heap s'.heap/\s'.os=s₁.os/\AllBare s'.gens) s₁:=by
  intro H hO hS hok hA hK
  have base_of:∀{b:S1} {o:Obj},s₁.heap.get? b=some o->H b=none->(Jyb s₁.heap H).get? b=some o:=λe n=>Ybn e n
  have noA:∀{b:S1} {o:Obj} {es:Array DictEntry} {ep:Nat},s₁.heap.get? b=some o->o.data= .dict es ep->H b=none:=λ{b o es ep} e d=>by
   cases q:H b with
   |none=>rfl
   |some u=>
    have e':=hA b (by rw [q];simp)
    subst e'
    rw [ha] at e;cases e
    cases d
  have nsK:∀{b:S1} {m:Str->Option S2},s₁.heap.Ns b m->(Jyb s₁.heap H).Ns b m:=λ{b m} ⟨o,es,ep,e,d,r⟩=>⟨o,es,ep,base_of e (noA e d),d,r⟩
  have hKb:=λb o e=>base_of (KX b o e) (by
   cases q:H b with
   |none=>rfl
   |some u=>
    have e':=hA b (by rw [q];simp)
    subst e'
    rw [hK (by rw [q];simp)] at e;cases e)
  have hM:Mod K mg (Jyb s₁.heap H):=⟨hKb,nsK hns,⟨mb,nsK hb,hbb⟩,let ⟨mc,h1,h2⟩:=hlim;⟨mc,nsK h1,h2⟩⟩
  have e0:Sgy P w K mg (Jyb s₁.heap H) callerA [] s₁ H:=⟨rfl,hM,λb o e=>Ye4 e,Nat.le_of_eq (Ya7 _ _),trivial,λb hb=>absurd (show b∈ [] from hb) (by simp),hok,.of_eq hg⟩
  refine codeAny_mono ((F _ hKb (nsK hns)).run callerA [] s₁ H ⟨[.ref a],[]⟩ [.ref a] [.ref a] _ _ hr e0 (hbind s₁ (.ref a)) (.cons rfl .nil) (hsp H hO hS)) λr s' h=>?_
  cases r with
  |error e=>exact (hCX H e s' h).elim
  |ok fl=>
   cases fl with
   |next=>exact False.elim h
   |brk=>exact False.elim h
   |cont=>exact False.elim h
   |ret u=>
    obtain ⟨v,H',os,bare,un,hok',r',q⟩:=h
    subst q
    obtain rfl:u=Value.bool true:=r'
    refine ⟨rfl,OldK.of_keep λb o e=>?_,os,bare⟩
    cases q:H b with
    |none=>exact un.keep b o e q (by intro z;exact absurd (show b∈ [] from z) (by simp)) (by simp)
    |some u=>
     rcases hO b with z|⟨ob,xs,z⟩
     ·rw [q] at z;cases z
     ·have z2:=un.frzs b ob _ z
      obtain ⟨e1,_⟩:=hok b _ z
      obtain ⟨e2,_⟩:=hok' b _ z2
      rw [e] at e1;cases e1
      exact e2
 cases hk:K.lookup a with
 |some o=>
  have e:=KX a o hk
  rw [ha] at e
  cases e
  refine core (λ_=>none) (λ_=>.inl rfl) (.inr ⟨_,vs.toArray,_,hk,rfl,rfl,rfl,by rw [yq,hi.length];exact hl,by simpa using rv⟩) (λb u z=>by have z':=z;cases z') (λb z=>absurd rfl z) λz=>absurd rfl z
 |none=>
  refine core (λb=>if b=a then some (.frz {cls:=.type "list",data:=.seq vs.toArray} (.lst (ns.map V.int))) else none) (λb=>?_) (.inl (.inr ⟨{cls:=.type "list",data:=.seq vs.toArray},if_pos rfl⟩)) (λb u z=>?_) (λb z=>?_) λ_=>hk
  ·by_cases hb:b=a
   ·exact .inr ⟨_,_,if_pos hb⟩
   ·exact .inl (if_neg hb)
  ·by_cases hb:b=a
   ·have z':=(if_pos hb).symm.trans z
    cases z'
    subst hb
    exact ⟨ha,by rw [ye];exact hl,vs,_,rv,ha⟩
   ·have z':=(if_neg hb).symm.trans z
    cases z'
  ·by_cases hb:b=a
   ·exact hb
   ·exact absurd (if_neg hb) z
abbrev KOf {K:Sd} {h:Sb} (_:K.In h):Sd:=K
theorem Yfi {l:PySem.W.OpenLaw} {n k} {q} {loose} {XP} {YP} {d} {K:Params->Sd} {CX:S9->CXT} {sp:S9->Sp} {x}
  (hn:l.most=some n) (hn2:n<=S6) (hdf:d.params.defaults= []) (hr:San k callerA)
  (hY:∀w h,YP w h->(K w.params).In h)
  (F:∀w mg fa h,(K w.params).In h->h.Ns mainGlobals mg->mg d.name=some (.ref fa)->
   ∃fd:S8,(∀s u,BindsTo s fd ⟨[u],[]⟩ [(x,u)])/\
    ∀base:Sb,(K w.params).In base->base.Ns mainGlobals mg->So l.prog w (K w.params) mg base (CX w) k fa fd [x] (sp w))
  (hsp:∀w H a (ns:List Int),ns.length<=n->Sjd H->Ss (K w.params) H a (ns.map V.int)->sp w [.ref a] H (λv _=>v= .bl true) λ_ _ _=>False)
  (hCX:∀w H s e s',CX w [] H s (λ_ _ _=>False) e s'->False):
  PySem.W.WalkO q loose XP YP l.row.toRowW d [] (λf vs=>PySem.call f vs):=by
 refine Att.attach_call hn hdf λw s₀ s₁ mg mb fa o pm cd doc a vs ns G Y ho hd hcd hmg hobj hints hlen hg=>?_
 have KX:=hY w _ Y
 obtain ⟨fd,hb,hF⟩:=F w mg fa _ KX G.T.g hmg
 exact Ybt KX G.T.g G.T.b G.T.builtins G.T.nolimit hg hobj hints (yac hlen hn2) hr hF hb (λH hO hS=>hsp w H a ns hlen hO hS) λH e s'=>hCX w H s₁ e s'
theorem walk_ofK {l:PySem.W.OpenLaw} {n k} {q} {loose} {XP} {YP} {d} {K:Params->Sd} {CX} {sp:Sd->Sp} {x}
  (hn:l.most=some n) (hn2:n<=S6) (hdf:d.params.defaults= []) (hr:San k callerA)
  (hY:∀w h,YP w h->(K w.params).In h)
  (F:∀w mg fa h,(K w.params).In h->h.Ns mainGlobals mg->mg d.name=some (.ref fa)->
   ∃fd:S8,(∀s u,BindsTo s fd ⟨[u],[]⟩ [(x,u)])/\
    ∀base:Sb,(K w.params).In base->base.Ns mainGlobals mg->So l.prog w (K w.params) mg base CX k fa fd [x] (sp (K w.params)))
  (hsp:∀K H a (ns:List Int),ns.length<=n->Sjd H->Ss K H a (ns.map V.int)->sp K [.ref a] H (λv _=>v= .bl true) λ_ _ _=>False)
  (hCX:∀H s e s',CX [] H s (λ_ _ _=>False) e s'->False):
  PySem.W.WalkO q loose XP YP l.row.toRowW d [] (λf vs=>PySem.call f vs):=
 Yfi hn hn2 hdf hr hY F (λw H a ns h1 h2 h3=>hsp (K w.params) H a ns h1 h2 h3) λ_ H s e s'=>hCX H s e s'
def Jm6 (s:Stmt) (j:Nat):Stmt:=match s with
 | .ClassDef _ _ _ body _ _ _ _ _ _ _=>body.getD j (.Pass ⟨0,0,0,0⟩)
 |_=>.Pass ⟨0,0,0,0⟩
def Jnn (s:Stmt):Arguments:=match s with
 | .FunctionDef _ a _ _ _ _ _ _ _ _=>a
 |_=>{posonlyargs:=[],args:=[],vararg:=none,kwonlyargs:=[],kw_defaults:=[],kwarg:=none,defaults:=[]}
def Jnb (s:Stmt):List Stmt:=match s with
 | .FunctionDef _ _ b _ _ _ _ _ _ _=>b
 |_=>[]
def Jm0 (s:Stmt):Scope:=match s with
 | .FunctionDef _ _ _ _ _ _ sc _ _ _=>sc
 |_=>{kind:=.function,names:=[],isGenerator:=false,isCoroutine:=false}
abbrev CX0:CXT:=λ_ _ _ _ _ _=>False
abbrev E0:XK:=λ_ _ _=>False
theorem Job:Jr9 CX0 X E0:=λ_ _ _ _ _ _ _ h=>h.elim
structure Fun (K:Sd) (x qual:Str) (st:Stmt) (f:S1) (fd:S8):Prop where
 ex:∃(dV oc:S2) (od:Option S1) (kV doc pm:S2) (an:Option S1) (cdv ct:S2) (osl:Array (Option S2)),
  fd=PySem.W.fnOf x qual (Jnn st) (Jnb st) (Jm0 st) dV kV doc pm an cdv ct/\K.lookup f=some ⟨oc,od,.func fd,osl⟩/\PySem.W.codeIn K cdv qual=true
 kp:PySem.W.keepIn K (.ref f)=true
section
variable {P:S7} {w:S9} {K:Sd} {mg:Str->Option S2} {base:Sb}
theorem Fun.ok {st} (F:Fun K x qual st f fd) (S:Jm2 N ps (Jm0 st)) (len:∀vs H Q E,sp vs H Q E->vs.length=ps.length)
  (hbody:∀cdv A outer s H vs Q E,San k (A.deeper (envOfC qual (Jm0 st) s.heap.objs.size f cdv))->sp vs H Q E->
   ∃t,PSs (Jy7 CX0 P w K mg base N qual (Jm0 st) f cdv A outer s H E).nox (Jnb st) t/\t {nx:=λ_ H'=>Q .non H',rt:=Q} (start N vs) H):So P w K mg base CX0 (k+1) f fd ps sp:=by
 obtain ⟨dV,oc,od,kV,doc,pm,an,cdv,ct,osl,rfl,lk,hcd⟩:=F.ex
 refine Skn lk hcd S len λA outer s H vs Q E hr hsp=>?_
 obtain ⟨t,h,q⟩:=hbody cdv A outer s H vs Q E hr hsp
 exact ⟨t,h.nox,q⟩
theorem Jwx {st} {dV kV ct} (l:K.lookup f=some ⟨oc,od,.func (PySem.W.fnOf x qual (Jnn st) (Jnb st) (Jm0 st) dV kV doc pm an cdv ct),osl⟩)
  (c:PySem.W.codeIn K cdv qual=true) (k:PySem.W.keepIn K (.ref f)=true):Fun K x qual st f (PySem.W.fnOf x qual (Jnn st) (Jnb st) (Jm0 st) dV kV doc pm an cdv ct):=⟨⟨dV,oc,od,kV,doc,pm,an,cdv,ct,osl,rfl,l,c⟩,k⟩
end
section
variable {X:Cx}
theorem pv (i) {pos} (hN:X.N[i]?=some x:=by rfl) (hv:Vis X.env.scope x:=by first|exact yf rfl|exact yal (yf rfl)|exact yal (yal rfl)) (hd:(x==("__debug__" :Str))=false:=by decide)
  (hcd:(x==("__classdict__" :Str))=false:=by decide):PE X (.Name x pos) (Sjt i):=Sn2 hN hv hd hcd
end
theorem Jn9 {A:Prop} (h:B):if false=true then A else B:=by grind
theorem Joa {A:Prop} (h:A):if true=true then A else B:=by grind
theorem Sii {A:Prop} [Decidable c] (h1:c->A) (h2:¬c->B):if c then A else B:=by grind
def Si (H H':Hp):Prop:=∀b o,H b=some o->H' b=some o
theorem Si.refl (H):Si H H:=λ_ _ h=>h
theorem Si.trans (a:Si H H1) (b:Si H1 H2):Si H H2:=λc o h=>b c o (a c o h)
theorem Si.seq {K} (e:Si H H') (h:Ss K H a xs):Ss K H' a xs:=by
 rcases h with (h|⟨o,h⟩)|h
 ·exact .inl (.inl (e _ _ h))
 ·exact .inl (.inr ⟨o,e _ _ h⟩)
 ·exact .inr h
section
variable {κ:Type} [DecidableEq κ]
end
end L2
set_option Elab.async false
set_option linter.all false
set_option maxRecDepth 100000
set_option maxHeartbeats 4000000
namespace L2
open PySem PySem.Spec PyProof.Rows
def Jok (cells:List (Str×S1)):List (Str×NameKind)->List (Str×S1)->List (Str×S1)
 | [],acc=>acc
 | (n,k) :: r,acc=>if (k == NameKind.free) = true then (match cells.lookup n with | some c=>Jok cells r ((n,c) :: acc) | none=>Jok cells r acc) else Jok cells r acc
theorem Jpd:∀ns acc,(∀x c,acc.lookup x=some c->cells.lookup x=some c)->∀x c,(Jok cells ns acc).lookup x=some c->cells.lookup x=some c
 | [],_,h,x,c,e=>h x c e
 | (n,k) :: r,acc,h,x,c,e=>by
  unfold Jok at e
  by_cases hk:(k==NameKind.free)=true
  ·rw [if_pos hk] at e
   cases hc:cells.lookup n with
   |none=>rw [hc] at e;exact Jpd r acc h x c e
   |some d=>
    rw [hc] at e
    refine Jpd r ((n,d)::acc) (λy b q=>?_) x c e
    rw [ybu] at q
    by_cases hy:(y==n)=true
    ·rw [hy] at q
     have hy':y=n:=beq_iff_eq.mp hy
     rw [hy',hc]
     exact q
    ·have hy':(y==n)=false:=by simpa using hy
     rw [hy'] at q
     exact h y b q
  ·rw [if_neg hk] at e
   exact Jpd r acc h x c e
theorem Jpl {cells:List (Str×S1)}:∀(ns:List (Str×NameKind)) (acc:List (Str×S1)) (x:Str),(acc.lookup x).isSome=true->((Jok cells ns acc).lookup x).isSome=true
 | [],_,_,h=>h
 | (n,k) :: r,acc,x,h=>by
  unfold Jok
  by_cases hk:(k==NameKind.free)=true
  ·rw [if_pos hk]
   cases hc:cells.lookup n with
   |none=>exact Jpl r acc x h
   |some d=>
    refine Jpl r ((n,d)::acc) x ?_
    rw [ybu]
    cases hy:x==n with
    |true=>rfl
    |false=>exact h
  ·rw [if_neg hk]
   exact Jpl r acc x h
theorem Jpc:∀ns acc,(x,NameKind.free)∈ns->(∃c,cells.lookup x=some c)->((Jok cells ns acc).lookup x).isSome=true
 | [],_,h,_=>by simp at h
 | (n,k) :: r,acc,h,hc=>by
  unfold Jok
  rcases yp.mp h with e|e
  ·cases e
   obtain ⟨c,hc⟩:=hc
   rw [hc]
   exact Jpl r _ x (by rw [ybu,beq_self_eq_true];rfl)
  ·by_cases hk:(k==NameKind.free)=true
   ·rw [if_pos hk]
    cases hd:cells.lookup n with
    |none=>exact Jpc r acc e hc
    |some d=>exact Jpc r _ e hc
   ·rw [if_neg hk]
    exact Jpc r acc e hc
theorem Jvi (h:∀y∈sc.names,y.2= .free->∃c,env.cells.lookup y.1=some c):closureFor sc env=pure (Jok env.cells sc.names []):=by
 have key:∀ns acc,(∀y∈ns,y.2= .free->∃c,env.cells.lookup y.1=some c)->
   (forIn ns acc λx r=>if (x.2==NameKind.free)=true then cellOf env x.1 >>=λc=>pure (ForInStep.yield ((x.1,c)::r)) else pure (ForInStep.yield r))=pure (Jok env.cells ns acc):=by
  intro ns
  induction ns with
  |nil=>intro acc _;rfl
  |cons y r ih=>
   intro acc hy
   obtain ⟨n,k⟩:=y
   rw [ybv]
   unfold Jok
   by_cases hk:(k==NameKind.free)=true
   ·have hk':=by simpa using hk
    obtain ⟨c,hc⟩:=hy (n,k) yah hk'
    have hc':=hc
    simp only [hk]
    have e1:cellOf env n=pure c:=by unfold cellOf;rw [hc']
    rw [e1,hc']
    exact ih _ λz hz=>hy z (yaa _ hz)
   ·simp only [hk]
    exact ih _ λz hz=>hy z (yaa _ hz)
 have k0:=key sc.names [] h
 first
  |exact k0
  | (refine Eq.trans ?_ (congrArg (λm : Sem (List (Str × S1))=>m >>= λr=>pure r) k0); rfl)
def blk (X:Cx) (sc:Scope) (N:List Str) (C:S1) (s:S3) (H:Hp) (fp:List S1) (pn:List (S1×Obj)):Cx:=
 {X with N:=N,s₀:=s,H₀:=H,env:=compEnvC sc (Jok X.env.cells sc.names []) C X.env,outer:=X.stack,ex:=fp,fn:=λ_=>false,pn:=pn,xe:=λ_ _=>False}
def Sif (ini:List (Option Nat)) (σ:St):St:=ini.map λo=>match o with|none=>none|some j=>(σ[j]?).join
def scB (sc:Scope):Bool:=decide (sc.kind= .function)&&sc.names.all (λy=>decide (y.2≠ .cell))&&sc.names.all (λy=>!decide (y.2= .local)||decide (sc.names.lookup y.1=some .local))
def frB (outer:List (Str×NameKind)) (sc:Scope):Bool:=sc.names.all λy=>!decide (y.2= .free)||(decide (outer.lookup y.1=some .cell)||decide (outer.lookup y.1=some .free))
def Smh (No N:List Str) (ini:List (Option Nat)) (outer:List (Str×NameKind)) (sc:Scope):Bool:=
 (N.zip ini).all λy=>match y.2 with|none=>true|some j=>decide (No[j]?=some y.1)&&decide (sc.names.lookup y.1=some .free)&&(decide (outer.lookup y.1=some .cell)||decide (outer.lookup y.1=some .free))
def PIf (X:Cx) (ifs:List Expr) (t:TT):Prop:=
 ∀(pins:List (S1×Obj)) (s:S3) (σ:St) (H:Hp) (Q:Bool->Hp->Prop),Sm X pins σ H s->t σ H Q->
  Sc (model X.prog X.w) X.A (forIn ifs true λc r=>if r=true then do let ok<-isTrue c X.env (eval c X.env);pure (ForInStep.yield ok) else pure (ForInStep.yield r)) (TP X pins σ Q) X.xe s
def Jxs:TT:=λ_ H Q=>Q true H
theorem Jmi:PIf X [] Jxs:=λ_ _ _ H _ I h=>wpAny_tests_nil ⟨H,I,h⟩
theorem Ju7 (h:PT X c t):PIf X [c] t:=λpins s σ H Q I q=>wpAny_tests_one (h pins s σ H Q I q)
def Ydd (wi:TI) (ini:List (Option Nat)) (g:TG) (tt:TT) (te:TE):TE:=λσ H Q=>wi σ H λJ H1=>∀D,H1 D=none->∃W:Nat->Nat->St->Hp->Prop,(∃m,W 0 m (Sif ini σ) (upd H1 D (.lst [])))/\
 ∀i m σ' H',W i m σ' H'->(J.stop i H'/\Q (.ref D) H')\/(J.go i H'/\∃N:St->Hp->Prop,(∀σ2 H2,N σ2 H2->∃m',m' < m/\W (i+1) m' σ2 H2)/\
  ∀x H2,J.yld i H' x H2->g x σ' H2 λσ3 H3=>tt σ3 H3 λb H4=>if b=true then te σ3 H4 (λv H5=>∃ys,H5 D=some (.lst ys)/\ys.length < S6/\N σ3 (upd H5 D (.lst (ys++ [v])))) else N σ3 H4)
section
variable {prog:S7} {w:S9} {A:Sa} {R:Result->S3->Prop} {s:S3}
theorem Jwv {target iter} {ifs} {scope} {pos} {it acc} {env} (I:Nat->S3->Prop)
  (turn:∀n s,I n s->Sc (model prog w) A (pyNext it) (λr s1=>match r with
   |none=>R (.ok .next) s1
   |some v=>Sc (model prog w) A (letOwnedTupleGo target it v) (λ_ s1'=>Sc (model prog w) A (assign target env v) (λ_ s2=>
     Sc (model prog w) A (forIn ifs true λc r=>if r=true then do let ok<-isTrue c env (eval c env);pure (ForInStep.yield ok) else pure (ForInStep.yield r)) (λok s3=>
      if ok=true then Sc (model prog w) A (eval elt env) (λx s4=>
       Sc (model prog w) A (call (.builtin "list.append") [acc,x]) (λ_ s5=>∃m,m < n/\I m s5) (λ_ _=>False) s4) (λ_ _=>False) s3
      else ∃m,m < n/\I m s3) (λ_ _=>False) s2) (λ_ _=>False) s1') (λ_ _=>False) s1) (λ_ _=>False) s)
  (n) (h:I n s):codeAny (model prog w) A (.compLoop (.ListComp elt [⟨target,iter,ifs,0⟩] scope pos) 0 it acc env) R s:=by
 refine codeAny_loop rfl I (λn s hI=>wpAny_noted (wpAny_noRaise ?_)) n h
 rw [compTurn_list]
 refine S4 (wpAny_standAt (S4 (wpAny_mono (turn n s hI) (λr s1 h1=>?_) λ_ _ h'=>h')))
 cases r with
 |none=>exact S5 h1
 |some v=>
  refine S4 (wpAny_mono h1 (λ_ s1' h1'=>S4 (wpAny_mono h1' (λ_ s2 h2=>S4 (wpAny_mono h2 (λok s3 h3=>?_) λ_ _ h'=>h')) λ_ _ h'=>h')) λ_ _ h'=>h')
  cases ok with
  |false=>exact S5 ⟨rfl,h3⟩
  |true=>
   exact S4 (S4 (wpAny_mono h3 (λx s4 h4=>S4 (wpAny_mono h4 (λ_ s5 h5=>S5 (S5 ⟨rfl,h5⟩)) λ_ _ h'=>h')) λ_ _ h'=>h'))
end
section
variable {X:Cx} {pins:List (S1×Obj)} {σ:St} {H:Hp} {s:S3}
theorem Sm1 (I:Sm X pins σ H s) (hk:sc.kind= .function) (hcell:∀y∈sc.names,y.2≠ .cell)
  (hfr:∀y∈sc.names,y.2= .free->X.env.kindOf y.1=some .cell\/X.env.kindOf y.1=some .free) (hC:C=s.heap.objs.size) (hf:∀b∈fp,Jsi X pins H b/\b < s.heap.objs.size):(blk X sc N C s H fp pn).Ok:=by
 have hin:∀x c,(Jok X.env.cells sc.names []).lookup x=some c->X.env.cells.lookup x=some c:=Jpd sc.names [] (λx c e=>by simp at e)
 refine ⟨I.ok.mod,hk,I.ok.glob,I.ok.blt,Nat.le_of_eq hC.symm,λx y c h1 h2=>I.ok.inj x y c (hin _ _ h1) (hin _ _ h2),λx hx=>?_,λx c h _=>(by cases h),I.ok.hd,I.ok.frames,.inl rfl,λb hb=>?_,I.bs,yac I.ok.bsz I.sz,λb o e hb=>?_,λb hb z=>?_,I.stack,I.stkFree⟩
 ·have hx':=hx
  have hm:(x,NameKind.free)∈sc.names:=by
   have:∀k,(relabel sc X.env).names.lookup x=some k->(k= .cell\/k= .free)->(x,NameKind.free)∈sc.names:=λk e hkk=>by
    obtain ⟨⟨n',k'⟩,m1,m2⟩:=yo.mp (PySem.mem_of_lookup e)
    dsimp only at m2
    by_cases hc:(k'==NameKind.free&&X.env.scope.kind== .function&&X.env.kindOf n'==some .cell)=true
    ·rw [if_pos hc] at m2
     have e1:n'=x:=congrArg Prod.fst m2
     have e2:=by simp at hc;exact hc.1.1
     rw [<-e1,<-e2]
     exact m1
    ·rw [if_neg hc] at m2
     have e1:n'=x:=congrArg Prod.fst m2
     have e2:k'=k:=congrArg Prod.snd m2
     rcases hkk with z|z
     ·exact absurd (e2.trans z) (hcell _ m1)
     ·rw [<-e1,<-z,<-e2];exact m1
   rcases hx' with e|e
   ·exact this _ e (.inl rfl)
   ·exact this _ e (.inr rfl)
  exact Option.isSome_iff_exists.mp (Jpc sc.names [] hm (I.ok.has x (hfr _ hm rfl)))
 ·obtain ⟨⟨f0,f1,f2,f3,f4,f5⟩,lt⟩:=hf b hb
  exact ⟨λz=>yz lt (z.trans hC),λx c e=>f4 x c (hin _ _ e)⟩
 ·obtain ⟨⟨f0,f1,f2,f3,f4,f5⟩,lt⟩:=hf b hb
  rcases f3 with z|z
  ·exact I.ok.noex b o e z
  ·exact absurd (yao (yk (I.ok.bs b o e).1) z) (ybe _)
 ·obtain ⟨⟨f0,f1,f2,f3,f4,f5⟩,lt⟩:=hf b hb
  rcases yp.mp (I.stkSub b z) with e|e
  ·exact f1 e
  ·exact f2 e
theorem Ydp (I:Sm X pins σ H s) (hk:sc.kind= .function) (hcell:∀y∈sc.names,y.2≠ .cell)
  (hfr:∀y∈sc.names,y.2= .free->X.env.kindOf y.1=some .cell\/X.env.kindOf y.1=some .free) (hf:∀b∈fp,Jsi X pins H b/\b < s.heap.objs.size) (hlen:N.length=ini.length)
  (hini:∀(i:Nat) x j,N[i]?=some x->ini[i]?=some (some j)->X.N[j]?=some x/\sc.names.lookup x=some .free/\(X.env.kindOf x=some .cell\/X.env.kindOf x=some .free))
  (hn:h1.Ns s.heap.objs.size (λ_=>none)) (kp:∀b o,s.heap.get? b=some o->h1.get? b=some o):
  Sm (blk X sc N s.heap.objs.size s H fp (X.pn++pins)) [] (Sif ini σ) H {s with heap:=h1,toks:=t'}:=by
 have hin:∀x c,(Jok X.env.cells sc.names []).lookup x=some c->X.env.cells.lookup x=some c:=Jpd sc.names [] (λx c e=>by simp at e)
 refine ⟨Sm1 I hk hcell hfr rfl hf,rfl,I.bare,Un.kept kp,⟨_,hn,λi x v e1 e2 e3=>?_⟩,λx c e=>?_,I.hok.fresh (yg _),λx c e=>(I.freeC x c (hin _ _ e)).imp id λz=>⟨rfl,z.2⟩,λp hp=>?_,I.hok.kept kp,?_⟩
 ·have e1':=e1
  have e2':=e2
  unfold Sif at e2'
  rw [yj] at e2'
  cases hi:ini[i]? with
  |none=>rw [hi] at e2';cases e2'
  |some o=>
   rw [hi] at e2'
   cases o with
   |none=>cases e2'
   |some j=>
    have e4:(σ[j]?).join=some v:=yt.inj e2'
    have e5:σ[j]?=some (some v):=by
     cases q:σ[j]? with
     |none=>rw [q] at e4;cases e4
     |some z=>rw [q] at e4;exact congrArg some e4
    obtain ⟨a1,a2,a3⟩:=hini i x j e1' hi
    obtain ⟨m,hm,hl⟩:=I.loc
    have hvis:Vis X.env.scope x:=by
     rcases a3 with z|z
     ·exact .inr (.inl z)
     ·exact .inr (.inr z)
    obtain ⟨u,r,l⟩:=hl j x v a1 e5 hvis
    refine ⟨u,r,.inr ⟨?_,?_⟩⟩
    ·have hm2:=PySem.mem_of_lookup a2
     rcases e3 with z|z|z
     ·exfalso
      have key:∀{ns:List (Str×NameKind)},ns.lookup x=some .free->(ns.map λ(n,k)=>if (k==NameKind.free&&X.env.scope.kind== .function&&X.env.kindOf n==some .cell) then (n,NameKind.cell) else (n,k)).lookup x≠some .local:=by
       intro ns
       induction ns with
       |nil=>intro q;simp at q
       |cons y r ih=>
        obtain ⟨n,k⟩:=y
        intro q
        rw [ybu] at q
        rw [yak]
        dsimp only
        cases hx:x==n with
        |true=>
         rw [hx] at q
         have q':=yt.inj q
         subst q'
         split
         ·rw [ybu,hx];intro z;cases z
         ·rw [ybu,hx];intro z;cases z
        |false=>
         rw [hx] at q
         split
         ·rw [ybu,hx];exact ih q
         ·rw [ybu,hx];exact ih q
      exact key a2 z
     ·exact .inl z
     ·exact .inr z
    ·rcases l with ⟨k1,_⟩|⟨_,c,hc,hcl⟩
     ·exfalso
      rcases a3 with z|z
      ·rw [z] at k1;cases k1
      ·rw [z] at k1;cases k1
     ·have hh:=Jpc sc.names [] (PySem.mem_of_lookup a2) ⟨c,hc⟩
      obtain ⟨c',hc'⟩:=Option.isSome_iff_exists.mp hh
      have:=by
       have q:=hin _ _ hc'
       rw [hc] at q
       exact (yt.inj q).symm
      subst this
      obtain ⟨oc,hoc,hod⟩:=hcl
      exact ⟨c',hc',oc,kp _ _ hoc,hod⟩
 ·obtain ⟨v,oc,hoc,hod⟩:=I.cell x c (hin _ _ e)
  exact ⟨v,oc,kp _ _ hoc,hod⟩
 ·have hp':p∈X.pn++pins:=by simpa [blk] using hp
  obtain ⟨e,n,ne,nf,d⟩:=I.pin p hp'
  refine ⟨kp _ _ e,n,yz (yk e),λz=>?_,d⟩
  rcases yp.mp (I.stkSub p.1 z) with q|q
  ·exact ne q
  ·exact nf q
 ·unfold Sif
  rw [ye]
  exact hlen.symm
end
section
variable {X:Cx} {elt iter tg:Expr} {ifs:List Expr} {sc:Scope} {pos:Pos} {N:List Str} {ini:List (Option Nat)} {wi:TI} {g:TG} {tt:TT} {te:TE}
theorem Jw3 {pins:List (S1×Obj)} {σ:St} {H:Hp} {s:S3} {Q:VK} {use:Option (S2->Sem Unit)} {Q':S2->S3->Prop} {p:Pos} (hc:X.calm=true) (hi:PI X tg iter wi)
  (hsc:scB sc=true) (hfr:frB X.env.scope.names sc=true) (hlen:N.length=ini.length) (hini:Smh X.N N ini X.env.scope.names sc=true)
  (hg:∀C s H fp pn,PG (blk X sc N C s H fp pn) tg g) (ht:∀C s H fp pn,PIf (blk X sc N C s H fp pn) ifs tt) (he:∀C s H fp pn,PE (blk X sc N C s H fp pn) elt te)
  (hs:∀x,foldedSetIterable iter X.env x=pure x) (I:Sm X pins σ H s) (h:Ydd wi ini g tt te σ H Q)
  (hfin:∀(D:S1) (H':Hp) (s':S3) (C:S1) (m:Str->Option S2),Sm X pins σ H' s'->Jsi X pins H' C->s'.heap.Ns C m->Q (.ref D) H'->compPost (model X.prog X.w) X.A X.xe use Q' (.ref D) C (.ok .next) s'):
  Sc (model X.prog X.w) X.A (comprehension (.ListComp elt [⟨tg,iter,ifs,0⟩] sc pos) sc X.env p (newList []) false (eval iter X.env) use) Q' X.xe s:=by
 have hsc':=hsc
 unfold scB at hsc'
 rw [yap,yap] at hsc'
 obtain ⟨⟨hk0,hcell0⟩,hnames0⟩:=hsc'
 have hk:sc.kind= .function:=of_decide_eq_true hk0
 have hcell:∀y∈sc.names,y.2≠ .cell:=λy hy=>of_decide_eq_true (ybi.mp hcell0 y hy)
 have hnames:∀y∈sc.names,y.2= .local->sc.names.lookup y.1=some .local:=λy hy hl=>by
  have q:=ybi.mp hnames0 y hy
  rw [decide_eq_true hl] at q
  exact of_decide_eq_true (by simpa using q)
 have hfrP:∀y∈sc.names,y.2= .free->X.env.kindOf y.1=some .cell\/X.env.kindOf y.1=some .free:=λy hy hl=>by
  have q:=ybi.mp hfr y hy
  rw [decide_eq_true hl] at q
  have q2:decide (X.env.scope.names.lookup y.1=some .cell)=true\/decide (X.env.scope.names.lookup y.1=some .free)=true:=by simpa using q
  rcases q2 with z|z
  ·exact .inl (of_decide_eq_true z)
  ·exact .inr (of_decide_eq_true z)
 have hiniP:∀(i:Nat) (x:Str) (j:Nat),N[i]?=some x->ini[i]?=some (some j)->X.N[j]?=some x/\sc.names.lookup x=some .free/\(X.env.kindOf x=some .cell\/X.env.kindOf x=some .free):=λi x j e1 e2=>by
  have hm:(x,some j)∈N.zip ini:=by
   refine yr (i:=i) ?_
   rw [List.getElem?_zip_eq_some]
   exact ⟨e1,e2⟩
  have q:=ybi.mp hini _ hm
  dsimp only at q
  rw [yap,yap,Bool.or_eq_true] at q
  obtain ⟨⟨q1,q2⟩,q3⟩:=q
  refine ⟨of_decide_eq_true q1,of_decide_eq_true q2,?_⟩
  rcases q3 with z|z
  ·exact .inl (of_decide_eq_true z)
  ·exact .inr (of_decide_eq_true z)
 refine wpAny_comprehension_free (use:=use) rfl hs (Jvi λy hy hl=>I.ok.has y.1 (hfrP y hy hl)) hk hnames ?_
 refine thn (hi pins s σ H _ I h) λv s1 h1=>thn h1 λitv s2 h2=>?_
 obtain ⟨it,fp,tn,J,H2,e,I2,T,st2,f2,step⟩:=h2
 subst e
 refine wpAny_newObj_type (wpAny_newFunctionEnv hcell (by intro y hy;simp at hy) (λh1 hns1 hsb1=>?_) hk)
 dsimp only at hns1 hsb1⊢
 have hD:H2 s2.heap.objs.size=none:=I2.hok.fresh (yg _)
 have kp3:∀b o,s2.heap.get? b=some o->(s2.heap.push {cls:=.type "list",dict:=none,data:=.seq ([]:List S2).toArray}).get? b=some o:=λb o e=>ym _ e
 have I3:Sm X pins σ (upd H2 s2.heap.objs.size (.lst [])) {s2 with heap:=s2.heap.push {cls:=.type "list",dict:=none,data:=.seq ([]:List S2).toArray}}:=
  I2.laid (t':=s2.toks) kp3 (yg _) ⟨yai _,[],0,.nil,yx _ rfl⟩
 obtain ⟨W,⟨m0,w0⟩,turn⟩:=step s2.heap.objs.size hD
 generalize hs3:({s2 with heap:=s2.heap.push {cls:=.type "list",dict:=none,data:=.seq ([]:List S2).toArray}}:S3)=s3 at I3
 have e3h:s3.heap=s2.heap.push {cls:=.type "list",dict:=none,data:=.seq ([]:List S2).toArray}:=by rw [<-hs3]
 rw [<-e3h] at hns1 hsb1 kp3⊢
 have sz3:s2.heap.objs.size < s3.heap.objs.size:=by rw [e3h,yas];exact yce _
 have hf3:∀b∈fp,Jsi X pins (upd H2 s2.heap.objs.size (.lst [])) b/\b < s3.heap.objs.size:=λb hb=>by
  obtain ⟨o,eo,_⟩:=T.obj 0 _ st2 b hb
  have lt:=yk eo
  obtain ⟨f0,fr⟩:=f2 b hb
  exact ⟨⟨by rw [Sw (yz lt)];exact f0,fr⟩,Nat.lt_trans lt sz3⟩
 have kp4:∀b o,s3.heap.get? b=some o->h1.get? b=some o:=λb o e=>(hsb1.2 b (yz (yk e))).trans (ym _ e)
 have I4:Sm (blk X sc N s3.heap.objs.size s3 (upd H2 s2.heap.objs.size (.lst [])) fp (X.pn++pins)) [] (Sif ini σ) (upd H2 s2.heap.objs.size (.lst [])) {s3 with heap:=h1,toks:=s3.toks+([]:List (Str×S2)).length}:=
  Ydp I3 hk hcell hfrP hf3 hlen hiniP hns1 kp4
 have st4:tn 0 h1:=T.keep 0 _ _ st2 λb hb o e=>kp4 b o (kp3 b o e)
 have e4s:({s2 with heap:=h1,toks:=s2.toks+([]:List (Str×S2)).length}:S3)={s3 with heap:=h1,toks:=s3.toks+([]:List (Str×S2)).length}:=by rw [<-hs3]
 have stat:∀{H':Hp},(∀b∈fp,H' b=none)->∀b∈fp,Jsi (blk X sc N s3.heap.objs.size s3 (upd H2 s2.heap.objs.size (.lst [])) fp (X.pn++pins)) [] H' b:=λ{H'} hn b hb=>by
  obtain ⟨⟨f0,f1,f2',f3,f4,f5⟩,lt⟩:=hf3 b hb
  refine ⟨hn b hb,yz lt,λz=>?_,.inl hb,λx c e=>f4 x c (Jpd sc.names [] (λx c e=>by simp at e) x c e),λp hp=>f5 p (by simpa [blk] using hp)⟩
  rcases yp.mp (I3.stkSub b z) with q|q
  ·exact f1 q
  ·grind
 have loop:∀s4:S3,s4={s3 with heap:=h1,toks:=s3.toks+([]:List (Str×S2)).length}->codeAny (model X.prog X.w) X.A (.compLoop (.ListComp elt [⟨tg,iter,ifs,0⟩] sc pos) 0 (.ref it) (.ref s2.heap.objs.size) (compEnvC sc (Jok X.env.cells sc.names []) s3.heap.objs.size X.env))
   (compPost (model X.prog X.w) X.A X.xe use Q' (.ref s2.heap.objs.size) s3.heap.objs.size) s4:=by
  rintro s4 rfl
  refine Jwv (λn s'=>∃i σ' H',Sm (blk X sc N s3.heap.objs.size s3 (upd H2 s2.heap.objs.size (.lst [])) fp (X.pn++pins)) [] σ' H' s'/\tn i s'.heap/\(∀b∈fp,H' b=none)/\W i n σ' H') ?_ m0
   ⟨0,_,_,I4,st4,λb hb=>(hf3 b hb).1.1,w0⟩
  rintro n s5 ⟨i,σ5,H5,I5,st5,fr5,w5⟩
  rcases turn i n σ5 H5 w5 with ⟨stop,q⟩|⟨go,N',hN',step'⟩
  ·refine thn (T.done (blk X sc N s3.heap.objs.size s3 (upd H2 s2.heap.objs.size (.lst [])) fp (X.pn++pins)) rfl rfl rfl hc i [] s5 σ5 H5 _ I5 (stat fr5) st5 stop) λr s6 ⟨hr,I6⟩=>?_
   subst hr
   have un:Un (frs X.stack) fp H2 H5 s2.heap s6.heap:=(Un.laid (fs:=frs X.stack) (ex:=fp) kp3 (yg _) hD).trans I6.base
   have os6:s6.os=s2.os:=I6.os.trans (show s3.os=s2.os by rw [<-hs3])
   have IX:Sm X pins σ H5 s6:=I2.call' (ch:=fp) os6 un I6.hok I6.bare λb hb=>by
    obtain ⟨⟨f0,f1,f2',f3,f4,f5⟩,lt⟩:=hf3 b hb
    exact ⟨f3,f1,f4,f5⟩
   obtain ⟨m,hm,_⟩:=I6.loc
   exact hfin _ H5 s6 s3.heap.objs.size m IX (I2.fpOk (ycd sz3) I6.free) hm q
  ·refine thn (T.item (blk X sc N s3.heap.objs.size s3 (upd H2 s2.heap.objs.size (.lst [])) fp (X.pn++pins)) rfl rfl rfl hc i [] s5 σ5 H5 _ I5 (stat fr5) st5 go) λr s6 ⟨u,hr,h6⟩=>?_
   subst hr
   refine thn h6 λ_ s7 zq=>?_
   obtain ⟨x,H7,I7,r7,y7,st7,fr7⟩:=zq
   have I7':=I7.pinned (stat fr7) (T.obj _ _ st7)
   refine thn (hg _ _ _ _ _ _ s7 σ5 H7 x u _ I7' r7 (step' x H7 y7)) λ_ s8 zq=>?_
   obtain ⟨σ8,H8,I8,q8⟩:=zq
   refine thn (ht _ _ _ _ _ _ s8 σ8 H8 _ I8 q8) λok s9 zq=>?_
   obtain ⟨H9,I9,q9⟩:=zq
   have again:∀{σ':St} {H':Hp} {s':S3},Sm (blk X sc N s3.heap.objs.size s3 (upd H2 s2.heap.objs.size (.lst [])) fp (X.pn++pins)) ([]++Jv4 fp s7.heap) σ' H' s'->N' σ' H'->
     ∃m,m < n/\∃i σ' H',Sm (blk X sc N s3.heap.objs.size s3 (upd H2 s2.heap.objs.size (.lst [])) fp (X.pn++pins)) [] σ' H' s'/\tn i s'.heap/\(∀b∈fp,H' b=none)/\W i m σ' H':=λ{σ' H' s'} J n'=>by
    obtain ⟨m',hm,w'⟩:=hN' σ' H' n'
    refine ⟨m',hm,i+1,σ',H',J.unpinned,T.keep _ _ _ st7 λb hb o e=>(J.pin (b,o) (ybg _ (ybg _ (Jpn hb e)))).1,λb hb=>?_,w'⟩
    obtain ⟨o,e,d⟩:=T.obj _ _ st7 b hb
    exact (J.pin (b,o) (ybg _ (ybg _ (Jpn hb e)))).2.1
   cases ok with
   |false=>
    exact again I9 q9
   |true=>
    refine thn (he _ _ _ _ _ _ s9 σ8 H9 _ I9 q9) λv10 s10 zq=>?_
    obtain ⟨x10,H10,I10,r10,ys,hys,hyl,q10⟩:=zq
    refine thn (Jor _ s10 σ8 H10 (.ref s2.heap.objs.size) [x10] _ [v10] (λ_ H'=>N' σ8 H') I10 rfl (.cons r10 .nil) ⟨_,ys,x10,rfl,rfl,hys,hyl,q10⟩) λ_ s11 zq=>?_
    obtain ⟨_,H11,I11,_,q11⟩:=zq
    exact again I11 q11
 have fin:=codeAny_compStart_list (R:=compPost (model X.prog X.w) X.A X.xe use Q' (.ref s2.heap.objs.size) s3.heap.objs.size) (loop _ rfl) (T.self X.A 0 {s3 with heap:=h1,toks:=s3.toks+([]:List (Str×S2)).length} _ _ st4 (loop _ rfl))
 rw [<-e4s] at fin
 exact fin
theorem Jmj (hc:X.calm=true) (hi:PI X tg iter wi) (hg:∀C s H fp pn,PG (blk X sc N C s H fp pn) tg g) (ht:∀C s H fp pn,PIf (blk X sc N C s H fp pn) ifs tt) (he:∀C s H fp pn,PE (blk X sc N C s H fp pn) elt te)
  (hsc:scB sc=true:=by rfl) (hfr:frB X.env.scope.names sc=true:=by rfl) (hlen:N.length=ini.length:=by rfl) (hini:Smh X.N N ini X.env.scope.names sc=true:=by rfl)
  (hs:∀x,foldedSetIterable iter X.env x=pure x:=by intro _;rfl):PE X (.ListComp elt [⟨tg,iter,ifs,0⟩] sc pos) (Ydd wi ini g tt te):=by
 intro pins s σ H Q I h
 refine Jw3 hc hi hsc hfr hlen hini hg ht he hs I h λD H' s' C m I' f hn q=>?_
 obtain ⟨f0,f1,f2,f3,f4,f5⟩:=f
 exact ⟨m,hn,λh' sb=>⟨.ref D,H',I'.turned (λb o hb e=>(sb.2 b hb).trans e) f0 f1 f3 f4 f5,rfl,q⟩⟩
def Ssm (i:Nat) (te:TE):TS:=λD σ H=>te σ H λv H1=>D.nx (σ.set i (some v)) H1
theorem Jsa {py spos} (hN:X.N.Nodup) (hiy:X.N[i]?=some y) (hx:Loc X.env.scope y) (hc:X.calm=true) (hi:PI X tg iter wi) (hg:∀C s H fp pn,PG (blk X sc N C s H fp pn) tg g) (ht:∀C s H fp pn,PIf (blk X sc N C s H fp pn) ifs tt) (he:∀C s H fp pn,PE (blk X sc N C s H fp pn) elt te)
  (hf:X.fn y=true\/X.env.scope.names.lookup y=some .local:=by first|exact .inl rfl|exact .inr rfl|assumption)
  (hsw:swapsWith (.ListComp elt [⟨tg,iter,ifs,0⟩] sc pos) (some (.Name y py)) spos.line X.env=pure true:=by rfl)
  (hsc:scB sc=true:=by rfl) (hfr:frB X.env.scope.names sc=true:=by rfl) (hlen:N.length=ini.length:=by rfl) (hini:Smh X.N N ini X.env.scope.names sc=true:=by rfl)
  (hs:∀x,foldedSetIterable iter X.env x=pure x:=by intro _;rfl):PS X (.Assign [.Name y py] (.ListComp elt [⟨tg,iter,ifs,0⟩] sc pos) spos) (Ssm i (Ydd wi ini g tt te)):=by
 intro pins s σ H D I h
 rw [exec_Assign_Name_used _ _ _ _ hsw]
 refine S4 (wpAny_standAt (S4 ?_))
 refine S4 (wpAny_mono (Jw3 hc hi hsc hfr hlen hini hg ht he hs I h λD' H' s' C m I' f hn q=>?_) (λ_ s' hq=>S5 (S5 hq)) λ_ _ e=>e)
 obtain ⟨f0,f1,f2,f3,f4,f5⟩:=f
 refine wpAny_assign_Name (Jwo I' hN hiy hx (v:=.ref D') rfl (λs'' I'' sb=>?_) hf)
 obtain ⟨a,sb,ha⟩:=sb
 have hCa:C≠a:=by
  rcases ha with z|z
  ·grind
  ·grind
 refine ⟨m,hn.sameBut sb hCa,λh' sb'=>⟨_,H',I''.turned (λb o hb e=>(sb'.2 b hb).trans e) f0 f1 f3 f4 f5,q⟩⟩
end
section
variable {g:TG} {tt:TT} {te:TE} {H:Hp} {D:S1} {σ:St} {R:Hp->Prop}
theorem Jra {lo} {n} (Pv:Nat->St->Hp->Prop) (h0:Pv 0 σ H)
  (hs:∀i σ H,i < n->Pv i σ H->g (.int (lo+i)) σ H λσ3 H3=>tt σ3 H3 λb H4=>if b=true then te σ3 H4 λv H5=>∃ys,H5 D=some (.lst ys)/\ys.length < S6/\Pv (i+1) σ3 (upd H5 D (.lst (ys++ [v]))) else Pv (i+1) σ3 H4)
  (hd:∀σ H,Pv n σ H->R H):
  ∃W:Nat->Nat->St->Hp->Prop,(∃m,W 0 m σ H)/\∀i m σ' H',W i m σ' H'->(Itr lo n).stop i H'/\R H'\/(Itr lo n).go i H'/\∃N:St->Hp->Prop,(∀σ2 H2,N σ2 H2->∃m',m' < m/\W (i+1) m' σ2 H2)/\
   ∀x H2,(Itr lo n).yld i H' x H2->g x σ' H2 λσ3 H3=>tt σ3 H3 λb H4=>if b=true then te σ3 H4 λv H5=>∃ys,H5 D=some (.lst ys)/\ys.length < S6/\N σ3 (upd H5 D (.lst (ys++ [v]))) else N σ3 H4:=by
 refine ⟨λi m σ H=>m=n - i/\i<=n/\Pv i σ H,⟨n,by simp,yai _,h0⟩,?_⟩
 rintro i m σ H ⟨rfl,hi,p⟩
 by_cases hlt:i < n
 ·refine .inr ⟨hlt,Pv _,λσ' H' p'=>⟨n - _,by omega,rfl,hlt,p'⟩,λx H' y=>?_⟩
  obtain ⟨e,y⟩:=y
  subst e y
  exact hs i σ _ hlt p
 ·have e:i=n:=by omega
  subst e
  exact .inl ⟨yg _,hd σ H p⟩
theorem Jnk {K} {a} {xs} (Pv:Nat->St->Hp->Prop) (h0:Pv 0 σ H) (hl:∀i σ H,i<=xs.length->Pv i σ H->Ss K H a xs)
  (hs:∀i x σ H,xs[i]?=some x->Pv i σ H->g x σ H λσ3 H3=>tt σ3 H3 λb H4=>if b=true then te σ3 H4 λv H5=>∃ys,H5 D=some (.lst ys)/\ys.length < S6/\Pv (i+1) σ3 (upd H5 D (.lst (ys++ [v]))) else Pv (i+1) σ3 H4)
  (hd:∀σ H,Pv xs.length σ H->R H):
  ∃W:Nat->Nat->St->Hp->Prop,(∃m,W 0 m σ H)/\∀i m σ' H',W i m σ' H'->(Itl K a).stop i H'/\R H'\/(Itl K a).go i H'/\∃N:St->Hp->Prop,(∀σ2 H2,N σ2 H2->∃m',m' < m/\W (i+1) m' σ2 H2)/\
   ∀x H2,(Itl K a).yld i H' x H2->g x σ' H2 λσ3 H3=>tt σ3 H3 λb H4=>if b=true then te σ3 H4 λv H5=>∃ys,H5 D=some (.lst ys)/\ys.length < S6/\N σ3 (upd H5 D (.lst (ys++ [v]))) else N σ3 H4:=by
 refine ⟨λi m σ H=>m=xs.length - i/\i<=xs.length/\Pv i σ H,⟨xs.length,by simp,yai _,h0⟩,?_⟩
 rintro i m σ H ⟨rfl,hi,p⟩
 have q:=hl i σ H hi p
 by_cases hlt:i < xs.length
 ·refine .inr ⟨⟨xs,xs[i],q,by simp [hlt]⟩,Pv _,λσ' H' p'=>⟨xs.length - _,by omega,rfl,hlt,p'⟩,λx H' y=>?_⟩
  obtain ⟨e,y⟩:=y
  subst e
  exact hs i x σ _ (y xs q) p
 ·have e:i=xs.length:=by omega
  subst e
  exact .inl ⟨⟨xs,q,yg _⟩,hd σ H p⟩
end
theorem Jn6 {H} {A B:St->Hp->Prop} (h:A (σ.set i (some v)) H):Jog i v σ H λσ3 H3=>Jxs σ3 H3 λb H4=>if b=true then A σ3 H4 else B σ3 H4:=h
def sgn (c:Nat):V:=.str ⟨#[c]⟩
def Its (z:Str):It:=⟨λi _=>i < z.cps.size,λi H x H'=>H'=H/\∃c,z.cps[i]?=some c/\x=sgn c,λi _=>z.cps.size=i⟩
def Swg (tl:TE):TI:=λσ H R=>tl σ H λx H1=>∃z,x= .str z/\R (Its z) H1
theorem Jyy {P:S7} {w:S9} {K:Sd} {tg:Expr} {z:Str} {it:S1} {n:String} {fl:Nat->Array S2} {St:Nat->Sb->Prop}
  (Wk:∀A':Sa,A'.handled=none->Walks P w A' it [it] [it] z.cps.size (SignAt z) St) (hst:∀i h,St i h->∃o,h.get? it=some o/\o.cls= .type n/\∃a,o.data= .fields a)
  (hn: ["enumerate","zip","dict_itemiterator","dict_reverseitemiterator","odict_iterator","itertools.zip_longest","itertools.pairwise"].contains n=false)
  (hself:∀(A:Sa) (i:Nat) (s:S3) (Q:S2->S3->Prop) (E:S2->S3->Prop),St i s.heap->Q (.ref it) s->Sc (model P w) A (pyIter (.ref it)) Q E s):Turn P w K tg (Its z) [it] it St where
 mem:=by simp
 obj:=λi h st b hb=>by
  have e:b=it:=by simpa using hb
  subst e
  obtain ⟨o,e,_,a,d⟩:=hst i h st
  exact ⟨o,e,λv z=>by rw [d] at z;cases z⟩
 keep:=λi h h' st k=>by
  have W0:=Wk callerA rfl
  exact W0.frame i h h' st λb hb o e=>k b hb o e
 item:=by
  intro X hP hw hK hc i pins s σ H E I hf st hg
  subst hP hw hK
  obtain ⟨f0,f1,f2,f3,f4,f5⟩:=hf it (by simp)
  have W:=Wk X.A (I.ok.hd hc)
  refine W.item i s _ _ hg st λv h' tk hv st' kk=>?_
  obtain ⟨c,u,hcp,rfl⟩:=hv
  have I1:Sm X pins σ H {s with heap:=h',toks:=tk}:=I.turned (λb o hb e=>kk b o (by simpa using hb) e) f0 f1 f3 f4 f5
  obtain ⟨o,e,cl,a,d⟩:=hst _ _ st'
  exact ⟨_,rfl,Yh (s:={s with heap:=h',toks:=tk}) e cl d hn ⟨sgn c,H,I1,⟨u,rfl⟩,⟨rfl,c,hcp,rfl⟩,st',λb hb=>(hf b hb).1⟩⟩
 done:=by
  intro X hP hw hK hc i pins s σ H E I hf st hg
  subst hP hw hK
  obtain ⟨f0,f1,f2,f3,f4,f5⟩:=hf it (by simp)
  have W:=Wk X.A (I.ok.hd hc)
  have hg':z.cps.size=i:=hg
  subst hg'
  exact W.done s _ _ st λh' tk kk=>⟨rfl,I.turned (λb o hb e=>kk b o (by simpa using hb) e) f0 f1 f3 f4 f5⟩
 self:=hself
theorem Sn5 {X:Cx} {tg l:Expr} {tl:TE} (hl:PE X l tl):PI X tg l (Swg tl):=by
 intro pins s σ H R I h
 refine thn (hl pins s σ H _ I h) λv s1 zq=>?_
 obtain ⟨x,H1,I1,r1,z,e,q⟩:=zq
 subst e
 obtain ⟨t,rfl⟩:=r1
 have fin:∀(o:Obj) (St:Nat->Sb->Prop) (n:String),Turn X.prog X.w X.K tg (Its z) [s1.heap.objs.size] s1.heap.objs.size St->St 0 (s1.heap.push o)->PIE X pins σ tg R (.ref s1.heap.objs.size) {s1 with heap:=s1.heap.push o}:=λo St n T st0=>by
  refine ⟨s1.heap.objs.size,[s1.heap.objs.size],St,Its z,H1,rfl,I1.kept (t':=s1.toks) λb o e=>ym _ e,T,st0,λb hb=>?_,q⟩
  have e:b=s1.heap.objs.size:=by simpa using hb
  subst e
  exact I1.fpOk (yg _) (I1.hok.fresh (yg _))
 cases ha:z.cps.all (· < 128)
 ·refine wpAny_pyIter_wide ha (fin _ (λi h=>h.IsStrIter s1.heap.objs.size "str_iterator" z t i) "str_iterator" (Jyy (n:="str_iterator") (fl:=λ_=>#[]) (λA' hA=>Walks.strWide hA _ z t) (λi h st=>?_) (by decide) (λA i s Q E st q=>wpAny_pyIter_striter_wide st q)) ⟨_,yx _ rfl,rfl,rfl⟩)
  obtain ⟨o,e,c,d⟩:=st
  exact ⟨o,e,c,_,d⟩
 ·refine wpAny_pyIter_ascii ha (fin _ (λi h=>h.IsStrIter s1.heap.objs.size "str_ascii_iterator" z t i) "str_ascii_iterator" (Jyy (n:="str_ascii_iterator") (fl:=λ_=>#[]) (λA' hA=>Walks.strAscii hA _ z t) (λi h st=>?_) (by decide) (λA i s Q E st q=>wpAny_pyIter_striter_ascii st q)) ⟨_,yx _ rfl,rfl,rfl⟩)
  obtain ⟨o,e,c,d⟩:=st
  exact ⟨o,e,c,_,d⟩
theorem Yb8 {g:TG} {tt:TT} {te:TE} {H} {D} {σ} {R:Hp->Prop} (Pv:Nat->St->Hp->Prop) (h0:Pv 0 σ H)
  (hs:∀i c σ H,z.cps[i]?=some c->Pv i σ H->g (sgn c) σ H λσ3 H3=>tt σ3 H3 λb H4=>if b=true then te σ3 H4 λv H5=>∃ys,H5 D=some (.lst ys)/\ys.length < S6/\Pv (i+1) σ3 (upd H5 D (.lst (ys++ [v]))) else Pv (i+1) σ3 H4)
  (hd:∀σ H,Pv z.cps.size σ H->R H):
  ∃W:Nat->Nat->St->Hp->Prop,(∃m,W 0 m σ H)/\∀i m σ' H',W i m σ' H'->(Its z).stop i H'/\R H'\/(Its z).go i H'/\∃N:St->Hp->Prop,(∀σ2 H2,N σ2 H2->∃m',m' < m/\W (i+1) m' σ2 H2)/\
   ∀x H2,(Its z).yld i H' x H2->g x σ' H2 λσ3 H3=>tt σ3 H3 λb H4=>if b=true then te σ3 H4 λv H5=>∃ys,H5 D=some (.lst ys)/\ys.length < S6/\N σ3 (upd H5 D (.lst (ys++ [v]))) else N σ3 H4:=by
 refine ⟨λi m σ H=>m=z.cps.size - i/\i<=z.cps.size/\Pv i σ H,⟨z.cps.size,by simp,yai _,h0⟩,?_⟩
 rintro i m σ H ⟨rfl,hi,p⟩
 by_cases hlt:i < z.cps.size
 ·refine .inr ⟨hlt,Pv _,λσ' H' p'=>⟨z.cps.size - _,by omega,rfl,hlt,p'⟩,λx H' y=>?_⟩
  obtain ⟨e,c,hcp,y⟩:=y
  subst e y
  exact hs i c σ _ hcp p
 ·have e:i=z.cps.size:=by omega
  subst e
  exact .inl ⟨rfl,hd σ H p⟩
section
variable {X:Cx}
theorem Jqc:OpR X (binaryOp .FloorDiv) (rI (λ_ j=>0 < j/\j.natAbs.log2 < 9000) λi j=>.int (i/j)):=opI λi j _ _ _ _ _ hc q=>floordiv_int (by omega) (by rw [Int.fdiv_eq_ediv_of_nonneg i (by omega)];exact q) (.inl (PyProof.noPylong_of_log2 hc.2))
def Sm7:V->Option S2
 | .ty n=>some (.type n)
 | .ref a=>some (.ref a)
 |_=>none
theorem Yq:∀{ys:List Str} {us:List S2},Sv (ys.map V.str) us->StrsAre us ys
 | [],_,.nil=>.nil
 |_::_,_,.cons ⟨_,rfl⟩ t=>.cons _ _ (Yq t)
inductive Skv (K:Sd) (x:V) (xs:List V) (H:Hp) (Q:VK):Prop where
 |mk (z:Str) (a:S1) (ys:List Str) (_:x= .str z) (_:xs= [.ref a]) (_:Ss K H a (ys.map V.str)) (_:(ys.map (·.length)).sum+ys.length*z.length<=16777216) (_:Q (.str (Txt.join z ys)) H)
theorem Ye0:MtR X "str.join" (Skv X.K):=by
 rintro pins s σ H x xs v us Q I rx rs ⟨z,a,ys,rfl,rfl,hq,hz,q⟩
 obtain ⟨t,rfl⟩:=rx
 obtain ⟨u,rfl,ru⟩:=Joi rs
 cases ru
 obtain ⟨its,r,pl,_⟩:=I.list hq
 exact join_list pl.isList (by simpa using Yq r) hz λt' k=>⟨.str _,H,I.tok _,⟨_,rfl⟩,q⟩
inductive Swo (K:Sd) (xs:List V) (H:Hp) (Q:VK):Prop where
 |mk (a:S1) (bs:List Bool) (_:xs= [.ref a]) (_:Ss K H a (bs.map V.bl)) (_:Q (.bl (bs.all id)) H)
theorem Jq2 (hc:X.calm=true):Jnr X (.builtin "all") (Swo X.K):=by
 rintro pins s σ H xs us Q I r ⟨a,bs,rfl,hq,q⟩
 obtain ⟨u,rfl,ru⟩:=Joi r
 cases ru
 obtain ⟨its,rv,pl,hz⟩:=I.list hq
 have hlen:=rv.length
 refine call_all_walk (wpAny_pyIter_list pl.isList ⟨s.heap.objs.size,[s.heap.objs.size,a],[s.heap.objs.size],its.toArray.size,_,_,λi=>bs.getD i true,rfl,Walks.list (A:=X.A.in1) (I.ok.hd hc) s.heap.objs.size a ?_ its.toArray,⟨⟨_,yx _ rfl,rfl,rfl⟩,pl.isList.at λo e=>ym _ e⟩,?_,λh' tk k=>?_⟩)
 ·obtain ⟨o,_,e,_⟩:=pl
  exact yz (yk e)
 ·intro i v s' Q' E' hv hq'
  have hv':=by simpa using hv
  have hi:=(yi.mp hv').1
  have hb:i < bs.length:=by rw [ye] at hlen;omega
  obtain ⟨u',hu',ru'⟩:=rv.get (by rw [yj,yh hb];rfl)
  rw [hv'] at hu'
  cases hu'
  cases ru'
  refine wpAny_truthy_bool ?_
  have:bs.getD i true=bs[i]:=by rw [ybw,yh hb];rfl
  rw [<-this]
  exact hq'
 ·have e:((yav its.toArray.size).all λi=>bs.getD i true)=bs.all id:=by
   have hl2:its.toArray.size=bs.length:=by rw [ye] at hlen;rw [yq];exact hlen.symm
   rw [hl2,Bool.eq_iff_iff,ybi,ybi]
   constructor
   ·intro hh b hb
    obtain ⟨i,hi,rfl⟩:=List.getElem_of_mem hb
    have:=hh i (ycc.mpr hi)
    rw [ybw,yh hi] at this
    exact this
   ·intro hh i hi
    have hi':=ycc.mp hi
    rw [ybw,yh hi']
    exact hh _ (yat hi')
  rw [e]
  exact ⟨.bl _,H,I.kept λb o e=>k b o (λz=>by
   have z':=by simpa using z
   exact absurd (yk e) (by rw [z'];exact ybe _)) (ym _ e),rfl,q⟩
end
mutual
inductive Sbg (K:Sd) (H:Hp):V->PyData->Prop
 |non:Sbg K H .non .none
 |bl (b:Bool):Sbg K H (.bl b) (.bool b)
 |int (i:Int):Sbg K H (.int i) (.int i)
 |str (z:Str):Sbg K H (.str z) (.str z)
 |lst {a:S1} {xs:List V} {ds:List PyData}:Ss K H a xs->Sar K H xs ds->Sbg K H (.ref a) (.list ds)
 |tup {a:S1} {xs:List V} {ds:List PyData}:Sy K H a xs->Sar K H xs ds->Sbg K H (.ref a) (.tuple ds)
inductive Sar (K:Sd) (H:Hp):List V->List PyData->Prop
 |nil:Sar K H [] []
 |cons {x:V} {d:PyData} {xs:List V} {ds:List PyData}:Sbg K H x d->Sar K H xs ds->Sar K H (x::xs) (d::ds)
end
section
variable {X:Cx} {pins:List (S1×Obj)} {σ:St} {H:Hp} {s:S3}
mutual
theorem Sbg.reads (I:Sm X pins σ H s):∀{x} {d},Sbg X.K H x d->∀{v},RelV x v->∃as,Reads s.heap v d as
 |_,_,.non,_,r=>by cases r;exact ⟨_,.none⟩
 |_,_,.bl b,_,r=>by cases r;exact ⟨_,.bool b⟩
 |_,_,.int i,_,r=>by obtain ⟨t,rfl⟩:=r;exact ⟨_,.int i t⟩
 |_,_,.str z,_,r=>by obtain ⟨t,rfl⟩:=r;exact ⟨_,.str z t⟩
 |_,_,.lst hq hd,_,r=>by
  cases r
  obtain ⟨its,rv,⟨o,n,e,c,dd,dt⟩,_⟩:=I.list hq
  obtain ⟨as,ra⟩:=Sar.reads I hd rv
  exact ⟨_,.list e c dt (by simpa using ra)⟩
 |_,_,.tup hq hd,_,r=>by
  cases r
  obtain ⟨its,rv,⟨o,e,c,n,dt⟩,_⟩:=I.tuple hq
  obtain ⟨as,ra⟩:=Sar.reads I hd rv
  exact ⟨_,.tuple e c dt (by simpa using ra)⟩
theorem Sar.reads (I:Sm X pins σ H s):∀{xs:List V} {ds:List PyData},Sar X.K H xs ds->∀{us:List S2},Sv xs us->∃as,ReadsAll s.heap us ds as
 |_,_,.nil,_,r=>by cases r;exact ⟨_,.nil⟩
 |_,_,.cons h t,_,r=>by
  cases r with
  |cons r1 r2=>
   obtain ⟨as,ra⟩:=Sbg.reads I h r1
   obtain ⟨bs,rb⟩:=Sar.reads I t r2
   exact ⟨_,.cons ra rb⟩
end
inductive Swq (K:Sd) (neg:Bool) (x:V) (y:V) (H:Hp) (Q:VK):Prop where
 |mk (d:_) (e:_) (_:Sbg K H x d) (_:Sbg K H y e) (_:SeqAt.shaped d=true) (_:SeqAt.shaped e=true) (_:Q (.bl (if neg then !PyData.eqv d e else PyData.eqv d e)) H)
theorem Jzr (hu:X.A.units+64 < cLine):OpR X (compareOp .NotEq) (Swq X.K true):=by
 rintro pins s σ H x y v u Q I rx ry ⟨d,e,hd,he,sd,se,q⟩
 obtain ⟨as,ra⟩:=hd.reads I rx
 obtain ⟨bs,rb⟩:=he.reads I ry
 exact ne_dataH ra rb sd se hu (Jms I q rfl)
end
theorem Jmk:bootBuiltins "isinstance" =some (.builtin "isinstance"):=by decide +kernel
theorem Jnf:bootBuiltins "len" =some (.builtin "len"):=by decide +kernel
theorem Juc:bootBuiltins "max" =some (.builtin "max"):=by decide +kernel
theorem Jsm:bootBuiltins "min" =some (.builtin "min"):=by decide +kernel
theorem Jub:bootBuiltins "all" =some (.builtin "all"):=by decide +kernel
theorem Yb3:bootBuiltins "int" =some (.type "int"):=by decide +kernel
theorem Sm4:bootBuiltins "str" =some (.type "str"):=by decide +kernel
theorem Ydq:bootBuiltins "bool" =some (.type "bool"):=by decide +kernel
theorem Jni:bootBuiltins "list" =some (.type "list"):=by decide +kernel
theorem Jnw:bootBuiltins "tuple" =some (.type "tuple"):=by decide +kernel
structure FT (K:Sd) (mg:Str->Option S2) (x:Str) (st:Stmt) (ps:List Str) (f:S1) (fd:S8):Prop where
 mgx:mg x=some (.ref f)
 fn:Fun K x x st f fd
 bd:Sb2 K fd ps []
section
variable {X:Cx} {x:Str} {st:Stmt} {ps:List Str} {f:S1} {fd:S8} {sp:Sp} {k j:Nat} {p pos:Pos} {e:Expr} {es:List Expr} {t:TA}
theorem Jlz (F:FT X.K X.mg x st ps f fd) (G:So X.prog X.w X.K X.mg X.base CX0 k f fd ps sp) (hr:San j X.A) (hk:k<=j) (ha:PA X (e::es) t) (hg:Gl X x:=by rfl) (hdb:(x==("__debug__" :Str))=false:=by decide)
  (he:starEach (e::es) X.env=(false,eval e X.env)::starEach es X.env:=by rfl) (hpl:(backTo pos (starEach es X.env)).any (·.1)=false:=by rfl):PE X (.Call (.Name x p) (e::es) [] pos) (Sl0 sp [] E0 t):=
 Yea G (hr.mono hk) hg F.mgx F.fn.kp F.bd .nil Job ha hdb he hpl
end
theorem Si.upd (h:H D=none):Si H (upd H D o):=λb u e=>by rw [Sw (Jm1 e h)];exact e
def Sby (H:Hp) (p:S1):Prop:=∃a b c:Int,H p=some (.lst [.int a,.int b,.int c])
def But (p:S1) (H H':Hp):Prop:=(∀b o,b≠p->H b=some o->H' b=some o)/\Sby H' p
theorem But.trans (a:But p H H1) (b:But p H1 H2):But p H H2:=⟨λc o n e=>b.1 c o n (a.1 c o n e),b.2⟩
theorem But.refl (s:Sby H p):But p H H:=⟨λ_ _ _ e=>e,s⟩
theorem But.same (a:But p H H1) (b:Si H1 H2):But p H H2:=⟨λc o n e=>b c o (a.1 c o n e),let ⟨x,y,z,e⟩:=a.2;⟨x,y,z,b p _ e⟩⟩
theorem Sby.same (a:Sby H p) (b:Si H H1):Sby H1 p:=by obtain ⟨x,y,z,e⟩:=a;exact ⟨x,y,z,b p _ e⟩
theorem But.of (a:Sby H p) (b:Si H H1):But p H H1:=(But.refl a).same b
theorem But.free (s:Sby H p) (b:But p H H') (h:H' D=none):H D=none:=by
 by_cases e:D=p
 ·obtain ⟨x,y,z,q⟩:=b.2
  rw [e,q] at h
  cases h
 ·cases q:H D with
  |none=>rfl
  |some o=>
   rw [b.1 D o e q] at h
   cases h
theorem But.updD (b:But p H H') (hD:H D=none) (ne:D≠p):But p H (upd H' D o):=by
 refine ⟨λc u n e=>?_,?_⟩
 ·rw [Sw (Jm1 e hD)]
  exact b.1 c u n e
 ·obtain ⟨x,y,z,q⟩:=b.2
  exact ⟨x,y,z,by rw [Sw (yw ne)];exact q⟩
theorem Sby.ne (s:Sby H p) (hD:H D=none):D≠p:=by
 obtain ⟨x,y,z,q⟩:=s
 exact (Jm1 q hD).symm
theorem Ju4 (s:Sby H p) (h:H a=some o) (hn:∀x y z:Int,o≠ .lst [.int x,.int y,.int z]):a≠p:=by
 intro e
 obtain ⟨x,y,z,q⟩:=s
 rw [e,q] at h
 exact hn x y z (yt.inj h).symm
inductive So7 (vs:List V) (H:Hp) (Q:VK) (z3:XK):Prop where
 |mk (p:S1) (m:Int) (_:vs= [.ref p,.int m]) (_:Sby H p) (_:0 < m) (_:m.natAbs.log2 < 9000) (_:∀(r:Int) (H':Hp),0<=r->r < m->But p H H'->Q (.int r) H')
inductive Yd5 (vs:List V) (H:Hp) (Q:VK) (z3:XK):Prop where
 |mk (c:Int) (_:vs= [.int c]) (_:∀(p:S1) (H':Hp),H p=none->Si H H'->Sby H' p->Q (.ref p) H')
inductive Snn (K:Sd) (vs:List V) (H:Hp) (Q:VK) (z3:XK):Prop where
 |mk (a:S1) (ns:List Int) (k:Nat) (_:vs= [.ref a,.int k]) (_:Ss K H a (ns.map V.int)) (_:∀n:Int,Q (.int n) H)
theorem Jsl {i:Int} {j:Nat} (hi:i=j) (h:xs[j]?=some v):atI xs i=some v:=by rw [hi];exact Jrr h
theorem Ju2 {ns:List Int} {k:Nat} (h):atI (ns.map V.int) (k)=some (.int ns[k]):=Jrr (by rw [yj,yh h];rfl)
theorem Jqr (hr:San k A):A.units+64 < cLine:=hr.units
end L2
namespace L2
open PySem PySem.Spec PyProof.Rows Builtin Builtin.ObjectAttr
abbrev VEm:List S2:=[.type "ValueError",.type "Exception",.type "BaseException",.type "object"]
def xcB (K:Sd) (C fI:S1):Bool:=
 Sf K (.ref C) "__getattribute__" ==some (some (.builtin "BaseException.__getattribute__"))&&Sf K (.ref C) "__getattr__" ==some none&&Sf K (.ref C) "__setattr__" ==some (some (.builtin "object.__setattr__"))&&
 Sf K (.ref C) "__init__" ==some (some (.ref fI))&&PySem.W.typeIn K (.ref fI)==some (.type "function")&&PySem.W.keepIn K (.ref C)&&PySem.W.hasDictIn K C&&Sg K C (.type "BaseException")==some true&&Sg K C (.type "object")==some true&&
 Sf K (.ref C) "__class__" ==some (some (.builtin "object.__class__"))&&PySem.W.specialIn K (.builtin "object.__class__") "__get__" ==some (some (.builtin "getset_descriptor.__get__"))&&PySem.W.takesIn K (.builtin "object.__class__")==some true
structure Sac (K:Sd) (C W fI:S1):Prop where
 obj:∃(nm q:Str) (N:S1) (bs:List S2) (sn:List Str) (sub:List S2) (ab:Bool) (col:Option Bool) (dd:Option S1) (k0 k1 k2 k3 k5:Option S2),
  K.lookup C=some (excClassObj nm q C N bs (.ref W::VEm) true sn sub ab col dd k0 k1 k2 k3 k5 "ValueError.__new__")
 tl:PySem.W.tailIn K VEm (.ref W::VEm)=true
 all:xcB K C fI=true
theorem Jna {K} (h:xcB K C fI=true):
  (Sf K (.ref C) "__getattribute__" =some (some (.builtin "BaseException.__getattribute__"))/\Sf K (.ref C) "__getattr__" =some none/\Sf K (.ref C) "__setattr__" =some (some (.builtin "object.__setattr__")))/\
  (Sf K (.ref C) "__init__" =some (some (.ref fI))/\PySem.W.typeIn K (.ref fI)=some (.type "function")/\PySem.W.keepIn K (.ref C)=true/\PySem.W.hasDictIn K C=true)/\Sg K C (.type "BaseException")=some true/\Sg K C (.type "object")=some true/\
  Sf K (.ref C) "__class__" =some (some (.builtin "object.__class__"))/\PySem.W.specialIn K (.builtin "object.__class__") "__get__" =some (some (.builtin "getset_descriptor.__get__"))/\PySem.W.takesIn K (.builtin "object.__class__")=some true:=by
 unfold xcB at h
 simp only [yap,beq_iff_eq] at h
 obtain ⟨⟨⟨⟨⟨⟨⟨⟨⟨⟨⟨a,b⟩,c⟩,d⟩,e⟩,f⟩,g⟩,i⟩,j⟩,k⟩,l⟩,m⟩:=h
 exact ⟨⟨a,b,c⟩,⟨d,e,f,g⟩,i,j,k,l,m⟩
section
variable {K:Sd} {C W fI:S1} (c:Sac K C W fI)
include c
theorem Sac.ga:Sf K (.ref C) "__getattribute__" =some (some (.builtin "BaseException.__getattribute__")):=(Jna c.all).1.1
theorem Sac.gh:Sf K (.ref C) "__getattr__" =some none:=(Jna c.all).1.2.1
theorem Sac.sa:Sf K (.ref C) "__setattr__" =some (some (.builtin "object.__setattr__")):=(Jna c.all).1.2.2
theorem Sac.ini:Sf K (.ref C) "__init__" =some (some (.ref fI)):=(Jna c.all).2.1.1
theorem Sac.fn:PySem.W.typeIn K (.ref fI)=some (.type "function"):=(Jna c.all).2.1.2.1
theorem Sac.kp:PySem.W.keepIn K (.ref C)=true:=(Jna c.all).2.1.2.2.1
theorem Sac.hd:PySem.W.hasDictIn K C=true:=(Jna c.all).2.1.2.2.2
theorem Sac.mb:Sg K C (.type "BaseException")=some true:=(Jna c.all).2.2.1
theorem Sac.mo:Sg K C (.type "object")=some true:=(Jna c.all).2.2.2.1
theorem Sac.cl:Sf K (.ref C) "__class__" =some (some (.builtin "object.__class__")):=(Jna c.all).2.2.2.2.1
theorem Sac.cg:PySem.W.specialIn K (.builtin "object.__class__") "__get__" =some (some (.builtin "getset_descriptor.__get__")):=(Jna c.all).2.2.2.2.2.1
theorem Sac.ct:PySem.W.takesIn K (.builtin "object.__class__")=some true:=(Jna c.all).2.2.2.2.2.2
end
theorem Yav (self) (C W):refuseLoop self "__setattr__" (.ref C:: .ref W::VEm)=pure ():=by
 rw [refuseLoop_ref,refuseLoop_ref]
 exact PySem.F.store_ValueError.passes self
theorem Sac.mro {K} (c:Sac K C W fI):∃cd,PySem.W.clsIn K C=some cd/\cd.mro= .ref C:: .ref W::VEm/\cd.hasDict=true:=by
 obtain ⟨nm,q,N,bs,sn,sub,ab,col,dd,k0,k1,k2,k3,k5,l⟩:=c.obj
 unfold PySem.W.clsIn
 rw [l]
 exact ⟨_,rfl,rfl,rfl⟩
section
variable {prog:S7} {w:S9} {A:Sa} {E:S2->S3->Prop} {s:S3} {K:Sd} {x C W fI:S1} {ox:Obj} {od:Option Obj} {name:Str}
theorem Yfk:builtinKind "BaseException.__getattribute__" =some .slot:=by decide +kernel
theorem Ydj:splitId "BaseException.__getattribute__" =some ("BaseException","__getattribute__"):=by decide +kernel
theorem Yt {tk} {R} (c:Sac K C W fI) (X:K.In s.heap) (I:PySem.W.InstAt s.heap x ox C od) (hf:PySem.W.findObj K C od name=some r)
  (h:Sc (model prog w) A.in1 (match r with| .value v=>ret v| .bind g b=>bindTo g b (.ref x) (.ref C)| .missing=>unsupported "none")
   (λfin s'=>match fin with| .done f=>R (.ok f) s'| .again c'=>c'.quiet=true/\codeAny (model prog w) A c' R s') (λe s'=>R (.error e) s') s) (hr:r≠ .missing):
  codeAny (model prog w) A (.call (.builtin "BaseException.__getattribute__") ⟨[.ref x,.str name tk],[]⟩) R s:=by
 have T0:=I.type (M:=model prog w)
 have T4:PySem.W.Looks (model prog w) s.heap (isInstance (.ref x) (.type "BaseException")) true:=T0.andThen (PySem.W.looks_mroIn X c.mb)
 have ck:=λ{Q' E' A'} q=>
  @PySem.W.check_slot (model prog w) A' E' s "BaseException.__getattribute__" "BaseException" "__getattribute__" (.ref x) [.str name tk] [] Q' Yfk Ydj T4 (F.args_bexc_ga (.ref x) (.str name tk)) q
 refine codeAny_call_builtin F.excAttr_ValueError.ga.plain F.entry_bexc_ga (ck (S4 (S5 (S4 (S5 (S4 (T0.here (S4 ((PySem.W.looks_find X I hf).here ?_)))))))))
 cases r with
 |missing=>exact absurd rfl hr
 |value v=>exact h
 |bind gg b=>exact h
theorem Sou {Q} (c:Sac K C W fI) (X:K.In s.heap) (I:PySem.W.InstAt s.heap x ox C od) (hf:PySem.W.findObj K C od name=some (.value v)) (hh:PySem.W.handedIn v=true)
  (q:Q v {s with toks:=s.toks+1}):Sc (model prog w) A (getAttr (.ref x) name expr) Q E s:=by
 obtain ⟨hp,g,d,t,os⟩:=s
 refine S4 (wpAny_mkText (wpAny_holding (S4 ((I.type).at (S4 ((PySem.W.looks_findIn X c.ga).at (S4 ((PySem.W.looks_findIn X c.gh).at ?_))))))))
 have e0:callGetattribute (.ref x) (.str name t) (.builtin "BaseException.__getattribute__") expr=boundAndCalled (.builtin "BaseException.__getattribute__") (.ref x) (.str name t):=by cases expr <;> rfl
 rw [e0]
 unfold boundAndCalled
 rw [F.excAttr_ValueError.ga.bind]
 refine S4 (wpAny_attempt (wpAny_holding (S4 (S5 (wpAny_call (Yt c X I hf (S5 ?_) (λz=>nomatch z)))))))
 show Sc _ _ (handedOut v) _ _ _
 rw [PySem.W.handedOut_of hh]
 exact S5 q
end
section
variable {prog:S7} {w:S9} {A:Sa} {E:S2->S3->Prop} {s:S3} {K:Sd} {x C W fI:S1} {ox:Obj} {od:Option Obj} {name:Str} {v:S2}
theorem Sov (c:Sac K C W fI) (X:K.In s.heap) (I:PySem.W.InstAt s.heap x ox C od) (hn:Sf K (.ref C) name=some none)
  (h:Sc (model prog w) A.in1 (storeInOwnDict (.ref x) (.ref C) (.str name tk) name v false)
   (λfin s'=>match fin with| .done f=>R (.ok f) s'| .again c'=>c'.quiet=true/\codeAny (model prog w) A c' R s') (λe s'=>R (.error e) s') s):
  codeAny (model prog w) A (.call (.builtin "object.__setattr__") ⟨[.ref x,.str name tk,v],[]⟩) R s:=by
 have SF:=PySem.F.store_object
 obtain ⟨cd,hc,hm,_⟩:=c.mro
 have T0:=I.type (M:=model prog w)
 have sub:PySem.W.Looks (model prog w) s.heap (isInstance (.ref x) (.type "object")) true:=T0.andThen (PySem.W.looks_mroIn X c.mo)
 have hmr:PySem.W.Looks (model prog w) s.heap (mroOf (.ref C)) cd.mro:=(PySem.W.looks_clsIn X hc).andThen .now
 refine codeAny_call_builtin SF.slot.plain SF.entry (@PySem.W.check_slot (model prog w) _ _ s "object.__setattr__" "object" "__setattr__" (.ref x) [.str name tk,v] [] _ SF.kind SF.split sub (SF.args (.ref x) (.str name tk) v) ?_)
 rw [PySem.W.osa_eq,refuse_eq]
 refine S4 (S4 (T0.here (S4 (hmr.here ?_))))
 rw [hm,Yav]
 exact S5 (S4 (T0.here (S4 ((PySem.W.looks_findIn X hn).here (S4 (S5 h))))))
theorem Y8 (c:Sac K C W fI) (X:K.In s.heap) (hx:s.heap.get? x=some ox) (hcl:ox.cls= .ref C) (hdi:ox.dict=none) (hd:ox.data= .fields vs) (hn:Sf K (.ref C) name=some none)
  (h:∀h',(∀b u,b≠x->s.heap.get? b=some u->h'.get? b=some u)->h'.get? x=some {ox with dict:=some s.heap.objs.size}->h'.Ns1 s.heap.objs.size (λy=>if y=name then some v else none)->Q () {s with heap:=h',toks:=s.toks+2}):
  Sc (model prog w) A (setAttr (.ref x) name v) Q E s:=by
 have I:PySem.W.InstAt s.heap x ox C none:=⟨hx,hcl,by unfold PySem.W.notCls;rw [hd],by rw [hdi];trivial⟩
 obtain ⟨cd,hc,_,hdct⟩:=c.mro
 refine PySem.W.set_plain X I c.sa (Sov c X I hn ?_)
 obtain ⟨oc,odi,oda,osl⟩:=ox
 subst hcl hdi hd
 refine S4 (S5 (S4 (S4 (wpAny_loadPart hx (S4 (PySem.W.Looks.here (PySem.W.looks_clsIn X hc) ?_))))))
 rw [hdct]
 have e1:(s.heap.push {cls:=.type "dict",data:=.dict #[]}).get? x=some ⟨.ref C,none,.fields vs,osl⟩:=ym _ hx
 have nx:=ybr (yk hx)
 have n0:(s.heap.push {cls:=.type "dict",data:=.dict #[]}).Ns s.heap.objs.size (λ_=>none):=⟨_,#[],_,yx s.heap rfl,rfl,(λe he=>absurd he (by simp)),λ_=>rfl⟩
 refine S4 (wpAny_alloc (S4 (wpAny_update e1 ?_)))
 have n1:((s.heap.push {cls:=.type "dict",data:=.dict #[]}).update x λo=>{o with dict:=some s.heap.objs.size}).Ns1 s.heap.objs.size (λ_=>none):=
  (Heap.Ns1.of_empty n0).at λo q=>by rw [ybo _ _ (yw nx)];exact q
 refine S5 (S4 (S5 (S4 (wpAny_nsSet1 n1 λh' n2 sb=>?_))))
 obtain ⟨oD,esD,epD,hoD,hdD,hcD⟩:=n2.count (PySem.Within.cons name v PySem.Within.nil)
 refine S4 (wpAny_lookBehind hoD (by rw [hdD];exact pastItsLine_dict (yac hcD (Nat.le_add_left 1 S6))) (S5 (h h' (λb u hb q=>?_) ((sb.2 _ (yw nx)).trans (yci (λo=>{o with dict:=some s.heap.objs.size}) e1 rfl)) n2)))
 rw [sb.2 b (yz (yk q)),ybo _ _ (yw hb)]
 exact ym _ q
end
abbrev Sjx (us:List S2):Obj:={cls:=.type "tuple",data:=.seq us.toArray}
abbrev Sjw (C:S1) (t:S1):Obj:={cls:=.ref C,data:=.fields #[.ref t,.none,.none,.none,.bool false,.none]}
section
variable {prog:S7} {w:S9} {A:Sa} {E:S2->S3->Prop} {K:Sd} {C W fI:S1} {us:List S2} {hp:Sb} {g:Array GenState} {d:Drawn} {t:Nat} {os:OsState}
theorem Ydk (c:Sac K C W fI) (X:K.In hp) (hz:us.length<=S6)
  (h:Sc (model prog w) A (call (.ref fI) (.ref (hp.objs.size+1)::us)) (λr s'=>r= .none/\Q (.done (.ret (.ref (hp.objs.size+1)))) s') E ⟨(hp.push (Sjx us)).push (Sjw C hp.objs.size),g,d,t,os⟩):
  Sc (model prog w) A (Builtin.«type.__call__» ⟨.ref C::us,[]⟩) Q E ⟨hp,g,d,t,os⟩:=by
 obtain ⟨nm,q,N,bs,sn,sub,ab,col,dd,k0,k1,k2,k3,k5,l⟩:=c.obj
 have FV:=F.excBase_ValueError
 have kC:=X _ _ l
 have TL:=PySem.W.tail_of_in X c.tl
 have up:∀b o,hp.get? b=some o->((hp.push (Sjx us)).push (Sjw C hp.objs.size)).get? b=some o:=λb o e=>ym _ (ym _ e)
 have X2:=X.keeps up
 have kC2:=X2 _ _ l
 have hcC:(Value.ref C:: .ref W::VEm).contains (.ref C)=true:=by simp
 repeat (first|with_reducible refine wpAny_loadPart_at kC ?_|with_reducible refine wpAny_madeBy_exc kC ?_|wp_step)
 refine codeAny_call_builtin_code (Code.quiet_builtin _ FV.quiet) (wpAny_check_new_subT FV TL kC (codeAny_exc_new_subT FV TL kC ?_ hz))
 repeat (first|with_reducible refine wpAny_loadPart_at gE ?_|(with_reducible refine wpAny_isSubtype_exc kC2 ?_;rw [hcC])|wp_step)
 refine (PySem.W.looks_findIn X2 c.ini).at (wpAny_holding (S4 ((PySem.W.bind_fn X2 _ c.fn).at (S4 (wpAny_mono h (λr s' hr=>?_) λ_ _ z=>z)))))
 obtain ⟨rfl,hQ⟩:=hr
 wp_walk
 exact hQ
theorem Yfl {s:S3} {Q} (c:Sac K C W fI) (X:K.In s.heap) (hz:us.length<=S6)
  (h:Sc (model prog w) (A.under (.builtin "type.__call__" ⟨.ref C::us,[]⟩)) (call (.ref fI) (.ref (s.heap.objs.size+1)::us)) (λr s'=>r= .none/\Q (.ref (s.heap.objs.size+1)) s') E {s with heap:=(s.heap.push (Sjx us)).push (Sjw C s.heap.objs.size)}):
  Sc (model prog w) A (call (.ref C) us) Q E s:=by
 obtain ⟨hp,g,d,t,os⟩:=s
 obtain ⟨nm,q,N,bs,sn,sub,ab,col,dd,k0,k1,k2,k3,k5,l⟩:=c.obj
 have kC:=X _ _ l
 have v1:=tc_lookup
 have v2:=tc_bind (.ref C)
 have hT:(⟨hp,g,d,t,os⟩:S3).TypeIs (.ref C) "type" :=⟨_,kC,rfl⟩
 refine wpAny_call (codeAny_of_tree ?_)
 repeat (any_goals (first|assumption|with_reducible refine wpAny_loadPart_at kC ?_|wp_step))
 exact ⟨rfl,codeAny_call_builtin_at (Code.quiet_builtin _ (by decide +kernel)) entry_typeCall (wpAny_check_type_call_sub kC (Ydk c X hz h))⟩
end
end L2
namespace L2
open PySem PySem.Spec PyProof.Rows
def XO (e C:S1) (dx:Option S1) (fr:Bool):HO:=.ext λh=>∃o vs,h.get? e=some o/\o.cls= .ref C/\o.dict=dx/\o.data= .fields vs/\(∃t,vs[0]?=some (.ref t))/\∃y,vs[1]?=some y/\(fr=true->y= .none)
def XD (dx:S1) (fs:List (Str×V)):HO:=.ext λh=>∃mA,h.Ns1 dx mA/\(∀f,Scb (fs.lookup f) (mA f))/\PySem.Within mA (fs.map (·.1))/\fs.length<=1000
section
variable {P:S7} {w:S9} {H:Hp} {h:Sb} {e C dx:S1} {od:Option S1} {fr:Bool} {fs:List (Str×V)}
theorem Ydl (he:h.get? e=some o) (h1:o.cls= .ref C) (h2:o.dict=od) (h3:o.data= .fields vs) (h4:∃t,vs[0]?=some (.ref t)) (h5:∃y,vs[1]?=some y/\(fr=true->y= .none)):Saa P w H h e (XO e C od fr):=
 ⟨⟨o,vs,he,h1,h2,h3,h4,h5⟩,⟨o,he⟩,λ_ _ ⟨o,vs,a,r⟩ k=>⟨o,vs,k o a,r⟩⟩
theorem Jvg (hok:HOk P w H h) (q:H e=some (XO e C od fr)):∃o vs,h.get? e=some o/\o.cls= .ref C/\o.dict=od/\o.data= .fields vs/\(∃t,vs[0]?=some (.ref t))/\∃y,vs[1]?=some y/\(fr=true->y= .none):=(hok e _ q).1
theorem Ssq (n:h.Ns1 dx mA) (r:∀f,Scb (fs.lookup f) (mA f)) (w':PySem.Within mA (fs.map (·.1))) (z:fs.length<=1000):Saa P w H h dx (XD dx fs):=
 ⟨⟨mA,n,r,w',z⟩,(let ⟨o,_,_,q,_⟩:=n;⟨o,q⟩),λ_ _ ⟨m,a,r⟩ k=>⟨m,a.at k,r⟩⟩
theorem Sow (hok:HOk P w H h) (q:H dx=some (XD dx fs)):∃mA,h.Ns1 dx mA/\(∀f,Scb (fs.lookup f) (mA f))/\PySem.Within mA (fs.map (·.1))/\fs.length<=1000:=(hok dx _ q).1
theorem Yu (hok:HOk P w H h) (q:H e=some (XO e C (some dx) fr)) (qd:H dx=some (XD dx fs)):∃(ox oD:Obj) (mA:Str->Option S2),PySem.W.InstAt h e ox C (some oD)/\(∀n,PySem.W.lookIn n oD=some (mA n))/\∀f,Scb (fs.lookup f) (mA f):=by
 obtain ⟨o,vs,he,hc,hd,hf,_⟩:=Jvg hok q
 obtain ⟨mA,n1,r,_⟩:=Sow hok qd
 obtain ⟨oD,hD,hl⟩:=Jwe n1
 exact ⟨o,oD,mA,⟨he,hc,by unfold PySem.W.notCls;rw [hf],by rw [hd];exact hD⟩,hl,r⟩
end
section
variable {X:Cx} {pins:List (S1×Obj)} {σ:St} {H:Hp} {s:S3} {e C W fI dx:S1} {fs:List (Str×V)} {fr:Bool} {f:Str} {v:V} {A:Sa} {E:S2->S3->Prop}
theorem Jz3 (I:Sm X pins σ H s) (q:H e=some (XO e C (some dx) fr)) (qd:H dx=some (XD dx fs)) (c:Sac X.K C W fI) (n:NoAttr X.K C f) (l:fs.lookup f=some v)
  (h:∀u s',Sm X pins σ H s'->RelV v u->Q u s'):Sc (model X.prog X.w) A (getAttr (.ref e) f b) Q E s:=by
 obtain ⟨ox,oD,mA,J,hl,r⟩:=Yu I.hok q qd
 obtain ⟨u,hu,ru⟩:=Scb.some_of (by rw [<-l];exact r f)
 exact Sou c I.kIn J (PySem.W.findObj_own c.hd n rfl (by rw [hl,hu])) (Jwa ru) (h u _ (I.tok _) ru)
theorem Ydm (I:Sm X pins σ H s) (q:H e=some (XO e C none fr)) (c:Sac X.K C W fI) (n:NoAttr X.K C f) (ry:RelV y u)
  (h:∀dx s',H dx=none->dx≠e->Sm X pins σ (upd (upd H dx (XD dx [(f,y)])) e (XO e C (some dx) fr)) s'->Q () s'):Sc (model X.prog X.w) A (setAttr (.ref e) f u) Q E s:=by
 obtain ⟨o,vs,he,hc,hd,hf,h0,h1⟩:=Jvg I.hok q
 have hn:=I.hok.fresh (yg _)
 refine Y8 c I.kIn he hc hd hf n λh' kp ke n1=>h s.heap.objs.size _ hn (ybr (yk he)) ?_
 have qd:∀m:Hp,Saa X.prog X.w m h' s.heap.objs.size (XD s.heap.objs.size [(f,y)]):=λm=>Ssq n1 (λg=>by
  by_cases z:g=f
  ·have zb:=beq_iff_eq.mpr z
   simp only [ybn,zb,if_pos z];exact ry
  ·have zb:=beq_eq_false_iff_ne.mpr z
   simp only [ybn,zb,if_neg z];exact True.intro) (λg hg=>by
  by_cases z:g=f
  ·rw [z];simp
  ·exact absurd (if_neg z) hg) (by simp)
 have un1:Un X.fs [] H (upd (upd H s.heap.objs.size (XD s.heap.objs.size [(f,y)])) e (XO e C (some s.heap.objs.size) fr)) s.heap h':=by
  have nb:∀b ob,s.heap.get? b=some ob->b≠s.heap.objs.size:=λb ob z=>yz (yk z)
  have sm:∀b u',H b=some u'->u'≠XO e C none fr->upd (upd H s.heap.objs.size (XD s.heap.objs.size [(f,y)])) e (XO e C (some s.heap.objs.size) fr) b=some u':=λb u' z d=>by
   rw [Sw (λw':b=e=>d (by rw [w',q] at z;exact (yt.inj z).symm)),Sw (Jm1 z hn)];exact z
  refine ⟨λb ob z n _ _=>kp b ob (λw'=>by rw [w',q] at n;cases n) z,λb ob z n _ _=>⟨ob.slots,kp b ob (λw'=>by rw [w',q] at n;cases n) z⟩,λb ob z n _=>?_,λb ob z _=>?_,λb xs z=>sm b _ z (λw'=>by cases w'),λb ob u' z=>sm b _ z (λw'=>by cases w'),λb ps z=>⟨#[],by rw [sm b _ z (λw'=>by cases w')];simp⟩⟩
  ·rw [Sw (λw'=>by rw [w',q] at n;cases n),Sw (nb b ob z)];exact n
  ·by_cases w':b=e
   ·exact ⟨_,by rw [w'];exact ke⟩
   ·exact ⟨ob,kp b ob w' z⟩
 refine I.un un1 λb ob z=>?_
 by_cases w1:b=e
 ·subst w1
  rw [Sn] at z;cases z
  exact Ydl ke hc rfl hf h0 h1
 ·rw [Sw w1] at z
  by_cases w2:b=s.heap.objs.size
  ·subst w2
   rw [Sn] at z;cases z
   exact qd _
  ·rw [Sw w2] at z
   have keep:∀c' u',H c'=some u'->u'≠XO e C none fr->upd (upd H s.heap.objs.size (XD s.heap.objs.size [(f,y)])) e (XO e C (some s.heap.objs.size) fr) c'=some u':=λc' u' zz d=>by
    rw [Sw (λw':c'=e=>d (by rw [w',q] at zz;exact (yt.inj zz).symm)),Sw (Jm1 zz hn)];exact zz
   refine (I.hok b ob z).stay (λc' v' hc' zz=>kp c' v' ?_ zz) (λc' zz=>keep c' _ zz (λw'=>by cases w')) (λc' xs zz=>keep c' _ zz (λw'=>by cases w')) λc' xs zz=>keep c' _ zz (λw'=>by cases w')
   rcases hc' with rfl|hc'
   ·exact w1
   ·rintro rfl;rw [q] at hc';cases hc'
theorem Sm.xmade (I:Sm X pins σ H s):Sm X pins σ (upd H (s.heap.objs.size+1) (XO (s.heap.objs.size+1) C none true)) {s with heap:=(s.heap.push (Sjx us)).push (Sjw C s.heap.objs.size)}:=by
 refine (I.kept (t':=s.toks) λb u q=>ym _ q).laid (λb u q=>ym _ q) (Nat.le_of_eq (yas _ _)) ?_
 exact Ydl (Heap.get?_push_at (by simp only [yas]) rfl) rfl rfl rfl ⟨_,rfl⟩ ⟨_,rfl,λ_=>rfl⟩
end
inductive Yfa (K:Sd) (f:Str) (Q:VK) (x:V) (H1:Hp):Prop where
 |mk (e:_) (C:_) (W:_) (fI:_) (dx:_) (fs:_) (v:_) (fr:_) (_:x= .ref e) (_:H1 e=some (XO e C (some dx) fr)) (_:H1 dx=some (XD dx fs)) (_:Sac K C W fI) (_:NoAttr K C f) (_:fs.lookup f=some v) (_:Q v H1)
def Ssi (K:Sd) (ta:TE) (f:Str):TE:=λσ H Q=>ta σ H (Yfa K f Q)
def Srz (K:Sd) (ta tv:TE) (f:Str):TS:=λD σ H=>tv σ H λy H1=>ta σ H1 λx H2=>∃e C W fI fr,x= .ref e/\H2 e=some (XO e C none fr)/\Sac K C W fI/\NoAttr K C f/\∀dx,H2 dx=none->dx≠e->
 D.nx σ (upd (upd H2 dx (XD dx [(f,y)])) e (XO e C (some dx) fr))
def Ssg (C:S1) (sp:Sp) (t:TA):TE:=λσ H Q=>t σ H λvs H1=>vs.length<=1000/\∀e,H1 e=none->sp (.ref e::vs) (upd H1 e (XO e C none true)) (λv H2=>v= .non/\Q (.ref e) H2) E0
section
variable {X:Cx} {o e value:Expr} {f:Str} {pos pos' tpos p:Pos} {ta tv:TE} {C W fI:S1} {fd:S8} {ps:List Str} {sp:Sp} {k j:Nat} {x:Str} {es:List Expr} {t:TA}
theorem Yec (he:PE X e ta) (hb:attributeBase e f X.env (eval e X.env)=eval e X.env):PE X (.Attribute e f pos) (Ssi X.K ta f):=by
 intro pins s σ H Q I h
 refine Ya hb (thn (he pins s σ H _ I h) λu s1 zq=>?_)
 obtain ⟨x,H1,I1,rx,a,C,W,fI,dx,fs,v,fr,ex,q,qd,c,n,l,k⟩:=zq
 subst ex
 obtain rfl:u=Value.ref a:=rx
 exact Jz3 I1 q qd c n l λu' s2 I2 ru=>⟨v,H1,I2,ru,k⟩
theorem Joo (ha:PE X o ta) (hv:PE X value tv) (hs:swapsWith value (some (.Attribute o f pos')) pos.line X.env=pure false):PS X (.Assign [.Attribute o f pos'] value pos) (Srz X.K ta tv f):=by
 intro pins s σ H D I h
 refine plainObj_wpAny_Assign_Attribute (thn (hv pins s σ H _ I h) λu s1 ⟨y,H1,I1,ry,q⟩=>thn (ha pins s1 σ H1 _ I1 q) λov s2 zq=>?_) hs
 obtain ⟨x,H2,I2,rx,a,C,W,fI,fr,ex,ea,c,n,q2⟩:=zq
 subst ex
 obtain rfl:ov=Value.ref a:=rx
 exact Ydm I2 ea c n ry λdx s3 h1 h2 I3=>⟨σ,_,I3,q2 dx h1 h2⟩
theorem Yen {σ:St} {H} {s} {Q} {us} {vs} (c:Sac X.K C W fI) (G:So X.prog X.w X.K X.mg X.base CX0 k fI fd ps sp) (hr:San (k+1) X.A) (hb:Sb2 X.K fd ps []) (I:Sm X pins σ H s) (r:Sv vs us) (hz:vs.length<=1000)
  (h:∀e,H e=none->sp (.ref e::vs) (upd H e (XO e C none true)) (λv H2=>v= .non/\Q (.ref e) H2) E0):Sc (model X.prog X.w) X.A (call (.ref C) us) (EP X pins σ Q) X.xe s:=by
 have hq:=h (s.heap.objs.size+1) (I.hok.fresh (Nat.le_succ _))
 have I2:=Sm.xmade (C:=C) (us:=us) I
 have r2:Sv (V.ref (s.heap.objs.size+1)::vs) (Value.ref (s.heap.objs.size+1)::us):=.cons rfl r
 have hl:(Value.ref (s.heap.objs.size+1)::us++ []).length=ps.length:=by
  rw [ybb,<-r2.length,G.len _ _ _ _ hq]
 refine Yfl c I.kIn (by rw [<-r.length];exact yac hz (by decide)) (wpAny_call (codeAny_mono (G.run _ X.stack _ _ ⟨Value.ref (s.heap.objs.size+1)::us,[]⟩ (Value.ref (s.heap.objs.size+1)::us) _ _ E0 (hr.make C us [])
  (I2.env0.make C us []) (by have:=hb _ (Value.ref (s.heap.objs.size+1)::us) I2.kIn hl;rw [ybb] at this;exact this) r2 hq) λr s' hq'=>?_))
 cases r with
 |error e=>exact False.elim hq'
 |ok fl=>
  cases fl with
  |ret u=>
   obtain ⟨v,H',I3,rv,ev,q3⟩:=I2.after hq'
   subst ev
   exact ⟨rv,⟨V.ref (s.heap.objs.size+1),H',I3,rfl,q3⟩⟩
  |next=>exact False.elim hq'
  |brk=>exact False.elim hq'
  |cont=>exact False.elim hq'
theorem Jnq (c:Sac X.K C W fI) (G:So X.prog X.w X.K X.mg X.base CX0 k fI fd ps sp) (hr:San j X.A) (hk:k+1<=j) (hb:Sb2 X.K fd ps []) (hm:X.mg x=some (.ref C)) (ha:PA X (e::es) t) (hg:Gl X x:=by rfl)
  (hdb:(x==("__debug__" :Str))=false:=by decide) (he:starEach (e::es) X.env=(false,eval e X.env)::starEach es X.env:=by rfl) (hpl:(backTo pos (starEach es X.env)).any (·.1)=false:=by rfl):
  PE X (.Call (.Name x p) (e::es) [] pos) (Ssg C sp t):=by
 intro pins s σ H Q I h
 exact wpAny_Call_Name_kw (Jqt I hg hm (PySem.W.callWith_K I.ok.mod.kin c.kp (thn (ha pos pins s σ H _ I h) λus s1 ⟨vs,H1,I1,r,z,q⟩=>⟨I1.kIn,Yen c G (hr.mono hk) hb I1 r z q⟩) he hpl) hdb)
end
section
variable {K:Sd} {C W fI:S1} {x:S1}
theorem Sxf (c:Sac K C W fI):PySem.W.KitX K (.ref x) (.ref C) (λh=>∃ox od,PySem.W.InstAt h x ox C (some od)) where
 ty:=λ_ _ _ ⟨_,_,I⟩=>I.type
 it:=λ_ _ X _=>by
  obtain ⟨nm,q,N,bs,sn,sub,ab,col,dd,k0,k1,k2,k3,k5,l⟩:=c.obj
  intro A' Q' E' s' k q
  exact S4 (wpAny_loadPart (k _ _ (X _ _ l)) (S5 q))
 ne:=λh tp dd its n sl X htp=>by
  obtain ⟨nm,q,N,bs,sn,sub,ab,col,dd,k0,k1,k2,k3,k5,l⟩:=c.obj
  refine Bool.eq_false_iff.mpr λz=>?_
  have e:=Value.ref.inj (beq_iff_eq.mp z)
  subst e
  have z:=congrArg (Option.map (·.cls)) ((X _ _ l).symm.trans htp)
  simp at z
 ca:=λ{prog w A E Q s} X ⟨ox,od,I⟩ kq=>by
  have hf:PySem.W.findObj K C (some od) "__class__" =some (.bind (.builtin "getset_descriptor.__get__") (.builtin "object.__class__")):=PySem.W.findObj_data (by obtain ⟨cd,hc,_⟩:=c.mro;rw [hc];rfl) c.cl c.cg c.ct
  obtain ⟨hp,g,d,t,os⟩:=s
  refine S4 (wpAny_mkText (S4 (wpAny_attempt (wpAny_holding (S4 ((I.type).at (S4 ((PySem.W.looks_findIn X c.ga).at (S4 ((PySem.W.looks_findIn X c.gh).at ?_))))))))))
  show Sc _ _ ((holding _ (boundAndCalled (.builtin "BaseException.__getattribute__") (.ref x) (.str "__class__" t))).attempt >>=_) _ _ _
  unfold boundAndCalled
  rw [F.excAttr_ValueError.ga.bind]
  exact S4 (wpAny_attempt (wpAny_holding (S4 (S5 (wpAny_call (Yt c X I hf (S4 (wpAny_holding (wpAny_call (PySem.W.class_get X I c.mo (S5 (S5 (S5 kq))))))) (λz=>nomatch z)))))))
end
section
variable {M:Model} {A:Sa} {E:S2->S3->Prop} {s:S3} {env:Env} {outer:List Env} {base:Sb} {L e T:S1} {oe oT:Obj} {vs ts:Array S2} {Q:Unit->S3->Prop}
theorem Jwj {hadNext} (hfr:A.frames=some (env::outer)) (hl:s.heap.FunFrames base (env::outer)) (hf:env.frame=some L) (he:s.heap.get? e=some oe) (hd:oe.data= .fields vs) (hz:1 < vs.size)
  (hQ:∀h' T,(∀b o,s.heap.get? b=some o->b∉frs (env::outer)->b≠e->h'.get? b=some o)->(∀b o,s.heap.get? b=some o->b≠e->∃sl,h'.get? b=some {o with slots:=sl})->s.heap.objs.size<=T->
   h'.get? e=some (oe.mapFields (·.setIfInBounds 1 (.ref T)))->(∃oT ts,h'.get? T=some oT/\oT.data= .fields ts/\ts[3]?=some (rawInt L))->Q () {s with heap:=h'}):
  Sc M A (do let a<-frameOf env;let pl<-entryPlaceOf L hadNext;let b<-EntryCells.newEntry head a .none (rawInt L) .none pl;setField (.ref e) 1 b) Q E s:=by
 have hen:e∉frs (env::outer):=λz=>by
  obtain ⟨_,o,ho,nf⟩:=hl.mem z
  rw [he] at ho
  cases ho
  exact nf vs hd
 refine S4 (wpAny_frameOf_fun hfr hl hf λh1 sl1=>S4 (wpAny_entryPlaceOf λpl hpl=>?_))
 unfold EntryCells.newEntry newFields
 have he1:=(sl1.2.1 e hen).trans he
 refine S4 (wpAny_newObj_type (wpAny_setField (ym _ he1) hd hz (hQ _ h1.objs.size (λb o hb hn ne=>?_) (λb o hb ne=>?_) (Nat.le_of_eq sl1.1.symm) (yci _ (ym _ he1) (Obj.isFreed_of_fields (Obj.data_mapFields hd _))) ?_)) (hpl.sizeOk5 _ _ _ _ _))
 ·rw [ybo _ _ (yw ne)]
  exact ym _ ((sl1.2.1 b hn).trans hb)
 ·obtain ⟨sl,q⟩:=sl1.2.2 b o hb
  exact ⟨sl,by rw [ybo _ _ (yw ne)];exact ym _ q⟩
 ·refine ⟨_,_,(ybo _ _ (yw (ybr (yk he1)))).trans (yx h1 rfl),rfl,?_⟩
  first|(simp;done)|(rcases hpl with rfl|⟨_,_,_,_,_,_,_,rfl⟩ <;> simp)
theorem Jzm (hfr:A.frames=some (env::outer)) (hl:s.heap.FunFrames base (env::outer)) (hf:env.frame=some L) (he:s.heap.get? e=some oe) (hd:oe.data= .fields vs) (h1:vs[1]?=some .none)
  (hQ:∀h' T,(∀b o,s.heap.get? b=some o->b∉frs (env::outer)->b≠e->h'.get? b=some o)->(∀b o,s.heap.get? b=some o->b≠e->∃sl,h'.get? b=some {o with slots:=sl})->s.heap.objs.size<=T->
   h'.get? e=some (oe.mapFields (·.setIfInBounds 1 (.ref T)))->(∃oT ts,h'.get? T=some oT/\oT.data= .fields ts/\ts[3]?=some (rawInt L))->Q () {s with heap:=h'}):
  Sc M A (noteFrame (.ref e) env) Q E s:=by
 unfold noteFrame
 simp only [hf]
 exact S4 (wpAny_field he hd h1 (Jwj hfr hl hf he hd (ycf.mp h1).1 hQ))
theorem Yad (hfr:A.frames=some (env::outer)) (hl:s.heap.FunFrames base (env::outer)) (hf:env.frame=some L) (he:s.heap.get? e=some oe) (hd:oe.data= .fields vs) (h1:vs[1]?=some (.ref T))
  (hT:s.heap.get? T=some oT) (hdT:oT.data= .fields ts) (h3:ts[3]?=some .none) (ne:T≠e)
  (hQ:∀h' T',(∀b o,s.heap.get? b=some o->b∉frs (env::outer)->b≠e->b≠T->h'.get? b=some o)->(∀b o,s.heap.get? b=some o->b≠e->b≠T->∃sl,h'.get? b=some {o with slots:=sl})->s.heap.objs.size<=T'->
   h'.get? e=some (oe.mapFields (·.setIfInBounds 1 (.ref T')))->(∃oT ts,h'.get? T'=some oT/\oT.data= .fields ts/\ts[3]?=some (rawInt L))->Q () {s with heap:=h'}):
  Sc M A (noteFrame (.ref e) env) Q E s:=by
 unfold noteFrame
 simp only [hf]
 refine S4 (wpAny_field he hd h1 (S4 (wpAny_field hT hdT h3 ?_)))
 have ot:∀b,b≠T->(s.heap.update T (Obj.mapFields (·.setIfInBounds 3 Value.none))).get? b=s.heap.get? b:=λb hb=>ybo _ _ (yw hb)
 have nr:∀b o,s.heap.get? b=some o->(∀ws,o.data≠ .fields ws)->b≠T:=λb o hb nf z=>by
  rw [z,hT] at hb
  cases hb
  exact nf ts hdT
 refine S4 (wpAny_setField hT hdT (ycf.mp h3).1 ?_)
 refine Jwj hfr (hl.of_keeps λb o hb nf=>⟨o,(ot b (nr b o hb nf)).trans hb,rfl⟩) hf ((ot e (yw ne)).trans he) hd (ycf.mp h1).1 λh' T' k1 k2 k3 k4 k5=>?_
 refine hQ h' T' (λb o hb hn h1 h2=>k1 b o ((ot b h2).trans hb) hn h1) (λb o hb h1 h2=>k2 b o ((ot b h2).trans hb) h1) ?_ k4 k5
 have z:(s.heap.update T (Obj.mapFields (·.setIfInBounds 3 Value.none))).objs.size=s.heap.objs.size:=Heap.size_after_update ..
 rw [<-z];exact k3
end
def Flt (X:Cx) (pins:List (S1×Obj)) (H:Hp) (h:Sb) (e:S1) (fl:S2):Prop:=
 ∃oe vs T oT ts,h.get? e=some oe/\oe.data= .fields vs/\vs[1]?=some (.ref T)/\H T=none/\h.get? T=some oT/\oT.data= .fields ts/\ts[3]?=some fl/\X.s₀.heap.objs.size<=T/\∀p∈X.pn++pins,p.1≠T
def Y9 (X:Cx):Prop:=X.stack=X.env::X.outer/\X.env.frame=some X.env.locals
section
variable {X:Cx} {pins:List (S1×Obj)} {σ:St} {H:Hp} {s:S3} {e C:S1} {od:Option S1} {fr fr':Bool} {A:Sa} {M:Model} {E:S2->S3->Prop} {Q:Unit->S3->Prop} {fl:S2} {h':Sb}
theorem Sm.freeOf (I:Sm X pins σ H s) (hb:s.heap.get? b=some o) (hd:o.data= .fields ts):b≠X.env.locals/\∀x c,X.env.cells.lookup x=some c->c≠b:=by
 refine ⟨λz=>?_,λx c e z=>?_⟩
 ·obtain ⟨m,⟨o',es,ep,ho',hd',_⟩,_⟩:=I.loc
  rw [z,ho'] at hb;cases hb;rw [hd'] at hd;cases hd
 ·obtain ⟨v,o',ho',hd'⟩:=I.cell x c e
  rw [z,hb] at ho';cases ho';rw [hd] at hd';cases hd'
theorem Sm.fly {ch:List S1} (I:Sm X pins σ H s) (q:H e=some (XO e C od fr)) (hch:∀b∈ch,X.s₀.heap.objs.size<=b/\H b=none/\(∃o ts,s.heap.get? b=some o/\o.data= .fields ts)/\∀p∈X.pn++pins,p.1≠b)
  (k:∀b o,s.heap.get? b=some o->b∉frs X.stack->b≠e->b∉ch->h'.get? b=some o) (ks:∀b o,s.heap.get? b=some o->b≠e->b∉ch->∃sl,h'.get? b=some {o with slots:=sl})
  (new:Saa X.prog X.w (upd H e (XO e C od fr')) h' e (XO e C od fr')):Sm X pins σ (upd H e (XO e C od fr')) {s with heap:=h'}:=by
 have ne:∀b u,H b=some u->u≠XO e C od fr->b≠e:=λb u z d w'=>d (by rw [w',q] at z;exact (yt.inj z).symm)
 have nn:∀b,H b=none->b≠e:=λb z w'=>by rw [w',q] at z;cases z
 have u:Un (frs X.stack) ch H (upd H e (XO e C od fr')) s.heap h':=by
  refine ⟨λb o hb n hs hc=>k b o hb hs (nn b n) hc,λb o hb n _ hc=>ks b o hb (nn b n) hc,λb o _ n _=>by rw [Sw (nn b n)];exact n,λb o hb hc=>?_,λb xs z=>?_,λb o u z=>?_,λb ps z=>⟨#[],?_⟩⟩
  ·by_cases w':b=e
   ·rw [w'];exact new.2.1
   ·obtain ⟨sl,z⟩:=ks b o hb w' hc
    exact ⟨_,z⟩
  ·rw [Sw (ne b _ z (λw'=>by cases w'))];exact z
  ·rw [Sw (ne b _ z (λw'=>by cases w'))];exact z
  ·rw [Sw (ne b _ z (λw'=>by cases w')),z];simp
 refine I.call u (λb o z=>?_) I.bare λb hb=>?_
 ·by_cases w':b=e
  ·subst w'
   rw [Sn] at z;cases z
   exact new
  ·rw [Sw w'] at z
   refine (I.hok b o z).stay (λc v hc zz=>k c v zz ?_ ?_ ?_) (λc zz=>by rw [Sw (ne c _ zz (λw'=>by cases w'))];exact zz) (λc xs zz=>by rw [Sw (ne c _ zz (λw'=>by cases w'))];exact zz) λc xs zz=>by rw [Sw (ne c _ zz (λw'=>by cases w'))];exact zz
   ·intro hs
    have:=I.stkFree c hs
    rcases hc with rfl|hc
    ·rw [this] at z;cases z
    ·rw [this] at hc;cases hc
   ·rcases hc with rfl|hc
    ·exact w'
    ·exact ne c _ hc (λw'=>by cases w')
   ·intro hb
    have:=(hch c hb).2.1
    rcases hc with rfl|hc
    ·rw [this] at z;cases z
    ·rw [this] at hc;cases hc
 ·obtain ⟨h1,_,⟨o,ts,ho,hd⟩,h4⟩:=hch b hb
  exact ⟨.inr h1,(I.freeOf ho hd).1,(I.freeOf ho hd).2,h4⟩
theorem Yn (I:Sm X pins σ H s) (hs:Y9 X) (hA:A.frames=some X.stack) (q:H e=some (XO e C od fr)) (hfl:fr=true\/Flt X pins H s.heap e .none)
  (h:∀s',Sm X pins σ (upd H e (XO e C od false)) s'->Flt X pins (upd H e (XO e C od false)) s'.heap e (rawInt X.env.locals)->Q () s'):Sc M A (noteFrame (.ref e) X.env) Q E s:=by
 obtain ⟨o,vs,he,hc,hd,hf,⟨t0,h0⟩,y,h1,hy⟩:=Jvg I.hok q
 have hA':A.frames=some (X.env::X.outer):=by rw [hA,hs.1]
 have FF:s.heap.FunFrames X.base (X.env::X.outer):=by rw [<-hs.1];exact I.stack
 have sub:∀b,b∉frs X.stack->b∉frs (X.env::X.outer):=λb z w'=>z (by rw [hs.1];exact w')
 have new:∀{h':Sb} {T:S1},h'.get? e=some (o.mapFields (·.setIfInBounds 1 (.ref T)))->Saa X.prog X.w (upd H e (XO e C od false)) h' e (XO e C od false):=λ{h' T} z=>by
  refine Ydl z ((Obj.cls_mapFields _ _).trans hc) ?_ (Obj.data_mapFields hf _) ⟨t0,by rw [Array.getElem?_setIfInBounds_ne (by decide)];exact h0⟩ ⟨.ref T,by simp [((ycf.mp h1).1)],λz=>nomatch z⟩
  obtain ⟨_,_,dt,_⟩:=o
  cases dt <;> first|exact hd|cases hf
 have fin:∀{h':Sb} {T:S1},Sm X pins σ (upd H e (XO e C od false)) {s with heap:=h'}->s.heap.objs.size<=T->h'.get? e=some (o.mapFields (·.setIfInBounds 1 (.ref T)))->(∃oT ts,h'.get? T=some oT/\oT.data= .fields ts/\ts[3]?=some (rawInt X.env.locals))->Q () {s with heap:=h'}:=λ{h' T} J k3 k4 ⟨oT,ts,k5,k6,k7⟩=>by
  refine h _ J ⟨_,_,T,oT,ts,k4,Obj.data_mapFields hf _,by simp [((ycf.mp h1).1)],?_,k5,k6,k7,yac I.sz k3,λp hp z=>?_⟩
  ·rw [Sw (λz=>absurd (yk he) (by rw [<-z];exact ybj.mpr k3))]
   exact I.hok.fresh k3
  ·obtain ⟨z1,_⟩:=I.pin p hp
   exact absurd (yk z1) (by rw [z];exact ybj.mpr k3)
 by_cases hfr:y= .none
 ·subst hfr
  refine Jzm hA' FF hs.2 he hf h1 λh' T k1 k2 k3 k4 k5=>fin (I.fly (ch:=[]) q (λb z=>absurd z (by simp)) (λb o hb hn ne _=>k1 b o hb (sub b hn) ne) (λb o hb ne _=>k2 b o hb ne) (new k4)) k3 k4 k5
 ·rcases hfl with z|⟨oe,ws,T,oT,ts,z1,z2,z3,z4,z5,z6,z7,z8,z9⟩
  ·exact absurd (hy z) hfr
  ·rw [he] at z1;cases z1
   rw [hf] at z2;cases z2
   have ne:T≠e:=λw'=>by rw [w',q] at z4;cases z4
   refine Yad hA' FF hs.2 he hf z3 z5 z6 z7 ne λh' T' k1 k2 k3 k4 k5=>fin (I.fly (ch:=[T]) q (λb hb=>?_) (λb o hb hn ne hc=>k1 b o hb (sub b hn) ne (by simpa using hc)) (λb o hb ne hc=>k2 b o hb ne (by simpa using hc)) (new k4)) k3 k4 k5
   obtain rfl:b=T:=by simpa using hb
   exact ⟨z8,z4,⟨oT,ts,z5,z6⟩,z9⟩
theorem Jsq (I:Sm X pins σ H s) (q:H e=some (XO e C od fr)) (hfl:Flt X pins H s.heap e fl) (h:∀s',Sm X pins σ H s'->Flt X pins H s'.heap e .none->Q () s'):Sc M A (setFlight (.ref e) none) Q E s:=by
 obtain ⟨oe,vs,T,oT,ts,z1,z2,z3,z4,z5,z6,z7,z8,z9⟩:=hfl
 have hz:=(ycf.mp z7).1
 have ne:T≠e:=λw'=>by rw [w',q] at z4;cases z4
 have ot:∀b,b≠T->(s.heap.update T (Obj.mapFields (·.setIfInBounds 3 Value.none))).get? b=s.heap.get? b:=λb hb=>ybo _ _ (yw hb)
 exact wpAny_setFlight_none z1 z2 z3 z5 z6 hz (h _ (I.turned (λb o hb z=>(ot b hb).trans z) z4 (I.freeOf z5 z6).1 (.inr z8) (I.freeOf z5 z6).2 z9) ⟨oe,vs,T,_,_,(ot e (yw ne)).trans z1,z2,z3,z4,yci _ z5 (Obj.isFreed_of_fields (Obj.data_mapFields z6 _)),Obj.data_mapFields z6 _,by simp [hz],z8,z9⟩)
end
def CXX (P:S7) (w:S9):CXT:=λouter H s E ev s'=>∃e C dx H',ev= .ref e/\s'.os=s.os/\AllBare s'.gens/\Un (frs outer) [] H H' s.heap s'.heap/\HOk P w H' s'.heap/\H' e=some (XO e C (some dx) false)/\
 (∃oe vs T oT ts,s'.heap.get? e=some oe/\oe.data= .fields vs/\vs[1]?=some (.ref T)/\H' T=none/\s'.heap.get? T=some oT/\oT.data= .fields ts/\ts[3]?=some .none/\s.heap.objs.size<=T)/\E (.ref C) (some e) H'
def Jt8 (X:Cx) (R:St->XK):Prop:=∀pins σ H s e C dx fr,Sm X pins σ H s->H e=some (XO e C (some dx) fr)->(fr=true\/Flt X pins H s.heap e .none)->R σ (.ref C) (some e) (upd H e (XO e C (some dx) false))->X.xe (.ref e) s
theorem Jn4 {K}:
  Jt8 (Jy7 (CXX P w) P w K mg base N qual scope f cd A outer s H E) (λ_=>E):=by
 intro pins σ H1 s1 e C dx fr I q hfl hE
 refine S4 (Yn I ⟨rfl,rfl⟩ I.ok.frames q hfl λs2 I2 f2=>Jsq I2 Sn f2 λs3 I3 f3=>?_)
 obtain ⟨oe,vs,T,oT,ts,z1,z2,z3,z4,z5,z6,z7,z8,_⟩:=f3
 exact ⟨e,C,dx,_,rfl,I3.os,I3.bare,I3.base,I3.hok,Sn,⟨oe,vs,T,oT,ts,z1,z2,z3,z4,z5,z6,z7,z8⟩,hE⟩
theorem Soq {o} (h:H a=some o):upd H a o=H:=by
 funext b
 unfold upd
 split
 ·rename_i z;rw [z,h]
 ·rfl
section
variable {X:Cx} {pins:List (S1×Obj)} {σ:St} {H:Hp} {s s':S3} {R:St->XK} {ev:S2}
theorem Yfm (hw:Jt8 X R) (I:Sm X pins σ H s) (h:CXX X.prog X.w X.stack H s (R σ) ev s'):X.xe ev s':=by
 obtain ⟨e,C,dx,H',rfl,ho,hg,un,hok,q,⟨oe,vs,T,oT,ts,z1,z2,z3,z4,z5,z6,z7,z8⟩,hR⟩:=h
 refine hw pins σ H' s' e C dx false (I.call' ho un hok hg λb z=>absurd z (by simp)) q (.inr ⟨oe,vs,T,oT,ts,z1,z2,z3,z4,z5,z6,z7,yac I.sz z8,λp hp z=>?_⟩) (by rw [Soq q];exact hR)
 obtain ⟨y1,_⟩:=I.pin p hp
 exact absurd (yk y1) (by rw [z];exact ybj.mpr z8)
end
theorem So.calm {K} (G:So P w K mg base (CXX P w) k f fd ps sp):So P w K mg base CX0 k f fd ps (λvs H Q _=>sp vs H Q E0):=
 ⟨λvs H Q _ h=>G.len vs H Q E0 h,λA outer s H args us vs Q E hr he hb hv hs=>codeAny_mono (G.run A outer s H args us vs Q E0 hr he hb hv hs) λr s' hq=>by
  cases r with
  |error e=>obtain ⟨_,_,_,_,_,_,_,_,_,_,_,z⟩:=hq;exact z.elim
  |ok fl=>cases fl <;> exact hq⟩
theorem Fun.okX {K} {st} (F:Fun K x qual st f fd) (S:Jm2 N ps (Jm0 st)) (len:∀vs H Q E,sp vs H Q E->vs.length=ps.length)
  (hbody:∀cdv A outer s H vs Q E,San k (A.deeper (envOfC qual (Jm0 st) s.heap.objs.size f cdv))->sp vs H Q E->
   ∃t,PSs (Jy7 (CXX P w) P w K mg base N qual (Jm0 st) f cdv A outer s H E) (Jnb st) t/\t {nx:=λ_ H'=>Q .non H',rt:=Q} (start N vs) H):So P w K mg base (CXX P w) (k+1) f fd ps sp:=by
 obtain ⟨dV,oc,od,kV,doc,pm,an,cdv,ct,osl,rfl,lk,hcd⟩:=F.ex
 exact Skn lk hcd S len λA outer s H vs Q E hr hsp=>hbody cdv A outer s H vs Q E hr hsp
def Soc (sp:Sp) (R:St->XK) (t:TA):TE:=λσ H Q=>t σ H λvs H1=>sp vs H1 Q (R σ)
inductive Yde (C:S1) (m:Str) (sp:Sp) (R:St->XK) (t:TA) (σ:St) (Q:VK) (x:V) (H1:Hp):Prop where
 |mk (a:_) (dx:_) (fs:_) (_:x= .ref a) (_:H1 a=some (.ins C dx fs)) (_:fs.lookup m=none) (_:t σ H1 λvs H2=>sp (x::vs) H2 Q (R σ))
def Soh (C:S1) (m:Str) (sp:Sp) (R:St->XK) (ta:TE) (t:TA):TE:=λσ H Q=>ta σ H (Yde C m sp R t σ Q)
section
variable {X:Cx} {k j:Nat} {f C:S1} {fd:S8} {ps:List Str} {sp:Sp} {R:St->XK} {x m:Str} {p pos apos:Pos} {e o:Expr} {es:List Expr} {ta:TE} {t:TA}
theorem Yo (G:So X.prog X.w X.K X.mg X.base (CXX X.prog X.w) k f fd ps sp) (hw:Jt8 X R) (hr:San k X.A) (hb:Sb2 X.K fd ps [])
  (I:Sm X pins σ H s) (r:Sv vs us) (h:sp vs H Q (R σ)):Sc (model X.prog X.w) X.A (call (.ref f) us) (EP X pins σ Q) X.xe s:=by
 have hl:(us++ []).length=ps.length:=by rw [ybb,<-r.length,G.len _ _ _ _ h]
 have hb':=hb s us I.kIn hl
 rw [ybb] at hb'
 refine wpAny_call (codeAny_mono (G.run X.A X.stack s H ⟨us,[]⟩ us vs Q (R σ) hr I.env0 hb' r h) λr s' hq=>?_)
 cases r with
 |error e=>exact Yfm hw I hq
 |ok fl=>
  cases fl with
  |ret u=>exact I.after hq
  |next=>exact False.elim hq
  |brk=>exact False.elim hq
  |cont=>exact False.elim hq
theorem Jox {st} (F:FT X.K X.mg x st ps f fd) (G:So X.prog X.w X.K X.mg X.base (CXX X.prog X.w) k f fd ps sp) (hw:Jt8 X R) (hr:San j X.A) (hk:k<=j) (ha:PA X (e::es) t) (hg:Gl X x:=by rfl)
  (hdb:(x==("__debug__" :Str))=false:=by decide) (he:starEach (e::es) X.env=(false,eval e X.env)::starEach es X.env:=by rfl) (hpl:(backTo pos (starEach es X.env)).any (·.1)=false:=by rfl):
  PE X (.Call (.Name x p) (e::es) [] pos) (Soc sp R t):=by
 intro pins s σ H Q I h
 exact wpAny_Call_Name_kw (Jqt I hg F.mgx (PySem.W.callWith_K I.ok.mod.kin F.fn.kp (thn (ha pos pins s σ H _ I h) λus s1 ⟨vs,H1,I1,r,q⟩=>⟨I1.kIn,Yo G hw (hr.mono hk) F.bd I1 r q⟩) he hpl) hdb)
theorem Yc8 {pl} (he:PE X o ta) (c:Cls X.K C) (hm:Joc X.K C m f) (G:So X.prog X.w X.K X.mg X.base (CXX X.prog X.w) k f fd ps sp) (hw:Jt8 X R) (hr:San j X.A) (hk:k<=j) (hb:Sb2 X.K fd ps []) (ha:PA X (e::es) t)
  (hst:starEach (e::es) X.env=(false,eval e X.env)::starEach es X.env:=by rfl) (hpl:(backTo pos (starEach es X.env)).any (·.1)=false:=by rfl)
  (ht:eval (.Call (.Attribute o m apos) (e::es) [] pos) X.env=(do
   let ov<-eval o X.env
   standAt apos.atName
   let (f,first)<-holding [ov] (getMethod ov m pl)
   callWith pos f first (backTo pos (starEach (e::es) X.env)) (backToKw pos (keywordEach [] X.env))):=by rfl):
  PE X (.Call (.Attribute o m apos) (e::es) [] pos) (Soh C m sp R ta t):=by
 intro pins s σ H Q I h
 refine PySem.W.methodCall_KW (thn (he pins s σ H _ I h) λu s1 zq=>?_) ht
 obtain ⟨x,H1,I1,rx,a,dx,fs,ex,ea,l,q⟩:=zq
 subst ex
 obtain rfl:u=Value.ref a:=rx
 exact Jos I1 ea c hm l (PySem.W.callWith_K I.ok.mod.kin hm.kp (thn (ha pos pins s1 σ H1 _ I1 q) λus s2 ⟨vs,H2,I2,r,q2⟩=>⟨I2.kIn,Yo (vs:=.ref a::vs) G hw (hr.mono hk) hb I2 (.cons rfl r) q2⟩) hst hpl)
end
def Yct (K:Sd) (R:St->XK) (te:TE):TS:=λ_ σ H=>te σ H λv H1=>∃e C W fI dx,v= .ref e/\H1 e=some (XO e C (some dx) true)/\Sac K C W fI/\R σ (.ref C) (some e) (upd H1 e (XO e C (some dx) false))
section
variable {X:Cx} {R:St->XK} {x:Expr} {pos:Pos} {te:TE}
theorem Jn0 (hw:Jt8 X R) (hc:X.calm=true) (hx:PE X x te):PS X (.Raise (some x) none pos) (Yct X.K R te):=by
 intro pins s σ H D I h
 refine S4 (wpAny_standAt (S4 (S4 (thn (hx pins s σ H _ I h) λu s1 ⟨y,H1,I1,ry,e,C,W,fI,dx,ey,q,c,k⟩=>S4 (wpAny_standAt (S5 ?_))))))
 subst ey
 obtain rfl:u=Value.ref e:=ry
 obtain ⟨o,vs,he,hcl,hd,hf,h0,y,h1,hy⟩:=Jvg I1.hok q
 obtain ⟨nm,qn,N,bs,sn,sub,ab,col,dd,k0,k1,k2,k3,k5,l⟩:=c.obj
 have kC:=I1.kIn _ _ l
 have hcB:(Value.ref C:: .ref W::VEm).contains (.type "BaseException")=true:=by simp
 obtain ⟨oc,odi,oda,osl⟩:=o
 subst hcl hd hf
 repeat (first|with_reducible refine wpAny_loadPart_at he ?_|with_reducible refine wpAny_loadPart_at kC ?_|(with_reducible refine wpAny_isSubtype_exc kC ?_;rw [hcB])|with_reducible refine wpAny_field he rfl h1 ?_|wp_step)
 exact wpAny_raiseNew_none (I.ok.hd hc) (hw pins σ H1 s1 e C dx true I1 q (.inl rfl) k)
end
structure Siy (K:Sd) (C:S1):Prop where
 obj:∃(dd:Option S1) (cd:ClassData) (sl:Array (Option S2)),K.lookup C=some ⟨.type "type",dd,.cls cd,sl⟩
 mb:Sg K C (.type "BaseException")=some true
section
variable {prog:S7} {w:S9} {A:Sa} {E:S2->S3->Prop} {s:S3} {K:Sd} {e C C0:S1} {oe:Obj} {b:Bool}
theorem Jzj (X:K.In s.heap) (c0:Siy K C0) (he:s.heap.get? e=some oe) (hc:oe.cls= .ref C) (hm:Sg K C (.ref C0)=some b) (q:Q b s):Sc (model prog w) A (excMatches (.ref e) (.ref C0)) Q E s:=by
 obtain ⟨dd,cd,sl,l⟩:=c0.obj
 have k0:=X _ _ l
 have f0:=tc_notTuple
 obtain ⟨oc,odi,oda,osl⟩:=oe
 subst hc
 repeat (first|with_reducible refine wpAny_loadPart_at he ?_|with_reducible refine wpAny_loadPart_at k0 ?_|with_reducible refine (PySem.W.looks_mroIn X c0.mb).at ?_|with_reducible refine (PySem.W.looks_mroIn X hm).at ?_|wp_step)
 cases b <;> (repeat wp_step) <;> exact q
end
def Cx.caught (X:Cx) (e:S1):Cx:={X with A:=X.A.mark (some (.ref e)),calm:=false,xe:=λ_ _=>False}
def Cx.tried (X:Cx) (pins:List (S1×Obj)) (R:St->XK):Cx:=
 {X with pn:=X.pn++pins,xe:=λev s'=>∃σ H e C dx fr,ev= .ref e/\Sm X pins σ H s'/\H e=some (XO e C (some dx) fr)/\(fr=true\/Flt X pins H s'.heap e .none)/\R σ (.ref C) (some e) (upd H e (XO e C (some dx) false))}
section
variable {X:Cx} {pins pins':List (S1×Obj)} {σ:St} {H:Hp} {s:S3} {R:St->XK} {e:S1}
theorem Sm.caught (I:Sm X pins σ H s) (e):Sm (X.caught e) pins σ H s:=
 ⟨⟨I.ok.mod,I.ok.kind,I.ok.glob,I.ok.blt,I.ok.above,I.ok.inj,I.ok.has,I.ok.cab,(λz=>nomatch z),I.ok.frames,I.ok.stk,I.ok.exf,I.ok.bs,I.ok.bsz,I.ok.noex,I.ok.exfs,I.ok.funs,I.ok.frf⟩,I.os,I.bare,I.base,I.loc,I.cell,I.free,I.freeC,I.pin,I.hok,I.len⟩
theorem Sm.uncaught (ok:X.Ok) (I:Sm (X.caught e) pins σ H s):Sm X pins σ H s:=⟨ok,I.os,I.bare,I.base,I.loc,I.cell,I.free,I.freeC,I.pin,I.hok,I.len⟩
theorem Sm.tried (I:Sm X pins σ H s) (R):Sm (X.tried pins R) [] σ H s:=
 ⟨⟨I.ok.mod,I.ok.kind,I.ok.glob,I.ok.blt,I.ok.above,I.ok.inj,I.ok.has,I.ok.cab,I.ok.hd,I.ok.frames,I.ok.stk,I.ok.exf,I.ok.bs,I.ok.bsz,I.ok.noex,I.ok.exfs,I.ok.funs,I.ok.frf⟩,I.os,I.bare,I.base,I.loc,I.cell,I.free,I.freeC,(λp hp=>I.pin p (by rw [ybb] at hp;exact hp)),I.hok,I.len⟩
theorem Sm.untried (I:Sm (X.tried pins R) pins' σ H s):Sm X pins σ H s:=
 ⟨⟨I.ok.mod,I.ok.kind,I.ok.glob,I.ok.blt,I.ok.above,I.ok.inj,I.ok.has,I.ok.cab,I.ok.hd,I.ok.frames,I.ok.stk,I.ok.exf,I.ok.bs,I.ok.bsz,I.ok.noex,I.ok.exfs,I.ok.funs,I.ok.frf⟩,I.os,I.bare,I.base,I.loc,I.cell,I.free,I.freeC,(λp hp=>I.pin p (ycq _ hp)),I.hok,I.len⟩
theorem Sox:Jt8 (X.tried pins R) R:=λpins' σ H s e C dx fr I q hfl hR=>⟨σ,H,e,C,dx,fr,rfl,I.untried,q,hfl.imp id λ⟨oe,vs,T,oT,ts,z1,z2,z3,z4,z5,z6,z7,z8,z9⟩=>⟨oe,vs,T,oT,ts,z1,z2,z3,z4,z5,z6,z7,z8,λp hp=>z9 p (ycq _ hp)⟩,hR⟩
theorem SP.map (hI:∀σ H,Sm X pl σ H s'->Sm Y pm σ H s') (h:SP X pl D f s'):SP Y pm D f s':=by
 cases f with
 |next=>obtain ⟨σ',H',I,q⟩:=h;exact ⟨σ',H',hI _ _ I,q⟩
 |brk=>obtain ⟨σ',H',I,q⟩:=h;exact ⟨σ',H',hI _ _ I,q⟩
 |cont=>obtain ⟨σ',H',I,q⟩:=h;exact ⟨σ',H',hI _ _ I,q⟩
 |ret u=>obtain ⟨v,σ',H',I,r,q⟩:=h;exact ⟨v,σ',H',hI _ _ I,r,q⟩
theorem Yau {i} {n} {pos} {Q} (I:Sm X pins σ H s) (hN:X.N.Nodup) (hi:X.N[i]?=some n) (hk:X.env.scope.names.lookup n=some .local)
  (h:∀s',Sm X pins (σ.set i none) H s'->Q () s'):Sc M A (do bindName X.env n .none;unbindBehindTheSuite X.env n pos) Q E s:=by
 obtain ⟨m,hn,hl⟩:=id I.loc
 have hcls:(X.env.scope.kind== .class||(X.env.scope.kind== .module&&X.env.locals !=X.env.globals))=false:=by rw [I.ok.kind];rfl
 have cne:=I.cne
 refine wpAny_nameGoes_keeps hk hn hcls λh' v hn' sb=>h _ ?_
 have lo:∀b o,X.s₀.heap.get? b=some o->b≠X.env.locals:=λb o z=>yz (yao (yk z) I.ok.above)
 refine ⟨I.ok,I.os,I.bare,⟨λb o z n hb hx=>(sb.2 b (lo b o z)).trans (I.base.keep b o z n hb hx),λb o z n hb hx=>?_,I.base.free,λb o z hx=>?_,I.base.tups,I.base.frzs,I.base.tbls⟩,⟨_,hn',λj y v' e1 e2 e3=>?_⟩,λy c z=>?_,I.free,I.freeC,λp hp=>?_,λb ob z=>?_,by simpa using I.len⟩
 ·obtain ⟨sl,z1⟩:=I.base.slot b o z n hb hx
  exact ⟨sl,(sb.2 b (lo b o z)).trans z1⟩
 ·obtain ⟨o',z1⟩:=I.base.there b o z hx
  exact ⟨o',(sb.2 b (lo b o z)).trans z1⟩
 ·have hj:j≠i:=λz=>by
   subst z
   have:j < σ.length:=by rw [I.len];exact (yi.mp hi).1
   rw [List.getElem?_set_self this] at e2
   cases e2
  rw [List.getElem?_set_ne (yw hj)] at e2
  obtain ⟨u',r',q⟩:=hl j y v' e1 e2 e3
  refine ⟨u',r',?_⟩
  rcases q with ⟨k,z⟩|⟨k,c,z,zz⟩
  ·refine .inl ⟨k,?_⟩
   have:y≠n:=λz=>hj (Juo hN e1 (z▸hi))
   show (if y=n then v else m y)=some u'
   rw [if_neg this];exact z
  ·exact .inr ⟨k,c,z,zz.sameBut sb (cne y c z)⟩
 ·obtain ⟨w',zz⟩:=I.cell y c z
  exact ⟨w',zz.sameBut sb (cne y c z)⟩
 ·obtain ⟨z,n,ne,nf,d⟩:=I.pin p hp
  exact ⟨(sb.2 p.1 ne).trans z,n,ne,nf,d⟩
 ·refine (I.hok b ob z).stay (λc w' hc q=>(sb.2 c ?_).trans q) (λ_ q=>q) (λ_ _ q=>q) λ_ _ q=>q
  rintro rfl
  rcases hc with rfl|hc
  ·rw [I.free] at z;cases z
  ·rw [I.free] at hc;cases hc
end
abbrev TH:=Sc1->St->S2->Option S1->Hp->Prop
def PH (X:Cx) (hs:List ExceptHandler) (th:TH):Prop:=
 ∀(pins:List (S1×Obj)) (s:S3) (σ:St) (H:Hp) (D:Sc1) (e C dx:S1),Sm X pins σ H s->H e=some (XO e C (some dx) false)->Flt X pins H s.heap e .none->th D σ (.ref C) (some e) H->
  Sc (model X.prog X.w) X.A (handleBy (.ref e) X.env hs) (SP X pins D) X.xe s
def Swd:TH:=λ_ _ _ _ _=>False
theorem Sn3:PH X [] Swd:=λ_ _ _ _ _ _ _ _ _ _ _ h=>h.elim
def Sc1.less (D:Sc1) (i:Nat):Sc1:=⟨λσ H=>D.nx (σ.set i none) H,D.rt,λσ H=>D.bk (σ.set i none) H,λσ H=>D.ct (σ.set i none) H⟩
def hAs (K:Sd) (C0:S1) (i:Nat) (ts:S1->TS) (th:TH):TH:=λD σ c eo H=>∃e C b,c= .ref C/\eo=some e/\Sg K C (.ref C0)=some b/\if b=true then ts e (D.less i) (σ.set i (some (.ref e))) H else th D σ c eo H
section
variable {X:Cx} {x n:Str} {np pos:Pos} {C0:S1} {i:Nat} {b₀:Stmt} {suite:List Stmt} {rest:List ExceptHandler} {ts:S1->TS} {th:TH}
theorem Sro (c0:Siy X.K C0) (hm:X.mg x=some (.ref C0)) (hN:X.N.Nodup) (hi:X.N[i]?=some n) (hl:X.env.scope.names.lookup n=some .local) (hsu:∀e,PSs (X.caught e) (b₀::suite) (ts e)) (hr:PH X rest th) (hg:Gl X x:=by rfl)
  (hdb:(x==("__debug__" :Str))=false:=by decide):PH X (.ExceptHandler (some (.Name x np)) (some n) (b₀::suite) pos::rest) (hAs X.K C0 i ts th):=by
 rintro pins s σ H D e C dx I q hfl ⟨e',C',b,hC,he,hmr,h⟩
 cases hC
 cases he
 obtain ⟨o,vs,go,gc,_⟩:=Jvg I.hok q
 refine wpAny_handleBy_cons (codeAny_handlers_test (Jqt (I.caught e) hg hm (Jzj I.kIn c0 go gc hmr ?_) hdb)) (λz=>by cases z)
 cases b with
 |false=>exact hr pins s σ H D e C dx I q hfl h
 |true=>
  refine codeAny_handlers_suite_as (Jsq I q hfl λs1 I1 f1=>Jsg (v:=.ref e) I1 hN hi (.inl hl) rfl (λs2 I2=>wpAny_mono (hsu e pins s2 _ H (D.less i) (I2.caught e) h) (λf s3 hf=>?_) λ_ _ z=>False.elim z) (.inr hl))
  have go:∀{f:Flow} {σ':St} {H':Hp},Sm (X.caught e) pins σ' H' s3->(∀s',Sm X pins (σ'.set i none) H' s'->SP X pins D f s')->Sc (model X.prog X.w) X.A (do bindName X.env n .none;unbindBehindTheSuite X.env n pos) (λ_ s'=>SP X pins D f s') X.xe s3:=
   λ{f σ' H'} I3 k=>Yau (Sm.uncaught I.ok I3) hN hi hl k
  cases f with
  |next=>obtain ⟨σ',H',I3,k⟩:=hf;exact go I3 λs' I'=>⟨_,H',I',k⟩
  |brk=>obtain ⟨σ',H',I3,k⟩:=hf;exact go I3 λs' I'=>⟨_,H',I',k⟩
  |cont=>obtain ⟨σ',H',I3,k⟩:=hf;exact go I3 λs' I'=>⟨_,H',I',k⟩
  |ret u=>obtain ⟨v,σ',H',I3,r,k⟩:=hf;exact go I3 λs' I'=>⟨v,_,H',I',r,k⟩
end
def Sxb (tb:List (S1×Obj)->(St->XK)->TS) (th:TH):TS:=λD σ H=>∀pins,tb pins (λσ' c e H'=>th D σ' c e H') D σ H
theorem Sn6 (hst:Y9 X) (hb:∀pins R,Jt8 (X.tried pins R) R->PSs (X.tried pins R) body (tb pins R)) (hh:PH X (h₀::hs) th):
  PS X (.Try body (h₀::hs) [] [] pos) (Sxb tb th):=by
 intro pins s σ H D I h
 refine wpAny_Try_except (wpAny_mono (hb pins (λσ' c e H'=>th D σ' c e H') Sox [] s σ H D (I.tried _) (h pins)) (λf s1 hf=>?_) λev s1 hx=>?_)
 ·have hf':=hf.map λ_ _ J=>J.untried
  cases f with
  |next=>exact wpAny_execs_nil hf'
  |brk=>exact hf'
  |cont=>exact hf'
  |ret u=>exact hf'
 ·obtain ⟨σ',H',e,C,dx,fr,rfl,I',q,hfl,hR⟩:=hx
  exact Yn I' hst I'.ok.frames q hfl λs2 I2 f2=>Jsq I2 Sn f2 λs3 I3 f3=>hh pins s3 σ' _ D e C dx I3 Sn f3 hR
structure FM (K:Sd) (x qual:Str) (st:Stmt) (ps:List Str) (f:S1) (fd:S8):Prop where
 fn:Fun K x qual st f fd
 bd:Sb2 K fd ps []
structure Sgm (K:Sd) (C:S1):Prop where
 ya:Sf K (.ref C) "__class__" =some (some (.builtin "object.__class__"))
 yb:PySem.W.specialIn K (.builtin "object.__class__") "__get__" =some (some (.builtin "getset_descriptor.__get__"))
 yc:PySem.W.takesIn K (.builtin "object.__class__")=some true
 yd:Sg K C (.type "object")=some true
theorem Sgm.ty {K} {C a dx} {H} {fs} (y:Sgm K C) (c:Cls K C) (e:H a=some (.ins C dx fs)):Jsk K H (.ref a) (.ref C):=.ins e c y.ya y.yb y.yc y.yd
inductive Jp0 (K:Sd) (f:Str) (vs:List V) (H:Hp) (Q:VK) (z3:XK):Prop where
 |mk (e:_) (C:_) (W:_) (fI:_) (y:_) (_:vs= [.ref e,y]) (_:H e=some (XO e C none true)) (_:Sac K C W fI) (_:NoAttr K C f) (_:∀dx,H dx=none->dx≠e->Q .non (upd (upd H dx (XD dx [(f,y)])) e (XO e C (some dx) true)))
theorem Ya8 {K} {C W fI} {f} {y} {H} {Q:VK} (c:Sac K C W fI) (n:NoAttr K C f) (k:∀e dx,H e=none->H dx=none->dx≠e->Q (.ref e) (upd (upd H dx (XD dx [(f,y)])) e (XO e C (some dx) true))):
  [y].length<=1000/\∀e,H e=none->Jp0 K f (.ref e:: [y]) (upd H e (XO e C none true)) (λv H2=>v= .non/\Q (.ref e) H2) E0:=by
 refine ⟨by simp,λe he=>⟨e,C,W,fI,y,rfl,Sn,c,n,λdx h1 h2=>⟨rfl,?_⟩⟩⟩
 have e2:upd (upd (upd H e (XO e C none true)) dx (XD dx [(f,y)])) e (XO e C (some dx) true)=upd (upd H dx (XD dx [(f,y)])) e (XO e C (some dx) true):=by
  funext b
  unfold upd
  split
  ·rfl
  ·split <;> rfl
 rw [e2]
 exact (k e dx he (by rw [Sw h2] at h1;exact h1) h2)
section
variable {X:Cx} {pins:List (S1×Obj)} {σ:St} {H:Hp} {s:S3}
theorem Sm.turnTup {ch:List S1} (I:Sm X pins σ H s) (hch:∀b∈ch,Jsi X pins H b) (k:∀b o,b∉ch->s.heap.get? b=some o->h'.get? b=some o) (hT:s.heap.objs.size<=T)
  (new:Saa X.prog X.w (upd H T (.tup xs)) h' T (.tup xs)):Sm X pins σ (upd H T (.tup xs)) {s with heap:=h',toks:=t'}:=by
 have nb:∀b o,s.heap.get? b=some o->b≠T:=λb o z w'=>absurd (yk z) (by rw [w'];exact ybj.mpr hT)
 have nt:∀b u,H b=some u->b≠T:=λb u z=>Jm1 z (I.hok.fresh hT)
 have nc:∀b u,H b=some u->b∉ch:=λb u z w'=>by rw [(hch b w').1] at z;cases z
 have u:Un (frs X.stack) ch H (upd H T (.tup xs)) s.heap h':=by
  refine ⟨λb o hb n hs hc=>k b o hc hb,λb o hb n _ hc=>⟨o.slots,k b o hc hb⟩,λb o hb n _=>by rw [Sw (nb b o hb)];exact n,λb o hb hc=>⟨o,k b o hc hb⟩,λb ys z=>by rw [Sw (nt b _ z)];exact z,λb o v z=>by rw [Sw (nt b _ z)];exact z,λb ps z=>⟨#[],by rw [Sw (nt b _ z),z];simp⟩⟩
 refine I.call u (λb o z=>?_) I.bare λb hb=>?_
 ·by_cases w':b=T
  ·subst w'
   rw [Sn] at z;cases z
   exact new
  ·rw [Sw w'] at z
   refine (I.hok b o z).stay (λc v hc zz=>k c v ?_ zz) (λc zz=>by rw [Sw (nt c _ zz)];exact zz) (λc ys zz=>by rw [Sw (nt c _ zz)];exact zz) λc ys zz=>by rw [Sw (nt c _ zz)];exact zz
   rcases hc with rfl|hc
   ·exact nc c o z
   ·exact nc c _ hc
 ·obtain ⟨_,h1,_,h3,h4,h5⟩:=hch b hb
  exact ⟨h3,h1,h4,h5⟩
theorem Sm.turnMany {ch:List S1} (I:Sm X pins σ H s) (hch:∀b∈ch,Jsi X pins H b) (k:∀b o,b∉ch->s.heap.get? b=some o->h'.get? b=some o):Sm X pins σ H {s with heap:=h',toks:=t'}:=by
 have nc:∀b u,H b=some u->b∉ch:=λb u z w'=>by rw [(hch b w').1] at z;cases z
 have u:Un (frs X.stack) ch H H s.heap h':=
  ⟨λb o hb n hs hc=>k b o hc hb,λb o hb n _ hc=>⟨o.slots,k b o hc hb⟩,λb o hb n _=>n,λb o hb hc=>⟨o,k b o hc hb⟩,λb ys z=>z,λb o v z=>z,λb ps z=>⟨#[],by rw [z];simp⟩⟩
 refine I.call u (λb o z=>(I.hok b o z).stay (λc v hc zz=>k c v ?_ zz) (λ_ zz=>zz) (λ_ _ zz=>zz) λ_ _ zz=>zz) I.bare λb hb=>?_
 ·rcases hc with rfl|hc
  ·exact nc c o z
  ·exact nc c _ hc
 ·obtain ⟨_,h1,_,h3,h4,h5⟩:=hch b hb
  exact ⟨h3,h1,h4,h5⟩
end
theorem Jz9:bootBuiltins "zip" =some (.type "zip"):=by decide +kernel
section
variable {X:Cx} {pins:List (S1×Obj)} {σ:St} {H:Hp} {s:S3}
inductive TyX (K:Sd) (H:Hp):V->S2->Prop where
 |of {x:V} {t:S2}:Jsk K H x t->TyX K H x t
 |exc {e C W fI dx:S1} {fs:List (Str×V)} {fr:Bool}:H e=some (XO e C (some dx) fr)->H dx=some (XD dx fs)->Sac K C W fI->TyX K H (.ref e) (.ref C)
theorem TyX.kit (I:Sm X pins σ H s) (rx:RelV x u) (ty:TyX X.K H x t):u≠ .builtin "__main__.__loader__#opaque" /\∃Hh,PySem.W.KitX X.K u t Hh/\Hh s.heap:=by
 cases ty with
 |exc q qd c=>
  obtain rfl:u=Value.ref _:=rx
  obtain ⟨ox,oD,mA,J,_,_⟩:=Yu I.hok q qd
  exact ⟨(λz=>nomatch z),_,Sxf c,ox,oD,J⟩
 |of ty=>
  cases ty with
  |non=>cases (rx);exact ⟨(λz=>nomatch z),_,PySem.W.kitx_none,trivial⟩
  |bl y=>cases (rx);exact ⟨(λz=>nomatch z),_,PySem.W.kitx_bool,trivial⟩
  |int i=>obtain ⟨t,q⟩:=(show ∃t,u=Value.int i t from rx);cases q;exact ⟨(λz=>nomatch z),_,PySem.W.kitx_int,trivial⟩
  |str y=>obtain ⟨t,q⟩:=(show ∃t,u=Value.str y t from rx);cases q;exact ⟨(λz=>nomatch z),_,PySem.W.kitx_str,trivial⟩
  |flt y=>obtain ⟨t,q⟩:=(show ∃t,u=Value.float y t from rx);cases q;exact ⟨(λz=>nomatch z),_,PySem.W.kitx_float,trivial⟩
  | @lst a xs ea=>
   cases (rx)
   obtain ⟨_,_,n,_,h1⟩:=(I.hok a _ ea)
   exact ⟨(λz=>nomatch z),_,PySem.W.kitx_list,_,h1,rfl⟩
  | @frz a ob xs ea=>
   cases (rx)
   obtain ⟨_,_,_,n,_,h1⟩:=(I.hok a _ ea)
   exact ⟨(λz=>nomatch z),_,PySem.W.kitx_list,_,h1,rfl⟩
  | @tup a xs ea=>
   cases (rx)
   obtain ⟨_,_,_,o,h1,h2,_⟩:=(I.hok a _ ea)
   exact ⟨(λz=>nomatch z),_,PySem.W.kitx_tuple,o,h1,h2⟩
  | @dK a kvs ea=>
   cases (rx)
   obtain ⟨_,_,vs,_,o,es,ep,h1,h2,_⟩:=(I.hok a _ ea)
   exact ⟨(λz=>nomatch z),_,PySem.W.kitx_dict,o,h1,h2.1⟩
  | @dT a kvs ea=>
   cases (rx)
   obtain ⟨_,_,xs,_,o,es,ep,h1,h2,_⟩:=(I.hok a _ ea)
   exact ⟨(λz=>nomatch z),_,PySem.W.kitx_dict,o,h1,h2.1⟩
  | @ins a C dx fs ea cl ha hn htk hm=>
   cases (rx)
   obtain ⟨mA,O,_⟩:=Ju1 I.hok ea
   obtain ⟨od,J,_⟩:=O.look
   exact ⟨(λz=>nomatch z),_,PySem.W.kitx_own (cl.get _) cl.hd ha hn htk hm,J⟩
inductive Srs (K:Sd) (xs:List V) (H:Hp) (Q:VK):Prop where
 |mk (x:_) (c:_) (u:_) (t:_) (b:_) (_:xs= [x,c]) (_:Sm7 c=some u) (_:TyX K H x t) (_:Se K t u=some b) (_:Q (.bl b) H)
theorem Jo8:Jnr X (.builtin "isinstance") (Srs X.K):=by
 rintro pins s σ H vs us Q I r ⟨x,c,u,t,b,rfl,hc,ty,ek,k⟩
 obtain ⟨v,w',rfl,r1,r2⟩:=Jz1 r
 have e2:w'=u:=by
  cases c with
  |ty n=>cases hc;cases r2;rfl
  |ref a=>cases hc;cases r2;rfl
  |_=>cases hc
 subst e2
 obtain ⟨hx,Hh,Z,p⟩:=ty.kit I r1
 exact PySem.W.kia_one Z I.kIn p ek hx λtk=>⟨.bl b,H,I.tok _,rfl,k⟩
theorem Jy5:∀{cs} {us ws},cs.mapM Sm7=some us->Sv cs ws->ws=us
 | [],us,_,e,.nil=>by cases e;rfl
 |c::cs,us,_,e,.cons r t=>by
  rw [List.mapM_cons] at e
  simp only [Option.bind_eq_bind,Option.bind_eq_some_iff,Option.pure_def,yt.injEq] at e
  obtain ⟨u,hu,us',hus,rfl⟩:=e
  rw [Jy5 hus t]
  cases c with
  |ty n=>cases hu;cases r;rfl
  |ref a=>cases hu;cases r;rfl
  |_=>cases hu
inductive Swr (K:Sd) (xs:List V) (H:Hp) (Q:VK):Prop where
 |mk (x:_) (p:_) (cs:_) (us:_) (t:_) (b:_) (_:xs= [x,.ref p]) (_:H p=some (.tup cs)) (_:cs.mapM Sm7=some us) (_:TyX K H x t) (_:PySem.W.kitAny K t us=some b) (_:Q (.bl b) H)
theorem Jud:Jnr X (.builtin "isinstance") (Swr X.K):=by
 rintro pins s σ H vs us Q I r ⟨x,p,cs,us',t,b,rfl,hp,hc,ty,ek,k⟩
 obtain ⟨v,w',rfl,r1,r2⟩:=Jz1 r
 obtain rfl:w'=Value.ref p:=r2
 obtain ⟨hx,Hh,Z,q⟩:=ty.kit I r1
 obtain ⟨_,its,rv,o,h1,h2,n,h3⟩:=(I.hok p _ hp)
 have e:=Jy5 hc rv
 subst e
 obtain ⟨oc,odi,oda,osl⟩:=o
 subst h2 h3
 exact PySem.W.kia_tup Z I.kIn q h1 ek hx λtk=>⟨.bl b,H,I.tok _,rfl,k⟩
def Swf (K:Sd) (tl:TE):TI:=λσ H R=>tl σ H λx H1=>∃a,x= .ref a/\(((∃xs,Ss K H1 a xs)/\R (Itl K a) H1)\/((∃xs,Sy K H1 a xs)/\R (Itt K a) H1))
theorem Sn4 (hl:PE X l tl):PI X tg l (Swf X.K tl):=by
 intro pins s σ H R I h
 refine thn (hl pins s σ H _ I h) λv s1 zq=>?_
 obtain ⟨x,H1,I1,r1,a,e,q1⟩:=zq
 subst e
 cases r1
 have fin:∀{J:It} {tn:Nat->Sb->Prop} {o:Obj},Turn X.prog X.w X.K tg J [s1.heap.objs.size] s1.heap.objs.size tn->tn 0 (s1.heap.push o)->R J H1->PIE X pins σ tg R (.ref s1.heap.objs.size) {s1 with heap:=s1.heap.push o}:=λ{J tn o} T st q=>by
  refine ⟨s1.heap.objs.size,[s1.heap.objs.size],tn,J,H1,rfl,I1.kept λb o e=>ym _ e,T,st,λb hb=>?_,q⟩
  have e:=by simpa using hb
  subst e
  exact I1.fpOk (yg _) (I1.hok.fresh (yg _))
 rcases q1 with ⟨⟨xs,hq⟩,q⟩|⟨⟨xs,hq⟩,q⟩
 ·obtain ⟨its,rv,p,hz⟩:=I1.list hq
  exact wpAny_pyIter_list p.isList (fin (Jwp a _) ⟨_,yx _ rfl,rfl,rfl⟩ q)
 ·obtain ⟨its,rv,p,hz⟩:=I1.tuple hq
  exact wpAny_pyIter_tuple (p) (fin (Jvc a _) ⟨_,yx _ rfl,rfl,rfl⟩ q)
end
def Jxr (P:S7) (w:S9) (K:Sd) (mg:Str->Option S2) (base:Sb) (j:Nat) (m:Str) (ta:TE) (t:TA):TE:=λσ H Q=>ta σ H λx H1=>∃a C dx fs f fd ps sp k,x= .ref a/\H1 a=some (.ins C dx fs)/\fs.lookup m=none/\Cls K C/\Joc K C m f/\So P w K mg base CX0 k f fd ps sp/\k<=j/\Sb2 K fd ps []/\
 t σ H1 λvs H2=>sp (x::vs) H2 Q E0
section
variable {X:Cx} {j:Nat} {m:Str} {apos pos:Pos} {e o:Expr} {es:List Expr} {ta:TE} {t:TA} {R:St->XK}
theorem Js8 {pl} (he:PE X o ta) (hr:San j X.A) (ha:PA X (e::es) t)
  (hst:starEach (e::es) X.env=(false,eval e X.env)::starEach es X.env:=by rfl) (hpl:(backTo pos (starEach es X.env)).any (·.1)=false:=by rfl)
  (ht:eval (.Call (.Attribute o m apos) (e::es) [] pos) X.env=(do
   let ov<-eval o X.env
   standAt apos.atName
   let (f,first)<-holding [ov] (getMethod ov m pl)
   callWith pos f first (backTo pos (starEach (e::es) X.env)) (backToKw pos (keywordEach [] X.env))):=by rfl):
  PE X (.Call (.Attribute o m apos) (e::es) [] pos) (Jxr X.prog X.w X.K X.mg X.base j m ta t):=by
 intro pins s σ H Q I h
 refine PySem.W.methodCall_KW (thn (he pins s σ H _ I h) λu s1 zq=>?_) ht
 obtain ⟨x,H1,I1,rx,a,C,dx,fs,f,fd,ps,sp,k,ex,ea,l,c,hm,G,hk,hb,q⟩:=zq
 subst ex
 obtain rfl:u=Value.ref a:=rx
 exact Jos I1 ea c hm l (PySem.W.callWith_K I.ok.mod.kin hm.kp (thn (ha pos pins s1 σ H1 _ I1 q) λus s2 ⟨vs,H2,I2,r,q2⟩=>⟨I2.kIn,Jv6 (vs:=.ref a::vs) G (hr.mono hk) hb .nil Job I2 (.cons rfl r) (by rw [ybb];exact q2)⟩) hst hpl)
theorem Jqv (he:PE X o ta) (hr:San j X.A)
  (ht:eval (.Call (.Attribute o m apos) [] [] pos) X.env=(do
   let ov<-eval o X.env
   standAt apos.atName
   let (f,first)<-holding [ov] (getMethod ov m pl)
   callWith pos f first (backTo pos (starEach [] X.env)) (backToKw pos (keywordEach [] X.env))):=by rfl):
  PE X (.Call (.Attribute o m apos) [] [] pos) (Jxr X.prog X.w X.K X.mg X.base j m ta Jvt):=by
 intro pins s σ H Q I h
 refine PySem.W.methodCall_KW (thn (he pins s σ H _ I h) λu s1 zq=>?_) ht
 obtain ⟨x,H1,I1,rx,a,C,dx,fs,f,fd,ps,sp,k,ex,ea,l,c,hm,G,hk,hb,q⟩:=zq
 subst ex
 obtain rfl:u=Value.ref a:=rx
 exact Jos I1 ea c hm l (PySem.W.callWith_K0 I1.kIn hm.kp (Jv6 (vs:=[.ref a]) G (hr.mono hk) hb .nil Job I1 (.cons rfl .nil) q))
end
theorem Jmn (h:n<=2000):n < S6:=Nat.lt_of_le_of_lt h (by decide)
theorem Jmw (n) (h:n<=2000):n<=S6:=ycd (Jmn h)
def tpB (t:S2):Bool:=[Value.type "bool",.type "str",.type "NoneType",.type "list",.type "tuple",.type "dict"].contains t
def Tm (K:Sd) (H:Hp) (x:V):Prop:=(∃i:Int,x= .int i)\/∃t,TyX K H x t/\tpB t=true
def Jmm:V->Int->Int->Bool
 | .int i,lo,hi=>decide (lo<=i)&&decide (i<=hi)
 |_,_,_=>false
theorem Sol {K} (h:tpB t=true):Se K t (.type "int")=some (t== .type "bool")/\Se K t (.type "bool")=some (t== .type "bool"):=by
 unfold tpB at h
 simp only [List.contains_cons,List.contains_nil,Bool.or_false,Bool.or_eq_true,beq_iff_eq] at h
 rcases h with rfl|rfl|rfl|rfl|rfl|rfl <;> exact ⟨rfl,rfl⟩
theorem Ye2 {K} (ty:TyX K H x t) (h:tpB t=true):∀lo hi,Jmm x lo hi=false:=by
 intro lo hi
 cases ty with
 |exc=>rfl
 |of ty=>
  cases ty <;> first|rfl|(exfalso;revert h;decide)
inductive Yf5 (K:Sd) (vs:List V) (H:Hp) (Q:VK) (z3:XK):Prop where
 |mk (x:V) (lo hi:Int) (_:vs= [x,.int lo,.int hi]) (_:Tm K H x) (_:Q (.bl (Jmm x lo hi)) H)
theorem TyX.same {K} (s:∀b o,x= .ref b->H b=some o->H' b=some o) (sx:∀b fs,H b=some (XD b fs)->H' b=some (XD b fs)) (ty:TyX K H x t):TyX K H' x t:=by
 cases ty with
 |exc q qd c=>exact .exc (s _ _ rfl q) (sx _ _ qd) c
 |of ty=>
  refine .of ?_
  cases ty with
  |non=>exact .non
  |bl b=>exact .bl b
  |int i=>exact .int i
  |str z=>exact .str z
  |flt z=>exact .flt z
  |lst e=>exact .lst (s _ _ rfl e)
  |frz e=>exact .frz (s _ _ rfl e)
  |tup e=>exact .tup (s _ _ rfl e)
  |dK e=>exact .dK (s _ _ rfl e)
  |dT e=>exact .dT (s _ _ rfl e)
  |ins e a b c d f=>exact .ins (s _ _ rfl e) a b c d f
theorem Tm.same {K} (s:Si H H') (h:Tm K H x):Tm K H' x:=by
 rcases h with h|⟨t,ty,e⟩
 ·exact .inl h
 ·exact .inr ⟨t,ty.same (λb o _ q=>s b o q) (λb fs q=>s b _ q),e⟩
theorem Ydr {K} {q} {xs} {g:TG} {tb:TS} {D:Sc1} {σ} {H} (Pv:Nat->St->Hp->Prop) (h0:Pv 0 σ H) (hl:(∀i σ H,i<=xs.length->Pv i σ H->Ss K H q xs)\/(∀i σ H,i<=xs.length->Pv i σ H->Sy K H q xs))
  (hs:∀i x σ H,xs[i]?=some x->Pv i σ H->g x σ H λσ2 H2=>tb {D with nx:=Pv (i+1),ct:=Pv (i+1),bk:=D.nx} σ2 H2) (hd:∀σ H,Pv xs.length σ H->D.nx σ H):
  ((∃xs,Ss K H q xs)/\∃W:Nat->Nat->St->Hp->Prop,(∃m,W 0 m σ H)/\∀i m σ H,W i m σ H->
   ((Itl K q).stop i H/\D.nx σ H)\/((Itl K q).go i H/\∃N:St->Hp->Prop,(∀σ' H',N σ' H'->∃m',m' < m/\W (i+1) m' σ' H')/\∀x H',(Itl K q).yld i H x H'->g x σ H' λσ2 H2=>tb {D with nx:=N,ct:=N,bk:=D.nx} σ2 H2))\/
  ((∃xs,Sy K H q xs)/\∃W:Nat->Nat->St->Hp->Prop,(∃m,W 0 m σ H)/\∀i m σ H,W i m σ H->
   ((Itt K q).stop i H/\D.nx σ H)\/((Itt K q).go i H/\∃N:St->Hp->Prop,(∀σ' H',N σ' H'->∃m',m' < m/\W (i+1) m' σ' H')/\∀x H',(Itt K q).yld i H x H'->g x σ H' λσ2 H2=>tb {D with nx:=N,ct:=N,bk:=D.nx} σ2 H2)):=by
 rcases hl with hl|hl
 ·exact .inl ⟨⟨xs,hl 0 σ H (yai _) h0⟩,Jno Pv h0 hl hs hd⟩
 ·exact .inr ⟨⟨xs,hl 0 σ H (yai _) h0⟩,Ju0 Pv h0 hl hs hd⟩
theorem Jny {K} {R} {C W fI} {f} {i} {y} {σ} {H} {D} (c:Sac K C W fI) (n:NoAttr K C f) (hi:σ[i]?=some (some y))
  (k:∀e dx,H e=none->H dx=none->dx≠e->R σ (.ref C) (some e) (upd (upd (upd H dx (XD dx [(f,y)])) e (XO e C (some dx) true)) e (XO e C (some dx) false))):Yct K R (Ssg C (Jp0 K f) (Jn8 (Sjt i) Jvt)) D σ H:=⟨y,hi,Ya8 (Q:=λv H1=>∃e C W fI dx,v= .ref e/\H1 e=some (XO e C (some dx) true)/\Sac K C W fI/\R σ (.ref C) (some e) (upd H1 e (XO e C (some dx) false))) c n λe dx h1 h2 h3=>⟨e,C,W,fI,dx,rfl,Sn,c,k e dx h1 h2 h3⟩⟩
theorem Jzf {A:Prop} [Decidable c] (hc:c) (h:A):if decide c=true then A else B:=by grind
theorem Jyc {A:Prop} [Decidable c] (hc:¬c) (h:B):if decide c=true then A else B:=by grind
def Jmz:Expr->Bool
 | .Starred _ _=>true
 |_=>false
theorem Yao (e) (es) (env) (h:Jmz e=false):starEach (e::es) env=(false,eval e env)::starEach es env:=by
 cases e <;> first|rfl|cases h
theorem Joe (ha:PE X e te) (hr:PA X es t) (hs:Jmz e=false:=by rfl):PA X (e::es) (Jn8 te t):=Sj ha hr (Yao e es X.env hs)
theorem pa4 (h0:PE X e0 t0) (h1:PE X e1 t1) (h2:PE X e2 t2) (h3:PE X e3 t3) (s0:Jmz e0=false:=by rfl) (s1:Jmz e1=false:=by rfl) (s2:Jmz e2=false:=by rfl) (s3:Jmz e3=false:=by rfl):PA X [e0,e1,e2,e3] (Jn8 t0 (Jn8 t1 (Jn8 t2 (Jn8 t3 (Jvt))))):=Joe h0 (Joe h1 (Joe h2 (Joe h3 (Sl) s3) s2) s1) s0
theorem pa6 (h0:PE X e0 t0) (h1:PE X e1 t1) (h2:PE X e2 t2) (h3:PE X e3 t3) (h4:PE X e4 t4) (h5:PE X e5 t5) (s0:Jmz e0=false:=by rfl) (s1:Jmz e1=false:=by rfl) (s2:Jmz e2=false:=by rfl) (s3:Jmz e3=false:=by rfl) (s4:Jmz e4=false:=by rfl) (s5:Jmz e5=false:=by rfl):PA X [e0,e1,e2,e3,e4,e5] (Jn8 t0 (Jn8 t1 (Jn8 t2 (Jn8 t3 (Jn8 t4 (Jn8 t5 (Jvt))))))):=Joe h0 (Joe h1 (Joe h2 (Joe h3 (Joe h4 (Joe h5 (Sl) s5) s4) s3) s2) s1) s0
theorem pa8 (h0:PE X e0 t0) (h1:PE X e1 t1) (h2:PE X e2 t2) (h3:PE X e3 t3) (h4:PE X e4 t4) (h5:PE X e5 t5) (h6:PE X e6 t6) (h7:PE X e7 t7) (s0:Jmz e0=false:=by rfl) (s1:Jmz e1=false:=by rfl) (s2:Jmz e2=false:=by rfl) (s3:Jmz e3=false:=by rfl) (s4:Jmz e4=false:=by rfl) (s5:Jmz e5=false:=by rfl) (s6:Jmz e6=false:=by rfl) (s7:Jmz e7=false:=by rfl):PA X [e0,e1,e2,e3,e4,e5,e6,e7] (Jn8 t0 (Jn8 t1 (Jn8 t2 (Jn8 t3 (Jn8 t4 (Jn8 t5 (Jn8 t6 (Jn8 t7 (Jvt))))))))):=Joe h0 (Joe h1 (Joe h2 (Joe h3 (Joe h4 (Joe h5 (Joe h6 (Joe h7 (Sl) s7) s6) s5) s4) s3) s2) s1) s0
theorem pa9 (h0:PE X e0 t0) (h1:PE X e1 t1) (h2:PE X e2 t2) (h3:PE X e3 t3) (h4:PE X e4 t4) (h5:PE X e5 t5) (h6:PE X e6 t6) (h7:PE X e7 t7) (h8:PE X e8 t8) (s0:Jmz e0=false:=by rfl) (s1:Jmz e1=false:=by rfl) (s2:Jmz e2=false:=by rfl) (s3:Jmz e3=false:=by rfl) (s4:Jmz e4=false:=by rfl) (s5:Jmz e5=false:=by rfl) (s6:Jmz e6=false:=by rfl) (s7:Jmz e7=false:=by rfl) (s8:Jmz e8=false:=by rfl):PA X [e0,e1,e2,e3,e4,e5,e6,e7,e8] (Jn8 t0 (Jn8 t1 (Jn8 t2 (Jn8 t3 (Jn8 t4 (Jn8 t5 (Jn8 t6 (Jn8 t7 (Jn8 t8 (Jvt)))))))))):=Joe h0 (Joe h1 (Joe h2 (Joe h3 (Joe h4 (Joe h5 (Joe h6 (Joe h7 (Joe h8 (Sl) s8) s7) s6) s5) s4) s3) s2) s1) s0
end L2
namespace L2
open PySem PySem.Spec PyProof.Rows PySem.W
section
variable {X:Cx}
theorem Yj {K} (h:X.K=K):IxR X (Srt K):=by subst h;exact Jmh
theorem Jw2 {K} (h:X.K=K):Jnr X (.builtin "isinstance") (Srs K):=by subst h;exact Jo8
end
section
variable {prog:S7} {w:S9} {A:Sa} {E:S2->S3->Prop} {s:S3}
end
section
variable {X:Cx} {pos:Pos}
end
section
variable {P:S7} {w:S9} {K:Sd} {mg:Str->Option S2} {base:Sb}
end
section
variable {X:Cx} {x:Str} {st:Stmt} {ps:List Str} {f:S1} {fd:S8} {sp:Sp} {k j:Nat} {p pos:Pos} {e:Expr} {es:List Expr} {t:TA} {er:S1}
end
def stU (acc:List Str) (z:Str):List Str:=if acc.contains z=true then acc else acc++ [z]
def uq (zs:List Str):List Str:=zs.foldl stU []
def inU (zs:List Str):Key->Bool
 | .inl _=>false
 | .inr z=>(uq zs).contains z
theorem Yr (zs) (z):uq (zs++ [z])=stU (uq zs) z:=by unfold uq;rw [ybx];rfl
theorem Sor (zs):(uq zs).length<=zs.length:=by
 have h:∀(l acc:List Str),(l.foldl stU acc).length<=acc.length+l.length:=by
  intro l
  induction l with
  |nil=>intro acc;simp
  |cons z r ih=>
   intro acc
   rw [List.foldl_cons]
   have h1:=ih (stU acc z)
   have h2:(stU acc z).length<=acc.length+1:=by unfold stU;split <;> simp
   rw [yaf]
   omega
 simpa [uq] using h zs []
theorem Jz0 (h:zs.Nodup):uq zs=zs:=by
 have g:∀(l acc:List Str),(acc++l).Nodup->l.foldl stU acc=acc++l:=by
  intro l
  induction l with
  |nil=>intro acc _;simp
  |cons z r ih=>
   intro acc hn
   rw [List.foldl_cons]
   have hz:acc.contains z=false:=by
    cases e:acc.contains z with
    |false=>rfl
    |true=>
     exact absurd rfl ((List.nodup_append.mp hn).2.2 z (List.contains_iff_mem.mp e) z yah)
   have e:stU acc z=acc++ [z]:=by unfold stU;rw [hz];rfl
   rw [e,ih (acc++ [z]) (by simpa using hn)]
   simp
 simpa [uq] using g zs [] (by simpa using h)
theorem Ybp (zs) (z) (k):inU (zs++ [z]) k=(inU zs k||decide (k= .inr z)):=by
 cases k with
 |inl i=>simp [inU]
 |inr y=>
  show (uq (zs++ [z])).contains y=((uq zs).contains y||decide ((.inr y:Key)= .inr z))
  rw [Yr]
  unfold stU
  split
  ·rename_i hc
   by_cases h:y=z
   ·subst h;rw [hc];simp
   ·simp [h]
  ·rw [Bool.eq_iff_iff]
   simp [List.contains_iff_mem]
theorem Yfg (zs) (z):(uq (zs++ [z])).length=if inU zs (.inr z)=true then (uq zs).length else (uq zs).length+1:=by
 rw [Yr]
 show (stU (uq zs) z).length=if (uq zs).contains z=true then _ else _
 unfold stU
 split <;> simp
section
variable {prog:S7} {w:S9} {A:Sa} {R:Result->S3->Prop} {I:S1} {fp wr:List S1} {n:Nat} {P:Nat->S2->Prop} {St:Nat->Sb->Prop}
theorem Jse {h h':Sb} (hS:h.SetOf (Jmo prog w) a S m) (k:∀o,h.get? a=some o->h'.get? a=some o) (e:∀x,S x=T x) (en:m=m'):h'.SetOf (Jmo prog w) a T m':=by
 obtain rfl:S=T:=funext e
 subst en
 obtain ⟨o,es,ep,t,ho,rest⟩:=hS
 exact ⟨o,es,ep,t,k o ho,rest⟩
theorem Y5 (W:Walks prog w A.in1 I fp wr n P St) (S) (hSf:S∉fp) (zs) (hn:zs.length=n) (hP:∀i v,P i v->∃z t,zs[i]?=some z/\v= .str z t) (hb:n+1 < scanBound):
  ∀k i s,n - i=k->i<=n->St i s.heap->s.heap.SetOf (Jmo prog w) S (inU (zs.take i)) (uq (zs.take i)).length->
   (∀h' tk,(∀b o,b≠S->b∉wr->s.heap.get? b=some o->h'.get? b=some o)->h'.SetOf (Jmo prog w) S (inU zs) (uq zs).length->R (.ok (.ret .none)) {s with heap:=h',toks:=tk})->
   codeAny (model prog w) A (.builtin "set.update.loop" ⟨[.ref S,.ref I],[]⟩) R s:=by
 have hSw:=λh=>hSf (W.sub _ h)
 intro k
 induction k with
 |zero=>
  intro i s hk hi hst hS hR
  obtain rfl:i=n:=by omega
  refine codeAny_builtin PyProof.Rows.F.entry_set_update_loop ?_
  refine S4 (W.done s _ _ hst λh' tk km=>?_)
  refine S5 (hR h' tk (λb o _ nb e=>km b o nb e) (Jse hS (λo e=>km S o hSw e) (λx=>?_) ?_))
  ·rw [yae (by omega)]
  ·rw [yae (by omega)]
 |succ k ih=>
  intro i s hk hi hst hS hR
  have hlt:i < n:=by omega
  refine codeAny_builtin PyProof.Rows.F.entry_set_update_loop ?_
  refine S4 (W.item i s _ _ hlt hst λv h1 tk hv hst1 km=>?_)
  obtain ⟨z,t,hz,rfl⟩:=hP i v hv
  have et:zs.take (i+1)=zs.take i++ [z]:=by rw [yy,hz];rfl
  have room:(uq (zs.take i)).length+1 < scanBound:=by
   have h1:=Sor (zs.take i)
   rw [yad] at h1
   omega
  refine S4 (wpAny_holding ?_)
  refine wpAny_holding (S4 ((Jmo prog w).pyHash (Jq5 _ _ _ _) ?_))
  refine wpAny_setAddHashed_of (Jq5 _ _ _ _) rfl (Jse hS (λo e=>km S o hSw e) (λ_=>rfl) rfl) room λh2 sb hS2=>S5 ⟨plainId_quiet PyProof.Rows.F.plain_set_update_loop _,ih (i+1) _ (by omega) hlt (W.frame _ _ _ hst1 λb hbf o e=>?_) (Jse hS2 (λo e=>e) (λx=>?_) ?_) λh3 tk3 k3 hS3=>?_⟩
  ·show h2.get? b=some o
   rw [sb.2 b (λq=>hSf (by rw [<-q];exact hbf))]
   exact e
  ·rw [et,Ybp]
  ·rw [et,Yfg]
  ·exact hR h3 tk3 (λb o nS nw e=>k3 b o nS nw (by show h2.get? b=some o;rw [sb.2 b nS];exact km b o nw e)) hS3
end
section
variable {prog:S7} {w:S9} {A:Sa} {E:S2->S3->Prop} {s:S3}
set_option maxRecDepth 100000 in
set_option maxHeartbeats 3200000 in
theorem Yak {l:S1} {items:Array S2} {zs:List Str} {Q:S2->S3->Prop} (hh:A.handled=none) (hl:s.heap.IsList l items) (hz:zs.length=items.size) (hi:∀(i:Nat) (v:S2),items[i]?=some v->∃z t,zs[i]?=some z/\v= .str z t) (hb:items.size+1 < scanBound)
  (h:∀(h':Sb) (tk:Nat),h'.SetOf (Jmo prog w) s.heap.objs.size (inU zs) (uq zs).length->(∀b o,s.heap.get? b=some o->h'.get? b=some o)->Q (.ref s.heap.objs.size) {s with heap:=h',toks:=tk}):Sc (model prog w) A (call (.type "set") [.ref l]) Q E s:=by
 obtain ⟨cc,tl,hmro⟩:=F.called_set.mro
 have hmade:=F.called_set.made
 have hsub:=F.called_set.sub
 refine wpAny_call (codeAny_of_tree ?_)
 show Sc _ _ (callAny (.type "set") _) _ _ _
 refine S5 ⟨Code.quiet_builtin _ (by decide +kernel),codeAny_builtin F.entry_type_call ?_⟩
 rw [Around.under_plain (weight_type_call_type "set" [.ref l] []) rfl]
 have g1:=F.called_set.notType
 have g2:=F.called_set.canCreate
 have g3:=F.typeCall_set_1 (.ref l)
 repeat (any_goals (first|assumption|wp_step))
 refine codeAny_mono (code_set_new_1 (.ref l) (E:=E) (Q₁:=λobj s1=>∃led:Bool,obj= .ref s.heap.objs.size/\s1={s with heap:=s.heap.push {cls:=.type "set",dict:=none,data:=.set #[] 0 (.fresh 0 0 led)}}) λled=>⟨led,rfl,rfl⟩) λr s1 hr=>?_
 cases r with
 |error e=>exact hr
 |ok fl=>
  cases fl with
  |ret obj=>
   obtain ⟨led,rfl,rfl⟩:=hr
   have hS:(s.heap.push {cls:=.type "set",dict:=none,data:=.set #[] 0 (.fresh 0 0 led)}).get? s.heap.objs.size=some {cls:=.type "set",dict:=none,data:=.set #[] 0 (.fresh 0 0 led)}:=yx _ rfl
   have hT:Shared.TypeIs {s with heap:=s.heap.push {cls:=.type "set",dict:=none,data:=.set #[] 0 (.fresh 0 0 led)}} (.ref s.heap.objs.size) "set" :=⟨_,hS,rfl⟩
   have g4:=F.called_set.init.lookup
   have g5:=F.called_set.init.bind (.ref s.heap.objs.size)
   repeat (any_goals (first|assumption|wp_step))
   refine codeAny_mono (codeAny_call_builtin (R:=wants (λr s2=>r= .none/\∃h' tk,s2={s with heap:=h',toks:=tk}/\h'.SetOf (Jmo prog w) s.heap.objs.size (inU zs) (uq zs).length/\(∀b o,s.heap.get? b=some o->h'.get? b=some o)) E) F.called_set.init.plain F.entry_set_init (check_set_init_1 hT ?_)) λr2 s2 hr2=>?_
   ·obtain ⟨⟨oc,od,oda,osl⟩,hol,hcl,nl,hdl⟩:=hl
    simp only at hcl hdl
    subst hcl hdl
    have hol':(s.heap.push {cls:=.type "set",dict:=none,data:=.set #[] 0 (.fresh 0 0 led)}).get? l=some {cls:=.type "list",dict:=od,data:=.seq items nl,slots:=osl}:=ym _ hol
    have g6:=F.sub_list_set
    have g7:=F.sub_list_frozenset
    have g8:(Value.type "list" ==Value.type "dict")=false:=by decide
    have hl1:(s.heap.push {cls:=.type "set",dict:=none,data:=.set #[] 0 (.fresh 0 0 led)}).IsList l items:=⟨_,hol',rfl,nl,rfl⟩
    unfold Builtin.«set.__init__» noKeywords Builtin.Frozenset.updateFrom
    generalize hPI:pyIter=PI
    wp_walk
    subst hPI
    refine wpAny_pyIter_list hl1 (S4 (wpAny_runValue ?_))
    have lS:l < s.heap.objs.size:=yk hol
    have h3:A.in1.in1.in1.handled=none:=by simp [hh]
    have nI:l≠(s.heap.push {cls:=.type "set",dict:=none,data:=.set #[] 0 (.fresh 0 0 led)}).objs.size:=by rw [yas];exact yz (ycj lS)
    have nS:s.heap.objs.size∉ [(s.heap.push {cls:=.type "set",dict:=none,data:=.set #[] 0 (.fresh 0 0 led)}).objs.size,l]:=by
     rw [yas]
     simp only [yp,yaw,or_false,not_or]
     exact ⟨yz (yce _),ybr lS⟩
    refine Y5 (Walks.list h3 _ l nI items) s.heap.objs.size nS zs hz hi hb (items.size - 0) 0 _ (by omega) (yai _) ⟨⟨_,yx _ rfl,rfl,rfl⟩,hl1.push _⟩ ?S0 ?R0
    case S0=>
     have q:((s.heap.push {cls:=.type "set",dict:=none,data:=.set #[] 0 (.fresh 0 0 led)}).push {cls:=.type "list_iterator",data:=.fields #[.ref l,.int 0 0]}).get? s.heap.objs.size=some {cls:=.type "set",dict:=none,data:=.set #[] 0 (.fresh 0 0 led)}:=ym _ hS
     refine ⟨_,#[],0,_,q,⟨rfl,rfl,rfl⟩,rfl,λe he=>by simp at he,λx=>?_,by decide,by rfl,rfl⟩
     cases x <;> simp [inU,uq]
    case R0=>
    intro h' tk km hS'
    show Sc _ _ _ _ _ _
    refine S5 ?_
    show Sc _ _ (ret Value.none) _ _ _
    refine S5 ⟨rfl,h',tk,rfl,hS',λb o e=>?_⟩
    have lb:b < s.heap.objs.size:=yk e
    refine km b o (yz lb) ?_ (ym _ (ym _ e))
    rw [yas]
    simp only [yp,yaw,or_false]
    exact yz (ycj lb)
   ·cases r2 with
    |error e=>exact hr2
    |ok fl2=>
     cases fl2 with
     |ret r=>
      obtain ⟨rfl,h',tk,rfl,hS',hk'⟩:=hr2
      repeat (any_goals (first|assumption|wp_step))
      exact h _ _ hS' hk'
     |_=>exact hr2.elim
  |_=>exact hr.elim
end
def TxS (P:S7) (w:S9) (a:S1) (zs:List Str):HO:=.ext λh=>h.SetOf (Jmo P w) a (inU zs) (uq zs).length
theorem Soo (hS:h.SetOf (Jmo P w) a (inU zs) (uq zs).length):Saa P w H h a (TxS P w a zs):=
 ⟨hS,(let ⟨o,_,_,_,ho,_⟩:=hS;⟨o,ho⟩),λ_ _ p k=>Jse p k (λ_=>rfl) rfl⟩
section
variable {X:Cx}
theorem Juf (hc:X.calm=true):Jnr X (.type "set") (λxs H Q=>∃(l:S1) (zs:List Str),xs= [.ref l]/\Ss X.K H l (zs.map V.str)/\zs.length<=2000/\∀a,H a=none->Q (.ref a) (upd H a (TxS X.prog X.w a zs))):=by
 rintro pins s σ H xs us Q I r ⟨l,zs,rfl,hq,hz,q⟩
 obtain ⟨u,rfl,ru⟩:=Joi r
 obtain rfl:u=Value.ref l:=ru
 obtain ⟨its,rv,pl,_⟩:=I.list hq
 have hlen:=rv.length
 rw [ye] at hlen
 refine Yak (I.ok.hd hc) pl.isList (by simpa using hlen) (λi v hv=>?_) (by simp only [yq];unfold scanBound;omega) λh' tk hS kk=>⟨.ref s.heap.objs.size,_,I.laid kk (yg _) (Soo hS),rfl,q _ (I.hok.fresh (yg _))⟩
 ·have hv':=by simpa using hv
  have hlt:i < zs.length:=by have:=(yi.mp hv').1;omega
  obtain ⟨u,hu,ru⟩:=rv.get (by rw [yj,yh hlt];rfl)
  rw [hv'] at hu
  cases hu
  obtain ⟨t,rfl⟩:=ru
  exact ⟨zs[i],t,yh hlt,rfl⟩
theorem Jue:Jnr X (.builtin "len") (λxs H Q=>∃(a:S1) (zs:List Str),xs= [.ref a]/\H a=some (TxS X.prog X.w a zs)/\Q (.int (uq zs).length) H):=by
 rintro pins s σ H xs us Q I r ⟨a,zs,rfl,ha,q⟩
 obtain ⟨u,rfl,ru⟩:=Joi r
 obtain rfl:u=Value.ref a:=ru
 obtain ⟨o,es,ep,t,ho,hex,hd,_,_,hb,hf,hn⟩:=(I.hok a _ ha).1
 refine call_len_set ho hex hd hf (by unfold scanBound at hb;omega) ?_
 rw [hn]
 exact ⟨.int _,H,I.tok _,⟨_,rfl⟩,q⟩
end
theorem Jpk:bootBuiltins "sum" =some (.builtin "sum"):=by decide +kernel
theorem Sm3:bootBuiltins "set" =some (.type "set"):=by decide +kernel
theorem Jru:bootBuiltins "enumerate" =some (.type "enumerate"):=by decide +kernel
def Sml (ns:List Int):Prop:=ns.length<=2000/\∀n∈ns,-1000000<=n/\n<=1000000
theorem Ju8 (ns:List Int):∀i,i<=ns.length->preSum (λj=>ns.getD j 0) i=(ns.take i).sum
 |0,_=>by simp [preSum]
 |i+1,h=>by
  have ih:=Ju8 ns i (by omega)
  have hlt:i < ns.length:=by omega
  have e:ns.take (i+1)=ns.take i++ [ns[i]]:=by rw [yy,yh hlt];rfl
  have e2:ns.getD i 0=ns[i]:=by simp [yh hlt]
  rw [e,List.sum_append]
  simp only [List.sum_cons,List.sum_nil]
  show preSum (λj=>ns.getD j 0) i+ns.getD i 0=_
  omega
theorem Yd9:∀(l:List Int),(∀n∈l,-1000000<=n/\n<=1000000)-> -1000000*(l.length:Int)<=l.sum/\l.sum<=1000000*(l.length:Int)
 | [],_=>by simp
 |n::r,h=>by
  have h1:=h n yah
  have h2:=Yd9 r λm hm=>h m (yaa _ hm)
  rw [List.sum_cons,yaf]
  constructor <;> omega
section
variable {X:Cx}
inductive Srw (K:Sd) (xs:List V) (H:Hp) (Q:VK):Prop where
 |mk (a:S1) (ns:List Int) (_:xs= [.ref a]) (_:(Ss K H a (ns.map V.int)\/Sy K H a (ns.map V.int))) (_:Sml ns) (_:Q (.int ns.sum) H)
theorem Jpb (hc:X.calm=true):Jnr X (.builtin "sum") (Srw X.K):=by
 rintro pins s σ H xs us Q I r ⟨a,ns,rfl,hq,hs,q⟩
 obtain ⟨u,rfl,ru⟩:=Joi r
 obtain rfl:u=Value.ref a:=ru
 have fit:∀j,j < ns.length->InLong ((λj=>ns.getD j 0) j)/\InLong (preSum (λj=>ns.getD j 0) (j+1)):=λj hj=>by
  have e2:ns.getD j 0=ns[j]:=by simp [yh hj]
  have b1:=hs.2 _ (yat hj)
  have b2:=Yd9 (ns.take (j+1)) λm hm=>hs.2 m (ycr hm)
  have b3:(ns.take (j+1)).length<=2000:=by have:=hs.1;rw [yad];omega
  rw [Ju8 ns (j+1) (by omega)]
  refine ⟨?_,?_⟩
  ·show InLong (ns.getD j 0)
   constructor <;> omega
  ·unfold InLong
   constructor <;> omega
 have fin:∀{its:List S2} (rv:Sv (ns.map V.int) its) (i:Nat) v,its.toArray[i]?=some v->∃t,v= .int ((λj=>ns.getD j 0) i) t:=λ{its} rv i v hv=>by
  have hv':=by simpa using hv
  have hl:=rv.length
  rw [ye] at hl
  have hi:i < ns.length:=by have:=(yi.mp hv').1;omega
  obtain ⟨u',hu',ru'⟩:=rv.get (by rw [yj,yh hi];rfl)
  rw [hv'] at hu'
  cases hu'
  obtain ⟨t,rfl⟩:=ru'
  exact ⟨t,by simp [yh hi]⟩
 rcases hq with hq|hq
 ·obtain ⟨its,rv,pl,_⟩:=I.list hq
  have hl:=rv.length
  rw [ye] at hl
  have ne:a≠s.heap.objs.size:=by obtain ⟨o,_,e,_⟩:=pl;exact yz (yk e)
  refine call_sum_walk (wpAny_pyIter_list pl.isList ⟨s.heap.objs.size,_,_,its.toArray.size,_,_,λj=>ns.getD j 0,rfl,Walks.list (A:=X.A.in1) (I.ok.hd hc) s.heap.objs.size a ne its.toArray,⟨⟨_,yx _ rfl,rfl,rfl⟩,pl.isList.push _⟩,λb hb=>?_,fin rv,λj hj=>fit j (by simp only [yq] at hj;omega),λh' tk t' k=>?_⟩)
  ·rw [yas]
   simp only [yp,yaw,or_false] at hb
   rcases hb with rfl|rfl
   ·exact yce _
   ·obtain ⟨o,_,e,_⟩:=pl
    exact ycj (yk e)
  ·have e:preSum (λj=>ns.getD j 0) its.toArray.size=ns.sum:=by
    rw [Ju8 ns _ (by simp only [yq];omega),yae (by simp only [yq];omega)]
   rw [e]
   exact ⟨.int _,H,I.kept λb o e=>k b o (λz=>by
    have z':=by simpa using z
    exact absurd (yk e) (by rw [z'];exact ybe _)) (ym _ e),⟨_,rfl⟩,q⟩
 ·obtain ⟨its,rv,pt,_⟩:=I.tuple hq
  have hl:=rv.length
  rw [ye] at hl
  have ne:a≠s.heap.objs.size:=by obtain ⟨o,e,_⟩:=pt;exact yz (yk e)
  refine call_sum_walk (wpAny_pyIter_tuple (pt) ⟨s.heap.objs.size,_,_,its.toArray.size,_,_,λj=>ns.getD j 0,rfl,Walks.tuple (A:=X.A.in1) (I.ok.hd hc) s.heap.objs.size a ne its.toArray,⟨⟨_,yx _ rfl,rfl,rfl⟩,Heap.IsTuple.push pt _⟩,λb hb=>?_,fin rv,λj hj=>fit j (by simp only [yq] at hj;omega),λh' tk t' k=>?_⟩)
  ·rw [yas]
   simp only [yp,yaw,or_false] at hb
   rcases hb with rfl|rfl
   ·exact yce _
   ·obtain ⟨o,e,_⟩:=pt
    exact ycj (yk e)
  ·have e:preSum (λj=>ns.getD j 0) its.toArray.size=ns.sum:=by
    rw [Ju8 ns _ (by simp only [yq];omega),yae (by simp only [yq];omega)]
   rw [e]
   exact ⟨.int _,H,I.kept λb o e=>k b o (λz=>by
    have z':=by simpa using z
    exact absurd (yk e) (by rw [z'];exact ybe _)) (ym _ e),⟨_,rfl⟩,q⟩
end
def ItE (K:Sd) (a:S1):It:=⟨λi H=>∃xs x,Ss K H a xs/\xs[i]?=some x,
 λi H x H'=>∃T u,H T=none/\x= .ref T/\(∀xs,Ss K H a xs->xs[i]?=some u)/\H'=upd H T (.tup [.int i,u]),
 λi H=>∃xs,Ss K H a xs/\i=xs.length⟩
def Sh8 (e it l:S1) (i:Nat) (h:Sb):Prop:=(∃old,IsEnum h e it i old)/\h.IsListIter it l i
theorem Sh8.obj (st:Sh8 e it l i h):∀b∈ [e,it],∃o,h.get? b=some o/\∀v,o.data≠ .cell v:=λb hb=>by
 obtain ⟨⟨old,h1⟩,⟨o4,h4,_,d4⟩⟩:=st
 simp only [yp,yaw,or_false] at hb
 rcases hb with rfl|rfl
 ·exact ⟨_,h1,λv z=>by cases z⟩
 ·exact ⟨o4,h4,λv z=>by rw [d4] at z;cases z⟩
theorem Ydf {K} (e it l) (n1:e≠it) (n2:l≠e) (n3:l≠it):
  Turn P w K (.Tuple elts kt pt) (ItE K l) [e,it] e (Sh8 e it l) where
 mem:=by simp
 obj:=λi h st=>st.obj
 keep:=λi h h' st k=>by
  obtain ⟨⟨old,h1⟩,h2⟩:=st
  exact ⟨⟨old,k e (by simp) _ h1⟩,h2.at λo q=>k it (by simp) o q⟩
 item:=by
  intro X hP hw hK hc i pins s σ H E I hf st hg
  subst hP hw hK
  obtain ⟨xs,x,q1,hx⟩:=hg
  obtain ⟨its,rv,p1,_⟩:=I.list q1
  obtain ⟨u,hu,ru⟩:=rv.get hx
  have W:=WalksT.enumerate (prog:=X.prog) (w:=X.w) (I.ok.hd hc) e it l n1 n2 n3 its.toArray
  obtain ⟨s1,s2⟩:=st
  have li:=(yi.mp hu).1
  refine W.item i s _ _ (by simp only [yq];omega) ⟨s1,s2,p1.isList⟩ λT vals h' tk hP fT tT mid kk=>⟨_,rfl,W.go elts kt pt i T _ _ _ mid λh'' st'' kk2=>?_⟩
  obtain ⟨t,a,ha,rfl⟩:=hP
  have ea:=by simpa [hu] using ha.symm
  subst ea
  obtain ⟨t1,t2,_⟩:=st''
  have kT:h''.IsTuple T #[.int i t,a]:=by
   obtain ⟨o,q,r⟩:=tT
   exact ⟨o,kk2 T o (W.apart i T h' mid) q,r⟩
  refine ⟨.ref T,upd H T (.tup [.int i,x]),I.turnTup hf (λc o hc q=>kk2 c o hc (kk c o hc q)) fT ⟨(show 2<=S6 by decide),[.int i t,a],.cons ⟨t,rfl⟩ (.cons ru .nil),kT⟩,rfl,⟨T,x,I.hok.fresh fT,rfl,λxs' hq=>by rw [I.list_inj hq q1];exact hx,rfl⟩,⟨t1,t2⟩,λc hc=>?_⟩
  rw [Sw (λw'=>?_)]
  ·exact ((hf c hc).1)
  ·subst w'
   obtain ⟨o,q,_⟩:=Sh8.obj (⟨s1,s2⟩) c hc
   exact absurd (yk q) (ybj.mpr fT)
 done:=by
  intro X hP hw hK hc i pins s σ H E I hf st hg
  subst hP hw hK
  obtain ⟨xs,q1,hi⟩:=hg
  obtain ⟨its,rv,p1,_⟩:=I.list q1
  obtain ⟨s1,s2⟩:=st
  have e1:=rv.length
  have ei:i=its.toArray.size:=by simp only [yq];omega
  subst ei
  exact (WalksT.enumerate (I.ok.hd hc) e it l n1 n2 n3 its.toArray).done s _ _ ⟨s1,s2,p1.isList⟩ λh' tk kk=>⟨rfl,I.turnMany hf λc o hc q=>kk c o hc q⟩
 self:=λ_ _ _ _ _ st h=>let ⟨_,q⟩:=st.1;wpAny_pyIter_enum q h
def Swe (K:Sd) (ta:TA):TI:=λσ H R=>ta σ H λvs H1=>∃a,vs= [.ref a]/\(∃xs,Ss K H1 a xs)/\R (ItE K a) H1
theorem Ju6 (hg:Gl X "enumerate") (hm:X.mg "enumerate" =none) (ha:PA X [a] ta) (hs:starEach [a] X.env= [(false,eval a X.env)]:=by rfl):
  PI X (.Tuple elts kt pt) (.Call (.Name "enumerate" p) [a] [] pos) (Swe X.K ta):=by
 intro pins s σ H R I h
 refine Call_ (Jpm I hg hm Jru (PyProof.Rows.callWith_type1 (thn (ha pos pins s σ H _ I h) λus s1 zq=>?_) (by rw [hs];rfl) rfl))
 obtain ⟨vs,H1,I1,r1,q1⟩:=zq
 obtain ⟨l,rfl,⟨xs,q1⟩,q⟩:=q1
 obtain ⟨u,rfl,r2⟩:=Joi r1
 obtain rfl:u=Value.ref l:=r2
 obtain ⟨its,rv,p1,_⟩:=I1.list q1
 have a1:l < s1.heap.objs.size:=by obtain ⟨o,n,e,_⟩:=p1;exact yk e
 refine call_enumerate_list p1.isList λh' z1 z2 z3 kk=>?_
 have I2:Sm X pins σ H1 {s1 with heap:=h'}:=I1.kept kk
 refine wpAny_pyIter_enum z1 ⟨_,_,_,_,H1,rfl,I2,Ydf (s1.heap.objs.size+1) s1.heap.objs.size l (Nat.succ_ne_self _) (yz (ycj a1)) (yz a1),⟨⟨_,z1⟩,z2⟩,λc hc=>?_,q⟩
 have hc':s1.heap.objs.size<=c:=by
  simp only [yp,yaw,or_false] at hc
  rcases hc with rfl|rfl
  ·exact Nat.le_succ _
  ·exact yg _
 exact I1.fpOk hc' (I1.hok.fresh hc')
section
variable {prog:S7} {w:S9} {A:Sa} {E:S2->S3->Prop} {s:S3}
theorem Jxu {x} {Q} (hit:s.heap.IsTupleIter it t i) (ht:s.heap.IsTuple t items) (hx:items[i]?=some x)
  (hQ:∀h',h'.IsTupleIter it t (i+1)->ybf it s.heap h'->Q x {s with heap:=h'}):Sc (model prog w) A (Builtin.SmallTypes.nextOf (.ref it)) Q E s:=by
 obtain ⟨o,ho,hc,hd⟩:=id hit
 obtain ⟨ol,hol,_,nl,hdl⟩:=ht
 have hT:s.TypeIs (.ref it) "tuple_iterator" :=⟨o,ho,hc⟩
 refine S4 (wpAny_callSpecial?_slot hT slot_tupleiter_next (wpAny_call_entry slot_tupleiter_next hT entry_tupleiter_next ?_ (args_tupleiter_next _)))
 refine S4 (m:=field (.ref it) 0) (wpAny_field ho hd rfl (S4 (wpAny_field ho hd rfl (S4 (wpAny_seqItems hol hdl ?_)))))
 simp only [yau,hx]
 refine S4 (wpAny_setField ho hd (by simp) (S5 ⟨x,rfl,S5 (hQ _ ⟨_,yci _ ho (Obj.isFreed_of_fields (Obj.data_mapFields hd _)),(Obj.cls_mapFields ..).trans hc,?_⟩ (ybf.update ..))⟩))
 rw [Obj.data_mapFields hd]
 simp [rawInt]
theorem Jyx {Q} (hh:A.handled=none) (hit:s.heap.IsTupleIter it t i) (ht:s.heap.IsTuple t items) (hx:items[i]?=none)
  (hE:∀h' e,Heap.ExtBut it s.heap h'->(∃o,h'.get? e=some o/\o.cls= .type "StopIteration")->E (.ref e) {s with heap:=h'}):Sc (model prog w) A (Builtin.SmallTypes.nextOf (.ref it)) Q E s:=by
 obtain ⟨o,ho,hc,hd⟩:=id hit
 obtain ⟨ol,hol,_,nl,hdl⟩:=ht
 have hT:s.TypeIs (.ref it) "tuple_iterator" :=⟨o,ho,hc⟩
 refine S4 (wpAny_callSpecial?_slot hT slot_tupleiter_next (wpAny_call_entry slot_tupleiter_next hT entry_tupleiter_next ?_ (args_tupleiter_next _)))
 refine S4 (m:=field (.ref it) 0) (wpAny_field ho hd rfl (S4 (wpAny_field ho hd rfl (S4 (wpAny_seqItems hol hdl ?_)))))
 simp only [yau,hx]
 refine S4 (wpAny_rule (S4 (wpAny_setField ho hd (by simp) (S4 (S4 (wpAny_newObj_type (S4 (wpAny_of_eq (by first|rfl|(simp only [firstArgMember];rfl)) (wpAny_newObj_type (S4 (wpAny_handled ?_)) (by size_fits)))) (by size_fits)))))))
 first|rw [hh]|rw [hh]
 exact S4 (S5 (wpAny_throw (hE _ _ (((ybf.update ..).extBut.push _).push _) ⟨_,yx _ rfl,rfl⟩)))
end
theorem Jsp (hh:A.handled=none) (it l) (hne:l≠it) (items):
  Draws prog w A it [it,l] items.size (λi v=>items[i]?=some v) (λi h=>h.IsTupleIter it l i/\h.IsTuple l items) where
 live:=λ_ _ st=>let ⟨o,ho,_⟩:=st.1;⟨o,ho⟩
 frame:=λ_ _ _ st hk=>⟨st.1.at λo e=>hk it (by simp) o e,st.2.at λo e=>hk l (by simp) o e⟩
 item:=λi s Q E hi st hQ=>Jxu st.1 st.2 (x:=items[i]) (by simp [hi]) λh' hit' hs'=>hQ _ h' s.toks (by simp [hi]) ⟨hit',st.2.extBut hs'.extBut hne⟩ hs'
 done:=λs Q E st hE=>Jyx hh st.1 st.2 (by simp) hE
set_option maxRecDepth 100000 in
set_option maxHeartbeats 2000000 in
theorem Ybf (l) (items) (n) (dct) (sl):
  Meets (Builtin.«enumerate.__new__» ⟨[.type "enumerate",.ref l],[]⟩) (λ_ R s=>s.heap.get? l=some {cls:=.type "tuple",dict:=dct,data:=.seq items n,slots:=sl}/\
   R (.ok (.ret (.ref (s.heap.push {cls:=.type "tuple_iterator",data:=.fields #[.ref l,.int 0 0]}).objs.size)))
    {s with heap:=(s.heap.push {cls:=.type "tuple_iterator",data:=.fields #[.ref l,.int 0 0]}).push {cls:=.type "enumerate",data:=.fields #[.none,.bool false,.ref s.heap.objs.size,rawInt 0,.none,.none]}}):=
 .of_wp λprog w A R s h=>by
  obtain ⟨hp,g,d,tk,os⟩:=s
  obtain ⟨hl,h⟩:=h
  have e1:=sub_enumerate
  have e2:Heap.IsTuple (Shared.heap ⟨hp,g,d,tk,os⟩) l items:=⟨_,hl,rfl,n,rfl⟩
  wp_walk using AutoSeq1.wpAny_loadPart' hl
  refine wpAny_stack_any λst=>S5 ?_
  split
  ·rename_i c _ _ _ _ _
   cases (c==Value.type "enumerate")
   ·wp_walk using AutoSeq1.wpAny_loadPart' hl,wpAny_pyIter_tuple e2
    exact ⟨_,rfl,h⟩
   ·wp_walk using AutoSeq1.wpAny_loadPart' hl,wpAny_pyIter_tuple e2
    exact ⟨_,rfl,h⟩
  ·wp_walk using AutoSeq1.wpAny_loadPart' hl,wpAny_pyIter_tuple e2
   exact ⟨_,rfl,h⟩
section
variable {prog:S7} {w:S9} {A:Sa} {E:S2->S3->Prop} {s:S3}
theorem Yw (hL:s.heap.IsTuple l items)
  (h:∀h',IsEnum h' (s.heap.objs.size+1) s.heap.objs.size 0 .none->h'.IsTupleIter s.heap.objs.size l 0->(∀b o,s.heap.get? b=some o->h'.get? b=some o)->Q (.ref (s.heap.objs.size+1)) {s with heap:=h'}):
  Sc (model prog w) A (call (.type "enumerate") [.ref l]) Q E s:=by
 obtain ⟨⟨c,dct,dt,sl⟩,hl,hc,n,hd⟩:=hL
 subst hc hd
 refine callType_new F.called_enumerate (by decide) (F.typeCall_enumerate_1 _) (F.newCall_enumerate_1 _) (λobj=>F.args_object_init_2 obj _) F.entry_enumerate_new (Ybf l items n dct sl) ⟨hl,?_⟩
 have hz:(s.heap.push {cls:=.type "tuple_iterator",data:=.fields #[.ref l,.int 0 0]}).objs.size=s.heap.objs.size+1:=yas ..
 rw [hz]
 have he:=by
  have q:=yx (s.heap.push {cls:=.type "tuple_iterator",data:=.fields #[.ref l,.int 0 0]}) (o:={cls:=.type "enumerate",data:=.fields #[.none,.bool false,.ref s.heap.objs.size,rawInt 0,.none,.none]}) rfl
  rw [hz] at q
  exact q
 exact ⟨⟨_,he,rfl⟩,h _ he ⟨_,ym _ (yx _ rfl),rfl,rfl⟩ λb o x=>ym _ (ym _ x)⟩
end
def ItU (K:Sd) (a:S1):It:=⟨λi H=>∃xs x,Sy K H a xs/\xs[i]?=some x,
 λi H x H'=>∃T u,H T=none/\x= .ref T/\(∀xs,Sy K H a xs->xs[i]?=some u)/\H'=upd H T (.tup [.int i,u]),
 λi H=>∃xs,Sy K H a xs/\i=xs.length⟩
def Sh9 (e it l:S1) (i:Nat) (h:Sb):Prop:=(∃old,IsEnum h e it i old)/\h.IsTupleIter it l i
theorem Sh9.obj (st:Sh9 e it l i h):∀b∈ [e,it],∃o,h.get? b=some o/\∀v,o.data≠ .cell v:=λb hb=>by
 obtain ⟨⟨old,h1⟩,⟨o4,h4,_,d4⟩⟩:=st
 simp only [yp,yaw,or_false] at hb
 rcases hb with rfl|rfl
 ·exact ⟨_,h1,λv z=>by cases z⟩
 ·exact ⟨o4,h4,λv z=>by rw [d4] at z;cases z⟩
theorem Yas {K} (e it l) (n1:e≠it) (n2:l≠e) (n3:l≠it):
  Turn P w K (.Tuple elts kt pt) (ItU K l) [e,it] e (Sh9 e it l) where
 mem:=by simp
 obj:=λi h st=>st.obj
 keep:=λi h h' st k=>by
  obtain ⟨⟨old,h1⟩,h2⟩:=st
  exact ⟨⟨old,k e (by simp) _ h1⟩,h2.at λo q=>k it (by simp) o q⟩
 item:=by
  intro X hP hw hK hc i pins s σ H E I hf st hg
  subst hP hw hK
  obtain ⟨xs,x,q1,hx⟩:=hg
  obtain ⟨its,rv,p1,_⟩:=I.tuple q1
  obtain ⟨u,hu,ru⟩:=rv.get hx
  have hh:X.A.in1.handled=none:=I.ok.hd hc
  have W:=WalksT.enumerateD (prog:=X.prog) (w:=X.w) (Jsp hh it l n3 its.toArray) e n1 (by simp [n1,yw n2]) (by simp)
  obtain ⟨s1,s2⟩:=st
  have li:=(yi.mp hu).1
  refine W.item i s _ _ (by simp only [yq];omega) ⟨s1,s2,p1⟩ λT vals h' tk hP fT tT mid kk=>⟨_,rfl,W.go elts kt pt i T _ _ _ mid λh'' st'' kk2=>?_⟩
  obtain ⟨t,a,ha,rfl⟩:=hP
  have ea:=by simpa [hu] using ha.symm
  subst ea
  obtain ⟨t1,t2,_⟩:=st''
  have kT:h''.IsTuple T #[.int i t,a]:=by
   obtain ⟨o,q,r⟩:=tT
   exact ⟨o,kk2 T o (W.apart i T h' mid) q,r⟩
  refine ⟨.ref T,upd H T (.tup [.int i,x]),I.turnTup hf (λc o hc q=>kk2 c o hc (kk c o hc q)) fT ⟨(show 2<=S6 by decide),[.int i t,a],.cons ⟨t,rfl⟩ (.cons ru .nil),kT⟩,rfl,⟨T,x,I.hok.fresh fT,rfl,λxs' hq=>by rw [I.tuple_inj hq q1];exact hx,rfl⟩,⟨t1,t2⟩,λc hc=>?_⟩
  rw [Sw (λw'=>?_)]
  ·exact ((hf c hc).1)
  ·subst w'
   obtain ⟨o,q,_⟩:=Sh9.obj (⟨s1,s2⟩) c hc
   exact absurd (yk q) (ybj.mpr fT)
 done:=by
  intro X hP hw hK hc i pins s σ H E I hf st hg
  subst hP hw hK
  obtain ⟨xs,q1,hi⟩:=hg
  obtain ⟨its,rv,p1,_⟩:=I.tuple q1
  have hh:X.A.in1.handled=none:=I.ok.hd hc
  obtain ⟨s1,s2⟩:=st
  have e1:=rv.length
  have ei:i=its.toArray.size:=by simp only [yq];omega
  subst ei
  exact (WalksT.enumerateD (Jsp hh it l n3 its.toArray) e n1 (by simp [n1,yw n2]) (by simp)).done s _ _ ⟨s1,s2,p1⟩ λh' tk kk=>⟨rfl,I.turnMany hf λc o hc q=>kk c o hc q⟩
 self:=λ_ _ _ _ _ st h=>let ⟨_,q⟩:=st.1;wpAny_pyIter_enum q h
def Src (K:Sd) (ta:TA):TI:=λσ H R=>ta σ H λvs H1=>∃a,vs= [.ref a]/\(∃xs,Sy K H1 a xs)/\R (ItU K a) H1
theorem Jyp (hg:Gl X "enumerate") (hm:X.mg "enumerate" =none) (ha:PA X [a] ta) (hs:starEach [a] X.env= [(false,eval a X.env)]:=by rfl):
  PI X (.Tuple elts kt pt) (.Call (.Name "enumerate" p) [a] [] pos) (Src X.K ta):=by
 intro pins s σ H R I h
 refine Call_ (Jpm I hg hm Jru (PyProof.Rows.callWith_type1 (thn (ha pos pins s σ H _ I h) λus s1 zq=>?_) (by rw [hs];rfl) rfl))
 obtain ⟨vs,H1,I1,r1,q1⟩:=zq
 obtain ⟨l,rfl,⟨xs,q1⟩,q⟩:=q1
 obtain ⟨u,rfl,r2⟩:=Joi r1
 obtain rfl:u=Value.ref l:=r2
 obtain ⟨its,rv,p1,_⟩:=I1.tuple q1
 have a1:l < s1.heap.objs.size:=by obtain ⟨o,e,_⟩:=p1;exact yk e
 refine Yw (p1) λh' z1 z2 kk=>?_
 have I2:Sm X pins σ H1 {s1 with heap:=h'}:=I1.kept kk
 refine wpAny_pyIter_enum z1 ⟨_,_,_,_,H1,rfl,I2,Yas (s1.heap.objs.size+1) s1.heap.objs.size l (Nat.succ_ne_self _) (yz (ycj a1)) (yz a1),⟨⟨_,z1⟩,z2⟩,λc hc=>?_,q⟩
 have hc':s1.heap.objs.size<=c:=by
  simp only [yp,yaw,or_false] at hc
  rcases hc with rfl|rfl
  ·exact Nat.le_succ _
  ·exact yg _
 exact I1.fpOk hc' (I1.hok.fresh hc')
abbrev DrA (prog:S7) (w:S9) (i l:S1) (n:Nat) (P:Nat->S2->Prop) (St:Nat->Sb->Prop):Prop:=∀A:Sa,A.handled=none->Draws prog w A i [i,l] n P St
def SqB (K:Sd) (H:Hp) (l:S1):Bool->List V->Prop
 |false,xs=>Ss K H l xs
 |true,xs=>Sy K H l xs
def IsB (h:Sb) (l:S1):Bool->Array S2->Prop
 |false,items=>h.IsList l items
 |true,items=>h.IsTuple l items
def IS (it l:S1):Bool->Nat->Sb->Prop
 |false,i,h=>h.IsListIter it l i
 |true,i,h=>h.IsTupleIter it l i
def itO (l:S1):Bool->Obj
 |false=>{cls:=.type "list_iterator",data:=.fields #[.ref l,.int 0 0]}
 |true=>{cls:=.type "tuple_iterator",data:=.fields #[.ref l,.int 0 0]}
theorem IS.at (x:IS it l b i h) (k:∀o,h.get? it=some o->h'.get? it=some o):IS it l b i h':=by
 cases b
 ·exact Heap.IsListIter.at x k
 ·exact Heap.IsTupleIter.at x k
theorem IS.obj (x:IS it l b i h):∃o,h.get? it=some o/\∀v,o.data≠ .cell v:=by
 cases b
 ·obtain ⟨o,e,_,d⟩:=x
  exact ⟨o,e,λv z=>by rw [d] at z;cases z⟩
 ·obtain ⟨o,e,_,d⟩:=x
  exact ⟨o,e,λv z=>by rw [d] at z;cases z⟩
theorem drA (b) (ne:l≠it) (items):DrA prog w it l items.size (λi v=>items[i]?=some v) (λi h=>IS it l b i h/\IsB h l b items):=λA hh=>by
 cases b
 ·exact Draws.list hh it l ne items
 ·exact Jsp hh it l ne items
section
variable {prog:S7} {w:S9} {A:Sa} {E:S2->S3->Prop} {s:S3}
theorem IsB.push (x:IsB h l b items) (o):IsB (h.push o) l b items:=by
 cases b
 ·exact Heap.IsList.push x o
 ·exact Heap.IsTuple.push x o
theorem IsB.lt (x:IsB h l b items):l < h.objs.size:=by
 cases b
 ·obtain ⟨o,e,_⟩:=x;exact yk e
 ·obtain ⟨o,e,_⟩:=x;exact yk e
theorem Jrx {Q} (x:IsB s.heap l b items) (hQ:Q (.ref s.heap.objs.size) {s with heap:=s.heap.push (itO l b)}):Sc (model prog w) A (pyIter (.ref l)) Q E s:=by
 cases b
 ·exact wpAny_pyIter_list x hQ
 ·exact wpAny_pyIter_tuple x hQ
end
section
variable {X:Cx} {pins:List (S1×Obj)} {σ:St} {H:Hp} {s:S3}
theorem Sm.seqB (I:Sm X pins σ H s) (h:SqB X.K H l b xs):∃its,Sv xs its/\IsB s.heap l b its.toArray:=by
 cases b
 ·obtain ⟨its,rv,p,_⟩:=I.list h
  exact ⟨its,rv,p.isList⟩
 ·obtain ⟨its,rv,p,_⟩:=I.tuple h
  exact ⟨its,rv,p⟩
theorem Sm.seqB_inj (I:Sm X pins σ H s) (h:SqB X.K H l b xs) (h':SqB X.K H l b ys):xs=ys:=by
 cases b
 ·exact I.list_inj h h'
 ·exact I.tuple_inj h h'
end
structure ZE where
 i:S1
 l:S1
 b:Bool
 its:Array S2
abbrev Jpv (h:Sb) (T:S1) (vs:List S2):Prop:=h.get? T=some {cls:=.type "tuple",data:=.seq vs.toArray}
structure ZA (z TI TO:S1) (zs:List ZE):Prop where
 nd:(z::TI::TO::zs.map (·.i)).Nodup
 m:∀q∈zs,q.l∉z::TI::TO::zs.map (·.i)
theorem Ya5 {α β:Type} {M:Model} {A:Sa} {E:S2->S3->Prop} {f:α->β->Sem (ForInStep β)} {b:β} {l:List α} {Q:β->S3->Prop}:
  ∀{s:S3} (J:Nat->S3->Prop),(∀j a s,l[j]?=some a->J j s->Sc M A (f a b) (λr s'=>r= .yield b/\J (j+1) s') E s)->J 0 s->(∀s',J l.length s'->Q b s')->Sc M A (forIn l b f) Q E s:=by
 induction l with
 |nil=>
  intro s J st h0 hq
  rw [List.forIn_nil]
  exact S5 (hq s h0)
 |cons a l ih=>
  intro s J st h0 hq
  rw [ybv]
  refine S4 (wpAny_mono (st 0 a s rfl h0) (λr s' ⟨e,j⟩=>?_) λ_ _ z=>z)
  subst e
  exact ih (λj=>J (j+1)) (λj a s e=>st (j+1) a s (by simpa using e)) j hq
section
variable {prog:S7} {w:S9} {A:Sa} {E:S2->S3->Prop} {s:S3} {z TI TO:S1} {zs:List ZE} {k:Nat}
theorem Sso {k} {Q} {vs:List S2} (sz:vs.length<=S6) (hT:Jpv s.heap T vs) (h:∀h',Jpv h' T (vs.set k x)->ybf T s.heap h'->Q () {s with heap:=h'}):Sc (model prog w) A (updateSeq T (·.setIfInBounds k x)) Q E s:=by
 refine wpAny_updateSeq hT rfl (h _ ?_ (ybf.update ..)) (by simpa using sz) (by simp;omega)
 show _=some _
 rw [yci _ hT rfl]
 simp [Obj.mapSeq]
theorem ZA.ne (Z:ZA z TI TO zs):z≠TI/\z≠TO/\TI≠TO/\(∀q∈zs,q.i≠z/\q.i≠TI/\q.i≠TO/\q.l≠z/\q.l≠TI/\q.l≠TO)/\(∀q∈zs,∀r∈zs,q.l≠r.i)/\∀(i j:Nat) (q r:ZE),zs[i]?=some q->zs[j]?=some r->i≠j->q.i≠r.i:=by
 obtain ⟨nd,m⟩:=Z
 simp only [ybh,yp,not_or] at nd
 obtain ⟨⟨h1,h2,h3⟩,⟨h4,h5⟩,h6,h7⟩:=nd
 have mem:∀q∈zs,q.i∈zs.map (·.i):=λq hq=>ybc hq
 refine ⟨h1,h2,h4,λq hq=>?_,λq hq r hr e=>?_,λi j q r hi hj ne e=>ne ?_⟩
 ·have q1:=mem q hq
  have q2:=m q hq
  simp only [yp,not_or] at q2
  exact ⟨λe=>h3 (e▸q1),λe=>h5 (e▸q1),λe=>h6 (e▸q1),q2.1,q2.2.1,q2.2.2.1⟩
 ·have q2:=m q hq
  simp only [yp,not_or] at q2
  exact q2.2.2.2 (e▸mem r hr)
 ·have e1:(zs.map (·.i))[i]?=some q.i:=by rw [yj,hi];rfl
  have e2:(zs.map (·.i))[j]?=some q.i:=by rw [yj,hj,e];rfl
  obtain ⟨li,ei⟩:=yi.mp e1
  obtain ⟨lj,ej⟩:=yi.mp e2
  have pw:=List.pairwise_iff_getElem.mp h7
  rcases Nat.lt_trichotomy i j with c|c|c
  ·exact absurd (ei.trans ej.symm) (pw i j li lj c)
  ·exact c
  ·exact absurd (ej.trans ei.symm) (pw j i lj li c)
theorem IsB.at {h h':Sb} {l:S1} {b:Bool} {items:Array S2} (x:IsB h l b items) (k:∀o,h.get? l=some o->h'.get? l=some o):IsB h' l b items:=by
 cases b
 ·obtain ⟨o,e,r⟩:=x;exact ⟨o,k o e,r⟩
 ·obtain ⟨o,e,r⟩:=x;exact ⟨o,k o e,r⟩
theorem IS.but {it l:S1} {b:Bool} {i:Nat} {h h':Sb} {c:S1} (e:it≠c) (sb:ybf c h h') (x:IS it l b i h):IS it l b i h':=x.at λo q=>sb.extBut _ _ e q
theorem Yfn {Q:S2->S3->Prop} {q0:ZE} {ws:List S2} (Z:ZA z TI TO (q0::zs)) (hz:IsZip s.heap z TI TO .none) (hTI:Jpv s.heap TI ((q0::zs).map λq=>.ref q.i)) (hTO:Jpv s.heap TO ws) (hw:ws.length=(q0::zs).length) (hs:(q0::zs).length<=S6)
  (hh:A.handled=none) (hq:∀q∈q0::zs,IsB s.heap q.l q.b q.its/\k < q.its.size/\IS q.i q.l q.b k s.heap)
  (hQ:∀(xs:List S2) h' tk,xs.length=(q0::zs).length->(∀(j:Nat) (q:ZE) (x:S2),(q0::zs)[j]?=some q->xs[j]?=some x->q.its[k]?=some x)->IsZip h' z TI TO (rawInt s.heap.objs.size)->Jpv h' TO xs->(∀q∈q0::zs,IS q.i q.l q.b (k+1) h')->Jpv h' s.heap.objs.size xs->
   (∀d o,d≠z->d≠TO->d∉(q0::zs).map (·.i)->s.heap.get? d=some o->h'.get? d=some o)->Q (.ref s.heap.objs.size) {s with heap:=h',toks:=tk}):
  Sc (model prog w) A (Builtin.«zip.__next__» ⟨[.ref z],[]⟩) (λfin s'=>∃v,fin= .done (.ret v)/\Q v s') E s:=by
 obtain ⟨zTI,zTO,TITO,ap,al,ai⟩:=Z.ne
 show Sc _ _ (field (.ref z) 2 >>=_) _ _ _
 refine S4 (wpAny_field hz rfl (x:=.bool false) rfl ?_)
 refine S4 (m:=field (.ref z) 3) (wpAny_field hz rfl (x:=.ref TI) rfl ?_)
 refine S4 (wpAny_seqItems hTI rfl ?_)
 refine S4 (m:=Builtin.SmallTypes.ownedTupleIsFree (.ref z)) ?_
 refine S4 (wpAny_field hz rfl (x:=.none) rfl (S5 ?_))
 refine S4 (wpAny_rule (S4 (wpAny_field hz rfl (x:=.ref TO) rfl (S4 (wpAny_setField_rec hz (by simp) λh1 hz1 s1=>?_)))))
 refine S4 ?_
 refine Ya5 (λj s'=>∃(h':Sb) (tk:_) (vs:List S2),s'={s with heap:=h',toks:=tk}/\h'.objs.size=s.heap.objs.size/\IsZip h' z TI TO .ellipsis/\Jpv h' TO vs/\vs.length=(q0::zs).length/\(∀i,i < j->∀(q:ZE) (x:S2),(q0::zs)[i]?=some q->vs[i]?=some x->q.its[k]?=some x)/\(∀(i:Nat) (q:ZE),(q0::zs)[i]?=some q->IS q.i q.l q.b (if i < j then k+1 else k) h')/\∀d o,d≠z->d≠TO->d∉(q0::zs).map (·.i)->s.heap.get? d=some o->h'.get? d=some o) (λj a s' hj hJ=>?_) ?_ ?_
 ·obtain ⟨q,hq',rfl⟩:∃q,(q0::zs)[j]?=some q/\a=(.ref q.i,j):=by
   rw [List.getElem?_zipIdx] at hj
   obtain ⟨v,hv,rfl⟩:=yay.mp hj
   rw [yj] at hv
   obtain ⟨q,h1,rfl⟩:=yay.mp hv
   exact ⟨q,h1,by simp⟩
  have mq:=yr hq'
  obtain ⟨a1,a2,a3,a4,a5,a6⟩:=ap q mq
  obtain ⟨b1,b2,b3⟩:=hq q mq
  obtain ⟨h',tk,vs,rfl,sz,hz',ho,lw,don,st,fr⟩:=hJ
  have stq:=st j q hq'
  rw [if_neg (ybe j)] at stq
  have iB:IsB h' q.l q.b q.its:=b1.at λo e=>fr _ _ a4 a6 (λhm=>by
   obtain ⟨r,hr,e⟩:=yo.mp hm
   exact al q mq r hr e.symm) e
  refine S4 (wpAny_onRaise ?_)
  refine S4 (m:=Builtin.SmallTypes.nextOf (.ref q.i)) ((drA (prog:=prog) (w:=w) q.b (al q mq q mq) q.its A hh).item k _ _ _ b2 ⟨stq,iB⟩ λx h2 k2 px u1 s2=>S5 ?_)
  have o2:Jpv h2 TO vs:=s2.extBut _ _ (yw a3) ho
  refine S4 (wpAny_seqItems o2 rfl (S4 (Sso (by omega) o2 λh3 o3 s3=>S4 (wpAny_letGo (S5 ?_)))))
  refine ⟨rfl,h3,k2,vs.set j x,rfl,by rw [s3.1,s2.1,sz],s3.extBut _ _ zTO (s2.extBut _ _ (yw a1) hz'),o3,by rw [ybt];exact lw,λi hi r y hr hy=>?_,λi r hr=>?_,λd o c1 c2 c3 e=>s3.extBut _ _ c2 (s2.extBut _ _ (λz=>c3 (z▸ybc mq)) (fr d o c1 c2 c3 e))⟩
  ·rw [ycs] at hy
   split at hy
   ·rename_i ij
    subst ij
    rw [hq'] at hr
    cases hr
    split at hy
    ·cases hy;exact px
    ·cases hy
   ·exact don i (by omega) r y hr hy
  ·by_cases ij:i=j
   ·subst ij
    rw [hq'] at hr
    cases hr
    rw [if_pos (yce i)]
    exact IS.but a3 s3 u1.1
   ·have e:(if i < j+1 then k+1 else k)=(if i < j then k+1 else k):=by split <;> split <;> omega
    rw [e]
    exact IS.but (ap r (yr hr)).2.2.1 s3 (IS.but (ai i j r q hr hq' ij) s2 (st i r hr))
 ·refine ⟨h1,_,ws,rfl,s1.1,hz1,s1.extBut _ _ (yw zTO) hTO,hw,λi hi=>absurd hi (Nat.not_lt_zero i),λi q hi=>?_,λd o c1 _ _ e=>s1.extBut _ _ c1 e⟩
  rw [if_neg (Nat.not_lt_zero i)]
  exact IS.but (ap q (yr hi)).1 s1 (hq q (yr hi)).2.2
 ·rintro s' ⟨h9,tk,vs,rfl,sz,zz,o9,lw,don,st,fr⟩
  have ln:((List.map (λq:ZE=>Value.ref q.i) (q0::zs)).toArray.toList.zipIdx).length=(q0::zs).length:=by simp
  rw [ln] at don st
  refine S4 (wpAny_seqItems o9 rfl (S4 (wpAny_newTuple ?_)))
  have zlt:z < h9.objs.size:=yk zz
  refine S4 (m:=Builtin.SmallTypes.ownedTupleHandOut (.ref z) (.ref h9.objs.size)) ?_
  have zp:IsZip (h9.push {cls:=.type "tuple",data:=.seq vs.toArray}) z TI TO .ellipsis:=ym _ zz
  refine S4 (wpAny_setField_rec zp (by simp) λh10 hz10 s10=>?_)
  refine wpAny_setField_rec hz10 (by simp) λh11 hz11 s11=>?_
  have up:∀d o,d≠z->h9.get? d=some o->h11.get? d=some o:=λd o c1 e=>s11.extBut _ _ c1 (s10.extBut _ _ c1 (ym _ e))
  have nw:Jpv h11 h9.objs.size vs:=s11.extBut _ _ (ybr zlt) (s10.extBut _ _ (ybr zlt) (yx _ rfl))
  rw [sz] at hz11 nw
  refine S5 ⟨_,rfl,?_⟩
  dsimp only
  rw [sz]
  exact hQ vs h11 _ lw (λj q x hj hx=>don j (yi.mp hj).1 q x hj hx) hz11 (up _ _ (yw zTO) o9) (λq mq=>by
   obtain ⟨j,hj⟩:=ybk mq
   have:=st j q hj
   rw [if_pos (yi.mp hj).1] at this
   exact this.at λo e=>up _ _ (ap q mq).1 e) nw λd o c1 c2 c3 e=>up d o c1 (fr d o c1 c2 c3 e)
theorem Soy {Q:_} {q0:ZE} (Z:ZA z TI TO (q0::zs)) (hz:IsZip s.heap z TI TO .none) (hTI:Jpv s.heap TI ((q0::zs).map λq=>.ref q.i)) (hh:A.handled=none) (hb:IsB s.heap q0.l q0.b q0.its) (t1:IS q0.i q0.l q0.b q0.its.size s.heap)
  (hE:∀h' e,(∀d o,d≠z->d≠q0.i->s.heap.get? d=some o->h'.get? d=some o)->(∃o,h'.get? e=some o/\o.cls= .type "StopIteration")->E (.ref e) {s with heap:=h'}):
  Sc (model prog w) A (Builtin.«zip.__next__» ⟨[.ref z],[]⟩) Q E s:=by
 obtain ⟨zTI,zTO,TITO,ap,al,ai⟩:=Z.ne
 obtain ⟨a1,a2,a3,a4,a5,a6⟩:=ap q0 yah
 show Sc _ _ (field (.ref z) 2 >>=_) _ _ _
 refine S4 (wpAny_field hz rfl rfl (S4 (wpAny_field hz rfl rfl (S4 (wpAny_seqItems hTI rfl ?_)))))
 refine S4 (S4 (wpAny_field hz rfl rfl (S5 (S4 (wpAny_rule (S4 (wpAny_field hz rfl rfl (S4 (wpAny_setField_rec hz (by simp) λh1 hz1 s1=>S4 ?_)))))))))
 have D:=drA (prog:=prog) (w:=w) q0.b (al q0 yah q0 yah) q0.its A hh
 refine S4 (S4 (wpAny_onRaise (S4 (D.done _ _ _ ⟨IS.but a1 s1 t1,hb.at λo e=>s1.extBut _ _ a4 e⟩ λh2 e s2 he=>?_))))
 obtain ⟨oe,hoe,hce⟩:=he
 have hz2:=s2 _ _ (yw a1) hz1
 have ez:e≠z:=λq=>by subst q;rw [hz2] at hoe;cases hoe;simp at hce
 exact wpAny_setField_rec hz2 (by simp) λh3 _ s3=>hE h3 e (λd o c1 c2 q=>s3.extBut _ _ c1 (s2 _ _ c2 (s1.extBut _ _ c1 q))) ⟨oe,s3.extBut _ _ ez hoe,hce⟩
def ZNS (z TI TO:S1) (zs:List ZE) (i:Nat) (h:Sb):Prop:=IsZip h z TI TO .none/\Jpv h TI (zs.map λq=>.ref q.i)/\(∃ws:List S2,ws.length=zs.length/\Jpv h TO ws)/\∀q∈zs,IS q.i q.l q.b i h/\IsB h q.l q.b q.its
def ZNM (z TI TO:S1) (zs:List ZE) (i:Nat) (T:S1) (h:Sb):Prop:=IsZip h z TI TO (rawInt T)/\Jpv h TI (zs.map λq=>.ref q.i)/\(∃ws:List S2,ws.length=zs.length/\Jpv h TO ws)/\(∀q∈zs,IS q.i q.l q.b (i+1) h/\IsB h q.l q.b q.its)/\T∉z::TO::zs.map (·.i)
theorem Ydi {q0:ZE} (hh:A.handled=none) (Z:ZA z TI TO (q0::zs)) (hs:(q0::zs).length<=S6) (hn:∀q∈q0::zs,q0.its.size<=q.its.size):
  WalksT prog w A z (z::TI::TO::((q0::zs).map (·.i)++(q0::zs).map (·.l))) (z::TO::(q0::zs).map (·.i)) q0.its.size
   (λi vals=>vals.size=(q0::zs).length/\∀(j:Nat) (q:ZE) (x:S2),(q0::zs)[j]?=some q->vals[j]?=some x->q.its[i]?=some x) (ZNS z TI TO (q0::zs)) (ZNM z TI TO (q0::zs)) where
 sub:=λc hc=>by
  simp only [yp,yba] at hc⊢
  grind
 frame:=λi h h' hst hk=>by
  obtain ⟨hz,hTI,⟨ws,lw,hTO⟩,hq⟩:=hst
  refine ⟨hk z (by simp) _ hz,hk TI (by simp) _ hTI,⟨ws,lw,hk TO (by simp) _ hTO⟩,λq mq=>⟨(hq q mq).1.at λo e=>hk _ ?_ o e,(hq q mq).2.at λo e=>hk _ ?_ o e⟩⟩
  ·exact yaa _ (yaa _ (yaa _ (ycq _ (ybc mq))))
  ·exact yaa _ (yaa _ (yaa _ (ybg _ (ybc mq))))
 item:=λi s Q E hi hst hQ=>by
  obtain ⟨hz,hTI,⟨ws,lw,hTO⟩,hq⟩:=hst
  obtain ⟨zTI,zTO,TITO,ap,al,ai⟩:=Z.ne
  have hT:s.TypeIs (.ref z) "zip" :=⟨_,hz,rfl⟩
  refine S4 (wpAny_attempt (wpAny_callSpecial?_slot hT F.slot_zip_next (wpAny_call_entry F.slot_zip_next hT F.entry_zip_next
   (Yfn (k:=i) Z hz hTI hTO lw hs hh (λq mq=>⟨(hq q mq).2,yao hi (hn q mq),(hq q mq).1⟩) λxs h' tk lx px a1 a2 a3 a4 hk=>S5 ?_) (F.args_zip_next_1 _))))
  have notm:∀q∈q0::zs,q.l∉(q0::zs).map (·.i):=λq mq hm=>by
   obtain ⟨r,hr,e⟩:=yo.mp hm
   exact al q mq r hr e.symm
  have lt:∀{d o},s.heap.get? d=some o->s.heap.objs.size≠d:=λe=>ybr (yk e)
  refine hQ s.heap.objs.size xs.toArray h' tk ⟨by simpa using lx,λj q x hj hx=>px j q x hj (by simpa using hx)⟩ (yg _) ⟨_,a4,rfl,_,rfl⟩ ⟨a1,hk _ _ (yw zTI) TITO (λhm=>?_) hTI,⟨xs,lx,a2⟩,λq mq=>⟨a3 q mq,(hq q mq).2.at λo e=>hk _ _ (ap q mq).2.2.2.1 (ap q mq).2.2.2.2.2 (notm q mq) e⟩,λhm=>?_⟩ λd o hd e=>hk d o (λq=>hd (by simp [q])) (λq=>hd (by simp [q])) (λq=>hd (yaa _ (yaa _ q))) e
  ·obtain ⟨r,hr,e⟩:=yo.mp hm
   exact (ap r hr).2.1 e
  ·rcases yp.mp hm with e|hm
   ·exact lt hz e
   ·rcases yp.mp hm with e|hm
    ·exact lt hTO e
    ·obtain ⟨r,hr,e⟩:=yo.mp hm
     obtain ⟨o,e',_⟩:=(hq r hr).1.obj
     exact lt e' e.symm
 go:=λelts k pos i T s Q E hm hQ=>by
  obtain ⟨hz,hTI,⟨ws,lw,hTO⟩,hq,_⟩:=hm
  obtain ⟨zTI,zTO,TITO,ap,al,ai⟩:=Z.ne
  exact wpAny_letOwnedTupleGo_zip hz λh' hz' sb=>hQ h' ⟨hz',sb.extBut _ _ (yw zTI) hTI,⟨ws,lw,sb.extBut _ _ (yw zTO) hTO⟩,λq mq=>⟨IS.but (ap q mq).1 sb (hq q mq).1,(hq q mq).2.at λo e=>sb.extBut _ _ (ap q mq).2.2.2.1 e⟩⟩ λd o hd e=>sb.extBut _ _ (λq=>hd (by simp [q])) e
 apart:=λi T h hm hT=>hm.2.2.2.2 hT
 done:=λs Q E hst hQ=>by
  obtain ⟨hz,hTI,_,hq⟩:=hst
  have hT:s.TypeIs (.ref z) "zip" :=⟨_,hz,rfl⟩
  have h0:=hq q0 yah
  refine S4 (wpAny_attempt (wpAny_callSpecial?_slot hT F.slot_zip_next (wpAny_call_entry F.slot_zip_next hT F.entry_zip_next
   (Soy Z hz hTI hh h0.2 h0.1 λh' e hk he=>?_) (F.args_zip_next_1 _))))
  obtain ⟨o,ho,hc⟩:=he
  exact S4 (wpAny_isInstance ⟨o,ho,hc⟩ isSubtype_stop (S5 (hQ h' s.toks λd o' hd e'=>hk d o' (λq=>hd (by simp [q])) (λq=>hd (by simp [q])) e')))
 self:=λi s Q E hst hQ=>wpAny_pyIter_zip hst.1 hQ
end
def Jpu (h:Sb):List Obj->Sb
 | []=>h
 |o::r=>Jpu (h.push o) r
def itA (h:Sb):List Obj->List S1
 | []=>[]
 |o::r=>h.objs.size::itA (h.push o) r
theorem Jwn {os:List Obj}:∀{h:Sb},h.get? c=some o->(Jpu h os).get? c=some o:=by
 induction os with
 |nil=>exact λe=>e
 |cons q r ih=>exact λe=>ih (ym _ e)
theorem Jzz {os:List Obj}:∀{h:Sb},(Jpu h os).objs.size=h.objs.size+os.length:=by
 induction os with
 |nil=>intro h;rfl
 |cons q r ih=>
  intro h
  show (Jpu (h.push q) r).objs.size=h.objs.size+(r.length+1)
  rw [ih,yas]
  omega
theorem Jwy {os:List Obj}:∀{h:Sb},itA h os=List.range' h.objs.size os.length:=by
 induction os with
 |nil=>intro h;rfl
 |cons q r ih=>
  intro h
  show h.objs.size::itA (h.push q) r=_
  rw [ih,yas]
  rfl
theorem Ydu {os:List Obj}:∀{h:Sb} {j:Nat} {o:Obj},os[j]?=some o->o.isFreed=false->(Jpu h os).get? (h.objs.size+j)=some o:=by
 induction os with
 |nil=>intro h j o e;simp at e
 |cons q r ih=>
  intro h j o e f
  cases j with
  |zero=>
   cases e
   exact Jwn (h:=h.push q) (yx _ f)
  |succ j=>
   have:=ih (h:=h.push q) (j:=j) (by simpa using e) f
   rw [yas] at this
   rw [show h.objs.size+(j+1)=h.objs.size+1+j by omega]
   exact this
abbrev zOs (ls:List (S1×Bool)):List Obj:=ls.map λl=>itO l.1 l.2
abbrev gD (h:Sb) (ls:List (S1×Bool)):Sb:=(Jpu h (zOs ls)).push {cls:=.type "tuple",data:=.seq ((itA h (zOs ls)).map Value.ref).toArray}
abbrev gE (h:Sb) (ls:List (S1×Bool)):Sb:=(gD h ls).push {cls:=.type "tuple",data:=.seq (ls.map λ_=>Value.none).toArray}
abbrev gF (h:Sb) (ls:List (S1×Bool)):Sb:=(gE h ls).push {cls:=.type "zip",data:=.fields #[.none,.bool false,.bool false,.ref (Jpu h (zOs ls)).objs.size,.ref (gD h ls).objs.size]}
section
variable {prog:S7} {w:S9} {A:Sa} {E:S2->S3->Prop} {s:S3} {ls:List (S1×Bool)}
theorem Jqx (h:Sb):IsZip (gF h ls) (gE h ls).objs.size (Jpu h (zOs ls)).objs.size (gD h ls).objs.size .none/\Jpv (gF h ls) (Jpu h (zOs ls)).objs.size ((itA h (zOs ls)).map Value.ref)/\Jpv (gF h ls) (gD h ls).objs.size (ls.map λ_=>Value.none)/\
  (∀(j:Nat) (i:S1) (l:S1×Bool),(itA h (zOs ls))[j]?=some i->ls[j]?=some l->IS i l.1 l.2 0 (gF h ls))/\(∀c o,h.get? c=some o->(gF h ls).get? c=some o)/\(∀c∈(gE h ls).objs.size::(Jpu h (zOs ls)).objs.size::(gD h ls).objs.size::itA h (zOs ls),h.objs.size<=c)/\
  ((gE h ls).objs.size::(Jpu h (zOs ls)).objs.size::(gD h ls).objs.size::itA h (zOs ls)).Nodup:=by
 have z0:=Jzz (h:=h) (os:=zOs ls)
 have z1:(gD h ls).objs.size=(Jpu h (zOs ls)).objs.size+1:=yas ..
 have z2:(gE h ls).objs.size=(gD h ls).objs.size+1:=yas ..
 have p:∀{h:Sb} {c:S1} {o q:Obj},h.get? c=some o->(h.push q).get? c=some o:=λe=>ym _ e
 have fr:∀l b,(itO l b).isFreed=false:=λl b=>by cases b <;> rfl
 refine ⟨yx _ rfl,p (p (yx _ rfl)),p (yx _ rfl),λj i l hi hl=>?_,λc o e=>p (p (p (Jwn e))),λc hc=>?_,?_⟩
 ·rw [Jwy] at hi
  have hj:j < (zOs ls).length:=by simpa using (yi.mp hi).1
  rw [List.getElem?_range' hj] at hi
  have e:=Ydu (h:=h) (os:=zOs ls) (j:=j) (o:=itO l.1 l.2) (by rw [yj,hl];rfl) (fr _ _)
  have e':(gF h ls).get? i=some (itO l.1 l.2):=p (p (p (by rw [<-yt.inj hi];simpa using e)))
  obtain ⟨l,b⟩:=l
  cases b
  ·exact ⟨_,e',rfl,rfl⟩
  ·exact ⟨_,e',rfl,rfl⟩
 ·rw [Jwy] at hc
  simp only [yp,List.mem_range'_1] at hc
  omega
 ·rw [Jwy]
  simp only [ybh,yp,List.mem_range'_1,not_or]
  exact ⟨⟨by omega,by omega,by omega⟩,⟨by omega,by omega⟩,by omega,List.nodup_range'⟩
end
def SqN (K:Sd) (H:Hp) (ls:List (S1×Bool)) (xss:List (List V)):Prop:=xss.length=ls.length/\∀(j:Nat) (l:S1×Bool) (xs:List V),ls[j]?=some l->xss[j]?=some xs->SqB K H l.1 l.2 xs
def Jrp (K:Sd) (ls:List (S1×Bool)):It:=
 ⟨λi H=>∃(x0:List V) (xss:List (List V)),SqN K H ls (x0::xss)/\(∀xs∈xss,x0.length<=xs.length)/\i < x0.length,
  λi H x H'=>∃(T:S1) (ps:List V),H T=none/\x= .ref T/\(∀xss,SqN K H ls xss->ps.length=xss.length/\∀(j:Nat) (p:V) (xs:List V),ps[j]?=some p->xss[j]?=some xs->xs[i]?=some p)/\H'=upd H T (.tup ps),
  λi H=>∃(x0:List V) (xss:List (List V)),SqN K H ls (x0::xss)/\(∀xs∈xss,x0.length<=xs.length)/\i=x0.length⟩
def ZNT (z TI TO:S1) (is:List S1) (ls:List (S1×Bool)) (k:Nat) (h:Sb):Prop:=IsZip h z TI TO .none/\Jpv h TI (is.map Value.ref)/\(∃ws:List S2,ws.length=is.length/\Jpv h TO ws)/\∀(j:Nat) (i:S1) (l:S1×Bool),is[j]?=some i->ls[j]?=some l->IS i l.1 l.2 k h
theorem Sl6:∀{ps:List V} {vs:List S2},ps.length=vs.length->(∀(j:Nat) (p:V) (v:S2),ps[j]?=some p->vs[j]?=some v->RelV p v)->Sv ps vs
 | [],[],_,_=>.nil
 |p::ps,v::vs,e,f=>.cons (f 0 p v rfl rfl) (Sl6 (by simpa using e) λj p v h1 h2=>f (j+1) p v (by simpa using h1) (by simpa using h2))
 | [],_::_,e,_=>by simp at e
 |_::_,[],e,_=>by simp at e
theorem Sm.zes {X:Cx} (I:Sm X pins σ H s):∀{ls:List (S1×Bool)} {xss:List (List V)} {is:List S1},is.length=ls.length->SqN X.K H ls xss->
  ∃zs:List ZE,zs.map (·.i)=is/\zs.map (λq=>(q.l,q.b))=ls/\∀(j:Nat) (q:ZE) (xs:List V),zs[j]?=some q->xss[j]?=some xs->Sv xs q.its.toList/\IsB s.heap q.l q.b q.its:=by
 intro ls
 induction ls with
 |nil=>
  intro xss is li _
  obtain rfl:is= []:=List.length_eq_zero_iff.mp li
  exact ⟨[],rfl,rfl,λj q xs e=>by simp at e⟩
 |cons l ls ih=>
  intro xss is li sq
  cases is with
  |nil=>simp at li
  |cons i is=>
   cases xss with
   |nil=>simp [SqN] at sq
   |cons x xss=>
    obtain ⟨its,r,p⟩:=I.seqB (sq.2 0 l x rfl rfl)
    obtain ⟨zs,e1,e2,e3⟩:=ih (xss:=xss) (is:=is) (by simpa using li) ⟨by simpa using sq.1,λj l xs h1 h2=>sq.2 (j+1) l xs (by simpa using h1) (by simpa using h2)⟩
    refine ⟨⟨i,l.1,l.2,its.toArray⟩::zs,by rw [yak,e1],by rw [yak,e2],λj q xs h1 h2=>?_⟩
    cases j with
    |zero=>cases h1;cases h2;exact ⟨r,p⟩
    |succ j=>exact e3 j q xs (by simpa using h1) (by simpa using h2)
theorem ZNT.obj {z TI TO:S1} {is:List S1} {ls:List (S1×Bool)} (li:is.length=ls.length) (st:ZNT z TI TO is ls k h):∀b∈z::TI::TO::is,∃o,h.get? b=some o/\∀v,o.data≠ .cell v:=λb hb=>by
 obtain ⟨h1,h2,⟨ws,_,h3⟩,h4⟩:=st
 simp only [yp] at hb
 rcases hb with rfl|rfl|rfl|hb
 ·exact ⟨_,h1,λv z=>by cases z⟩
 ·exact ⟨_,h2,λv z=>by cases z⟩
 ·exact ⟨_,h3,λv z=>by cases z⟩
 ·obtain ⟨j,hj⟩:=ybk hb
  have hj':j < ls.length:=by rw [<-li];exact (yi.mp hj).1
  exact (h4 j b ls[j] hj (yh hj')).obj
theorem Ydn {q0:ZE} {zs:List ZE} {x0:List V} {xss:List (List V)} {s:S3} (len:(x0::xss).length=(q0::zs).length) (hn:∀xs∈xss,x0.length<=xs.length) (e3:∀(j:Nat) (q:ZE) (xs:List V),(q0::zs)[j]?=some q->(x0::xss)[j]?=some xs->Sv xs q.its.toList/\IsB s.heap q.l q.b q.its):
  q0.its.size=x0.length/\(∀q∈q0::zs,∃(j:Nat) (xs:List V),(q0::zs)[j]?=some q/\(x0::xss)[j]?=some xs)/\∀q∈q0::zs,q0.its.size<=q.its.size:=by
 have size:∀(j:Nat) (q:ZE) (xs:List V),(q0::zs)[j]?=some q->(x0::xss)[j]?=some xs->q.its.size=xs.length:=λj q xs h1 h2=>by
  have:=(e3 j q xs h1 h2).1.length
  simpa using this.symm
 have at':∀q∈q0::zs,∃(j:Nat) (xs:List V),(q0::zs)[j]?=some q/\(x0::xss)[j]?=some xs:=λq hq=>by
  obtain ⟨j,hj⟩:=ybk hq
  have:j < (x0::xss).length:=by rw [len];exact (yi.mp hj).1
  exact ⟨j,_,hj,yh this⟩
 have s0:=size 0 q0 x0 rfl rfl
 refine ⟨s0,at',λq hq=>?_⟩
 obtain ⟨j,xs,h1,h2⟩:=at' q hq
 rw [s0,size j q xs h1 h2]
 cases j with
 |zero=>cases h2;exact yg _
 |succ j=>exact hn xs (yr (show xss[j]?=some xs by simpa using h2))
theorem Yat {P:S7} {w:S9} {K:Sd} {elts:List Expr} {kt:Nat} {pt:Pos} {ls:List (S1×Bool)} {z TI TO:S1} {is:List S1} (li:is.length=ls.length) (sm:ls.length<=S6) (nd:(z::TI::TO::is).Nodup) (ml:∀l∈ls,l.1∉z::TI::TO::is):
  Turn P w K (.Tuple elts kt pt) (Jrp K ls) (z::TI::TO::is) z (ZNT z TI TO is ls) where
 mem:=by simp
 obj:=λi h st=>st.obj li
 keep:=λi h h' st k=>by
  obtain ⟨h1,h2,⟨ws,lw,h3⟩,h4⟩:=st
  exact ⟨k z (by simp) _ h1,k TI (by simp) _ h2,⟨ws,lw,k TO (by simp) _ h3⟩,λj i l hi hl=>(h4 j i l hi hl).at λo e=>k i (by simp [yr hi]) o e⟩
 item:=by
  intro X hP hw hK hc i pins s σ H E I hf st hg
  subst hP hw hK
  obtain ⟨x0,xss,sq,hn,hi⟩:=hg
  obtain ⟨zs,e1,e2,e3⟩:=I.zes li sq
  subst e1 e2
  cases zs with
  |nil=>simp [SqN] at sq
  |cons q0 zs=>
  have len:=sq.1
  rw [ye] at len sm
  obtain ⟨s0,at',hn'⟩:=Ydn len hn e3
  have W:=Ydi (prog:=X.prog) (w:=X.w) (I.ok.hd hc) ⟨nd,λq hq=>ml (q.l,q.b) (ybc hq)⟩ sm hn'
  have st0:=st
  obtain ⟨s1,s2,⟨ws,lw,s3⟩,s4⟩:=st
  refine W.item i s _ _ (by omega) ⟨s1,by rw [yaq] at s2;exact s2,⟨ws,by simpa using lw,s3⟩,λq hq=>?_⟩ λT vals h' tk hP fT tT mid kk=>⟨_,rfl,W.go elts kt pt i T _ _ _ mid λh'' st'' kk2=>?_⟩
  ·obtain ⟨j,xs,h1,h2⟩:=at' q hq
   exact ⟨s4 j q.i (q.l,q.b) (by rw [yj,h1];rfl) (by rw [yj,h1];rfl),(e3 j q xs h1 h2).2⟩
  obtain ⟨vz,va⟩:=hP
  have get:∀(j:Nat) (xs:List V),(x0::xss)[j]?=some xs->i < xs.length:=λj xs h2=>by
   cases j with
   |zero=>cases h2;exact hi
   |succ j=>exact yao hi (hn xs (yr (show xss[j]?=some xs by simpa using h2)))
  have pg:∀(j:Nat) (p:V) (xs:List V),((x0::xss).map λxs=>xs.getD i .non)[j]?=some p->(x0::xss)[j]?=some xs->xs[i]?=some p:=λj p xs hp hx=>by
   rw [yj,hx] at hp
   have hp':xs.getD i .non=p:=yt.inj hp
   rw [<-hp',yh (get j xs hx)]
   simp [ybw,yh (get j xs hx)]
  have rel:Sv ((x0::xss).map λxs=>xs.getD i .non) vals.toList:=Sl6 (by rw [ye,len];simpa using vz.symm) λj p v hp hv=>by
   have hj:j < (x0::xss).length:=by have:=(yi.mp hp).1;simpa using this
   have hx:(x0::xss)[j]?=some (x0::xss)[j]:=yh hj
   have hz:(q0::zs)[j]?=some ((q0::zs)[j]'(by omega)):=yh (by omega)
   have q1:=va j _ v hz (by simpa using hv)
   obtain ⟨u,hu,r⟩:=(e3 j _ _ hz hx).1.get (pg j p _ hp hx)
   rw [Array.getElem?_toList] at hu
   rw [q1] at hu
   cases hu
   exact r
  have kT:h''.IsTuple T vals:=by
   obtain ⟨o,q,r⟩:=tT
   exact ⟨o,kk2 T o (W.apart i T h' mid) q,r⟩
  have cht:∀c,c∈z::TO::(q0::zs).map (·.i)->c∈z::TI::TO::(q0::zs).map (·.i):=λc hc=>by
   simp only [yp] at hc⊢
   grind
  obtain ⟨t1,t2,t3,t4⟩:=st''
  refine ⟨.ref T,upd H T (.tup ((x0::xss).map λxs=>xs.getD i .non)),I.turnTup (λc hc=>hf c (cht c hc)) (λc o hc e=>kk2 c o hc (kk c o hc e)) fT ⟨by rw [ye,len];exact sm,vals.toList,rel,by rw [Array.toArray_toList];exact kT⟩,rfl,
   ⟨T,_,I.hok.fresh fT,rfl,λxss' sq'=>?_,rfl⟩,⟨t1,by rw [yaq];exact t2,by simpa using t3,λj a l ha hl=>?_⟩,λc hc=>?_⟩
  ·have ex:xss'=x0::xss:=List.ext_getElem? λj=>by
    by_cases hj:j < (x0::xss).length
    ·have hj':j < xss'.length:=by rw [sq'.1,<-sq.1];exact hj
     have hl:j < ((q0::zs).map λq=>(q.l,q.b)).length:=by rw [<-sq.1];exact hj
     rw [yh hj,yh hj']
     exact congrArg some (I.seqB_inj (sq'.2 j _ _ (yh hl) (yh hj')) (sq.2 j _ _ (yh hl) (yh hj)))
    ·rw [ycv (by rw [sq'.1,<-sq.1];omega),ycv (by omega)]
   rw [ex]
   exact ⟨ye ..,pg⟩
  ·rw [yj] at ha hl
   obtain ⟨q,hq,rfl⟩:=yay.mp ha
   rw [hq] at hl
   cases hl
   exact (t4 q (yr hq)).1
  rw [Sw (λw'=>?_)]
  ·exact ((hf c hc).1)
  ·subst w'
   obtain ⟨o,e,_⟩:=ZNT.obj li st0 c hc
   exact absurd (yk e) (ybj.mpr fT)
 done:=by
  intro X hP hw hK hc i pins s σ H E I hf st hg
  subst hP hw hK
  obtain ⟨x0,xss,sq,hn,hi⟩:=hg
  obtain ⟨zs,e1,e2,e3⟩:=I.zes li sq
  subst e1 e2
  cases zs with
  |nil=>simp [SqN] at sq
  |cons q0 zs=>
  have len:=sq.1
  rw [ye] at len sm
  obtain ⟨s0,at',hn'⟩:=Ydn len hn e3
  have W:=Ydi (prog:=X.prog) (w:=X.w) (I.ok.hd hc) ⟨nd,λq hq=>ml (q.l,q.b) (ybc hq)⟩ sm hn'
  obtain ⟨s1,s2,⟨ws,lw,s3⟩,s4⟩:=st
  obtain rfl:i=q0.its.size:=by omega
  refine W.done s _ _ ⟨s1,by rw [yaq] at s2;exact s2,⟨ws,by simpa using lw,s3⟩,λq hq=>?_⟩ λh' tk kk=>⟨rfl,I.turnMany (λc hc=>hf c (by simp only [yp] at hc⊢;grind)) λc o hc e=>kk c o hc e⟩
  obtain ⟨j,xs,h1,h2⟩:=at' q hq
  exact ⟨s4 j q.i (q.l,q.b) (by rw [yj,h1];rfl) (by rw [yj,h1];rfl),(e3 j q xs h1 h2).2⟩
 self:=λ_ _ _ _ _ st h=>wpAny_pyIter_zip st.1 h
theorem Jxy {X:Cx} {ls:List (S1×Bool)} {R:It->Hp->Prop} {elts:List Expr} {kt:Nat} {pt:Pos} (I:Sm X pins σ H s) (hl:∀l∈ls,l.1 < s.heap.objs.size) (sm:ls.length<=S6) (q:R (Jrp X.K ls) H):
  Sc (model X.prog X.w) X.A (pyIter (.ref (gE s.heap ls).objs.size)) (PIE X pins σ (.Tuple elts kt pt) R) X.xe {s with heap:=gF s.heap ls}:=by
 obtain ⟨z1,z2,z3,z4,kk,big,nd⟩:=Jqx (ls:=ls) s.heap
 have li:(itA s.heap (zOs ls)).length=ls.length:=by rw [Jwy];simp
 refine wpAny_pyIter_zip z1 ⟨_,_,_,_,H,rfl,I.kept kk,Yat li sm nd λl hm hn=>absurd (big _ hn) (Nat.not_le.mpr (hl l hm)),⟨z1,z2,⟨_,by rw [ye,li],z3⟩,z4⟩,λd hd=>?_,q⟩
 exact I.fpOk (big d hd) (I.hok.fresh (big d hd))
def Jvv (xss:List (List V)) (i:Nat) (ps:List V):Prop:=ps.length=xss.length/\∀(j:Nat) (p:V) (xs:List V),ps[j]?=some p->xss[j]?=some xs->xs[i]?=some p
section
variable {K:Sd} {g:TG} {σ:St} {H:Hp} {ls:List (S1×Bool)} {x0:List V} {xss:List (List V)}
theorem Jwr {B:(Nat->St->Hp->Prop)->Nat->V->St->Hp->Prop} {F:St->Hp->Prop} (Pv:Nat->St->Hp->Prop) (h0:Pv 0 σ H) (hl:∀i σ H,i<=x0.length->Pv i σ H->SqN K H ls (x0::xss)) (hn:∀xs∈xss,x0.length<=xs.length)
  (hs:∀i ps σ H T,Jvv (x0::xss) i ps->Pv i σ H->H T=none->B Pv i (.ref T) σ (upd H T (.tup ps))) (hd:∀σ H,Pv x0.length σ H->F σ H):
  ∃W:Nat->Nat->St->Hp->Prop,(∃m,W 0 m σ H)/\∀i m σ H,W i m σ H->((Jrp K ls).stop i H/\F σ H)\/((Jrp K ls).go i H/\(∀σ' H',Pv (i+1) σ' H'->∃m',m' < m/\W (i+1) m' σ' H')/\∀x H',(Jrp K ls).yld i H x H'->B Pv i x σ H'):=by
 refine ⟨λi m σ H=>m=x0.length - i/\i<=x0.length/\Pv i σ H,⟨x0.length,by simp,yai _,h0⟩,?_⟩
 rintro i m σ H ⟨rfl,hi,p⟩
 have sq:=hl i σ H hi p
 by_cases hlt:i < x0.length
 ·refine .inr ⟨⟨x0,xss,sq,hn,hlt⟩,λσ' H' p'=>⟨x0.length - (i+1),by omega,rfl,hlt,p'⟩,λx H' y=>?_⟩
  obtain ⟨T,ps,hT,rfl,hp,rfl⟩:=y
  exact hs i ps σ _ T (hp _ sq) p hT
 ·obtain rfl:i=x0.length:=by omega
  exact .inl ⟨⟨x0,xss,sq,hn,rfl⟩,hd σ H p⟩
theorem Ybk {tb:TS} {D:Sc1} (Pv:Nat->St->Hp->Prop) (h0:Pv 0 σ H) (hl:∀i σ H,i<=x0.length->Pv i σ H->SqN K H ls (x0::xss)) (hn:∀xs∈xss,x0.length<=xs.length)
  (hs:∀i ps σ H T,Jvv (x0::xss) i ps->Pv i σ H->H T=none->g (.ref T) σ (upd H T (.tup ps)) λσ2 H2=>tb {D with nx:=Pv (i+1),ct:=Pv (i+1),bk:=D.nx} σ2 H2) (hd:∀σ H,Pv x0.length σ H->D.nx σ H):
  ∃W:Nat->Nat->St->Hp->Prop,(∃m,W 0 m σ H)/\∀i m σ H,W i m σ H->
   ((Jrp K ls).stop i H/\D.nx σ H)\/((Jrp K ls).go i H/\∃N:St->Hp->Prop,(∀σ' H',N σ' H'->∃m',m' < m/\W (i+1) m' σ' H')/\∀x H',(Jrp K ls).yld i H x H'->g x σ H' λσ2 H2=>tb {D with nx:=N,ct:=N,bk:=D.nx} σ2 H2):=by
 obtain ⟨W,w0,w1⟩:=Jwr (F:=D.nx) (B:=λPv i x σ H=>g x σ H λσ2 H2=>tb {D with nx:=Pv (i+1),ct:=Pv (i+1),bk:=D.nx} σ2 H2) Pv h0 hl hn hs hd
 exact ⟨W,w0,λi m σ H h=>(w1 i m σ H h).imp id λ⟨a,b,c⟩=>⟨a,_,b,c⟩⟩
theorem Jw6 {tt:TT} {te:TE} {R:Hp->Prop} (Pv:Nat->St->Hp->Prop) (h0:Pv 0 σ H) (hl:∀i σ H,i<=x0.length->Pv i σ H->SqN K H ls (x0::xss)) (hn:∀xs∈xss,x0.length<=xs.length)
  (hs:∀i ps σ H T,Jvv (x0::xss) i ps->Pv i σ H->H T=none->g (.ref T) σ (upd H T (.tup ps)) λσ3 H3=>tt σ3 H3 λb H4=>if b=true then te σ3 H4 (λv H5=>∃vs,H5 D=some (.lst vs)/\vs.length < S6/\Pv (i+1) σ3 (upd H5 D (.lst (vs++ [v])))) else Pv (i+1) σ3 H4)
  (hd:∀σ H,Pv x0.length σ H->R H):
  ∃W:Nat->Nat->St->Hp->Prop,(∃m,W 0 m σ H)/\∀i m σ' H',W i m σ' H'->((Jrp K ls).stop i H'/\R H')\/((Jrp K ls).go i H'/\∃N:St->Hp->Prop,(∀σ2 H2,N σ2 H2->∃m',m' < m/\W (i+1) m' σ2 H2)/\
   ∀x H2,(Jrp K ls).yld i H' x H2->g x σ' H2 λσ3 H3=>tt σ3 H3 λb H4=>if b=true then te σ3 H4 (λv H5=>∃vs,H5 D=some (.lst vs)/\vs.length < S6/\N σ3 (upd H5 D (.lst (vs++ [v])))) else N σ3 H4):=by
 obtain ⟨W,w0,w1⟩:=Jwr (F:=λ_=>R) (B:=λPv i x σ' H2=>g x σ' H2 λσ3 H3=>tt σ3 H3 λb H4=>if b=true then te σ3 H4 (λv H5=>∃vs,H5 D=some (.lst vs)/\vs.length < S6/\Pv (i+1) σ3 (upd H5 D (.lst (vs++ [v])))) else Pv (i+1) σ3 H4) Pv h0 hl hn hs hd
 exact ⟨W,w0,λi m σ H h=>(w1 i m σ H h).imp id λ⟨a,b,c⟩=>⟨a,_,b,c⟩⟩
end
theorem Yck {us:List S2}:∀{as:List S1},Sv (as.map V.ref) us->us=as.map Value.ref:=by
 induction us with
 |nil=>intro as h;cases as with|nil=>rfl|cons=>cases h
 |cons u us ih=>
  intro as h
  cases as with
  |nil=>cases h
  |cons a as=>
   cases h with
   |cons h1 h2=>
    obtain rfl:u=Value.ref a:=h1
    rw [ih h2]
    rfl
theorem Jy0 (a b c d):argsOk "object.__init__" ⟨[a,b,c,d],[]⟩:=by
 unfold argsOk;rw [signature?_of (n:=['_','_','t','i','n','i','_','_']) (by kernel_rfl) F.owner_object];kernel_rfl
set_option maxRecDepth 100000 in
set_option maxHeartbeats 4000000 in
theorem Yay (l1 l2 l3:S1) (b1 b2 b3:Bool) (xs ys us):
  Meets (Builtin.«zip.__new__» ⟨[.type "zip",.ref l1,.ref l2,.ref l3],[]⟩) (λ_ R s=>IsB s.heap l1 b1 xs/\IsB s.heap l2 b2 ys/\IsB s.heap l3 b3 us/\
   R (.ok (.ret (.ref (gE s.heap [(l1,b1),(l2,b2),(l3,b3)]).objs.size))) {s with heap:=gF s.heap [(l1,b1),(l2,b2),(l3,b3)]}):=
 .of_wp λprog w A R s h=>by
  obtain ⟨hp,g,d,tk,os⟩:=s
  obtain ⟨hl1,hl2,hl3,h⟩:=h
  have e0:=sub_zip
  have e1:=hl1
  have e2:IsB (Shared.heap ⟨(hp.push (itO l1 b1)),g,d,tk,os⟩) l2 b2 ys:=IsB.push (hl2) _
  have e3:IsB (Shared.heap ⟨((hp.push (itO l1 b1)).push (itO l2 b2)),g,d,tk,os⟩) l3 b3 us:=IsB.push (IsB.push (hl3) _) _
  wp_walk using Jrx e1,Jrx e2,Jrx e3
  exact ⟨_,rfl,h⟩
theorem Yz {prog:S7} {w:S9} {A:Sa} {E:S2->S3->Prop} {s:S3} {l1 l2 l3:S1} {b1 b2 b3:Bool} {xs ys us} {Q} (h1:IsB s.heap l1 b1 xs) (h2:IsB s.heap l2 b2 ys) (h3:IsB s.heap l3 b3 us) (h:Q (.ref (gE s.heap [(l1,b1),(l2,b2),(l3,b3)]).objs.size) {s with heap:=gF s.heap [(l1,b1),(l2,b2),(l3,b3)]}):
  Sc (model prog w) A (call (.type "zip") [.ref l1,.ref l2,.ref l3]) Q E s:=
 callType_new F.called_zip (by decide) (by kernel_rfl) (by kernel_rfl) (λobj=>Jy0 obj _ _ _) F.entry_zip_new (Yay l1 l2 l3 b1 b2 b3 xs ys us) ⟨h1,h2,h3,⟨_,(Jqx s.heap).1,rfl⟩,h⟩
abbrev Sj1 (K:Sd) (l1 l2 l3:S1) (b1 b2 b3:Bool):It:=Jrp K [(l1,b1),(l2,b2),(l3,b3)]
theorem Swy {l1 l2 l3:S1} {b1 b2 b3:Bool} {xs ys us:List V} {K:Sd} {H:Hp} (h:SqB K H l1 b1 xs/\SqB K H l2 b2 ys/\SqB K H l3 b3 us):SqN K H [(l1,b1),(l2,b2),(l3,b3)] [xs,ys,us]:=by
 obtain ⟨q1,q2,q3⟩:=h
 refine ⟨rfl,λj l x e1 e2=>?_⟩
 match j with
 |0=>cases e1;cases e2;exact q1
 |1=>cases e1;cases e2;exact q2
 |2=>cases e1;cases e2;exact q3
 |j+3=>simp at e1
theorem Smn {xs ys us:List V} {i:Nat} {ps:List V} {G:List V->Prop} (h:Jvv [xs,ys,us] i ps) (k:∀x y u,xs[i]?=some x->ys[i]?=some y->us[i]?=some u->G [x,y,u]):G ps:=by
 obtain ⟨l,f⟩:=h
 match ps,l with
 | [x,y,u],_=>exact k x y u (f 0 x xs rfl rfl) (f 1 y ys rfl rfl) (f 2 u us rfl rfl)
def Srg (K:Sd) (b1 b2 b3:Bool) (ta:TA):TI:=λσ H R=>ta σ H λvs H1=>∃a b c,vs= [.ref a,.ref b,.ref c]/\(∃xs,SqB K H1 a b1 xs)/\(∃xs,SqB K H1 b b2 xs)/\(∃xs,SqB K H1 c b3 xs)/\R (Sj1 K a b c b1 b2 b3) H1
theorem Yee (b1 b2 b3) (hg:Gl X "zip") (hm:X.mg "zip" =none) (ha:PA X [a,b,c] ta) (hs:starEach [a,b,c] X.env= [(false,eval a X.env),(false,eval b X.env),(false,eval c X.env)]:=by rfl) (hs2:starEach [b,c] X.env= [(false,eval b X.env),(false,eval c X.env)]:=by rfl):
  PI X (.Tuple elts kt pt) (.Call (.Name "zip" p) [a,b,c] [] pos) (Srg X.K b1 b2 b3 ta):=by
 intro pins s σ H R I h
 refine Call_ (Jpm I hg hm Jz9 (PyProof.Rows.callWith_type1 (thn (ha pos pins s σ H _ I h) λus s1 zq=>?_) (by rw [hs,hs2]) (by rw [hs2];rfl)))
 obtain ⟨vs,H1,I1,r1,q1⟩:=zq
 obtain ⟨l1,l2,l3,rfl,⟨x1,q1⟩,⟨x2,q2⟩,⟨x3,q3⟩,q⟩:=q1
 obtain rfl:=Yck (as:=[l1,l2,l3]) r1
 obtain ⟨_,_,p1⟩:=I1.seqB q1
 obtain ⟨_,_,p2⟩:=I1.seqB q2
 obtain ⟨_,_,p3⟩:=I1.seqB q3
 refine Yz p1 p2 p3 (Jxy I1 (λl hl=>?_) (show 3<=S6 by decide) q)
 simp only [yp,yaw,or_false] at hl
 rcases hl with rfl|rfl|rfl
 ·exact p1.lt
 ·exact p2.lt
 ·exact p3.lt
section
variable {K:Sd} {g:TG} {σ:St} {H:Hp} {l1 l2 l3:S1} {b1 b2 b3:Bool} {xs ys us:List V}
theorem Ya2 {tt:TT} {te:TE} {R:Hp->Prop} (Pv:Nat->St->Hp->Prop) (h0:Pv 0 σ H) (hl:∀i σ H,i<=xs.length->Pv i σ H->SqB K H l1 b1 xs/\SqB K H l2 b2 ys/\SqB K H l3 b3 us) (e1:xs.length=ys.length) (e2:xs.length=us.length)
  (hs:∀i x y u σ H T,xs[i]?=some x->ys[i]?=some y->us[i]?=some u->Pv i σ H->H T=none->g (.ref T) σ (upd H T (.tup [x,y,u])) λσ3 H3=>tt σ3 H3 λb H4=>if b=true then te σ3 H4 (λv H5=>∃vs,H5 D=some (.lst vs)/\vs.length < S6/\Pv (i+1) σ3 (upd H5 D (.lst (vs++ [v])))) else Pv (i+1) σ3 H4)
  (hd:∀σ H,Pv xs.length σ H->R H):
  ∃W:Nat->Nat->St->Hp->Prop,(∃m,W 0 m σ H)/\∀i m σ' H',W i m σ' H'->((Sj1 K l1 l2 l3 b1 b2 b3).stop i H'/\R H')\/((Sj1 K l1 l2 l3 b1 b2 b3).go i H'/\∃N:St->Hp->Prop,(∀σ2 H2,N σ2 H2->∃m',m' < m/\W (i+1) m' σ2 H2)/\
   ∀x H2,(Sj1 K l1 l2 l3 b1 b2 b3).yld i H' x H2->g x σ' H2 λσ3 H3=>tt σ3 H3 λb H4=>if b=true then te σ3 H4 (λv H5=>∃vs,H5 D=some (.lst vs)/\vs.length < S6/\N σ3 (upd H5 D (.lst (vs++ [v])))) else N σ3 H4):=
 Jw6 (xss:=[ys,us]) Pv h0 (λi σ H hi p=>Swy (hl i σ H hi p)) (by simp only [yp,yaw,or_false];rintro _ (rfl|rfl) <;> omega) (λi ps σ H T hp p hT=>Smn (G:=λps=>g (.ref T) σ (upd H T (.tup ps)) λσ3 H3=>tt σ3 H3 λb H4=>if b=true then te σ3 H4 (λv H5=>∃vs,H5 D=some (.lst vs)/\vs.length < S6/\Pv (i+1) σ3 (upd H5 D (.lst (vs++ [v])))) else Pv (i+1) σ3 H4) hp λx y u h1 h2 h3=>hs i x y u σ H T h1 h2 h3 p hT) hd
end
end L2
namespace L2
end L2
namespace L2
open PySem PySem.Spec PyProof.Rows PySem.W
section
variable {K:Sd} {g:TG} {σ:St} {H:Hp}
theorem Jww {tb:TS} {D:Sc1} (Pv:Nat->St->Hp->Prop) (h0:Pv 0 σ H) (hl:∀i σ H,i<=xs.length->Pv i σ H->Ss K H a xs)
  (hs:∀i x σ H T,xs[i]?=some x->Pv i σ H->H T=none->g (.ref T) σ (upd H T (.tup [.int i,x])) λσ2 H2=>tb {D with nx:=Pv (i+1),ct:=Pv (i+1),bk:=D.nx} σ2 H2) (hd:∀σ H,Pv xs.length σ H->D.nx σ H):
  ∃W:Nat->Nat->St->Hp->Prop,(∃m,W 0 m σ H)/\∀i m σ H,W i m σ H->
   ((ItE K a).stop i H/\D.nx σ H)\/((ItE K a).go i H/\∃N:St->Hp->Prop,(∀σ' H',N σ' H'->∃m',m' < m/\W (i+1) m' σ' H')/\∀x H',(ItE K a).yld i H x H'->g x σ H' λσ2 H2=>tb {D with nx:=N,ct:=N,bk:=D.nx} σ2 H2):=by
 refine ⟨λi m σ H=>m=xs.length - i/\i<=xs.length/\Pv i σ H,⟨xs.length,by simp,yai _,h0⟩,?_⟩
 rintro i m σ H ⟨rfl,hi,p⟩
 have q:=hl i σ H hi p
 by_cases hlt:i < xs.length
 ·refine .inr ⟨⟨xs,xs[i],q,by simp [hlt]⟩,Pv (i+1),λσ' H' p'=>⟨xs.length - (i+1),by omega,rfl,hlt,p'⟩,λx H' y=>?_⟩
  obtain ⟨T,u,hT,rfl,hu,rfl⟩:=y
  exact hs i u σ _ T (hu xs q) p hT
 ·have e:i=xs.length:=by omega
  subst e
  exact .inl ⟨⟨xs,q,rfl⟩,hd σ H p⟩
theorem Ybi {tb:TS} {D:Sc1} (Pv:Nat->St->Hp->Prop) (h0:Pv 0 σ H) (hl:∀i σ H,i<=xs.length->Pv i σ H->Sy K H a xs)
  (hs:∀i x σ H T,xs[i]?=some x->Pv i σ H->H T=none->g (.ref T) σ (upd H T (.tup [.int i,x])) λσ2 H2=>tb {D with nx:=Pv (i+1),ct:=Pv (i+1),bk:=D.nx} σ2 H2) (hd:∀σ H,Pv xs.length σ H->D.nx σ H):
  ∃W:Nat->Nat->St->Hp->Prop,(∃m,W 0 m σ H)/\∀i m σ H,W i m σ H->
   ((ItU K a).stop i H/\D.nx σ H)\/((ItU K a).go i H/\∃N:St->Hp->Prop,(∀σ' H',N σ' H'->∃m',m' < m/\W (i+1) m' σ' H')/\∀x H',(ItU K a).yld i H x H'->g x σ H' λσ2 H2=>tb {D with nx:=N,ct:=N,bk:=D.nx} σ2 H2):=by
 refine ⟨λi m σ H=>m=xs.length - i/\i<=xs.length/\Pv i σ H,⟨xs.length,by simp,yai _,h0⟩,?_⟩
 rintro i m σ H ⟨rfl,hi,p⟩
 have q:=hl i σ H hi p
 by_cases hlt:i < xs.length
 ·refine .inr ⟨⟨xs,xs[i],q,by simp [hlt]⟩,Pv (i+1),λσ' H' p'=>⟨xs.length - (i+1),by omega,rfl,hlt,p'⟩,λx H' y=>?_⟩
  obtain ⟨T,u,hT,rfl,hu,rfl⟩:=y
  exact hs i u σ _ T (hu xs q) p hT
 ·have e:i=xs.length:=by omega
  subst e
  exact .inl ⟨⟨xs,q,rfl⟩,hd σ H p⟩
theorem Ya1 {xs} {tt:TT} {te:TE} {R:Hp->Prop} (Pv:Nat->St->Hp->Prop) (h0:Pv 0 σ H) (hl:∀i σ H,i<=xs.length->Pv i σ H->Sy K H a xs)
  (hs:∀i x σ H T,xs[i]?=some x->Pv i σ H->H T=none->g (.ref T) σ (upd H T (.tup [.int i,x])) λσ3 H3=>tt σ3 H3 λb H4=>if b=true then te σ3 H4 (λv H5=>∃vs,H5 D=some (.lst vs)/\vs.length < S6/\Pv (i+1) σ3 (upd H5 D (.lst (vs++ [v])))) else Pv (i+1) σ3 H4)
  (hd:∀σ H,Pv xs.length σ H->R H):
  ∃W:Nat->Nat->St->Hp->Prop,(∃m,W 0 m σ H)/\∀i m σ' H',W i m σ' H'->((ItU K a).stop i H'/\R H')\/((ItU K a).go i H'/\∃N:St->Hp->Prop,(∀σ2 H2,N σ2 H2->∃m',m' < m/\W (i+1) m' σ2 H2)/\
   ∀x H2,(ItU K a).yld i H' x H2->g x σ' H2 λσ3 H3=>tt σ3 H3 λb H4=>if b=true then te σ3 H4 (λv H5=>∃vs,H5 D=some (.lst vs)/\vs.length < S6/\N σ3 (upd H5 D (.lst (vs++ [v])))) else N σ3 H4):=by
 refine ⟨λi m σ H=>m=xs.length - i/\i<=xs.length/\Pv i σ H,⟨xs.length,by simp,yai _,h0⟩,?_⟩
 rintro i m σ H ⟨rfl,hi,p⟩
 have q:=hl i σ H hi p
 by_cases hlt:i < xs.length
 ·refine .inr ⟨⟨xs,xs[i],q,by simp [hlt]⟩,Pv (i+1),λσ' H' p'=>⟨xs.length - (i+1),by omega,rfl,hlt,p'⟩,λx H' y=>?_⟩
  obtain ⟨T,u,hT,rfl,hu,rfl⟩:=y
  exact hs i u σ _ T (hu xs q) p hT
 ·have e:i=xs.length:=by omega
  subst e
  exact .inl ⟨⟨xs,q,rfl⟩,hd σ H p⟩
end
section
variable {X:Cx}
theorem Jzp {K} (h:X.K=K):OpR X (compareOp .In) (rIn K false):=by subst h;exact Yaf
theorem Jvh {K} (h:X.K=K):Jnr X (.builtin "len") (λxs H Q=>∃p ys,xs= [.ref p]/\(Ss K H p ys\/Sy K H p ys)/\Q (.int ys.length) H):=by subst h;exact Jmd
theorem Jqq {K} (h:X.K=K) (hc:X.calm=true):Jnr X (.builtin "sum") (Srw K):=by subst h;exact Jpb hc
theorem Jo1 {K} (h:X.K=K) (he:PE X e ta) (hb:attributeBase e f X.env (eval e X.env)=eval e X.env):PE X (.Attribute e f pos) (Ssh K ta f):=by subst h;exact Jm9 he hb
theorem Jzs {K} (h1:X.prog=P) (h2:X.w=w) (h3:X.K=K) (h4:X.mg=mg) (h5:X.base=base) (he:PE X o ta) (hr:San j X.A)
  (ht:eval (.Call (.Attribute o m apos) [] [] pos) X.env=(do
   let ov<-eval o X.env
   standAt apos.atName
   let (f,first)<-holding [ov] (getMethod ov m pl)
   callWith pos f first (backTo pos (starEach [] X.env)) (backToKw pos (keywordEach [] X.env))):=by rfl):PE X (.Call (.Attribute o m apos) [] [] pos) (Jxr P w K mg base j m ta Jvt):=by
 subst h1 h2 h3 h4 h5
 exact Jqv he hr ht
end
section
variable {X:Cx} {pos:Pos}
theorem Jqw {K} {k} (h1:X.K=K) (hc:X.calm=true) (h:PGs X es t)
  (hn:(assignEach es X.env).length=n:=by rfl) (hst:(assignEach es X.env).findIdx? (·.1)=none:=by rfl):PG X (.Tuple es k pos) (Sjh K n t):=by
 subst h1
 exact Jqe hc h hn hst
end
section
variable {g:TG} {tt:TT} {te:TE} {H:Hp} {D:S1} {σ:St} {R:Hp->Prop}
theorem Jy6 {K} {a} {xs} (Pv:Nat->St->Hp->Prop) (h0:Pv 0 σ H) (hl:∀i σ H,i<=xs.length->Pv i σ H->Sy K H a xs)
  (hs:∀i x σ H,xs[i]?=some x->Pv i σ H->g x σ H λσ3 H3=>tt σ3 H3 λb H4=>if b=true then te σ3 H4 (λv H5=>∃ys,H5 D=some (.lst ys)/\ys.length < S6/\Pv (i+1) σ3 (upd H5 D (.lst (ys++ [v])))) else Pv (i+1) σ3 H4)
  (hd:∀σ H,Pv xs.length σ H->R H):
  ∃W:Nat->Nat->St->Hp->Prop,(∃m,W 0 m σ H)/\∀i m σ' H',W i m σ' H'->((Itt K a).stop i H'/\R H')\/((Itt K a).go i H'/\∃N:St->Hp->Prop,(∀σ2 H2,N σ2 H2->∃m',m' < m/\W (i+1) m' σ2 H2)/\
   ∀x H2,(Itt K a).yld i H' x H2->g x σ' H2 λσ3 H3=>tt σ3 H3 λb H4=>if b=true then te σ3 H4 (λv H5=>∃ys,H5 D=some (.lst ys)/\ys.length < S6/\N σ3 (upd H5 D (.lst (ys++ [v])))) else N σ3 H4):=by
 refine ⟨λi m σ H=>m=xs.length - i/\i<=xs.length/\Pv i σ H,⟨xs.length,by simp,yai _,h0⟩,?_⟩
 rintro i m σ H ⟨rfl,hi,p⟩
 have q:=hl i σ H hi p
 by_cases hlt:i < xs.length
 ·refine .inr ⟨⟨xs,xs[i],q,by simp [hlt]⟩,Pv (i+1),λσ' H' p'=>⟨xs.length - (i+1),by omega,rfl,hlt,p'⟩,λx H' y=>?_⟩
  obtain ⟨e,y⟩:=y
  subst e
  exact hs i x σ _ (y xs q) p
 ·have e:i=xs.length:=by omega
  subst e
  exact .inl ⟨⟨xs,q,yg _⟩,hd σ H p⟩
end
theorem Jug {K} {a D} {xs} {te:TE} {R:Hp->Prop} {H} {o} {rest} (ys) (hD:H D=none) (el:ys.length=xs.length) (sz:xs.length<=2000) (hq:H a=some (.lst xs))
  (he:∀(i:Nat) x y H' Q,xs[i]?=some x->ys[i]?=some y->Si H H'->(∀H5,Si H' H5->Q y H5)->te (some x::rest) H' Q) (hd:∀H',Si H H'->H' D=some (.lst ys)->R H'):
  ∃W:Nat->Nat->St->Hp->Prop,(∃m,W 0 m (o::rest) (upd H D (.lst [])))/\∀i m σ' H',W i m σ' H'->((Itl K a).stop i H'/\R H')\/((Itl K a).go i H'/\∃N:St->Hp->Prop,(∀σ2 H2,N σ2 H2->∃m',m' < m/\W (i+1) m' σ2 H2)/\
   ∀x H2,(Itl K a).yld i H' x H2->Jog 0 x σ' H2 λσ3 H3=>Jxs σ3 H3 λb H4=>if b=true then te σ3 H4 (λv H5=>∃ys,H5 D=some (.lst ys)/\ys.length < S6/\N σ3 (upd H5 D (.lst (ys++ [v])))) else N σ3 H4):=by
 refine Jnk (λi σ H'=>(∃o,σ=o::rest)/\H' D=some (.lst (ys.take i))/\Si H H') ⟨⟨_,rfl⟩,Sn,Si.upd hD⟩ (λi σ H' _ ⟨_,_,sm⟩=>Ss.of (sm _ _ hq)) ?_ ?_
 ·rintro i x σ H' hx ⟨⟨o,rfl⟩,hDs,sm⟩
  have hi:i < ys.length:=by rw [el];exact (yi.mp hx).1
  refine Jn6 (he i x ys[i] H' _ hx (yh hi) sm λH5 s5=>⟨_,s5 _ _ hDs,?_,⟨_,rfl⟩,?_,λc u z=>?_⟩)
  ·rw [yad]
   exact Jmn (by omega)
  ·rw [Sn,yy,yh hi]
   rfl
  ·rw [Sw (Jm1 z hD)]
   exact s5 _ _ (sm _ _ z)
 ·rintro σ H' ⟨_,hDs,sm⟩
  rw [yae (by omega)] at hDs
  exact hd H' sm hDs
theorem Jw5 {K} {a D} {xs} {te:TE} {R:Hp->Prop} {H} {o} {rest} (ys) (hD:H D=none) (el:ys.length=xs.length) (sz:xs.length<=2000) (hq:H a=some (.tup xs))
  (he:∀(i:Nat) x y H' Q,xs[i]?=some x->ys[i]?=some y->Si H H'->(∀H5,Si H' H5->Q y H5)->te (some x::rest) H' Q) (hd:∀H',Si H H'->H' D=some (.lst ys)->R H'):
  ∃W:Nat->Nat->St->Hp->Prop,(∃m,W 0 m (o::rest) (upd H D (.lst [])))/\∀i m σ' H',W i m σ' H'->((Itt K a).stop i H'/\R H')\/((Itt K a).go i H'/\∃N:St->Hp->Prop,(∀σ2 H2,N σ2 H2->∃m',m' < m/\W (i+1) m' σ2 H2)/\
   ∀x H2,(Itt K a).yld i H' x H2->Jog 0 x σ' H2 λσ3 H3=>Jxs σ3 H3 λb H4=>if b=true then te σ3 H4 (λv H5=>∃ys,H5 D=some (.lst ys)/\ys.length < S6/\N σ3 (upd H5 D (.lst (ys++ [v])))) else N σ3 H4):=by
 refine Jy6 (λi σ H'=>(∃o,σ=o::rest)/\H' D=some (.lst (ys.take i))/\Si H H') ⟨⟨_,rfl⟩,Sn,Si.upd hD⟩ (λi σ H' _ ⟨_,_,sm⟩=>Sy.of (sm _ _ hq)) ?_ ?_
 ·rintro i x σ H' hx ⟨⟨o,rfl⟩,hDs,sm⟩
  have hi:i < ys.length:=by rw [el];exact (yi.mp hx).1
  refine Jn6 (he i x ys[i] H' _ hx (yh hi) sm λH5 s5=>⟨_,s5 _ _ hDs,?_,⟨_,rfl⟩,?_,λc u z=>?_⟩)
  ·rw [yad]
   exact Jmn (by omega)
  ·rw [Sn,yy,yh hi]
   rfl
  ·rw [Sw (Jm1 z hD)]
   exact s5 _ _ (sm _ _ z)
 ·rintro σ H' ⟨_,hDs,sm⟩
  rw [yae (by omega)] at hDs
  exact hd H' sm hDs
section
variable {X:Cx}
theorem Ybz {K} (h:X.K=K):MtR X "str.join" (Skv K):=by subst h;exact Ye0
theorem Jv8 {K} (h:X.K=K):SlR X (Srv K):=by subst h;exact Jxn
theorem Sn0 {K} {apos cpos} {id} (h:X.K=K) (pa:PlainAttrs T) (slot:Slot T name id) (hty:typeOf (.builtin id)=pure (.type "method_descriptor")) (hm:MtR X id r) (ho:PE X o to) (ha:PA X (e::es) t)
  (hbase:attributeBase o name X.env (eval o X.env)=eval o X.env:=by rfl)
  (hfew:((backTo cpos (starEach (e::es) X.env)).all (λx=>!x.1)&&(backToKw cpos (keywordEach [] X.env)).all (λx=>x.1.isSome)
   &&decide ((e::es).length+([]:List Keyword).length+(if ([]:List Keyword).isEmpty then 0 else 1) < 30))=true:=by rfl)
  (hline:(apos.endLine==cpos.line)=true:=by rfl) (hs:starEach (e::es) X.env=(false,eval e X.env)::starEach es X.env:=by rfl) (hplain:(backTo cpos (starEach es X.env)).any (·.1)=false:=by rfl):
  PE X (.Call (.Attribute o name apos) (e::es) [] cpos) (tBM K T r to t):=by
 subst h
 exact Jps pa slot hty hm ho ha hbase hfew hline hs hplain
end
theorem But.new (b:But p H H') (hD:H D=none) (hp:Sby H p):But p H (upd H' D o):=by
 have ne:p≠D:=λe=>by obtain ⟨_,_,_,q⟩:=hp;rw [e,hD] at q;cases q
 refine ⟨λc u n e=>?_,?_⟩
 ·rw [Sw (λz=>by subst z;rw [hD] at e;cases e)]
  exact b.1 c u n e
 ·obtain ⟨x,y,z,q⟩:=b.2
  exact ⟨x,y,z,by rw [Sw ne];exact q⟩
inductive Srp (x:V) (y:V) (H:Hp) (Q:VK):Prop where
 |mk (a:_) (b:_) (xs:_) (ys:_) (_:x= .ref a) (_:y= .ref b) (_:H a=some (.tup xs)) (_:H b=some (.tup ys)) (_:xs.length+ys.length<=S6) (_:∀p H',Si H H'->H' p=some (.tup (xs++ys))->Q (.ref p) H')
section
variable {X:Cx}
theorem Ju5:OpR X (binaryOp .Add) Srp:=by
 rintro pins s σ H x y v u Q I rx ry ⟨a,b,xs,ys,rfl,rfl,ha,hb,hz,q⟩
 by_cases hx:xs= []
 ·subst hx
  obtain rfl:v=Value.ref a:=rx
  obtain rfl:u=Value.ref b:=ry
  obtain ⟨its,r1,ht,_⟩:=I.tuple (Sy.of ha)
  obtain ⟨its2,r2,hb',_⟩:=I.tuple (Sy.of hb)
  obtain rfl:its= []:=r1.nil_iff.mpr rfl
  obtain ⟨⟨cls,dd,data,sl⟩,ho,hc,n,hd⟩:=id ht
  obtain ⟨⟨cls2,dd2,data2,sl2⟩,ho2,hc2,n2,hd2⟩:=id hb'
  subst hc hd hc2 hd2
  exact concat_meets ⟨_,ho,rfl⟩ ⟨_,ho2,rfl⟩ noFill_tuple_add seq_tuple_add PySem.F.slot_tuple_add PySem.F.entry_tuple_add (PySem.F.args_tuple_add_2 _ _)
   (tuple_addW0 a b _ _ n n2 dd dd2 sl sl2 (by simp)) ⟨ho,ho2,⟨.ref b,H,I,rfl,q b H (Si.refl H) hb⟩⟩
 ·refine Ye7 pins s σ H _ _ v u Q I rx ry ⟨a,b,xs,ys,rfl,rfl,Sy.of ha,Sy.of hb,hx,hz,λe=>?_,λ_ p hp=>q p _ (Si.upd hp) Sn⟩
  subst e
  exact q a H (Si.refl H) (by rw [ybb];exact ha)
end
theorem Jy1 (a b c d e):argsOk "object.__init__" ⟨[a,b,c,d,e],[]⟩:=by
 unfold argsOk;rw [signature?_of (n:=['_','_','t','i','n','i','_','_']) (by kernel_rfl) F.owner_object];kernel_rfl
set_option maxRecDepth 100000 in
set_option maxHeartbeats 4000000 in
theorem Yaz (l1 l2 l3 l4:S1) (b1 b2 b3 b4:Bool) (xs ys us vs):
  Meets (Builtin.«zip.__new__» ⟨[.type "zip",.ref l1,.ref l2,.ref l3,.ref l4],[]⟩) (λ_ R s=>IsB s.heap l1 b1 xs/\IsB s.heap l2 b2 ys/\IsB s.heap l3 b3 us/\IsB s.heap l4 b4 vs/\
   R (.ok (.ret (.ref (gE s.heap [(l1,b1),(l2,b2),(l3,b3),(l4,b4)]).objs.size))) {s with heap:=gF s.heap [(l1,b1),(l2,b2),(l3,b3),(l4,b4)]}):=
 .of_wp λprog w A R s h=>by
  obtain ⟨hp,g,d,tk,os⟩:=s
  obtain ⟨hl1,hl2,hl3,hl4,h⟩:=h
  have e0:=sub_zip
  have e1:=hl1
  have e2:IsB (Shared.heap ⟨(hp.push (itO l1 b1)),g,d,tk,os⟩) l2 b2 ys:=IsB.push (hl2) _
  have e3:IsB (Shared.heap ⟨((hp.push (itO l1 b1)).push (itO l2 b2)),g,d,tk,os⟩) l3 b3 us:=IsB.push (IsB.push (hl3) _) _
  have e4:IsB (Shared.heap ⟨(((hp.push (itO l1 b1)).push (itO l2 b2)).push (itO l3 b3)),g,d,tk,os⟩) l4 b4 vs:=IsB.push (IsB.push (IsB.push (hl4) _) _) _
  wp_walk using Jrx e1,Jrx e2,Jrx e3,Jrx e4
  exact ⟨_,rfl,h⟩
theorem Ya0 {prog:S7} {w:S9} {A:Sa} {E:S2->S3->Prop} {s:S3} {l1 l2 l3 l4:S1} {b1 b2 b3 b4:Bool} {xs ys us vs} {Q} (h1:IsB s.heap l1 b1 xs) (h2:IsB s.heap l2 b2 ys) (h3:IsB s.heap l3 b3 us) (h4:IsB s.heap l4 b4 vs) (h:Q (.ref (gE s.heap [(l1,b1),(l2,b2),(l3,b3),(l4,b4)]).objs.size) {s with heap:=gF s.heap [(l1,b1),(l2,b2),(l3,b3),(l4,b4)]}):
  Sc (model prog w) A (call (.type "zip") [.ref l1,.ref l2,.ref l3,.ref l4]) Q E s:=
 callType_new F.called_zip (by decide) (by kernel_rfl) (by kernel_rfl) (λobj=>Jy1 obj _ _ _ _) F.entry_zip_new (Yaz l1 l2 l3 l4 b1 b2 b3 b4 xs ys us vs) ⟨h1,h2,h3,h4,⟨_,(Jqx s.heap).1,rfl⟩,h⟩
abbrev Sj2 (K:Sd) (l1 l2 l3 l4:S1) (b1 b2 b3 b4:Bool):It:=Jrp K [(l1,b1),(l2,b2),(l3,b3),(l4,b4)]
theorem Swz {l1 l2 l3 l4:S1} {b1 b2 b3 b4:Bool} {xs ys us vs:List V} {K:Sd} {H:Hp} (h:SqB K H l1 b1 xs/\SqB K H l2 b2 ys/\SqB K H l3 b3 us/\SqB K H l4 b4 vs):SqN K H [(l1,b1),(l2,b2),(l3,b3),(l4,b4)] [xs,ys,us,vs]:=by
 obtain ⟨q1,q2,q3,q4⟩:=h
 refine ⟨rfl,λj l x e1 e2=>?_⟩
 match j with
 |0=>cases e1;cases e2;exact q1
 |1=>cases e1;cases e2;exact q2
 |2=>cases e1;cases e2;exact q3
 |3=>cases e1;cases e2;exact q4
 |j+4=>simp at e1
theorem Smo {xs ys us vs:List V} {i:Nat} {ps:List V} {G:List V->Prop} (h:Jvv [xs,ys,us,vs] i ps) (k:∀x y u v,xs[i]?=some x->ys[i]?=some y->us[i]?=some u->vs[i]?=some v->G [x,y,u,v]):G ps:=by
 obtain ⟨l,f⟩:=h
 match ps,l with
 | [x,y,u,v],_=>exact k x y u v (f 0 x xs rfl rfl) (f 1 y ys rfl rfl) (f 2 u us rfl rfl) (f 3 v vs rfl rfl)
def Srh (K:Sd) (b1 b2 b3 b4:Bool) (ta:TA):TI:=λσ H R=>ta σ H λvs H1=>∃a b c d,vs= [.ref a,.ref b,.ref c,.ref d]/\(∃xs,SqB K H1 a b1 xs)/\(∃xs,SqB K H1 b b2 xs)/\(∃xs,SqB K H1 c b3 xs)/\(∃xs,SqB K H1 d b4 xs)/\R (Sj2 K a b c d b1 b2 b3 b4) H1
theorem Yef (b1 b2 b3 b4) (hg:Gl X "zip") (hm:X.mg "zip" =none) (ha:PA X [a,b,c,d] ta) (hs:starEach [a,b,c,d] X.env= [(false,eval a X.env),(false,eval b X.env),(false,eval c X.env),(false,eval d X.env)]:=by rfl) (hs2:starEach [b,c,d] X.env= [(false,eval b X.env),(false,eval c X.env),(false,eval d X.env)]:=by rfl):
  PI X (.Tuple elts kt pt) (.Call (.Name "zip" p) [a,b,c,d] [] pos) (Srh X.K b1 b2 b3 b4 ta):=by
 intro pins s σ H R I h
 refine Call_ (Jpm I hg hm Jz9 (PyProof.Rows.callWith_type1 (thn (ha pos pins s σ H _ I h) λus s1 zq=>?_) (by rw [hs,hs2]) (by rw [hs2];rfl)))
 obtain ⟨vs,H1,I1,r1,q1⟩:=zq
 obtain ⟨l1,l2,l3,l4,rfl,⟨x1,q1⟩,⟨x2,q2⟩,⟨x3,q3⟩,⟨x4,q4⟩,q⟩:=q1
 obtain rfl:=Yck (as:=[l1,l2,l3,l4]) r1
 obtain ⟨_,_,p1⟩:=I1.seqB q1
 obtain ⟨_,_,p2⟩:=I1.seqB q2
 obtain ⟨_,_,p3⟩:=I1.seqB q3
 obtain ⟨_,_,p4⟩:=I1.seqB q4
 refine Ya0 p1 p2 p3 p4 (Jxy I1 (λl hl=>?_) (show 4<=S6 by decide) q)
 simp only [yp,yaw,or_false] at hl
 rcases hl with rfl|rfl|rfl|rfl
 ·exact p1.lt
 ·exact p2.lt
 ·exact p3.lt
 ·exact p4.lt
section
variable {K:Sd} {g:TG} {σ:St} {H:Hp} {l1 l2 l3 l4:S1} {b1 b2 b3 b4:Bool} {xs ys us vs:List V}
theorem Ya3 {tt:TT} {te:TE} {R:Hp->Prop} (Pv:Nat->St->Hp->Prop) (h0:Pv 0 σ H) (hl:∀i σ H,i<=xs.length->Pv i σ H->SqB K H l1 b1 xs/\SqB K H l2 b2 ys/\SqB K H l3 b3 us/\SqB K H l4 b4 vs) (e1:xs.length=ys.length) (e2:xs.length=us.length) (e3:xs.length=vs.length)
  (hs:∀i x y u v σ H T,xs[i]?=some x->ys[i]?=some y->us[i]?=some u->vs[i]?=some v->Pv i σ H->H T=none->g (.ref T) σ (upd H T (.tup [x,y,u,v])) λσ3 H3=>tt σ3 H3 λb H4=>if b=true then te σ3 H4 (λv H5=>∃vs,H5 D=some (.lst vs)/\vs.length < S6/\Pv (i+1) σ3 (upd H5 D (.lst (vs++ [v])))) else Pv (i+1) σ3 H4)
  (hd:∀σ H,Pv xs.length σ H->R H):
  ∃W:Nat->Nat->St->Hp->Prop,(∃m,W 0 m σ H)/\∀i m σ' H',W i m σ' H'->((Sj2 K l1 l2 l3 l4 b1 b2 b3 b4).stop i H'/\R H')\/((Sj2 K l1 l2 l3 l4 b1 b2 b3 b4).go i H'/\∃N:St->Hp->Prop,(∀σ2 H2,N σ2 H2->∃m',m' < m/\W (i+1) m' σ2 H2)/\
   ∀x H2,(Sj2 K l1 l2 l3 l4 b1 b2 b3 b4).yld i H' x H2->g x σ' H2 λσ3 H3=>tt σ3 H3 λb H4=>if b=true then te σ3 H4 (λv H5=>∃vs,H5 D=some (.lst vs)/\vs.length < S6/\N σ3 (upd H5 D (.lst (vs++ [v])))) else N σ3 H4):=
 Jw6 (xss:=[ys,us,vs]) Pv h0 (λi σ H hi p=>Swz (hl i σ H hi p)) (by simp only [yp,yaw,or_false];rintro _ (rfl|rfl|rfl) <;> omega) (λi ps σ H T hp p hT=>Smo (G:=λps=>g (.ref T) σ (upd H T (.tup ps)) λσ3 H3=>tt σ3 H3 λb H4=>if b=true then te σ3 H4 (λv H5=>∃vs,H5 D=some (.lst vs)/\vs.length < S6/\Pv (i+1) σ3 (upd H5 D (.lst (vs++ [v])))) else Pv (i+1) σ3 H4) hp λx y u v h1 h2 h3 h4=>hs i x y u v σ H T h1 h2 h3 h4 p hT) hd
theorem Ssn {T} {x y u v} {σ} {H} {A B:L2.St->Hp->Prop} (hT:Sy K H T [x,y,u,v]) (h:A ((((σ.set i (some x)).set j (some y)).set k (some u)).set l (some v)) H):
  Sjh K 4 (Jtb (Jog i) (Jtb (Jog j) (Jtb (Jog k) (Jtb (Jog l) Smf)))) (.ref T) σ H λσ3 H3=>Jxs σ3 H3 λb H4=>if b=true then A σ3 H4 else B σ3 H4:=⟨T,_,rfl,hT,rfl,_,_,rfl,_,_,rfl,_,_,rfl,_,_,rfl,rfl,h⟩
end
end L2
namespace L2
end L2
namespace L2
open PySem PySem.Spec PyProof.Rows PySem.W
theorem Yah {K} {m} {apos pos} {pl} (h1:X.prog=P) (h2:X.w=w) (h3:X.K=K) (h4:X.mg=mg) (h5:X.base=base) (he:PE X o ta) (hr:San j X.A) (ha:PA X (e::es) t)
  (hst:starEach (e::es) X.env=(false,eval e X.env)::starEach es X.env:=by rfl) (hpl:(backTo pos (starEach es X.env)).any (·.1)=false:=by rfl)
  (ht:eval (.Call (.Attribute o m apos) (e::es) [] pos) X.env=(do
   let ov<-eval o X.env
   standAt apos.atName
   let (f,first)<-holding [ov] (getMethod ov m pl)
   callWith pos f first (backTo pos (starEach (e::es) X.env)) (backToKw pos (keywordEach [] X.env))):=by rfl):
  PE X (.Call (.Attribute o m apos) (e::es) [] pos) (Jxr P w K mg base j m ta t):=by
 subst h1 h2 h3 h4 h5
 exact Js8 he hr ha hst hpl ht
inductive Srr (K:Sd) (x:V) (y:V) (H:Hp) (Q:VK):Prop where
 |mk (p:_) (xs:_) (i:_) (v:_) (_:x= .ref p) (_:y= .int i) (_:Ss K H p xs) (_:0<=i) (_:atI xs i=some v) (_:Q v H)
theorem Ybl:Squ X (Srr X.K):=by
 rintro pins s σ H x y v u Q I rx ry ⟨p,xs,i,z,rfl,rfl,hq,h0,he,q⟩
 cases rx
 obtain ⟨t,rfl⟩:=ry
 obtain ⟨its,r,pl,hz⟩:=I.list hq
 obtain ⟨j,h1,h2,h3,h4,h5⟩:=Jtz he
 obtain ⟨w,ew,rw'⟩:=r.get h2
 have hn:=Jrc
 have hj:=by
  rw [seqIndex_of h0 h5] at h1
  exact yt.inj h1
 exact wpAny_getItem_list pl.isList h0 (by omega) (by rw [hj];simpa using ew) ⟨z,H,I,rw',q⟩
section
variable {X:Cx}
end
theorem ft_mk {K} (X:K.In h) (G:h.Ns mainGlobals mg) {st} {dV kV ct} (a:PySem.W.nsIn K mainGlobals q=some (some (.ref f)))
  (l:K.lookup f=some ⟨oc,od,.func (PySem.W.fnOf q q (Jnn st) (Jnb st) (Jm0 st) dV kV dc pm an cd ct),sl⟩) (c:PySem.W.codeIn K cd q=true) (k:PySem.W.keepIn K (.ref f)=true)
  (hb:∀kV doc pm an cdv ct us,us.length=ps.length->bindArgs (PySem.W.fnOf q q (Jnn st) (Jnb st) (Jm0 st) dV kV doc pm an cdv ct) ⟨us,[]⟩=pure (ps.zip us)):FT K mg q st ps f (PySem.W.fnOf q q (Jnn st) (Jnb st) (Jm0 st) dV kV dc pm an cd ct):=
 ⟨PySem.W.mg_of X G a,Jwx l c k,.all (hb kV dc pm an cd ct)⟩
theorem fm_mk {K} {st} {dV kV ct}
  (l:K.lookup f=some ⟨oc,od,.func (PySem.W.fnOf n q (Jnn st) (Jnb st) (Jm0 st) dV kV dc pm an cd ct),sl⟩) (c:PySem.W.codeIn K cd q=true) (k:PySem.W.keepIn K (.ref f)=true)
  (hb:∀kV doc pm an cdv ct us,us.length=ps.length->bindArgs (PySem.W.fnOf n q (Jnn st) (Jnb st) (Jm0 st) dV kV doc pm an cdv ct) ⟨us,[]⟩=pure (ps.zip us)):FM K n q st ps f (PySem.W.fnOf n q (Jnn st) (Jnb st) (Jm0 st) dV kV dc pm an cd ct):=
 ⟨Jwx l c k,.all (hb kV dc pm an cd ct)⟩
theorem xc_mk {K} {sub}
  (l:K.lookup C=some (excClassObj nm q C N bs (.ref W::VEm) true sn sub ab col dd u v w x y "ValueError.__new__")) (t:PySem.W.tailIn K VEm (.ref W::VEm)=true) (a:xcB K C fI=true):Sac K C W fI:=⟨⟨_,_,_,_,_,_,_,_,_,_,_,_,_,_,l⟩,t,a⟩
theorem ec_mk {K} (l:K.lookup C=some ⟨.type "type",dd,.cls cl,s⟩) (m:Sg K C (.type "BaseException")=some true):Siy K C:=⟨⟨_,_,_,l⟩,m⟩
section
variable {K:Sd} {g:TG} {σ:St} {H:Hp}
theorem Yb7 {xs} {tt:TT} {te:TE} {R:Hp->Prop} (Pv:Nat->St->Hp->Prop) (h0:Pv 0 σ H) (hl:∀i σ H,i<=xs.length->Pv i σ H->Ss K H a xs)
  (hs:∀i x σ H T,xs[i]?=some x->Pv i σ H->H T=none->g (.ref T) σ (upd H T (.tup [.int i,x])) λσ3 H3=>tt σ3 H3 λb H4=>if b=true then te σ3 H4 (λv H5=>∃vs,H5 D=some (.lst vs)/\vs.length < S6/\Pv (i+1) σ3 (upd H5 D (.lst (vs++ [v])))) else Pv (i+1) σ3 H4)
  (hd:∀σ H,Pv xs.length σ H->R H):
  ∃W:Nat->Nat->St->Hp->Prop,(∃m,W 0 m σ H)/\∀i m σ' H',W i m σ' H'->((ItE K a).stop i H'/\R H')\/((ItE K a).go i H'/\∃N:St->Hp->Prop,(∀σ2 H2,N σ2 H2->∃m',m' < m/\W (i+1) m' σ2 H2)/\
   ∀x H2,(ItE K a).yld i H' x H2->g x σ' H2 λσ3 H3=>tt σ3 H3 λb H4=>if b=true then te σ3 H4 (λv H5=>∃vs,H5 D=some (.lst vs)/\vs.length < S6/\N σ3 (upd H5 D (.lst (vs++ [v])))) else N σ3 H4):=by
 refine ⟨λi m σ H=>m=xs.length - i/\i<=xs.length/\Pv i σ H,⟨xs.length,by simp,yai _,h0⟩,?_⟩
 rintro i m σ H ⟨rfl,hi,p⟩
 have q:=hl i σ H hi p
 by_cases hlt:i < xs.length
 ·refine .inr ⟨⟨xs,xs[i],q,by simp [hlt]⟩,Pv (i+1),λσ' H' p'=>⟨xs.length - (i+1),by omega,rfl,hlt,p'⟩,λx H' y=>?_⟩
  obtain ⟨T,u,hT,rfl,hu,rfl⟩:=y
  exact hs i u σ _ T (hu xs q) p hT
 ·have e:i=xs.length:=by omega
  subst e
  exact .inl ⟨⟨xs,q,rfl⟩,hd σ H p⟩
end
theorem Jxz (a b c):argsOk "object.__init__" ⟨[a,b,c],[]⟩:=by
 unfold argsOk;rw [signature?_of (n:=['_','_','t','i','n','i','_','_']) (by kernel_rfl) F.owner_object];kernel_rfl
set_option maxRecDepth 100000 in
set_option maxHeartbeats 4000000 in
theorem Yax (l1 l2:S1) (b1 b2:Bool) (xs ys):
  Meets (Builtin.«zip.__new__» ⟨[.type "zip",.ref l1,.ref l2],[]⟩) (λ_ R s=>IsB s.heap l1 b1 xs/\IsB s.heap l2 b2 ys/\
   R (.ok (.ret (.ref (gE s.heap [(l1,b1),(l2,b2)]).objs.size))) {s with heap:=gF s.heap [(l1,b1),(l2,b2)]}):=
 .of_wp λprog w A R s h=>by
  obtain ⟨hp,g,d,tk,os⟩:=s
  obtain ⟨hl1,hl2,h⟩:=h
  have e0:=sub_zip
  have e1:=hl1
  have e2:IsB (Shared.heap ⟨(hp.push (itO l1 b1)),g,d,tk,os⟩) l2 b2 ys:=IsB.push (hl2) _
  wp_walk using Jrx e1,Jrx e2
  exact ⟨_,rfl,h⟩
theorem Yy {prog:S7} {w:S9} {A:Sa} {E:S2->S3->Prop} {s:S3} {l1 l2:S1} {b1 b2:Bool} {xs ys} {Q} (h1:IsB s.heap l1 b1 xs) (h2:IsB s.heap l2 b2 ys) (h:Q (.ref (gE s.heap [(l1,b1),(l2,b2)]).objs.size) {s with heap:=gF s.heap [(l1,b1),(l2,b2)]}):
  Sc (model prog w) A (call (.type "zip") [.ref l1,.ref l2]) Q E s:=
 callType_new F.called_zip (by decide) (by kernel_rfl) (by kernel_rfl) (λobj=>Jxz obj _ _) F.entry_zip_new (Yax l1 l2 b1 b2 xs ys) ⟨h1,h2,⟨_,(Jqx s.heap).1,rfl⟩,h⟩
abbrev Sj0 (K:Sd) (l1 l2:S1) (b1 b2:Bool):It:=Jrp K [(l1,b1),(l2,b2)]
theorem Swx {l1 l2:S1} {b1 b2:Bool} {xs ys:List V} {K:Sd} {H:Hp} (h:SqB K H l1 b1 xs/\SqB K H l2 b2 ys):SqN K H [(l1,b1),(l2,b2)] [xs,ys]:=by
 obtain ⟨q1,q2⟩:=h
 refine ⟨rfl,λj l x e1 e2=>?_⟩
 match j with
 |0=>cases e1;cases e2;exact q1
 |1=>cases e1;cases e2;exact q2
 |j+2=>simp at e1
theorem Smm {xs ys:List V} {i:Nat} {ps:List V} {G:List V->Prop} (h:Jvv [xs,ys] i ps) (k:∀x y,xs[i]?=some x->ys[i]?=some y->G [x,y]):G ps:=by
 obtain ⟨l,f⟩:=h
 match ps,l with
 | [x,y],_=>exact k x y (f 0 x xs rfl rfl) (f 1 y ys rfl rfl)
def Srf (K:Sd) (b1 b2:Bool) (ta:TA):TI:=λσ H R=>ta σ H λvs H1=>∃a b,vs= [.ref a,.ref b]/\(∃xs,SqB K H1 a b1 xs)/\(∃xs,SqB K H1 b b2 xs)/\R (Sj0 K a b b1 b2) H1
theorem Yed (b1 b2) (hg:Gl X "zip") (hm:X.mg "zip" =none) (ha:PA X [a,b] ta) (hs:starEach [a,b] X.env= [(false,eval a X.env),(false,eval b X.env)]:=by rfl) (hs2:starEach [b] X.env= [(false,eval b X.env)]:=by rfl):
  PI X (.Tuple elts kt pt) (.Call (.Name "zip" p) [a,b] [] pos) (Srf X.K b1 b2 ta):=by
 intro pins s σ H R I h
 refine Call_ (Jpm I hg hm Jz9 (PyProof.Rows.callWith_type1 (thn (ha pos pins s σ H _ I h) λus s1 zq=>?_) (by rw [hs,hs2]) (by rw [hs2];rfl)))
 obtain ⟨vs,H1,I1,r1,q1⟩:=zq
 obtain ⟨l1,l2,rfl,⟨x1,q1⟩,⟨x2,q2⟩,q⟩:=q1
 obtain rfl:=Yck (as:=[l1,l2]) r1
 obtain ⟨_,_,p1⟩:=I1.seqB q1
 obtain ⟨_,_,p2⟩:=I1.seqB q2
 refine Yy p1 p2 (Jxy I1 (λl hl=>?_) (show 2<=S6 by decide) q)
 simp only [yp,yaw,or_false] at hl
 rcases hl with rfl|rfl
 ·exact p1.lt
 ·exact p2.lt
section
variable {K:Sd} {g:TG} {σ:St} {H:Hp} {l1 l2:S1} {b1 b2:Bool} {xs ys:List V}
theorem Ybj {tb:TS} {D:Sc1} (Pv:Nat->St->Hp->Prop) (h0:Pv 0 σ H) (hl:∀i σ H,i<=xs.length->Pv i σ H->SqB K H l1 b1 xs/\SqB K H l2 b2 ys) (e1:xs.length=ys.length)
  (hs:∀i x y σ H T,xs[i]?=some x->ys[i]?=some y->Pv i σ H->H T=none->g (.ref T) σ (upd H T (.tup [x,y])) λσ2 H2=>tb {D with nx:=Pv (i+1),ct:=Pv (i+1),bk:=D.nx} σ2 H2) (hd:∀σ H,Pv xs.length σ H->D.nx σ H):
  ∃W:Nat->Nat->St->Hp->Prop,(∃m,W 0 m σ H)/\∀i m σ H,W i m σ H->
   ((Sj0 K l1 l2 b1 b2).stop i H/\D.nx σ H)\/((Sj0 K l1 l2 b1 b2).go i H/\∃N:St->Hp->Prop,(∀σ' H',N σ' H'->∃m',m' < m/\W (i+1) m' σ' H')/\∀x H',(Sj0 K l1 l2 b1 b2).yld i H x H'->g x σ H' λσ2 H2=>tb {D with nx:=N,ct:=N,bk:=D.nx} σ2 H2):=
 Ybk (xss:=[ys]) Pv h0 (λi σ H hi p=>Swx (hl i σ H hi p)) (by simp only [yp,yaw,or_false];rintro _ (rfl) <;> omega) (λi ps σ H T hp p hT=>Smm (G:=λps=>g (.ref T) σ (upd H T (.tup ps)) λσ2 H2=>tb {D with nx:=Pv (i+1),ct:=Pv (i+1),bk:=D.nx} σ2 H2) hp λx y h1 h2=>hs i x y σ H T h1 h2 p hT) hd
end
section
variable {X:Cx}
end
end L2
namespace L2
open PySem PySem.Spec PyProof.Rows
section
variable {H:Hp} {lb:Array (Nat×Nat×Str)}
end
section
variable {X:Cx} {pins:List (S1×Obj)} {σ:St} {H:Hp} {s:S3} {M:Model} {A:Sa} {E:S2->S3->Prop} {name qual:Str} {st:Stmt} {pos:Pos} {firstLine:Nat} {c P:S1} {lb:Array (Nat×Nat×Str)} {clos:List (Str×S1)} {Q:S2->S3->Prop}
end
section
variable {X:Cx} {pins:List (S1×Obj)} {σ:St} {H:Hp} {s:S3} {cn:Str->Bool}
end
section
variable {X:Cx} {st:Stmt} {rest:List Stmt} {t u:TS}
end
section
variable {X:Cx} {rest:List Stmt} {t:TS} {st:Stmt} {name qual:Str} {i:Nat} {c P:S1} {lb:Array (Nat×Nat×Str)} {caps:List (Str×Nat)}
end
section
variable {M:Model} {A:Sa} {E:S2->S3->Prop} {s₀ s:S3} {m cm:Str->Option S2} {env:Env} {cs:List (Str×S1)}
end
section
variable {X:Cx} {CX:CXT} {k j i:Nat} {sp:S1->Sp} {x:Str} {p pos:Pos} {e:Expr} {es:List Expr} {t:TA} {R:St->XK}
end
end L2
namespace L2
open PySem PySem.Spec PyProof.Rows PySem.W
theorem KV.get (r:KV kvs vs):∀{i:Nat} {k:Key} {x},kvs[i]?=some (k,x)->∃u,vs[i]?=some (k,u)/\RelV x u:=by
 induction r with
 |nil=>intro i k x h;simp at h
 | @cons a b l1 l2 h t ih=>
  intro i k x e
  cases i with
  |zero=>
   obtain rfl:a=(k,x):=by simpa using e
   obtain ⟨k',u⟩:=b
   obtain ⟨e1,e2⟩:=h
   cases e1
   exact ⟨u,rfl,e2⟩
  |succ j=>exact ih (by simpa using e)
theorem Snb (h:(Jmo P w).is k u=true):RelV (kV k) u:=by
 rw [Jzk] at h
 cases k with
 |inl i=>
  cases u <;> simp [Jtc,Value.isInt] at h
  subst h
  exact ⟨_,rfl⟩
 |inr x=>
  obtain ⟨t,e⟩:=Value.isStrOf_shape h
  exact ⟨t,e⟩
section
variable {X:Cx} {pins:List (S1×Obj)} {σ:St} {H:Hp} {s:S3}
theorem Sm.frz (I:Sm X pins σ H s) (e:H a=some (.dK kvs)) (ho:s.heap.get? a=some o):Sm X pins σ (upd H a (.frz o (.dK kvs))) s:=by
 have mu:Mut (H a):=by rw [e];trivial
 exact I.un (Un.write mu (.inl rfl) (λb u _ q=>q) ⟨o,ho⟩) (HOk.write I.hok mu (.inl rfl) (λb u _ q=>q) ⟨o,ho⟩ ⟨ho,I.hok a _ e⟩)
theorem Ybh (I:Sm X pins σ H s) (ea:H a=some (.frz o (.dK kvs))):
  kvs.length<=S6/\(a==sysModules)=false/\∃vs es ep,KV kvs vs/\o.data= .dict es ep/\s.heap.DictAt (Jmo X.prog X.w) a vs ep:=by
 obtain ⟨e1,z,hd,vs,rel,o',es,ep,e2,x,d,r⟩:=(I.hok a _ ea)
 rw [e1] at e2;cases e2
 exact ⟨z,hd,vs,es,ep,rel,d,o,es,e1,x,d,r⟩
end
def Iti (a:S1) (o:Obj) (kvs:List (Key×V)):It:=
 ⟨λi H=>H a=some (.frz o (.dK kvs))/\i < kvs.length,λi H x H'=>∃T k u,H T=none/\x= .ref T/\kvs[i]?=some (k,u)/\H'=upd H T (.tup [kV k,u]),λi H=>H a=some (.frz o (.dK kvs))/\kvs.length<=i⟩
def ISt (it a:S1) (o:Obj) (n i:Nat) (h:Sb):Prop:=∃es ep,o.data= .dict es ep/\∃ok ov,IsItemIter h it a i n ep ok ov
theorem Y6 {K} (a it) (o) (kvs):Turn P w K (.Tuple elts kt pt) (Iti a o kvs) [it] it (ISt it a o kvs.length) where
 mem:=by simp
 obj:=λi h st b hb=>by
  have e:=by simpa using hb
  subst e
  obtain ⟨es,ep,_,ok,ov,e⟩:=st
  exact ⟨_,e,λv z=>by cases z⟩
 keep:=λi h h' st k=>by
  obtain ⟨es,ep,q,ok,ov,e⟩:=st
  exact ⟨es,ep,q,ok,ov,k it (by simp) _ e⟩
 item:=by
  intro X hP hw hK hc i pins s σ H E I hf st hg
  subst hP hw hK
  obtain ⟨ea,hi⟩:=hg
  obtain ⟨es,ep,ed,ok,ov,st⟩:=st
  obtain ⟨_,_,vs,es',ep',rel,ed',da⟩:=Ybh I ea
  rw [ed] at ed';cases ed'
  have hl:=rel.length
  have hx:kvs[i]?=some (kvs[i].1,kvs[i].2):=by simp [hi]
  obtain ⟨u,hu,ru⟩:=rel.get hx
  rw [hl] at st
  refine wpAny_pyNext_items_item st da hu λkey h' hk st' tT sz kk=>⟨_,rfl,wpAny_letOwnedTupleGo_items st' λh'' st'' sb=>?_⟩
  have ne:s.heap.objs.size≠it:=λw'=>absurd (yk st) (by rw [<-w'];exact ybe _)
  refine ⟨.ref s.heap.objs.size,upd H s.heap.objs.size (.tup [kV kvs[i].1,kvs[i].2]),I.turnTup hf (λc o hc q=>(sb.2 c (by simpa using hc)).trans (kk c o (by simpa using hc) q)) (yg _)
   ⟨(show 2<=S6 by decide),[key,u],.cons (Snb hk) (.cons ru .nil),⟨_,((sb.2 _ ne).trans tT),rfl,_,rfl⟩⟩,rfl,⟨_,_,_,I.hok.fresh (yg _),rfl,hx,rfl⟩,⟨es,ep,ed,_,_,by rw [hl];exact st''⟩,λc hc=>?_⟩
  have e:=by simpa using hc
  subst e
  rw [Sw (yw ne)]
  exact (hf c hc).1
 done:=by
  intro X hP hw hK hc i pins s σ H E I hf st hg
  subst hP hw hK
  obtain ⟨ea,hi⟩:=hg
  obtain ⟨es,ep,ed,ok,ov,st⟩:=st
  obtain ⟨_,_,vs,es',ep',rel,ed',da⟩:=Ybh I ea
  rw [ed] at ed';cases ed'
  have hl:=rel.length
  obtain ⟨f0,f1,f2,f3,f4,f5⟩:=hf it (by simp)
  rw [hl] at st
  exact wpAny_pyNext_items_end (I.ok.hd hc) st da (by simp;omega) λh' eb=>⟨rfl,I.turned (λb o hb e=>eb b o hb e) f0 f1 f3 f4 f5⟩
 self:=λ_ _ _ _ _ st h=>let ⟨_,_,_,_,_,q⟩:=st;kcp_self q h
def Smg (td:TE):TI:=λσ H R=>td σ H λx H1=>∃a o kvs,x= .ref a/\H1 a=some (.frz o (.dK kvs))/\R (Iti a o kvs) H1
theorem Jyq {elts} {kt} {apos cpos} (ho:PE X o td) (hbase:attributeBase o "items" X.env (eval o X.env)=eval o X.env:=by rfl) (hline:(apos.endLine==cpos.line)=true:=by rfl):
  PI X (.Tuple elts kt pt) (.Call (.Attribute o "items" apos) [] [] cpos) (Smg td):=by
 intro pins s σ H R I h
 refine wpAny_Call_method0_late hbase hline (thn (ho pins s σ H _ I h) λv s1 zq=>?_)
 obtain ⟨x,H1,I1,r1,q1⟩:=zq
 obtain ⟨a,ob,kvs,rfl,ea,q⟩:=q1
 obtain rfl:v=Value.ref a:=r1
 obtain ⟨t1,t2,_⟩:=Smk I1 (.inl ⟨kvs,.inr ⟨ob,ea⟩⟩)
 refine ⟨"dict","dict.items",PySem.F.plainAttrs_dict,PySem.F.slot_dict_items,PySem.F.type_dict_items,t1,t2,Calls.callWith_builtin rfl (PySem.evalArgs_none ?_)⟩
 obtain ⟨z,hd,vs,es,ep,rel,ed,da⟩:=Ybh I1 ea
 refine call_meetsIn PySem.F.slot_dict_items da.dictOf.typeIs PySem.F.entry_dict_items (PySem.F.args_dict_items_1 _) (meets_dict_items (Jmo X.prog X.w) a hd) ⟨⟨vs,da.dictOf⟩,wpAny_pyIter_items ⟨_,yx _ rfl,rfl,rfl⟩ (da.keep λb o e=>ym _ e) ?_⟩
 refine ⟨_,[_],_,_,H1,rfl,I1.kept λb o e=>ym _ (ym _ e),Y6 a _ ob kvs,⟨es,ep,ed,.none,.none,by rw [rel.length];exact yx _ rfl⟩,λb hb=>?_,q⟩
 have le:s1.heap.objs.size<=b:=by
  rw [yan.mp hb]
  simp [Heap.push]
 exact I1.fpOk le (I1.hok.fresh le)
section
variable {g:TG} {tt:TT} {te:TE} {H:Hp} {D:S1} {σ:St} {R:Hp->Prop}
theorem Jzb (Pv:Nat->St->Hp->Prop) (h0:Pv 0 σ H) (hl:∀i σ H,i<=kvs.length->Pv i σ H->H a=some (.frz o (.dK kvs)))
  (hs:∀i k x σ H T,kvs[i]?=some (k,x)->Pv i σ H->H T=none->g (.ref T) σ (upd H T (.tup [kV k,x])) λσ3 H3=>tt σ3 H3 λb H4=>if b=true then te σ3 H4 (λv H5=>∃ys,H5 D=some (.lst ys)/\ys.length < S6/\Pv (i+1) σ3 (upd H5 D (.lst (ys++ [v])))) else Pv (i+1) σ3 H4)
  (hd:∀σ H,Pv kvs.length σ H->R H):
  ∃W:Nat->Nat->St->Hp->Prop,(∃m,W 0 m σ H)/\∀i m σ' H',W i m σ' H'->((Iti a o kvs).stop i H'/\R H')\/((Iti a o kvs).go i H'/\∃N:St->Hp->Prop,(∀σ2 H2,N σ2 H2->∃m',m' < m/\W (i+1) m' σ2 H2)/\
   ∀x H2,(Iti a o kvs).yld i H' x H2->g x σ' H2 λσ3 H3=>tt σ3 H3 λb H4=>if b=true then te σ3 H4 (λv H5=>∃ys,H5 D=some (.lst ys)/\ys.length < S6/\N σ3 (upd H5 D (.lst (ys++ [v])))) else N σ3 H4):=by
 refine ⟨λi m σ H=>m=kvs.length - i/\i<=kvs.length/\Pv i σ H,⟨kvs.length,by simp,yai _,h0⟩,?_⟩
 rintro i m σ H ⟨rfl,hi,p⟩
 have q:=hl i σ H hi p
 by_cases hlt:i < kvs.length
 ·refine .inr ⟨⟨q,hlt⟩,Pv (i+1),λσ' H' p'=>⟨kvs.length - (i+1),by omega,rfl,hlt,p'⟩,λx H' y=>?_⟩
  obtain ⟨T,k,u,hT,rfl,y,rfl⟩:=y
  exact hs i k u σ _ T y p hT
 ·have e:i=kvs.length:=by omega
  subst e
  exact .inl ⟨⟨q,yg _⟩,hd σ H p⟩
end
theorem Jx3:typeLookup (.type "list") "keys" =pure none:=by rw [typeLookup_type];kernel_rfl
section
variable {prog:S7} {w:S9} {A:Sa} {E:S2->S3->Prop} {s:S3} {a:S1} {its:Array S2} {n:Nat}
theorem Juk (hx:s.heap.get? a=some {cls:=.type "list",data:=.seq its n}) (hA:A.handled=none)
  (h:∀h' tk,(∀b o,s.heap.get? b=some o->h'.get? b=some o)->Q none {s with heap:=h',toks:=tk}):
  Sc (model prog w) A (getAttr? (.ref a) "keys") Q E s:=by
 obtain ⟨hp,g,d,tk,os⟩:=s
 have hT:∀tk',(⟨hp,g,d,tk',os⟩:S3).TypeIs (.ref a) "list" :=λ_=>⟨_,hx,rfl⟩
 have f1:=sub_AttributeError
 have f3:=PySem.F.slot_list_getattribute.lookup
 have f4:=PySem.F.slot_list_getattribute.bind (.ref a)
 have f5:=am_list_getattr_none
 repeat (any_goals (first|assumption|exact hT _|((with_reducible show Sc _ _ (call (Value.builtin "list.__getattribute__") _ _) _ _ _);refine call_meets PySem.F.slot_list_getattribute (hT _) am_entry_list_getattribute (PySem.F.args_list_getattribute_2 _ _) (meets_getattribute_miss_list a its n #[] "keys" _ Jx3 (by decide) (by size_fits)) ⟨hx,hA,λh' tk' e hx'=>?_⟩)|wp_step))
 obtain ⟨t',u',he⟩:=hx'.there
 show Sc _ _ (getattributeRaised _ _ _ _ _ _ _) _ _ _
 repeat (any_goals (first|assumption|wp_step))
 exact h _ _ hx'.keeps
end
theorem Jw8:entryFor table "dict.update.loop" =some Builtin.«dict.update.loop»:=entryFor_of_tree (by kernel_rfl)
section
variable {prog:S7} {w:S9} {K:Type} [DecidableEq K] {knd:KeyKind prog w K} {A:Sa}
theorem Yar {α:Type} {l:List α} {x} (h:l[i]?=some x):l.take (i+1)=l.take i++ [x]:=by
 rw [yy,h];rfl
end
theorem Yfh (e:xs.length=n) (h:ItemsOf P acc n) (hP:∀i v,i < n->P i v->∃x,xs[i]?=some x/\RelV x v):Sv xs acc.toList:=by
 obtain ⟨h1,h2⟩:=h
 have go:∀xs l,xs.length=l.length->(∀(i:Nat) v,l[i]?=some v->∃x,xs[i]?=some x/\RelV x v)->Sv xs l:=by
  intro xs
  induction xs with
  |nil=>
   intro l e _
   cases l with
   |nil=>exact .nil
   |cons _ _=>simp at e
  |cons x xs ih=>
   intro l e hl
   cases l with
   |nil=>simp at e
   |cons v l=>
    obtain ⟨y,e1,r1⟩:=hl 0 v rfl
    simp at e1
    subst e1
    exact .cons r1 (ih l (by simpa using e) λi v' e'=>by simpa using hl (i+1) v' (by simpa using e'))
 refine go xs acc.toList (by simp only [ybq];exact e.trans h1.symm) λi v e'=>?_
 have e2:acc[i]?=some v:=by rw [<-Array.getElem?_toList];exact e'
 exact hP i v (by have:=(ycf.mp e2).1;omega) (h2 i v e2)
theorem Jnx (hc:X.calm=true):Jnr X (.type "list") (λxs H Q=>∃p i j,xs= [V.ref p]/\H p=some (.rng i j)/\ -1000<=i/\i<=1000/\ -1000<=j/\j<=1000/\
  ∀l,H l=none->Q (.ref l) (upd H l (.lst ((yav (j - i).toNat).map λk:Nat=>V.int (i+k))))):=by
 rintro pins s σ H xs us Q I r ⟨p,i,j,rfl,hp,h1,h2,h3,h4,q⟩
 obtain ⟨u,rfl,r2⟩:=Joi r
 obtain rfl:u=Value.ref p:=r2
 obtain ⟨t,u,v,e⟩:=(I.hok p _ hp)
 refine call_list_range (n:=(j - i).toNat) (I.ok.hd hc) e (small_one (by omega) (by omega) (by omega) (by omega)) (by rw [rangeSize_one];split <;> omega) (by omega) λh' tk acc c kp hl hI=>?_
 have rv:Sv ((yav (j - i).toNat).map λk:Nat=>V.int (i+k)) acc.toList:=by
  refine Yfh (by simp) hI λk w' lt hw=>?_
  obtain ⟨t,rfl⟩:=hw
  exact ⟨.int (i+k),by simp [lt],t,by simp⟩
 refine ⟨.ref s.heap.objs.size,_,I.laid (o:=.lst _) kp (yg _) ⟨?_,acc.toList,c,rv,by simpa using hl⟩,rfl,q _ (I.hok.fresh (yg _))⟩
 rw [sizeLine_eq,ye,yaz]
 omega
section
variable {prog:S7} {w:S9} {K:Type} [DecidableEq K] {knd:KeyKind prog w K} {A:Sa} {E:S2->S3->Prop} {s:S3} {b:Bool}
end
section
variable {prog:S7} {w:S9} {A:Sa} {R:Result->S3->Prop} {I:S1} {fp wr:List S1} {n:Nat} {P:Nat->S2->Prop} {St:Nat->Sb->Prop}
end
section
variable {prog:S7} {w:S9} {A:Sa} {E:S2->S3->Prop} {s:S3}
end
section
variable {M:Model} {A:Sa} {E:S2->S3->Prop} {s:S3}
end
section
variable {prog:S7} {w:S9} {A:Sa} {E:S2->S3->Prop} {s:S3} {it a T:S1} {i ep slot next p m:Nat} {x:S2} {h0:Int} {tk:Tok} {o oT:Obj} {es:Array (Int×S2)} {t:SetTable} {ps:Array S2} {Q:Option S2->S3->Prop}
end
section
variable {prog:S7} {w:S9} {A:Sa} {E:S2->S3->Prop} {s:S3} {it a:S1} {i ep slot:Nat} {o:Obj} {es:Array (Int×S2)} {t:SetTable}
end
section
variable {prog:S7} {w:S9} {A:Sa} {E:S2->S3->Prop} {s:S3} {it a:S1}
end
section
variable {prog:S7} {w:S9} {A:Sa} {it a T:S1} {ep m:Nat} {o oT:Obj} {es:Array (Int×S2)} {t:SetTable} {ps:Array S2}
end
section
variable {prog:S7} {w:S9} {A:Sa} {E:S2->S3->Prop} {s:S3} {a:S1} {ep:Nat} {o:Obj} {es:Array (Int×S2)} {t:SetTable}
end
end L2
namespace L2
open PySem PySem.Spec PyProof.Rows PySem.W PySem.Calls
section
variable {prog:S7} {w:S9} {A:Sa} {E:S2->S3->Prop} {s:S3} {a:S1} {ep:Nat} {o:Obj} {es:Array (Int×S2)} {t:SetTable}
end
end L2
namespace L2
open PySem PySem.Spec PyProof.Rows PySem.W
section
variable {X:Cx}
end
theorem Yb:bootBuiltins "dict" =some (.type "dict"):=by decide +kernel
theorem Jq1:bootBuiltins "range" =some (.type "range"):=by decide +kernel
section
variable {X:Cx}
theorem Jzo (hu:X.A.units+64 < cLine):OpR X (compareOp .In) (λy x H Q=>∃a o,x= .ref a/\Si6 H a y o/\Q (.bl o.isSome) H):=by
 rintro pins s σ H y x v u Q I ry rx ⟨a,o,rfl,g,q⟩
 obtain rfl:u=Value.ref a:=rx
 exact Sw8 (by omega) I g ry λs3 I3=>⟨.bl o.isSome,H,I3,rfl,q⟩
end
section
variable {X:Cx} {CX:CXT} {k j i:Nat} {sp:S1->Sp} {x:Str} {p pos:Pos} {e:Expr} {es:List Expr} {t:TA} {R:St->XK}
end
section
variable {X:Cx} {o i value:Expr} {pos pos':Pos} {td ty tv:TE}
theorem Jwm (hu:X.A.units+64 < cLine) (ho:PE X o td) (hi:PE X i ty) (hv:PE X value tv) (hs:swapsWith value (some (.Subscript o i pos')) pos.line X.env=pure false):
  PS X (.Assign [.Subscript o i pos'] value pos) (Sky td ty tv):=Yeh (by omega) ho hi hv hs
end
def DX (P:S7) (w:S9) (a:S1) (o:Obj) (kvs:List (Key×V)):HO:=
 .ext λh=>h.get? a=some o/\kvs.length<=S6/\(a==sysModules)=false/\∃vs es ep,KV kvs vs/\o.data= .dict es ep/\h.DictAt (Jmo P w) a vs ep
def DK (P:S7) (w:S9) (H:Hp) (a:S1) (kvs:List (Key×V)):Prop:=H a=some (.dK kvs)\/(∃o,H a=some (.frz o (.dK kvs)))\/∃o,H a=some (DX P w a o kvs)
section
variable {P:S7} {w:S9} {H H':Hp} {h:Sb} {a:S1} {o:Obj} {kvs:List (Key×V)}
theorem Sr8 (e:h.get? a=some o) (ok:Saa P w H h a (.dK kvs)):Saa P w H' h a (DX P w a o kvs):=by
 obtain ⟨z,hd,vs,rel,o',es,ep,e2,x,d,r⟩:=ok
 rw [e] at e2;cases e2
 refine ⟨⟨e,z,hd,vs,es,ep,rel,d,o,es,e,x,d,r⟩,⟨o,e⟩,?_⟩
 rintro h1 h2 ⟨e,z,hd,vs,es,ep,rel,d,o',es',e1,x⟩ k
 exact ⟨k _ e,z,hd,vs,es,ep,rel,d,o',es',k _ e1,x⟩
theorem Sr6 (ok:HOk P w H h) (d:DK P w H a kvs):kvs.length<=S6/\(a==sysModules)=false/\∃vs,KV kvs vs/\h.DictOf (Jmo P w) a vs:=by
 rcases d with e|⟨o,e⟩|⟨o,e⟩
 ·exact Jta ok (.inl e)
 ·exact Jta ok (.inr ⟨o,e⟩)
 ·obtain ⟨⟨_,z,hd,vs,es,ep,rel,d,da⟩,_⟩:=(ok a _ e)
  exact ⟨z,hd,vs,rel,da.dictOf⟩
end
section
variable {X:Cx} {pins:List (S1×Obj)} {σ:St} {H:Hp} {s:S3} {a:S1} {o:Obj} {kvs:List (Key×V)}
theorem Sm.thaw (I:Sm X pins σ (upd H a (.frz o (.dK kvs))) s) (hn:∀o' u,X.H₀ a≠some (.frz o' u)):Sm X pins σ (upd H a (DX X.prog X.w a o kvs)) s:=by
 have sw:∀{b:S1} {u:HO},(upd H a (.frz o (.dK kvs))) b=some u->b≠a->(upd H a (DX X.prog X.w a o kvs)) b=some u:=λe n=>by rw [Sw n] at e⊢;exact e
 have no:∀{b:S1},(upd H a (.frz o (.dK kvs))) b=none->(upd H a (DX X.prog X.w a o kvs)) b=none:=λ{b} e=>by
  have n:b≠a:=λz=>by subst z;rw [Sn] at e;cases e
  rw [Sw n] at e⊢;exact e
 have at':∀{b:S1} {u:HO},(upd H a (.frz o (.dK kvs))) b=some u->b=a->u= .frz o (.dK kvs):=λe n=>by subst n;rw [Sn] at e;exact (yt.inj e).symm
 refine ⟨I.ok,I.os,I.bare,⟨I.base.keep,I.base.slot,λb u h1 h2 h3=>no (I.base.free b u h1 h2 h3),I.base.there,λb xs h=>?_,λb u v h=>?_,λb ps h=>?_⟩,I.loc,I.cell,no I.free,λx c h=>?_,λp hp=>?_,λb u q=>?_,I.len⟩
 ·have e:=I.base.tups b xs h
  exact sw e λz=>nomatch at' e z
 ·have e:=I.base.frzs b u v h
  exact sw e λz=>hn u v (z▸h)
 ·obtain ⟨more,e⟩:=I.base.tbls b ps h
  exact ⟨more,sw e λz=>nomatch at' e z⟩
 ·rcases I.freeC x c h with e|⟨hf,oc,e⟩
  ·exact .inl (no e)
  ·refine .inr ⟨hf,oc,sw e λz=>?_⟩
   have:=at' e z
   exact nomatch (HO.frz.inj this).2
 ·obtain ⟨p1,p2,p3⟩:=I.pin p hp
  exact ⟨p1,no p2,p3⟩
 ·by_cases hb:b=a
  ·subst hb
   rw [Sn] at q
   cases q
   obtain ⟨e1,e2⟩:=(I.hok b _ Sn)
   exact Sr8 e1 e2
  ·rw [Sw hb] at q
   refine (I.hok b u (by rw [Sw hb];exact q)).stay (λc v _ r=>r) (λc r=>sw r λz=>nomatch at' r z) (λc xs r=>sw r λz=>nomatch at' r z) λc xs r=>sw r λz=>nomatch at' r z
theorem Sm.plain (I:Sm X pins σ H s) (e:H a=some (DX X.prog X.w a o kvs)):Sm X pins σ (upd H a (.dK kvs)) s:=by
 have mu:Mut (H a):=by rw [e];trivial
 obtain ⟨⟨ho,z,hd,vs,es,ep,rel,d,da⟩,_⟩:=(I.hok a _ e)
 exact I.un (Un.write mu (.inl rfl) (λb u _ q=>q) ⟨o,ho⟩) (HOk.write I.hok mu (.inl rfl) (λb u _ q=>q) ⟨o,ho⟩ ⟨z,hd,vs,rel,da.dictOf⟩)
inductive Sof (Q:VK) (v:V) (H1:Hp):Prop where
 |mk (a:_) (kvs:_) (_:v= .ref a) (_:H1 a=some (.dK kvs)) (_:∀o,Q v (upd H1 a (.frz o (.dK kvs))))
def Sx6 (te:TE):TE:=λσ H Q=>te σ H (Sof Q)
theorem Sn1 (he:PE X e te):PE X e (Sx6 te):=by
 intro pins s σ H Q I h
 refine thn (he pins s σ H _ I h) λu s1 zq=>?_
 obtain ⟨x,H1,I1,r1,a,kvs,ex,e1,q⟩:=zq
 obtain ⟨_,_,vs,_,ob,es,ep,e2,_⟩:=(I1.hok a _ e1)
 exact ⟨x,_,I1.frz e1 e2,r1,q ob⟩
theorem Yb5:Jnr X (.builtin "isinstance") (λxs H Q=>∃a kvs,xs= [.ref a,.ty "dict"]/\DK X.prog X.w H a kvs/\Q (.bl true) H):=by
 rintro pins s σ H vs us Q I r ⟨a,kvs,rfl,d,k⟩
 obtain ⟨v,w',rfl,r1,r2⟩:=Jz1 r
 obtain rfl:v=Value.ref a:=r1
 cases r2
 obtain ⟨_,_,vs,_,o,es,ep,h1,h2,_⟩:=Sr6 I.hok d
 exact PySem.W.kia_one PySem.W.kitx_dict I.kIn ⟨o,h1,h2.1⟩ rfl (λz=>nomatch z) λtk=>⟨.bl true,H,I.tok _,rfl,k⟩
end
section
variable {prog:S7} {w:S9} {A:Sa} {E:S2->S3->Prop} {s:S3}
end
section
variable {X:Cx}
theorem Jpa:Jnr X (.type "range") (λxs H Q=>∃j,xs= [V.int j]/\∀p,H p=none->Q (.ref p) (upd H p (.rng 0 j))):=by
 rintro pins s σ H xs us Q I r ⟨j,rfl,q⟩
 obtain ⟨u,rfl,r1⟩:=Joi r
 obtain ⟨t1,rfl⟩:=r1
 exact call_range_1 ⟨.ref s.heap.objs.size,_,I.laid (o:=.rng 0 j) (λb o e=>ym _ e) (yg _) ⟨_,_,_,yx _ rfl⟩,rfl,q _ (I.hok.fresh (yg _))⟩
end
section
variable {X:Cx} {x:Str} {np pos:Pos} {C0:S1} {b₀:Stmt} {suite:List Stmt} {rest:List ExceptHandler} {ts:S1->TS} {th:TH}
end
end L2
namespace L2
open PySem PySem.Spec PyProof.Rows
section
variable {X:Cx} {pins:List (S1×Obj)} {σ:St} {H:Hp} {s:S3} {M:Model} {A:Sa} {E:S2->S3->Prop} {qual:Str} {e:Expr} {pos:Pos} {firstLine:Nat} {c P:S1} {lb:Array (Nat×Nat×Str)} {clos:List (Str×S1)} {Q:S2->S3->Prop}
end
section
variable {X:Cx} {t:TS} {e:Expr} {l:List Stmt} {qual:Str} {c P:S1} {lb:Array (Nat×Nat×Str)}
end
section
variable {X:Cx} {CX:CXT} {k j:Nat} {sp:S1->Sp} {x:Str} {p pos:Pos} {e:Expr} {es:List Expr} {t:TA}
end
theorem lvS (u:List S2) (e:u.length=n+1):∃a r,u=a::r/\r.length=n:=by
 cases u with
 |nil=>cases e
 |cons a r=>exact ⟨a,r,rfl,Nat.succ.inj e⟩
theorem lv1 (u:List S2) (e:u.length=1):∃a,u= [a]:=by
 obtain ⟨a,r,rfl,z⟩:=lvS u e
 cases r with
 |nil=>exact ⟨a,rfl⟩
 |cons b r=>cases z
theorem lv2 (u:List S2) (e:u.length=2):∃a b,u= [a,b]:=by
 obtain ⟨a,r,rfl,z⟩:=lvS u e
 obtain ⟨b,rfl⟩:=lv1 r z
 exact ⟨a,b,rfl⟩
theorem lv3 (u:List S2) (e:u.length=3):∃a b c,u= [a,b,c]:=by
 obtain ⟨a,r,rfl,z⟩:=lvS u e
 obtain ⟨b,c,rfl⟩:=lv2 r z
 exact ⟨a,b,c,rfl⟩
theorem lv4 (u:List S2) (e:u.length=4):∃a b c d,u= [a,b,c,d]:=by
 obtain ⟨a,r,rfl,z⟩:=lvS u e
 obtain ⟨b,c,d,rfl⟩:=lv3 r z
 exact ⟨a,b,c,d,rfl⟩
theorem lv5 (u:List S2) (e:u.length=5):∃a b c d f,u= [a,b,c,d,f]:=by
 obtain ⟨a,r,rfl,z⟩:=lvS u e
 obtain ⟨b,c,d,f,rfl⟩:=lv4 r z
 exact ⟨a,b,c,d,f,rfl⟩
theorem lv6 (u:List S2) (e:u.length=6):∃a b c d f g,u= [a,b,c,d,f,g]:=by
 obtain ⟨a,r,rfl,z⟩:=lvS u e
 obtain ⟨b,c,d,f,g,rfl⟩:=lv5 r z
 exact ⟨a,b,c,d,f,g,rfl⟩
theorem lv7 (u:List S2) (e:u.length=7):∃a b c d f g i,u= [a,b,c,d,f,g,i]:=by
 obtain ⟨a,r,rfl,z⟩:=lvS u e
 obtain ⟨b,c,d,f,g,i,rfl⟩:=lv6 r z
 exact ⟨a,b,c,d,f,g,i,rfl⟩
section
open PySem.Builtin PySem.Builtin.Str
variable {prog:S7} {w:S9} {A:Sa} {E:S2->S3->Prop} {s:S3} {x y:Str} {t u:Tok} {Q:S2->S3->Prop}
end
section
variable {X:Cx} {k j:Nat} {f C:S1} {fd:S8} {ps:List Str} {sp:Sp} {R:St->XK} {m:Str} {pos apos:Pos} {o:Expr} {ta:TE}
end
section
variable {X:Cx} {a b:Expr} {rest:List Expr} {pos:Pos} {ta tb:TE}
end
section
variable {X:Cx}
theorem Yc7 {o i:Expr} {pos:Pos} {td ty:TE} (hu:X.A.units+64 < cLine) (ho:PE X o td) (hi:PE X i ty) (hs:Slu i):PE X (.Subscript o i pos) (Sl1 td ty):=Yeb (by omega) ho hi hs
end
def Sok:Option Int->S2->Bool
 |none,.none=>true
 |some i,v=>Value.isInt i v
 |_,_=>false
def tnH:Option Int->Int
 |none=>reduceHash 0xFCA86420
 |some i=>hashInt i
theorem Jo3 {k:Option Int} {v:S2} (h:Sok k v=true):(k=none/\v= .none)\/∃i t,k=some i/\v= .int i t:=by
 cases k with
 |none=>cases v <;> first|exact .inl ⟨rfl,rfl⟩|cases h
 |some i=>
  obtain ⟨t,e⟩:=Value.isInt_shape (k:=i) (v:=v) h
  exact .inr ⟨i,t,rfl,e⟩
def Jsh (prog:S7) (w:S9):PySem.KeyKind prog w (Option Int) where
 is:=Sok
 hash:=tnH
 inj:=λv a b ha hb=>by
  rcases Jo3 ha with ⟨rfl,rfl⟩|⟨i,t,rfl,rfl⟩ <;> rcases Jo3 hb with ⟨rfl,e⟩|⟨j,u,rfl,e⟩ <;> first|rfl|(injection e with e1 _;rw [e1])|exact nomatch e
 byValue:=λk v h=>by rcases Jo3 h with ⟨rfl,rfl⟩|⟨i,t,rfl,rfl⟩ <;> rfl
 pyHash:=λhv h=>by
  rcases Jo3 hv with ⟨rfl,rfl⟩|⟨i,t,rfl,rfl⟩
  ·exact PySem.W.pyHash_slot (T:="NoneType") rfl F.slot_NoneType_hash F.entry_NoneType_hash (F.args_NoneType_hash_1 _) (PySem.beq_builtin_none _) (.inl rfl) (S4 (S5 (S4 (wpAny_mkInt (S5 ⟨_,_,rfl,h⟩)))))
  ·exact wpAny_pyHash_int h
 eqBool:=λhu hv h=>by
  rcases Jo3 hu with ⟨rfl,rfl⟩|⟨i,t,rfl,rfl⟩ <;> rcases Jo3 hv with ⟨rfl,rfl⟩|⟨j,u,rfl,rfl⟩
  ·exact SeqAt.EqAt.same .none _ _ _ _ h
  ·exact SeqAt.EqAt.none_int j u _ _ _ _ h
  ·exact SeqAt.EqAt.int_none i t _ _ _ _ h
  ·have e:decide ((some i:Option Int)=some j)=(i==j):=by
    by_cases q:i=j
    ·subst q;simp
    ·rw [decide_eq_false (λz=>q (yt.inj z))];exact (beq_eq_false_iff_ne.mpr q).symm
   rw [e] at h;exact wpAny_eqBool_int h
 «strs»:=λk x t v h=>by rcases Jo3 h with ⟨rfl,e⟩|⟨i,u,rfl,e⟩ <;> exact nomatch e
section
variable {prog:S7} {w:S9} {A:Sa} {E:S2->S3->Prop} {s:S3}
abbrev Jo2:=List Int×Option Int
def Sd6 (prog:S7) (w:S9) (h:Sb) (k:Jo2) (a:S1):Prop:=∃o items n b v,h.get? a=some o/\o.cls= .type "tuple" /\o.data= .seq items n/\items.toList= [.ref b,v]/\IsTupleKey (intKind prog w) h k.1 b/\Sok k.2 v=true
def chH (prog:S7) (w:S9) (k:Jo2):Int:=reduceHash (Builtin.Tuple.tupleHashOf [tupleKeyHash (intKind prog w) k.1,tnH k.2])
theorem Sd6.typeIs {k:Jo2} {a:S1} (x:Sd6 prog w s.heap k a):s.TypeIs (.ref a) "tuple" :=by obtain ⟨o,_,_,_,_,ho,hc,_⟩:=x;exact ⟨o,ho,hc⟩
theorem Sd6.inj {h:Sb} {a:S1} {x y:Jo2} (hx:Sd6 prog w h x a) (hy:Sd6 prog w h y a):x=y:=by
 obtain ⟨o,its,n,b,v,ho,_,hd,hi,h1,h2⟩:=hx
 obtain ⟨o',its',n',b',v',ho',_,hd',hi',h1',h2'⟩:=hy
 obtain rfl:o=o':=yt.inj (ho.symm.trans ho')
 rw [hd] at hd'
 injection hd' with e1 _
 subst e1
 rw [hi] at hi'
 injection hi' with e2 e3
 injection e2 with e2
 injection e3 with e3 _
 subst e2 e3
 exact Prod.ext (h1.inj h1') ((Jsh prog w).inj _ _ _ h2 h2')
theorem Sd6.keeps {h h':Sb} {k:Jo2} {a d:S1} {o:Obj} {es ep} (x:Sd6 prog w h k a) (ho:h.get? d=some o) (hd:o.data= .dict es ep) (hs:ybf d h h'):Sd6 prog w h' k a:=by
 obtain ⟨o',its,n,b,v,ho',hc,hd',hi,h1,h2⟩:=x
 have hne:a≠d:=by
  rintro rfl
  obtain rfl:o'=o:=yt.inj (ho'.symm.trans ho)
  rw [hd] at hd';exact nomatch hd'
 exact ⟨o',its,n,b,v,(hs.2 a hne).trans ho',hc,hd',hi,h1.keeps ho hd hs,h2⟩
theorem Ydt {k:Jo2} {a:S1} {Q:Int->S3->Prop} (hu:A.units+1 < cLine) (hk:Sd6 prog w s.heap k a) (h:Q (chH prog w k) {s with toks:=s.toks+(k.1.length+3)}):Sc (model prog w) A (pyHash (.ref a)) Q E s:=by
 have hT:=hk.typeIs
 obtain ⟨o,items,n,b,v,ho,_,hd,hi,h1,h2⟩:=hk
 refine PySem.W.pyHash_slot (T:="tuple") hT F.slot_tuple_hash F.entry_tuple_hash (F.args_tuple_hash_1 _) (PySem.beq_builtin_none _) (.inr (by omega)) ?_
 show Sc _ _ (Builtin.Tuple.tupleItemsOf (.ref a) >>=_) _ _ s
 refine S4 (wpAny_tupleItemsOf ho hd ?_)
 refine S4 ?_
 rw [<-Array.forIn_toList,hi,ybv]
 refine S4 (S4 (wpAny_pyHash_tuple (by simp only [Around.in1_units];omega) h1 ?_))
 refine S5 ?_
 dsimp only
 rw [ybv]
 refine S4 (S4 ((Jsh prog w).pyHash h2 ?_))
 refine S5 ?_
 dsimp only
 rw [List.forIn_nil]
 refine S5 ?_
 exact S4 (wpAny_mkInt (S5 ⟨_,_,rfl,h⟩))
theorem Y0 {K:Type} [DecidableEq K] {knd:KeyKind prog w K} {ks:List K} {a:S1} {Q:Bool->S3->Prop} (hk:IsTupleKey knd s.heap ks a) (h:Q true s):Sc (model prog w) A (eqIsQuiet 7 (.ref a)) Q E s:=by
 have hT:=hk.typeIs
 obtain ⟨o,items,n,ho,_,hd,hi⟩:=hk
 unfold eqIsQuiet
 refine S4 (wpAny_specialOf hT F.slot_tuple_eq.lookup ?_)
 show Sc _ _ (isInstance (.ref a) (.type "tuple") >>=_) _ _ s
 refine S4 (wpAny_isInstance hT isSubtype_tuple_tuple ?_)
 simp only [yby,ybz,if_false]
 refine S4 (wpAny_seqItems ho hd ?_)
 refine S4 ?_
 show Sc _ _ (forIn items _ _) _ _ s
 rw [<-Array.forIn_toList]
 refine wpAny_forIn_list _ (λrest r s'=>r.1=none/\s'=s/\∀v∈rest,carriedByValue v=true) _ ?_ ?_ _ _ ⟨rfl,rfl,hi.byValue⟩
 ·rintro v rest r s' ⟨hr,rfl,hall⟩
  rw [eqIsQuiet_byValue _ (hall v yah)]
  refine S4 (S5 ?_)
  simp only [yby,ybz,if_false]
  exact S5 ⟨rfl,rfl,λu hu'=>hall u (yaa _ hu')⟩
 ·rintro ⟨r1,r2⟩ s' ⟨hr,rfl,_⟩
  simp only at hr
  subst hr
  exact S5 h
theorem Yci {k:Jo2} {a:S1} {Q:Bool->S3->Prop} (hk:Sd6 prog w s.heap k a) (h:Q true s):Sc (model prog w) A (eqIsQuiet 8 (.ref a)) Q E s:=by
 have hT:=hk.typeIs
 obtain ⟨o,items,n,b,v,ho,_,hd,hi,h1,h2⟩:=hk
 unfold eqIsQuiet
 refine S4 (wpAny_specialOf hT F.slot_tuple_eq.lookup ?_)
 show Sc _ _ (isInstance (.ref a) (.type "tuple") >>=_) _ _ s
 refine S4 (wpAny_isInstance hT isSubtype_tuple_tuple ?_)
 simp only [yby,ybz,if_false]
 refine S4 (wpAny_seqItems ho hd ?_)
 refine S4 ?_
 show Sc _ _ (forIn items _ _) _ _ s
 rw [<-Array.forIn_toList,hi,ybv]
 refine S4 (S4 (Y0 h1 ?_))
 simp only [yby,ybz,if_false]
 refine S5 ?_
 dsimp only
 rw [ybv,eqIsQuiet_byValue _ ((Jsh prog w).byValue _ _ h2)]
 refine S4 (S4 (S5 ?_))
 simp only [yby,ybz,if_false]
 refine S5 ?_
 dsimp only
 rw [List.forIn_nil]
 exact S5 (S5 h)
theorem Jzc {x y:Jo2} {a b:S1} {P:PySem.Fin->S3->Prop} (hu:A.units < cLine) (hx:Sd6 prog w s.heap x a) (hy:Sd6 prog w s.heap y b) (h:P (.done (.ret (.bool (decide (x=y))))) s):
  Sc (model prog w) A (Builtin.«tuple.__eq__» ⟨[.ref a,.ref b],[]⟩) P E s:=by
 have hTb:=hy.typeIs
 obtain ⟨oa,xs,na,xa,xv,hoa,_,hda,hia,hx1,hx2⟩:=hx
 obtain ⟨ob,ys,nb,ya,yv,hob,_,hdb,hib,hy1,hy2⟩:=hy
 show Sc _ _ (isInstance (.ref b) (.type "tuple") >>=_) _ _ s
 refine S4 (wpAny_isInstance hTb isSubtype_tuple_tuple ?_)
 simp only [yby,ybz,if_false]
 refine S4 (wpAny_tupleItemsOf hoa hda ?_)
 refine S4 (wpAny_tupleItemsOf hob hdb ?_)
 refine S4 ?_
 rw [hia,hib]
 show Sc _ _ (forIn [(Value.ref xa,Value.ref ya),(xv,yv)] _ _) _ _ s
 rw [ybv]
 refine S4 (S4 (wpAny_eqBool_tuple hu hx1 hy1 ?_))
 have no:¬x=y->P (.done (.ret (.bool false))) s:=λn=>by rw [decide_eq_false n] at h;exact h
 by_cases e1:x.1=y.1
 ·rw [decide_eq_true e1]
  simp only [yby,ybz,if_false]
  refine S5 ?_
  dsimp only
  rw [ybv]
  refine S4 (S4 ((Jsh prog w).eqBool hx2 hy2 ?_))
  by_cases e2:x.2=y.2
  ·rw [decide_eq_true e2]
   simp only [yby,ybz,if_false]
   refine S5 ?_
   dsimp only
   rw [List.forIn_nil]
   refine S5 (S5 ?_)
   rw [decide_eq_true (Prod.ext e1 e2)] at h
   have es:xs.size=ys.size:=by rw [<-ybq,<-ybq,hia,hib];rfl
   rw [es]
   have e3:Builtin.Tuple.tupleCompareSizes CmpOp.Eq ys.size ys.size= .bool true:=by
    show Value.bool (ys.size==ys.size)=_
    rw [beq_self_eq_true]
   rw [e3]
   exact h
  ·rw [decide_eq_false e2]
   simp only [Bool.not_false,if_true]
   exact S4 (S5 (S5 (S5 (S5 (no λq=>e2 (by rw [q]))))))
 ·rw [decide_eq_false e1]
  simp only [Bool.not_false,if_true]
  exact S4 (S5 (S5 (S5 (S5 (no λq=>e1 (by rw [q]))))))
theorem Sr9 {x y:Jo2} {a b:S1} {Q:Bool->S3->Prop} (hu:A.units+1 < cLine) (hx:Sd6 prog w s.heap x a) (hy:Sd6 prog w s.heap y b) (h:Q (decide (x=y)) s):Sc (model prog w) A (eqBool (.ref a) (.ref b)) Q E s:=by
 unfold eqBool
 try with_reducible refine wpAny_holding ?_
 show Sc _ _ (if (Value.ref a==Value.ref b)=true then _ else _) Q E s
 by_cases hab:(Value.ref a==Value.ref b)=true
 ·rw [if_pos hab]
  have e:a=b:=by have:=eq_of_beq hab;injection this
  subst e
  obtain rfl:=hx.inj hy
  exact S4 (wpAny_rule (S5 (by simpa using h)))
 ·rw [if_neg hab]
  exact S4 (wpAny_richCompare_same_room (op:=.Eq) hx.typeIs hy.typeIs F.slot_tuple_eq
   (wpAny_call_entry F.slot_tuple_eq hx.typeIs F.entry_tuple_eq (Jzc (by simp only [Around.in1_units];omega) hx hy ⟨_,rfl,(λe=>nomatch e),wpAny_truthy_bool h⟩) (F.args_tuple_eq_2 _ _)) (by omega))
def Jsn (prog:S7) (w:S9):HeapKind prog w Jo2 where
 is:=Sd6 prog w
 hash:=chH prog w
 draws:=λk=>k.1.length+3
 room:=λA=>A.units+1 < cLine
 inj:=λhx hy=>hx.inj hy
 keeps:=λx ho hd hs=>x.keeps ho hd hs
 pyHash:=λhu hk h=>Ydt hu hk h
 eqBool:=λhu hx hy h=>Sr9 hu hx hy h
 quiet:=λhk h=>Yci hk h
end
end L2
namespace L2
open PySem PySem.Spec PyProof.Rows PySem.W
section
variable {prog:S7} {w:S9} {K:Type} [DecidableEq K] {knd:HeapKind prog w K} {A:Sa}
theorem Jz7 {vs:List (K×S1×S2)} {i:Nat} {k:K} {p:S1×S2} (nd:(vs.map (·.1)).Nodup) (h:vs[i]?=some (k,p)):atKey (vs.take i) k=none:=by
 refine atKey_none_of_get λj q hj=>?_
 have jl:j < i:=by
  have:=(yi.mp hj).1
  rw [yad] at this
  omega
 rw [List.getElem?_take_of_lt jl] at hj
 have:=idxH_unique nd hj h
 omega
theorem Sw9 {s₀:S3} {its:Array S2} {L n it:S1} {vs:List (K×S1×S2)} {R:Result->S3->Prop} (hh:A.handled=none) (hu:∀args,knd.room (A.under (.builtin "dict.update.loop" args))) (nd:(vs.map (·.1)).Nodup) (hz:vs.length<=S6) (hi:its.size=vs.length) (hL:s₀.heap.IsList L its)
  (hp:∀(i:Nat) (k:K) (ka:S1) (v:S2),vs[i]?=some (k,ka,v)->∃T o m,its[i]?=some (Value.ref T)/\s₀.heap.get? T=some o/\o.cls= .type "tuple" /\o.data= .seq #[.ref ka,v] m/\∀h,(∀b o,s₀.heap.get? b=some o->h.get? b=some o)->knd.is h k ka)
  (hn:s₀.heap.objs.size<=n) (hit:s₀.heap.objs.size<=it) (ne:n≠it)
  (hR:∀h' tk,(∀b o,s₀.heap.get? b=some o->h'.get? b=some o)->h'.DictOfH knd n vs->R (.ok (.ret .none)) {s₀ with heap:=h',toks:=tk}):
  ∀(j i:Nat) (h:Sb) (tk:Nat),i+j=vs.length->(∀b o,s₀.heap.get? b=some o->h.get? b=some o)->h.DictOfH knd n (vs.take i)->h.IsListIter it L i->
   codeAny (model prog w) A (.builtin "dict.update.loop" ⟨[.ref n,.ref it,rawInt i,.none],[]⟩) R {s₀ with heap:=h,toks:=tk}:=by
 intro j
 induction j with
 |zero=>
  intro i h tk e keep hd st
  have ei:i=vs.length:=by omega
  subst ei
  rw [ybl] at hd
  refine codeAny_builtin Jw8 ?_
  unfold Builtin.«dict.update.loop»
  refine S4 (wpAny_pyNext_list_end (s:={s₀ with heap:=h,toks:=tk}) hh st (items:=its) ?_ (by simp;omega) λh' eb=>?_)
  ·obtain ⟨o,q,r⟩:=hL
   exact ⟨o,keep _ _ q,r⟩
  ·show Sc _ _ (Builtin.Dict.addKeywords n [] >>=λ_=>ret .none) _ _ _
   refine S4 (S5 (S5 ?_))
   have kk:∀b o,s₀.heap.get? b=some o->h'.get? b=some o:=λb o q=>eb b o (λz=>absurd (yk q) (by rw [z];exact ybj.mpr hit)) (keep b o q)
   obtain ⟨o,es,ep,d1,d2,d3,d4,d5,d6⟩:=hd
   exact hR h' tk kk ⟨o,es,ep,eb n o ne d1,d2,d3,d4,λx hx=>by
    obtain ⟨i,hi⟩:=ybk hx
    obtain ⟨T,o',m,_,_,_,_,hk⟩:=hp i x.1 x.2.1 x.2.2 hi
    exact hk h' kk,d6⟩
 |succ j ih=>
  intro i h tk e keep hd st
  refine codeAny_builtin Jw8 ?_
  unfold Builtin.«dict.update.loop»
  have hi':i < vs.length:=by omega
  have hx:vs[i]?=some (vs[i].1,vs[i].2.1,vs[i].2.2):=by simp [hi']
  obtain ⟨T,o,m,hT,ho,hc,hdt,hk⟩:=hp i _ _ _ hx
  have kT:∀b o,s₀.heap.get? b=some o->b≠it:=λb o q z=>absurd (yk q) (by rw [z];exact ybj.mpr hit)
  refine S4 (wpAny_pyNext_list_item (s:={s₀ with heap:=h,toks:=tk}) st (items:=its) ?_ hT λh' st' sb=>?_)
  ·obtain ⟨o,q,r⟩:=hL
   exact ⟨o,keep _ _ q,r⟩
  have keep1:∀b o,s₀.heap.get? b=some o->h'.get? b=some o:=λb o q=>(sb.2 b (kT b o q)).trans (keep b o q)
  have tyT:Shared.TypeIs {s₀ with heap:=h',toks:=tk} (.ref T) "tuple" :=⟨o,keep1 _ _ ho,hc⟩
  refine S4 (wpAny_holding (S4 (wpAny_tryCatch ?_)))
  unfold Builtin.Dict.pairItems
  refine S4 (wpAny_typeOf tyT ?_)
  rw [if_pos (by decide)]
  refine S4 (wpAny_seqItems (keep1 _ _ ho) hdt (S5 ?_))
  show Sc _ _ (holding [.ref vs[i].2.1,vs[i].2.2] (dictSet n (.ref vs[i].2.1) vs[i].2.2)) _ _ _
  have hd1:h'.DictOfH knd n (vs.take i):=by
   obtain ⟨o,es,ep,d1,d2,d3,d4,d5,d6⟩:=hd
   exact ⟨o,es,ep,(sb.2 n ne).trans d1,d2,d3,d4,λx hx=>by
    obtain ⟨j,hj⟩:=ybk (ycr hx)
    obtain ⟨T,o',m,_,_,_,_,hk⟩:=hp j x.1 x.2.1 x.2.2 hj
    exact hk h' keep1,d6⟩
  refine wpAny_holding (wpAny_dictSet_heap (s:={s₀ with heap:=h',toks:=tk}) (hu _) (hk h' keep1) hd1 (hsz:=by rw [yad];omega) λh2 hd2 sb2=>?_)
  refine S5 ⟨Code.quiet_builtin _ (by decide +kernel),?_⟩
  rw [storedH_new (Jz7 nd hx),<-Yar hx] at hd2
  refine ih (i+1) h2 (tk+knd.draws vs[i].1) (by omega) (λb o q=>(sb2.2 b (λz=>absurd (yk q) (by rw [z];exact ybj.mpr hn))).trans (keep1 b o q)) hd2 ?_
  obtain ⟨o',q,r⟩:=st'
  exact ⟨o',(sb2.2 it (yw ne)).trans q,r⟩
end
def tnV:Option Int->V
 |none=>.non
 |some i=>.int i
def ChK (H:Hp) (a:S1) (k:Jo2):Prop:=∃b,H a=some (.tup [.ref b,tnV k.2])/\H b=some (.tup (k.1.map V.int))
def DC (P:S7) (w:S9) (p:S1) (kvs:List (Jo2×S1×Int)):HO:=.ext λh=>kvs.length<=S6/\(p==sysModules)=false/\∃xs:List (Jo2×S1×S2),
 Paired (λ(q:Jo2×S1×Int) (x:Jo2×S1×S2)=>q.1=x.1/\q.2.1=x.2.1/\RelV (.int q.2.2) x.2.2) kvs xs/\∃o es ep,h.get? p=some o/\o.ExactDict/\o.data= .dict es ep/\es.toList=xs.map (entryOfKey (Jsn P w))/\(xs.map (·.1)).Nodup
section
variable {X:Cx} {pins:List (S1×Obj)} {σ:St} {H:Hp} {s:S3}
theorem Ybq {ns:List Int} {its:List S2} (r:Sv (ns.map V.int) its):ItemsAre (intKind X.prog X.w) ns its:=by
 induction ns generalizing its with
 |nil=>cases r;exact .nil
 |cons n ns ih=>
  cases r with
  | @cons _ v _ _ k1 k2=>
   obtain ⟨t,rfl⟩:=k1
   exact .cons (by show Value.isInt n (.int n t)=true;simp [Value.isInt]) (ih k2)
theorem ChK.is {a:S1} {k:Jo2} (ok:HOk X.prog X.w H s.heap) (c:ChK H a k):∀h:Sb,(∀b o,s.heap.get? b=some o->h.get? b=some o)->Sd6 X.prog X.w h k a:=by
 intro h kp
 obtain ⟨b,e1,e2⟩:=c
 obtain ⟨_,its,r,o,f1,f2,m,f3⟩:=(show Saa X.prog X.w H s.heap a (.tup _) from ok a _ e1)
 obtain ⟨_,jts,q,u,g1,g2,n,g3⟩:=(show Saa X.prog X.w H s.heap b (.tup _) from ok b _ e2)
 cases r with
 | @cons _ x _ _ k1 r=>
  obtain rfl:x=Value.ref b:=k1
  cases r with
  | @cons _ v _ _ k2 r=>
   cases r
   refine ⟨o,_,m,b,v,kp _ _ f1,f2,f3,rfl,⟨u,_,n,kp _ _ g1,g2,g3,Ybq q⟩,?_⟩
   cases hk:k.2 with
   |none=>
    rw [hk] at k2
    obtain rfl:v=Value.none:=k2
    rfl
   |some i=>
    rw [hk] at k2
    obtain ⟨t,rfl⟩:=k2
    show Value.isInt i (.int i t)=true
    simp [Value.isInt]
theorem Sr5 {P:S7} {w:S9} {H':Hp} {h:Sb} {p:S1} {kvs:List (Jo2×S1×Int)} {xs:List (Jo2×S1×S2)} (z:kvs.length<=S6) (hd:(p==sysModules)=false) (r:Paired (λ(q:Jo2×S1×Int) (x:Jo2×S1×S2)=>q.1=x.1/\q.2.1=x.2.1/\RelV (.int q.2.2) x.2.2) kvs xs) (d:h.DictOfH (Jsn P w) p xs):Saa P w H' h p (DC P w p kvs):=by
 obtain ⟨o,es,ep,d1,d2,d3,d4,d5,d6⟩:=d
 refine ⟨⟨z,hd,xs,r,o,es,ep,d1,d2,d3,d4,d6⟩,⟨o,d1⟩,?_⟩
 rintro h1 h2 ⟨z,hd,xs,r,o,es,ep,d1,d2,d3,d4,d6⟩ k
 exact ⟨z,hd,xs,r,o,es,ep,k _ d1,d2,d3,d4,d6⟩
def Yb1 (H:Hp):List V->List (Jo2×S1×Int)->Prop:=Paired λx p=>∃T,x= .ref T/\H T=some (.tup [.ref p.2.1,.int p.2.2])/\ChK H p.2.1 p.1
theorem Jza (hc:X.calm=true) (hu:X.A.units+64 < cLine):Jnr X (.type "dict") (λxs H Q=>∃L ts kvs,xs= [V.ref L]/\H L=some (.lst ts)/\Yb1 H ts kvs/\kvs.length<=100000/\(kvs.map (·.1)).Nodup/\
  ∀p,H p=none->Q (.ref p) (upd H p (DC X.prog X.w p kvs))):=by
 intro pins s σ H xs us Q I r h
 obtain ⟨L,ts,kvs,rfl,eL,pr,z,nd,q⟩:=h
 obtain ⟨u,rfl,r2⟩:=Joi r
 obtain rfl:u=Value.ref L:=r2
 obtain ⟨zL,its,m,rv,hL⟩:=(show Saa X.prog X.w H s.heap L (.lst ts) from I.hok L _ eL)
 have szL:(100000:Nat)<=S6:=by rw [sizeLine_eq];decide
 have ex:∃vs:List (Jo2×S1×S2),Paired (λ(q:Jo2×S1×Int) (x:Jo2×S1×S2)=>q.1=x.1/\q.2.1=x.2.1/\RelV (.int q.2.2) x.2.2) kvs vs/\∀(i:Nat) (k:Jo2) (ka:S1) (v:S2),vs[i]?=some (k,ka,v)->∃T o m,its.toArray[i]?=some (Value.ref T)/\s.heap.get? T=some o/\o.cls= .type "tuple" /\o.data= .seq #[.ref ka,v] m/\∀h,(∀b o,s.heap.get? b=some o->h.get? b=some o)->(Jsn X.prog X.w).is h k ka:=by
  have one:∀(x:V) (p:Jo2×S1×Int),(∃T,x= .ref T/\H T=some (.tup [.ref p.2.1,.int p.2.2])/\ChK H p.2.1 p.1)->∀w',RelV x w'->∃v:S2,RelV (.int p.2.2) v/\∃T o m,w'=Value.ref T/\s.heap.get? T=some o/\o.cls= .type "tuple" /\o.data= .seq #[.ref p.2.1,v] m/\∀h,(∀b o,s.heap.get? b=some o->h.get? b=some o)->(Jsn X.prog X.w).is h p.1 p.2.1:=by
   rintro x p ⟨T,rfl,eT,ck⟩ w' rw'
   obtain rfl:w'=Value.ref T:=rw'
   obtain ⟨_,jts,rj,o,e1,e2,m,e3⟩:=(show Saa X.prog X.w H s.heap T (.tup _) from I.hok T _ eT)
   cases rj with
   | @cons _ key _ _ k1 rj=>
    obtain rfl:key=Value.ref p.2.1:=k1
    cases rj with
    | @cons _ v _ _ k2 rj=>
     cases rj
     exact ⟨v,k2,T,o,m,rfl,e1,e2,e3,ck.is I.hok⟩
  clear hL eL r z nd q zL
  induction pr generalizing its with
  |nil=>cases rv;exact ⟨[],.nil,λi k ka v e=>by simp at e⟩
  | @cons x p l1 l2 hx t ih=>
   cases rv with
   | @cons _ w' _ its' k1 k2=>
    obtain ⟨vs,a1,a2⟩:=ih _ k2
    obtain ⟨v,b1,T,o,m,b2,b3⟩:=one x p hx w' k1
    refine ⟨(p.1,p.2.1,v)::vs,.cons ⟨rfl,rfl,b1⟩ a1,λi k ka v' e=>?_⟩
    cases i with
    |zero=>
     simp at e
     obtain ⟨rfl,rfl,rfl⟩:=e
     exact ⟨T,o,m,by simp [b2],b3⟩
    |succ j=>
     obtain ⟨T,o,m,c1,c2⟩:=a2 j k ka v' (by simpa using e)
     exact ⟨T,o,m,by simpa using c1,c2⟩
 obtain ⟨vs,rel,hp⟩:=ex
 have el:its.toArray.size=vs.length:=by
  have e1:=rv.length
  have e2:=Paired.length pr
  have e3:=Paired.length rel
  simp;omega
 have ndv:(vs.map (·.1)).Nodup:=by
  have e:∀{a:List (Jo2×S1×Int)} {b:List (Jo2×S1×S2)},Paired (λ(q:Jo2×S1×Int) (x:Jo2×S1×S2)=>q.1=x.1/\q.2.1=x.2.1/\RelV (.int q.2.2) x.2.2) a b->a.map (·.1)=b.map (·.1):=by
   intro a b h
   induction h with
   |nil=>rfl
   |cons h t ih=>rw [yak,yak,ih,h.1]
  rw [<-e rel];exact nd
 refine callType_codes (Q₁:=λobj s₁=>obj= .ref s.heap.objs.size/\s₁={s with heap:=s.heap.push {cls:=.type "dict",data:=.dict #[]}}) PySem.F.kt_called_dict (PySem.F.kt_typeCall_dict_1 _) PySem.F.entry_dict_init (kt_code_dict_new _ ⟨rfl,rfl⟩) ?_
 rintro obj s₁ ⟨rfl,rfl⟩
 have hnew:(s.heap.push {cls:=.type "dict",data:=.dict #[]}).DictOfH (Jsn X.prog X.w) s.heap.objs.size []:=Heap.DictOfH.new s.heap
 have hL1:(s.heap.push {cls:=.type "dict",data:=.dict #[]}).get? L=some {cls:=.type "list",data:=.seq its.toArray m}:=ym _ hL
 refine ⟨hnew.typeIs,PySem.F.args_dict_init_2 _ _,?_⟩
 unfold Builtin.«dict.__init__»
 refine S4 ?_
 unfold Builtin.Dict.selfAndRest
 refine S4 (wpAny_notOrdered_dict hnew.typeIs ?_)
 show Sc _ _ (pure (s.heap.objs.size,[Value.ref L])) _ _ _
 refine S5 ?_
 show Sc _ _ (Builtin.Dict.updateFrom "dict.__init__" s.heap.objs.size (.ref L) [] .none) _ _ _
 unfold Builtin.Dict.updateFrom
 refine S4 (wpAny_typeOf (T:="list") ⟨_,hL1,rfl⟩ ?_)
 rw [if_pos (by decide)]
 refine S4 (Juk hL1 (I.ok.hd hc) λh1 tk1 kp1=>?_)
 show Sc _ _ (rule _ >>=_) _ _ _
 refine S4 (wpAny_rule ?_)
 have hL2:h1.IsList L its.toArray:=⟨_,kp1 _ _ hL1,rfl,_,rfl⟩
 refine S4 (wpAny_pyIter_list hL2 ?_)
 refine S5 ⟨Code.quiet_builtin _ (by decide +kernel),?_⟩
 have sz1:s.heap.objs.size < h1.objs.size:=yk (kp1 s.heap.objs.size _ (yx _ rfl))
 refine Sw9 (A:=X.A.in1) (s₀:=s) (its:=its.toArray) (L:=L) (n:=s.heap.objs.size) (it:=h1.objs.size) (vs:=vs) (knd:=Jsn X.prog X.w) (I.ok.hd hc) (λc=>?_) ndv (by have:=Paired.length rel;omega) el ⟨_,hL,rfl,_,rfl⟩ hp (yg _) (ycd sz1) (yz sz1) (λh' tk kp dd=>?_) vs.length 0 (h1.push {cls:=.type "list_iterator",data:=.fields #[.ref L,.int 0 0]}) tk1 (Nat.zero_add _)
  (λb o e=>ym _ (kp1 b o (ym _ e))) ?_ ?_
 ·show ((X.A.in1).under (.builtin "dict.update.loop" c)).units+1 < cLine
  have e:((X.A.in1).under (.builtin "dict.update.loop" c)).units=X.A.in1.units+1:=by first|rfl|simp [Around.under,Code.cUnits,Code.frames,Code.isFrame]
  rw [e]
  simp only [Around.in1_units]
  omega
 ·exact ⟨rfl,.ref s.heap.objs.size,_,I.laid (a:=s.heap.objs.size) (o:=DC X.prog X.w s.heap.objs.size kvs) (t':=tk) kp (yg _) (Sr5 (by omega) (beq_eq_false_iff_ne.mpr (yw (yz I.big))) rel dd),rfl,q _ (I.hok.fresh (yg _))⟩
 ·obtain ⟨o,es,ep,e,d2,d3,d4,d5,d6⟩:=hnew
  exact ⟨o,es,ep,ym _ (kp1 _ _ e),d2,d3,d4,λx hx=>absurd hx (by simp),d6⟩
 ·exact ⟨_,yx _ rfl,rfl,rfl⟩
end
end L2
namespace L2
open PySem PySem.Spec PyProof.Rows
end L2
namespace L2
open PySem PySem.Spec PyProof.Rows PySem.W
section
variable {X:Cx}
inductive ipM (x:V) (y:V) (H:Hp) (Q:VK):Prop where
 |mk (i:Int) (j:Int) (_:x= .int i) (_:y= .int j) (_:Siv i j) (_:Q (.int (i*j)) H)
theorem Ybr:PIp X .Mult ipM:=by
 rintro pins s σ H x y v u Q I r1 r2 ⟨i,j,e1,e2,hc,q⟩
 subst e1;subst e2
 obtain ⟨t,rfl⟩:=r1
 obtain ⟨t',rfl⟩:=r2
 exact imul_int ⟨.int _,H,I.tok _,⟨_,rfl⟩,q⟩ hc.ok
end
section
theorem ftd_mk {K} (X:K.In h) (G:h.Ns mainGlobals mg) {st} {D:S1} {kV ct} {it:Array S2} {m:Nat} {o:Obj} (a:PySem.W.nsIn K mainGlobals q=some (some (.ref f)))
  (l:K.lookup f=some ⟨oc,od,.func (PySem.W.fnOf q q (Jnn st) (Jnb st) (Jm0 st) (.ref D) kV dc pm an cd ct),sl⟩) (c:PySem.W.codeIn K cd q=true) (k:PySem.W.keepIn K (.ref f)=true) (hd:K.lookup D=some o) (ho:o.data= .seq it m)
  (hb:∀us,us.length=ps.length->∃g,bindArgs (PySem.W.fnOf q q (Jnn st) (Jnb st) (Jm0 st) (.ref D) kV dc pm an cd ct) ⟨us,[]⟩=seqItems? (.ref D) >>=g/\g (some it)=pure (ps.zip us)):FT K mg q st ps f (PySem.W.fnOf q q (Jnn st) (Jnb st) (Jm0 st) (.ref D) kV dc pm an cd ct):=by
 refine ⟨PySem.W.mg_of X G a,Jwx l c k,λs us X' hl=>?_⟩
 rw [ybb] at hl⊢
 obtain ⟨g,h1,h2⟩:=hb us hl
 exact BindsTo.of_defaults rfl (X' _ _ hd) ho h1 h2
theorem fmd_mk {K} {st} {D:S1} {kV ct} {it:Array S2} {m:Nat} {o:Obj}
  (l:K.lookup f=some ⟨oc,od,.func (PySem.W.fnOf n q (Jnn st) (Jnb st) (Jm0 st) (.ref D) kV dc pm an cd ct),sl⟩) (c:PySem.W.codeIn K cd q=true) (k:PySem.W.keepIn K (.ref f)=true) (hd:K.lookup D=some o) (ho:o.data= .seq it m)
  (hb:∀us,us.length=ps.length->∃g,bindArgs (PySem.W.fnOf n q (Jnn st) (Jnb st) (Jm0 st) (.ref D) kV dc pm an cd ct) ⟨us,[]⟩=seqItems? (.ref D) >>=g/\g (some it)=pure (ps.zip us)):FM K n q st ps f (PySem.W.fnOf n q (Jnn st) (Jnb st) (Jm0 st) (.ref D) kV dc pm an cd ct):=by
 refine ⟨Jwx l c k,λs us X' hl=>?_⟩
 rw [ybb] at hl⊢
 obtain ⟨g,h1,h2⟩:=hb us hl
 exact BindsTo.of_defaults rfl (X' _ _ hd) ho h1 h2
end
section
variable {a:S1}
theorem Ya6 {o} {kvs:List (Key×V)} {g:TG} {tb:TS} {D:Sc1} {σ} {H} (Pv:Nat->St->Hp->Prop) (h0:Pv 0 σ H) (hl:∀i σ H,i<=kvs.length->Pv i σ H->H a=some (.frz o (.dK kvs)))
  (hs:∀i k x σ H T,kvs[i]?=some (k,x)->Pv i σ H->H T=none->g (.ref T) σ (upd H T (.tup [kV k,x])) λσ2 H2=>tb {D with nx:=Pv (i+1),ct:=Pv (i+1),bk:=D.nx} σ2 H2) (hd:∀σ H,Pv kvs.length σ H->D.nx σ H):
  ∃W:Nat->Nat->St->Hp->Prop,(∃m,W 0 m σ H)/\∀i m σ H,W i m σ H->
   ((Iti a o kvs).stop i H/\D.nx σ H)\/((Iti a o kvs).go i H/\∃N:St->Hp->Prop,(∀σ' H',N σ' H'->∃m',m' < m/\W (i+1) m' σ' H')/\∀x H',(Iti a o kvs).yld i H x H'->g x σ H' λσ2 H2=>tb {D with nx:=N,ct:=N,bk:=D.nx} σ2 H2):=by
 refine ⟨λi m σ H=>m=kvs.length - i/\i<=kvs.length/\Pv i σ H,⟨kvs.length,by simp,yai _,h0⟩,?_⟩
 rintro i m σ H ⟨rfl,hi,p⟩
 have q:=hl i σ H hi p
 by_cases hlt:i < kvs.length
 ·refine .inr ⟨⟨q,hlt⟩,Pv (i+1),λσ' H' p'=>⟨kvs.length - (i+1),by omega,rfl,hlt,p'⟩,λx H' y=>?_⟩
  obtain ⟨T,k,u,hT,rfl,y,rfl⟩:=y
  exact hs i k u σ _ T y p hT
 ·have e:i=kvs.length:=by omega
  subst e
  exact .inl ⟨⟨q,yg _⟩,hd σ H p⟩
end
theorem Jqp:bootBuiltins "repr" =some (.builtin "repr"):=by decide +kernel
structure Rp (d:PyData) (b t:Nat):Prop where
 sh:d.showable=true
 lv:d.leavesShort 1921=true
 bk:d.bulk<=b
 dp:d.depth<=t
theorem Rp.mono {d:PyData} {b t b' t':Nat} (h:Rp d b t) (hb:b<=b') (ht:t<=t'):Rp d b' t':=⟨h.sh,h.lv,yac h.bk hb,yac h.dp ht⟩
theorem Rp.int {i:Int} (h:i.natAbs.log2 < 1920):Rp (.int i) 0 0:=
 ⟨by simp only [PyData.showable];exact decide_eq_true h,by simp only [PyData.leavesShort,PyData.shown];exact decide_eq_true (int_text_len_1921 h),by simp [PyData.bulk],by simp [PyData.depth]⟩
theorem Rp.non:Rp .none 0 0:=⟨by simp [PyData.showable],by simp [PyData.leavesShort],by simp [PyData.bulk],by simp [PyData.depth]⟩
theorem Rp.bl (b:Bool):Rp (.bool b) 0 0:=⟨by simp [PyData.showable],by simp [PyData.leavesShort],by simp [PyData.bulk],by simp [PyData.depth]⟩
theorem Rp.str {z:Str} (h:z.cps.toList.all (λc=>decide (c < 16^8))=true):Rp (.str z) z.cps.size 0:=⟨by simp [PyData.showable],by simp only [PyData.leavesShort];exact h,by simp [PyData.bulk],by simp [PyData.depth]⟩
theorem Ycq {b t:Nat}:∀{ds:List PyData},(∀d∈ds,Rp d b t)->PyData.showableAll ds=true/\PyData.leavesShortAll 1921 ds=true/\PyData.bulkAll ds<=(b+1)*ds.length/\PyData.depthAll ds<=t:=by
 intro ds
 induction ds with
 |nil=>exact λ_=>⟨by simp [PyData.showableAll],by simp [PyData.leavesShortAll],by simp [PyData.bulkAll],by simp [PyData.depthAll]⟩
 |cons d ds ih=>
  intro h
  obtain ⟨i1,i2,i3,i4⟩:=ih λx hx=>h x (yaa _ hx)
  have q:=h d yah
  refine ⟨by simp [PyData.showableAll,q.sh,i1],by simp [PyData.leavesShortAll,q.lv,i2],?_,?_⟩
  ·simp only [PyData.bulkAll,yaf]
   have:=q.bk
   rw [Nat.mul_succ]
   omega
  ·simp only [PyData.depthAll]
   have:=q.dp
   omega
theorem Rp.tup {b t:Nat} {ds:List PyData} (h:∀d∈ds,Rp d b t):Rp (.tuple ds) ((b+1)*ds.length) (t+1):=by
 obtain ⟨i1,i2,i3,i4⟩:=Ycq h
 exact ⟨by simp only [PyData.showable];exact i1,by simp only [PyData.leavesShort];exact i2,by simp only [PyData.bulk];exact i3,by simp only [PyData.depth];omega⟩
theorem Rp.lst {b t:Nat} {ds:List PyData} (h:∀d∈ds,Rp d b t):Rp (.list ds) ((b+1)*ds.length) (t+1):=by
 obtain ⟨i1,i2,i3,i4⟩:=Ycq h
 exact ⟨by simp only [PyData.showable];exact i1,by simp only [PyData.leavesShort];exact i2,by simp only [PyData.bulk];exact i3,by simp only [PyData.depth];omega⟩
theorem Rp.dct:Rp (.dict []) 0 2:=⟨by simp [PyData.showable,PyData.showableKv],by simp [PyData.leavesShort,PyData.leavesShortKv],by simp [PyData.bulk,PyData.bulkKv],by simp [PyData.depth,PyData.depthKv]⟩
theorem Rp.fit {d:PyData} {b t:Nat} (h:Rp d b t) (hb:b<=8000):d.shown.length<=S6:=by
 have q:=PyData.shown_le_bulk 1921 (by decide) d h.lv
 have:=h.bk
 rw [sizeLine_eq]
 omega
mutual
theorem Sbg.nod {K:Sd} {H:Hp}:∀{x} {d},Sbg K H x d->d.hasDict=false
 |_,_,.non=>by simp [PyData.hasDict]
 |_,_,.bl b=>by simp [PyData.hasDict]
 |_,_,.int i=>by simp [PyData.hasDict]
 |_,_,.str z=>by simp [PyData.hasDict]
 |_,_,.lst hq hd=>by simp only [PyData.hasDict];exact Sar.nod hd
 |_,_,.tup hq hd=>by simp only [PyData.hasDict];exact Sar.nod hd
theorem Sar.nod {K:Sd} {H:Hp}:∀{xs:List V} {ds:List PyData},Sar K H xs ds->PyData.hasDictAll ds=false
 |_,_,.nil=>by simp [PyData.hasDictAll]
 |_,_,.cons h t=>by simp only [PyData.hasDictAll,Sbg.nod h,Sar.nod t,Bool.or_self]
end
section
variable {X:Cx}
end
def OnD (D:S1) (H H':Hp):Prop:=∀q o,(q≠D\/∀xs,o≠ .lst xs)->H q=some o->H' q=some o
def MnD {α:Type} (D:S1) (Rel:Hp->V->α->Prop):Prop:=∀H H' v a,OnD D H H'->Rel H v a->Rel H' v a
def Sa2 {α:Type} (Rel:Hp->V->α->Prop) (H:Hp) (vs:List V) (as:List α):Prop:=vs.length=as.length/\∀(i:Nat) (v:V) (a:α),vs[i]?=some v->as[i]?=some a->Rel H v a
theorem OnD.same {D:S1} {H H':Hp} (s:Si H H'):OnD D H H':=λq o _ e=>s q o e
theorem OnD.grow {D:S1} {H:Hp} {ys zs:List V} (h:H D=some (.lst ys)):OnD D H (upd H D (.lst zs)):=λq o c e=>by
 have n:q≠D:=by
  rcases c with c|c
  ·exact c
  ·exact λz=>by
    rw [z,h] at e
    exact c _ (yt.inj e).symm
 rw [Sw n]
 exact e
theorem Sa2.on {α:Type} {D:S1} {Rel:Hp->V->α->Prop} {H H':Hp} {vs:List V} {as:List α} (mn:MnD D Rel) (f:OnD D H H') (h:Sa2 Rel H vs as):Sa2 Rel H' vs as:=⟨h.1,λi v a e1 e2=>mn _ _ _ _ f (h.2 i v a e1 e2)⟩
theorem Sa2.snoc {α:Type} {Rel:Hp->V->α->Prop} {H:Hp} {vs:List V} {as:List α} {v:V} {a:α} (h:Sa2 Rel H vs as) (k:Rel H v a):Sa2 Rel H (vs++ [v]) (as++ [a]):=by
 refine ⟨by rw [yab,yab,h.1];rfl,λi x b e1 e2=>?_⟩
 have l:=h.1
 rw [yck] at e1 e2
 by_cases c:i < vs.length
 ·rw [if_pos c] at e1
  rw [if_pos (by omega)] at e2
  exact h.2 i x b e1 e2
 ·rw [if_neg c] at e1
  rw [if_neg (by omega),<-l] at e2
  cases ei:i - vs.length with
  |zero=>
   rw [ei] at e1 e2
   cases e1
   cases e2
   exact k
  |succ j=>
   rw [ei] at e1
   simp at e1
theorem Sa2.nil {α:Type} {Rel:Hp->V->α->Prop} {H:Hp}:Sa2 Rel H [] []:=⟨rfl,λi v a e=>by simp at e⟩
theorem Sa2.at {α:Type} {Rel:Hp->V->α->Prop} {H:Hp} {vs:List V} {as:List α} {i:Nat} {v:V} (h:Sa2 Rel H vs as) (e:vs[i]?=some v):∃a,as[i]?=some a/\Rel H v a:=by
 have hi:i < vs.length:=(yi.mp e).1
 have l:=h.1
 exact ⟨as[i],yh _,h.2 i v _ e (yh (by omega))⟩
theorem Sa2.imp {α:Type} {Rel Rel':Hp->V->α->Prop} {H H':Hp} {vs:List V} {as:List α} (f:∀v a,Rel H v a->Rel' H' v a) (h:Sa2 Rel H vs as):Sa2 Rel' H' vs as:=⟨h.1,λi v a e1 e2=>f v a (h.2 i v a e1 e2)⟩
theorem Sa2.append {α:Type} {Rel:Hp->V->α->Prop} {H:Hp} {vs us:List V} {as bs:List α} (h:Sa2 Rel H vs as) (k:Sa2 Rel H us bs):Sa2 Rel H (vs++us) (as++bs):=by
 refine ⟨by rw [yab,yab,h.1,k.1],λi v r e1 e2=>?_⟩
 have l:=h.1
 rw [yck] at e1 e2
 by_cases c:i < vs.length
 ·rw [if_pos c] at e1
  rw [if_pos (by omega)] at e2
  exact h.2 i v r e1 e2
 ·rw [if_neg c] at e1
  rw [if_neg (by omega),<-l] at e2
  exact k.2 _ v r e1 e2
theorem Sa2.one {α:Type} {Rel:Hp->V->α->Prop} {H:Hp} {v:V} {a:α} (k:Rel H v a):Sa2 Rel H [v] [a]:=Sa2.snoc .nil k
theorem Sjm {H H':Hp} {q:S1} {o:HO} (e:upd H q o=H') (h:H q=none):Si H H'/\H' q=some o:=by
 subst e
 exact ⟨Si.upd h,Sn⟩
theorem Jrq {α:Type} {Pr:α->Prop}:∀y∈([]:List α),Pr y:=λ_ h=>nomatch h
theorem all_cons {α:Type} {Pr:α->Prop} {a:α} {l:List α} (h:Pr a) (k:∀y∈l,Pr y):∀y∈a::l,Pr y:=λy hy=>by
 rcases yp.mp hy with e|m
 ·rw [e];exact h
 ·exact k y m
section
variable {α:Type} {K:Sd} {a D:S1} {xs:List V} {te:TE} {R:Hp->Prop} {H:Hp} {o:Option V} {rest:St}
theorem Sko {Rel:Hp->V->α->Prop} {as:List α} {i:Nat} {y:α} {vs:List V} {v:V} {H' H5:Hp} (mn:MnD D Rel) (hD:H D=none) (ey:as[i]?=some y) (hDs:H' D=some (.lst vs)) (rg:Sa2 Rel H' vs (as.take i)) (sm:Si H H') (s5:Si H' H5) (r:Rel H5 v y):
  upd H5 D (.lst (vs++ [v])) D=some (.lst (vs++ [v]))/\Sa2 Rel (upd H5 D (.lst (vs++ [v]))) (vs++ [v]) (as.take (i+1))/\Si H (upd H5 D (.lst (vs++ [v]))):=by
 refine ⟨Sn,?_,λc u z=>?_⟩
 ·rw [yy,ey]
  have f:=OnD.grow (zs:=vs++ [v]) (s5 _ _ hDs)
  exact Sa2.on mn f (Sa2.snoc (rg.on mn (OnD.same s5)) r)
 ·rw [Sw (Jm1 z hD)]
  exact s5 _ _ (sm _ _ z)
theorem Jns (Rel:Hp->V->α->Prop) (as:List α) (mn:MnD D Rel) (hD:H D=none) (el:as.length=xs.length) (sz:xs.length<=2000) (hq:H a=some (.lst xs))
  (he:∀(i:Nat) x y H' Q,xs[i]?=some x->as[i]?=some y->Si H H'->(∃vs,H' D=some (.lst vs))->(∀v H5,Si H' H5->Rel H5 v y->Q v H5)->te (some x::rest) H' Q)
  (hd:∀vs H',Si H H'->H' D=some (.lst vs)->Sa2 Rel H' vs as->R H'):
  ∃W:Nat->Nat->St->Hp->Prop,(∃m,W 0 m (o::rest) (upd H D (.lst [])))/\∀i m σ' H',W i m σ' H'->((Itl K a).stop i H'/\R H')\/((Itl K a).go i H'/\∃N:St->Hp->Prop,(∀σ2 H2,N σ2 H2->∃m',m' < m/\W (i+1) m' σ2 H2)/\
   ∀x H2,(Itl K a).yld i H' x H2->Jog 0 x σ' H2 λσ3 H3=>Jxs σ3 H3 λb H4=>if b=true then te σ3 H4 (λv H5=>∃ys,H5 D=some (.lst ys)/\ys.length < S6/\N σ3 (upd H5 D (.lst (ys++ [v])))) else N σ3 H4):=by
 refine Jnk (λi σ H'=>(∃o,σ=o::rest)/\∃vs,H' D=some (.lst vs)/\Sa2 Rel H' vs (as.take i)/\Si H H') ⟨⟨_,rfl⟩,[],Sn,.nil,Si.upd hD⟩ (λi σ H' _ ⟨_,_,_,_,sm⟩=>Ss.of (sm _ _ hq)) ?_ ?_
 ·rintro i x σ H' hx ⟨⟨o,rfl⟩,vs,hDs,rg,sm⟩
  have hi:i < as.length:=by rw [el];exact (yi.mp hx).1
  have l:=rg.1
  rw [yad] at l
  exact Jn6 (he i x as[i] H' _ hx (yh hi) sm ⟨_,hDs⟩ λv H5 s5 r=>⟨_,s5 _ _ hDs,Jmn (by omega),⟨_,rfl⟩,_,Sko mn hD (yh hi) hDs rg sm s5 r⟩)
 ·rintro σ H' ⟨_,vs,hDs,rg,sm⟩
  rw [yae (by omega)] at rg
  exact hd vs H' sm hDs rg
theorem Jpe {lo:Int} {n:Nat} (Rel:Hp->V->α->Prop) (as:List α) (mn:MnD D Rel) (hD:H D=none) (el:as.length=n) (sz:n<=2000)
  (he:∀(i:Nat) y H' Q,as[i]?=some y->Si H H'->(∃vs,H' D=some (.lst vs))->(∀v H5,Si H' H5->Rel H5 v y->Q v H5)->te (some (.int (lo+i))::rest) H' Q)
  (hd:∀vs H',Si H H'->H' D=some (.lst vs)->Sa2 Rel H' vs as->R H'):
  ∃W:Nat->Nat->St->Hp->Prop,(∃m,W 0 m (o::rest) (upd H D (.lst [])))/\∀i m σ' H',W i m σ' H'->((Itr lo n).stop i H'/\R H')\/((Itr lo n).go i H'/\∃N:St->Hp->Prop,(∀σ2 H2,N σ2 H2->∃m',m' < m/\W (i+1) m' σ2 H2)/\
   ∀x H2,(Itr lo n).yld i H' x H2->Jog 0 x σ' H2 λσ3 H3=>Jxs σ3 H3 λb H4=>if b=true then te σ3 H4 (λv H5=>∃ys,H5 D=some (.lst ys)/\ys.length < S6/\N σ3 (upd H5 D (.lst (ys++ [v])))) else N σ3 H4):=by
 refine Jra (λi σ H'=>(∃o,σ=o::rest)/\∃vs,H' D=some (.lst vs)/\Sa2 Rel H' vs (as.take i)/\Si H H') ⟨⟨_,rfl⟩,[],Sn,.nil,Si.upd hD⟩ ?_ ?_
 ·rintro i σ H' hx ⟨⟨o,rfl⟩,vs,hDs,rg,sm⟩
  have hi:i < as.length:=by omega
  have l:=rg.1
  rw [yad] at l
  exact Jn6 (he i as[i] H' _ (yh hi) sm ⟨_,hDs⟩ λv H5 s5 r=>⟨_,s5 _ _ hDs,Jmn (by omega),⟨_,rfl⟩,_,Sko mn hD (yh hi) hDs rg sm s5 r⟩)
 ·rintro σ H' ⟨_,vs,hDs,rg,sm⟩
  rw [yae (by omega)] at rg
  exact hd vs H' sm hDs rg
theorem Jso {tt:TT} (Rel:Hp->V->α->Prop) (as:List α) (pr:α->Bool) (mn:MnD D Rel) (hD:H D=none) (rg:Sa2 Rel H xs as) (sz:xs.length<=2000) (hq:H a=some (.lst xs))
  (ht:∀(i:Nat) x y H' (Q:Bool->Hp->Prop),as[i]?=some y->Rel H' x y->Q (pr y) H'->tt (some x::rest) H' Q)
  (hd:∀vs H',Si H H'->H' D=some (.lst vs)->Sa2 Rel H' vs (as.filter pr)->R H'):
  ∃W:Nat->Nat->St->Hp->Prop,(∃m,W 0 m (o::rest) (upd H D (.lst [])))/\∀i m σ' H',W i m σ' H'->((Itl K a).stop i H'/\R H')\/((Itl K a).go i H'/\∃N:St->Hp->Prop,(∀σ2 H2,N σ2 H2->∃m',m' < m/\W (i+1) m' σ2 H2)/\
   ∀x H2,(Itl K a).yld i H' x H2->Jog 0 x σ' H2 λσ3 H3=>tt σ3 H3 λb H4=>if b=true then Sjt 0 σ3 H4 (λv H5=>∃ys,H5 D=some (.lst ys)/\ys.length < S6/\N σ3 (upd H5 D (.lst (ys++ [v])))) else N σ3 H4):=by
 refine Jnk (λi σ H'=>(∃o,σ=o::rest)/\∃vs,H' D=some (.lst vs)/\vs.length<=i/\Sa2 Rel H' vs ((as.take i).filter pr)/\Si H H') ⟨⟨_,rfl⟩,[],Sn,yg 0,.nil,Si.upd hD⟩ (λi σ H' _ ⟨_,_,_,_,_,sm⟩=>Ss.of (sm _ _ hq)) ?_ ?_
 ·rintro i x σ H' hx ⟨⟨o,rfl⟩,vs,hDs,vl,r,sm⟩
  have hi:=(yi.mp hx).1
  obtain ⟨y,ey,ry⟩:=rg.at hx
  have ry':=mn _ _ _ _ (OnD.same sm) ry
  rw [yy,ey,List.filter_append]
  refine ht i x y H' _ ey ry' ?_
  cases c:pr y with
  |true=>
   have f:=OnD.grow (zs:=vs++ [x]) hDs
   refine Joa ⟨x,rfl,vs,hDs,Jmn (by omega),⟨_,rfl⟩,vs++ [x],Sn,by rw [yab];exact Nat.succ_le_succ vl,?_,λb u e=>?_⟩
   ·rw [show List.filter pr (some y).toList= [y] from by simp [c]]
    exact Sa2.on mn f (r.snoc ry')
   ·rw [Sw (Jm1 e hD)]
    exact sm _ _ e
  |false=>
   refine Jn9 ⟨⟨_,rfl⟩,vs,hDs,by omega,?_,sm⟩
   rw [show List.filter pr (some y).toList= [] from by simp [c],ybb]
   exact r
 ·rintro σ H' ⟨_,vs,hDs,vl,r,sm⟩
  have l:=rg.1
  rw [yae (by omega)] at r
  exact hd vs H' sm hDs r
theorem Jw4 {lo:Int} {n:Nat} (ys:List V) (hD:H D=none) (el:ys.length=n) (sz:n<=2000)
  (he:∀(i:Nat) y H' Q,ys[i]?=some y->Si H H'->(∀H5,Si H' H5->Q y H5)->te (some (.int (lo+i))::rest) H' Q)
  (hd:∀H',Si H H'->H' D=some (.lst ys)->R H'):
  ∃W:Nat->Nat->St->Hp->Prop,(∃m,W 0 m (o::rest) (upd H D (.lst [])))/\∀i m σ' H',W i m σ' H'->((Itr lo n).stop i H'/\R H')\/((Itr lo n).go i H'/\∃N:St->Hp->Prop,(∀σ2 H2,N σ2 H2->∃m',m' < m/\W (i+1) m' σ2 H2)/\
   ∀x H2,(Itr lo n).yld i H' x H2->Jog 0 x σ' H2 λσ3 H3=>Jxs σ3 H3 λb H4=>if b=true then te σ3 H4 (λv H5=>∃ys,H5 D=some (.lst ys)/\ys.length < S6/\N σ3 (upd H5 D (.lst (ys++ [v])))) else N σ3 H4):=by
 refine Jpe (λ_ v y=>v=y) ys (λ_ _ _ _ _ h=>h) hD el sz (λi y H' Q e s _ k=>he i y H' Q e s λH5 s5=>k y H5 s5 rfl) λvs H' s h r=>hd H' s ?_
 have e:vs=ys:=List.ext_getElem? λi=>by
  by_cases c:i < vs.length
  ·have c':i < ys.length:=by rw [<-r.1];exact c
   rw [yh c,yh c',r.2 i _ _ (yh c) (yh c')]
  ·rw [ycv (by omega),ycv (by have:=r.1;omega)]
 rw [<-e]
 exact h
end
section
variable {X:Cx} {tg a:Expr} {p pos:Pos} {ta:TA}
end
section
variable {X:Cx} {a b:Expr} {rest:List Expr} {pos:Pos} {ta tb:TE}
end
section
variable {X:Cx} {o i value:Expr} {pos pos':Pos} {td ty tv:TE}
def Sng (H₀:Hp) (td ty tv:TE):TS:=λD σ H=>tv σ H λv H1=>td σ H1 λx H2=>ty σ H2 λy H3=>∃a ob kvs k,x= .ref a/\H3 a=some (.frz ob (.dK kvs))/\H₀ a=none/\y=kV k/\kvs.length < S6/\D.nx σ (upd H3 a (.dK (Jpj kvs k v)))
theorem Yff {H:Hp} {a:S1} {u:HO} (h:H a=some u):upd H a u=H:=by
 funext b
 by_cases c:b=a
 ·subst c
  rw [Sn,h]
 ·rw [Sw c]
theorem Yce (hu:X.A.units+64 < cLine) (ho:PE X o td) (hi:PE X i ty) (hv:PE X value tv) (hs:swapsWith value (some (.Subscript o i pos')) pos.line X.env=pure false):
  PS X (.Assign [.Subscript o i pos'] value pos) (Sng X.H₀ td ty tv):=by
 intro pins s σ H D I h
 refine wpAny_Assign_Subscript (thn (hv pins s σ H _ I h) λr s1 ⟨v,H1,I1,rv,q1⟩=>thn (ho pins s1 σ H1 _ I1 q1) λu s2 ⟨x,H2,I2,rx,q2⟩=>thn (hi pins s2 σ H2 _ I2 q2) λiv s3 q3=>?_) hs
 obtain ⟨y,H3,I3,ry,a,ob,kvs,k,ex,e3,h0,ey,hz,q⟩:=q3
 subst ex ey
 obtain rfl:u=Value.ref a:=rx
 have J:Sm X pins σ (upd H3 a (.frz ob (.dK kvs))) s3:=by rw [Yff e3];exact I3
 have J2:=(J.thaw λo' u e=>by rw [h0] at e;cases e).plain Sn
 rw [Jne] at J2
 refine Jw7 (by omega) J2 (Sgx.k Sn hz) ry rv λs4 I4=>⟨σ,_,I4,?_⟩
 rw [Jne]
 exact q
theorem Ye8 (hu:X.A.units+64 < cLine):OpR X (compareOp .Eq) (λx y H Q=>∃a b kvs,x= .ref a/\y= .ref b/\Rd H a (.dK kvs)/\H b=some (.dK [])/\Q (.bl kvs.isEmpty) H):=by
 rintro pins s σ H x y v u Q I rx ry ⟨a,b,kvs,rfl,rfl,ra,hb,q⟩
 obtain rfl:v=Value.ref a:=rx
 obtain rfl:u=Value.ref b:=ry
 obtain ⟨_,hd,vs,rv,dd⟩:=Jta I.hok ra
 obtain ⟨_,hd',vs',rv',dd'⟩:=Ybe I.hok hb
 obtain rfl:vs'= []:=by cases rv';rfl
 have e:kvs.isEmpty=(vs.length==([]:List (Key×S2)).length&&true):=by
  have:=Paired.length rv
  cases kvs with
  |nil=>cases rv;rfl
  |cons p l=>
   cases vs with
   |nil=>cases rv
   |cons q r=>rfl
 rw [e] at q
 refine keq_eq hd hd' dd dd' (by omega) (λhl=>?_) ⟨.bl _,H,I,rfl,q⟩
 rw [ycx hl]
 exact .nil
end
theorem bdd_mk {K} {fd:S8} {ps:List Str} {ds:List S2} {D:S1} {it:Array S2} {m:Nat} {o:Obj} {n:Nat} (hn:n+ds.length=ps.length) (hdf:fd.defaults= .ref D) (hd:K.lookup D=some o) (ho:o.data= .seq it m)
  (hb:∀us,us.length=n->∃g,bindArgs fd ⟨us,[]⟩=seqItems? fd.defaults >>=g/\g (some it)=pure (ps.zip (us++ds))):Sb2 K fd ps ds:=by
 intro s us X' hl
 rw [yab] at hl
 obtain ⟨g,h1,h2⟩:=hb us (by omega)
 exact BindsTo.of_defaults hdf (X' _ _ hd) ho h1 h2
def ShA (K:Sd) (H:Hp) (x:V) (d:PyData):Prop:=Sbg K H x d\/∃a,x= .ref a/\H a=some (.dK [])/\d= .dict []
inductive Sna (K:Sd) (xs:List V) (H:Hp) (Q:VK):Prop where
 |mk (x:V) (d:PyData) (b:Nat) (_:xs= [x]) (_:ShA K H x d) (_:Rp d b 60) (_:b<=8000) (_:Q (.str d.shown) H)
theorem Jod {X:Cx} (hg:X.A.guards=some []) (hu:X.A.units+64 < cLine):Jnr X (.builtin "repr") (Sna X.K):=by
 rintro pins s σ H xs us Q I r ⟨x,d,b,rfl,hd,rp,hb,q⟩
 obtain ⟨u,rfl,ru⟩:=Joi r
 have dp:=rp.dp
 have big:∀{a:S1} {as:List S1},Reads s.heap (.ref a) d as->(d.hasDict=true->sysModules∉as)->Sc (model X.prog X.w) X.A (call (.builtin "repr") [.ref a]) (EP X pins σ Q) X.xe s:=λra sm=>
  repr_of_reads' ra rp.sh sm hg (by omega) (λ_ _ e=>e) (λh' u tk k=>⟨.str _,H,I.kept k,⟨_,rfl⟩,q⟩) (rp.fit hb)
 rcases hd with h|⟨a,rfl,ha,rfl⟩
 ·have hn:=h.nod
  have sh:=rp.sh
  have ft:=rp.fit hb
  obtain ⟨as,ra⟩:=h.reads I ru
  cases h with
  |non=>
   cases ru
   exact P.repr_of_none ⟨.str _,H,I.tok _,⟨_,rfl⟩,by simpa only [PyData.shown] using q⟩
  |bl c=>
   cases ru
   exact P.repr_of_bool ⟨.str _,H,I.tok _,⟨_,rfl⟩,by simpa only [PyData.shown] using q⟩
  |int i=>
   obtain ⟨t,rfl⟩:=ru
   exact P.repr_of_int (by simpa [PyData.showable] using sh) ⟨.str _,H,I.tok _,⟨_,rfl⟩,by simpa only [PyData.shown] using q⟩
  |str z=>
   obtain ⟨t,rfl⟩:=ru
   exact P.repr_of_str ⟨.str _,H,I.tok _,⟨_,rfl⟩,by simpa only [PyData.shown] using q⟩ (by simpa only [PyData.shown] using ft)
  |lst hq hd=>
   cases ru
   exact big ra (PyData.noDict_hsm hn)
  |tup hq hd=>
   cases ru
   exact big ra (PyData.noDict_hsm hn)
 ·cases ru
  obtain ⟨_,hd,vs,rvs,dd⟩:=Ybe I.hok ha
  obtain rfl:vs= []:=by cases rvs;rfl
  obtain ⟨od,es,ep,g1,g2,g3,g4,g5,_⟩:=dd
  have he:es.toList= []:=by
   cases h:es.toList with
   |nil=>rfl
   |cons x l=>rw [h] at g5;cases g5
  have rd:Reads s.heap (.ref a) (.dict []) ([a]++ []):=Reads.dict (kvs:=[]) (as:=[]) (bs:=[]) g1 g2.1 g3 (by rw [he];exact .nil) (by rw [he];exact .nil)
  refine big rd λ_ hm=>?_
  have hm':sysModules∈ [a]:=hm
  rw [yan.mp hm'] at hd
  simp at hd
end L2

namespace K22
open PySem L2 PyProof.Rows PySem.NumText
def top (i:Nat):Stmt:=PySem.Challenge.pw_weirwatch_k22_choices_and_rains.main.body.getD i (.Pass ⟨0,0,0,0⟩)
set_option genInjectivity false in
structure Ad where
 Jgg:S1
 Jgh:S8
 Jgi:S1
 Jgj:S8
 Jgk:S1
 Jgl:S8
 Jgm:S1
 Jgn:S8
 Jgo:S1
 Jgp:S8
 Jgq:S1
 Jgr:S8
 Jgs:S1
 Jgt:S8
 Jgu:S1
 Jgv:S8
 Jgw:S1
 Jgx:S8
 Jgy:S1
 Jgz:S8
 Jh0:S1
 Jh1:S8
 Jh2:S1
 Jh3:S8
 Jh4:S1
 Jh5:S8
 Jh6:S1
 Jh7:S8
 Jh8:S1
 Jh9:S8
 Jha:S1
 Jhb:S8
 Jhc:S1
 Jhd:S8
 Jhe:S1
 Jhf:S8
 Jhg:S1
 Jhh:S8
 Jhi:S1
 Jhj:S8
 Jhk:S1
 Jhl:S8
 Jhm:S1
 Jhn:S8
 Jho:S1
 Jhp:S8
 Jhq:S1
 Jhr:S8
 Jhs:S1
 Jht:S8
 Jhu:S1
 Jhv:S8
 Jhw:S1
 Jhx:S8
 Jhy:S1
 Jhz:S8
 Ji0:S1
 Ji1:S8
 Ji2:S1
 Ji3:S8
 Ji4:S1
 Ji5:S8
 Ji6:S1
 Ji7:S8
 Ji8:S1
 Ji9:S8
 Jia:S1
 Jib:S8
 Jic:S1
 Jid:S8
 Jie:S1
 Jif:S8
 Jig:S1
 Jih:S8
 Jii:S1
 Jij:S8
 Jik:S1
 Jil:S8
 Jim:S1
 Jin:S8
 Jio:S1
 Jip:S8
 Jiq:S1
 Jir:S8
 Jis:S1
 Jit:S8
 Jiu:S1
 Jiv:S8
 Jiw:S1
 Jix:S8
 Jiy:S1
 Jiz:S8
 Jj0:S1
 Jj1:S8
 Jj2:S1
 Jj3:S8
 Jj4:S1
 Jj5:S8
 Jj6:S1
 Jj7:S8
 Jj8:S1
 Jj9:S8
 Jja:S1
 Jjb:S8
 Jjc:S1
 Jjd:S8
 Jje:S1
 Jjf:S8
 Jjg:S1
 Jjh:S8
 Jji:S1
 Jjj:S8
 Jjk:S1
 Jjl:S8
 Jjm:S1
 Jjn:S8
 Jjo:S1
 Jjp:S8
 Jjq:S1
 Jjr:S8
 Jjs:S1
 Jjt:S8
 Jju:S1
 Jjv:S8
 Jjw:S1
 Jjx:S8
 Jjy:S1
 Jjz:S8
 Jk0:S1
 Jk1:S8
 Jk2:S1
 Jk3:S8
 Jk4:S1
 Jk5:S8
 Jk6:S1
 Jk7:S8
 Jk8:S1
 Jk9:S8
 Jka:S1
 Jkb:S8
 Jkc:S1
 Jkd:S8
 Jke:S1
 Jkf:S8
 Jkg:S1
 Jkh:S8
 Jki:S1
 Jkj:S8
 Jkk:S1
 Jkl:S8
 Jkm:S1
 Jkn:S8
 Jko:S1
 Jkp:S8
 Jkq:S1
 Jkr:S8
 Jks:S1
 Jkt:S8
 Jku:S1
 Jkv:S8
 a_law:S1
 d_law:S8
 Jkw:Tok
 Jkx:Tok
 Jky:Tok
 Jkz:Tok
 Jl0:Tok
 Jl1:Tok
 Jl2:Tok
 Jl3:Tok
 Jl4:Tok
 Jl5:Tok
 Jl6:Tok
 Jl7:Tok
 Jl8:S1
 Jl9:S1
 Jla:S1
 Jlb:S1
 Jlc:S1
 Jld:S1
 Jle:S1
 Jlf:S1
 Jlg:S1
 Jlh:S1
 Jli:S1
 Jlj:S1
 Jlk:S1
 Jll:S1
 Jlm:S1
 Jln:S1
 Jlo:S1
 Jlp:S1
 Jlq:S1
 Jlr:S1
structure Tx (K:Sd) (mg:Str->Option S2) (a:Ad):Prop where
 J0:FT K mg "is_whole" (top 15) ["thing","low","high"] a.Jgy a.Jgz
 J1:FT K mg "is_made_of" (top 16) ["text","signs"] a.Jh0 a.Jh1
 J3:FT K mg "is_name" (top 17) ["thing"] a.Jh2 a.Jh3
 J4:FT K mg "forced_rain" (top 19) ["river","wet"] a.Jh4 a.Jh5
 J5:FT K mg "place_drawn_from" (top 20) ["river","town"] a.Jh6 a.Jh7
 J6:FT K mg "draw" (top 21) ["river","standing","choice"] a.Jh8 a.Jh9
 J7:FT K mg "levels_left" (top 22) ["river","standing","choice","drawn"] a.Jha a.Jhb
 J8:FT K mg "outs_at" (top 23) ["river","settings","levels"] a.Jhc a.Jhd
 J9:FT K mg "levels_behind" (top 24) ["left","outs","rain"] a.Jhe a.Jhf
 Ja:FT K mg "broken_at" (top 25) ["river","levels"] a.Jhg a.Jhh
 Jb:FT K mg "is_setting_of" (top 29) ["river","place","setting"] a.Jhm a.Jhn
 Jc:FT K mg "is_stuck" (top 30) ["river","thing"] a.Jho a.Jhp
 Jd:FT K mg "settings_let" (top 31) ["river","stuck"] a.Jhq a.Jhr
 Je:FT K mg "product" (top 32) ["numbers"] a.Jhs a.Jht
 Jf:FT K mg "levels_many" (top 33) ["basin"] a.Jhu a.Jhv
 Jg:FT K mg "standings_many" (top 34) ["river"] a.Jhw a.Jhx
 Jh:FT K mg "choices_many" (top 35) ["river","stuck"] a.Jhy a.Jhz
 Ji:FT K mg "rain_rows_many" (top 36) ["river"] a.Ji0 a.Ji1
 Jj:FT K mg "weigh" (top 37) ["river","stuck"] a.Ji2 a.Ji3
 Jk:FT K mg "refuse_heavy" (top 38) ["heft"] a.Ji4 a.Ji5
 Jl:FT K mg "longer_rows" (top 39) ["rows","numbers"] a.Ji6 a.Ji7
 Jm:FT K mg "choices_let" (top 40) ["river","stuck"] a.Ji8 a.Ji9
 Jn:FT K mg "rains_at" (top 41) ["river","wet"] a.Jia a.Jib
 Jo:FT K mg "number_by" (top 42) ["river","standing"] a.Jic a.Jid
 Jp:FT K mg "standing_by" (top 43) ["river","number"] a.Jie a.Jif
 Jq:FT K mg "lead" (top 44) ["river","standing","choice","rain"] a.Jig a.Jih
 Jr:FT K mg "are_marks" (top 50) ["thing","lowest"] a.Jis a.Jit
 Js:FT K mg "kept_marks" (top 51) ["marks","lowest"] a.Jiu a.Jiv
 Jt:FT K mg "refuse_no_level" (top 65) ["thing","low","high"] a.Jjm a.Jjn
 Ju:FT K mg "are_unlike" (top 68) ["names"] a.Jjs a.Jjt
 Jv:FT K mg "are_basins" (top 69) ["thing"] a.Jju a.Jjv
 Jw:FT K mg "are_towns" (top 70) ["thing","basins"] a.Jjw a.Jjx
 Jx:FT K mg "_law_cell" (top 73) ["_law_script","_law_k"] a.Jk2 a.Jk3
 Jy:FT K mg "_law_stream" (top 74) ["_law_cell_here"] a.Jk4 a.Jk5
 Jz:FT K mg "_law_take" (top 75) ["_law_stream_here","_law_many"] a.Jk6 a.Jk7
 Ja0:FT K mg "_law_names" (top 76) ["_law_stream_here","_law_many"] a.Jk8 a.Jk9
 Ja1:FT K mg "_law_gate" (top 77) ["_law_stream_here","_law_most"] a.Jka a.Jkb
 Ja2:FT K mg "_law_basin" (top 78) ["_law_stream_here","_law_name","_law_many"] a.Jkc a.Jkd
 Ja3:FT K mg "_law_great" (top 79) ["_law_stream_here"] a.Jke a.Jkf
 Ja4:FT K mg "_law_river" (top 80) ["_law_cell_here"] a.Jkg a.Jkh
 Ja5:FT K mg "_law_made_gate" (top 81) ["_law_told"] a.Jki a.Jkj
 Ja6:FT K mg "_law_made" (top 82) ["_law_told"] a.Jkk a.Jkl
 Ja7:FT K mg "_law_rains" (top 83) ["_law_told","_law_wet"] a.Jkm a.Jkn
 Ja8:FT K mg "_law_choices" (top 84) ["_law_told","_law_stuck_here"] a.Jko a.Jkp
 Ja9:FT K mg "_law_stuck" (top 85) ["_law_cell_here","_law_told"] a.Jkq a.Jkr
 Jaa:FT K mg "_law_refused" (top 86) ["_law_some","_law_thing"] a.Jks a.Jkt
 Jab:FT K mg "_law_right" (top 87) ["_law_some","_law_choices_here","_law_rains_here"] a.Jku a.Jkv
 f_law:FT K mg "law" (top 88) ["_law_script"] a.a_law a.d_law
 Jac:mg "LETTERS" =some (.str "abcdefghijklmnopqrstuvwxyz" a.Jkw)
 Jad:mg "MOST_LETTERS" =some (.int 8 a.Jkx)
 Jae:mg "MOST_WEIGHT" =some (.int 4000 a.Jky)
 Jaf:mg "MOST_SETTINGS" =some (.int 4 a.Jkz)
 Jag:mg "HIGHEST_MARK" =some (.int 12 a.Jl0)
 Jah:mg "HIGHEST_LEVEL" =some (.int 1000 a.Jl1)
 Jai:mg "HIGHEST" =some (.int 12 a.Jl2)
 Jaj:mg "MOST_RAIN" =some (.int 6 a.Jl3)
 Jak:mg "MOST_WANT" =some (.int 6 a.Jl4)
 Jal:mg "MOST_CLOUD" =some (.int 12 a.Jl5)
 Jam:mg "MOST_BASINS" =some (.int 16 a.Jl6)
 Jan:mg "MOST_TOWNS" =some (.int 3 a.Jl7)
 Jao:mg "all" =none
 Jap:mg "bool" =none
 Jaq:mg "dict" =none
 Jar:mg "enumerate" =none
 Jas:mg "int" =none
 Jat:mg "isinstance" =none
 Jau:mg "len" =none
 Jav:mg "list" =none
 Jaw:mg "max" =none
 Jax:mg "min" =none
 Jay:mg "range" =none
 Jaz:mg "repr" =none
 Jb0:mg "set" =none
 Jb1:mg "str" =none
 Jb2:mg "sum" =none
 Jb3:mg "tuple" =none
 Jb4:mg "zip" =none
 q77:mg "WeirError" =some (.ref a.Jl8)
 Jb5:mg "NoName" =some (.ref a.Jl9)
 Jb6:mg "NoGate" =some (.ref a.Jla)
 Jb7:mg "NoBasin" =some (.ref a.Jlb)
 Jb8:mg "NoTown" =some (.ref a.Jlc)
 Jb9:mg "NoCloud" =some (.ref a.Jld)
 Jba:mg "NoRiver" =some (.ref a.Jle)
 Jbb:mg "TooMany" =some (.ref a.Jlf)
 Jbc:mg "NoStuck" =some (.ref a.Jlg)
 Jbd:mg "NoNumber" =some (.ref a.Jlh)
 Jbe:mg "Turn" =some (.ref a.Jli)
 Jbf:mg "Standings" =some (.ref a.Jlj)
 Jbg:mg "Gate" =some (.ref a.Jlk)
 Jbh:mg "StepGate" =some (.ref a.Jll)
 Jbi:mg "FlapGate" =some (.ref a.Jlm)
 Jbj:mg "PartGate" =some (.ref a.Jln)
 Jbk:mg "StuckGate" =some (.ref a.Jlo)
 Jbl:mg "Basin" =some (.ref a.Jlp)
 Jbm:mg "Town" =some (.ref a.Jlq)
 Jbn:mg "River" =some (.ref a.Jlr)
 q97:Sf K (.ref a.Jl9) "__init__" =some (some (.ref a.Jgg))
 q98:Sf K (.ref a.Jla) "__init__" =some (some (.ref a.Jgi))
 q99:Sf K (.ref a.Jlb) "__init__" =some (some (.ref a.Jgk))
 Jbo:Sf K (.ref a.Jlc) "__init__" =some (some (.ref a.Jgm))
 Jbp:Sf K (.ref a.Jld) "__init__" =some (some (.ref a.Jgo))
 Jbq:Sf K (.ref a.Jle) "__init__" =some (some (.ref a.Jgq))
 Jbr:Sf K (.ref a.Jlf) "__init__" =some (some (.ref a.Jgs))
 Jbs:Sf K (.ref a.Jlg) "__init__" =some (some (.ref a.Jgu))
 Jbt:Sf K (.ref a.Jlh) "__init__" =some (some (.ref a.Jgw))
 Jbu:Sf K (.ref a.Jli) "__init__" =some (some (.ref a.Jhi))
 Jbv:Sf K (.ref a.Jli) "standing" =some (some (.ref a.Jhk))
 Jbw:Sf K (.ref a.Jlj) "__init__" =some (some (.ref a.Jii))
 Jbx:Sf K (.ref a.Jlj) "ends_by_place" =some (some (.ref a.Jik))
 Jby:Sf K (.ref a.Jlj) "ends_by_rain" =some (some (.ref a.Jim))
 Jbz:Sf K (.ref a.Jlj) "choices" =some (some (.ref a.Jio))
 Jc0:Sf K (.ref a.Jlj) "rains" =some (some (.ref a.Jiq))
 Jc1:Sf K (.ref a.Jlk) "lets" =some (some (.ref a.Jiw))
 Jc2:Sf K (.ref a.Jll) "__init__" =some (some (.ref a.Jiy))
 Jc3:Sf K (.ref a.Jll) "settings" =some (some (.ref a.Jj0))
 Jc4:Sf K (.ref a.Jll) "passes" =some (some (.ref a.Jj2))
 Jc5:Sf K (.ref a.Jlm) "__init__" =some (some (.ref a.Jj4))
 Jc6:Sf K (.ref a.Jlm) "settings" =some (some (.ref a.Jj6))
 Jc7:Sf K (.ref a.Jlm) "passes" =some (some (.ref a.Jj8))
 Jc8:Sf K (.ref a.Jln) "__init__" =some (some (.ref a.Jja))
 Jc9:Sf K (.ref a.Jln) "settings" =some (some (.ref a.Jjc))
 Jca:Sf K (.ref a.Jln) "passes" =some (some (.ref a.Jje))
 Jcb:Sf K (.ref a.Jlo) "__init__" =some (some (.ref a.Jjg))
 Jcc:Sf K (.ref a.Jlo) "settings" =some (some (.ref a.Jji))
 Jcd:Sf K (.ref a.Jlo) "passes" =some (some (.ref a.Jjk))
 Jce:Sf K (.ref a.Jlp) "__init__" =some (some (.ref a.Jjo))
 Jcf:Sf K (.ref a.Jlq) "__init__" =some (some (.ref a.Jjq))
 Jcg:Sf K (.ref a.Jlr) "__init__" =some (some (.ref a.Jjy))
 Jch:Sf K (.ref a.Jlr) "place_of" =some (some (.ref a.Jk0))
 Jci:FM K "__init__" "NoName.__init__" (Jm6 (top 3) 0) ["self","thing"] a.Jgg a.Jgh
 Jcj:FM K "__init__" "NoGate.__init__" (Jm6 (top 4) 0) ["self","thing"] a.Jgi a.Jgj
 Jck:FM K "__init__" "NoBasin.__init__" (Jm6 (top 5) 0) ["self","thing"] a.Jgk a.Jgl
 Jcl:FM K "__init__" "NoTown.__init__" (Jm6 (top 6) 0) ["self","thing"] a.Jgm a.Jgn
 Jcm:FM K "__init__" "NoCloud.__init__" (Jm6 (top 7) 0) ["self","thing"] a.Jgo a.Jgp
 Jcn:FM K "__init__" "NoRiver.__init__" (Jm6 (top 8) 0) ["self","thing"] a.Jgq a.Jgr
 Jco:FM K "__init__" "TooMany.__init__" (Jm6 (top 9) 0) ["self","count"] a.Jgs a.Jgt
 Jcp:FM K "__init__" "NoStuck.__init__" (Jm6 (top 10) 0) ["self","thing"] a.Jgu a.Jgv
 Jcq:FM K "__init__" "NoNumber.__init__" (Jm6 (top 11) 0) ["self","thing"] a.Jgw a.Jgx
 Jcr:FM K "__init__" "Turn.__init__" (Jm6 (top 26) 0) ["self","river","standing","choice","rain"] a.Jhi a.Jhj
 Jcs:FM K "standing" "Turn.standing" (Jm6 (top 26) 1) ["self"] a.Jhk a.Jhl
 Jct:FM K "__init__" "Standings.__init__" (Jm6 (top 45) 0) ["self","river","stuck"] a.Jii a.Jij
 Jcu:FM K "ends_by_place" "Standings.ends_by_place" (Jm6 (top 45) 1) ["self","standing"] a.Jik a.Jil
 Jcv:FM K "ends_by_rain" "Standings.ends_by_rain" (Jm6 (top 45) 2) ["self","standing","choice"] a.Jim a.Jin
 Jcw:FM K "choices" "Standings.choices" (Jm6 (top 45) 5) ["self"] a.Jio a.Jip
 Jcx:FM K "rains" "Standings.rains" (Jm6 (top 45) 6) ["self","wet"] a.Jiq a.Jir
 Jcy:FM K "lets" "Gate.lets" (Jm6 (top 53) 0) ["self","setting","level"] a.Jiw a.Jix
 Jcz:FM K "__init__" "StepGate.__init__" (Jm6 (top 54) 0) ["self","marks"] a.Jiy a.Jiz
 Jd0:FM K "settings" "StepGate.settings" (Jm6 (top 54) 1) ["self"] a.Jj0 a.Jj1
 Jd1:FM K "passes" "StepGate.passes" (Jm6 (top 54) 2) ["self","setting","level"] a.Jj2 a.Jj3
 Jd2:FM K "__init__" "FlapGate.__init__" (Jm6 (top 55) 0) ["self","marks"] a.Jj4 a.Jj5
 Jd3:FM K "settings" "FlapGate.settings" (Jm6 (top 55) 1) ["self"] a.Jj6 a.Jj7
 Jd4:FM K "passes" "FlapGate.passes" (Jm6 (top 55) 2) ["self","setting","level"] a.Jj8 a.Jj9
 Jd5:FM K "__init__" "PartGate.__init__" (Jm6 (top 56) 0) ["self","marks"] a.Jja a.Jjb
 Jd6:FM K "settings" "PartGate.settings" (Jm6 (top 56) 1) ["self"] a.Jjc a.Jjd
 Jd7:FM K "passes" "PartGate.passes" (Jm6 (top 56) 2) ["self","setting","level"] a.Jje a.Jjf
 Jd8:FM K "__init__" "StuckGate.__init__" (Jm6 (top 57) 0) ["self","gate","setting"] a.Jjg a.Jjh
 Jd9:FM K "settings" "StuckGate.settings" (Jm6 (top 57) 1) ["self"] a.Jji a.Jjj
 Jda:FM K "passes" "StuckGate.passes" (Jm6 (top 57) 2) ["self","setting","level"] a.Jjk a.Jjl
 Jdb:FM K "__init__" "Basin.__init__" (Jm6 (top 66) 0) ["self","name","low","high","start","rain","gate"] a.Jjo a.Jjp
 Jdc:FM K "__init__" "Town.__init__" (Jm6 (top 67) 0) ["self","name","basin","want"] a.Jjq a.Jjr
 Jdd:FM K "__init__" "River.__init__" (Jm6 (top 71) 0) ["self","cloud","gain","basins","towns"] a.Jjy a.Jjz
 Jde:FM K "place_of" "River.place_of" (Jm6 (top 71) 1) ["self","name"] a.Jk0 a.Jk1
 Jdf:Sb2 K a.Jij ["self","river","stuck"] [.none]
 Jdg:Sac K a.Jl9 a.Jl8 a.Jgg
 Jdh:Sac K a.Jla a.Jl8 a.Jgi
 Jdi:Sac K a.Jlb a.Jl8 a.Jgk
 Jdj:Sac K a.Jlc a.Jl8 a.Jgm
 Jdk:Sac K a.Jld a.Jl8 a.Jgo
 Jdl:Sac K a.Jle a.Jl8 a.Jgq
 Jdm:Sac K a.Jlf a.Jl8 a.Jgs
 Jdn:Sac K a.Jlg a.Jl8 a.Jgu
 Jdo:Sac K a.Jlh a.Jl8 a.Jgw
 Jdp:Siy K a.Jlh
 Jdq:Cls K a.Jli
 Jdr:Mk K a.Jli a.Jhi
 Jds:Joc K a.Jli "standing" a.Jhk
 Jdt:Cls K a.Jlj
 Jdu:Mk K a.Jlj a.Jii
 Jdv:Joc K a.Jlj "ends_by_place" a.Jik
 Jdw:Joc K a.Jlj "ends_by_rain" a.Jim
 Jdx:Joc K a.Jlj "choices" a.Jio
 Jdy:Joc K a.Jlj "rains" a.Jiq
 Jdz:Cls K a.Jll
 Je0:Sgm K a.Jll
 Je1:Mk K a.Jll a.Jiy
 Je2:Joc K a.Jll "lets" a.Jiw
 Je3:Joc K a.Jll "settings" a.Jj0
 Je4:Joc K a.Jll "passes" a.Jj2
 Je5:Cls K a.Jlm
 Je6:Sgm K a.Jlm
 Je7:Mk K a.Jlm a.Jj4
 Je8:Joc K a.Jlm "lets" a.Jiw
 Je9:Joc K a.Jlm "settings" a.Jj6
 Jea:Joc K a.Jlm "passes" a.Jj8
 Jeb:Cls K a.Jln
 Jec:Sgm K a.Jln
 Jed:Mk K a.Jln a.Jja
 Jee:Joc K a.Jln "lets" a.Jiw
 Jef:Joc K a.Jln "settings" a.Jjc
 Jeg:Joc K a.Jln "passes" a.Jje
 Jeh:Cls K a.Jlo
 Jei:Sgm K a.Jlo
 Jej:Mk K a.Jlo a.Jjg
 Jek:Joc K a.Jlo "lets" a.Jiw
 Jel:Joc K a.Jlo "settings" a.Jji
 Jem:Joc K a.Jlo "passes" a.Jjk
 Jen:Cls K a.Jlp
 Jeo:Sgm K a.Jlp
 Jep:Mk K a.Jlp a.Jjo
 Jeq:Cls K a.Jlq
 Jer:Sgm K a.Jlq
 Jes:Mk K a.Jlq a.Jjq
 Jet:Cls K a.Jlr
 Jeu:Mk K a.Jlr a.Jjy
 Jev:Joc K a.Jlr "place_of" a.Jk0
 Jew:NoAttr K a.Jl9 "thing"
 Jex:NoAttr K a.Jla "thing"
 Jey:NoAttr K a.Jlb "thing"
 Jez:NoAttr K a.Jlc "thing"
 Jf0:NoAttr K a.Jlh "thing"
 Jf1:NoAttr K a.Jli "choice"
 Jf2:NoAttr K a.Jli "rain"
 Jf3:NoAttr K a.Jli "drawn"
 Jf4:NoAttr K a.Jli "paid"
 Jf5:NoAttr K a.Jli "outs"
 Jf6:NoAttr K a.Jli "levels"
 Jf7:NoAttr K a.Jli "wet"
 Jf8:NoAttr K a.Jli "broken"
 Jf9:NoAttr K a.Jlj "heft"
 Jfa:NoAttr K a.Jlj "river"
 Jfb:NoAttr K a.Jlj "row"
 Jfc:NoAttr K a.Jlj "listed"
 Jfd:NoAttr K a.Jlj "places"
 Jfe:NoAttr K a.Jlj "falls"
 Jff:NoAttr K a.Jlj "ends"
 Jfg:NoAttr K a.Jll "marks"
 Jfh:NoAttr K a.Jlm "marks"
 Jfi:NoAttr K a.Jln "marks"
 Jfj:NoAttr K a.Jlo "gate"
 Jfk:NoAttr K a.Jlo "setting"
 Jfl:NoAttr K a.Jlp "name"
 Jfm:NoAttr K a.Jlp "low"
 Jfn:NoAttr K a.Jlp "high"
 Jfo:NoAttr K a.Jlp "start"
 Jfp:NoAttr K a.Jlp "rain"
 Jfq:NoAttr K a.Jlp "gate"
 Jfr:NoAttr K a.Jlq "name"
 Jfs:NoAttr K a.Jlq "basin"
 Jft:NoAttr K a.Jlq "want"
 Jfu:NoAttr K a.Jlr "cloud"
 Jfv:NoAttr K a.Jlr "gain"
 Jfw:NoAttr K a.Jlr "basins"
 Jfx:NoAttr K a.Jlr "towns"
 Jfy:Se K (.ref a.Jll) (.ref a.Jlk)=some true
 Jfz:Se K (.ref a.Jlm) (.ref a.Jlk)=some true
 Jg0:Se K (.ref a.Jln) (.ref a.Jlk)=some true
 Jg1:Se K (.ref a.Jlo) (.ref a.Jlk)=some true
 Jg2:Se K (.ref a.Jlp) (.ref a.Jlp)=some true
 Jg3:Se K (.ref a.Jlq) (.ref a.Jlq)=some true
 Jg4:Se K (.ref a.Jll) (.type "bool")=some false
 Jg5:Se K (.ref a.Jlm) (.type "bool")=some false
 Jg6:Se K (.ref a.Jln) (.type "bool")=some false
 Jg7:Se K (.ref a.Jlo) (.type "bool")=some false
 Jg8:W.kitAny K (.ref a.Jll) [.ref a.Jll,.ref a.Jlm,.ref a.Jln,.ref a.Jlo]=some true
 Jg9:W.kitAny K (.ref a.Jlm) [.ref a.Jll,.ref a.Jlm,.ref a.Jln,.ref a.Jlo]=some true
 Jga:W.kitAny K (.ref a.Jln) [.ref a.Jll,.ref a.Jlm,.ref a.Jln,.ref a.Jlo]=some true
 Jgb:W.kitAny K (.ref a.Jlo) [.ref a.Jll,.ref a.Jlm,.ref a.Jln,.ref a.Jlo]=some true
 Jgc:Se K (.ref a.Jll) (.ref a.Jlo)=some false
 Jgd:Se K (.ref a.Jlm) (.ref a.Jlo)=some false
 Jge:Se K (.ref a.Jln) (.ref a.Jlo)=some false
 Jgf:Sg K a.Jlh (.ref a.Jlh)=some true
def Jnh:Int->List V->Bool
 |_,[]=>true
 |lo,.int i::r=>(decide (lo<=i)&&decide (i<=12))&&Jnh (i+1) r
 |_,_::_=>false
def Jpw (lo:Int) (xs:List V):Bool:=decide (1<=xs.length/\xs.length<=4)&&Jnh lo xs
theorem Jtf (lo:Int) (x:V) (r:List V):Jnh lo (x::r)=(Jmm x lo 12&&match x with| .int i=>Jnh (i+1) r|_=>false):=by
 cases x <;> simp [Jnh,Jmm]
inductive Sq (H:Hp):V->List V->Prop where
 |lst {p:S1} {xs:List V}:H p=some (.lst xs)->Sq H (.ref p) xs
 |tup {p:S1} {xs:List V}:H p=some (.tup xs)->Sq H (.ref p) xs
theorem Sq.same {H H':Hp} {x:V} {xs:List V} (s:Si H H') (h:Sq H x xs):Sq H' x xs:=by
 cases h with
 |lst e=>exact .lst (s _ _ e)
 |tup e=>exact .tup (s _ _ e)
theorem Sq.ty {K:Sd} {H:Hp} {x:V} {xs:List V} (h:Sq H x xs):∃t,TyX K H x t/\tpB t=true/\W.kitAny K t [.type "list",.type "tuple"]=some true:=by
 cases h with
 |lst e=>exact ⟨_,.of (.lst e),rfl,rfl⟩
 |tup e=>exact ⟨_,.of (.tup e),rfl,rfl⟩
inductive Shp (K:Sd) (H:Hp) (lo:Int):V->Bool->Prop where
 |seq {x:V} {xs:List V}:Sq H x xs->(∀y∈xs,Tm K H y)->Shp K H lo x (Jpw lo xs)
 |non {x:V} {t:S2}:TyX K H x t->W.kitAny K t [.type "list",.type "tuple"]=some false->Shp K H lo x false
inductive Ss2 (K:Sd) (vs:List V) (H:Hp) (Q:VK) (z3:XK):Prop where
 |mk (x:V) (lo:Int) (b:Bool) (_:vs= [x,.int lo]) (_:Shp K H lo x b) (_:∀H',Si H H'->Q (.bl b) H')
inductive Rf (a:Ad) (H H':Hp) (x:V) (c:S2) (eo:Option S1):Prop where
 |mk (e:_) (dx:_) (_:c= .ref a.Jla) (_:eo=some e) (_:Si H H') (_:H' e=some (XO e a.Jla (some dx) false)) (_:H' dx=some (XD dx [("thing",x)]))
theorem Rf.of {a:Ad} {H H1 H':Hp} {x:V} {c:S2} {eo:Option S1} (s:Si H H1) (h:Rf a H1 H' x c eo):Rf a H H' x c eo:=by
 obtain ⟨e,dx,h1,h2,h3,h4,h5⟩:=h
 exact ⟨e,dx,h1,h2,s.trans h3,h4,h5⟩
theorem Rf.new {a:Ad} {H:Hp} {x:V} {e dx:S1} (h1:H e=none) (h2:H dx=none) (ne:dx≠e):Rf a H (upd (upd (upd H dx (XD dx [("thing",x)])) e (XO e a.Jla (some dx) true)) e (XO e a.Jla (some dx) false)) x (.ref a.Jla) (some e):=by
 refine ⟨e,dx,rfl,rfl,?_,Sn,?_⟩
 ·rw [Jne]
  intro b o q
  rw [Sw (Jm1 q h1),Sw (Jm1 q h2)]
  exact q
 ·rw [Sw ne,Sw ne,Sn]
inductive Snr (K:Sd) (a:Ad) (vs:List V) (H:Hp) (Q:VK) (E:XK):Prop where
 |mk (x:V) (lo:Int) (_:vs= [x,.int lo]) (_:((∃xs,Sq H x xs/\(∀y∈xs,Tm K H y)/\Jpw lo xs=true/\∀t H',Si H H'->H' t=some (.tup xs)->Q (.ref t) H')\/(Shp K H lo x false/\∀c eo H',Rf a H H' x c eo->E c eo H')))
def IsC (a:Ad) (C:S1):Prop:=C=a.Jll\/C=a.Jlm\/C=a.Jln
inductive Sbw (C:S1) (H:Hp) (g:S1) (xs:List V):Prop where
 |mk (dx:_) (t:_) (_:H g=some (.ins C dx [("marks",.ref t)])) (_:H t=some (.tup xs))
theorem Sbw.same {C:S1} {H H':Hp} {g:S1} {xs:List V} (s:Si H H') (h:Sbw C H g xs):Sbw C H' g xs:=by obtain ⟨dx,t,h1,h2⟩:=h;exact ⟨dx,t,s _ _ h1,s _ _ h2⟩
inductive Jxp (K:Sd) (a:Ad) (lo:Int) (vs:List V) (H:Hp) (Q:VK) (E:XK):Prop where
 |mk (p C dx:S1) (x:V) (_:vs= [.ref p,x]) (_:H p=some (.ins C dx [])) (_:Cls K C) (_:NoAttr K C "marks") (_:((∃xs,Sq H x xs/\(∀y∈xs,Tm K H y)/\Jpw lo xs=true/\∀t H',Si H H'->H' t=some (.tup xs)->Q .non (upd H' p (.ins C dx [("marks",.ref t)])))\/(Shp K H lo x false/\∀c eo H',Rf a H H' x c eo->E c eo H')))
inductive Yd4 (C:S1) (vs:List V) (H:Hp) (Q:VK) (z3:XK):Prop where
 |mk (p:S1) (xs:List V) (_:vs= [.ref p]) (_:Sbw C H p xs) (_:Q (.int xs.length) H)
inductive Ss7 (vs:List V) (H:Hp) (Q:VK) (z3:XK):Prop where
 |mk (x:_) (_:vs= [x]) (_:Q (.int 1) H)
inductive GS (K:Sd) (a:Ad) (H:Hp):V->Nat->Prop where
 |plain {g C:S1} {xs:List V}:IsC a C->Sbw C H g xs->xs.length<=4->GS K a H (.ref g) xs.length
 |stuck {g dx:S1} {x y:V}:H g=some (.ins a.Jlo dx [("gate",x),("setting",y)])->GS K a H (.ref g) 1
theorem GS.same {K:Sd} {a:Ad} {H H':Hp} {x:V} {n:Nat} (s:Si H H') (h:GS K a H x n):GS K a H' x n:=by
 cases h with
 |plain i g l=>exact .plain i (g.same s) l
 |stuck e=>exact .stuck (s _ _ e)
inductive Yet (K:Sd) (a:Ad) (vs:List V) (H:Hp) (Q:VK) (E:XK):Prop where
 |mk (p dx:S1) (x y:V) (_:vs= [.ref p,x,y]) (_:H p=some (.ins a.Jlo dx [])) (_:((∃t,TyX K H x t/\Se K t (.ref a.Jlk)=some false/\∀c eo H',Rf a H H' x c eo->E c eo H')\/(∃n,GS K a H x n/\Tm K H y/\Jmm y 0 (n - 1)=false/\∀c eo H',Rf a H H' y c eo->E c eo H')\/(∃n,GS K a H x n/\Tm K H y/\Jmm y 0 (n - 1)=true/\Q .non (upd H p (.ins a.Jlo dx [("gate",x),("setting",y)])))))
def Knd (z:Str):Prop:=z=("step" :Str)\/z=("flap" :Str)\/z=("part" :Str)
def Jp5 (z:Str):Int:=if z=("part" :Str) then 1 else 0
def cOf (a:Ad) (z:Str):S1:=if z=("step" :Str) then a.Jll else if z=("flap" :Str) then a.Jlm else a.Jln
theorem Yb4 {a:Ad} {z:Str}:IsC a (cOf a z):=by
 unfold cOf
 split
 ·exact .inl rfl
 ·split
  ·exact .inr (.inl rfl)
  ·exact .inr (.inr rfl)
theorem Jwi:¬(("part" :Str)="step"):=by decide +kernel
theorem Jwh:¬(("part" :Str)="flap"):=by decide +kernel
theorem Jwg:¬(("flap" :Str)="step"):=by decide +kernel
theorem Srk:¬(("flap" :Str)="part"):=by decide +kernel
theorem Srl:¬(("step" :Str)="part"):=by decide +kernel
theorem Soa {x y:Str} (h:¬x=y):¬V.str x=V.str y:=λe=>h (V.str.inj e)
def LET:Str:="abcdefghijklmnopqrstuvwxyz"
def Jvw (g z:Str):Bool:=z.cps.toList.all λc=>decide (c∈g.cps.toList)
def Jpq (z:Str):Bool:=decide (1<=z.length/\z.length<=8)&&Jvw LET z
structure Wd (n:Nat) (z:Str):Prop where
 len:z.length<=n
 low:∀c∈z.cps.toList,c < 128
theorem Yl (z:Str):z.cps.toList.length=z.length:=ybq
theorem Yb2 {g:Str} {r:Int} (h0:0<=r) (h1:r < g.length):∃c,c∈g.cps.toList/\atI g.cps.toList r=some c:=by
 obtain ⟨n,rfl⟩:=yca h0
 have hn:n < g.cps.toList.length:=by rw [Yl];omega
 exact ⟨g.cps.toList[n],yat hn,Jrr (yh hn)⟩
theorem Sot {z:Str} {n:Nat} (h:(decide (z.length<=n)&&z.cps.toList.all (λc=>decide (c < 128)))=true):Wd n z:=by
 rw [yap] at h
 exact ⟨of_decide_eq_true h.1,λc hc=>of_decide_eq_true (ybi.mp h.2 c hc)⟩
theorem Sos:Wd 26 LET:=Sot (by decide +kernel)
def Jol:V->Bool
 | .str z=>Jpq z
 |_=>false
def Nmd (K:Sd) (H:Hp) (x:V):Prop:=Tm K H x/\∀z,x= .str z->Wd 50 z
inductive So0 (vs:List V) (H:Hp) (Q:VK) (z3:XK):Prop where
 |mk (z g:Str) (_:vs= [.str z,.str g]) (_:z.length<=2000) (_:∀H',Si H H'->Q (.bl (Jvw g z)) H')
inductive So1 (K:Sd) (vs:List V) (H:Hp) (Q:VK) (z3:XK):Prop where
 |mk (x:V) (_:vs= [x]) (_:Nmd K H x) (_:∀H',Si H H'->Q (.bl (Jol x)) H')
inductive RfC (C:S1) (H H':Hp) (x:V) (c:S2) (eo:Option S1):Prop where
 |mk (e:_) (dx:_) (_:c= .ref C) (_:eo=some e) (_:Si H H') (_:H' e=some (XO e C (some dx) false)/\H' dx=some (XD dx [("thing",x)]))
theorem RfC.of {C:S1} {H H1 H':Hp} {x:V} {c:S2} {eo:Option S1} (s:Si H H1) (h:RfC C H1 H' x c eo):RfC C H H' x c eo:=by
 obtain ⟨e,dx,h1,h2,h3,h4,h5⟩:=h
 exact ⟨e,dx,h1,h2,s.trans h3,h4,h5⟩
theorem RfC.new {C:S1} {H:Hp} {x:V} {e dx:S1} (h1:H e=none) (h2:H dx=none) (ne:dx≠e):RfC C H (upd (upd (upd H dx (XD dx [("thing",x)])) e (XO e C (some dx) true)) e (XO e C (some dx) false)) x (.ref C) (some e):=by
 refine ⟨e,dx,rfl,rfl,?_,Sn,?_⟩
 ·rw [Jne]
  intro b o q
  rw [Sw (Jm1 q h1),Sw (Jm1 q h2)]
  exact q
 ·rw [Sw ne,Sw ne,Sn]
inductive Yan (K:Sd) (a:Ad) (vs:List V) (H:Hp) (Q:VK) (E:XK):Prop where
 |mk (x:V) (lo hi:Int) (_:vs= [x,.int lo,.int hi]) (_:Tm K H x) (_:((Jmm x lo hi=true/\Q .non H)\/(Jmm x lo hi=false/\∀c eo H',RfC a.Jlb H H' x c eo->E c eo H')))
inductive Due (n lo hi st rn g:V) (gb:Bool):Option (Nat×V)->Prop
 |name:Jol n=false->Due n lo hi st rn g gb (some (0,n))
 |low:Jol n=true->Jmm lo 0 12=false->Due n lo hi st rn g gb (some (1,lo))
 |high (l:Int):Jol n=true->lo= .int l->Jmm lo 0 12=true->Jmm hi l 12=false->Due n lo hi st rn g gb (some (1,hi))
 |start (l h:Int):Jol n=true->lo= .int l->hi= .int h->Jmm lo 0 12=true->Jmm hi l 12=true->Jmm st l h=false->Due n lo hi st rn g gb (some (1,st))
 |rain (l h:Int):Jol n=true->lo= .int l->hi= .int h->Jmm lo 0 12=true->Jmm hi l 12=true->Jmm st l h=true->Jmm rn 0 6=false->Due n lo hi st rn g gb (some (1,rn))
 |gate (l h:Int):Jol n=true->lo= .int l->hi= .int h->Jmm lo 0 12=true->Jmm hi l 12=true->Jmm st l h=true->Jmm rn 0 6=true->gb=false->Due n lo hi st rn g gb (some (2,g))
 |good (l h:Int):Jol n=true->lo= .int l->hi= .int h->Jmm lo 0 12=true->Jmm hi l 12=true->Jmm st l h=true->Jmm rn 0 6=true->gb=true->Due n lo hi st rn g gb none
inductive Si7 (n b wt:V):Option (Nat×V)->Prop
 |name:Jol n=false->Si7 n b wt (some (0,n))
 |basin:Jol n=true->Jol b=false->Si7 n b wt (some (0,b))
 |want:Jol n=true->Jol b=true->Jmm wt 1 6=false->Si7 n b wt (some (3,wt))
 |good:Jol n=true->Jol b=true->Jmm wt 1 6=true->Si7 n b wt none
def Sw7 (a:Ad):Nat->S1
 |0=>a.Jl9
 |1=>a.Jlb
 |2=>a.Jla
 |_=>a.Jlc
inductive GtI (K:Sd) (a:Ad) (H:Hp) (g:V) (gb:Bool):Prop where
 |mk (t:_) (_:TyX K H g t) (_:Se K t (.ref a.Jlk)=some gb/\W.kitAny K t [.ref a.Jll,.ref a.Jlm,.ref a.Jln,.ref a.Jlo]=some gb/\∃b,Se K t (.type "bool")=some b/\(gb=true->b=false)/\t≠ .type "float")
def Slz (n lo hi st rn g:V):List (Str×V):=[("name",n),("low",lo),("high",hi),("start",st),("rain",rn),("gate",g)]
def twnF (n b wt:V):List (Str×V):=[("name",n),("basin",b),("want",wt)]
def Sjz (a:Ad) (d:Option (Nat×V)) (H:Hp) (E:XK) (G:Prop):Prop:=match d with
 |none=>G
 |some (k,x)=>∀c eo H',RfC (Sw7 a k) H H' x c eo->E c eo H'
inductive Yep (K:Sd) (a:Ad) (vs:List V) (H:Hp) (Q:VK) (E:XK):Prop where
 |mk (p dx:S1) (n lo hi st rn g:V) (gb:Bool) (d:Option (Nat×V)) (_:vs= [.ref p,n,lo,hi,st,rn,g]) (_:H p=some (.ins a.Jlp dx [])) (_:Nmd K H n) (_:Tm K H lo) (_:Tm K H hi) (_:Tm K H st) (_:Tm K H rn) (_:GtI K a H g gb) (_:Due n lo hi st rn g gb d) (_:Sjz a d H E (∀H',Si H H'->Q .non (upd H' p (.ins a.Jlp dx (Slz n lo hi st rn g)))))
inductive So8 (K:Sd) (a:Ad) (vs:List V) (H:Hp) (Q:VK) (E:XK):Prop where
 |mk (p dx:S1) (n b wt:V) (d:Option (Nat×V)) (_:vs= [.ref p,n,b,wt]) (_:H p=some (.ins a.Jlq dx [])) (_:Nmd K H n) (_:Nmd K H b) (_:Tm K H wt) (_:Si7 n b wt d) (_:Sjz a d H E (∀H',Si H H'->Q .non (upd H' p (.ins a.Jlq dx (twnF n b wt)))))
theorem Nmd.same {K:Sd} {H H':Hp} {x:V} (s:Si H H') (h:Nmd K H x):Nmd K H' x:=⟨h.1.same s,h.2⟩
theorem Jxv {K:Sd} {H H':Hp} {x:V} {t:S2} (s:Si H H') (h:TyX K H x t):TyX K H' x t:=h.same (λb o _ q=>s b o q) (λb fs q=>s b _ q)
theorem GtI.same {K:Sd} {a:Ad} {H H':Hp} {g:V} {gb:Bool} (s:Si H H') (h:GtI K a H g gb):GtI K a H' g gb:=by obtain ⟨t,ty,r⟩:=h;exact ⟨t,Jxv s ty,r⟩
theorem Sop {K:Sd} {H:Hp} {x:V} {t:S2} (h:TyX K H x t) (e:t= .type "str"):∃z,x= .str z:=by
 cases h with
 |exc=>cases e
 |of ty=>
  cases ty with
  |str z=>exact ⟨z,rfl⟩
  |ins=>cases e
  |non=>exact absurd (Value.type.inj e) (by decide)
  |bl=>exact absurd (Value.type.inj e) (by decide)
  |int=>exact absurd (Value.type.inj e) (by decide)
  |flt=>exact absurd (Value.type.inj e) (by decide)
  |lst=>exact absurd (Value.type.inj e) (by decide)
  |frz=>exact absurd (Value.type.inj e) (by decide)
  |tup=>exact absurd (Value.type.inj e) (by decide)
  |dK=>exact absurd (Value.type.inj e) (by decide)
  |dT=>exact absurd (Value.type.inj e) (by decide)
structure Bsn where
 z:Str
 lo:Int
 hi:Int
 st:Int
 rn:Int
 g:V
 n:Nat
inductive Sc4 (K:Sd) (a:Ad) (H:Hp) (o:S1) (B:Bsn):Prop where
 |mk (dx:_) (_:H o=some (.ins a.Jlp dx (Slz (.str B.z) (.int B.lo) (.int B.hi) (.int B.st) (.int B.rn) B.g))) (_:GS K a H B.g B.n)
theorem Sc4.same {K:Sd} {a:Ad} {H H':Hp} {o:S1} {B:Bsn} (s:Si H H') (h:Sc4 K a H o B):Sc4 K a H' o B:=by obtain ⟨dx,h1,h2⟩:=h;exact ⟨dx,s _ _ h1,h2.same s⟩
structure Twn where
 z:Str
 b:Str
 wt:Int
inductive Scg (a:Ad) (H:Hp) (o:S1) (B:Twn):Prop where
 |mk (dx:_) (_:H o=some (.ins a.Jlq dx (twnF (.str B.z) (.str B.b) (.int B.wt))))
theorem Scg.same {a:Ad} {H H':Hp} {o:S1} {B:Twn} (s:Si H H') (h:Scg a H o B):Scg a H' o B:=by obtain ⟨dx,h1⟩:=h;exact ⟨dx,s _ _ h1⟩
def Sbs (K:Sd) (a:Ad) (H:Hp):List S1->List Bsn->Prop
 | [],[]=>True
 |o::os,B::Bs=>Sc4 K a H o B/\Sbs K a H os Bs
 |_,_=>False
def Sbz (a:Ad) (H:Hp):List S1->List Twn->Prop
 | [],[]=>True
 |o::os,B::Bs=>Scg a H o B/\Sbz a H os Bs
 |_,_=>False
theorem Sbs.same {K:Sd} {a:Ad} {H H':Hp} (s:Si H H'):∀{os:List S1} {Bs:List Bsn},Sbs K a H os Bs->Sbs K a H' os Bs:=by
 intro os
 induction os with
 |nil=>
  intro Bs h
  cases Bs with
  |nil=>exact True.intro
  |cons B Bs=>exact False.elim h
 |cons o os ih=>
  intro Bs h
  cases Bs with
  |nil=>exact False.elim h
  |cons B Bs=>exact ⟨(yar h).same s,ih (yam h)⟩
theorem Sbz.same {a:Ad} {H H':Hp} (s:Si H H'):∀{os:List S1} {Bs:List Twn},Sbz a H os Bs->Sbz a H' os Bs:=by
 intro os
 induction os with
 |nil=>
  intro Bs h
  cases Bs with
  |nil=>exact True.intro
  |cons B Bs=>exact False.elim h
 |cons o os ih=>
  intro Bs h
  cases Bs with
  |nil=>exact False.elim h
  |cons B Bs=>exact ⟨(yar h).same s,ih (yam h)⟩
theorem Sbs.len {K:Sd} {a:Ad} {H:Hp} {os:List S1}:∀{Bs:List Bsn},Sbs K a H os Bs->os.length=Bs.length:=by
 induction os with
 |nil=>
  intro Bs h
  cases Bs with
  |nil=>rfl
  |cons B Bs=>exact h.elim
 |cons o os ih=>
  intro Bs h
  cases Bs with
  |nil=>exact h.elim
  |cons B Bs=>rw [yaf,yaf,ih h.2]
theorem Sbz.len {a:Ad} {H:Hp} {os:List S1}:∀{Bs:List Twn},Sbz a H os Bs->os.length=Bs.length:=by
 induction os with
 |nil=>
  intro Bs h
  cases Bs with
  |nil=>rfl
  |cons B Bs=>exact h.elim
 |cons o os ih=>
  intro Bs h
  cases Bs with
  |nil=>exact h.elim
  |cons B Bs=>rw [yaf,yaf,ih h.2]
theorem Sbs.get {K:Sd} {a:Ad} {H:Hp}:∀{os:List S1} {Bs:List Bsn} {i:Nat} {v:V},Sbs K a H os Bs->(os.map V.ref)[i]?=some v->∃o B,v= .ref o/\Bs[i]?=some B/\Sc4 K a H o B:=by
 intro os
 induction os with
 |nil=>intro Bs i v h e;simp at e
 |cons o os ih=>
  intro Bs i v h e
  cases Bs with
  |nil=>exact False.elim h
  |cons B Bs=>
   cases i with
   |zero=>exact ⟨o,B,by simpa using e.symm,rfl,yar h⟩
   |succ i=>exact ih (Bs:=Bs) (i:=i) (yam h) (by simpa using e)
theorem Sbz.get {a:Ad} {H:Hp}:∀{os:List S1} {Bs:List Twn} {i:Nat} {v:V},Sbz a H os Bs->(os.map V.ref)[i]?=some v->∃o B,v= .ref o/\Bs[i]?=some B/\Scg a H o B:=by
 intro os
 induction os with
 |nil=>intro Bs i v h e;simp at e
 |cons o os ih=>
  intro Bs i v h e
  cases Bs with
  |nil=>exact False.elim h
  |cons B Bs=>
   cases i with
   |zero=>exact ⟨o,B,by simpa using e.symm,rfl,yar h⟩
   |succ i=>exact ih (Bs:=Bs) (i:=i) (yam h) (by simpa using e)
inductive Yd7 (K:Sd) (vs:List V) (H:Hp) (Q:VK) (z3:XK):Prop where
 |mk (l:S1) (zs:List Str) (_:vs= [.ref l]) (_:Ss K H l (zs.map V.str)) (_:zs.length<=2000) (_:∀H',Si H H'->Q (.bl (decide ((uq zs).length=zs.length))) H')
inductive Ycw (K:Sd) (a:Ad) (vs:List V) (H:Hp) (Q:VK) (z3:XK):Prop where
 |mk (l:S1) (os:List S1) (Bs:List Bsn) (_:vs= [.ref l]) (_:H l=some (.lst (os.map V.ref))) (_:Sbs K a H os Bs) (_:(1<=Bs.length/\Bs.length<=16)) (_:(Bs.map (·.z)).Nodup) (_:∀H',Si H H'->Q (.bl true) H')
inductive Yf2 (K:Sd) (a:Ad) (vs:List V) (H:Hp) (Q:VK) (z3:XK):Prop where
 |mk (l m:S1) (os ts:List S1) (Bs:List Bsn) (Ts:List Twn) (_:vs= [.ref m,.ref l]) (_:H l=some (.lst (os.map V.ref))) (_:Sbs K a H os Bs) (_:Bs.length<=16) (_:H m=some (.lst (ts.map V.ref))) (_:Sbz a H ts Ts) (_:Ts.length<=3) (_:(Ts.map (·.z)).Nodup) (_:(∀t∈Ts,t.b∈Bs.map (·.z))) (_:∀H',Si H H'->Q (.bl true) H')
section
variable {P:S7} {w:S9} {K:Sd} {mg:Str->Option S2} {base:Sb} {a:Ad}
theorem Jri:Jm2 ["self","thing"] ["self","thing"] (Jm0 (Jm6 (top 4) 0)):=⟨rfl,rfl,rfl,by decide +kernel,rfl,by decide +kernel,by decide +kernel⟩
theorem Jo9 (T:Tx K mg a):So P w K mg base CX0 1 a.Jgi a.Jgj ["self","thing"] (Jp0 K "thing"):=by
 refine T.Jcj.fn.ok Jri (λvs H Q E h=>?_) (λcdv A outer s H vs Q E hr h=>?_)
 ·obtain ⟨e,C,W,fI,y,rfl,_⟩:=h
  rfl
 ·obtain ⟨e,C,W,fI,y,rfl,q,c,n,k⟩:=h
  refine ⟨_,(Sx (Joo (pv 0) (pv 1) rfl)),?_⟩
  exact ⟨_,rfl,_,rfl,e,C,W,fI,true,rfl,q,c,n,k⟩
theorem Jyv:Jm2 ["thing","low","high"] ["thing","low","high"] (Jm0 (top 15)):=⟨rfl,rfl,rfl,by decide +kernel,rfl,by decide +kernel,by decide +kernel⟩
theorem Jnm (T:Tx K mg a):So P w K mg base CX0 1 a.Jgy a.Jgz ["thing","low","high"] (Yf5 K):=by
 refine T.J0.fn.ok Jyv (λvs H Q E h=>?_) (λcdv A outer s H vs Q E hr h=>?_)
 ·obtain ⟨x,lo,hi,rfl,_⟩:=h
  rfl
 ·obtain ⟨x,lo,hi,rfl,tm,k⟩:=h
  refine ⟨_,(Su (Jmr (PW.pt (Jtl (Jmx (Jm4 Jo8 (by rfl) T.Jat Jmk (Sj (pv 0) (Sj (Jo0 (v:=.ty "bool") (by rfl) T.Jap Ydq rfl) Sl)))) (Jt1 (Jmu (Jmx (Jm4 Jo8 (by rfl) T.Jat Jmk (Sj (pv 0) (Sj (Jo0 (v:=.ty "int") (by rfl) T.Jas Yb3 rfl) Sl)))))))) (Sx (Jm5 Jo6)) Jma)
   (Sx (Jm5 (Jyn Jqd Jqd (pv 1) (pv 0) (pv 2))))),?_⟩
  rcases tm with ⟨i,rfl⟩|⟨t,ty,ht⟩
  ·refine ⟨_,rfl,_,_,_,_,_,rfl,rfl,.of (.int i),(by rfl:Se K (.type "int") (.type "bool")=some false),_,rfl,Jn9 ⟨_,rfl,_,_,_,_,_,rfl,rfl,.of (.int i),(by rfl:Se K (.type "int") (.type "int")=some true),_,rfl,Jn9 ?_⟩⟩
   refine ⟨_,rfl,_,rfl,_,_,rfl,rfl,_,rfl,?_⟩
   have k':Q (.bl (decide (lo<=i)&&decide (i<=hi))) H:=k
   by_cases h1:lo<=i
   ·rw [decide_eq_true h1] at k'⊢
    exact Joa ⟨_,rfl,_,_,rfl,rfl,by simpa using k'⟩
   ·rw [decide_eq_false h1] at k'⊢
    exact Jn9 (by simpa using k')
  ·rw [Ye2 ty ht] at k
   have e:=Sol (K:=K) ht
   cases eb:(t== .type "bool") with
   |true=>
    rw [eb] at e
    exact ⟨_,rfl,_,_,_,_,_,rfl,rfl,ty,e.2,_,rfl,Joa (Joa k)⟩
   |false=>
    rw [eb] at e
    exact ⟨_,rfl,_,_,_,_,_,rfl,rfl,ty,e.2,_,rfl,Jn9 ⟨_,rfl,_,_,_,_,_,rfl,rfl,ty,e.1,_,rfl,Joa k⟩⟩
theorem Sbp:Jm2 ["thing","lowest","least","mark"] ["thing","lowest"] (Jm0 (top 50)):=⟨rfl,rfl,rfl,by decide +kernel,rfl,by decide +kernel,by decide +kernel⟩
theorem Jx7 (T:Tx K mg a):So P w K mg base CX0 2 a.Jis a.Jit ["thing","lowest"] (Ss2 K):=by
 have Sz:=Jnm (P:=P) (w:=w) (base:=base) T
 refine T.Jr.fn.ok Sbp (λvs H Q E h=>?_) (λcdv A outer s H vs Q E hr h=>?_)
 ·obtain ⟨x,lo,b,rfl,_⟩:=h
  rfl
 ·obtain ⟨x,lo,b,rfl,sh,k⟩:=h
  refine ⟨_,(Su (Jmr (Jmu (Jmx (Jm4 Jud (by rfl) T.Jat Jmk (Sj (pv 0) (Sj (Jn1 (Sj (Jo0 (v:=.ty "list") (by rfl) T.Jav Jni rfl) (Sj (Jo0 (v:=.ty "tuple") (by rfl) T.Jb3 Jnw rfl) Sl))) Sl))))) (Sx (Jm5 Jo6)) Jma)
   (Su (Jmr (Jmu (Jv5 Jqd Jqd Sr (Jm4 Jmd (by rfl) T.Jau Jnf (Sj (pv 0) Sl)) (Jn7 (by rfl) T.Jaf (v:=.int 4) ⟨_,rfl⟩))) (Sx (Jm5 Jo6)) Jma)
   (Su (Jm7 (i:=2) Sbp.nd rfl (yf rfl) (pv 1))
   (Su (Jn5 PassesOwn.never rfl (Sn4 (pv 0)) (Jm3 (i:=3) Sbp.nd rfl (yf rfl)) (Su (Jmr (Jmu (Jmx (Jlz T.J0 Sz hr (by decide) (Sj (pv 3) (Sj (pv 2) (Sj (Jn7 (by rfl) T.Jag (v:=.int 12) ⟨_,rfl⟩) Sl)))))) (Sx (Jm5 Jo6)) Jma)
    (Sx (Jm7 (i:=2) Sbp.nd rfl (yf rfl) (Jm8 Jmg (pv 3) Sr)))))
   (Sx (Jm5 Jo6)))))),?_⟩
  cases sh with
  | @non t ty e=>
   refine ⟨_,rfl,(show 2<=S6 by decide),λp hp=>⟨_,p,_,_,t,_,rfl,Sn,rfl,ty.same (λb o _ q=>Si.upd hp b o q) (λb fs q=>Si.upd hp b _ q),e,_,rfl,Joa (k _ (Si.upd hp))⟩⟩
  | @seq xs sq tms=>
   obtain ⟨t,ty,_,e⟩:=sq.ty (K:=K)
   refine ⟨_,rfl,(show 2<=S6 by decide),λp hp=>⟨_,p,_,_,t,_,rfl,Sn,rfl,ty.same (λb o _ q=>Si.upd hp b o q) (λb fs q=>Si.upd hp b _ q),e,_,rfl,Jn9 ?_⟩⟩
   have s1:=Si.upd (o:=.tup [.ty "list",.ty "tuple"]) hp
   have sq1:=sq.same s1
   obtain ⟨q,rfl⟩:∃q,x= .ref q:=by cases sq <;> exact ⟨_,rfl⟩
   have len:Ss K (upd H p (.tup [.ty "list",.ty "tuple"])) q xs\/Sy K (upd H p (.tup [.ty "list",.ty "tuple"])) q xs:=by
    cases sq1 with
    |lst e=>exact .inl (Ss.of e)
    |tup e=>exact .inr (Sy.of e)
   refine ⟨_,rfl,q,xs,rfl,len,_,_,rfl,rfl,_,rfl,?_⟩
   have no:Jpw lo xs=false->∀H',Si H H'->Q (.bl false) H':=λz H' s'=>by
    have:=k H' s'
    rw [z] at this
    exact this
   by_cases h1:(1:Int)<=(xs.length:Int)
   ·rw [decide_eq_true h1]
    refine Joa ⟨_,_,rfl,rfl,_,rfl,?_⟩
    by_cases h2:(xs.length:Int)<=4
    ·rw [decide_eq_true h2]
     refine Jn9 ⟨_,rfl,?_⟩
     have lz:decide (1<=xs.length/\xs.length<=4)=true:=decide_eq_true (by omega)
     have ar:Jpw lo xs=Jnh lo xs:=by unfold Jpw;rw [lz,Bool.true_and]
     refine ⟨_,rfl,q,rfl,Ydr (xs:=xs) (λi σ H'=>∃(l:Int) (o:Option V),σ= [some (.ref q),some (.int lo),some (.int l),o]/\H'=upd H p (.tup [.ty "list",.ty "tuple"])/\Jnh lo xs=Jnh l (xs.drop i)) ⟨lo,_,rfl,rfl,rfl⟩ ?_ ?_ ?_⟩
     ·rcases len with z|z
      ·exact .inl λi σ H' _ ⟨_,_,_,e,_⟩=>by rw [e];exact z
      ·exact .inr λi σ H' _ ⟨_,_,_,e,_⟩=>by rw [e];exact z
     ·rintro i y σ H' hy ⟨l,o,rfl,rfl,em⟩
      have hd:xs.drop i=y::xs.drop (i+1):=by
       obtain ⟨hi,rfl⟩:=yi.mp hy
       exact List.drop_eq_getElem_cons hi
      refine ⟨_,rfl,_,rfl,y,l,12,rfl,(tms y (yr hy)).same s1,_,rfl,?_⟩
      cases z:Jmm y l 12 with
      |false=>
       refine Joa (no ?_ _ s1)
       rw [ar,em,hd,Jtf,z,Bool.false_and]
      |true=>
       rw [hd,Jtf,z,Bool.true_and] at em
       cases y with
       |int i'=>exact Jn9 ⟨_,rfl,_,_,rfl,rfl,i'+1,_,rfl,rfl,em⟩
       |_=>cases z
     ·rintro σ H' ⟨l,o,rfl,rfl,em⟩
      have e:Jpw lo xs=true:=by rw [ar,em,List.drop_of_length_le (yg _)];rfl
      have:=k _ s1
      rw [e] at this
      exact this
    ·rw [decide_eq_false h2]
     refine Joa (no ?_ _ s1)
     unfold Jpw
     rw [decide_eq_false (by omega:¬(1<=xs.length/\xs.length<=4)),Bool.false_and]
   ·rw [decide_eq_false h1]
    refine Jn9 ⟨_,rfl,Joa (no ?_ _ s1)⟩
    unfold Jpw
    rw [decide_eq_false (by omega:¬(1<=xs.length/\xs.length<=4)),Bool.false_and]
theorem Jvq:Jm2 ["marks","lowest"] ["marks","lowest"] (Jm0 (top 51)):=⟨rfl,rfl,rfl,by decide +kernel,rfl,by decide +kernel,by decide +kernel⟩
theorem Jp6 (T:Tx K mg a):So P w K mg base (CXX P w) 3 a.Jiu a.Jiv ["marks","lowest"] (Snr K a):=by
 have Sg9:=Jx7 (P:=P) (w:=w) (base:=base) T
 have Sa1:=Jo9 (P:=P) (w:=w) (base:=base) T
 refine T.Js.fn.okX Jvq (λvs H Q E h=>?_) (λcdv A outer s H vs Q E hr h=>?_)
 ·obtain ⟨x,lo,rfl,_⟩:=h
  rfl
 ·obtain ⟨x,lo,rfl,h⟩:=h
  refine ⟨_,(Su (Jmr (Jmu (Jmx (Jlz T.Jr Sg9 hr (by decide) (Sj (pv 0) (Sj (pv 1) Sl))))) (Sx (Jn0 Jn4 rfl (Jnq T.Jdh Sa1 hr (by decide) T.Jcj.bd T.Jb6 (Sj (pv 0) Sl)))) Jma)
   (Sx (Jm5 (Jmf Jng (by rfl) T.Jb3 Jnw (Sj (pv 0) Sl))))),?_⟩
  rcases h with ⟨xs,sq,tms,e,k⟩|⟨sh,k⟩
  ·have sh:=Shp.seq (lo:=lo) sq tms
   rw [e] at sh
   refine ⟨_,rfl,_,rfl,x,lo,true,rfl,sh,λH1 s1=>⟨_,rfl,Jn9 ?_⟩⟩
   cases sq with
   |lst e=>exact ⟨_,rfl,_,xs,rfl,.inl ⟨Ss.of (s1 _ _ e),λl hl=>k l _ (s1.trans (Si.upd hl)) Sn⟩⟩
   |tup e=>exact ⟨_,rfl,_,xs,rfl,.inr ⟨Sy.of (s1 _ _ e),k _ _ s1 (s1 _ _ e)⟩⟩
  ·exact ⟨_,rfl,_,rfl,x,lo,false,rfl,sh,λH1 s1=>⟨_,rfl,Joa (Jny T.Jdh T.Jex rfl λe dx h1 h2 h3=>k _ _ _ ((Rf.new h1 h2 h3).of s1))⟩⟩
theorem Jqn:Jm2 ["self","marks"] ["self","marks"] (Jm0 (Jm6 (top 54) 0)):=⟨rfl,rfl,rfl,by decide +kernel,rfl,by decide +kernel,by decide +kernel⟩
theorem Jsv (T:Tx K mg a):So P w K mg base (CXX P w) 4 a.Jiy a.Jiz ["self","marks"] (Jxp K a 0):=by
 have Sba:=Jp6 (P:=P) (w:=w) (base:=base) T
 refine T.Jcz.fn.okX Jqn (λvs H Q E h=>?_) (λcdv A outer s H vs Q E hr h=>?_)
 ·obtain ⟨p,C,dx,x,rfl,_⟩:=h
  rfl
 ·obtain ⟨p,C,dx,x,rfl,hp,c,n,h⟩:=h
  refine ⟨_,(Sx (Jmv (pv 0) (Jox T.Js Sba Jn4 hr (by decide) (Sj (pv 1) (Sj Sr Sl))) rfl)),?_⟩
  rcases h with ⟨xs,sq,tms,e,k⟩|⟨sh,k⟩
  ·exact ⟨_,rfl,x,0,rfl,.inl ⟨xs,sq,tms,e,λt H' s' ht=>⟨_,rfl,p,C,dx,[],rfl,s' _ _ hp,c,n,by simp,k t H' s' ht⟩⟩⟩
  ·exact ⟨_,rfl,x,0,rfl,.inr ⟨sh,k⟩⟩
theorem Jqo:Jm2 ["self"] ["self"] (Jm0 (Jm6 (top 54) 1)):=⟨rfl,rfl,rfl,by decide +kernel,rfl,by decide +kernel,by decide +kernel⟩
theorem Jqa (T:Tx K mg a):So P w K mg base CX0 1 a.Jj0 a.Jj1 ["self"] (Yd4 a.Jll):=by
 refine T.Jd0.fn.ok Jqo (λvs H Q E h=>?_) (λcdv A outer s H vs Q E hr h=>?_)
 ·obtain ⟨p,xs,rfl,_⟩:=h
  rfl
 ·obtain ⟨p,xs,rfl,⟨dx,t,h1,h2⟩,k⟩:=h
  refine ⟨_,(Sx (Jm5 (Jm4 Jmd (by rfl) T.Jau Jnf (Sj (Jm9 (pv 0) (by rfl)) Sl)))),?_⟩
  exact ⟨_,rfl,p,_,dx,_,_,rfl,h1,T.Jdz,T.Jfg,rfl,t,xs,rfl,.inr (Sy.of h2),k⟩
theorem Jqh:Jm2 ["self","marks"] ["self","marks"] (Jm0 (Jm6 (top 55) 0)):=⟨rfl,rfl,rfl,by decide +kernel,rfl,by decide +kernel,by decide +kernel⟩
theorem Jst (T:Tx K mg a):So P w K mg base (CXX P w) 4 a.Jj4 a.Jj5 ["self","marks"] (Jxp K a 0):=by
 have Sba:=Jp6 (P:=P) (w:=w) (base:=base) T
 refine T.Jd2.fn.okX Jqh (λvs H Q E h=>?_) (λcdv A outer s H vs Q E hr h=>?_)
 ·obtain ⟨p,C,dx,x,rfl,_⟩:=h
  rfl
 ·obtain ⟨p,C,dx,x,rfl,hp,c,n,h⟩:=h
  refine ⟨_,(Sx (Jmv (pv 0) (Jox T.Js Sba Jn4 hr (by decide) (Sj (pv 1) (Sj Sr Sl))) rfl)),?_⟩
  rcases h with ⟨xs,sq,tms,e,k⟩|⟨sh,k⟩
  ·exact ⟨_,rfl,x,0,rfl,.inl ⟨xs,sq,tms,e,λt H' s' ht=>⟨_,rfl,p,C,dx,[],rfl,s' _ _ hp,c,n,by simp,k t H' s' ht⟩⟩⟩
  ·exact ⟨_,rfl,x,0,rfl,.inr ⟨sh,k⟩⟩
theorem Jqi:Jm2 ["self"] ["self"] (Jm0 (Jm6 (top 55) 1)):=⟨rfl,rfl,rfl,by decide +kernel,rfl,by decide +kernel,by decide +kernel⟩
theorem Jq6 (T:Tx K mg a):So P w K mg base CX0 1 a.Jj6 a.Jj7 ["self"] (Yd4 a.Jlm):=by
 refine T.Jd3.fn.ok Jqi (λvs H Q E h=>?_) (λcdv A outer s H vs Q E hr h=>?_)
 ·obtain ⟨p,xs,rfl,_⟩:=h
  rfl
 ·obtain ⟨p,xs,rfl,⟨dx,t,h1,h2⟩,k⟩:=h
  refine ⟨_,(Sx (Jm5 (Jm4 Jmd (by rfl) T.Jau Jnf (Sj (Jm9 (pv 0) (by rfl)) Sl)))),?_⟩
  exact ⟨_,rfl,p,_,dx,_,_,rfl,h1,T.Je5,T.Jfh,rfl,t,xs,rfl,.inr (Sy.of h2),k⟩
theorem Jqk:Jm2 ["self","marks"] ["self","marks"] (Jm0 (Jm6 (top 56) 0)):=⟨rfl,rfl,rfl,by decide +kernel,rfl,by decide +kernel,by decide +kernel⟩
theorem Jsu (T:Tx K mg a):So P w K mg base (CXX P w) 4 a.Jja a.Jjb ["self","marks"] (Jxp K a 1):=by
 have Sba:=Jp6 (P:=P) (w:=w) (base:=base) T
 refine T.Jd5.fn.okX Jqk (λvs H Q E h=>?_) (λcdv A outer s H vs Q E hr h=>?_)
 ·obtain ⟨p,C,dx,x,rfl,_⟩:=h
  rfl
 ·obtain ⟨p,C,dx,x,rfl,hp,c,n,h⟩:=h
  refine ⟨_,(Sx (Jmv (pv 0) (Jox T.Js Sba Jn4 hr (by decide) (Sj (pv 1) (Sj Sr Sl))) rfl)),?_⟩
  rcases h with ⟨xs,sq,tms,e,k⟩|⟨sh,k⟩
  ·exact ⟨_,rfl,x,1,rfl,.inl ⟨xs,sq,tms,e,λt H' s' ht=>⟨_,rfl,p,C,dx,[],rfl,s' _ _ hp,c,n,by simp,k t H' s' ht⟩⟩⟩
  ·exact ⟨_,rfl,x,1,rfl,.inr ⟨sh,k⟩⟩
theorem Jql:Jm2 ["self"] ["self"] (Jm0 (Jm6 (top 56) 1)):=⟨rfl,rfl,rfl,by decide +kernel,rfl,by decide +kernel,by decide +kernel⟩
theorem Jq8 (T:Tx K mg a):So P w K mg base CX0 1 a.Jjc a.Jjd ["self"] (Yd4 a.Jln):=by
 refine T.Jd6.fn.ok Jql (λvs H Q E h=>?_) (λcdv A outer s H vs Q E hr h=>?_)
 ·obtain ⟨p,xs,rfl,_⟩:=h
  rfl
 ·obtain ⟨p,xs,rfl,⟨dx,t,h1,h2⟩,k⟩:=h
  refine ⟨_,(Sx (Jm5 (Jm4 Jmd (by rfl) T.Jau Jnf (Sj (Jm9 (pv 0) (by rfl)) Sl)))),?_⟩
  exact ⟨_,rfl,p,_,dx,_,_,rfl,h1,T.Jeb,T.Jfi,rfl,t,xs,rfl,.inr (Sy.of h2),k⟩
theorem Jq0:Jm2 ["self"] ["self"] (Jm0 (Jm6 (top 57) 1)):=⟨rfl,rfl,rfl,by decide +kernel,rfl,by decide +kernel,by decide +kernel⟩
theorem Jpx (T:Tx K mg a):So P w K mg base CX0 1 a.Jji a.Jjj ["self"] Ss7:=by
 refine T.Jd9.fn.ok Jq0 (λvs H Q E h=>?_) (λcdv A outer s H vs Q E hr h=>?_)
 ·obtain ⟨x,rfl,_⟩:=h
  rfl
 ·obtain ⟨x,rfl,k⟩:=h
  refine ⟨_,(Sx (Jm5 Sr)),?_⟩
  exact k
theorem Jnz {j:Nat} {σ:L2.St} {H:Hp} {x:V} {n:Nat} {Q:VK} (T:Tx K mg a) (g:GS K a H x n) (k:Q (.int n) H) (hj:1<=j):
  ∃g' C dx fs f fd ps sp k',x= .ref g'/\H g'=some (.ins C dx fs)/\fs.lookup ("settings" :Str)=none/\Cls K C/\Joc K C "settings" f/\So P w K mg base CX0 k' f fd ps sp/\k'<=j/\Sb2 K fd ps []/\Jvt σ H λvs H2=>sp (x::vs) H2 Q E0:=by
 cases g with
 | @plain g C xs i ga l=>
  obtain ⟨dx,t,h1,h2⟩:=ga
  rcases i with rfl|rfl|rfl
  ·exact ⟨g,_,dx,_,_,_,_,_,_,rfl,h1,rfl,T.Jdz,T.Je3,Jqa T,hj,T.Jd0.bd,g,xs,rfl,⟨dx,t,h1,h2⟩,k⟩
  ·exact ⟨g,_,dx,_,_,_,_,_,_,rfl,h1,rfl,T.Je5,T.Je9,Jq6 T,hj,T.Jd3.bd,g,xs,rfl,⟨dx,t,h1,h2⟩,k⟩
  ·exact ⟨g,_,dx,_,_,_,_,_,_,rfl,h1,rfl,T.Jeb,T.Jef,Jq8 T,hj,T.Jd6.bd,g,xs,rfl,⟨dx,t,h1,h2⟩,k⟩
 | @stuck g dx x y h1=>exact ⟨g,_,dx,_,_,_,_,_,_,rfl,h1,rfl,T.Jeh,T.Jel,Jpx T,hj,T.Jd9.bd,_,rfl,k⟩
theorem GS.ty {H:Hp} {x:V} {n:Nat} (T:Tx K mg a) (g:GS K a H x n):∃t,TyX K H x t/\Se K t (.ref a.Jlk)=some true:=by
 cases g with
 |plain i ga l=>
  obtain ⟨dx,t,h1,h2⟩:=ga
  rcases i with rfl|rfl|rfl
  ·exact ⟨_,.of (T.Je0.ty T.Jdz h1),T.Jfy⟩
  ·exact ⟨_,.of (T.Je6.ty T.Je5 h1),T.Jfz⟩
  ·exact ⟨_,.of (T.Jec.ty T.Jeb h1),T.Jg0⟩
 |stuck h1=>exact ⟨_,.of (T.Jei.ty T.Jeh h1),T.Jg1⟩
theorem Swn (x y:V):Jn2 ("setting" :Str) y [(("gate" :Str),x)]= [(("gate" :Str),x),(("setting" :Str),y)]:=by
 have h:¬(("gate" :Str)="setting"):=by decide +kernel
 simp [Jn2,h]
theorem Jpz:Jm2 ["self","gate","setting"] ["self","gate","setting"] (Jm0 (Jm6 (top 57) 0)):=⟨rfl,rfl,rfl,by decide +kernel,rfl,by decide +kernel,by decide +kernel⟩
theorem Js4 (T:Tx K mg a):So P w K mg base (CXX P w) 4 a.Jjg a.Jjh ["self","gate","setting"] (Yet K a):=by
 have Sz:=Jnm (P:=P) (w:=w) (base:=base) T
 have Sa1:=Jo9 (P:=P) (w:=w) (base:=base) T
 refine T.Jd8.fn.okX Jpz (λvs H Q E h=>?_) (λcdv A outer s H vs Q E hr h=>?_)
 ·obtain ⟨p,dx,x,y,rfl,_⟩:=h
  rfl
 ·obtain ⟨p,dx,x,y,rfl,hp,h⟩:=h
  refine ⟨_,(Su (Jmr (Jmu (Jmx (Jm4 Jo8 (by rfl) T.Jat Jmk (Sj (pv 1) (Sj (Jn7 (by rfl) T.Jbg (v:=.ref _) rfl) Sl))))) (Sx (Jn0 Jn4 rfl (Jnq T.Jdh Sa1 hr (by decide) T.Jcj.bd T.Jb6 (Sj (pv 1) Sl)))) Jma)
   (Su (Jmr (Jmu (Jmx (Jlz T.J0 Sz hr (by decide) (Sj (pv 2) (Sj Sr (Sj (Jm8 Jnl (Jqv (pv 1) hr) Sr) Sl)))))) (Sx (Jn0 Jn4 rfl (Jnq T.Jdh Sa1 hr (by decide) T.Jcj.bd T.Jb6 (Sj (pv 2) Sl)))) Jma)
   (Su (Jmv (pv 0) (pv 1) rfl)
   (Sx (Jmv (pv 0) (pv 2) rfl))))),?_⟩
  rcases h with ⟨t,ty,e,k⟩|⟨n,g,tm,e,k⟩|⟨n,g,tm,e,k⟩
  ·exact ⟨_,rfl,x,_,_,t,_,rfl,rfl,ty,e,_,rfl,Joa (Jny T.Jdh T.Jex rfl λe dx h1 h2 h3=>k _ _ _ (Rf.new h1 h2 h3))⟩
  ·obtain ⟨t,ty,et⟩:=g.ty T
   refine ⟨_,rfl,x,_,_,t,_,rfl,rfl,ty,et,_,rfl,Jn9 ⟨_,rfl,_,rfl,Jnz T g ⟨_,_,rfl,rfl,y,0,(n:Int) - 1,rfl,tm,_,rfl,?_⟩ (by decide)⟩⟩
   rw [e]
   exact Joa (Jny T.Jdh T.Jex rfl λe dx h1 h2 h3=>k _ _ _ (Rf.new h1 h2 h3))
  ·obtain ⟨t,ty,et⟩:=g.ty T
   refine ⟨_,rfl,x,_,_,t,_,rfl,rfl,ty,et,_,rfl,Jn9 ⟨_,rfl,_,rfl,Jnz T g ⟨_,_,rfl,rfl,y,0,(n:Int) - 1,rfl,tm,_,rfl,?_⟩ (by decide)⟩⟩
   rw [e]
   refine Jn9 ⟨_,rfl,_,rfl,p,_,dx,[],rfl,hp,T.Jeh,T.Jfj,by simp,_,rfl,_,rfl,p,_,dx,_,rfl,Sn,T.Jeh,T.Jfk,by simp [Jn2],?_⟩
   show Q .non _
   rw [Jne]
   exact Swn x y▸k
theorem Jyw:Jm2 ["_law_script","_law_k"] ["_law_script","_law_k"] (Jm0 (top 73)):=⟨rfl,rfl,rfl,by decide +kernel,rfl,by decide +kernel,by decide +kernel⟩
theorem Jyk (T:Tx K mg a):So P w K mg base CX0 1 a.Jk2 a.Jk3 ["_law_script","_law_k"] (Snn K):=by
 refine T.Jx.fn.ok Jyw (λvs H Q E h=>?_) (λcdv A outer s H vs Q E hr h=>?_)
 ·obtain ⟨x,ns,i,rfl,_⟩:=h
  rfl
 ·obtain ⟨x,ns,i,rfl,hS,k⟩:=h
  refine ⟨_,(Su (Jmr (Jmp Srn (pv 1) (Jm4 Jmd (by rfl) T.Jau Jnf (Sj (pv 0) Sl)) (Jmy _)) (Sx (Jm5 (Jmc Jn3 (pv 0) (pv 1) (λ_ _=>rfl)))) Jma)
   (Sx (Jm5 (Jm8 Jmg (Jm8 Jow Sr (pv 1)) Sr)))),?_⟩
  refine ⟨_,rfl,_,rfl,x,_,rfl,.inl hS,_,_,rfl,rfl,_,rfl,Sii (λq=>?_) (λq=>?_)⟩
  ·have hi:i < ns.length:=by
    have q':=of_decide_eq_true q
    rw [ye] at q'
    omega
   exact ⟨_,rfl,_,rfl,x,_,_,_,rfl,rfl,hS,Ju2 hi,k _⟩
  ·exact ⟨_,rfl,_,_,rfl,rfl,.inl ⟨by decide,by decide⟩,_,_,rfl,rfl,k _⟩
theorem Jvr:Jm2 ["_law_cell_here"] ["_law_cell_here"] (Jm0 (top 74)):=⟨rfl,rfl,rfl,by decide +kernel,rfl,by decide +kernel,by decide +kernel⟩
theorem Jr7 (T:Tx K mg a):So P w K mg base CX0 1 a.Jk4 a.Jk5 ["_law_cell_here"] Yd5:=by
 refine T.Jy.fn.ok Jvr (λvs H Q E h=>?_) (λcdv A outer s H vs Q E hr h=>?_)
 ·obtain ⟨c,rfl,_⟩:=h
  rfl
 ·obtain ⟨c,rfl,k⟩:=h
  refine ⟨_,(Sx (Jm5 (Jmt (Sj (Jm4 (Jp9 rfl) (by rfl) T.Jaw Juc (Sj Sr (Sj (Jm8 Jnl (pv 0) (Jm8 Yc5 Sr Sr)) Sl))) (Sj (Jm8 Jpo (pv 0) Sr) (Sj Sr Sl)))))),?_⟩
  refine ⟨_,rfl,_,_,rfl,rfl,⟨by decide,by decide,by decide⟩,_,_,rfl,rfl,_,_,rfl,_,rfl,_,_,rfl,rfl,(by show (0:Int) < 2147483647;decide),Jmw _ (by show 3<=2000;decide),λp hp=>?_⟩
  exact k p _ hp (Si.upd hp) ⟨_,_,_,Sn⟩
theorem Sc6:Jm2 ["_law_stream_here","_law_many","_law_digit","_law_number"] ["_law_stream_here","_law_many"] (Jm0 (top 75)):=⟨rfl,rfl,rfl,by decide +kernel,rfl,by decide +kernel,by decide +kernel⟩
theorem Jo5 (T:Tx K mg a):So P w K mg base CX0 1 a.Jk6 a.Jk7 ["_law_stream_here","_law_many"] So7:=by
 refine T.Jz.fn.ok Sc6 (λvs H Q E h=>?_) (λcdv A outer s H vs Q E hr h=>?_)
 ·obtain ⟨p,m,rfl,_⟩:=h
  rfl
 ·obtain ⟨p,m,rfl,⟨a0,b0,c0,hp⟩,hm,hl,k⟩:=h
  refine ⟨_,(Su (Jzx (Jm8 Jmg (Jmc Jn3 (pv 0) Sr (λ_ _=>rfl)) Sr) (Jzt (pv 0) Sr Jsf))
   (Su (Jmr (Jmp Jwk (Jmc Jn3 (pv 0) Sr (λ_ _=>rfl)) Sr (Jmy _)) (Su (Jm7 (i:=2) Sc6.nd rfl (yf rfl) (Jm8 Jpo (Jmc Jn3 (pv 0) Sr (λ_ _=>rfl)) (pv 1)))
    (Su (Jzx (Jm8 Jqc (Jmc Jn3 (pv 0) Sr (λ_ _=>rfl)) (pv 1)) (Jzt (pv 0) Sr Jsf))
    (Sx (Jm5 (pv 2))))) Jma)
   (Su (Jm7 (i:=3) Sc6.nd rfl (yf rfl) (Jm8 Jpo (Jm8 Jow (Jm8 Jmg (Jmc Jn3 (pv 0) Sr (λ_ _=>rfl)) (Jm8 Jow Sr (Jmc Jn3 (pv 0) Sr (λ_ _=>rfl)))) Sr) Sr))
   (Su (Jm7 (i:=3) Sc6.nd rfl (yf rfl) (Jm8 Jpo (Jm8 Jow (pv 3) (pv 3)) Sr))
   (Sx (Jm5 (Jm8 Jpo (Jm8 Jqc (Jm8 Jpo (Jm8 Jmg (Jm8 Jow (pv 3) (Jm8 Jmg (pv 3) Sr)) (Jm8 Jow Sr (Jmc Jn3 (pv 0) Sr (λ_ _=>rfl)))) Sr) Sr) (pv 1)))))))),?_⟩
  refine ⟨_,rfl,p,_,_,_,rfl,rfl,Ss.of hp,rfl,_,_,rfl,rfl,_,rfl,p,_,_,_,rfl,rfl,hp,rfl,?_⟩
  refine ⟨_,rfl,p,_,_,_,rfl,rfl,Ss.of Sn,rfl,_,_,rfl,rfl,_,rfl,Sii (λ_=>?_) (λ_=>?_)⟩
  ·refine ⟨_,rfl,p,_,_,_,rfl,rfl,Ss.of Sn,rfl,_,rfl,_,_,rfl,rfl,hm,?_⟩
   refine ⟨_,rfl,p,_,_,_,rfl,rfl,Ss.of Sn,rfl,_,rfl,_,_,rfl,rfl,⟨hm,hl⟩,_,rfl,p,_,_,_,rfl,rfl,Sn,rfl,?_⟩
   refine ⟨_,rfl,k _ _ (ycl _ (by omega)) (ycm _ hm) ⟨λb o ne e=>?_,_,_,_,Sn⟩⟩
   rw [Sw ne,Sw ne]
   exact e
  ·refine ⟨_,rfl,p,_,_,_,rfl,rfl,Ss.of Sn,rfl,_,rfl,p,_,_,_,rfl,rfl,Ss.of Sn,rfl,_,_,rfl,rfl,.inl ⟨by decide,by decide⟩,_,_,rfl,rfl,_,_,rfl,rfl,.inr ⟨by decide,by decide⟩,_,_,rfl,rfl,(by show (0:Int) < 2147483629;decide),?_⟩
   have n1:∀x:Int,-(2^64) < x%2147483629/\x%2147483629 < 2^64:=λx=>by
    have h1:=ycl x (show (2147483629:Int)≠0 by decide)
    have h2:=ycm x (show (0:Int) < 2147483629 by decide)
    constructor <;> omega
   have n2:∀x:Int,-(2^64) < x%2147483587/\x%2147483587 < 2^64:=λx=>by
    have h1:=ycl x (show (2147483587:Int)≠0 by decide)
    have h2:=ycm x (show (0:Int) < 2147483587 by decide)
    constructor <;> omega
   refine ⟨_,rfl,_,rfl,_,_,rfl,rfl,.inl (n1 _),_,_,rfl,rfl,(by show (0:Int) < 2147483587;decide),?_⟩
   refine ⟨_,rfl,_,rfl,_,_,rfl,rfl,_,_,rfl,rfl,.inl (n2 _),_,rfl,p,_,_,_,rfl,rfl,Ss.of Sn,rfl,_,_,rfl,rfl,.inl ⟨by decide,by decide⟩,_,_,rfl,rfl,_,_,rfl,rfl,(by show (0:Int) < 2147483647;decide),_,_,rfl,rfl,⟨by decide,by decide⟩,_,rfl,_,_,rfl,rfl,hm,?_⟩
   refine k _ _ (ycl _ (by omega)) (ycm _ hm) ⟨λb o ne e=>?_,_,_,_,Sn⟩
   rw [Sw ne]
   exact e
theorem Jrj:Jm2 ["self","thing"] ["self","thing"] (Jm0 (Jm6 (top 3) 0)):=⟨rfl,rfl,rfl,by decide +kernel,rfl,by decide +kernel,by decide +kernel⟩
theorem Jq7 (T:Tx K mg a):So P w K mg base CX0 1 a.Jgg a.Jgh ["self","thing"] (Jp0 K "thing"):=by
 refine T.Jci.fn.ok Jrj (λvs H Q E h=>?_) (λcdv A outer s H vs Q E hr h=>?_)
 ·obtain ⟨e,C,W,fI,y,rfl,_⟩:=h
  rfl
 ·obtain ⟨e,C,W,fI,y,rfl,q,c,n,k⟩:=h
  refine ⟨_,(Sx (Joo (pv 0) (pv 1) rfl)),?_⟩
  exact ⟨_,rfl,_,rfl,e,C,W,fI,true,rfl,q,c,n,k⟩
theorem Jqz:Jm2 ["self","thing"] ["self","thing"] (Jm0 (Jm6 (top 5) 0)):=⟨rfl,rfl,rfl,by decide +kernel,rfl,by decide +kernel,by decide +kernel⟩
theorem Jtp (T:Tx K mg a):So P w K mg base CX0 1 a.Jgk a.Jgl ["self","thing"] (Jp0 K "thing"):=by
 refine T.Jck.fn.ok Jqz (λvs H Q E h=>?_) (λcdv A outer s H vs Q E hr h=>?_)
 ·obtain ⟨e,C,W,fI,y,rfl,_⟩:=h
  rfl
 ·obtain ⟨e,C,W,fI,y,rfl,q,c,n,k⟩:=h
  refine ⟨_,(Sx (Joo (pv 0) (pv 1) rfl)),?_⟩
  exact ⟨_,rfl,_,rfl,e,C,W,fI,true,rfl,q,c,n,k⟩
theorem Jrk:Jm2 ["self","thing"] ["self","thing"] (Jm0 (Jm6 (top 6) 0)):=⟨rfl,rfl,rfl,by decide +kernel,rfl,by decide +kernel,by decide +kernel⟩
theorem Juq (T:Tx K mg a):So P w K mg base CX0 1 a.Jgm a.Jgn ["self","thing"] (Jp0 K "thing"):=by
 refine T.Jcl.fn.ok Jrk (λvs H Q E h=>?_) (λcdv A outer s H vs Q E hr h=>?_)
 ·obtain ⟨e,C,W,fI,y,rfl,_⟩:=h
  rfl
 ·obtain ⟨e,C,W,fI,y,rfl,q,c,n,k⟩:=h
  refine ⟨_,(Sx (Joo (pv 0) (pv 1) rfl)),?_⟩
  exact ⟨_,rfl,_,rfl,e,C,W,fI,true,rfl,q,c,n,k⟩
theorem Jvp:Jm2 ["text","signs"] ["text","signs"] (Jm0 (top 16)):=⟨rfl,rfl,rfl,by decide +kernel,rfl,by decide +kernel,by decide +kernel⟩
theorem Jvm (T:Tx K mg a):So P w K mg base CX0 1 a.Jh0 a.Jh1 ["text","signs"] So0:=by
 refine T.J1.fn.ok Jvp (λvs H Q E h=>?_) (λcdv A outer s H vs Q E hr h=>?_)
 ·obtain ⟨z,g,rfl,_⟩:=h
  rfl
 ·obtain ⟨z,g,rfl,hz,k⟩:=h
  refine ⟨_,(Sx (Jm5 (Jm4 (Jq2 rfl) (by rfl) T.Jao Jub (Sj (Jmj (N:=(["sign","signs"]:List Str)) (ini:=[none,some 1]) rfl (Sn5 (pv 0)) (λ_ _ _ _ _=>(Jm3 (i:=0) (by decide +kernel:(["sign","signs"]:List Str).Nodup) rfl (yf rfl))) (λ_ _ _ _ _=>Jmi) (λ_ _ _ _ _=>(Js7 Yag (pv 0) (pv 1) (by with_unfolding_all rfl)))) Sl)))),?_⟩
  refine ⟨_,rfl,z,rfl,λD hD=>?_⟩
  refine Yb8 (z:=z) (D:=D) (λi σ H'=>∃o,σ= [o,some (.str g)]/\H'=upd H D (.lst ((z.cps.toList.take i).map λc=>V.bl (decide (c∈g.cps.toList))))) ?_ ?_ ?_
  ·exact ⟨none,rfl,rfl⟩
  ·rintro i c σ H' hc ⟨o,rfl,rfl⟩
   refine Jn6 ⟨_,rfl,_,rfl,⟨#[c]⟩,g,rfl,rfl,_,Sn,?_,_,rfl,?_⟩
   ·rw [ye,yad,Yl]
    exact Jmn (by omega)
   ·rw [Jne,StrLaws.found_one]
    have e:z.cps.toList[i]?=some c:=by simpa using hc
    rw [yy,e]
    simp
  ·rintro σ H' ⟨o,rfl,rfl⟩
   have e:z.cps.toList.take z.cps.size=z.cps.toList:=yae (by simp)
   refine ⟨D,z.cps.toList.map λc=>decide (c∈g.cps.toList),rfl,Ss.of (by rw [Sn,e,yaq];rfl),?_⟩
   have e2:(z.cps.toList.map λc=>decide (c∈g.cps.toList)).all id=Jvw g z:=by
    unfold Jvw
    rw [List.all_map]
    rfl
   rw [e2]
   exact k _ (Si.upd hD)
theorem Ye3 {H:Hp} {x:V} (h:Tm K H x) (n:∀z,x≠ .str z):∃t,TyX K H x t/\Se K t (.type "str")=some false:=by
 rcases h with ⟨i,rfl⟩|⟨t,ty,ht⟩
 ·exact ⟨_,.of (.int i),rfl⟩
 ·refine ⟨t,ty,?_⟩
  unfold tpB at ht
  simp only [List.contains_cons,List.contains_nil,Bool.or_false,Bool.or_eq_true,beq_iff_eq] at ht
  rcases ht with rfl|rfl|rfl|rfl|rfl|rfl
  ·rfl
  ·obtain ⟨z,e⟩:=Sop ty rfl
   exact absurd e (n z)
  ·rfl
  ·rfl
  ·rfl
  ·rfl
theorem Y1:Jm2 ["thing"] ["thing"] (Jm0 (top 17)):=⟨rfl,rfl,rfl,by decide +kernel,rfl,by decide +kernel,by decide +kernel⟩
theorem Jut (T:Tx K mg a):So P w K mg base CX0 2 a.Jh2 a.Jh3 ["thing"] (So1 K):=by
 have Sfr:=Jvm (P:=P) (w:=w) (base:=base) T
 refine T.J3.fn.ok Y1 (λvs H Q E h=>?_) (λcdv A outer s H vs Q E hr h=>?_)
 ·obtain ⟨x,rfl,_⟩:=h
  rfl
 ·obtain ⟨x,rfl,nm,k⟩:=h
  refine ⟨_,(Su (Jmr (Jmu (Jmx (Jm4 Jo8 (by rfl) T.Jat Jmk (Sj (pv 0) (Sj (Jo0 (v:=.ty "str") (by rfl) T.Jb1 Sm4 rfl) Sl))))) (Sx (Jm5 Jo6)) Jma)
   (Sx (Jm5 (Yc6 (Jyn Jqd Jqd Sr (Jm4 Jwt (by rfl) T.Jau Jnf (Sj (pv 0) Sl)) (Jn7 (by rfl) T.Jad (v:=.int 8) ⟨_,rfl⟩)) (Yc9 (Jlz T.J1 Sfr hr (by decide) (Sj (pv 0) (Sj (Jn7 (by rfl) T.Jac (v:=.str "abcdefghijklmnopqrstuvwxyz") ⟨_,rfl⟩) Sl)))))))),?_⟩
  by_cases hx:∃z,x= .str z
  ·obtain ⟨z,rfl⟩:=hx
   have k:∀H',Si H H'->Q (.bl (Jpq z)) H':=k
   have hz:z.length<=2000:=by have:=(nm.2 z rfl).len;omega
   refine ⟨_,rfl,_,_,_,_,_,rfl,rfl,.of (.str z),(by rfl:Se K (.type "str") (.type "str")=some true),_,rfl,Jn9 ?_⟩
   refine ⟨_,rfl,z,rfl,Jmw _ hz,_,_,rfl,rfl,_,rfl,?_⟩
   have no:¬(1<=z.length/\z.length<=8)->Q (.bl false) H:=λq=>by
    have k':=k H (Si.refl H)
    unfold Jpq at k'
    rw [decide_eq_false q,Bool.false_and] at k'
    exact k'
   by_cases h1:(1:Int)<=(z.length:Int)
   ·rw [decide_eq_true h1]
    refine Joa ⟨_,_,rfl,rfl,_,rfl,?_⟩
    by_cases h2:(z.length:Int)<=8
    ·rw [decide_eq_true h2]
     refine Joa ⟨_,rfl,z,_,rfl,hz,λH' s'=>?_⟩
     have e:Jpq z=Jvw LET z:=by
      unfold Jpq
      rw [decide_eq_true (by omega:1<=z.length/\z.length<=8),Bool.true_and]
     have k':=k H' s'
     rw [e] at k'
     exact k'
    ·rw [decide_eq_false h2]
     exact Jn9 (no (by omega))
   ·rw [decide_eq_false h1]
    exact Jn9 ⟨_,rfl,Jn9 (no (by omega))⟩
  ·obtain ⟨t,ty,e1⟩:=Ye3 nm.1 λz e=>hx ⟨z,e⟩
   have k':=k H (Si.refl H)
   have e:Jol x=false:=by
    cases x with
    |str z=>exact absurd ⟨z,rfl⟩ hx
    |_=>rfl
   rw [e] at k'
   exact ⟨_,rfl,_,_,_,_,_,rfl,rfl,ty,e1,_,rfl,Joa k'⟩
theorem Jro:Jm2 ["thing","low","high"] ["thing","low","high"] (Jm0 (top 65)):=⟨rfl,rfl,rfl,by decide +kernel,rfl,by decide +kernel,by decide +kernel⟩
theorem Jrg (T:Tx K mg a):So P w K mg base (CXX P w) 3 a.Jjm a.Jjn ["thing","low","high"] (Yan K a):=by
 have Sz:=Jnm (P:=P) (w:=w) (base:=base) T
 have Sdd:=Jtp (P:=P) (w:=w) (base:=base) T
 refine T.Jt.fn.okX Jro (λvs H Q E h=>?_) (λcdv A outer s H vs Q E hr h=>?_)
 ·obtain ⟨x,lo,hi,rfl,_⟩:=h
  rfl
 ·obtain ⟨x,lo,hi,rfl,tm,h⟩:=h
  refine ⟨_,(Sx (Jmr (Jmu (Jmx (Jlz T.J0 Sz hr (by decide) (Sj (pv 0) (Sj (pv 1) (Sj (pv 2) Sl)))))) (Sx (Jn0 Jn4 rfl (Jnq T.Jdi Sdd hr (by decide) T.Jck.bd T.Jb7 (Sj (pv 0) Sl)))) Jma)),?_⟩
  refine ⟨_,rfl,_,rfl,_,rfl,x,lo,hi,rfl,tm,_,rfl,?_⟩
  rcases h with ⟨e,k⟩|⟨e,k⟩
  ·rw [e]
   exact Jn9 k
  ·rw [e]
   exact Joa (Jny T.Jdi T.Jey rfl λe dx h1 h2 h3=>k _ _ _ (RfC.new h1 h2 h3))
theorem Jmq {f:Str} {v:V}:∀{fs:List (Str×V)},(fs.map (·.1)).contains f=false->Jn2 f v fs=fs++ [(f,v)]
 | [],_=>rfl
 | (g,x) :: r,h=>by
  rw [yak,List.contains_cons,Bool.or_eq_false_iff] at h
  have ne:¬g=f:=λe=>by
   have:=h.1
   rw [e] at this
   simp at this
  show (if g=f then (g,v)::r else (g,x)::Jn2 f v r)=_
  rw [if_neg ne,Jmq h.2]
  rfl
theorem Jsb:Jm2 ["self","name","low","high","start","rain","gate"] ["self","name","low","high","start","rain","gate"] (Jm0 (Jm6 (top 66) 0)):=⟨rfl,rfl,rfl,by decide +kernel,rfl,by decide +kernel,by decide +kernel⟩
theorem Jvj (T:Tx K mg a):So P w K mg base (CXX P w) 4 a.Jjo a.Jjp ["self","name","low","high","start","rain","gate"] (Yep K a):=by
 have Scu:=Jut (P:=P) (w:=w) (base:=base) T
 have Sap:=Jrg (P:=P) (w:=w) (base:=base) T
 have Sao:=Jq7 (P:=P) (w:=w) (base:=base) T
 have Sa1:=Jo9 (P:=P) (w:=w) (base:=base) T
 refine T.Jdb.fn.okX Jsb (λvs H Q E h=>?_) (λcdv A outer s H vs Q E hr h=>?_)
 ·obtain ⟨p,dx,n,lo,hi,st,rn,g,gb,d,rfl,_⟩:=h
  rfl
 ·obtain ⟨p,dx,n,lo,hi,st,rn,g,gb,d,rfl,hp,nm,tlo,thi,tst,trn,gt,du,k⟩:=h
  refine ⟨?t,?B,?C⟩
  case B=>
   refine' Su (Jmr (Jmu (Jmx (Jlz T.J3 Scu hr (by decide) (Sj (pv 1) Sl)))) (Sx (Jn0 Jn4 rfl (Jnq T.Jdg Sao hr (by decide) T.Jci.bd T.Jb5 (Sj (pv 1) Sl)))) Jma) ?_
   rotate_left
   refine' Su (Jnd (Jox T.Jt Sap Jn4 hr (by decide) (Sj (pv 2) (Sj Sr (Sj (Jn7 (by rfl) T.Jai (v:=.int 12) ⟨_,rfl⟩) Sl))))) ?_
   rotate_left
   refine' Su (Jnd (Jox T.Jt Sap Jn4 hr (by decide) (Sj (pv 3) (Sj (pv 2) (Sj (Jn7 (by rfl) T.Jai (v:=.int 12) ⟨_,rfl⟩) Sl))))) ?_
   rotate_left
   refine' Su (Jnd (Jox T.Jt Sap Jn4 hr (by decide) (Sj (pv 4) (Sj (pv 2) (Sj (pv 3) Sl))))) ?_
   rotate_left
   refine' Su (Jnd (Jox T.Jt Sap Jn4 hr (by decide) (Sj (pv 5) (Sj Sr (Sj (Jn7 (by rfl) T.Jaj (v:=.int 6) ⟨_,rfl⟩) Sl))))) ?_
   rotate_left
   refine' Su (Jmr (Jmu (Jmx (Jm4 Jo8 (by rfl) T.Jat Jmk (Sj (pv 6) (Sj (Jn7 (by rfl) T.Jbg (v:=.ref _) rfl) Sl))))) (Sx (Jn0 Jn4 rfl (Jnq T.Jdh Sa1 hr (by decide) T.Jcj.bd T.Jb6 (Sj (pv 6) Sl)))) Jma) ?_
   rotate_left
   refine' Su (Jmv (pv 0) (pv 1) rfl) ?_
   rotate_left
   refine' Su (Jmv (pv 0) (pv 2) rfl) ?_
   rotate_left
   refine' Su (Jmv (pv 0) (pv 3) rfl) ?_
   rotate_left
   refine' Su (Jmv (pv 0) (pv 4) rfl) ?_
   rotate_left
   refine' Su (Jmv (pv 0) (pv 5) rfl) ?_
   rotate_left
   exact (Sx (Jmv (pv 0) (pv 6) rfl))
  refine ⟨_,rfl,n,rfl,nm,λH1 s1=>⟨_,rfl,?_⟩⟩
  cases du with
  |name e=>
   rw [e]
   exact Joa (Jny T.Jdg T.Jew rfl λe dx h1 h2 h3=>k _ _ _ ((RfC.new h1 h2 h3).of s1))
  |low e1 e2=>
   rw [e1]
   exact Jn9 ⟨_,rfl,lo,0,12,rfl,tlo.same s1,.inr ⟨e2,λc eo H' rf=>k c eo H' (rf.of s1)⟩⟩
  |high l e1 e2 e3 e4=>
   subst e2
   rw [e1]
   refine Jn9 ⟨_,rfl,_,0,12,rfl,tlo.same s1,.inl ⟨e3,?_⟩⟩
   exact ⟨_,rfl,_,rfl,hi,l,12,rfl,thi.same s1,.inr ⟨e4,λc eo H' rf=>k c eo H' (rf.of s1)⟩⟩
  |start l h e1 e2 e3 e4 e5 e6=>
   subst e2 e3
   rw [e1]
   refine Jn9 ⟨_,rfl,_,0,12,rfl,tlo.same s1,.inl ⟨e4,?_⟩⟩
   refine ⟨_,rfl,_,rfl,_,l,12,rfl,thi.same s1,.inl ⟨e5,?_⟩⟩
   exact ⟨_,rfl,_,rfl,_,rfl,st,l,h,rfl,tst.same s1,.inr ⟨e6,λc eo H' rf=>k c eo H' (rf.of s1)⟩⟩
  |rain l h e1 e2 e3 e4 e5 e6 e7=>
   subst e2 e3
   rw [e1]
   refine Jn9 ⟨_,rfl,_,0,12,rfl,tlo.same s1,.inl ⟨e4,?_⟩⟩
   refine ⟨_,rfl,_,rfl,_,l,12,rfl,thi.same s1,.inl ⟨e5,?_⟩⟩
   refine ⟨_,rfl,_,rfl,_,rfl,st,l,h,rfl,tst.same s1,.inl ⟨e6,?_⟩⟩
   exact ⟨_,rfl,rn,0,6,rfl,trn.same s1,.inr ⟨e7,λc eo H' rf=>k c eo H' (rf.of s1)⟩⟩
  |gate l h e1 e2 e3 e4 e5 e6 e7 e8=>
   subst e2 e3 e8
   obtain ⟨t,ty,g1,g2,g3⟩:=gt
   rw [e1]
   refine Jn9 ⟨_,rfl,_,0,12,rfl,tlo.same s1,.inl ⟨e4,?_⟩⟩
   refine ⟨_,rfl,_,rfl,_,l,12,rfl,thi.same s1,.inl ⟨e5,?_⟩⟩
   refine ⟨_,rfl,_,rfl,_,rfl,st,l,h,rfl,tst.same s1,.inl ⟨e6,?_⟩⟩
   refine ⟨_,rfl,rn,0,6,rfl,trn.same s1,.inl ⟨e7,?_⟩⟩
   exact ⟨_,rfl,g,_,_,t,_,rfl,rfl,Jxv s1 ty,g1,_,rfl,Joa (Jny T.Jdh T.Jex rfl λe dx h1 h2 h3=>k _ _ _ ((RfC.new h1 h2 h3).of s1))⟩
  |good l h e1 e2 e3 e4 e5 e6 e7 e8=>
   subst e2 e3 e8
   obtain ⟨t,ty,g1,g2,g3⟩:=gt
   rw [e1]
   refine Jn9 ⟨_,rfl,_,0,12,rfl,tlo.same s1,.inl ⟨e4,?_⟩⟩
   refine ⟨_,rfl,_,rfl,_,l,12,rfl,thi.same s1,.inl ⟨e5,?_⟩⟩
   refine ⟨_,rfl,_,rfl,_,rfl,st,l,h,rfl,tst.same s1,.inl ⟨e6,?_⟩⟩
   refine ⟨_,rfl,rn,0,6,rfl,trn.same s1,.inl ⟨e7,?_⟩⟩
   refine ⟨_,rfl,g,_,_,t,_,rfl,rfl,Jxv s1 ty,g1,_,rfl,Jn9 ?_⟩
   refine ⟨_,rfl,_,rfl,p,_,dx,[],rfl,s1 _ _ hp,T.Jen,T.Jfl,by simp,?_⟩
   rw [show Jn2 "name" n []=([("name",n)]:List (Str×V)) from rfl]
   refine ⟨_,rfl,_,rfl,p,_,dx,_,rfl,Sn,T.Jen,T.Jfm,by simp,?_⟩
   rw [show Jn2 "low" (.int l) [("name",n)]=([("name",n),("low",(.int l))]:List (Str×V)) from Jmq (fs:=[("name",n)]) (show (["name"]:List Str).contains "low" =false by decide +kernel)]
   refine ⟨_,rfl,_,rfl,p,_,dx,_,rfl,Sn,T.Jen,T.Jfn,by simp,?_⟩
   rw [show Jn2 "high" (.int h) [("name",n),("low",.int l)]=([("name",n),("low",.int l),("high",(.int h))]:List (Str×V)) from Jmq (fs:=[("name",n),("low",.int l)]) (show (["name","low"]:List Str).contains "high" =false by decide +kernel)]
   refine ⟨_,rfl,_,rfl,p,_,dx,_,rfl,Sn,T.Jen,T.Jfo,by simp,?_⟩
   rw [show Jn2 "start" st [("name",n),("low",.int l),("high",.int h)]=([("name",n),("low",.int l),("high",.int h),("start",st)]:List (Str×V)) from Jmq (fs:=[("name",n),("low",.int l),("high",.int h)]) (show (["name","low","high"]:List Str).contains "start" =false by decide +kernel)]
   refine ⟨_,rfl,_,rfl,p,_,dx,_,rfl,Sn,T.Jen,T.Jfp,by simp,?_⟩
   rw [show Jn2 "rain" rn [("name",n),("low",.int l),("high",.int h),("start",st)]=([("name",n),("low",.int l),("high",.int h),("start",st),("rain",rn)]:List (Str×V)) from Jmq (fs:=[("name",n),("low",.int l),("high",.int h),("start",st)]) (show (["name","low","high","start"]:List Str).contains "rain" =false by decide +kernel)]
   refine ⟨_,rfl,_,rfl,p,_,dx,_,rfl,Sn,T.Jen,T.Jfq,by simp,?_⟩
   rw [show Jn2 "gate" g [("name",n),("low",.int l),("high",.int h),("start",st),("rain",rn)]=([("name",n),("low",.int l),("high",.int h),("start",st),("rain",rn),("gate",g)]:List (Str×V)) from Jmq (fs:=[("name",n),("low",.int l),("high",.int h),("start",st),("rain",rn)]) (show (["name","low","high","start","rain"]:List Str).contains "gate" =false by decide +kernel)]
   show Q .non _
   simp only [Jne]
   exact k _ s1
theorem Jt2:Jm2 ["self","name","basin","want"] ["self","name","basin","want"] (Jm0 (Jm6 (top 67) 0)):=⟨rfl,rfl,rfl,by decide +kernel,rfl,by decide +kernel,by decide +kernel⟩
theorem Jx5 (T:Tx K mg a):So P w K mg base (CXX P w) 4 a.Jjq a.Jjr ["self","name","basin","want"] (So8 K a):=by
 have Scu:=Jut (P:=P) (w:=w) (base:=base) T
 have Sz:=Jnm (P:=P) (w:=w) (base:=base) T
 have Sao:=Jq7 (P:=P) (w:=w) (base:=base) T
 have Sdn:=Juq (P:=P) (w:=w) (base:=base) T
 refine T.Jdc.fn.okX Jt2 (λvs H Q E h=>?_) (λcdv A outer s H vs Q E hr h=>?_)
 ·obtain ⟨p,dx,n,b,wt,d,rfl,_⟩:=h
  rfl
 ·obtain ⟨p,dx,n,b,wt,d,rfl,hp,nm,nb,tw,du,k⟩:=h
  refine ⟨?t,?B,?C⟩
  case B=>
   refine' Su (Jmr (Jmu (Jmx (Jlz T.J3 Scu hr (by decide) (Sj (pv 1) Sl)))) (Sx (Jn0 Jn4 rfl (Jnq T.Jdg Sao hr (by decide) T.Jci.bd T.Jb5 (Sj (pv 1) Sl)))) Jma) ?_
   rotate_left
   refine' Su (Jmr (Jmu (Jmx (Jlz T.J3 Scu hr (by decide) (Sj (pv 2) Sl)))) (Sx (Jn0 Jn4 rfl (Jnq T.Jdg Sao hr (by decide) T.Jci.bd T.Jb5 (Sj (pv 2) Sl)))) Jma) ?_
   rotate_left
   refine' Su (Jmr (Jmu (Jmx (Jlz T.J0 Sz hr (by decide) (Sj (pv 3) (Sj Sr (Sj (Jn7 (by rfl) T.Jak (v:=.int 6) ⟨_,rfl⟩) Sl)))))) (Sx (Jn0 Jn4 rfl (Jnq T.Jdj Sdn hr (by decide) T.Jcl.bd T.Jb8 (Sj (pv 3) Sl)))) Jma) ?_
   rotate_left
   refine' Su (Jmv (pv 0) (pv 1) rfl) ?_
   rotate_left
   refine' Su (Jmv (pv 0) (pv 2) rfl) ?_
   rotate_left
   exact (Sx (Jmv (pv 0) (pv 3) rfl))
  refine ⟨_,rfl,n,rfl,nm,λH1 s1=>⟨_,rfl,?_⟩⟩
  cases du with
  |name e=>
   rw [e]
   exact Joa (Jny T.Jdg T.Jew rfl λe dx h1 h2 h3=>k _ _ _ ((RfC.new h1 h2 h3).of s1))
  |basin e1 e2=>
   rw [e1]
   refine Jn9 ⟨_,rfl,b,rfl,nb.same s1,λH2 s2=>⟨_,rfl,?_⟩⟩
   rw [e2]
   exact Joa (Jny T.Jdg T.Jew rfl λe dx h1 h2 h3=>k _ _ _ ((RfC.new h1 h2 h3).of (s1.trans s2)))
  |want e1 e2 e3=>
   rw [e1]
   refine Jn9 ⟨_,rfl,b,rfl,nb.same s1,λH2 s2=>⟨_,rfl,?_⟩⟩
   rw [e2]
   refine Jn9 ⟨_,rfl,wt,1,6,rfl,tw.same (s1.trans s2),_,rfl,?_⟩
   rw [e3]
   exact Joa (Jny T.Jdj T.Jez rfl λe dx h1 h2 h3=>k _ _ _ ((RfC.new h1 h2 h3).of (s1.trans s2)))
  |good e1 e2 e3=>
   rw [e1]
   refine Jn9 ⟨_,rfl,b,rfl,nb.same s1,λH2 s2=>⟨_,rfl,?_⟩⟩
   rw [e2]
   refine Jn9 ⟨_,rfl,wt,1,6,rfl,tw.same (s1.trans s2),_,rfl,?_⟩
   rw [e3]
   refine Jn9 ⟨_,rfl,_,rfl,p,_,dx,[],rfl,s2 _ _ (s1 _ _ hp),T.Jeq,T.Jfr,by simp,?_⟩
   rw [show Jn2 "name" n []=([("name",n)]:List (Str×V)) from rfl]
   refine ⟨_,rfl,_,rfl,p,_,dx,_,rfl,Sn,T.Jeq,T.Jfs,by simp,?_⟩
   rw [show Jn2 "basin" b [("name",n)]=([("name",n),("basin",b)]:List (Str×V)) from Jmq (fs:=[("name",n)]) (show (["name"]:List Str).contains "basin" =false by decide +kernel)]
   refine ⟨_,rfl,_,rfl,p,_,dx,_,rfl,Sn,T.Jeq,T.Jft,by simp,?_⟩
   rw [show Jn2 "want" wt [("name",n),("basin",b)]=([("name",n),("basin",b),("want",wt)]:List (Str×V)) from Jmq (fs:=[("name",n),("basin",b)]) (show (["name","basin"]:List Str).contains "want" =false by decide +kernel)]
   show Q .non _
   simp only [Jne]
   exact k _ (s1.trans s2)
theorem ifF {b:Bool} {A B:Prop} (h:b=false) (k:B):if b=true then A else B:=by rw [h];exact Jn9 k
theorem ifT {b:Bool} {A B:Prop} (h:b=true) (k:A):if b=true then A else B:=by rw [h];exact Joa k
theorem Jvo:Jm2 ["names"] ["names"] (Jm0 (top 68)):=⟨rfl,rfl,rfl,by decide +kernel,rfl,by decide +kernel,by decide +kernel⟩
theorem Jr6 (T:Tx K mg a):So P w K mg base CX0 1 a.Jjs a.Jjt ["names"] (Yd7 K):=by
 refine T.Ju.fn.ok Jvo (λvs H Q E h=>?_) (λcdv A outer s H vs Q E hr h=>?_)
 ·obtain ⟨l,zs,rfl,_⟩:=h
  rfl
 ·obtain ⟨l,zs,rfl,hq,hz,k⟩:=h
  refine ⟨_,(Sx (Jm5 (Js7 Jr8 (Jm4 Jue (by rfl) T.Jau Jnf (Sj (Jmf (Juf rfl) (by rfl) T.Jb0 Sm3 (Sj (pv 0) Sl)) Sl)) (Jm4 Jmd (by rfl) T.Jau Jnf (Sj (pv 0) Sl)) (Jmy _)))),?_⟩
  refine ⟨_,rfl,l,zs,rfl,hq,hz,λt ht=>⟨t,zs,rfl,Sn,?_⟩⟩
  have s1:=Si.upd (o:=TxS P w t zs) ht
  refine ⟨_,rfl,l,_,rfl,.inl (s1.seq hq),rfl,?_⟩
  have e:decide (V.int ((uq zs).length:Nat)=V.int ((zs.map V.str).length:Nat))=decide ((uq zs).length=zs.length):=by
   rw [ye]
   by_cases h:(uq zs).length=zs.length
   ·rw [decide_eq_true h,decide_eq_true (by rw [h])]
   ·rw [decide_eq_false h,decide_eq_false (λq=>h (by have:=V.int.inj q;omega))]
  rw [e]
  exact k _ s1
theorem Jvn:Jm2 ["thing"] ["thing"] (Jm0 (top 69)):=⟨rfl,rfl,rfl,by decide +kernel,rfl,by decide +kernel,by decide +kernel⟩
theorem Jvl (T:Tx K mg a):So P w K mg base CX0 2 a.Jju a.Jjv ["thing"] (Ycw K a):=by
 have Scl:=Jr6 (P:=P) (w:=w) (base:=base) T
 refine T.Jv.fn.ok Jvn (λvs H Q E h=>?_) (λcdv A outer s H vs Q E hr h=>?_)
 ·obtain ⟨l,os,Bs,rfl,_⟩:=h
  rfl
 ·obtain ⟨l,os,Bs,rfl,hl,bl,hn,nd,k⟩:=h
  have len:=bl.len
  refine ⟨?t,?B,?C⟩
  case B=>
   refine' Su ?O0 ?O1
   case O0=>
    refine' Jmr ?O2 ?O3 ?O4
    case O2=>exact (PW.pt (Jtl (Jmu (Jmx (Jm4 Jud (by rfl) T.Jat Jmk (Sj (pv 0) (Sj (Jn1 (Sj (Jo0 (v:=.ty "list") (by rfl) T.Jav Jni rfl) (Sj (Jo0 (v:=.ty "tuple") (by rfl) T.Jb3 Jnw rfl) Sl))) Sl))))) (Jt1 (Jmu (Jv5 Jqd Jqd Sr (Jm4 Jmd (by rfl) T.Jau Jnf (Sj (pv 0) Sl)) (Jn7 (by rfl) T.Jam (v:=.int 16) ⟨_,rfl⟩))))))
    case O3=>
     refine' Sx ?O5
     case O5=>exact (Jm5 Jo6)
    case O4=>exact Jma
   case O1=>
   refine' Su ?O6 ?O7
   case O6=>
    refine' Jmr ?O8 ?O9 ?Oa
    case O8=>exact (Jmu (Jmx (Jm4 (Jq2 rfl) (by rfl) T.Jao Jub (Sj (Jmj (N:=(["basin"]:List Str)) (ini:=[none]) rfl (Jml (pv 0)) (λ_ _ _ _ _=>(Jm3 (i:=0) (by decide +kernel:(["basin"]:List Str).Nodup) rfl (yf rfl))) (λ_ _ _ _ _=>Jmi) (λ_ _ _ _ _=>(Jm4 (Jw2 (K:=K) rfl) (by rfl) T.Jat Jmk (Sj (pv 0) (Sj (Jn7 (by rfl) T.Jbl (v:=.ref _) rfl) Sl))))) Sl))))
    case O9=>
     refine' Sx ?Ob
     case Ob=>exact (Jm5 Jo6)
    case Oa=>exact Jma
   case O7=>
   refine' Sx ?Oc
   case Oc=>exact (Jm5 (Jlz T.Ju Scl hr (by decide) (Sj (Jmj (N:=(["basin"]:List Str)) (ini:=[none]) rfl (Jml (pv 0)) (λ_ _ _ _ _=>(Jm3 (i:=0) (by decide +kernel:(["basin"]:List Str).Nodup) rfl (yf rfl))) (λ_ _ _ _ _=>Jmi) (λ_ _ _ _ _=>(Jo1 (K:=K) rfl (pv 0) (by rfl)))) Sl)))
  refine ⟨_,rfl,(show 2<=S6 by decide),λp hp=>⟨_,p,_,_,.type "list",true,rfl,Sn,rfl,.of (.lst (Si.upd hp _ _ hl)),rfl,_,rfl,Jn9 ?_⟩⟩
  have s1:=Si.upd (o:=.tup [.ty "list",.ty "tuple"]) hp
  refine ⟨_,rfl,l,_,rfl,.inl (Ss.of (s1 _ _ hl)),_,_,rfl,rfl,_,rfl,ifT (by rw [ye];simp;omega) ⟨_,_,rfl,rfl,_,rfl,ifF (by rw [ye];simp;omega) ?_⟩⟩
  refine ⟨_,rfl,l,rfl,⟨_,Ss.of (s1 _ _ hl)⟩,λD hD=>?_⟩
  refine Jnk (K:=K) (a:=l) (xs:=os.map V.ref) (D:=D) (λi σ H'=>∃o,σ= [o]/\H' D=some (.lst ((yax i true).map V.bl))/\Si (upd H p (.tup [.ty "list",.ty "tuple"])) H') ⟨_,rfl,Sn,Si.upd hD⟩ (λi σ H' _ ⟨o,_,_,sm⟩=>Ss.of (sm _ _ (s1 _ _ hl))) ?_ ?_
  ·rintro i v σ H' hv ⟨o,rfl,hDs,sm⟩
   obtain ⟨ob,B,rfl,hB,dx,hb,gs⟩:=(bl.same (s1.trans sm)).get hv
   have hi:i < os.length:=by have:=(yi.mp hv).1;rwa [ye] at this
   refine Jn6 ⟨_,rfl,_,_,_,_,true,rfl,rfl,.of (T.Jeo.ty T.Jen hb),T.Jg2,_,hDs,?_,_,rfl,?_,λc o z=>?_⟩
   ·rw [ye,ych]
    exact Jmn (by omega)
   ·rw [Sn,List.replicate_succ',yag]
    rfl
   ·rw [Sw (Jm1 z hD)]
    exact sm _ _ z
  rintro σ H1 ⟨o,rfl,hDs,sm⟩
  refine ⟨D,_,rfl,Ss.of hDs,_,rfl,ifF (by simp) ?_⟩
  have s2:=s1.trans sm
  refine ⟨_,rfl,l,rfl,⟨_,Ss.of (s2 _ _ hl)⟩,λD2 hD2=>?_⟩
  refine Jnk (K:=K) (a:=l) (xs:=os.map V.ref) (D:=D2) (λi σ H'=>∃o,σ= [o]/\H' D2=some (.lst (((Bs.take i).map (·.z)).map V.str))/\Si H1 H') ⟨_,rfl,Sn,Si.upd hD2⟩ (λi σ H' _ ⟨o,_,_,sm⟩=>Ss.of (sm _ _ (s2 _ _ hl))) ?_ ?_
  ·rintro i v σ H' hv ⟨o,rfl,hDs,sm3⟩
   obtain ⟨ob,B,rfl,hB,dx,hb,gs⟩:=(bl.same (s2.trans sm3)).get hv
   refine Jn6 ⟨_,rfl,ob,_,dx,_,_,rfl,hb,T.Jen,T.Jfl,rfl,_,hDs,?_,_,rfl,?_,λc o z=>?_⟩
   ·rw [ye,ye,yad]
    exact Jmn (by omega)
   ·rw [Sn,yy,hB]
    simp
   ·rw [Sw (Jm1 z hD2)]
    exact sm3 _ _ z
  rintro σ H2 ⟨o,rfl,hDs,sm3⟩
  rw [ye,yae (by omega)] at hDs
  refine ⟨D2,Bs.map (·.z),rfl,Ss.of hDs,by rw [ye];omega,λH3 s3=>?_⟩
  rw [Jz0 nd,decide_eq_true rfl]
  exact k _ ((s2.trans sm3).trans s3)
theorem Sds:Jm2 ["thing","basins","names"] ["thing","basins"] (Jm0 (top 70)):=⟨rfl,rfl,rfl,by decide +kernel,rfl,by decide +kernel,by decide +kernel⟩
theorem Jx8 (T:Tx K mg a):So P w K mg base CX0 2 a.Jjw a.Jjx ["thing","basins"] (Yf2 K a):=by
 have Scl:=Jr6 (P:=P) (w:=w) (base:=base) T
 refine T.Jw.fn.ok Sds (λvs H Q E h=>?_) (λcdv A outer s H vs Q E hr h=>?_)
 ·obtain ⟨l,m,os,ts,Bs,Ts,rfl,_⟩:=h
  rfl
 ·obtain ⟨l,m,os,ts,Bs,Ts,rfl,hl,bl,hn,hm,tl,tn,nd,inn,k⟩:=h
  have len:=bl.len
  have tlen:=tl.len
  refine ⟨?t,?B,?C⟩
  case B=>
   refine' Su ?O0 ?O1
   case O0=>
    refine' Jmr ?O2 ?O3 ?O4
    case O2=>exact (PW.pt (Jtl (Jmu (Jmx (Jm4 Jud (by rfl) T.Jat Jmk (Sj (pv 0) (Sj (Jn1 (Sj (Jo0 (v:=.ty "list") (by rfl) T.Jav Jni rfl) (Sj (Jo0 (v:=.ty "tuple") (by rfl) T.Jb3 Jnw rfl) Sl))) Sl))))) (Jt1 (Jmp Jwk (Jm4 Jmd (by rfl) T.Jau Jnf (Sj (pv 0) Sl)) (Jn7 (by rfl) T.Jan (v:=.int 3) ⟨_,rfl⟩) (Jmy _)))))
    case O3=>
     refine' Sx ?O5
     case O5=>exact (Jm5 Jo6)
    case O4=>exact Jma
   case O1=>
   refine' Su ?O6 ?O7
   case O6=>
    refine' Jmr ?O8 ?O9 ?Oa
    case O8=>exact (Jmu (Jmx (Jm4 (Jq2 rfl) (by rfl) T.Jao Jub (Sj (Jmj (N:=(["town"]:List Str)) (ini:=[none]) rfl (Jml (pv 0)) (λ_ _ _ _ _=>(Jm3 (i:=0) (by decide +kernel:(["town"]:List Str).Nodup) rfl (yf rfl))) (λ_ _ _ _ _=>Jmi) (λ_ _ _ _ _=>(Jm4 (Jw2 (K:=K) rfl) (by rfl) T.Jat Jmk (Sj (pv 0) (Sj (Jn7 (by rfl) T.Jbm (v:=.ref _) rfl) Sl))))) Sl))))
    case O9=>
     refine' Sx ?Ob
     case Ob=>exact (Jm5 Jo6)
    case Oa=>exact Jma
   case O7=>
   refine' Su ?Oc ?Od
   case Oc=>exact (Jm7 (i:=2) Sds.nd rfl (yal rfl) (Jmj (N:=(["basin"]:List Str)) (ini:=[none]) rfl (Jml (pv 1)) (λ_ _ _ _ _=>(Jm3 (i:=0) (by decide +kernel:(["basin"]:List Str).Nodup) rfl (yf rfl))) (λ_ _ _ _ _=>Jmi) (λ_ _ _ _ _=>(Jo1 (K:=K) rfl (pv 0) (by rfl)))))
   case Od=>
   refine' Sx ?Oe
   case Oe=>exact (Jm5 (Yc6 (Jlz T.Ju Scl hr (by decide) (Sj (Jmj (N:=(["town"]:List Str)) (ini:=[none]) rfl (Jml (pv 0)) (λ_ _ _ _ _=>(Jm3 (i:=0) (by decide +kernel:(["town"]:List Str).Nodup) rfl (yf rfl))) (λ_ _ _ _ _=>Jmi) (λ_ _ _ _ _=>(Jo1 (K:=K) rfl (pv 0) (by rfl)))) Sl)) (Yc9 (Jm4 (Jq2 rfl) (by rfl) T.Jao Jub (Sj (Jmj (N:=(["town","names"]:List Str)) (ini:=[none,some 2]) rfl (Jml (pv 0)) (λ_ _ _ _ _=>(Jm3 (i:=0) (by decide +kernel:(["town","names"]:List Str).Nodup) rfl (yf rfl))) (λ_ _ _ _ _=>Jmi) (λ_ _ _ _ _=>(Js7 (Jzp (K:=K) rfl) (Jo1 (K:=K) rfl (pv 0) (by rfl)) (pv 1) (by with_unfolding_all rfl)))) Sl)))))
  refine ⟨_,rfl,(show 2<=S6 by decide),λp hp=>⟨_,p,_,_,.type "list",true,rfl,Sn,rfl,.of (.lst (Si.upd hp _ _ hm)),rfl,_,rfl,Jn9 ?_⟩⟩
  have s1:=Si.upd (o:=.tup [.ty "list",.ty "tuple"]) hp
  refine ⟨_,rfl,m,_,rfl,.inl (Ss.of (s1 _ _ hm)),_,_,rfl,rfl,_,rfl,ifF (by rw [ye];simp;omega) ?_⟩
  refine ⟨_,rfl,m,rfl,⟨_,Ss.of (s1 _ _ hm)⟩,λD hD=>?_⟩
  refine Jnk (K:=K) (a:=m) (xs:=ts.map V.ref) (D:=D) (λi σ H'=>∃o,σ= [o]/\H' D=some (.lst ((yax i true).map V.bl))/\Si (upd H p (.tup [.ty "list",.ty "tuple"])) H') ⟨_,rfl,Sn,Si.upd hD⟩ (λi σ H' _ ⟨o,_,_,sm⟩=>Ss.of (sm _ _ (s1 _ _ hm))) ?_ ?_
  ·rintro i v σ H' hv ⟨o,rfl,hDs,sm⟩
   obtain ⟨ob,B,rfl,hB,dx,hb⟩:=(tl.same (s1.trans sm)).get hv
   have hi:i < ts.length:=by have:=(yi.mp hv).1;rwa [ye] at this
   refine Jn6 ⟨_,rfl,_,_,_,_,true,rfl,rfl,.of (T.Jer.ty T.Jeq hb),T.Jg3,_,hDs,?_,_,rfl,?_,λc o z=>?_⟩
   ·rw [ye,ych]
    exact Jmn (by omega)
   ·rw [Sn,List.replicate_succ',yag]
    rfl
   ·rw [Sw (Jm1 z hD)]
    exact sm _ _ z
  rintro σ H1 ⟨o,rfl,hDs,sm⟩
  refine ⟨D,_,rfl,Ss.of hDs,_,rfl,ifF (by simp) ?_⟩
  have s2:=s1.trans sm
  refine ⟨_,rfl,l,rfl,⟨_,Ss.of (s2 _ _ hl)⟩,λD2 hD2=>?_⟩
  refine Jnk (K:=K) (a:=l) (xs:=os.map V.ref) (D:=D2) (λi σ H'=>∃o,σ= [o]/\H' D2=some (.lst (((Bs.take i).map (·.z)).map V.str))/\Si H1 H') ⟨_,rfl,Sn,Si.upd hD2⟩ (λi σ H' _ ⟨o,_,_,sm⟩=>Ss.of (sm _ _ (s2 _ _ hl))) ?_ ?_
  ·rintro i v σ H' hv ⟨o,rfl,hDs,sm3⟩
   obtain ⟨ob,B,rfl,hB,dx,hb,gs⟩:=(bl.same (s2.trans sm3)).get hv
   refine Jn6 ⟨_,rfl,ob,_,dx,_,_,rfl,hb,T.Jen,T.Jfl,rfl,_,hDs,?_,_,rfl,?_,λc o z=>?_⟩
   ·rw [ye,ye,yad]
    exact Jmn (by omega)
   ·rw [Sn,yy,hB]
    simp
   ·rw [Sw (Jm1 z hD2)]
    exact sm3 _ _ z
  rintro σ H2 ⟨o,rfl,hD2s,sm3⟩
  rw [ye,yae (by omega)] at hD2s
  have s3:=s2.trans sm3
  refine ⟨_,rfl,m,rfl,⟨_,Ss.of (s3 _ _ hm)⟩,λD3 hD3=>?_⟩
  refine Jnk (K:=K) (a:=m) (xs:=ts.map V.ref) (D:=D3) (λi σ H'=>∃o,σ= [o]/\H' D3=some (.lst (((Ts.take i).map (·.z)).map V.str))/\Si H2 H') ⟨_,rfl,Sn,Si.upd hD3⟩ (λi σ H' _ ⟨o,_,_,sm⟩=>Ss.of (sm _ _ (s3 _ _ hm))) ?_ ?_
  ·rintro i v σ H' hv ⟨o,rfl,hDs,sm4⟩
   obtain ⟨ob,B,rfl,hB,dx,hb⟩:=(tl.same (s3.trans sm4)).get hv
   refine Jn6 ⟨_,rfl,ob,_,dx,_,_,rfl,hb,T.Jeq,T.Jfr,rfl,_,hDs,?_,_,rfl,?_,λc o z=>?_⟩
   ·rw [ye,ye,yad]
    exact Jmn (by omega)
   ·rw [Sn,yy,hB]
    simp
   ·rw [Sw (Jm1 z hD3)]
    exact sm4 _ _ z
  rintro σ H3 ⟨o,rfl,hD3s,sm4⟩
  rw [ye,yae (by omega)] at hD3s
  refine ⟨D3,Ts.map (·.z),rfl,Ss.of hD3s,by rw [ye];omega,λH4 s4=>⟨_,rfl,ifT (by rw [Jz0 nd,decide_eq_true rfl]) ?_⟩⟩
  have s5:=(s3.trans sm4).trans s4
  have hD24:=s4 _ _ (sm4 _ _ hD2s)
  refine ⟨_,rfl,m,rfl,⟨_,Ss.of (s5 _ _ hm)⟩,λD4 hD4=>?_⟩
  refine Jnk (K:=K) (a:=m) (xs:=ts.map V.ref) (D:=D4) (λi σ H'=>∃o,σ= [o,some (.ref D2)]/\H' D4=some (.lst ((yax i true).map V.bl))/\Si H4 H') ⟨_,rfl,Sn,Si.upd hD4⟩ (λi σ H' _ ⟨o,_,_,sm⟩=>Ss.of (sm _ _ (s5 _ _ hm))) ?_ ?_
  ·rintro i v σ H' hv ⟨o,rfl,hDs,sm6⟩
   obtain ⟨ob,B,rfl,hB,dx,hb⟩:=(tl.same (s5.trans sm6)).get hv
   have hi:i < ts.length:=by have:=(yi.mp hv).1;rwa [ye] at this
   refine Jn6 ⟨_,rfl,ob,_,dx,_,_,rfl,hb,T.Jeq,T.Jfs,rfl,_,rfl,D2,_,rfl,.inl (Ss.of (sm6 _ _ hD24)),rfl,by simp [Jrv],?_⟩
   have e:inV (V.str B.b) ((Bs.map (·.z)).map V.str)=true:=by
    obtain ⟨z,hz,ez⟩:=yo.mp (inn B (yr hB))
    unfold inV
    refine List.any_eq_true.mpr ⟨V.str z.z,yo.mpr ⟨z.z,yo.mpr ⟨z,hz,rfl⟩,rfl⟩,?_⟩
    simp [eqV,ez]
   show ∃ys,_
   rw [if_neg yaj,e]
   refine ⟨_,hDs,?_,_,rfl,?_,λc o z=>?_⟩
   ·rw [ye,ych]
    exact Jmn (by omega)
   ·rw [Sn,List.replicate_succ',yag]
    rfl
   ·rw [Sw (Jm1 z hD4)]
    exact sm6 _ _ z
  rintro σ H5 ⟨o,rfl,hD4s,sm6⟩
  refine ⟨D4,_,rfl,Ss.of hD4s,?_⟩
  rw [show (yax (ts.map V.ref).length true).all id=true by simp]
  exact k _ (s5.trans sm6)
theorem Jr0:Jm2 ["self","thing"] ["self","thing"] (Jm0 (Jm6 (top 7) 0)):=⟨rfl,rfl,rfl,by decide +kernel,rfl,by decide +kernel,by decide +kernel⟩
theorem Jtq (T:Tx K mg a):So P w K mg base CX0 1 a.Jgo a.Jgp ["self","thing"] (Jp0 K "thing"):=by
 refine T.Jcm.fn.ok Jr0 (λvs H Q E h=>?_) (λcdv A outer s H vs Q E hr h=>?_)
 ·obtain ⟨e,C,W,fI,y,rfl,_⟩:=h
  rfl
 ·obtain ⟨e,C,W,fI,y,rfl,q,c,n,k⟩:=h
  refine ⟨_,(Sx (Joo (pv 0) (pv 1) rfl)),?_⟩
  exact ⟨_,rfl,_,rfl,e,C,W,fI,true,rfl,q,c,n,k⟩
theorem Jr1:Jm2 ["self","thing"] ["self","thing"] (Jm0 (Jm6 (top 8) 0)):=⟨rfl,rfl,rfl,by decide +kernel,rfl,by decide +kernel,by decide +kernel⟩
theorem Jtr (T:Tx K mg a):So P w K mg base CX0 1 a.Jgq a.Jgr ["self","thing"] (Jp0 K "thing"):=by
 refine T.Jcn.fn.ok Jr1 (λvs H Q E h=>?_) (λcdv A outer s H vs Q E hr h=>?_)
 ·obtain ⟨e,C,W,fI,y,rfl,_⟩:=h
  rfl
 ·obtain ⟨e,C,W,fI,y,rfl,q,c,n,k⟩:=h
  refine ⟨_,(Sx (Joo (pv 0) (pv 1) rfl)),?_⟩
  exact ⟨_,rfl,_,rfl,e,C,W,fI,true,rfl,q,c,n,k⟩
theorem Jyz {H:Hp} {p q:S1} {o u:HO} (h:p≠q):upd (upd H p o) q u=upd (upd H q u) p o:=by
 funext c
 by_cases h1:c=p
 ·subst h1
  rw [Sn,Sw h,Sn]
 ·rw [Sw h1]
  by_cases h2:c=q
  ·subst h2
   rw [Sn,Sn]
  ·rw [Sw h2,Sw h2,Sw h1]
def Sjp (c g b t:V):List (Str×V):=[("cloud",c),("gain",g),("basins",b),("towns",t)]
inductive Yez (K:Sd) (a:Ad) (vs:List V) (H:Hp) (Q:VK) (z3:XK):Prop where
 |mk (p dx l m:S1) (c g:Int) (os ts:List S1) (Bs:List Bsn) (Ts:List Twn) (_:vs= [.ref p,.int c,.int g,.ref l,.ref m]) (_:H p=some (.ins a.Jlr dx [])) (_:(0<=c/\c<=12)) (_:(0<=g/\g<=c)) (_:H l=some (.lst (os.map V.ref))) (_:Sbs K a H os Bs) (_:(1<=Bs.length/\Bs.length<=16)) (_:(Bs.map (·.z)).Nodup) (_:H m=some (.lst (ts.map V.ref))) (_:Sbz a H ts Ts) (_:Ts.length<=3) (_:(Ts.map (·.z)).Nodup) (_:(∀t∈Ts,t.b∈Bs.map (·.z))) (_:∀H' b t,Si H H'->H' b=some (.tup (os.map V.ref))->H' t=some (.tup (ts.map V.ref))->b≠p->t≠p->Q .non (upd H' p (.ins a.Jlr dx (Sjp (.int c) (.int g) (.ref b) (.ref t)))))
theorem Jp1 {i lo hi:Int} (h1:lo<=i) (h2:i<=hi):Jmm (.int i) lo hi=true:=by
 show (decide (lo<=i)&&decide (i<=hi))=true
 rw [decide_eq_true h1,decide_eq_true h2]
 rfl
theorem Jsc:Jm2 ["self","cloud","gain","basins","towns"] ["self","cloud","gain","basins","towns"] (Jm0 (Jm6 (top 71) 0)):=⟨rfl,rfl,rfl,by decide +kernel,rfl,by decide +kernel,by decide +kernel⟩
theorem Jvk (T:Tx K mg a):So P w K mg base (CXX P w) 4 a.Jjy a.Jjz ["self","cloud","gain","basins","towns"] (Yez K a):=by
 have Sz:=Jnm (P:=P) (w:=w) (base:=base) T
 have Sfq:=Jvl (P:=P) (w:=w) (base:=base) T
 have Sga:=Jx8 (P:=P) (w:=w) (base:=base) T
 have Sbt:=Jtq (P:=P) (w:=w) (base:=base) T
 have Sbu:=Jtr (P:=P) (w:=w) (base:=base) T
 refine T.Jdd.fn.okX Jsc (λvs H Q E h=>?_) (λcdv A outer s H vs Q E hr h=>?_)
 ·obtain ⟨p,dx,l,m,c,g,os,ts,Bs,Ts,rfl,_⟩:=h
  rfl
 ·obtain ⟨p,dx,l,m,c,g,os,ts,Bs,Ts,rfl,hp,hc,hg,hl,bl,hn,nd,hm,tl,tn,tnd,inn,k⟩:=h
  refine ⟨?t,?B,?C⟩
  case B=>
   refine' Su ?O0 ?O1
   case O0=>
    refine' Jmr ?O2 ?O3 ?O4
    case O2=>exact (Jmu (Jmx (Jlz T.J0 Sz hr (by decide) (Sj (pv 1) (Sj Sr (Sj (Jn7 (by rfl) T.Jal (v:=.int 12) ⟨_,rfl⟩) Sl))))))
    case O3=>
     refine' Sx ?O5
     case O5=>exact (Jn0 Jn4 rfl (Jnq T.Jdk Sbt hr (by decide) T.Jcm.bd T.Jb9 (Sj (pv 1) Sl)))
    case O4=>exact Jma
   case O1=>
   refine' Su ?O6 ?O7
   case O6=>
    refine' Jmr ?O8 ?O9 ?Oa
    case O8=>exact (Jmu (Jmx (Jlz T.J0 Sz hr (by decide) (Sj (pv 2) (Sj Sr (Sj (pv 1) Sl))))))
    case O9=>
     refine' Sx ?Ob
     case Ob=>exact (Jn0 Jn4 rfl (Jnq T.Jdk Sbt hr (by decide) T.Jcm.bd T.Jb9 (Sj (pv 2) Sl)))
    case Oa=>exact Jma
   case O7=>
   refine' Su ?Oc ?Od
   case Oc=>
    refine' Jmr ?Oe ?Of ?Og
    case Oe=>exact (Jmu (Jmx (Jlz T.Jv Sfq hr (by decide) (Sj (pv 3) Sl))))
    case Of=>
     refine' Sx ?Oh
     case Oh=>exact (Jn0 Jn4 rfl (Jnq T.Jdl Sbu hr (by decide) T.Jcn.bd T.Jba (Sj (pv 3) Sl)))
    case Og=>exact Jma
   case Od=>
   refine' Su ?Oi ?Oj
   case Oi=>
    refine' Jmr ?Ok ?Ol ?Om
    case Ok=>exact (Jmu (Jmx (Jlz T.Jw Sga hr (by decide) (Sj (pv 4) (Sj (pv 3) Sl)))))
    case Ol=>
     refine' Sx ?On
     case On=>exact (Jn0 Jn4 rfl (Jnq T.Jdl Sbu hr (by decide) T.Jcn.bd T.Jba (Sj (pv 4) Sl)))
    case Om=>exact Jma
   case Oj=>
   refine' Su ?Oo ?Op
   case Oo=>exact (Jmv (pv 0) (pv 1) rfl)
   case Op=>
   refine' Su ?Oq ?Or
   case Oq=>exact (Jmv (pv 0) (pv 2) rfl)
   case Or=>
   refine' Su ?Os ?Ot
   case Os=>exact (Jmv (pv 0) (Jmf Jng (by rfl) T.Jb3 Jnw (Sj (pv 3) Sl)) rfl)
   case Ot=>
   refine' Sx ?Ou
   case Ou=>exact (Jmv (pv 0) (Jmf Jng (by rfl) T.Jb3 Jnw (Sj (pv 4) Sl)) rfl)
  refine ⟨_,rfl,_,0,12,rfl,.inl ⟨_,rfl⟩,_,rfl,ifF (by rw [Jp1 hc.1 hc.2];rfl) ?_⟩
  refine ⟨_,rfl,_,rfl,_,0,c,rfl,.inl ⟨_,rfl⟩,_,rfl,ifF (by rw [Jp1 hg.1 hg.2];rfl) ?_⟩
  refine ⟨_,rfl,l,os,Bs,rfl,hl,bl,hn,nd,λH1 s1=>⟨_,rfl,Jn9 ?_⟩⟩
  refine ⟨_,rfl,_,rfl,l,m,os,ts,Bs,Ts,rfl,s1 _ _ hl,bl.same s1,hn.2,s1 _ _ hm,tl.same s1,tn,tnd,inn,λH2 s2=>⟨_,rfl,Jn9 ?_⟩⟩
  have s3:=s1.trans s2
  have hp2:=s3 _ _ hp
  refine ⟨_,rfl,_,rfl,p,_,dx,[],rfl,hp2,T.Jet,T.Jfu,by simp,?_⟩
  rw [show Jn2 "cloud" (.int c) []=([("cloud",.int c)]:List (Str×V)) from rfl]
  refine ⟨_,rfl,_,rfl,p,_,dx,_,rfl,Sn,T.Jet,T.Jfv,by simp,?_⟩
  rw [show Jn2 "gain" (.int g) [("cloud",.int c)]=([("cloud",.int c),("gain",.int g)]:List (Str×V)) from Jmq (fs:=[("cloud",.int c)]) (show (["cloud"]:List Str).contains "gain" =false by decide +kernel),Jne]
  have nl:l≠p:=λe=>by subst e;rw [hl] at hp;cases hp
  have nm:m≠p:=λe=>by subst e;rw [hm] at hp;cases hp
  refine ⟨_,rfl,l,_,rfl,.inl ⟨Ss.of (by rw [Sw nl];exact s3 _ _ hl),λb hb=>?_⟩⟩
  have nb:b≠p:=λe=>by subst e;rw [Sn] at hb;cases hb
  rw [Sw nb] at hb
  rw [Jyz nb.symm]
  refine ⟨_,rfl,p,_,dx,_,rfl,Sn,T.Jet,T.Jfw,by simp,?_⟩
  rw [show Jn2 "basins" (.ref b) [("cloud",.int c),("gain",.int g)]=([("cloud",.int c),("gain",.int g),("basins",.ref b)]:List (Str×V)) from Jmq (fs:=[("cloud",.int c),("gain",.int g)]) (show (["cloud","gain"]:List Str).contains "basins" =false by decide +kernel),Jne]
  have s4:=s3.trans (Si.upd (o:=.tup (os.map V.ref)) hb)
  refine ⟨_,rfl,m,_,rfl,.inl ⟨Ss.of (by rw [Sw nm];exact s4 _ _ hm),λt ht=>?_⟩⟩
  have nt:t≠p:=λe=>by subst e;rw [Sn] at ht;cases ht
  rw [Sw nt] at ht
  rw [Jyz nt.symm]
  refine ⟨_,rfl,p,_,dx,_,rfl,Sn,T.Jet,T.Jfx,by simp,?_⟩
  rw [show Jn2 "towns" (.ref t) [("cloud",.int c),("gain",.int g),("basins",.ref b)]=(Sjp (.int c) (.int g) (.ref b) (.ref t)) from Jmq (fs:=[("cloud",.int c),("gain",.int g),("basins",.ref b)]) (show (["cloud","gain","basins"]:List Str).contains "towns" =false by decide +kernel),Jne]
  have s5:=Si.upd (o:=.tup (ts.map V.ref)) ht
  exact k _ b t (s4.trans s5) (s5 _ _ Sn) Sn nb nt
structure Riv where
 c:Int
 g:Int
 Bs:List Bsn
 Ts:List Twn
inductive Sak (K:Sd) (a:Ad) (H:Hp) (o:S1) (R:Riv):Prop where
 |mk (dx b t:S1) (os ts:List S1) (_:H o=some (.ins a.Jlr dx (Sjp (.int R.c) (.int R.g) (.ref b) (.ref t)))) (_:H b=some (.tup (os.map V.ref))) (_:Sbs K a H os R.Bs) (_:H t=some (.tup (ts.map V.ref))) (_:Sbz a H ts R.Ts) (_:R.Bs.length<=16/\R.Ts.length<=3/\∀B∈R.Bs,0<=B.rn/\B.rn<=6)
theorem Sak.same {K:Sd} {a:Ad} {H H':Hp} {o:S1} {R:Riv} (s:Si H H') (h:Sak K a H o R):Sak K a H' o R:=
 let ⟨dx,b,t,os,ts,h1,h2,h3,h4,h5,h6⟩:=h
 ⟨dx,b,t,os,ts,s _ _ h1,s _ _ h2,h3.same s,s _ _ h4,h5.same s,h6⟩
theorem Sl5 {K:Sd} {i j k:Nat} {T:S1} {x y u:V} {σ:L2.St} {H:Hp} {A B:L2.St->Hp->Prop} (hT:Sy K H T [x,y,u]) (h:A (((σ.set i (some x)).set j (some y)).set k (some u)) H):
  Sjh K 3 (Jtb (Jog i) (Jtb (Jog j) (Jtb (Jog k) Smf))) (.ref T) σ H λσ3 H3=>Jxs σ3 H3 λb H4=>if b=true then A σ3 H4 else B σ3 H4:=by
 refine ⟨T,_,rfl,hT,rfl,_,_,rfl,_,_,rfl,_,_,rfl,rfl,?_⟩
 show if true=true then A (((σ.set i (some x)).set j (some y)).set k (some u)) H else B (((σ.set i (some x)).set j (some y)).set k (some u)) H
 rw [if_pos rfl]
 exact h
theorem Ybb (xs:List V) (k:Nat) (h:k<=xs.length):Jq3 xs none (some (k:Int))=xs.take k:=by
 unfold Jq3
 rw [HT.sIx_none,HT.sIx_nat]
 simp [ycb h]
theorem Yb9 (xs:List V) (k:Nat) (h:k<=xs.length):Jq3 xs (some (k:Int)) none=xs.drop k:=by
 unfold Jq3
 rw [HT.sIx_none,HT.sIx_nat,ycb h]
 exact yae (by rw [ybs];exact yg _)
theorem Joh {i:Int} (h:i.natAbs<=1000):i.natAbs.log2 < 9000:=Nat.lt_of_le_of_lt (Nat.log2_le_self _) (by omega)
def one (c:Nat):Str:=⟨#[c]⟩
theorem Jqs (cs:List Nat):(Txt.join ("" :Str) (cs.map one)).cps.toList=cs:=by
 have e1:Txt.join ("" :Str) (cs.map one)=Str.join ("" :Str) (cs.map one):=beq_iff_eq.mp (join_plain_closes ("" :Str) _)
 rw [e1]
 induction cs with
 |nil=>rfl
 |cons c r ih=>
  cases r with
  |nil=>rfl
  |cons d r'=>
   have e:Str.join ("" :Str) ((c::d::r').map one)=one c++("" :Str)++Str.join ("" :Str) ((d::r').map one):=rfl
   rw [e]
   have a:∀x y:Str,(x++y).cps.toList=x.cps.toList++y.cps.toList:=λx y=>by
    show (x.cps++y.cps).toList=_
    exact Array.toList_append
   rw [a,a,ih (beq_iff_eq.mp (join_plain_closes ("" :Str) _))]
   have z:("" :Str).cps.toList= []:=by decide +kernel
   rw [z]
   rfl
theorem Yda (cs:List Nat):((cs.map one).map (·.length)).sum=cs.length:=by
 induction cs with
 |nil=>rfl
 |cons c r ih=>
  rw [yak,yak,List.sum_cons,ih,yaf]
  show 1+_=_
  omega
structure Ltr (n:Nat) (z:Str):Prop where
 len:z.length<=n
 inn:∀c∈z.cps.toList,c∈LET.cps.toList
theorem Ltr.wd {n:Nat} {z:Str} (a:Ltr n z):Wd n z:=⟨a.len,λc hc=>Sos.low c (a.inn c hc)⟩
theorem Ydz {i j:Int} {c:Nat} (i0:0<=i) (i1:i < 26) (j0:0<=j) (j1:j < 26) (hi:atI LET.cps.toList i=some c) (hj:atI LET.cps.toList j=some c):i=j:=by
 have all:(yav 26).all (λp=>(yav 26).all λq=>decide (p=q)||!decide (atI LET.cps.toList (p:Int)=atI LET.cps.toList (q:Int)))=true:=by decide +kernel
 obtain ⟨p,rfl⟩:=yca i0
 obtain ⟨q,rfl⟩:=yca j0
 have h1:=ybi.mp all p (ycc.mpr (by omega))
 have h2:=ybi.mp h1 q (ycc.mpr (by omega))
 rw [hi,hj] at h2
 have h3:p=q:=by simpa using h2
 rw [h3]
def NmK (f:Int) (n:Nat) (k:Nat) (z:Str):Prop:=1<=z.cps.toList.length/\z.cps.toList.length<=8/\(∀c∈z.cps.toList,c∈LET.cps.toList)/\∃c,atI LET.cps.toList ((f+(k:Int))%26)=some c/\z.cps.toList[n]?=some c
def Nms (zs:List Str):Prop:=zs.Nodup/\∀z∈zs,Jpq z=true/\Ltr 8 z
theorem Smy {f:Int} {n:Nat} {zs:List Str} (hl:zs.length<=26) (h:∀(k:Nat) z,zs[k]?=some z->NmK f n k z):Nms zs:=by
 refine ⟨List.pairwise_iff_getElem.mpr λi j hi hj lt e=>?_,λz hz=>?_⟩
 ·obtain ⟨_,_,_,c,h1,h2⟩:=h i _ (yh hi)
  obtain ⟨_,_,_,d,h3,h4⟩:=h j _ (yh hj)
  rw [e,h4] at h2
  cases h2
  have:=Ydz (by omega) (by omega) (by omega) (by omega) h1 h3
  omega
 ·obtain ⟨k,hk⟩:=ybk hz
  obtain ⟨h1,h2,h3,_⟩:=h k z hk
  have el:z.length=z.cps.toList.length:=by rw [ybq];rfl
  refine ⟨?_,by omega,h3⟩
  unfold Jpq Jvw
  rw [yap]
  exact ⟨decide_eq_true (by omega),ybi.mpr λd hd=>decide_eq_true (h3 d hd)⟩
inductive Yew (vs:List V) (H:Hp) (Q:VK) (z3:XK):Prop where
 |mk (p:S1) (m:Nat) (_:vs= [.ref p,.int m]) (_:Sby H p) (_:m<=26) (_:∀(l:S1) (zs:List Str) (H':Hp),H l=none->But p H H'->H' l=some (.lst (zs.map V.str))->zs.length=m->Nms zs->Q (.ref l) H')
theorem Sav:Jm2 ["_law_stream_here","_law_many","_law_letters","_law_size","_law_at","_law_base","_law_first"] ["_law_stream_here","_law_many"] (Jm0 (top 76)):=⟨rfl,rfl,rfl,by decide +kernel,rfl,by decide +kernel,by decide +kernel⟩
theorem Js5 (T:Tx K mg a):So P w K mg base CX0 2 a.Jk8 a.Jk9 ["_law_stream_here","_law_many"] Yew:=by
 have Sk:=Jo5 (P:=P) (w:=w) (base:=base) T
 refine T.Ja0.fn.ok Sav (λvs H Q E h=>?_) (λcdv A outer s H vs Q E hr h=>?_)
 ·obtain ⟨p,m,rfl,_⟩:=h
  rfl
 ·obtain ⟨p,m,rfl,st,hm,k⟩:=h
  refine ⟨?t,?B,?C⟩
  case B=>
   refine' Su ?O0 ?O1
   case O0=>exact (Jm7 (i:=2) Sav.nd rfl (yal rfl) Jp7)
   case O1=>
   refine' Su ?O2 ?O3
   case O2=>exact (Jm7 (i:=3) Sav.nd rfl (yf rfl) (Jm8 Jmg Sr (Jlz T.Jz Sk hr (by decide) (Sj (pv 0) (Sj Sr Sl)))))
   case O3=>
   refine' Su ?O4 ?O5
   case O4=>exact (Jm7 (i:=4) Sav.nd rfl (yal rfl) (Jlz T.Jz Sk hr (by decide) (Sj (pv 0) (Sj (pv 3) Sl))))
   case O5=>
   refine' Su ?O6 ?O7
   case O6=>exact (Jm7 (i:=5) Sav.nd rfl (yal rfl) (Jmj (N:=(["_law_k","_law_letters","_law_stream_here"]:List Str)) (ini:=[none,some 2,some 0]) rfl (Jnp (by rfl) T.Jay (Sj (pv 3) Sl)) (λ_ _ _ _ _=>(Jm3 (i:=0) (by decide +kernel:(["_law_k","_law_letters","_law_stream_here"]:List Str).Nodup) rfl (yf rfl))) (λ_ _ _ _ _=>Jmi) (λ_ _ _ _ _=>(Jmc Ybs (pv 1) (Jlz T.Jz Sk hr (by decide) (Sj (pv 2) (Sj Sr Sl))) (λ_ _=>rfl)))))
   case O7=>
   refine' Su ?O8 ?O9
   case O8=>exact (Jm7 (i:=6) Sav.nd rfl (yal rfl) (Jlz T.Jz Sk hr (by decide) (Sj (pv 0) (Sj Sr Sl))))
   case O9=>
   refine' Sx ?Oa
   case Oa=>exact (Jm5 (Jmj (N:=(["_law_k","_law_base","_law_at","_law_letters","_law_first"]:List Str)) (ini:=[none,some 5,some 4,some 2,some 6]) rfl (Jnp (by rfl) T.Jay (Sj (pv 1) Sl)) (λ_ _ _ _ _=>(Jm3 (i:=0) (by decide +kernel:(["_law_k","_law_base","_law_at","_law_letters","_law_first"]:List Str).Nodup) rfl (yf rfl))) (λ_ _ _ _ _=>Jmi) (λ_ _ _ _ _=>(Sn0 (K:=K) rfl F.plainAttrs_str F.slot_str_join F.type_str_join (Ybz (K:=K) rfl) Jp7 (Sj (Jm8 Juz (Jm8 Juz (Jpi (Jv8 (K:=K) rfl) (pv 1) Js9 (Jpp (pv 2))) (Jmt (Sj (Jmc Ybs (pv 3) (Jm8 Jpo (Jm8 Jmg (pv 4) (pv 0)) Sr) (λ_ _=>rfl)) Sl))) (Jpi (Jv8 (K:=K) rfl) (pv 1) (Jpp (Jm8 Jmg (pv 2) Sr)) Js9)) Sl)))))
  refine ⟨_,rfl,p,8,rfl,st,by decide,by decide,λsz H1 z0 z1 b1=>⟨_,_,rfl,rfl,?_⟩⟩
  refine ⟨_,rfl,_,rfl,p,_,rfl,b1.2,by omega,Joh (by omega),λat_ H2 a0 a1 b2=>?_⟩
  have b12:=b1.trans b2
  refine ⟨_,rfl,_,rfl,by omega,by omega,λD hD=>?_⟩
  have neD:D≠p:=b12.2.ne hD
  refine Jra (D:=D) (λi σ H'=>∃(o:Option V) (cs:List Nat),σ= [o,some (.str LET),some (.ref p)]/\H' D=some (.lst (cs.map sgn))/\cs.length=i/\(∀c∈cs,c∈LET.cps.toList)/\But p H2 H')
   ?_ ?_ ?_
  ·exact ⟨none,[],rfl,Sn,rfl,(λy hy=>absurd hy (by simp)),But.of b12.2 (Si.upd hD)⟩
  ·rintro i σ H' hi ⟨o,cs,rfl,hDs,hl,hw,b⟩
   refine Jn6 ⟨_,rfl,_,rfl,p,26,rfl,b.2,by decide,by decide,λr H3 r0 r1 b3=>?_⟩
   obtain ⟨c,hc,hat⟩:=Yb2 (g:=LET) r0 (by
    have:LET.length=26:=by decide +kernel
    omega)
   refine ⟨LET,r,c,rfl,rfl,Jmw _ (by decide +kernel),hat,cs.map sgn,b3.1 D _ neD hDs,?_,_,cs++ [c],rfl,?_,?_,?_,(b.trans b3).new hD b12.2⟩
   ·rw [ye]
    exact Jmn (by omega)
   ·rw [Sn,yag]
    rfl
   ·rw [yab]
    show cs.length+1=i+1
    omega
   ·intro y hy
    rcases yba.mp hy with hy|hy
    ·exact hw y hy
    ·rw [yan.mp hy]
     exact hc
  rintro σ H3 ⟨o,cs,rfl,hDs,hl,hw,b3⟩
  have hl':cs.length=(1+sz).toNat:=hl
  have b13:=b12.trans b3
  refine ⟨_,rfl,p,26,rfl,b13.2,by decide,by decide,λf H4 f0 f1 b4=>?_⟩
  have hD4:=b4.1 _ _ neD hDs
  have b14:=b13.trans b4
  obtain ⟨n,rfl⟩:=yca a0
  have hn:n < cs.length:=by omega
  have e1:Jq3 (cs.map sgn) none (some (n:Int))=(cs.take n).map sgn:=by rw [Ybb _ n (by rw [ye];omega),List.map_take]
  have e2:Jq3 (cs.map sgn) (some ((n:Int)+1)) none=(cs.drop (n+1)).map sgn:=by rw [show ((n:Int)+1)=((n+1:Nat):Int) from rfl,Yb9 _ (n+1) (by rw [ye];omega),List.map_drop]
  refine ⟨_,rfl,_,rfl,by omega,by omega,λD2 hD2=>?_⟩
  have s4:=Si.upd (o:=.lst []) hD2
  refine Jra (D:=D2) (λi σ H'=>∃(o:Option V) (zs:List Str),σ= [o,some (.ref D),some (.int n),some (.str LET),some (.int f)]/\H' D2=some (.lst (zs.map V.str))/\zs.length=i/\(∀(k:Nat) z,zs[k]?=some z->NmK f n k z)/\Si H4 H') ?_ ?_ ?_
  ·exact ⟨_,[],rfl,Sn,rfl,(λk z e=>by simp at e),s4⟩
  ·rintro i σ H' hi ⟨o,zs,rfl,hDs2,hzl,hz,sm⟩
   obtain ⟨c,hc,hat⟩:=Yb2 (g:=LET) (r:=(f+(0+(i:Int)))%26) (by omega) (by
    have:LET.length=26:=by decide +kernel
    omega)
   have hD':=sm _ _ hD4
   refine Jn6 ?_
   refine ⟨rfl,_,rfl,_,rfl,_,rfl,D,_,rfl,Ss.of hD',λq1 hq1=>?_⟩
   rw [e1]
   have t1:=Si.upd (o:=.lst ((cs.take n).map sgn)) hq1
   have g1:=Sn (H:=H') (a:=q1) (o:=.lst ((cs.take n).map sgn))
   generalize upd H' q1 (.lst ((cs.take n).map sgn))=K1 at*
   refine ⟨_,rfl,_,rfl,_,rfl,_,_,rfl,rfl,_,_,rfl,rfl,(show (0:Int) < 26 by decide),LET,_,c,rfl,rfl,Jmw _ (by decide +kernel),hat,(show 1<=S6 by decide),λq2 hq2=>?_⟩
   have t2:=Si.upd (o:=.lst [.str ⟨#[c]⟩]) hq2
   have g2:=Sn (H:=K1) (a:=q2) (o:=.lst [.str ⟨#[c]⟩])
   generalize upd K1 q2 (.lst [.str ⟨#[c]⟩])=K2 at*
   have hl3:((cs.take n).map sgn).length+ [V.str ⟨#[c]⟩].length<=S6:=Jmw _ (by rw [ye,yad];show _+1<=2000;omega)
   refine ⟨q1,q2,_,_,rfl,rfl,t2 _ _ g1,g2,hl3,λq3 hq3=>?_⟩
   have t3:=Si.upd (o:=.lst ((cs.take n).map sgn++ [.str ⟨#[c]⟩])) hq3
   have g3:=Sn (H:=K2) (a:=q3) (o:=.lst ((cs.take n).map sgn++ [.str ⟨#[c]⟩]))
   generalize upd K2 q3 (.lst ((cs.take n).map sgn++ [.str ⟨#[c]⟩]))=K3 at*
   have t13:=(t1.trans t2).trans t3
   refine ⟨_,rfl,_,rfl,_,_,rfl,rfl,_,rfl,D,_,rfl,Ss.of (t13 _ _ hD'),λq4 hq4=>?_⟩
   rw [e2]
   have t4:=Si.upd (o:=.lst ((cs.drop (n+1)).map sgn)) hq4
   have g4:=Sn (H:=K3) (a:=q4) (o:=.lst ((cs.drop (n+1)).map sgn))
   generalize upd K3 q4 (.lst ((cs.drop (n+1)).map sgn))=K4 at*
   have hl5:((cs.take n).map sgn++ [V.str ⟨#[c]⟩]).length+((cs.drop (n+1)).map sgn).length<=S6:=Jmw _ (by rw [yab,ye,ye,yad,ybs];show _+1+_<=2000;omega)
   refine ⟨q3,q4,_,_,rfl,rfl,t4 _ _ g3,g4,hl5,λq5 hq5=>?_⟩
   obtain ⟨ws,ew,wl,wn,wi⟩:∃ws:List Nat,(cs.take n).map sgn++ [.str ⟨#[c]⟩]++(cs.drop (n+1)).map sgn=ws.map sgn/\ws.length=cs.length/\ws[n]?=some c/\∀d∈ws,d∈LET.cps.toList:=by
    refine ⟨cs.take n++ [c]++cs.drop (n+1),by simp [sgn],by simp;omega,?_,λd hd=>?_⟩
    ·rw [List.append_assoc,List.getElem?_append_right (by simp;omega)]
     simp [ycb (ycd hn)]
    ·rcases yba.mp hd with hd|hd
     ·rcases yba.mp hd with hd|hd
      ·exact hw d (ycr hd)
      ·rw [yan.mp hd];exact hc
     ·exact hw d (List.mem_of_mem_drop hd)
   rw [ew]
   have t5:=Si.upd (o:=.lst (ws.map sgn)) hq5
   have g5:=Sn (H:=K4) (a:=q5) (o:=.lst (ws.map sgn))
   generalize upd K4 q5 (.lst (ws.map sgn))=K5 at*
   have t15:=(t13.trans t4).trans t5
   have hsg:ws.map sgn=(ws.map one).map V.str:=by rw [yaq];rfl
   refine ⟨"",q5,ws.map one,rfl,rfl,Ss.of (by rw [<-hsg];exact g5),?_,_,t15 _ _ hDs2,?_,_,zs++ [Txt.join ("" :Str) (ws.map one)],rfl,?_,?_,λk z e=>?_,?_⟩
   ·have:("" :Str).length=0:=by decide +kernel
    rw [this,Yda]
    omega
   ·rw [ye]
    exact Jmn (by omega)
   ·rw [Sn,yag]
    rfl
   ·rw [yab,hzl]
    rfl
   ·rw [yck] at e
    split at e
    ·exact hz k z e
    ·have hk:k=i:=by
      have:=(yi.mp e).1
      simp at this
      omega
     subst hk
     rw [hzl,Nat.sub_self] at e
     cases e
     rw [Int.zero_add] at hat
     refine ⟨?_,?_,?_,c,hat,?_⟩
     ·rw [Jqs]
      omega
     ·rw [Jqs];omega
     ·rw [Jqs];exact wi
     ·rw [Jqs];exact wn
   ·exact λb o e=>by
     have nb:b≠D2:=Jm1 e hD2
     rw [Sw nb]
     exact t15 _ _ (sm b o e)
  ·rintro σ H5 ⟨o,zs,rfl,hDs2,hzl,hz,sm⟩
   have ez:zs.length=m:=by rw [hzl];exact yau m
   exact k D2 zs H5 (But.free st b14 hD2) (b14.same sm) hDs2 ez (Smy (by omega) hz)
theorem Ju3 {ns:List Int} {s:Int} (h:0<=s/\s < ns.length):atI (ns.map V.int) s=some (.int (ns.getD s.toNat 0))/\ns.getD s.toNat 0∈ns:=by
 obtain ⟨n,rfl⟩:∃n:Nat,s=n:=⟨s.toNat,by omega⟩
 have hn:n < ns.length:=by omega
 have e:ns.getD (n:Int).toNat 0=ns[n]:=by rw [yau];simp [ybw,hn]
 rw [e]
 exact ⟨Ju2 hn,yat hn⟩
theorem Jth:∀(ns:List Int) (lo m n:Int),Jnh lo (ns.map V.int)=true->ns.getLast?=some m->m+1<=n->n<=12->Jnh lo ((ns++ [n]).map V.int)=true
 | [],_,_,_,_,h,_,_=>by simp at h
 | [x],lo,m,n,h,hl,h1,h2=>by
  have e:x=m:=by simpa using hl
  subst e
  simp [Jnh] at h⊢
  omega
 |x::y::r,lo,m,n,h,hl,h1,h2=>by
  have hl':(y::r).getLast?=some m:=by simpa using hl
  have h':((decide (lo<=x)&&decide (x<=12))&&Jnh (x+1) ((y::r).map V.int))=true:=h
  rw [yap] at h'
  have ih:=Jth (y::r) (x+1) m n h'.2 hl' h1 h2
  show ((decide (lo<=x)&&decide (x<=12))&&Jnh (x+1) (((y::r)++ [n]).map V.int))=true
  rw [h'.1,ih]
  rfl
theorem Jtg:∀(ns:List Int) (lo m:Int),Jnh lo (ns.map V.int)=true->ns.getLast?=some m->lo<=m/\m<=12
 | [],_,_,_,h=>by simp at h
 | [x],lo,m,h,hl=>by
  have e:x=m:=by simpa using hl
  subst e
  simpa [Jnh] using h
 |x::y::r,lo,m,h,hl=>by
  have hl':(y::r).getLast?=some m:=by simpa using hl
  have h':((decide (lo<=x)&&decide (x<=12))&&Jnh (x+1) ((y::r).map V.int))=true:=h
  rw [yap,yap,decide_eq_true_eq,decide_eq_true_eq] at h'
  have ih:=Jtg (y::r) (x+1) m h'.2 hl'
  omega
structure Jme where
 kd:Str
 ns:List Int
 sv:Option Int
structure Sbh (G:Jme):Prop where
 kd:Knd G.kd
 ns:Jpw (Jp5 G.kd) (G.ns.map V.int)=true
 sv:∀i,G.sv=some i->0<=i/\i < G.ns.length
def G1 (G:Jme):List Int:=match G.sv with
 |none=>G.ns
 |some j=>[G.ns.getD j.toNat 0]
inductive Sd1 (p:S1) (H:Hp) (x:V) (G:Jme):Prop where
 |mk (t m:S1) (_:x= .ref t) (_:H m=some (.lst ((G1 G).map V.int))) (_:m≠p) (_:(G.sv=none/\H t=some (.tup [.str G.kd,.ref m])\/∃(j:Int) (m2:S1),G.sv=some j/\H t=some (.tup [.str G.kd,.ref m,.ref m2,.int j])/\H m2=some (.lst (G.ns.map V.int))/\m2≠p))
theorem Sd1.on {p q:S1} {H H':Hp} {x:V} {G:Jme} (f:∀b o,H b=some o->(b≠p\/∀xs,o≠ .lst xs)->H' b=some o) (n:∀b o,H b=some o->b≠p->b≠q) (h:Sd1 p H x G):Sd1 q H' x G:=by
 obtain ⟨t,m,e,h1,n1,h2⟩:=h
 refine ⟨t,m,e,f _ _ h1 (.inl n1),n _ _ h1 n1,?_⟩
 rcases h2 with ⟨a,h2⟩|⟨j,m2,a,h2,h3,n2⟩
 ·exact .inl ⟨a,f _ _ h2 (.inr λ_ z=>by cases z)⟩
 ·exact .inr ⟨j,m2,a,f _ _ h2 (.inr λ_ z=>by cases z),f _ _ h3 (.inl n2),n _ _ h3 n2⟩
theorem Sd1.same {p:S1} {H H':Hp} {x:V} {G:Jme} (s:Si H H') (h:Sd1 p H x G):Sd1 p H' x G:=h.on (λb o e _=>s b o e) λ_ _ _ n=>n
theorem Sd1.but {p:S1} {H H':Hp} {x:V} {G:Jme} (st:Sby H p) (b:But p H H') (h:Sd1 p H x G):Sd1 p H' x G:=h.on (λc o e d=>b.1 c o (d.elim id λd=>Ju4 st e λ_ _ _ z=>d _ z) e) λ_ _ _ n=>n
inductive Yeu (vs:List V) (H:Hp) (Q:VK) (z3:XK):Prop where
 |mk (p:S1) (mo:Int) (_:vs= [.ref p,.int mo]) (_:(1<=mo/\mo<=4)) (_:Sby H p) (_:∀(x:V) (G:Jme) (H':Hp),But p H H'->Sd1 p H' x G->Sbh G->(G.ns.length:Int)<=mo->Q x H')
theorem Sas:Jm2 ["_law_stream_here","_law_most","_law_kind","_law_mark","_law_marks","_law_k","_law_at"] ["_law_stream_here","_law_most"] (Jm0 (top 77)):=⟨rfl,rfl,rfl,by decide +kernel,rfl,by decide +kernel,by decide +kernel⟩
theorem Jti (T:Tx K mg a):So P w K mg base CX0 2 a.Jka a.Jkb ["_law_stream_here","_law_most"] Yeu:=by
 have Sk:=Jo5 (P:=P) (w:=w) (base:=base) T
 refine T.Ja1.fn.ok Sas (λvs H Q E h=>?_) (λcdv A outer s H vs Q E hr h=>?_)
 ·obtain ⟨p,mo,rfl,_⟩:=h
  rfl
 ·obtain ⟨p,mo,rfl,hmo,st,k⟩:=h
  refine ⟨?t,?B,?C⟩
  case B=>
   refine' Su ?O0 ?O1
   case O0=>exact (Jm7 (i:=2) Sas.nd rfl (yf rfl) (Jmc Jn3 (Jmt (Sj Jp7 (Sj Jp7 (Sj Jp7 Sl)))) (Jlz T.Jz Sk hr (by decide) (Sj (pv 0) (Sj Sr Sl))) (λ_ _=>rfl)))
   case O1=>
   refine' Su ?O2 ?O3
   case O2=>exact (Jm7 (i:=3) Sas.nd rfl (yf rfl) (Jm8 Jmg (Jlz T.Jz Sk hr (by decide) (Sj (pv 0) (Sj Sr Sl))) (Jmf Yx (by rfl) T.Jas Yb3 (Sj (Js7 Jr8 (pv 2) Jp7 (Jmy _)) Sl))))
   case O3=>
   refine' Su ?O4 ?O5
   case O4=>exact (Jm7 (i:=4) Sas.nd rfl (yf rfl) (Jmt (Sj (pv 3) Sl)))
   case O5=>
   refine' Su ?O6 ?O7
   case O6=>
    refine' Jn5 ?O8 ?O9 ?Oa ?Ob ?Oc
    case O8=>exact PassesOwn.never
    case O9=>exact rfl
    case Oa=>exact (Jnp (by rfl) T.Jay (Sj (Jlz T.Jz Sk hr (by decide) (Sj (pv 0) (Sj (pv 1) Sl))) Sl))
    case Ob=>exact (Jm3 (i:=5) Sas.nd rfl (yf rfl))
    case Oc=>
    refine' Su ?Od ?Oe
    case Od=>exact (Jm7 (i:=3) Sas.nd rfl (yf rfl) (Jm8 Jmg (Jm8 Jmg (pv 3) Sr) (Jlz T.Jz Sk hr (by decide) (Sj (pv 0) (Sj Sr Sl)))))
    case Oe=>
    refine' Sx ?Of
    case Of=>exact (Jnd (Jps F.plainAttrs_list F.slot_list_append F.type_list_append Jor (pv 4) (Sj (pv 3) Sl)))
   case O7=>
   refine' Su ?Og ?Oh
   case Og=>
    refine' Jmr ?Oi ?Oj ?Ok
    case Oi=>exact (Jmp Jwk (Jlz T.Jz Sk hr (by decide) (Sj (pv 0) (Sj Sr Sl))) Sr (Jmy _))
    case Oj=>
     refine' Sx ?Ol
     case Ol=>exact (Jm5 (Jn1 (Sj (pv 2) (Sj (pv 4) Sl))))
    case Ok=>exact Jma
   case Oh=>
   refine' Su ?Om ?On
   case Om=>exact (Jm7 (i:=6) Sas.nd rfl (yf rfl) (Jlz T.Jz Sk hr (by decide) (Sj (pv 0) (Sj (Jm4 Jmd (by rfl) T.Jau Jnf (Sj (pv 4) Sl)) Sl))))
   case On=>
   refine' Sx ?Oo
   case Oo=>
   refine' Jm5 ?Op
   case Op=>
   refine' Jn1 ?Oq
   case Oq=>
   refine' pa4 ?Or ?Os ?Ot ?Ou
   case Or=>exact (pv 2)
   case Os=>exact (Jmt (Sj (Jmc Jn3 (pv 4) (pv 6) (λ_ _=>rfl)) Sl))
   case Ot=>exact (pv 4)
   case Ou=>exact (pv 6)
  refine ⟨(show 3<=S6 by decide),λL hL=>?_⟩
  have sL:=Si.upd (o:=.lst [.str "step",.str "flap",.str "part"]) hL
  have bL:=But.of st sL
  have nL:L≠p:=st.ne hL
  refine ⟨_,rfl,p,3,rfl,bL.2,by decide,by decide,λr H1 r0 r1 b1=>?_⟩
  obtain ⟨kd,hat,hk⟩:∃kd:Str,atI [V.str "step",.str "flap",.str "part"] r=some (.str kd)/\Knd kd:=by
   have cs:r=0\/r=1\/r=2:=by omega
   rcases cs with rfl|rfl|rfl
   ·exact ⟨_,rfl,.inl rfl⟩
   ·exact ⟨_,rfl,.inr (.inl rfl)⟩
   ·exact ⟨_,rfl,.inr (.inr rfl)⟩
  refine ⟨L,_,r,_,rfl,rfl,Ss.of (b1.1 _ _ nL Sn),hat,?_⟩
  have bK:=bL.trans b1
  have el:Jp5 kd=if decide (V.str kd=V.str "part")=true then 1 else 0:=by
   unfold Jp5
   by_cases h:kd=("part" :Str)
   ·rw [if_pos h,if_pos (decide_eq_true (by rw [h]))]
   ·rw [if_neg h,if_neg (by rw [decide_eq_false (λe=>h (V.str.inj e))];decide)]
  have hlo:Jp5 kd=0\/Jp5 kd=1:=by unfold Jp5;split <;> simp
  refine ⟨_,rfl,p,3,rfl,bK.2,by decide,by decide,λr2 H2 s0 s1 b2=>?_⟩
  refine ⟨_,rfl,rfl,.inr ⟨_,rfl,_,_,rfl,rfl,?_⟩⟩
  rw [<-el]
  have b02:=bK.trans b2
  refine ⟨_,rfl,(show 1<=S6 by decide),λl hl=>?_⟩
  have hl0:H l=none:=But.free st b02 hl
  have nlp:l≠p:=st.ne hl0
  have b3:But p H (upd H2 l (.lst [.int (r2+Jp5 kd)])):=b02.updD hl0 nlp
  refine ⟨_,rfl,_,rfl,p,mo,rfl,b3.2,by omega,Joh (by omega),λj H3 j0 j1 b4=>⟨j,rfl,by omega,by omega,?_⟩⟩
  refine Jw9 (λi σ H'=>∃(o o':Option V) (ns:List Int) (m:Int),σ= [some (.ref p),some (.int mo),some (.str kd),some (.int m),some (.ref l),o,o']/\But p H H'/\H' l=some (.lst (ns.map V.int))/\Jnh (Jp5 kd) (ns.map V.int)=true/\ns.getLast?=some m/\ns.length=i+1/\m<=3+3*i)
   ⟨_,_,[r2+Jp5 kd],r2+Jp5 kd,rfl,b3.trans b4,b4.1 _ _ nlp Sn,?_,rfl,by simp,by omega⟩ ?_ ?_
  ·simp [Jnh]
   omega
  ·rintro i σ H4 hi ⟨o,o',ns,m,rfl,b5,h5,hmk,hla,hle,hmi⟩
   have hb:=Jtg ns (Jp5 kd) m hmk hla
   refine ⟨_,rfl,_,_,rfl,rfl,_,rfl,p,3,rfl,b5.2,by decide,by decide,λr' H5 t0 t1 b6=>?_⟩
   refine ⟨_,_,rfl,rfl,?_⟩
   have h6:=b6.1 _ _ nlp h5
   refine ⟨_,rfl,.inl ⟨rfl,_,Ss.of h6⟩,_,rfl,l,_,_,rfl,rfl,h6,by rw [ye];exact Jmn (by omega),?_⟩
   refine ⟨_,_,ns++ [m+1+r'],m+1+r',rfl,(b5.trans b6).updD hl0 nlp,?_,Jth ns (Jp5 kd) m _ hmk hla (by omega) (by omega),by simp,by simp;omega,by omega⟩
   rw [Sn]
   simp
  ·rintro σ H4 ⟨o,o',ns,m,rfl,b5,h5,hmk,hla,hle,hmi⟩
   have hn:(ns.length:Int)<=mo:=by omega
   have har:Jpw (Jp5 kd) (ns.map V.int)=true:=by
    unfold Jpw
    rw [hmk,Bool.and_true,ye]
    exact decide_eq_true (by omega)
   refine ⟨_,rfl,p,6,rfl,b5.2,by decide,by decide,λr6 H6 _ _ b6=>⟨_,_,rfl,rfl,_,rfl,Sii (λ_=>?_) (λ_=>?_)⟩⟩
   ·have h6:=b6.1 _ _ nlp h5
    refine ⟨_,rfl,_,rfl,(show 2<=S6 by decide),λt ht=>?_⟩
    have sT:=Si.upd (o:=.tup [.str kd,.ref l]) ht
    exact k (.ref t) ⟨kd,ns,none⟩ _ ((b5.trans b6).same sT) ⟨t,l,rfl,sT _ _ h6,nlp,.inl ⟨rfl,Sn⟩⟩ ⟨hk,har,λi e=>by cases e⟩ hn
   ·have h6:=b6.1 _ _ nlp h5
    refine ⟨_,rfl,_,rfl,l,_,rfl,.inl (Ss.of h6),p,_,rfl,(b5.trans b6).2,by rw [ye];omega,by rw [ye];exact Joh (by omega),λr7 H7 u0 u1 b7=>?_⟩
    rw [ye] at u1
    have h7:=b7.1 _ _ nlp h6
    have hat7:=(Ju3 (ns:=ns) (s:=r7) ⟨u0,u1⟩).1
    refine ⟨_,rfl,_,rfl,_,rfl,l,_,r7,_,rfl,rfl,Ss.of h7,hat7,(show 1<=S6 by decide),λm1 hm1=>?_⟩
    have sM:=Si.upd (o:=.lst [.int (ns.getD r7.toNat 0)]) hm1
    have b57:=(b5.trans b6).trans b7
    have nm1:m1≠p:=b57.2.ne hm1
    refine ⟨_,rfl,_,rfl,(show 4<=S6 by decide),λt ht=>?_⟩
    have sT:=Si.upd (o:=.tup [.str kd,.ref m1,.ref l,.int r7]) ht
    refine k (.ref t) ⟨kd,ns,some r7⟩ _ ((b57.same sM).same sT) ⟨t,m1,rfl,sT _ _ Sn,nm1,.inr ⟨r7,l,rfl,Sn,sT _ _ (sM _ _ h7),nlp⟩⟩ ⟨hk,har,λi e=>?_⟩ hn
    cases e
    exact ⟨u0,u1⟩
structure Jo7 where
 z:Str
 lo:Int
 hi:Int
 st:Int
 rn:Int
 G:Jme
structure Jvu (B:Jo7):Prop where
 lo:0<=B.lo/\B.lo<=12
 hi:B.lo<=B.hi/\B.hi<=12
 st:B.lo<=B.st/\B.st<=B.hi
 rn:0<=B.rn/\B.rn<=6
 G:Sbh B.G
inductive Sd0 (p:S1) (H:Hp) (x:V) (B:Jo7):Prop where
 |mk (t:S1) (g:V) (_:x= .ref t) (_:H t=some (.tup [.str B.z,.int B.lo,.int B.hi,.int B.st,.int B.rn,g])/\Sd1 p H g B.G)
theorem Sd0.same {p:S1} {H H':Hp} {x:V} {B:Jo7} (s:Si H H') (h:Sd0 p H x B):Sd0 p H' x B:=by
 obtain ⟨t,g,e,h1,h2⟩:=h
 exact ⟨t,g,e,s _ _ h1,h2.same s⟩
theorem Sd0.but {p:S1} {H H':Hp} {x:V} {B:Jo7} (st:Sby H p) (b:But p H H') (h:Sd0 p H x B):Sd0 p H' x B:=by
 obtain ⟨t,g,e,h1,h2⟩:=h
 exact ⟨t,g,e,b.1 _ _ (Ju4 st h1 (λ_ _ _ z=>by cases z)) h1,h2.but st b⟩
def Cap (n:Nat) (s r m:Int):Prop:=n=1/\s=7/\r=5/\m=4\/n=2/\s=4/\r=3/\m=2\/n=3/\s=3/\r=2/\m=2\/n=4/\s=2/\r=2/\m=2
theorem Cap.at {n:Nat} {s r m:Int} (h:Cap n s r m):atI [V.int 7,.int 4,.int 3,.int 2] ((n:Int) - 1)=some (.int s)/\atI [V.int 5,.int 3,.int 2,.int 2] ((n:Int) - 1)=some (.int r)/\atI [V.int 4,.int 2,.int 2,.int 2] ((n:Int) - 1)=some (.int m)/\(2<=s/\s<=7)/\(2<=r/\r<=5)/\2<=m/\m<=4:=by
 rcases h with ⟨rfl,rfl,rfl,rfl⟩|⟨rfl,rfl,rfl,rfl⟩|⟨rfl,rfl,rfl,rfl⟩|⟨rfl,rfl,rfl,rfl⟩ <;> exact ⟨rfl,rfl,rfl,by decide,by decide,by decide⟩
structure Lgt (s r m:Int) (B:Jo7):Prop where
 s:B.hi - B.lo < s
 r:B.rn < r
 m:(B.G.ns.length:Int)<=m
inductive Yd0 (vs:List V) (H:Hp) (Q:VK) (z3:XK):Prop where
 |mk (p:S1) (z:Str) (n:Nat) (s r m:Int) (_:vs= [.ref p,.str z,.int n]) (_:Sby H p) (_:Cap n s r m) (_:∀(x:V) (B:Jo7) (H':Hp),But p H H'->Sd0 p H' x B->Jvu B->B.z=z->Lgt s r m B->Q x H')
theorem Sbc:Jm2 ["_law_stream_here","_law_name","_law_many","_law_low","_law_span","_law_start","_law_rain"] ["_law_stream_here","_law_name","_law_many"] (Jm0 (top 78)):=⟨rfl,rfl,rfl,by decide +kernel,rfl,by decide +kernel,by decide +kernel⟩
theorem Jxa (T:Tx K mg a):So P w K mg base CX0 3 a.Jkc a.Jkd ["_law_stream_here","_law_name","_law_many"] Yd0:=by
 have Sk:=Jo5 (P:=P) (w:=w) (base:=base) T
 have Scq:=Jti (P:=P) (w:=w) (base:=base) T
 refine T.Ja2.fn.ok Sbc (λvs H Q E h=>?_) (λcdv A outer s H vs Q E hr h=>?_)
 ·obtain ⟨p,z,n,s,r,m,rfl,_⟩:=h
  rfl
 ·obtain ⟨p,z,n,cs,cr,cm,rfl,st,cap,k⟩:=h
  obtain ⟨a1,a2,a3,bs,br,bm⟩:=cap.at
  refine ⟨?t,?B,?C⟩
  case B=>
   refine' Su ?O0 ?O1
   case O0=>exact (Jm7 (i:=3) Sbc.nd rfl (yf rfl) (Jlz T.Jz Sk hr (by decide) (Sj (pv 0) (Sj Sr Sl))))
   case O1=>
   refine' Su ?O2 ?O3
   case O2=>exact (Jm7 (i:=4) Sbc.nd rfl (yf rfl) (Jlz T.Jz Sk hr (by decide) (Sj (pv 0) (Sj (Jmc Jn3 (Jmt (pa4 Sr Sr Sr Sr)) (Jm8 Jnl (pv 2) Sr) (λ_ _=>rfl)) Sl))))
   case O3=>
   refine' Su ?O4 ?O5
   case O4=>exact (Jm7 (i:=5) Sbc.nd rfl (yf rfl) (Jm8 Jmg (pv 3) (Jlz T.Jz Sk hr (by decide) (Sj (pv 0) (Sj (Jm8 Jmg (pv 4) Sr) Sl)))))
   case O5=>
   refine' Su ?O6 ?O7
   case O6=>exact (Jm7 (i:=6) Sbc.nd rfl (yf rfl) (Jlz T.Jz Sk hr (by decide) (Sj (pv 0) (Sj (Jmc Jn3 (Jmt (pa4 Sr Sr Sr Sr)) (Jm8 Jnl (pv 2) Sr) (λ_ _=>rfl)) Sl))))
   case O7=>
   refine' Sx ?O8
   case O8=>
   refine' Jm5 ?O9
   case O9=>
   refine' Jn1 ?Oa
   case Oa=>
   refine' pa6 ?Ob ?Oc ?Od ?Oe ?Of ?Og
   case Ob=>exact (pv 1)
   case Oc=>exact (pv 3)
   case Od=>exact (Jm8 Jmg (pv 3) (pv 4))
   case Oe=>exact (pv 5)
   case Of=>exact (pv 6)
   case Og=>exact (Jlz T.Ja1 Scq hr (by decide) (Sj (pv 0) (Sj (Jmc Jn3 (Jmt (pa4 Sr Sr Sr Sr)) (Jm8 Jnl (pv 2) Sr) (λ_ _=>rfl)) Sl)))
  refine ⟨_,rfl,p,4,rfl,st,by decide,by decide,λlo H1 l0 l1 b1=>?_⟩
  refine ⟨_,rfl,(show 4<=S6 by decide),λL1 hL1=>?_⟩
  have c1:=b1.same (Si.upd (o:=.lst [V.int 7,.int 4,.int 3,.int 2]) hL1)
  refine ⟨_,rfl,_,_,rfl,rfl,L1,_,_,_,rfl,rfl,Ss.of Sn,a1,p,cs,rfl,c1.2,by omega,Joh (by omega),λhi H2 h0 h1 b2=>?_⟩
  refine ⟨_,rfl,_,rfl,_,rfl,_,_,rfl,rfl,p,hi+1,rfl,b2.2,by omega,Joh (by omega),λsv H3 s0 s1 b3=>⟨_,_,rfl,rfl,?_⟩⟩
  refine ⟨_,rfl,(show 4<=S6 by decide),λL2 hL2=>?_⟩
  have c3:=b3.same (Si.upd (o:=.lst [V.int 5,.int 3,.int 2,.int 2]) hL2)
  refine ⟨_,rfl,_,_,rfl,rfl,L2,_,_,_,rfl,rfl,Ss.of Sn,a2,p,cr,rfl,c3.2,by omega,Joh (by omega),λrn H4 n0 n1 b4=>?_⟩
  refine ⟨_,rfl,_,rfl,_,rfl,_,rfl,_,_,rfl,rfl,_,rfl,_,rfl,_,rfl,(show 4<=S6 by decide),λL3 hL3=>?_⟩
  have c4:=b4.same (Si.upd (o:=.lst [V.int 4,.int 2,.int 2,.int 2]) hL3)
  refine ⟨_,rfl,_,_,rfl,rfl,L3,_,_,_,rfl,rfl,Ss.of Sn,a3,p,cm,rfl,by omega,c4.2,λg G H5 b5 gt gg gm=>?_⟩
  refine ⟨(show 6<=S6 by decide),λt ht=>?_⟩
  have sT:=Si.upd (o:=.tup [.str z,.int lo,.int (lo+hi),.int (lo+sv),.int rn,g]) ht
  exact k (.ref t) ⟨z,lo,lo+hi,lo+sv,rn,G⟩ _ (((((c1.trans b2).trans c3).trans c4).trans b5).same sT) ⟨t,g,rfl,Sn,gt.same sT⟩ ⟨by dsimp only;omega,by dsimp only;omega,by dsimp only;omega,by dsimp only;omega,gg⟩ rfl ⟨by dsimp only;omega,by dsimp only;omega,gm⟩
theorem Yel {bs:List V} {ns:List Int} (h:∀b∈bs,∃o,b=V.ref o) (hn:1<=ns.length):bs≠ns.map V.int:=by
 intro e
 cases ns with
 |nil=>simp at hn
 |cons n r=>
  obtain ⟨o,q⟩:=h (.int n) (by rw [e];simp)
  cases q
theorem Sbh.len {G:Jme} (h:Sbh G):1<=G.ns.length/\G.ns.length<=4:=by
 have q:=h.ns
 unfold Jpw at q
 rw [yap,decide_eq_true_eq,ye] at q
 exact q.1
theorem G1.len {G:Jme} (h:Sbh G):1<=(G1 G).length:=by
 unfold G1
 split
 ·exact h.len.1
 ·exact yg 1
theorem Sd1.put {p D:S1} {H:Hp} {x:V} {G:Jme} {bs:List V} {o:HO} (g:Sbh G) (hD:H D=some (.lst bs)) (hb:∀b∈bs,∃o,b=V.ref o) (h:Sd1 p H x G):Sd1 p (upd H D o) x G:=by
 obtain ⟨t,m,e,h1,n1,h2⟩:=h
 have tp:∀xs,H t=some (.tup xs)->upd H D o t=some (.tup xs):=λxs h=>by
  rw [Sw (λz=>by rw [z,hD] at h;cases h)]
  exact h
 have ls:∀(q:S1) (ns:List Int),1<=ns.length->H q=some (.lst (ns.map V.int))->upd H D o q=some (.lst (ns.map V.int)):=λq ns hn h=>by
  rw [Sw (λz=>by rw [z,hD] at h;cases h;exact Yel hb hn rfl)]
  exact h
 refine ⟨t,m,e,ls _ _ (G1.len g) h1,n1,?_⟩
 rcases h2 with ⟨a,h2⟩|⟨j,m2,a,h2,h3,n2⟩
 ·exact .inl ⟨a,tp _ h2⟩
 ·exact .inr ⟨j,m2,a,tp _ h2,ls _ _ g.len.1 h3,n2⟩
theorem Sd0.put {p D:S1} {H:Hp} {x:V} {B:Jo7} {bs:List V} {o:HO} (g:Jvu B) (hD:H D=some (.lst bs)) (hb:∀b∈bs,∃o,b=V.ref o) (h:Sd0 p H x B):Sd0 p (upd H D o) x B:=by
 obtain ⟨t,y,e,h1,h2⟩:=h
 refine ⟨t,y,e,?_,h2.put g.G hD hb⟩
 rw [Sw (λz=>by rw [z,hD] at h1;cases h1)]
 exact h1
def BTL (p:S1) (H:Hp):List V->List Jo7->Prop
 | [],[]=>True
 |x::xs,B::Bs=>Sd0 p H x B/\BTL p H xs Bs
 |_,_=>False
theorem BTL.map {p q:S1} {H H':Hp} (f:∀x B,Jvu B->Sd0 p H x B->Sd0 q H' x B):∀{xs:List V} {Bs:List Jo7},(∀B∈Bs,Jvu B)->BTL p H xs Bs->BTL q H' xs Bs:=by
 intro xs
 induction xs with
 |nil=>
  intro Bs g h
  cases Bs with
  |nil=>exact True.intro
  |cons B Bs=>exact False.elim h
 |cons x xs ih=>
  intro Bs g h
  cases Bs with
  |nil=>exact False.elim h
  |cons B Bs=>exact ⟨f _ _ (g _ yah) (yar h),ih (λB hB=>g B (yaa _ hB)) (yam h)⟩
theorem BTL.snoc {p:S1} {H:Hp} {x:V} {B:Jo7} (h:Sd0 p H x B):∀{xs:List V} {Bs:List Jo7},BTL p H xs Bs->BTL p H (xs++ [x]) (Bs++ [B]):=by
 intro xs
 induction xs with
 |nil=>
  intro Bs q
  cases Bs with
  |nil=>exact ⟨h,True.intro⟩
  |cons B Bs=>exact False.elim q
 |cons x xs ih=>
  intro Bs q
  cases Bs with
  |nil=>exact False.elim q
  |cons B Bs=>exact ⟨yar q,ih (yam q)⟩
theorem BTL.refs {p:S1} {H:Hp}:∀{xs:List V} {Bs:List Jo7},BTL p H xs Bs->∀b∈xs,∃o,b=V.ref o:=by
 intro xs
 induction xs with
 |nil=>exact λ_ b hb=>absurd hb (by simp)
 |cons x xs ih=>
  intro Bs h b hb
  cases Bs with
  |nil=>exact False.elim h
  |cons B Bs=>
   rcases yp.mp hb with rfl|hb
   ·obtain ⟨⟨t,g,e,_⟩,_⟩:=h
    exact ⟨t,e⟩
   ·exact ih (yam h) b hb
theorem BTL.len {p:S1} {H:Hp}:∀{xs:List V} {Bs:List Jo7},BTL p H xs Bs->xs.length=Bs.length:=by
 intro xs
 induction xs with
 |nil=>
  intro Bs h
  cases Bs with
  |nil=>rfl
  |cons B Bs=>exact False.elim h
 |cons x xs ih=>
  intro Bs h
  cases Bs with
  |nil=>exact False.elim h
  |cons B Bs=>rw [yaf,yaf,ih (yam h)]
structure Jp8 where
 z:Str
 b:Str
 wt:Int
inductive Sdk (H:Hp) (x:V) (B:Jp8):Prop where
 |mk (t:S1) (_:x= .ref t) (_:H t=some (.tup [.str B.z,.str B.b,.int B.wt]))
theorem Sdk.same {H H':Hp} {x:V} {B:Jp8} (s:Si H H') (h:Sdk H x B):Sdk H' x B:=by obtain ⟨t,e,h1⟩:=h;exact ⟨t,e,s _ _ h1⟩
theorem Sdk.but {p:S1} {H H':Hp} {x:V} {B:Jp8} (st:Sby H p) (b:But p H H') (h:Sdk H x B):Sdk H' x B:=
 let ⟨t,e,h1⟩:=h
 ⟨t,e,b.1 _ _ (Ju4 st h1 (λ_ _ _ z=>by cases z)) h1⟩
theorem Sdk.put {D:S1} {H:Hp} {x:V} {B:Jp8} {bs:List V} {o:HO} (hD:H D=some (.lst bs)) (h:Sdk H x B):Sdk (upd H D o) x B:=by
 obtain ⟨t,e,h1⟩:=h
 refine ⟨t,e,?_⟩
 rw [Sw (λz=>by rw [z,hD] at h1;cases h1)]
 exact h1
def TTL (H:Hp):List V->List Jp8->Prop
 | [],[]=>True
 |x::xs,B::Bs=>Sdk H x B/\TTL H xs Bs
 |_,_=>False
theorem TTL.map {H H':Hp} (f:∀x B,Sdk H x B->Sdk H' x B):∀{xs:List V} {Bs:List Jp8},TTL H xs Bs->TTL H' xs Bs:=by
 intro xs
 induction xs with
 |nil=>
  intro Bs h
  cases Bs with
  |nil=>exact True.intro
  |cons B Bs=>exact False.elim h
 |cons x xs ih=>
  intro Bs h
  cases Bs with
  |nil=>exact False.elim h
  |cons B Bs=>exact ⟨f _ _ (yar h),ih (yam h)⟩
theorem TTL.snoc {H:Hp} {x:V} {B:Jp8} (h:Sdk H x B):∀{xs:List V} {Bs:List Jp8},TTL H xs Bs->TTL H (xs++ [x]) (Bs++ [B]):=by
 intro xs
 induction xs with
 |nil=>
  intro Bs q
  cases Bs with
  |nil=>exact ⟨h,True.intro⟩
  |cons B Bs=>exact False.elim q
 |cons x xs ih=>
  intro Bs q
  cases Bs with
  |nil=>exact False.elim q
  |cons B Bs=>exact ⟨yar q,ih (yam q)⟩
theorem TTL.len {H:Hp}:∀{xs:List V} {Bs:List Jp8},TTL H xs Bs->xs.length=Bs.length:=by
 intro xs
 induction xs with
 |nil=>
  intro Bs h
  cases Bs with
  |nil=>rfl
  |cons B Bs=>exact False.elim h
 |cons x xs ih=>
  intro Bs h
  cases Bs with
  |nil=>exact False.elim h
  |cons B Bs=>rw [yaf,yaf,ih (yam h)]
structure Jo4 where
 c:Int
 g:Int
 Bs:List Jo7
 Ts:List Jp8
structure Jr5 (R:Jo4):Prop where
 c:0<=R.c/\R.c<=12
 g:0<=R.g/\R.g<=R.c
 n:1<=R.Bs.length/\R.Bs.length<=16
 Bs:∀B∈R.Bs,Jvu B/\Jpq B.z=true/\Ltr 8 B.z
 nd:(R.Bs.map (·.z)).Nodup
 tn:R.Ts.length<=3
 Ts:∀B∈R.Ts,Jpq B.z=true/\Ltr 8 B.z/\B.b∈R.Bs.map (·.z)/\1<=B.wt/\B.wt<=6
 td:(R.Ts.map (·.z)).Nodup
inductive Sfu (p:S1) (H:Hp) (x:V) (R:Jo4):Prop where
 |mk (t lb lt:S1) (bs ts:List V) (_:x= .ref t) (_:H t=some (.tup [.int R.c,.int R.g,.ref lb,.ref lt])) (_:H lb=some (.lst bs)) (_:BTL p H bs R.Bs) (_:H lt=some (.lst ts)) (_:TTL H ts R.Ts) (_:lb≠p) (_:lt≠p)
inductive Yb0 (R:Jo4):Prop where
 |mk (n L C S T r:Nat) (_:(n,L,C,S,T,r)∈ [(1,7,5,4,3,5),(1,4,13,2,2,7),(2,4,3,2,3,3),(3,3,2,2,2,2),(4,2,2,2,1,2)]) (_:R.Bs.length=n) (_:R.c < C) (_:R.Ts.length < T) (_:∀B∈R.Bs,Lgt L r S B)
inductive Yer (vs:List V) (H:Hp) (Q:VK) (z3:XK):Prop where
 |mk (p:S1) (_:vs= [.ref p]) (_:Sby H p) (_:∀(x:V) (R:Jo4) (H':Hp),But p H H'->Sfu p H' x R->Jr5 R->Yb0 R->Q x H')
theorem Sa8:Jm2 ["_law_stream_here","_law_cloud","_law_gain","_law_name","_law_low","_law_high","_law_start","_law_basin_here","_law_towns"] ["_law_stream_here"] (Jm0 (top 79)):=⟨rfl,rfl,rfl,by decide +kernel,rfl,by decide +kernel,by decide +kernel⟩
theorem Jxb (T:Tx K mg a):So P w K mg base CX0 3 a.Jke a.Jkf ["_law_stream_here"] Yer:=by
 have Sk:=Jo5 (P:=P) (w:=w) (base:=base) T
 have Sbo:=Js5 (P:=P) (w:=w) (base:=base) T
 have Scq:=Jti (P:=P) (w:=w) (base:=base) T
 refine T.Ja3.fn.ok Sa8 (λvs H Q E h=>?_) (λcdv A outer s H vs Q E hr h=>?_)
 ·obtain ⟨p,rfl,_⟩:=h
  rfl
 ·obtain ⟨p,rfl,st,k⟩:=h
  refine ⟨?t,?B,?C⟩
  case B=>
   refine' Su ?O0 ?O1
   case O0=>exact (Jm7 (i:=1) Sa8.nd rfl (yf rfl) (Jm8 Jmg Sr (Jlz T.Jz Sk hr (by decide) (Sj (pv 0) (Sj Sr Sl)))))
   case O1=>
   refine' Su ?O2 ?O3
   case O2=>exact (Jm7 (i:=2) Sa8.nd rfl (yf rfl) (Jlz T.Jz Sk hr (by decide) (Sj (pv 0) (Sj (Jm8 Jmg (pv 1) Sr) Sl))))
   case O3=>
   refine' Su ?O4 ?O5
   case O4=>exact (Jm7 (i:=3) Sa8.nd rfl (yf rfl) (Jmc Jn3 (Jlz T.Ja0 Sbo hr (by decide) (Sj (pv 0) (Sj Sr Sl))) Sr (λ_ _=>rfl)))
   case O5=>
   refine' Su ?O6 ?O7
   case O6=>exact (Jm7 (i:=4) Sa8.nd rfl (yf rfl) (Jlz T.Jz Sk hr (by decide) (Sj (pv 0) (Sj Sr Sl))))
   case O7=>
   refine' Su ?O8 ?O9
   case O8=>exact (Jm7 (i:=5) Sa8.nd rfl (yf rfl) (Jm8 Jmg (pv 4) (Jlz T.Jz Sk hr (by decide) (Sj (pv 0) (Sj Sr Sl)))))
   case O9=>
   refine' Su ?Oa ?Ob
   case Oa=>exact (Jm7 (i:=6) Sa8.nd rfl (yf rfl) (Jm8 Jmg (pv 4) (Jlz T.Jz Sk hr (by decide) (Sj (pv 0) (Sj (Jm8 Jmg (Jm8 Jnl (pv 5) (pv 4)) Sr) Sl)))))
   case Ob=>
   refine' Su ?Oc ?Od
   case Oc=>exact (Jm7 (i:=7) Sa8.nd rfl (yf rfl) (Jn1 (pa6 (pv 3) (pv 4) (pv 5) (pv 6) (Jlz T.Jz Sk hr (by decide) (Sj (pv 0) (Sj Sr Sl))) (Jlz T.Ja1 Scq hr (by decide) (Sj (pv 0) (Sj Sr Sl))))))
   case Od=>
   refine' Su ?Oe ?Of
   case Oe=>exact (Jm7 (i:=8) Sa8.nd rfl (yf rfl) (Jpi Jxn (Jmt (Sj (Jn1 (Sj Jp7 (Sj (pv 3) (Sj (Jm8 Jmg Sr (Jlz T.Jz Sk hr (by decide) (Sj (pv 0) (Sj Sr Sl)))) Sl)))) Sl)) Js9 (Jpp (Jlz T.Jz Sk hr (by decide) (Sj (pv 0) (Sj Sr Sl))))))
   case Of=>
   refine' Sx ?Og
   case Og=>
   refine' Jm5 ?Oh
   case Oh=>
   refine' Jn1 ?Oi
   case Oi=>
   refine' pa4 ?Oj ?Ok ?Ol ?Om
   case Oj=>exact (pv 1)
   case Ok=>exact (pv 2)
   case Ol=>exact (Jmt (Sj (pv 7) Sl))
   case Om=>exact (pv 8)
  refine ⟨_,rfl,p,4,rfl,st,by decide,by decide,λcl H1 c0 c1 b1=>⟨_,_,rfl,rfl,?_⟩⟩
  refine ⟨_,rfl,_,rfl,_,_,rfl,rfl,p,9+cl+1,rfl,b1.2,by omega,Joh (by omega),λgn H2 g0 g1 b2=>?_⟩
  have b12:=b1.trans b2
  refine ⟨_,rfl,p,1,rfl,b12.2,by omega,λl zs H3 hl b3 hl3 len nms=>?_⟩
  have b13:=b12.trans b3
  obtain ⟨z,rfl⟩:∃z,zs= [z]:=by
   match zs,len with
   | [z],_=>exact ⟨z,rfl⟩
  refine ⟨l,_,0,_,rfl,rfl,Ss.of hl3,rfl,?_⟩
  refine ⟨_,rfl,p,10,rfl,b13.2,by decide,by decide,λlo H4 l0 l1 b4=>?_⟩
  refine ⟨_,rfl,_,rfl,p,4,rfl,b4.2,by decide,by decide,λhi H5 h0 h1 b5=>⟨_,_,rfl,rfl,?_⟩⟩
  refine ⟨_,rfl,_,rfl,_,rfl,_,rfl,_,_,rfl,rfl,_,_,rfl,rfl,p,lo+hi - lo+1,rfl,b5.2,by omega,Joh (by omega),λsv H6 s0 s1 b6=>⟨_,_,rfl,rfl,?_⟩⟩
  refine ⟨_,rfl,_,rfl,_,rfl,_,rfl,_,rfl,p,7,rfl,b6.2,by decide,by decide,λrn H7 n0 n1 b7=>?_⟩
  refine ⟨_,rfl,p,2,rfl,by omega,b7.2,λg G H8 b8 gt gg gm=>⟨(show 6<=S6 by decide),λt ht=>?_⟩⟩
  have b18:=(((b13.trans b4).trans (b5.trans b6)).trans b7).trans b8
  have sT:=Si.upd (o:=.tup [.str z,.int lo,.int (lo+hi),.int (lo+sv),.int rn,g]) ht
  have bt:Sd0 p (upd H8 t (.tup [.str z,.int lo,.int (lo+hi),.int (lo+sv),.int rn,g])) (.ref t) ⟨z,lo,lo+hi,lo+sv,rn,G⟩:=⟨t,g,rfl,Sn,gt.same sT⟩
  have b19:=b18.same sT
  generalize upd H8 t (.tup [.str z,.int lo,.int (lo+hi),.int (lo+sv),.int rn,g])=H9 at*
  refine ⟨_,rfl,_,rfl,p,6,rfl,b19.2,by decide,by decide,λwt HA w0 w1 bA=>⟨_,_,rfl,rfl,(show 3<=S6 by decide),λtt htt=>⟨(show 1<=S6 by decide),λL hL=>?_⟩⟩⟩
  have sB:=Si.upd (o:=.tup [.str "mill",.str z,.int (1+wt)]) htt
  have gB:=Sn (H:=HA) (a:=tt) (o:=.tup [.str "mill",.str z,.int (1+wt)])
  generalize upd HA tt (.tup [.str "mill",.str z,.int (1+wt)])=HB at*
  have sC:=Si.upd (o:=.lst [.ref tt]) hL
  have gC:=Sn (H:=HB) (a:=L) (o:=.lst [.ref tt])
  generalize upd HB L (.lst [.ref tt])=HC at*
  have b1C:=((b19.trans bA).same sB).same sC
  have nL:L≠p:=(((b19.trans bA).same sB)).2.ne hL
  have ntt:tt≠p:=(b19.trans bA).2.ne htt
  refine ⟨_,rfl,p,2,rfl,b1C.2,by decide,by decide,λr2 HD d0 d1 bD=>⟨_,rfl,L,_,rfl,Ss.of (bD.1 _ _ nL gC),λlt hlt=>?_⟩⟩
  have b1D:=b1C.trans bD
  obtain ⟨Ts,ts,ets,ttl,tn,tgd,td⟩:∃(Ts:List Jp8) (ts:List V),Jq3 [.ref tt] none (some r2)=ts/\TTL HD ts Ts/\Ts.length<=1/\(∀B∈Ts,Jpq B.z=true/\Ltr 8 B.z/\B.b∈ [z]/\1<=B.wt/\B.wt<=6)/\(Ts.map (·.z)).Nodup:=by
   have cs:r2=0\/r2=1:=by omega
   rcases cs with rfl|rfl
   ·exact ⟨[],[],rfl,True.intro,yai _,λB hB=>absurd hB (by simp),List.nodup_nil⟩
   ·refine ⟨[⟨"mill",z,1+wt⟩],[.ref tt],rfl,⟨⟨tt,rfl,bD.1 _ _ ntt (sC _ _ gB)⟩,True.intro⟩,yg _,λB hB=>?_,by simp⟩
    rw [yan.mp hB]
    exact ⟨(show Jpq "mill" =true by decide +kernel),⟨(show ("mill" :Str).length<=8 by decide +kernel),(show ∀c∈("mill" :Str).cps.toList,c∈LET.cps.toList by decide +kernel)⟩,by simp,by dsimp only;omega,by dsimp only;omega⟩
  rw [ets]
  have sE:=Si.upd (o:=.lst ts) hlt
  have gE:=Sn (H:=HD) (a:=lt) (o:=.lst ts)
  generalize upd HD lt (.lst ts)=HE at*
  have nlt:lt≠p:=b1D.2.ne hlt
  refine ⟨_,rfl,_,rfl,_,rfl,(show 1<=S6 by decide),λlb hlb=>⟨_,rfl,(show 4<=S6 by decide),λq hq=>?_⟩⟩
  have b1E:=b1D.same sE
  have nlb:lb≠p:=b1E.2.ne hlb
  have sF:=Si.upd (o:=.lst [.ref t]) hlb
  have gF:=Sn (H:=HE) (a:=lb) (o:=.lst [.ref t])
  generalize upd HE lb (.lst [.ref t])=HF at*
  have sG:=Si.upd (o:=.tup [.int (9+cl),.int gn,.ref lb,.ref lt]) hq
  have gG:=Sn (H:=HF) (a:=q) (o:=.tup [.int (9+cl),.int gn,.ref lb,.ref lt])
  generalize upd HF q (.tup [.int (9+cl),.int gn,.ref lb,.ref lt])=HG at*
  have sEG:=(sE.trans sF).trans sG
  have btG:=(((bt.but b19.2 (((bA.same sB).same sC).trans bD)).same sE).same sF).same sG
  have nz:=nms.2 z yah
  refine k (.ref q) ⟨9+cl,gn,[⟨z,lo,lo+hi,lo+sv,rn,G⟩],Ts⟩ HG ((b1E.same sF).same sG) ⟨q,lb,lt,[.ref t],ts,rfl,gG,sG _ _ gF,⟨btG,True.intro⟩,sG _ _ (sF _ _ gE),TTL.map (λx B h=>h.same sEG) ttl,nlb,nlt⟩ ⟨by dsimp only;omega,by dsimp only;omega,by simp,λB hB=>?_,by simp,yac tn (by decide),tgd,td⟩ ⟨1,4,13,2,2,7,by decide,rfl,by dsimp only;omega,by dsimp only;omega,λB hB=>?_⟩
  ·rw [yan.mp hB]
   exact ⟨⟨by dsimp only;omega,by dsimp only;omega,by dsimp only;omega,by dsimp only;omega,gg⟩,nz.1,nz.2⟩
  ·rw [yan.mp hB]
   exact ⟨by dsimp only;omega,by dsimp only;omega,gm⟩
theorem Cap.tn {n:Nat} {s r m:Int} (h:Cap n s r m):∃L C S T:Nat,s=L/\r=C/\m=S/\atI [V.int 3,.int 3,.int 2,.int 1] ((n:Int) - 1)=some (.int T)/\1<=T/\T<=3/\(n,L,C,S,T,C)∈ [(1,7,5,4,3,5),(1,4,13,2,2,7),(2,4,3,2,3,3),(3,3,2,2,2,2),(4,2,2,2,1,2)]/\1<=n/\n<=4:=by
 rcases h with ⟨rfl,rfl,rfl,rfl⟩|⟨rfl,rfl,rfl,rfl⟩|⟨rfl,rfl,rfl,rfl⟩|⟨rfl,rfl,rfl,rfl⟩
 ·exact ⟨7,5,4,3,rfl,rfl,rfl,rfl,by decide⟩
 ·exact ⟨4,3,2,3,rfl,rfl,rfl,rfl,by decide⟩
 ·exact ⟨3,2,2,2,rfl,rfl,rfl,rfl,by decide⟩
 ·exact ⟨2,2,2,1,rfl,rfl,rfl,rfl,by decide⟩
inductive Yd1 (vs:List V) (H:Hp) (Q:VK) (z3:XK):Prop where
 |mk (c:Int) (_:vs= [.int c]) (_:∀(x:V) (R:Jo4) (p:S1) (H':Hp),H p=none->Si H H'->Sby H' p->Sfu p H' x R->Jr5 R->Yb0 R->Q x H')
theorem Jxm {t1 t2:TS} {D:Sc1} {σ:L2.St} {H:Hp} (Mid:L2.St->Hp->Prop) (h1:∀R,(∀σ H,Mid σ H->R σ H)->t1 {D with nx:=R} σ H) (h2:∀σ H,Mid σ H->t2 D σ H):Sjs t1 t2 D σ H:=h1 _ h2
theorem Jun {i:Nat} {v:V} {σ:L2.St} {H:Hp} {t1 t2:TS} {D:Sc1} (h:Sjs t1 t2 D (σ.set i (some v)) H):Jog i v σ H (Sc1.nx {D with nx:=Sjs t1 t2 D}):=h
theorem Sa9:Jm2 ["_law_cell_here","_law_stream_here","_law_many","_law_cloud","_law_gain","_law_names_here","_law_basins","_law_towns","_law_name"] ["_law_cell_here"] (Jm0 (top 80)):=⟨rfl,rfl,rfl,by decide +kernel,rfl,by decide +kernel,by decide +kernel⟩
theorem Jxe (T:Tx K mg a):So P w K mg base CX0 4 a.Jkg a.Jkh ["_law_cell_here"] Yd1:=by
 have Sk:=Jo5 (P:=P) (w:=w) (base:=base) T
 have Sbo:=Js5 (P:=P) (w:=w) (base:=base) T
 have Sfl:=Jxa (P:=P) (w:=w) (base:=base) T
 have Sfm:=Jxb (P:=P) (w:=w) (base:=base) T
 have Sc8:=Jr7 (P:=P) (w:=w) (base:=base) T
 refine T.Ja4.fn.ok Sa9 (λvs H Q E h=>?_) (λcdv A outer s H vs Q E hr h=>?_)
 ·obtain ⟨c,rfl,_⟩:=h
  rfl
 ·obtain ⟨c,rfl,k⟩:=h
  refine ⟨?t,?B,?C⟩
  case B=>
   refine' Su ?O0 ?O1
   case O0=>exact (Jm7 (i:=1) Sa9.nd rfl (yal rfl) (Jlz T.Jy Sc8 hr (by decide) (Sj (pv 0) Sl)))
   case O1=>
   refine' Su ?O2 ?O3
   case O2=>exact (Jm7 (i:=2) Sa9.nd rfl (yal rfl) (Jm8 Jmg Sr (Jmc Jn3 (Jmt (pa8 Sr Sr Sr Sr Sr Sr Sr Sr)) (Jlz T.Jz Sk hr (by decide) (Sj (pv 1) (Sj Sr Sl))) (λ_ _=>rfl))))
   case O3=>
   refine' Su ?O4 ?O5
   case O4=>
    refine' Jmr ?O6 ?O7 ?O8
    case O6=>exact (PW.pt (Sn7 (Jmp Jr8 (pv 2) Sr (Jmy _)) (Yei (Jmp Jr8 (Jlz T.Jz Sk hr (by decide) (Sj (pv 1) (Sj Sr Sl))) Sr (Jmy _)))))
    case O7=>
     refine' Sx ?O9
     case O9=>exact (Jm5 (Jlz T.Ja3 Sfm hr (by decide) (Sj (pv 1) Sl)))
    case O8=>exact Jma
   case O5=>
   refine' Su ?Oa ?Ob
   case Oa=>exact (Jm7 (i:=3) Sa9.nd rfl (yf rfl) (Jlz T.Jz Sk hr (by decide) (Sj (pv 1) (Sj (Jmc Jn3 (Jmt (pa4 Sr Sr Sr Sr)) (Jm8 Jnl (pv 2) Sr) (λ_ _=>rfl)) Sl))))
   case Ob=>
   refine' Su ?Oc ?Od
   case Oc=>exact (Jm7 (i:=4) Sa9.nd rfl (yf rfl) (Jlz T.Jz Sk hr (by decide) (Sj (pv 1) (Sj (Jm8 Jmg (pv 3) Sr) Sl))))
   case Od=>
   refine' Su ?Oe ?Of
   case Oe=>exact (Jm7 (i:=5) Sa9.nd rfl (yf rfl) (Jlz T.Ja0 Sbo hr (by decide) (Sj (pv 1) (Sj (pv 2) Sl))))
   case Of=>
   refine' Su ?Og ?Oh
   case Og=>exact (Jsa (i:=6) (N:=(["_law_name","_law_stream_here","_law_many"]:List Str)) (ini:=[none,some 1,some 2]) Sa9.nd rfl (yf rfl) rfl (Jml (pv 5)) (λ_ _ _ _ _=>(Jm3 (i:=0) (by decide +kernel:(["_law_name","_law_stream_here","_law_many"]:List Str).Nodup) rfl (yf rfl))) (λ_ _ _ _ _=>Jmi) (λ_ _ _ _ _=>(Jlz T.Ja2 Sfl hr (by decide) (Sj (pv 1) (Sj (pv 0) (Sj (pv 2) Sl))))))
   case Oh=>
   refine' Su ?Oi ?Oj
   case Oi=>exact (Jm7 (i:=7) Sa9.nd rfl (yf rfl) (Jmt Sl))
   case Oj=>
   refine' Su ?Ok ?Ol
   case Ok=>
    refine' Jn5 ?Om ?On ?Oo ?Op ?Oq
    case Om=>exact PassesOwn.never
    case On=>exact rfl
    case Oo=>exact (Jml (Jpi Jxn (Jlz T.Ja0 Sbo hr (by decide) (Sj (pv 1) (Sj Sr Sl))) Js9 (Jpp (Jlz T.Jz Sk hr (by decide) (Sj (pv 1) (Sj (Jmc Jn3 (Jmt (pa4 Sr Sr Sr Sr)) (Jm8 Jnl (pv 2) Sr) (λ_ _=>rfl)) Sl))))))
    case Op=>exact (Jm3 (i:=8) Sa9.nd rfl (yf rfl))
    case Oq=>
    refine' Sx ?Or
    case Or=>exact (Jnd (Jps F.plainAttrs_list F.slot_list_append F.type_list_append Jor (pv 7) (Sj (Jn1 (Sj (pv 8) (Sj (Jmc Jn3 (pv 5) (Jlz T.Jz Sk hr (by decide) (Sj (pv 1) (Sj (pv 2) Sl))) (λ_ _=>rfl)) (Sj (Jm8 Jmg Sr (Jlz T.Jz Sk hr (by decide) (Sj (pv 1) (Sj Sr Sl)))) Sl)))) Sl)))
   case Ol=>
   refine' Sx ?Os
   case Os=>
   refine' Jm5 ?Ot
   case Ot=>
   refine' Jn1 ?Ou
   case Ou=>
   refine' pa4 ?Ov ?Ow ?Ox ?Oy
   case Ov=>exact (pv 3)
   case Ow=>exact (pv 4)
   case Ox=>exact (pv 6)
   case Oy=>exact (pv 7)
  refine ⟨_,rfl,c,rfl,λp H1 hp s1 st=>?_⟩
  refine ⟨(show 8<=S6 by decide),λL0 hL0=>?_⟩
  have nL0:L0≠p:=st.ne hL0
  have b0:=But.of st (Si.upd (o:=.lst [V.int 0,V.int 0,V.int 1,V.int 1,V.int 1,V.int 2,V.int 2,V.int 3]) hL0)
  refine ⟨_,rfl,p,8,rfl,b0.2,by decide,by decide,λr3 H4 r30 r31 b1=>?_⟩
  obtain ⟨n,m0,cs,cr,cm,hat,em,cap⟩:∃(n:Nat) (m0 cs cr cm:Int),atI [V.int 0,V.int 0,V.int 1,V.int 1,V.int 1,V.int 2,V.int 2,V.int 3] r3=some (.int m0)/\1+m0=n/\Cap n cs cr cm:=by
   have cs:r3=0\/r3=1\/r3=2\/r3=3\/r3=4\/r3=5\/r3=6\/r3=7:=by omega
   rcases cs with rfl|rfl|rfl|rfl|rfl|rfl|rfl|rfl
   ·exact ⟨1,0,_,_,_,rfl,rfl,.inl ⟨rfl,rfl,rfl,rfl⟩⟩
   ·exact ⟨1,0,_,_,_,rfl,rfl,.inl ⟨rfl,rfl,rfl,rfl⟩⟩
   ·exact ⟨2,1,_,_,_,rfl,rfl,.inr (.inl ⟨rfl,rfl,rfl,rfl⟩)⟩
   ·exact ⟨2,1,_,_,_,rfl,rfl,.inr (.inl ⟨rfl,rfl,rfl,rfl⟩)⟩
   ·exact ⟨2,1,_,_,_,rfl,rfl,.inr (.inl ⟨rfl,rfl,rfl,rfl⟩)⟩
   ·exact ⟨3,2,_,_,_,rfl,rfl,.inr (.inr (.inl ⟨rfl,rfl,rfl,rfl⟩))⟩
   ·exact ⟨3,2,_,_,_,rfl,rfl,.inr (.inr (.inl ⟨rfl,rfl,rfl,rfl⟩))⟩
   ·exact ⟨4,3,_,_,_,rfl,rfl,.inr (.inr (.inr ⟨rfl,rfl,rfl,rfl⟩))⟩
  refine ⟨L0,_,r3,_,rfl,rfl,Ss.of (b1.1 _ _ nL0 Sn),hat,_,_,rfl,rfl,?_⟩
  rw [em]
  obtain ⟨a1,a2,a3,bs_,br,bm⟩:=cap.at
  obtain ⟨CL,CC,CS,CT,e1,e2,e3,a4,ct1,ct3,mem,n1,n4⟩:=cap.tn
  have b5:=b0.trans b1
  refine Jun ?_
  refine Jxm (λσ H'=>σ= [some (.int c),some (.ref p),some (.int n),none,none,none,none,none,none]/\But p H1 H') (λR hR=>?_) ?_
  ·refine ⟨_,rfl,rfl,_,rfl,Sii (λ_=>?_) (λ_=>hR _ _ ⟨rfl,b5⟩)⟩
   refine ⟨_,rfl,p,6,rfl,b5.2,by decide,by decide,λr6 H5 _ _ b6=>⟨rfl,_,rfl,Sii (λ_=>?_) (λ_=>hR _ _ ⟨rfl,b5.trans b6⟩)⟩⟩
   have b56:=b5.trans b6
   exact ⟨_,rfl,p,rfl,b6.2,λx R' H6 b7 rt rg rl=>k x R' p H6 hp (λy u e=>(b56.trans b7).1 _ _ (Jm1 e hp) (s1 _ _ e)) (b56.trans b7).2 rt rg rl⟩
  rintro σ H5' ⟨rfl,b5'⟩
  refine ⟨_,rfl,(show 4<=S6 by decide),λL1 hL1=>?_⟩
  have c5:=b5'.same (Si.upd (o:=.lst [V.int 5,.int 3,.int 2,.int 2]) hL1)
  refine ⟨_,rfl,_,_,rfl,rfl,L1,_,_,_,rfl,rfl,Ss.of Sn,a2,p,cr,rfl,c5.2,by omega,Joh (by omega),λcl H5 c0 c1 b6=>?_⟩
  refine ⟨_,rfl,_,rfl,_,_,rfl,rfl,p,cl+1,rfl,b6.2,by omega,Joh (by omega),λgn H6 g0 g1 b7=>?_⟩
  refine ⟨_,rfl,_,rfl,p,n,rfl,b7.2,by omega,λl zs H7 hl b8 hl7 len nms=>?_⟩
  have b57:=(c5.trans b6).trans (b7.trans b8)
  have nlp:l≠p:=b7.2.ne hl
  refine ⟨_,rfl,l,rfl,⟨_,Ss.of hl7⟩,λD hD=>?_⟩
  have nD:D≠p:=b57.2.ne hD
  refine Jnk (K:=K) (a:=l) (xs:=zs.map V.str) (D:=D) (λi σ H'=>∃(o:Option V) (bs:List V) (Bs:List Jo7),σ= [o,some (.ref p),some (.int n)]/\H' D=some (.lst bs)/\BTL p H' bs Bs/\Bs.length=i/\(∀B∈Bs,Jvu B)/\(∀B∈Bs,Lgt cs cr cm B)/\Bs.map (·.z)=zs.take i/\But p H7 H') ?_ ?_ ?_ ?_
  ·exact ⟨_,[],[],rfl,Sn,True.intro,rfl,(λB hB=>absurd hB (by simp)),(λB hB=>absurd hB (by simp)),rfl,But.of b57.2 (Si.upd hD)⟩
  ·rintro i σ H' _ ⟨o,bs,Bs,rfl,_,_,_,_,_,_,b⟩
   exact Ss.of (b.1 _ _ nlp hl7)
  ·rintro i x σ H' hx ⟨o,bs,Bs,rfl,hDs,btl,hln,good,lgt,names,b⟩
   rw [yj] at hx
   cases ez:zs[i]? with
   |none=>rw [ez] at hx;cases hx
   |some z=>
    rw [ez] at hx
    cases hx
    have hi:i < zs.length:=(yi.mp ez).1
    refine Jn6 ⟨_,rfl,_,rfl,_,rfl,p,z,n,cs,cr,cm,rfl,b.2,cap,λx B H8 b9 bt bg bz bl=>?_⟩
    have btl8:=BTL.map (λx B _ h=>h.but b.2 b9) good btl
    have hD8:=b9.1 _ _ nD hDs
    have blen:=btl.len
    refine ⟨bs,hD8,Jmn (by omega),_,bs++ [x],Bs++ [B],rfl,Sn,?_,by rw [yab];show Bs.length+1=i+1;omega,?_,?_,?_,(b.trans b9).updD hD nD⟩
    ·exact BTL.snoc (bt.put bg hD8 btl.refs) (BTL.map (λx B g h=>h.put g hD8 btl.refs) good btl8)
    ·intro B' hB'
     rcases yba.mp hB' with h|h
     ·exact good B' h
     ·rw [yan.mp h]
      exact bg
    ·intro B' hB'
     rcases yba.mp hB' with h|h
     ·exact lgt B' h
     ·rw [yan.mp h]
      exact bl
    ·rw [yag,names,yy,ez,List.map_singleton,bz]
     rfl
  rintro σ H8 ⟨o,bs,Bs,rfl,hDs,btl,hln,good,lgt,names,b9⟩
  rw [ye] at hln names
  rw [ybl] at names
  have st8:Sby H8 p:=b9.2
  have hl8:=b9.1 _ _ nlp hl7
  refine ⟨(show 0<=S6 by decide),λlt hlt=>?_⟩
  have nlt:lt≠p:=st8.ne hlt
  have sA:=Si.upd (o:=.lst []) hlt
  have bA:=But.of st8 sA
  refine ⟨_,rfl,p,2,rfl,bA.2,by omega,λl2 ys HB hl2 bB hB len2 nms2=>?_⟩
  have nl2:l2≠p:=bA.2.ne hl2
  refine ⟨_,rfl,(show 4<=S6 by decide),λL4 hL4=>?_⟩
  have cB:=bB.same (Si.upd (o:=.lst [V.int 3,.int 3,.int 2,.int 1]) hL4)
  refine ⟨_,rfl,_,_,rfl,rfl,L4,_,_,_,rfl,rfl,Ss.of Sn,a4,p,CT,rfl,cB.2,by omega,Joh (by omega),λr4 HC r40 r41 bC=>⟨_,rfl,l2,_,rfl,Ss.of (bC.1 _ _ nl2 ((Si.upd hL4) _ _ hB)),λq hq=>?_⟩⟩
  obtain ⟨us,eu,hus,ul4⟩:∃us:List Str,Jq3 (ys.map V.str) none (some r4)=us.map V.str/\us.Sublist ys/\us.length < CT:=by
   obtain ⟨k4,rfl⟩:=yca r40
   refine ⟨ys.take k4,by rw [Ybb _ k4 (by rw [ye];omega),List.map_take],List.take_sublist _ _,?_⟩
   rw [yad]
   omega
  rw [eu]
  have bD:=(bA.trans cB).trans bC
  have nq:q≠p:=bD.2.ne hq
  have hltC:HC lt=some (.lst []):=bC.1 _ _ nlt (cB.1 _ _ nlt Sn)
  have nql:q≠lt:=λe=>by rw [e,hltC] at hq;cases hq
  have sq:=Si.upd (o:=.lst (us.map V.str)) hq
  have ul:us.length<=3:=by
   have:=hus.length_le
   omega
  refine ⟨q,rfl,⟨_,Ss.of Sn⟩,?_⟩
  refine Jno (xs:=us.map V.str) (λi σ H'=>∃(o:Option V) (ts:List V) (Ts:List Jp8),σ= [some (.int c),some (.ref p),some (.int n),some (.int cl),some (.int gn),some (.ref l),some (.ref D),some (.ref lt),o]/\H' lt=some (.lst ts)/\TTL H' ts Ts/\Ts.length=i/\Ts.map (·.z)=us.take i/\(∀B∈Ts,B.b∈zs/\1<=B.wt/\B.wt<=6)/\But p H8 H'/\H' q=some (.lst (us.map V.str))) ?_ ?_ ?_ ?_
  ·exact ⟨_,[],[],rfl,sq _ _ hltC,True.intro,rfl,rfl,λB hB=>absurd hB (by simp),bD.same sq,Sn⟩
  ·rintro i σ H' _ ⟨_,_,_,_,_,_,_,_,_,_,h⟩
   exact Ss.of h
  ·rintro i x σ H' hx ⟨o,ts,Ts,rfl,hts,ttl,tln,tnm,tgd,b,hq'⟩
   rw [yj] at hx
   cases ez:us[i]? with
   |none=>rw [ez] at hx;cases hx
   |some u=>
    rw [ez] at hx
    cases hx
    have hi:i < us.length:=(yi.mp ez).1
    have tlen:=ttl.len
    refine ⟨_,rfl,.inl ⟨rfl,_,Ss.of hts⟩,_,rfl,_,rfl,_,rfl,_,rfl,p,n,rfl,b.2,by omega,Joh (by omega),λr5 HE e0 e1 bE=>?_⟩
    have hr5:r5.toNat < zs.length:=by omega
    refine ⟨l,_,r5,.str zs[r5.toNat],rfl,rfl,Ss.of (bE.1 _ _ nlp (b.1 _ _ nlp hl8)),Jsl (j:=r5.toNat) (by omega) (by rw [yj,yh hr5];rfl),?_⟩
    refine ⟨_,rfl,p,3,rfl,bE.2,by decide,by decide,λr6 HF f0 f1 bF=>⟨_,_,rfl,rfl,(show 3<=S6 by decide),λt ht=>?_⟩⟩
    have bG:=bE.trans bF
    have htsF:=bG.1 _ _ nlt hts
    have sT:=Si.upd (o:=.tup [.str u,.str zs[r5.toNat],.int (1+r6)]) ht
    refine ⟨lt,_,_,rfl,rfl,sT _ _ htsF,Jmn (by omega),?_⟩
    refine ⟨_,ts++ [.ref t],Ts++ [⟨u,zs[r5.toNat],1+r6⟩],rfl,Sn,?_,by rw [yab];show Ts.length+1=i+1;omega,?_,?_,((b.trans bG).same sT).updD hlt nlt,?_⟩
    ·refine TTL.snoc ?_ (TTL.map (λx B h=>(((h.but b.2 bG).same sT).put (sT _ _ htsF))) ttl)
     exact Sdk.put (sT _ _ htsF) ⟨t,rfl,Sn⟩
    ·rw [yag,tnm,yy,ez]
     rfl
    ·intro B hB
     rcases yba.mp hB with h|h
     ·exact tgd B h
     ·rw [yan.mp h]
      exact ⟨yat hr5,by dsimp only;omega,by dsimp only;omega⟩
    ·rw [Sw nql]
     exact sT _ _ (bG.1 _ _ nq hq')
  ·rintro σ HZ ⟨o,ts,Ts,rfl,hts,ttl,tln,tnm,tgd,b,_⟩
   rw [ye] at tln tnm
   rw [ybl] at tnm
   refine ⟨_,rfl,_,rfl,_,rfl,_,rfl,(show 4<=S6 by decide),λt ht=>?_⟩
   have sT:=Si.upd (o:=.tup [.int cl,.int gn,.ref D,.ref lt]) ht
   have bZ:=((b57.trans b9).trans b).same sT
   refine k (.ref t) ⟨cl,gn,Bs,Ts⟩ p _ hp (λx u e=>bZ.1 _ _ (Jm1 e hp) (s1 _ _ e)) bZ.2 ⟨t,D,lt,bs,ts,rfl,Sn,sT _ _ (b.1 _ _ nD hDs),BTL.map (λx B _ h=>(h.but st8 b).same sT) good btl,sT _ _ hts,TTL.map (λx B h=>h.same sT) ttl,nD,nlt⟩ ?_ ?_
   ·refine ⟨by dsimp only;omega,by dsimp only;omega,by dsimp only;omega,λB hB=>⟨good B hB,nms.2 _ (by rw [<-names];exact ybc hB)⟩,by dsimp only;rw [names];exact nms.1,by dsimp only;omega,λB hB=>?_,?_⟩
    ·have hu:B.z∈us:=by rw [<-tnm];exact ybc hB
     have h1:=nms2.2 _ (hus.subset hu)
     have h2:=tgd B hB
     exact ⟨h1.1,h1.2,by dsimp only;rw [names];exact h2.1,h2.2⟩
    ·dsimp only
     rw [tnm]
     exact hus.nodup nms2.1
   ·exact ⟨n,CL,CC,CS,CT,CC,mem,by dsimp only;omega,by dsimp only;omega,by dsimp only;omega,by rw [<-e1,<-e2,<-e3];exact lgt⟩
def nOf (G:Jme):Nat:=match G.sv with
 |some _=>1
 |none=>G.ns.length
inductive GX (a:Ad) (H:Hp) (x:V) (G:Jme):Prop where
 |mk (g:S1) (_:Sbw (cOf a G.kd) H g (G.ns.map V.int)) (_:match G.sv with|none=>x= .ref g|some j=>∃s dx,x= .ref s/\H s=some (.ins a.Jlo dx [("gate",.ref g),("setting",.int j)]))
theorem GX.same {a:Ad} {H H':Hp} {x:V} {G:Jme} (s:Si H H') (h:GX a H x G):GX a H' x G:=by
 obtain ⟨g,ga,r⟩:=h
 refine ⟨g,ga.same s,?_⟩
 cases e:G.sv with
 |none=>rw [e] at r;exact r
 |some j=>
  rw [e] at r
  obtain ⟨q,dx,r1,r2⟩:=r
  exact ⟨q,dx,r1,s _ _ r2⟩
theorem GX.gs {K:Sd} {a:Ad} {H:Hp} {x:V} {G:Jme} (gg:Sbh G) (h:GX a H x G):GS K a H x (nOf G):=by
 obtain ⟨g,ga,r⟩:=h
 unfold nOf
 cases e:G.sv with
 |none=>
  rw [e] at r
  subst r
  have q:=GS.plain (K:=K) Yb4 ga (by rw [ye];exact gg.len.2)
  rw [ye] at q
  exact q
 |some j=>
  rw [e] at r
  obtain ⟨q,dx,rfl,r2⟩:=r
  exact .stuck r2
inductive Yd3 (a:Ad) (b:Nat) (vs:List V) (H:Hp) (Q:VK) (z3:XK):Prop where
 |mk (p:S1) (x:V) (G:Jme) (_:vs= [x]) (_:Sd1 p H x G) (_:Sbh G) (_:1<=b) (_:(G.sv=none\/2<=b)) (_:∀(g:V) (H':Hp),Si H H'->GX a H' g G->Q g H')
inductive Sww (K:Sd) (a:Ad) (vs:List V) (H:Hp) (Q:VK) (z3:XK):Prop where
 |mk (p:S1) (x:V) (G:Jme) (_:vs= [x]) (_:Sd1 p H x G) (_:Sbh G) (_:∀(g:V) (H':Hp),Si H H'->GX a H' g G->Q g H')
theorem Jxt {H:Hp} {ns:List Int} {y:V} (h:y∈ns.map V.int):Tm K H y:=by
 obtain ⟨i,_,rfl⟩:=yo.mp h
 exact .inl ⟨i,rfl⟩
theorem Jui {C:S1} {lo:Int} {x:V} {H:Hp} {Q1:Hp->Prop} {E:XK} {g dx:S1} (c:Cls K C) (n:NoAttr K C "marks") (hg:H g=none) (hd:H dx=none) (ne:dx≠g)
  (h:∃xs,Sq H x xs/\(∀y∈xs,Tm K H y)/\Jpw lo xs=true/\∀H',Si H H'->Sbw C H' g xs->Q1 H'):
  Jxp K a lo [.ref g,x] (upd (upd H dx (.own g)) g (.ins C dx [])) (λv H2=>v= .non/\Q1 H2) E:=by
 have s1:Si H (upd (upd H dx (.own g)) g (.ins C dx [])):=λb o e=>by rw [Sw (Jm1 e hg),Sw (Jm1 e hd)];exact e
 refine ⟨g,C,dx,x,rfl,Sn,c,n,?_⟩
 obtain ⟨xs,sq,tms,e,k⟩:=h
 refine .inl ⟨xs,sq.same s1,λy hy=>(tms y hy).same s1,e,λt H' s' ht=>⟨rfl,?_⟩⟩
 have ng:t≠g:=Skq ht (s' _ _ Sn) (by intro z;cases z)
 exact k _ (λb o e=>by rw [Sw (Jm1 e hg)];exact s' _ _ (s1 _ _ e)) ⟨dx,t,Sn,by rw [Sw ng];exact ht⟩
theorem Jt5:Jm2 ["_law_told"] ["_law_told"] (Jm0 (top 81)):=⟨rfl,rfl,rfl,by decide +kernel,rfl,by decide +kernel,by decide +kernel⟩
theorem Jp3 (T:Tx K mg a) (b:Nat) (Sbi:So P w K mg base CX0 (5+b) a.Jki a.Jkj ["_law_told"] (Yd3 a b)):So P w K mg base CX0 (5+b+1) a.Jki a.Jkj ["_law_told"] (Yd3 a (b+1)):=by
 have Sd5:=Jsv (P:=P) (w:=w) (base:=base) T
 have Sd2:=Jst (P:=P) (w:=w) (base:=base) T
 have Sd3:=Jsu (P:=P) (w:=w) (base:=base) T
 have Scp:=Js4 (P:=P) (w:=w) (base:=base) T
 refine T.Ja5.fn.ok Jt5 (λvs H Q E h=>?_) (λcdv A outer s H vs Q E hr h=>?_)
 ·obtain ⟨p,x,G,rfl,_⟩:=h
  rfl
 ·obtain ⟨p,x,⟨kd,ns,sv⟩,rfl,⟨t,m,rfl,hm,nm,hc⟩,gg,hb1,hb2,k⟩:=h
  refine ⟨?t,?B,?C⟩
  case B=>
   refine' Su ?O0 ?O1
   case O0=>
    refine' Jmr ?O2 ?O3 ?O4
    case O2=>exact (Jmp Jr8 (Jm4 Jmd (by rfl) T.Jau Jnf (Sj (pv 0) Sl)) Sr (Jmy _))
    case O3=>
     refine' Sx ?O5
     case O5=>exact (Jm5 (Jof T.Jej Scp.calm (hr.mono (by omega)) (by rfl) T.Jbk T.Jd8.bd .nil Job (Sj (Jlz T.Ja5 Sbi hr (yg _) (Sj (Jn1 (Sj (Jmc Jmh (pv 0) Sr (λ_ _=>rfl)) (Sj (Jmc Jmh (pv 0) Sr (λ_ _=>rfl)) Sl))) Sl)) (Sj (Jmc Jmh (pv 0) Sr (λ_ _=>rfl)) Sl))))
    case O4=>exact Jma
   case O1=>
   refine' Su ?O6 ?O7
   case O6=>
    refine' Jmr ?O8 ?O9 ?Oa
    case O8=>exact (Jmp Jr8 (Jmc Jmh (pv 0) Sr (λ_ _=>rfl)) Jp7 (Jmy _))
    case O9=>
     refine' Sx ?Ob
     case Ob=>exact (Jm5 (Jof T.Je1 Sd5.calm (hr.mono (by omega)) (by rfl) T.Jbh T.Jcz.bd .nil Job (Sj (Jmf Jnu (by rfl) T.Jav Jni (Sj (Jmc Jmh (pv 0) Sr (λ_ _=>rfl)) Sl)) Sl)))
    case Oa=>exact Jma
   case O7=>
   refine' Su ?Oc ?Od
   case Oc=>
    refine' Jmr ?Oe ?Of ?Og
    case Oe=>exact (Jmp Jr8 (Jmc Jmh (pv 0) Sr (λ_ _=>rfl)) Jp7 (Jmy _))
    case Of=>
     refine' Sx ?Oh
     case Oh=>exact (Jm5 (Jof T.Je7 Sd2.calm (hr.mono (by omega)) (by rfl) T.Jbi T.Jd2.bd .nil Job (Sj (Jmf Jnu (by rfl) T.Jav Jni (Sj (Jmc Jmh (pv 0) Sr (λ_ _=>rfl)) Sl)) Sl)))
    case Og=>exact Jma
   case Od=>
   refine' Sx ?Oi
   case Oi=>exact (Jm5 (Jof T.Jed Sd3.calm (hr.mono (by omega)) (by rfl) T.Jbj T.Jd5.bd .nil Job (Sj (Jmf Jnu (by rfl) T.Jav Jni (Sj (Jmc Jmh (pv 0) Sr (λ_ _=>rfl)) Sl)) Sl)))
  have hkd:Knd kd:=gg.kd
  have har:Jpw (Jp5 kd) (ns.map V.int)=true:=gg.ns
  have hsv:∀i,sv=some i->0<=i/\i < (ns.length:Int):=gg.sv
  have hlen:=gg.len
  dsimp only at hc hlen
  rcases hc with ⟨rfl,ht⟩|⟨j,m2,rfl,ht,hm2,nm2⟩
  ·have hm':H m=some (.lst (ns.map V.int)):=hm
   refine ⟨_,rfl,t,_,rfl,.inr (Sy.of ht),rfl,_,rfl,Jyc (λz=>absurd (V.int.inj z) (show (2:Int)≠4 by decide)) ?_⟩
   rcases hkd with rfl|rfl|rfl
   ·have e1:Jp5 "step" =0:=if_neg Srl
    have e2:cOf a "step" =a.Jll:=if_pos rfl
    have hr':Jpw (0) (ns.map V.int)=true:=by rw [<-e1];exact har
    refine ⟨_,rfl,t,_,0,_,rfl,rfl,Sy.of ht,rfl,rfl,_,rfl,Jzf rfl ⟨_,rfl,t,_,1,_,rfl,rfl,Sy.of ht,rfl,m,_,rfl,.inl (Ss.of hm'),λl hl g dx hg hd ne=>Jui T.Jdz T.Jfg hg hd ne ⟨ns.map V.int,.lst Sn,λy hy=>Jxt hy,hr',λH' s' ga=>?_⟩⟩⟩
    exact k _ _ ((Si.upd hl).trans s') ⟨g,by rw [e2];exact ga,rfl⟩
   ·have e1:Jp5 "flap" =0:=if_neg Srk
    have e2:cOf a "flap" =a.Jlm:=by unfold cOf;rw [if_neg Jwg,if_pos rfl]
    have hr':Jpw (0) (ns.map V.int)=true:=by rw [<-e1];exact har
    refine ⟨_,rfl,t,_,0,_,rfl,rfl,Sy.of ht,rfl,rfl,_,rfl,Jyc (Soa Jwg) ⟨_,rfl,t,_,0,_,rfl,rfl,Sy.of ht,rfl,rfl,_,rfl,Jzf rfl ⟨_,rfl,t,_,1,_,rfl,rfl,Sy.of ht,rfl,m,_,rfl,.inl (Ss.of hm'),λl hl g dx hg hd ne=>Jui T.Je5 T.Jfh hg hd ne ⟨ns.map V.int,.lst Sn,λy hy=>Jxt hy,hr',λH' s' ga=>?_⟩⟩⟩⟩
    exact k _ _ ((Si.upd hl).trans s') ⟨g,by rw [e2];exact ga,rfl⟩
   ·have e1:Jp5 "part" =1:=if_pos rfl
    have e2:cOf a "part" =a.Jln:=by unfold cOf;rw [if_neg Jwi,if_neg Jwh]
    have hr':Jpw (1) (ns.map V.int)=true:=by rw [<-e1];exact har
    refine ⟨_,rfl,t,_,0,_,rfl,rfl,Sy.of ht,rfl,rfl,_,rfl,Jyc (Soa Jwi) ⟨_,rfl,t,_,0,_,rfl,rfl,Sy.of ht,rfl,rfl,_,rfl,Jyc (Soa Jwh) ⟨_,rfl,t,_,1,_,rfl,rfl,Sy.of ht,rfl,m,_,rfl,.inl (Ss.of hm'),λl hl g dx hg hd ne=>Jui T.Jeb T.Jfi hg hd ne ⟨ns.map V.int,.lst Sn,λy hy=>Jxt hy,hr',λH' s' ga=>?_⟩⟩⟩⟩
    exact k _ _ ((Si.upd hl).trans s') ⟨g,by rw [e2];exact ga,rfl⟩
  ·have hj:=hsv j rfl
   have b1:1<=b:=by
    rcases hb2 with h|h
    ·cases h
    ·omega
   refine ⟨_,rfl,t,_,rfl,.inr (Sy.of ht),rfl,_,rfl,Jzf rfl ?_⟩
   refine ⟨_,rfl,t,_,0,_,rfl,rfl,Sy.of ht,rfl,_,rfl,t,_,2,_,rfl,rfl,Sy.of ht,rfl,(show 2<=S6 by decide),λq hq=>?_⟩
   have sq:=Si.upd (o:=.tup [.str kd,.ref m2]) hq
   refine ⟨p,_,⟨kd,ns,none⟩,rfl,⟨q,m2,rfl,sq _ _ hm2,nm2,.inl ⟨rfl,Sn⟩⟩,⟨hkd,har,λ_ z=>by cases z⟩,b1,.inl rfl,λgv H1 s1 gx=>?_⟩
   obtain ⟨g,ga,rfl⟩:=gx
   have s01:=sq.trans s1
   have gs:GS K a H1 (.ref g) ns.length:=by
    have q:=GS.plain (K:=K) Yb4 ga (by rw [ye];exact hlen.2)
    rw [ye] at q
    exact q
   refine ⟨_,rfl,t,_,3,_,rfl,rfl,Sy.of (s01 _ _ ht),rfl,λx dx hx hdx ne=>?_⟩
   have sn:Si H1 (upd (upd H1 dx (.own x)) x (.ins a.Jlo dx [])):=λb o e=>by rw [Sw (Jm1 e hx),Sw (Jm1 e hdx)];exact e
   refine ⟨x,dx,_,.int j,rfl,Sn,.inr (.inr ⟨ns.length,gs.same sn,.inl ⟨j,rfl⟩,by simp [Jmm];omega,rfl,?_⟩)⟩
   have sx:Si H1 (upd (upd (upd H1 dx (.own x)) x (.ins a.Jlo dx [])) x (.ins a.Jlo dx [("gate",.ref g),("setting",.int j)])):=by
    rw [Jne]
    exact λb o e=>by rw [Sw (Jm1 e hx),Sw (Jm1 e hdx)];exact e
   exact k _ _ (s01.trans sx) ⟨g,ga.same sx,x,dx,rfl,Sn⟩
theorem Jsy (T:Tx K mg a):So P w K mg base CX0 7 a.Jki a.Jkj ["_law_told"] (Sww K a):=by
 have h0:So P w K mg base CX0 (5+0) a.Jki a.Jkj ["_law_told"] (Yd3 a 0):=by
  refine ⟨λvs H Q E h=>?_,λA outer s H args us vs Q E hr he hb hv h=>?_⟩ <;>
  ·obtain ⟨_,_,_,_,_,_,z,_⟩:=h
   exact absurd z (by omega)
 refine (Jp3 T 1 (Jp3 T 0 h0)).imp λvs H Q E h=>?_
 obtain ⟨p,x,G,e,gt,gg,k⟩:=h
 exact ⟨p,x,G,e,gt,gg,by omega,.inr (by omega),k⟩
theorem GS.put {K:Sd} {a:Ad} {H:Hp} {x:V} {n:Nat} {D:S1} {bs:List V} {o:HO} (hD:H D=some (.lst bs)) (h:GS K a H x n):GS K a (upd H D o) x n:=by
 cases h with
 |plain i g l=>
  obtain ⟨dx,t,h1,h2⟩:=g
  exact .plain i ⟨dx,t,by rw [Sw (λz=>by rw [z,hD] at h1;cases h1)];exact h1,by rw [Sw (λz=>by rw [z,hD] at h2;cases h2)];exact h2⟩ l
 |stuck e=>exact .stuck (by rw [Sw (λz=>by rw [z,hD] at e;cases e)];exact e)
theorem Sc4.put {K:Sd} {a:Ad} {H:Hp} {b D:S1} {B:Bsn} {bs:List V} {o:HO} (hD:H D=some (.lst bs)) (h:Sc4 K a H b B):Sc4 K a (upd H D o) b B:=by
 obtain ⟨dx,h1,h2⟩:=h
 exact ⟨dx,by rw [Sw (λz=>by rw [z,hD] at h1;cases h1)];exact h1,h2.put hD⟩
theorem Sbs.map {K:Sd} {a:Ad} {H H':Hp} (f:∀x B,Sc4 K a H x B->Sc4 K a H' x B):∀{xs:List S1} {Bs:List Bsn},Sbs K a H xs Bs->Sbs K a H' xs Bs:=by
 intro xs
 induction xs with
 |nil=>
  intro Bs h
  cases Bs with
  |nil=>exact True.intro
  |cons B Bs=>exact False.elim h
 |cons x xs ih=>
  intro Bs h
  cases Bs with
  |nil=>exact False.elim h
  |cons B Bs=>exact ⟨f _ _ (yar h),ih (yam h)⟩
theorem Sbs.snoc {K:Sd} {a:Ad} {H:Hp} {x:S1} {B:Bsn} (h:Sc4 K a H x B):∀{xs:List S1} {Bs:List Bsn},Sbs K a H xs Bs->Sbs K a H (xs++ [x]) (Bs++ [B]):=by
 intro xs
 induction xs with
 |nil=>
  intro Bs q
  cases Bs with
  |nil=>exact ⟨h,True.intro⟩
  |cons B Bs=>exact False.elim q
 |cons x xs ih=>
  intro Bs q
  cases Bs with
  |nil=>exact False.elim q
  |cons B Bs=>exact ⟨yar q,ih (yam q)⟩
theorem Scg.put {a:Ad} {H:Hp} {b D:S1} {B:Twn} {bs:List V} {o:HO} (hD:H D=some (.lst bs)) (h:Scg a H b B):Scg a (upd H D o) b B:=by
 obtain ⟨dx,h1⟩:=h
 exact ⟨dx,by rw [Sw (λz=>by rw [z,hD] at h1;cases h1)];exact h1⟩
theorem Sbz.map {a:Ad} {H H':Hp} (f:∀x B,Scg a H x B->Scg a H' x B):∀{xs:List S1} {Bs:List Twn},Sbz a H xs Bs->Sbz a H' xs Bs:=by
 intro xs
 induction xs with
 |nil=>
  intro Bs h
  cases Bs with
  |nil=>exact True.intro
  |cons B Bs=>exact False.elim h
 |cons x xs ih=>
  intro Bs h
  cases Bs with
  |nil=>exact False.elim h
  |cons B Bs=>exact ⟨f _ _ (yar h),ih (yam h)⟩
theorem Sbz.snoc {a:Ad} {H:Hp} {x:S1} {B:Twn} (h:Scg a H x B):∀{xs:List S1} {Bs:List Twn},Sbz a H xs Bs->Sbz a H (xs++ [x]) (Bs++ [B]):=by
 intro xs
 induction xs with
 |nil=>
  intro Bs q
  cases Bs with
  |nil=>exact ⟨h,True.intro⟩
  |cons B Bs=>exact False.elim q
 |cons x xs ih=>
  intro Bs q
  cases Bs with
  |nil=>exact False.elim q
  |cons B Bs=>exact ⟨yar q,ih (yam q)⟩
theorem BTL.get {p:S1} {H:Hp}:∀{xs:List V} {Bs:List Jo7} {i:Nat} {x:V},BTL p H xs Bs->xs[i]?=some x->∃B,Bs[i]?=some B/\Sd0 p H x B:=by
 intro xs
 induction xs with
 |nil=>intro Bs i x h e;simp at e
 |cons x xs ih=>
  intro Bs i y h e
  cases Bs with
  |nil=>exact False.elim h
  |cons B Bs=>
   cases i with
   |zero=>cases e;exact ⟨B,rfl,yar h⟩
   |succ i=>exact @ih Bs i _ (yam h) (by simpa using e)
theorem TTL.get {H:Hp}:∀{xs:List V} {Bs:List Jp8} {i:Nat} {x:V},TTL H xs Bs->xs[i]?=some x->∃B,Bs[i]?=some B/\Sdk H x B:=by
 intro xs
 induction xs with
 |nil=>intro Bs i x h e;simp at e
 |cons x xs ih=>
  intro Bs i y h e
  cases Bs with
  |nil=>exact False.elim h
  |cons B Bs=>
   cases i with
   |zero=>cases e;exact ⟨B,rfl,yar h⟩
   |succ i=>exact @ih Bs i _ (yam h) (by simpa using e)
theorem GX.put {a:Ad} {H:Hp} {x:V} {G:Jme} {D:S1} {bs:List V} {o:HO} (hD:H D=some (.lst bs)) (h:GX a H x G):GX a (upd H D o) x G:=by
 obtain ⟨g,⟨dx,t,h1,h2⟩,r⟩:=h
 refine ⟨g,⟨dx,t,by rw [Sw (λz=>by rw [z,hD] at h1;cases h1)];exact h1,by rw [Sw (λz=>by rw [z,hD] at h2;cases h2)];exact h2⟩,?_⟩
 cases e:G.sv with
 |none=>rw [e] at r;exact r
 |some j=>
  rw [e] at r
  obtain ⟨q,dx,r1,r2⟩:=r
  exact ⟨q,dx,r1,by rw [Sw (λz=>by rw [z,hD] at r2;cases r2)];exact r2⟩
def GXL (a:Ad) (H:Hp):List V->List Jme->Prop
 | [],[]=>True
 |x::xs,G::Gs=>GX a H x G/\GXL a H xs Gs
 |_,_=>False
theorem GXL.map {a:Ad} {H H':Hp} (f:∀x G,GX a H x G->GX a H' x G):∀{xs:List V} {Gs:List Jme},GXL a H xs Gs->GXL a H' xs Gs:=by
 intro xs
 induction xs with
 |nil=>
  intro Bs h
  cases Bs with
  |nil=>exact True.intro
  |cons B Bs=>exact False.elim h
 |cons x xs ih=>
  intro Bs h
  cases Bs with
  |nil=>exact False.elim h
  |cons B Bs=>exact ⟨f _ _ (yar h),ih (yam h)⟩
theorem GXL.snoc {a:Ad} {H:Hp} {x:V} {G:Jme} (h:GX a H x G):∀{xs:List V} {Gs:List Jme},GXL a H xs Gs->GXL a H (xs++ [x]) (Gs++ [G]):=by
 intro xs
 induction xs with
 |nil=>
  intro Bs q
  cases Bs with
  |nil=>exact ⟨h,True.intro⟩
  |cons B Bs=>exact False.elim q
 |cons x xs ih=>
  intro Bs q
  cases Bs with
  |nil=>exact False.elim q
  |cons B Bs=>exact ⟨yar q,ih (yam q)⟩
theorem GXL.get {a:Ad} {H:Hp}:∀{xs:List V} {Gs:List Jme} {i:Nat} {x:V},GXL a H xs Gs->xs[i]?=some x->∃G,Gs[i]?=some G/\GX a H x G:=by
 intro xs
 induction xs with
 |nil=>intro Bs i x h e;simp at e
 |cons x xs ih=>
  intro Bs i y h e
  cases Bs with
  |nil=>exact False.elim h
  |cons B Bs=>
   cases i with
   |zero=>cases e;exact ⟨B,rfl,yar h⟩
   |succ i=>exact @ih Bs i _ (yam h) (by simpa using e)
theorem GXL.same {a:Ad} {H H':Hp} {xs:List V} {Gs:List Jme} (s:Si H H') (h:GXL a H xs Gs):GXL a H' xs Gs:=h.map λ_ _ h=>h.same s
def Jrs (B:Bsn):Str×Int×Int×Int×Int×Nat:=(B.z,B.lo,B.hi,B.st,B.rn,B.n)
def Jty (B:Jo7):Str×Int×Int×Int×Int×Nat:=(B.z,B.lo,B.hi,B.st,B.rn,nOf B.G)
structure Jua (R:Jo4) (S:Riv):Prop where
 c:S.c=R.c
 g:S.g=R.g
 Bs:S.Bs.map Jrs=R.Bs.map Jty
 Ts:S.Ts.map (λB=>(B.z,B.b,B.wt))=R.Ts.map (λB=>(B.z,B.b,B.wt))
inductive Yev (K:Sd) (a:Ad) (vs:List V) (H:Hp) (Q:VK) (z3:XK):Prop where
 |mk (p:S1) (x:V) (R:Jo4) (_:vs= [x]) (_:Sfu p H x R) (_:Jr5 R) (_:∀(o:S1) (S:Riv) (H':Hp),Si H H'->Sak K a H' o S->Jua R S->GXL a H' (S.Bs.map (·.g)) (R.Bs.map (·.G))->Q (.ref o) H')
theorem GS.gti {H:Hp} {x:V} {n:Nat} (T:Tx K mg a) (g:GS K a H x n):GtI K a H x true:=by
 cases g with
 |plain i ga l=>
  obtain ⟨dx,t,h1,h2⟩:=ga
  rcases i with rfl|rfl|rfl
  ·exact ⟨_,.of (T.Je0.ty T.Jdz h1),T.Jfy,T.Jg8,_,T.Jg4,λ_=>rfl,by intro w';cases w'⟩
  ·exact ⟨_,.of (T.Je6.ty T.Je5 h1),T.Jfz,T.Jg9,_,T.Jg5,λ_=>rfl,by intro w';cases w'⟩
  ·exact ⟨_,.of (T.Jec.ty T.Jeb h1),T.Jg0,T.Jga,_,T.Jg6,λ_=>rfl,by intro w';cases w'⟩
 |stuck h1=>exact ⟨_,.of (T.Jei.ty T.Jeh h1),T.Jg1,T.Jgb,_,T.Jg7,λ_=>rfl,by intro w';cases w'⟩
theorem Jzl {H:Hp} {z:Str} (h:Ltr 8 z):Nmd K H (.str z):=⟨.inr ⟨_,.of (.str z),rfl⟩,λy e=>by cases e;exact ⟨yac h.len (by omega),h.wd.low⟩⟩
theorem Sah:Jm2 ["_law_told","_law_basins","_law_name","_law_low","_law_high","_law_start","_law_rain","_law_gate_here"] ["_law_told"] (Jm0 (top 82)):=⟨rfl,rfl,rfl,by decide +kernel,rfl,by decide +kernel,by decide +kernel⟩
theorem Jyl (T:Tx K mg a):So P w K mg base CX0 8 a.Jkk a.Jkl ["_law_told"] (Yev K a):=by
 have Sbi:=Jsy (P:=P) (w:=w) (base:=base) T
 have Sdx:=Jvj (P:=P) (w:=w) (base:=base) T
 have Sed:=Jx5 (P:=P) (w:=w) (base:=base) T
 have Sdy:=Jvk (P:=P) (w:=w) (base:=base) T
 refine T.Ja6.fn.ok Sah (λvs H Q E h=>?_) (λcdv A outer s H vs Q E hr h=>?_)
 ·obtain ⟨p,x,R,rfl,_⟩:=h
  rfl
 ·obtain ⟨p,x,R,rfl,⟨t,lb,lt,bs,ts,rfl,ht,hb,btl,htt,ttl,_,_⟩,rg,k⟩:=h
  refine ⟨?t,?B,?C⟩
  case B=>
   refine' Su ?O0 ?O1
   case O0=>exact (Jm7 (i:=1) Sah.nd rfl (yf rfl) (Jmt Sl))
   case O1=>
   refine' Su ?O2 ?O3
   case O2=>
    refine' Jn5 ?O4 ?O5 ?O6 ?O7 ?O8
    case O4=>exact PassesOwn.never
    case O5=>exact rfl
    case O6=>exact (Jml (Jmc Jmh (pv 0) Sr (λ_ _=>rfl)))
    case O7=>exact (Jqe rfl (Jmb (Jm3 (i:=2) Sah.nd rfl (yf rfl)) (Jmb (Jm3 (i:=3) Sah.nd rfl (yf rfl)) (Jmb (Jm3 (i:=4) Sah.nd rfl (yf rfl)) (Jmb (Jm3 (i:=5) Sah.nd rfl (yf rfl)) (Jmb (Jm3 (i:=6) Sah.nd rfl (yf rfl)) (Jmb (Jm3 (i:=7) Sah.nd rfl (yf rfl)) Jnv)))))))
    case O8=>
    refine' Sx ?O9
    case O9=>exact (Jnd (Jps F.plainAttrs_list F.slot_list_append F.type_list_append Jor (pv 1) (Sj (Jof T.Jep Sdx.calm (hr.mono (by decide)) (by rfl) T.Jbl T.Jdb.bd .nil Job (pa6 (pv 2) (pv 3) (pv 4) (pv 5) (pv 6) (Jlz T.Ja5 Sbi hr (by decide) (Sj (pv 7) Sl)))) Sl)))
   case O3=>
   refine' Sx ?Oa
   case Oa=>
   refine' Jm5 ?Ob
   case Ob=>exact (Jof T.Jeu Sdy.calm (hr.mono (by decide)) (by rfl) T.Jbn T.Jdd.bd .nil Job (pa4 (Jmc Jmh (pv 0) Sr (λ_ _=>rfl)) (Jmc Jmh (pv 0) Sr (λ_ _=>rfl)) (pv 1) (Jmj (N:=(["_law_name","_law_basin_here","_law_want"]:List Str)) (ini:=[none,none,none]) rfl (Jml (Jmc Jmh (pv 0) Sr (λ_ _=>rfl))) (λ_ _ _ _ _=>(Jqw (K:=K) (n:=3) rfl rfl (Jmb (Jm3 (i:=0) (by decide +kernel:(["_law_name","_law_basin_here","_law_want"]:List Str).Nodup) rfl (yf rfl)) (Jmb (Jm3 (i:=1) (by decide +kernel:(["_law_name","_law_basin_here","_law_want"]:List Str).Nodup) rfl (yf rfl)) (Jmb (Jm3 (i:=2) (by decide +kernel:(["_law_name","_law_basin_here","_law_want"]:List Str).Nodup) rfl (yf rfl)) Jnv))))) (λ_ _ _ _ _=>Jmi) (λ_ _ _ _ _=>(Jof T.Jes Sed.calm (hr.mono (by decide)) (by rfl) T.Jbm T.Jdc.bd .nil Job (Sj (pv 0) (Sj (pv 1) (Sj (pv 2) Sl))))))))
  refine ⟨(show 0<=S6 by decide),λnb hnb=>?_⟩
  have s0:=Si.upd (o:=.lst []) hnb
  refine ⟨_,rfl,t,_,2,_,rfl,rfl,Sy.of (s0 _ _ ht),rfl,lb,rfl,⟨_,Ss.of (s0 _ _ hb)⟩,?_⟩
  have blen:=btl.len
  refine Jno (xs:=bs) (λi σ H'=>∃(o1 o2 o3 o4 o5 o6:Option V) (os:List S1) (Bs:List Bsn),σ= [some (.ref t),some (.ref nb),o1,o2,o3,o4,o5,o6]/\H' nb=some (.lst (os.map V.ref))/\Sbs K a H' os Bs/\Bs.length=i/\Bs.map Jrs=(R.Bs.take i).map Jty/\GXL a H' (Bs.map (·.g)) ((R.Bs.take i).map (·.G))/\Si H H') ?_ ?_ ?_ ?_
  ·exact ⟨_,_,_,_,_,_,[],[],rfl,Sn,True.intro,rfl,rfl,True.intro,s0⟩
  ·rintro i σ H' _ ⟨_,_,_,_,_,_,_,_,_,_,_,_,_,_,sm⟩
   exact Ss.of (sm _ _ hb)
  ·rintro i x σ H' hx ⟨o1,o2,o3,o4,o5,o6,os,Bs,rfl,hnbs,bl,bln,bkey,gxl,sm⟩
   obtain ⟨B,eB,⟨tb,g,rfl,htb,gt⟩⟩:=btl.get hx
   have hB:B∈R.Bs:=yr eB
   obtain ⟨bg,bnm,blt⟩:=rg.Bs B hB
   have olen:=bl.len
   have hi:i < R.Bs.length:=(yi.mp eB).1
   have hn:=rg.n
   refine ⟨tb,_,rfl,Sy.of (sm _ _ htb),rfl,_,_,rfl,_,_,rfl,_,_,rfl,_,_,rfl,_,_,rfl,_,_,rfl,rfl,?_⟩
   refine ⟨_,rfl,.inl ⟨rfl,_,Ss.of hnbs⟩,_,rfl,_,rfl,_,rfl,_,rfl,_,rfl,_,rfl,p,g,B.G,rfl,gt.same sm,bg.G,λgv H1 s1 gx=>?_⟩
   have gs:GS K a H1 gv (nOf B.G):=gx.gs bg.G
   intro x dx hx1 hd1 ne
   have sn:Si H1 (upd (upd H1 dx (.own x)) x (.ins a.Jlp dx [])):=λb o e=>by rw [Sw (Jm1 e hx1),Sw (Jm1 e hd1)];exact e
   refine ⟨x,dx,.str B.z,.int B.lo,.int B.hi,.int B.st,.int B.rn,gv,true,none,rfl,Sn,Jzl blt,.inl ⟨_,rfl⟩,.inl ⟨_,rfl⟩,.inl ⟨_,rfl⟩,.inl ⟨_,rfl⟩,(gs.gti T).same sn,.good B.lo B.hi bnm rfl rfl (Jp1 bg.lo.1 bg.lo.2) (Jp1 bg.hi.1 bg.hi.2) (Jp1 bg.st.1 bg.st.2) (Jp1 bg.rn.1 bg.rn.2) rfl,λH2 s2=>⟨rfl,?_⟩⟩
   have s3:Si H1 (upd H2 x (.ins a.Jlp dx (Slz (.str B.z) (.int B.lo) (.int B.hi) (.int B.st) (.int B.rn) gv))):=λb o e=>by rw [Sw (Jm1 e hx1)];exact s2 _ _ (sn _ _ e)
   have s13:=s1.trans s3
   have hnb3:=s13 _ _ hnbs
   refine ⟨nb,_,_,rfl,rfl,hnb3,by rw [ye];exact Jmn (by omega),?_⟩
   refine ⟨_,_,_,_,_,_,os++ [x],Bs++ [⟨B.z,B.lo,B.hi,B.st,B.rn,gv,nOf B.G⟩],rfl,by rw [Sn,yag];rfl,?_,by rw [yab];show Bs.length+1=i+1;omega,?_,?_,?_⟩
   ·exact Sbs.snoc (Sc4.put hnb3 ⟨dx,Sn,gs.same s3⟩) (Sbs.map (λx B h=>(h.same s13).put hnb3) bl)
   ·rw [yag,bkey,yy,eB,yag]
    rfl
   ·rw [yag,yy,eB,yag]
    exact GXL.snoc (GX.put hnb3 (gx.same s3)) (GXL.map (λx G h=>(h.same s13).put hnb3) gxl)
   ·intro b o e
    rw [Sw (Jm1 e hnb)]
    exact s13 _ _ (sm _ _ e)
  ·rintro σ H1 ⟨o1,o2,o3,o4,o5,o6,os,Bs,rfl,hnbs,bl,bln,bkey,gxl,sm⟩
   rw [yae (by omega)] at bkey gxl
   refine ⟨_,rfl,t,_,0,_,rfl,rfl,Sy.of (sm _ _ ht),rfl,?_⟩
   refine ⟨_,rfl,t,_,1,_,rfl,rfl,Sy.of (sm _ _ ht),rfl,?_⟩
   refine ⟨_,rfl,_,rfl,t,_,3,_,rfl,rfl,Sy.of (sm _ _ ht),rfl,lt,rfl,⟨_,Ss.of (sm _ _ htt)⟩,λD hD=>?_⟩
   have tlen:=ttl.len
   refine Jnk (K:=K) (a:=lt) (xs:=ts) (D:=D) (λi σ H'=>∃(o1 o2 o3:Option V) (ws:List S1) (Ws:List Twn),σ= [o1,o2,o3]/\H' D=some (.lst (ws.map V.ref))/\Sbz a H' ws Ws/\Ws.length=i/\Ws.map (λB=>(B.z,B.b,B.wt))=(R.Ts.take i).map (λB=>(B.z,B.b,B.wt))/\Si H1 H') ?_ ?_ ?_ ?_
   ·exact ⟨_,_,_,[],[],rfl,Sn,True.intro,rfl,rfl,Si.upd hD⟩
   ·rintro i σ H' _ ⟨_,_,_,_,_,_,_,_,_,_,s1⟩
    exact Ss.of (s1 _ _ (sm _ _ htt))
   ·rintro i x σ H' hx ⟨p1,p2,p3,ws,Ws,rfl,hDs,wl,wln,wkey,s1⟩
    obtain ⟨B,eB,⟨tb,rfl,htb⟩⟩:=ttl.get hx
    obtain ⟨bnm,blt,bin,bw⟩:=rg.Ts B (yr eB)
    have hi:i < R.Ts.length:=(yi.mp eB).1
    have h3:=rg.tn
    have wlen:=wl.len
    obtain ⟨Bb,hBb,ebb⟩:=yo.mp bin
    have blb:Ltr 8 B.b:=by rw [<-ebb];exact (rg.Bs Bb hBb).2.2
    have bnb:Jpq B.b=true:=by rw [<-ebb];exact (rg.Bs Bb hBb).2.1
    refine Sl5 (Sy.of (s1 _ _ (sm _ _ htb))) ⟨_,rfl,_,rfl,_,rfl,λx dx hx1 hd1 ne=>?_⟩
    have sn:Si H' (upd (upd H' dx (.own x)) x (.ins a.Jlq dx [])):=λb o e=>by rw [Sw (Jm1 e hx1),Sw (Jm1 e hd1)];exact e
    refine ⟨x,dx,.str B.z,.str B.b,.int B.wt,none,rfl,Sn,Jzl blt,Jzl blb,.inl ⟨_,rfl⟩,.good bnm bnb (Jp1 bw.1 bw.2),λH2 s2=>⟨rfl,?_⟩⟩
    have s3:Si H' (upd H2 x (.ins a.Jlq dx (twnF (.str B.z) (.str B.b) (.int B.wt)))):=λb o e=>by rw [Sw (Jm1 e hx1)];exact s2 _ _ (sn _ _ e)
    have hD3:=s3 _ _ hDs
    refine ⟨_,hD3,by rw [ye];exact Jmn (by omega),_,_,_,ws++ [x],Ws++ [⟨B.z,B.b,B.wt⟩],rfl,by rw [Sn,yag];rfl,?_,by rw [yab];show Ws.length+1=i+1;omega,?_,?_⟩
    ·exact Sbz.snoc (Scg.put hD3 ⟨dx,Sn⟩) (Sbz.map (λx B h=>(h.same s3).put hD3) wl)
    ·rw [yag,wkey,yy,eB,yag]
     rfl
    ·intro b o e
     rw [Sw (Jm1 e hD)]
     exact s3 _ _ (s1 _ _ e)
   ·rintro σ H2 ⟨p1,p2,p3,ws,Ws,rfl,hDs,wl,wln,wkey,s1⟩
    rw [yae (by omega)] at wkey
    intro x dx hx1 hd1 ne
    have sn:Si H2 (upd (upd H2 dx (.own x)) x (.ins a.Jlr dx [])):=λb o e=>by rw [Sw (Jm1 e hx1),Sw (Jm1 e hd1)];exact e
    have hz:Bs.map (·.z)=R.Bs.map (·.z):=by
     have:=congrArg (List.map (·.1)) bkey
     simpa [yaq,Jrs,Jty,Function.comp_def] using this
    have hr:Bs.map (·.rn)=R.Bs.map (·.rn):=by
     have:=congrArg (List.map (·.2.2.2.2.1)) bkey
     simpa [yaq,Jrs,Jty,Function.comp_def] using this
    have hw:Ws.map (·.z)=R.Ts.map (·.z):=by
     have:=congrArg (List.map (·.1)) wkey
     simpa [yaq,Function.comp_def] using this
    have hwb:Ws.map (·.b)=R.Ts.map (·.b):=by
     have:=congrArg (List.map (·.2.1)) wkey
     simpa [yaq,Function.comp_def] using this
    have n1:=rg.n
    have n2:=rg.tn
    refine ⟨x,dx,nb,D,R.c,R.g,os,ws,Bs,Ws,rfl,Sn,rg.c,rg.g,sn _ _ (s1 _ _ hnbs),(bl.same s1).same sn,by omega,by rw [hz];exact rg.nd,sn _ _ hDs,wl.same sn,by omega,by rw [hw];exact rg.td,λB hB=>?_,λH3 b t s3 hb3 ht3 nb3 nt3=>⟨rfl,?_⟩⟩
    ·have:B.b∈R.Ts.map (·.b):=by rw [<-hwb];exact ybc hB
     obtain ⟨C,hC,e⟩:=yo.mp this
     rw [hz,<-e]
     exact (rg.Ts C hC).2.2.1
    ·have s4:Si H2 (upd H3 x (.ins a.Jlr dx (Sjp (.int R.c) (.int R.g) (.ref b) (.ref t)))):=λb o e=>by rw [Sw (Jm1 e hx1)];exact s3 _ _ (sn _ _ e)
     refine k x ⟨R.c,R.g,Bs,Ws⟩ _ ((sm.trans s1).trans s4) ⟨dx,b,t,os,ws,Sn,by rw [Sw nb3];exact hb3,(bl.same s1).same s4,by rw [Sw nt3];exact ht3,wl.same s4,by dsimp only;omega,by dsimp only;omega,λB hB=>?_⟩ ⟨rfl,rfl,bkey,wkey⟩ ((gxl.same s1).same s4)
     have:B.rn∈R.Bs.map (·.rn):=by rw [<-hr];exact ybc hB
     obtain ⟨C,hC,e⟩:=yo.mp this
     rw [<-e]
     exact (rg.Bs C hC).1.rn
def Jpt (ns:List Int):Int:=ns.foldl (·*·) 1
theorem Jzw (ns:List Int) (n:Int):Jpt (ns++ [n])=Jpt ns*n:=by
 unfold Jpt
 rw [ybx]
 rfl
inductive So4 (vs:List V) (H:Hp) (Q:VK) (z3:XK):Prop where
 |mk (l:S1) (ns:List Int) (_:vs= [.ref l]) (_:H l=some (.lst (ns.map V.int))) (_:(∀n∈ns,0<=n/\n<=1000)) (_:Q (.int (Jpt ns)) H)
def lvN (B:Bsn):Int:=B.hi - B.lo+1
def stN (R:Riv):Int:=Jpt (R.Bs.map lvN)*(R.c+1)
inductive Sny (K:Sd) (a:Ad) (vs:List V) (H:Hp) (Q:VK) (z3:XK):Prop where
 |mk (b:S1) (B:Bsn) (_:vs= [.ref b]) (_:Sc4 K a H b B) (_:Q (.int (lvN B)) H)
inductive Ssa (K:Sd) (a:Ad) (vs:List V) (H:Hp) (Q:VK) (z3:XK):Prop where
 |mk (o:S1) (R:Riv) (_:vs= [.ref o]) (_:Sak K a H o R) (_:(∀B∈R.Bs,0<=lvN B/\lvN B<=1000)) (_:(0<=R.c/\R.c<=12)) (_:∀H',Si H H'->Q (.int (stN R)) H')
theorem Scm:Jm2 ["numbers","result","number"] ["numbers"] (Jm0 (top 32)):=⟨rfl,rfl,rfl,by decide +kernel,rfl,by decide +kernel,by decide +kernel⟩
theorem Jux (T:Tx K mg a):So P w K mg base CX0 1 a.Jhs a.Jht ["numbers"] So4:=by
 refine T.Je.fn.ok Scm (λvs H Q E h=>?_) (λcdv A outer s H vs Q E hr h=>?_)
 ·obtain ⟨l,ns,rfl,_⟩:=h
  rfl
 ·obtain ⟨l,ns,rfl,hl,hb,k⟩:=h
  refine ⟨?t,?B,?C⟩
  case B=>
   refine' Su ?O0 ?O1
   case O0=>exact (Jm7 (i:=1) Scm.nd rfl (yf rfl) Sr)
   case O1=>
   refine' Su ?O2 ?O3
   case O2=>
    refine' Jn5 ?O4 ?O5 ?O6 ?O7 ?O8
    case O4=>exact PassesOwn.never
    case O5=>exact rfl
    case O6=>exact (Jml (pv 0))
    case O7=>exact (Jm3 (i:=2) Scm.nd rfl (yf rfl))
    case O8=>
    refine' Sx ?O9
    case O9=>exact (Jzy (i:=1) Scm.nd rfl (yf rfl) (pv 2) Ybr)
   case O3=>
   refine' Sx ?Oa
   case Oa=>exact (Jm5 (pv 1))
  refine ⟨_,rfl,l,rfl,⟨_,Ss.of hl⟩,?_⟩
  refine Jno (xs:=ns.map V.int) (λi σ H'=>∃(o:Option V),σ= [some (.ref l),some (.int (Jpt (ns.take i))),o]/\H'=H) ?_ ?_ ?_ ?_
  ·exact ⟨_,rfl,rfl⟩
  ·rintro i σ H' _ ⟨_,_,rfl⟩
   exact Ss.of hl
  ·rintro i x σ H' hx ⟨o,rfl,rfl⟩
   rw [yj] at hx
   cases en:ns[i]? with
   |none=>rw [en] at hx;cases hx
   |some n=>
    rw [en] at hx
    cases hx
    have hn:=hb n (yr en)
    refine ⟨_,rfl,_,rfl,_,_,rfl,rfl,.inr ⟨by omega,by omega⟩,some (.int n),?_,rfl⟩
    rw [yy,en,show (some n).toList= [n] from rfl,Jzw]
    rfl
  ·rintro σ H' ⟨o,rfl,rfl⟩
   rw [ye,ybl]
   exact ⟨_,rfl,k⟩
theorem Jv7:Jm2 ["basin"] ["basin"] (Jm0 (top 33)):=⟨rfl,rfl,rfl,by decide +kernel,rfl,by decide +kernel,by decide +kernel⟩
theorem Jov (T:Tx K mg a):So P w K mg base CX0 1 a.Jhu a.Jhv ["basin"] (Sny K a):=by
 refine T.Jf.fn.ok Jv7 (λvs H Q E h=>?_) (λcdv A outer s H vs Q E hr h=>?_)
 ·obtain ⟨b,B,rfl,_⟩:=h
  rfl
 ·obtain ⟨b,B,rfl,⟨dx,hb,gs⟩,k⟩:=h
  refine ⟨?t,?B,?C⟩
  case B=>
   refine' Sx ?O0
   case O0=>exact (Jm5 (Jm8 Jmg (Jm8 Jnl (Jm9 (pv 0) (by rfl)) (Jm9 (pv 0) (by rfl))) Sr))
  exact ⟨_,rfl,b,_,dx,_,_,rfl,hb,T.Jen,T.Jfn,rfl,_,rfl,b,_,dx,_,_,rfl,hb,T.Jen,T.Jfm,rfl,_,_,rfl,rfl,_,_,rfl,rfl,k⟩
theorem Jsd:Jm2 ["river"] ["river"] (Jm0 (top 34)):=⟨rfl,rfl,rfl,by decide +kernel,rfl,by decide +kernel,by decide +kernel⟩
theorem Jp4 (T:Tx K mg a):So P w K mg base CX0 2 a.Jhw a.Jhx ["river"] (Ssa K a):=by
 have Sdz:=Jux (P:=P) (w:=w) (base:=base) T
 have Sal:=Jov (P:=P) (w:=w) (base:=base) T
 refine T.Jg.fn.ok Jsd (λvs H Q E h=>?_) (λcdv A outer s H vs Q E hr h=>?_)
 ·obtain ⟨o,R,rfl,_⟩:=h
  rfl
 ·obtain ⟨o,R,rfl,ro,hl,hc,k⟩:=h
  refine ⟨?t,?B,?C⟩
  case B=>
   refine' Sx ?O0
   case O0=>exact (Jm5 (Jm8 Jow (Jlz T.Je Sdz hr (by decide) (Sj (Jmj (N:=(["basin"]:List Str)) (ini:=[none]) rfl (Jt0 (Jm9 (pv 0) (by rfl))) (λ_ _ _ _ _=>(Jm3 (i:=0) (by decide +kernel:(["basin"]:List Str).Nodup) rfl (yf rfl))) (λ_ _ _ _ _=>Jmi) (λ_ _ _ _ _=>(Jlz T.Jf Sal hr (by decide) (Sj (pv 0) Sl)))) Sl)) (Jm8 Jmg (Jm9 (pv 0) (by rfl)) Sr)))
  obtain ⟨dx,b,t,os,ts,ho,hb,bl,ht,tl,n1,n2,n3⟩:=ro
  have len:=bl.len
  refine ⟨_,rfl,o,_,dx,_,_,rfl,ho,T.Jet,T.Jfw,rfl,b,rfl,⟨_,Sy.of hb⟩,λD hD=>?_⟩
  refine Jw5 ((R.Bs.map lvN).map V.int) hD (by simp [len]) (by rw [ye];omega) hb ?_ ?_
  ·intro i x y H' Q' hx hy sm k'
   obtain ⟨ob,B,rfl,hB,ba⟩:=(bl.same sm).get hx
   rw [yj,yj,hB] at hy
   cases hy
   exact ⟨_,rfl,ob,B,rfl,ba,k' _ λ_ _ h=>h⟩
  intro H1 s1 hD1
  refine ⟨D,_,rfl,hD1,λn hn=>?_,?_⟩
  ·obtain ⟨B,hB,rfl⟩:=yo.mp hn
   exact hl B hB
  exact ⟨_,rfl,o,_,dx,_,_,rfl,s1 _ _ ho,T.Jet,T.Jfu,rfl,_,_,rfl,rfl,_,_,rfl,rfl,.inr ⟨by omega,by omega⟩,k _ s1⟩
def Sdc (H:Hp) (x:V):Option (List (Int×Int))->Prop
 |none=>x= .non
 |some l=>∃(d:S1) (o:Obj),x= .ref d/\H d=some (.frz o (.dK (l.map λp=>(yn p.1,V.int p.2))))
theorem Sdc.same {H H':Hp} {x:V} {sk:Option (List (Int×Int))} (s:Si H H') (h:Sdc H x sk):Sdc H' x sk:=by
 cases sk with
 |none=>exact h
 |some l=>
  obtain ⟨d,o,e,h⟩:=h
  exact ⟨d,o,e,s _ _ h⟩
def SkB (R:Riv) (p:Int×Int):Prop:=0<=p.1/\∃B:Bsn,R.Bs[p.1.toNat]?=some B/\0<=p.2/\p.2 < B.n
def Jsj (R:Riv) (sk:Option (List (Int×Int))):Prop:=∀l,sk=some l->l.length<=16/\(l.map (·.1)).Nodup/\∀p∈l,SkB R p
inductive Yf1 (K:Sd) (a:Ad) (vs:List V) (H:Hp) (Q:VK) (z3:XK):Prop where
 |mk (o:S1) (R:Riv) (p:Int×Int) (_:vs= [.ref o,.int p.1,.int p.2]) (_:Sak K a H o R) (_:SkB R p) (_:Q (.bl true) H)
inductive Yam (K:Sd) (a:Ad) (vs:List V) (H:Hp) (Q:VK) (z3:XK):Prop where
 |mk (o:S1) (R:Riv) (x:V) (sk:Option (List (Int×Int))) (_:vs= [.ref o,x]) (_:Sak K a H o R) (_:Sdc H x sk) (_:Jsj R sk) (_:∀H',Si H H'->Q (.bl true) H')
theorem Jt4:Jm2 ["river","place","setting"] ["river","place","setting"] (Jm0 (top 29)):=⟨rfl,rfl,rfl,by decide +kernel,rfl,by decide +kernel,by decide +kernel⟩
theorem Jsx (T:Tx K mg a):So P w K mg base CX0 2 a.Jhm a.Jhn ["river","place","setting"] (Yf1 K a):=by
 have Sz:=Jnm (P:=P) (w:=w) (base:=base) T
 refine T.Jb.fn.ok Jt4 (λvs H Q E h=>?_) (λcdv A outer s H vs Q E hr h=>?_)
 ·obtain ⟨o,R,p,rfl,_⟩:=h
  rfl
 ·obtain ⟨o,R,⟨i,j⟩,rfl,⟨dx,b,t,os,ts,ho,hb,bl,ht,tl,n1,n2,n3⟩,⟨i0,B,eB,j0,j1⟩,k⟩:=h
  refine ⟨?t,?B,?C⟩
  case B=>
   refine' Su ?O0 ?O1
   case O0=>
    refine' Jmr ?O2 ?O3 ?O4
    case O2=>exact (Jmu (Jmx (Jlz T.J0 Sz hr (by decide) (Sj (pv 1) (Sj Sr (Sj (Jm8 Jnl (Jm4 Jmd (by rfl) T.Jau Jnf (Sj (Jm9 (pv 0) (by rfl)) Sl)) Sr) Sl))))))
    case O3=>
     refine' Sx ?O5
     case O5=>exact (Jm5 Jo6)
    case O4=>exact Jma
   case O1=>
   refine' Sx ?O6
   case O6=>exact (Jm5 (Jlz T.J0 Sz hr (by decide) (Sj (pv 2) (Sj Sr (Sj (Jm8 Jnl (Jqv (Jm9 (Jmc Jmh (Jm9 (pv 0) (by rfl)) (pv 1) (λ_ _=>rfl)) (by rfl)) hr) Sr) Sl)))))
  dsimp only at i0 eB j0 j1
  have len:=bl.len
  have hi:i.toNat < R.Bs.length:=(yi.mp eB).1
  have hio:i.toNat < os.length:=by omega
  obtain ⟨ob,B',eo,hB,dx',hb',gs⟩:=bl.get (i:=i.toNat) (v:=.ref os[i.toNat]) (by rw [yj,yh hio];rfl)
  rw [eB] at hB
  cases hB
  refine ⟨_,rfl,_,rfl,o,_,dx,_,_,rfl,ho,T.Jet,T.Jfw,rfl,b,_,rfl,.inr (Sy.of hb),_,_,rfl,rfl,.int i,0,_,rfl,.inl ⟨i,rfl⟩,_,rfl,ifF (by rw [ye];simp [Jmm];omega) ?_⟩
  refine ⟨_,rfl,_,rfl,o,_,dx,_,_,rfl,ho,T.Jet,T.Jfw,rfl,_,rfl,b,_,i,_,rfl,rfl,Sy.of hb,Jsl (j:=i.toNat) (by omega) (by rw [yj,yh hio];rfl),?_⟩
  rw [eo]
  refine ⟨ob,_,dx',_,_,rfl,hb',T.Jen,T.Jfq,rfl,Jnz T gs ⟨_,_,rfl,rfl,.int j,0,_,rfl,.inl ⟨j,rfl⟩,?_⟩ (by decide)⟩
  rw [show Jmm (.int j) 0 ((B.n:Int) - 1)=true by simp [Jmm];omega]
  exact k
theorem Jyu:Jm2 ["river","thing"] ["river","thing"] (Jm0 (top 30)):=⟨rfl,rfl,rfl,by decide +kernel,rfl,by decide +kernel,by decide +kernel⟩
theorem Jyj (T:Tx K mg a):So P w K mg base CX0 3 a.Jho a.Jhp ["river","thing"] (Yam K a):=by
 have Seg:=Jsx (P:=P) (w:=w) (base:=base) T
 refine T.Jc.fn.ok Jyu (λvs H Q E h=>?_) (λcdv A outer s H vs Q E hr h=>?_)
 ·obtain ⟨o,R,x,sk,rfl,_⟩:=h
  rfl
 ·obtain ⟨o,R,x,sk,rfl,ro,sa,so,k⟩:=h
  refine ⟨?t,?B,?C⟩
  case B=>
   refine' Su ?O0 ?O1
   case O0=>
    refine' Jmr ?O2 ?O3 ?O4
    case O2=>exact (Jmp Jzq (pv 1) Joy (Jmy _))
    case O3=>
     refine' Sx ?O5
     case O5=>exact (Jm5 Jo6)
    case O4=>exact Jma
   case O1=>
   refine' Su ?O6 ?O7
   case O6=>
    refine' Jmr ?O8 ?O9 ?Oa
    case O8=>exact (Jmu (Jmx (Jm4 Yb5 (by rfl) T.Jat Jmk (Sj (pv 1) (Sj (Jo0 (v:=.ty "dict") (by rfl) T.Jaq Yb rfl) Sl)))))
    case O9=>
     refine' Sx ?Ob
     case Ob=>exact (Jm5 Jo6)
    case Oa=>exact Jma
   case O7=>
   refine' Sx ?Oc
   case Oc=>exact (Jm5 (Jm4 (Jq2 rfl) (by rfl) T.Jao Jub (Sj (Jmj (N:=(["place","setting","river"]:List Str)) (ini:=[none,none,some 0]) rfl (Jyq (pv 1)) (λ_ _ _ _ _=>(Jqw (K:=K) (n:=2) rfl rfl (Jmb (Jm3 (i:=0) (by decide +kernel:(["place","setting","river"]:List Str).Nodup) rfl (yf rfl)) (Jmb (Jm3 (i:=1) (by decide +kernel:(["place","setting","river"]:List Str).Nodup) rfl (yf rfl)) Jnv)))) (λ_ _ _ _ _=>Jmi) (λ_ _ _ _ _=>(Jlz T.Jb Seg hr (by decide) (Sj (pv 2) (Sj (pv 0) (Sj (pv 1) Sl)))))) Sl)))
  cases sk with
  |none=>
   cases sa
   exact ⟨_,rfl,rfl,_,rfl,Jzf rfl (k _ λ_ _ h=>h)⟩
  |some l=>
   obtain ⟨d,ob,rfl,hd⟩:=sa
   obtain ⟨l16,lnd,lok⟩:=so l rfl
   refine ⟨_,rfl,rfl,_,rfl,Jyc (λz=>by cases z) ?_⟩
   refine ⟨_,rfl,d,_,rfl,.inr (.inl ⟨ob,hd⟩),_,rfl,Jn9 ?_⟩
   refine ⟨_,rfl,d,ob,_,rfl,hd,λD hD=>?_⟩
   refine Jzb (λi σ H'=>(∃o1 o2,σ= [o1,o2,some (.ref o)])/\Si H H'/\H' D=some (.lst ((yax i true).map V.bl))) ⟨⟨_,_,rfl⟩,Si.upd hD,Sn⟩ (λi σ H' _ ⟨_,sm,_⟩=>sm _ _ hd) ?_ ?_
   ·rintro i k x σ H' Ta hx ⟨⟨o1,o2,rfl⟩,sm,hDs⟩ hT
    rw [yj] at hx
    cases ep:l[i]? with
    |none=>rw [ep] at hx;cases hx
    |some p=>
     rw [ep] at hx
     cases hx
     have sT:=Si.upd (o:=.tup [V.int p.1,V.int p.2]) hT
     refine ⟨Ta,_,rfl,Sy.of Sn,rfl,_,_,rfl,_,_,rfl,rfl,?_⟩
     have lt:i < l.length:=(yi.mp ep).1
     refine ⟨_,rfl,_,rfl,_,rfl,o,R,p,rfl,(ro.same sm).same sT,lok p (yr ep),_,sT _ _ hDs,?_,⟨_,_,rfl⟩,?_,?_⟩
     ·rw [ye,ych]
      exact Jmn (by omega)
     ·exact λc u e=>by
       rw [Sw (Jm1 e hD)]
       exact sT _ _ (sm _ _ e)
     ·rw [Sn,List.replicate_succ',yag]
      rfl
   ·rintro σ H' ⟨_,sm,hDs⟩
    refine ⟨D,_,rfl,Ss.of hDs,?_⟩
    rw [show ∀n,(yax n true).all id=true from λn=>by simp]
    exact k _ sm
def rgI (n:Nat):List Int:=(yav n).map λk:Nat=>(k:Int)
def Jnt (R:Riv) (sk:Option (List (Int×Int))):List (List Int):=(sk.getD []).foldl (λrs p=>rs.set p.1.toNat [p.2]) (R.Bs.map λB=>rgI B.n)
def RwL (H:Hp) (D:S1) (vs:List V) (rs:List (List Int)):Prop:=vs.length=rs.length/\∀(i:Nat) (v:V) (r:List Int),vs[i]?=some v->rs[i]?=some r->∃q,v= .ref q/\q≠D/\H q=some (.lst (r.map V.int))
theorem RwL.on {H H':Hp} {D:S1} {vs:List V} {rs:List (List Int)} (f:∀q u,q≠D->H q=some u->H' q=some u) (h:RwL H D vs rs):RwL H' D vs rs:=by
 refine ⟨h.1,λi v r e1 e2=>?_⟩
 obtain ⟨q,rfl,n,g⟩:=h.2 i v r e1 e2
 exact ⟨q,rfl,n,f _ _ n g⟩
theorem RwL.snoc {H:Hp} {D q:S1} {vs:List V} {rs:List (List Int)} {r:List Int} (h:RwL H D vs rs) (n:q≠D) (g:H q=some (.lst (r.map V.int))):RwL H D (vs++ [.ref q]) (rs++ [r]):=by
 refine ⟨by rw [yab,yab,h.1];rfl,λi v r' e1 e2=>?_⟩
 rw [yck] at e1 e2
 have l:=h.1
 by_cases c:i < vs.length
 ·rw [if_pos c] at e1
  rw [if_pos (by omega)] at e2
  exact h.2 i v r' e1 e2
 ·rw [if_neg c] at e1
  rw [if_neg (by omega)] at e2
  rw [l] at e1
  have z:i - rs.length=0:=by
   have:=(yi.mp e2).1
   simp at this
   omega
  rw [z] at e1 e2
  cases e1
  cases e2
  exact ⟨q,rfl,n,g⟩
theorem RwL.set {H:Hp} {D q:S1} {vs:List V} {rs:List (List Int)} {r:List Int} {j:Nat} (h:RwL H D vs rs) (n:q≠D) (g:H q=some (.lst (r.map V.int))):RwL H D (vs.set j (.ref q)) (rs.set j r):=by
 refine ⟨by rw [ybt,ybt,h.1],λi v r' e1 e2=>?_⟩
 have l:=h.1
 rw [ycs] at e1 e2
 by_cases c:j=i
 ·rw [if_pos c] at e1 e2
  split at e1
  ·rw [if_pos (by omega)] at e2
   cases e1
   cases e2
   exact ⟨q,rfl,n,g⟩
  ·cases e1
 ·rw [if_neg c] at e1 e2
  exact h.2 i v r' e1 e2
theorem Ydv {n j:Nat} (h:j < n):ixN n (j:Int)=some j:=by
 unfold ixN
 rw [if_pos (by omega),if_pos (by omega)]
 rfl
inductive Ss6 (K:Sd) (a:Ad) (vs:List V) (H:Hp) (Q:VK) (z3:XK):Prop where
 |mk (o:S1) (R:Riv) (x:V) (sk:Option (List (Int×Int))) (_:vs= [.ref o,x]) (_:Sak K a H o R) (_:Sdc H x sk) (_:Jsj R sk) (_:∀(l:S1) (us:List V) (H':Hp),H l=none->Si H H'->H' l=some (.lst us)->RwL H' l us (Jnt R sk)->Q (.ref l) H')
theorem GS.le {K:Sd} {a:Ad} {H:Hp} {x:V} {n:Nat} (h:GS K a H x n):n<=4:=by
 cases h with
 |plain _ _ l=>exact l
 |stuck _=>decide
theorem Sb3:Jm2 ["river","stuck","let","place","setting"] ["river","stuck"] (Jm0 (top 31)):=⟨rfl,rfl,rfl,by decide +kernel,rfl,by decide +kernel,by decide +kernel⟩
theorem Jpr (T:Tx K mg a):So P w K mg base CX0 2 a.Jhq a.Jhr ["river","stuck"] (Ss6 K a):=by
 refine T.Jd.fn.ok Sb3 (λvs H Q E h=>?_) (λcdv A outer s H vs Q E hr h=>?_)
 ·obtain ⟨o,R,x,sk,rfl,_⟩:=h
  rfl
 ·obtain ⟨o,R,x,sk,rfl,⟨dx,b,t,os,ts,ho,hb,bl,ht,tl,n1,n2,n3⟩,sa,so,k⟩:=h
  refine ⟨?t,?B,?C⟩
  case B=>
   refine' Su ?O0 ?O1
   case O0=>exact (Jsa (i:=2) (N:=(["basin"]:List Str)) (ini:=[none]) Sb3.nd rfl (yf rfl) rfl (Jt0 (Jm9 (pv 0) (by rfl))) (λ_ _ _ _ _=>(Jm3 (i:=0) (by decide +kernel:(["basin"]:List Str).Nodup) rfl (yf rfl))) (λ_ _ _ _ _=>Jmi) (λ_ _ _ _ _=>(Jmf (Jnx rfl) (by rfl) T.Jav Jni (Sj (Jmf Jpa (by rfl) T.Jay Jq1 (Sj (Jzs (P:=P) (w:=w) (K:=K) (mg:=mg) (base:=base) rfl rfl rfl rfl rfl (Jo1 (K:=K) rfl (pv 0) (by rfl)) hr) Sl)) Sl))))
   case O1=>
   refine' Su ?O2 ?O3
   case O2=>
    refine' Jmr ?O4 ?O5 ?O6
    case O4=>exact (Jmp Ye9 (pv 1) Joy (Jmy _))
    case O5=>
     refine' Sx ?O7
     case O7=>
     refine' Jn5 ?O8 ?O9 ?Oa ?Ob ?Oc
     case O8=>exact PassesOwn.never
     case O9=>exact rfl
     case Oa=>exact (Jyq (pv 1))
     case Ob=>exact (Jqe rfl (Jmb (Jm3 (i:=3) Sb3.nd rfl (yf rfl)) (Jmb (Jm3 (i:=4) Sb3.nd rfl (yf rfl)) Jnv)))
     case Oc=>
     refine' Sx ?Od
     case Od=>exact (Jzx (Jmt (Sj (pv 4) Sl)) (Jzt (pv 2) (pv 3) Jsf))
    case O6=>exact Jma
   case O3=>
   refine' Sx ?Oe
   case Oe=>exact (Jm5 (pv 2))
  have len:=bl.len
  refine ⟨_,rfl,o,_,dx,_,_,rfl,ho,T.Jet,T.Jfw,rfl,b,rfl,⟨_,Sy.of hb⟩,λD hD=>?_⟩
  refine Jy6 (K:=K) (a:=b) (xs:=os.map V.ref) (D:=D) (λi σ H'=>∃(q:Option V) (us:List V),σ= [q]/\H' D=some (.lst us)/\RwL H' D us ((R.Bs.take i).map λB=>rgI B.n)/\Si H H') ?_ ?_ ?_ ?_
  ·exact ⟨_,[],rfl,Sn,⟨rfl,λi v r e=>by simp at e⟩,Si.upd hD⟩
  ·rintro i σ H' _ ⟨_,_,_,_,_,sm⟩
   exact Sy.of (sm _ _ hb)
  ·rintro i x σ H' hx ⟨q,us,rfl,hDs,rw_,sm⟩
   have hi:i < os.length:=by
    have:=(yi.mp hx).1
    rwa [ye] at this
   obtain ⟨ob,B,rfl,hB,dx',hb',gs⟩:=(bl.same sm).get hx
   have h4:=gs.le
   refine Jn6 ⟨_,rfl,ob,_,dx',_,_,rfl,hb',T.Jen,T.Jfq,rfl,Jnz T gs ⟨_,rfl,λp hp=>⟨p,_,_,rfl,Sn,by omega,by omega,by omega,by omega,λl hl=>?_⟩⟩ (by decide)⟩
   have er:((yav ((B.n:Int) - 0).toNat).map λk:Nat=>V.int (0+k))=(rgI B.n).map V.int:=by
    unfold rgI
    rw [yaq,Int.sub_zero,yau]
    exact yct λk _=>by simp
   rw [er]
   have s1:=Si.upd (o:=.rng 0 (B.n:Int)) hp
   have s2:=Si.upd (o:=.lst ((rgI B.n).map V.int)) hl
   have hD2:=s2 _ _ (s1 _ _ hDs)
   have nl:l≠D:=λz=>by
    rw [z,s1 _ _ hDs] at hl
    cases hl
   refine ⟨us,hD2,?_,_,us++ [.ref l],rfl,Sn,?_,λc u e=>?_⟩
   ·have:=rw_.1
    rw [ye,yad] at this
    exact Jmn (by omega)
   ·rw [yy,hB,yag]
    refine RwL.snoc (RwL.on (λq u n g=>?_) rw_) nl (by rw [Sw nl];exact Sn)
    rw [Sw n]
    exact s2 _ _ (s1 _ _ g)
   ·rw [Sw (Jm1 e hD)]
    exact s2 _ _ (s1 _ _ (sm _ _ e))
  rintro σ H1 ⟨_,us,_,hDs,rw_,sm⟩
  rw [yae (by rw [ye];omega)] at rw_
  cases sk with
  |none=>
   cases sa
   exact ⟨_,rfl,rfl,_,rfl,ifF (by simp) ⟨_,rfl,k D us H1 hD sm hDs rw_⟩⟩
  |some l=>
   obtain ⟨d,ob,rfl,hd⟩:=sa
   obtain ⟨l16,lnd,lok⟩:=so l rfl
   refine ⟨_,rfl,rfl,_,rfl,ifT (by simp) ?_⟩
   refine ⟨_,rfl,d,ob,_,rfl,sm _ _ hd,?_⟩
   refine Ya6 (λi σ H'=>∃(o3 o4:Option V) (us:List V),σ= [some (.ref o),some (.ref d),some (.ref D),o3,o4]/\H' D=some (.lst us)/\us.length=R.Bs.length/\RwL H' D us (Jnt R (some (l.take i)))/\Si H H') ?_ ?_ ?_ ?_
   ·exact ⟨_,_,us,rfl,hDs,by rw [rw_.1,ye],rw_,sm⟩
   ·rintro i σ H' _ ⟨_,_,_,_,_,_,_,sm⟩
    exact sm _ _ hd
   ·rintro i kk x σ H' Ta hx ⟨o3,o4,us,rfl,hDs,ul,rw_,sm⟩ hT
    rw [yj] at hx
    cases ep:l[i]? with
    |none=>rw [ep] at hx;cases hx
    |some p=>
     rw [ep] at hx
     cases hx
     have sT:=Si.upd (o:=.tup [kV (.inl p.1),V.int p.2]) hT
     obtain ⟨p0,B,eB,_⟩:=lok p (yr ep)
     have hp:p.1.toNat < R.Bs.length:=(yi.mp eB).1
     refine ⟨Ta,_,rfl,Sy.of Sn,rfl,_,_,rfl,_,_,rfl,rfl,?_⟩
     refine ⟨_,rfl,(show 1<=S6 by decide),λq hq=>?_⟩
     have s2:=Si.upd (o:=.lst [V.int p.2]) hq
     have hD2:=s2 _ _ (sT _ _ hDs)
     have nq:q≠D:=λz=>by
      rw [z,sT _ _ hDs] at hq
      cases hq
     refine ⟨_,rfl,_,rfl,D,us,p.1,p.1.toNat,rfl,rfl,hD2,?_,_,_,us.set p.1.toNat (.ref q),rfl,Sn,by rw [ybt,ul],?_,λc u e=>?_⟩
     ·have:=Ydv (n:=us.length) (j:=p.1.toNat) (by omega)
      rwa [Int.toNat_of_nonneg p0] at this
     ·have ef:Jnt R (some (l.take (i+1)))=(Jnt R (some (l.take i))).set p.1.toNat [p.2]:=by
       unfold Jnt
       show List.foldl _ _ (l.take (i+1))=List.set (List.foldl _ _ (l.take i)) _ _
       rw [yy,ep,ybx]
       rfl
      rw [ef]
      refine RwL.on (λb u n g=>by rw [Sw n];exact g) (RwL.set (RwL.on (λb u n g=>s2 _ _ (sT _ _ g)) rw_) nq Sn)
     ·rw [Sw (Jm1 e hD)]
      exact s2 _ _ (sT _ _ (sm _ _ e))
   ·rintro σ H2 ⟨o3,o4,us,rfl,hDs,ul,rw_,sm⟩
    rw [ye,ybl] at rw_
    exact ⟨_,rfl,k D us H2 hD sm hDs rw_⟩
theorem Jry (R:Riv) (sk:Option (List (Int×Int))) (h:∀B∈R.Bs,B.n<=4):∀r∈Jnt R sk,r.length<=4:=by
 unfold Jnt
 have go:∀(l:List (Int×Int)) (rs:List (List Int)),(∀r∈rs,r.length<=4)->∀r∈l.foldl (λrs p=>rs.set p.1.toNat [p.2]) rs,r.length<=4:=by
  intro l
  induction l with
  |nil=>exact λrs h=>h
  |cons p l ih=>
   intro rs h
   refine ih _ λr hr=>?_
   rcases ycw hr with hr|rfl
   ·exact h r hr
   ·exact (show 1<=4 by decide)
 refine go _ _ λr hr=>?_
 obtain ⟨B,hB,rfl⟩:=yo.mp hr
 unfold rgI
 rw [ye,yaz]
 exact h B hB
theorem Sbs.n4 {K:Sd} {a:Ad} {H:Hp} {os:List S1} {Bs:List Bsn} (h:Sbs K a H os Bs):∀B∈Bs,B.n<=4:=λB hB=>by
 obtain ⟨i,hi⟩:=ybk hB
 have lt:i < os.length:=by
  rw [h.len]
  exact (yi.mp hi).1
 obtain ⟨ob,B',_,e,dx,_,gs⟩:=h.get (i:=i) (v:=.ref os[i]) (by rw [yj,yh lt];rfl)
 rw [hi] at e
 cases e
 exact gs.le
def chN (R:Riv) (sk:Option (List (Int×Int))):Int:=Jpt ((Jnt R sk).map λr=>(r.length:Int))*(R.Ts.length+1)
inductive Ss3 (K:Sd) (a:Ad) (vs:List V) (H:Hp) (Q:VK) (z3:XK):Prop where
 |mk (o:S1) (R:Riv) (x:V) (sk:Option (List (Int×Int))) (_:vs= [.ref o,x]) (_:Sak K a H o R) (_:Sdc H x sk) (_:Jsj R sk) (_:∀H',Si H H'->Q (.int (chN R sk)) H')
theorem Jtw:Jm2 ["river","stuck"] ["river","stuck"] (Jm0 (top 35)):=⟨rfl,rfl,rfl,by decide +kernel,rfl,by decide +kernel,by decide +kernel⟩
theorem Jtu (T:Tx K mg a):So P w K mg base CX0 3 a.Jhy a.Jhz ["river","stuck"] (Ss3 K a):=by
 have Sdz:=Jux (P:=P) (w:=w) (base:=base) T
 have Sbv:=Jpr (P:=P) (w:=w) (base:=base) T
 refine T.Jh.fn.ok Jtw (λvs H Q E h=>?_) (λcdv A outer s H vs Q E hr h=>?_)
 ·obtain ⟨o,R,x,sk,rfl,_⟩:=h
  rfl
 ·obtain ⟨o,R,x,sk,rfl,ro,sa,so,k⟩:=h
  refine ⟨?t,?B,?C⟩
  case B=>
   refine' Sx ?O0
   case O0=>exact (Jm5 (Jm8 Jow (Jlz T.Je Sdz hr (by decide) (Sj (Jmj (N:=(["settings"]:List Str)) (ini:=[none]) rfl (Jml (Jlz T.Jd Sbv hr (by decide) (Sj (pv 0) (Sj (pv 1) Sl)))) (λ_ _ _ _ _=>(Jm3 (i:=0) (by decide +kernel:(["settings"]:List Str).Nodup) rfl (yf rfl))) (λ_ _ _ _ _=>Jmi) (λ_ _ _ _ _=>(Jm4 (Jvh (K:=K) rfl) (by rfl) T.Jau Jnf (Sj (pv 0) Sl)))) Sl)) (Jm8 Jmg (Jm4 Jmd (by rfl) T.Jau Jnf (Sj (Jm9 (pv 0) (by rfl)) Sl)) Sr)))
  refine ⟨_,rfl,_,rfl,o,R,x,sk,rfl,ro,sa,so,λl us H1 hl s1 hl1 rw_=>?_⟩
  obtain ⟨dx,b,t,os,ts,ho,hb,bl,ht,tl,n1,n2,n3⟩:=ro
  have r4:=Jry R sk bl.n4
  refine ⟨l,rfl,⟨_,Ss.of hl1⟩,λD hD=>?_⟩
  have ll:(Jnt R sk).length=R.Bs.length:=by
   unfold Jnt
   have go:∀(l:List (Int×Int)) (rs:List (List Int)),(l.foldl (λrs p=>rs.set p.1.toNat [p.2]) rs).length=rs.length:=by
    intro l
    induction l with
    |nil=>exact λrs=>rfl
    |cons p l ih=>exact λrs=>(ih _).trans ybt
   rw [go,ye]
  have ul:us.length=R.Bs.length:=by rw [rw_.1,ll]
  have bll:=bl.len
  refine Jug (((Jnt R sk).map λr=>(r.length:Int)).map V.int) hD (by rw [ye,ye];omega) (by omega) hl1 ?_ ?_
  ·intro i x y H' Q' hx hy sm k'
   rw [yj,yj] at hy
   cases er:(Jnt R sk)[i]? with
   |none=>rw [er] at hy;cases hy
   |some r=>
    rw [er] at hy
    cases hy
    obtain ⟨q,rfl,_,g⟩:=rw_.2 i x r hx er
    refine ⟨_,rfl,q,_,rfl,.inl (Ss.of (sm _ _ g)),?_⟩
    rw [ye]
    exact k' _ λ_ _ h=>h
  intro H2 s2 hD2
  have s02:=s1.trans s2
  refine ⟨D,_,rfl,hD2,λn hn=>?_,?_⟩
  ·obtain ⟨r,hr',rfl⟩:=yo.mp hn
   have:=r4 r hr'
   omega
  have tln:=tl.len
  refine ⟨_,rfl,o,_,dx,_,_,rfl,s02 _ _ ho,T.Jet,T.Jfx,rfl,t,_,rfl,.inr (Sy.of (s02 _ _ ht)),_,_,rfl,rfl,_,_,rfl,rfl,.inr ?_,?_⟩
  ·rw [ye]
   omega
  ·rw [ye,tln]
   exact k _ s02
theorem Sm8 (xs:List V) (i j:Nat):Jq3 xs (some (i:Int)) (some (j:Int))=(xs.drop i).take (j - i):=by
 unfold Jq3
 rw [HT.sIx_nat,HT.sIx_nat]
 rcases Nat.le_total i xs.length with h|h
 ·rw [ycb h]
  rcases Nat.le_total j xs.length with h'|h'
  ·rw [ycb h']
  ·rw [Nat.min_eq_right h',yae (by rw [ybs];exact yg _),yae (by rw [ybs];omega)]
 ·rw [Nat.min_eq_right h,List.drop_of_length_le (yg _),List.drop_of_length_le h,List.take_nil,List.take_nil]
def wsC (rn:Nat) (ws:List Int) (k:Nat):List Int:=(ws.drop (k - rn)).take (k+1 - (k - rn))
def wsS (c rn:Nat) (ws:List Int):List Int:=(yav (c+1)).map λk=>(wsC rn ws k).sum
def wsN (R:Riv) (i:Nat):List Int:=(R.Bs.take i).foldl (λws B=>wsS R.c.toNat B.rn.toNat ws) (1::yax R.c.toNat 0)
def rrN (R:Riv):Int:=(wsN R R.Bs.length).sum
theorem Jxx (c rn:Nat) (ws:List Int):(wsS c rn ws).length=c+1:=by
 unfold wsS
 rw [ye,yaz]
def WsB (c:Nat) (b:Int) (ws:List Int):Prop:=ws.length=c+1/\∀x∈ws,0<=x/\x<=b
theorem Jxq {b:Int} (b0:0<=b):∀(ws:List Int),(∀x∈ws,0<=x/\x<=b)->0<=ws.sum/\ws.sum<=ws.length*b:=by
 intro ws
 induction ws with
 |nil=>exact λ_=>by simp
 |cons x ws ih=>
  intro h
  have h1:=h x yah
  have h2:=ih λy hy=>h y (yaa _ hy)
  rw [List.sum_cons,yaf]
  have e:(((ws.length+1:Nat):Int))*b=ws.length*b+b:=by
   rw [Int.natCast_add,Int.add_mul]
   simp
  rw [e]
  omega
theorem WsB.step {c rn:Nat} {b:Int} {ws:List Int} (hc:c<=12) (b0:0<=b) (h:WsB c b ws):WsB c (13*b) (wsS c rn ws):=by
 refine ⟨Jxx _ _ _,λx hx=>?_⟩
 unfold wsS at hx
 obtain ⟨k,_,rfl⟩:=yo.mp hx
 have hs:∀y∈wsC rn ws k,0<=y/\y<=b:=λy hy=>h.2 y (List.mem_of_mem_drop (ycr hy))
 have q:=Jxq b0 _ hs
 refine ⟨q.1,ybd q.2 (Int.mul_le_mul_of_nonneg_right ?_ b0)⟩
 have:(wsC rn ws k).length<=ws.length:=by
  unfold wsC
  rw [yad,ybs]
  omega
 have:=h.1
 omega
theorem Jz2 (R:Riv) {i:Nat} {B:Bsn} (h:R.Bs[i]?=some B):wsN R (i+1)=wsS R.c.toNat B.rn.toNat (wsN R i):=by
 unfold wsN
 rw [yy,h,ybx]
 rfl
theorem Sl7 (R:Riv) (hc:R.c.toNat<=12):∀i,i<=R.Bs.length->WsB R.c.toNat (13^i) (wsN R i):=by
 intro i
 induction i with
 |zero=>
  intro _
  refine ⟨by show (1::yax R.c.toNat 0).length=_;simp,λx hx=>?_⟩
  have hx':x∈(1::yax R.c.toNat (0:Int)):=hx
  rcases yp.mp hx' with rfl|hx'
  ·decide
  ·rw [(List.mem_replicate.mp hx').2]
   decide
 |succ i ih=>
  intro h
  obtain ⟨B,hB⟩:∃B,R.Bs[i]?=some B:=⟨R.Bs[i],yh (by omega)⟩
  rw [Jz2 R hB,Int.pow_succ,Int.mul_comm]
  exact WsB.step hc (Int.le_of_lt (Int.pow_pos (by decide))) (ih (by omega))
theorem Sm9 (ws:List Int) {rn:Int} (h0:0<=rn) (j:Nat):Jq3 (ws.map V.int) (some (if (0:Int) > 0+(j:Int) - rn then 0 else 0+(j:Int) - rn)) (some (0+(j:Int)+1))=(wsC rn.toNat ws j).map V.int:=by
 have e1:(if (0:Int) > 0+(j:Int) - rn then 0 else 0+(j:Int) - rn)=((j - rn.toNat:Nat):Int):=by
  split <;> omega
 have e2:(0+(j:Int)+1)=((j+1:Nat):Int):=by omega
 rw [e1,e2,Sm8]
 unfold wsC
 rw [List.map_take,List.map_drop]
theorem Ssp {c rn:Nat} {ws:List Int} {j:Nat} {y:V} (h:((wsS c rn ws).map V.int)[j]?=some y):y= .int (wsC rn ws j).sum:=by
 have hj:=(yi.mp h).1
 rw [ye,Jxx] at hj
 rw [yj] at h
 unfold wsS at h
 rw [yj,ybm hj] at h
 exact (yt.inj h).symm
theorem Yfj {rn:Nat} {ws:List Int} {j:Nat} (h:Sml ws):Sml (wsC rn ws j):=by
 refine ⟨?_,λn hn=>h.2 n (List.mem_of_mem_drop (ycr hn))⟩
 have:=h.1
 unfold wsC
 rw [yad,ybs]
 omega
inductive Ss9 (K:Sd) (a:Ad) (vs:List V) (H:Hp) (Q:VK) (z3:XK):Prop where
 |mk (o:S1) (R:Riv) (_:vs= [.ref o]) (_:Sak K a H o R) (_:R.Bs.length<=4) (_:(0<=R.c/\R.c<=12)) (_:∀H',Si H H'->Q (.int (rrN R)) H')
theorem Jxw {R:Riv} (hc:R.c.toNat<=12) {i:Nat} (h:i<=R.Bs.length) (h4:R.Bs.length<=4):Sml (wsN R i)/\∀x∈wsN R i,0<=x/\x<=28561:=by
 obtain ⟨l,b⟩:=Sl7 R hc i h
 have p:(13:Int)^i<=28561:=by
  have cs:i=0\/i=1\/i=2\/i=3\/i=4:=by omega
  rcases cs with rfl|rfl|rfl|rfl|rfl <;> decide
 refine ⟨⟨by omega,λn hn=>?_⟩,λx hx=>?_⟩
 ·have:=b n hn
  omega
 ·have:=b x hx
  omega
theorem Saq:Jm2 ["river","with_sum","basin"] ["river"] (Jm0 (top 36)):=⟨rfl,rfl,rfl,by decide +kernel,rfl,by decide +kernel,by decide +kernel⟩
theorem Js6 (T:Tx K mg a):So P w K mg base CX0 1 a.Ji0 a.Ji1 ["river"] (Ss9 K a):=by
 refine T.Ji.fn.ok Saq (λvs H Q E h=>?_) (λcdv A outer s H vs Q E hr h=>?_)
 ·obtain ⟨o,R,rfl,_⟩:=h
  rfl
 ·obtain ⟨o,R,rfl,⟨dx,b,t,os,ts,ho,hb,bl,ht,tl,n1,n2,n3⟩,h4,hc,k⟩:=h
  refine ⟨?t,?B,?C⟩
  case B=>
   refine' Su ?O0 ?O1
   case O0=>exact (Jm7 (i:=1) Saq.nd rfl (yal rfl) (Jm8 Juz (Jmt (Sj Sr Sl)) (Jmj (N:=(["cube"]:List Str)) (ini:=[none]) rfl (Jnp (by rfl) T.Jay (Sj (Jm9 (pv 0) (by rfl)) Sl)) (λ_ _ _ _ _=>(Jm3 (i:=0) (by decide +kernel:(["cube"]:List Str).Nodup) rfl (yf rfl))) (λ_ _ _ _ _=>Jmi) (λ_ _ _ _ _=>Sr))))
   case O1=>
   refine' Su ?O2 ?O3
   case O2=>
    refine' Jn5 ?O4 ?O5 ?O6 ?O7 ?O8
    case O4=>exact PassesOwn.never
    case O5=>exact rfl
    case O6=>exact (Jt0 (Jm9 (pv 0) (by rfl)))
    case O7=>exact (Jm3 (i:=2) Saq.nd rfl (yal rfl))
    case O8=>
    refine' Sx ?O9
    case O9=>exact (Jm7 (i:=1) Saq.nd rfl (yal rfl) (Jmj (N:=(["cubes","with_sum","basin"]:List Str)) (ini:=[none,some 1,some 2]) rfl (Jnp (by rfl) T.Jay (Sj (Jm8 Jmg (Jm9 (pv 0) (by rfl)) Sr) Sl)) (λ_ _ _ _ _=>(Jm3 (i:=0) (by decide +kernel:(["cubes","with_sum","basin"]:List Str).Nodup) rfl (yf rfl))) (λ_ _ _ _ _=>Jmi) (λ_ _ _ _ _=>(Jm4 (Jqq (K:=K) rfl rfl) (by rfl) T.Jb2 Jpk (Sj (Jpi (Jv8 (K:=K) rfl) (pv 1) (Jpp (Jm4 (Jp9 rfl) (by rfl) T.Jaw Juc (Sj (Jm8 Jnl (pv 0) (Jo1 (K:=K) rfl (pv 2) (by rfl))) (Sj Sr Sl)))) (Jpp (Jm8 Jmg (pv 0) Sr))) Sl)))))
   case O3=>
   refine' Sx ?Oa
   case Oa=>exact (Jm5 (Jm4 (Jpb rfl) (by rfl) T.Jb2 Jpk (Sj (pv 1) Sl)))
  have hc12:R.c.toNat<=12:=by omega
  have len:=bl.len
  refine ⟨(show 1<=S6 by decide),λl1 hl1=>?_⟩
  have s1:=Si.upd (o:=.lst [V.int 1]) hl1
  refine ⟨_,rfl,o,_,dx,_,_,rfl,s1 _ _ ho,T.Jet,T.Jfu,rfl,_,rfl,by omega,by omega,λD hD=>?_⟩
  refine Jw4 ((yax R.c.toNat (0:Int)).map V.int) hD (by simp) (by omega) (λi y H' Q' hy sm k'=>?_) ?_
  ·rw [yj] at hy
   obtain ⟨z,hz,rfl⟩:=yay.mp hy
   rw [(List.mem_replicate.mp (yr hz)).2] at k'
   exact k' _ (Si.refl _)
  intro H2 s2 hDs
  have hz: [V.int 1].length+((yax R.c.toNat (0:Int)).map V.int).length<=S6:=Jmw _ (by rw [ye,ych];show 1+_<=2000;omega)
  refine ⟨l1,D,_,_,rfl,rfl,s2 _ _ Sn,hDs,hz,λq0 hq0=>?_⟩
  have s12:=s1.trans s2
  have e0: [V.int 1]++(yax R.c.toNat (0:Int)).map V.int=(wsN R 0).map V.int:=by
   rfl
  rw [e0]
  have s3:=Si.upd (o:=.lst ((wsN R 0).map V.int)) hq0
  have s13:=s12.trans s3
  refine ⟨_,rfl,o,_,dx,_,_,rfl,s13 _ _ ho,T.Jet,T.Jfw,rfl,b,rfl,⟨_,Sy.of (s13 _ _ hb)⟩,?_⟩
  refine Ju0 (K:=K) (a:=b) (xs:=os.map V.ref) (λi σ H'=>∃(q:S1) (o2:Option V),σ= [some (.ref o),some (.ref q),o2]/\H' q=some (.lst ((wsN R i).map V.int))/\Si H H') ?_ ?_ ?_ ?_
  ·exact ⟨q0,_,rfl,Sn,s13⟩
  ·rintro i σ H' _ ⟨_,_,_,_,sm⟩
   exact Sy.of (sm _ _ hb)
  ·rintro i x σ H' hx ⟨q,o2,rfl,hq,sm⟩
   obtain ⟨ob,B,rfl,hB,dx',hb',gs⟩:=(bl.same sm).get hx
   have hi:i < R.Bs.length:=(yi.mp hB).1
   obtain ⟨sml,wb⟩:=Jxw (R:=R) hc12 (i:=i) (by omega) h4
   have hrn:=n3 B (yr hB)
   refine ⟨_,rfl,o,_,dx,_,_,rfl,sm _ _ ho,T.Jet,T.Jfu,rfl,_,_,rfl,rfl,_,rfl,by omega,by omega,λD2 hD2=>?_⟩
   refine Jw4 ((wsS R.c.toNat B.rn.toNat (wsN R i)).map V.int) hD2 (by rw [ye,Jxx];omega) (by omega) (λj y H2 Q' hy sm2 k'=>?_) ?_
   ·have hj:=Ssp hy
    cases hj
    refine ⟨_,rfl,_,rfl,_,rfl,ob,_,dx',_,_,rfl,sm2 _ _ hb',T.Jen,T.Jfp,rfl,_,_,rfl,rfl,_,_,rfl,_,rfl,_,rfl,_,_,rfl,rfl,_,rfl,q,_,rfl,Ss.of (sm2 _ _ hq),λp hp=>?_⟩
    rw [Sm9 _ hrn.1]
    exact ⟨p,_,rfl,.inl (Ss.of Sn),Yfj sml,k' _ (Si.upd hp)⟩
   ·intro H2 sm2 hDs2
    refine ⟨D2,_,rfl,?_,sm.trans sm2⟩
    rw [Jz2 R hB]
    exact hDs2
  ·rintro σ H' ⟨q,o2,rfl,hq,sm⟩
   rw [ye,len] at hq
   exact ⟨_,rfl,q,_,rfl,.inl (Ss.of hq),(Jxw hc12 (yg _) h4).1,k _ sm⟩
def wgN (R:Riv) (sk:Option (List (Int×Int))):Int:=stN R*chN R sk*rrN R
inductive Yf4 (K:Sd) (a:Ad) (vs:List V) (H:Hp) (Q:VK) (z3:XK):Prop where
 |mk (o:S1) (R:Riv) (x:V) (sk:Option (List (Int×Int))) (_:vs= [.ref o,x]) (_:Sak K a H o R) (_:Sdc H x sk) (_:Jsj R sk) (_:R.Bs.length<=4) (_:(∀B∈R.Bs,0<=lvN B/\lvN B<=13)) (_:(0<=R.c/\R.c<=12)) (_:∀H',Si H H'->Q (.int (wgN R sk)) H')
inductive Yes (vs:List V) (H:Hp) (Q:VK) (z3:XK):Prop where
 |mk (n:Int) (_:vs= [.int n]) (_:n<=4000) (_:Q .non H)
theorem Skx {R:Riv} (h4:R.Bs.length<=4) (hc:0<=R.c/\R.c<=12):0<=rrN R/\rrN R<=400000:=by
 have hc12:R.c.toNat<=12:=by omega
 have hb:=(Jxw hc12 (yg R.Bs.length) h4).2
 have q:=Jxq (b:=28561) (by decide) _ hb
 have l:=(Sl7 R hc12 _ (yg R.Bs.length)).1
 unfold rrN
 rw [l] at q
 omega
theorem Jxi {b:Int} (b1:1<=b):∀(ns:List Int),(∀n∈ns,0<=n/\n<=b)->0<=Jpt ns/\Jpt ns<=b^ns.length:=by
 have go:∀(ns:List Int) (c A:Int),0<=c->c<=A->(∀n∈ns,0<=n/\n<=b)->0<=ns.foldl (·*·) c/\ns.foldl (·*·) c<=A*b^ns.length:=by
  intro ns
  induction ns with
  |nil=>
   intro c A c0 cA _
   rw [List.length_nil,Int.pow_zero,Int.mul_one]
   exact ⟨c0,cA⟩
  |cons n ns ih=>
   intro c A c0 cA h
   have h2:=h n yah
   have q:=ih (c*n) (A*b) (Int.mul_nonneg c0 h2.1) (ycn cA h2.2 h2.1 (ybd c0 cA)) λm hm=>h m (yaa _ hm)
   rw [yaf,Int.pow_succ,Int.mul_comm (b^ns.length) b,<-Int.mul_assoc]
   exact q
 intro ns h
 have q:=go ns 1 1 (by decide) (by decide) h
 rw [Int.one_mul] at q
 exact q
theorem Jr2:Jm2 ["self","thing"] ["self","thing"] (Jm0 (Jm6 (top 10) 0)):=⟨rfl,rfl,rfl,by decide +kernel,rfl,by decide +kernel,by decide +kernel⟩
theorem Jts (T:Tx K mg a):So P w K mg base CX0 1 a.Jgu a.Jgv ["self","thing"] (Jp0 K "thing"):=by
 refine T.Jcp.fn.ok Jr2 (λvs H Q E h=>?_) (λcdv A outer s H vs Q E hr h=>?_)
 ·obtain ⟨e,C,W,fI,y,rfl,_⟩:=h
  rfl
 ·obtain ⟨e,C,W,fI,y,rfl,q,c,n,k⟩:=h
  refine ⟨_,(Sx (Joo (pv 0) (pv 1) rfl)),?_⟩
  exact ⟨_,rfl,_,rfl,e,C,W,fI,true,rfl,q,c,n,k⟩
theorem Jr3:Jm2 ["self","count"] ["self","count"] (Jm0 (Jm6 (top 9) 0)):=⟨rfl,rfl,rfl,by decide +kernel,rfl,by decide +kernel,by decide +kernel⟩
theorem Jtt (T:Tx K mg a):So P w K mg base CX0 1 a.Jgs a.Jgt ["self","count"] (Jp0 K "count"):=by
 refine T.Jco.fn.ok Jr3 (λvs H Q E h=>?_) (λcdv A outer s H vs Q E hr h=>?_)
 ·obtain ⟨e,C,W,fI,y,rfl,_⟩:=h
  rfl
 ·obtain ⟨e,C,W,fI,y,rfl,q,c,n,k⟩:=h
  refine ⟨_,(Sx (Joo (pv 0) (pv 1) rfl)),?_⟩
  exact ⟨_,rfl,_,rfl,e,C,W,fI,true,rfl,q,c,n,k⟩
theorem Ycu:Jm2 ["river","stuck"] ["river","stuck"] (Jm0 (top 37)):=⟨rfl,rfl,rfl,by decide +kernel,rfl,by decide +kernel,by decide +kernel⟩
theorem Yc3 (T:Tx K mg a):So P w K mg base (CXX P w) 4 a.Ji2 a.Ji3 ["river","stuck"] (Yf4 K a):=by
 have Sgz:=Jyj (P:=P) (w:=w) (base:=base) T
 have Sbj:=Jp4 (P:=P) (w:=w) (base:=base) T
 have Ser:=Jtu (P:=P) (w:=w) (base:=base) T
 have Se0:=Js6 (P:=P) (w:=w) (base:=base) T
 have Sde:=Jts (P:=P) (w:=w) (base:=base) T
 refine T.Jj.fn.okX Ycu (λvs H Q E h=>?_) (λcdv A outer s H vs Q E hr h=>?_)
 ·obtain ⟨o,R,x,sk,rfl,_⟩:=h
  rfl
 ·obtain ⟨o,R,x,sk,rfl,ro,sa,so,h4,hl,hc,k⟩:=h
  refine ⟨?t,?B,?C⟩
  case B=>
   refine' Su ?O0 ?O1
   case O0=>
    refine' Jmr ?O2 ?O3 ?O4
    case O2=>exact (Jmu (Ycg (Jlz T.Jc Sgz hr (by decide) (Sj (pv 0) (Sj (pv 1) Sl))) (λ_=>rfl)))
    case O3=>
     refine' Sx ?O5
     case O5=>exact (Jn0 Jn4 rfl (Jnq T.Jdn Sde hr (by decide) T.Jcp.bd T.Jbc (Sj (pv 1) Sl)))
    case O4=>exact Jma
   case O1=>
   refine' Sx ?O6
   case O6=>exact (Jm5 (Jm8 Jow (Jm8 Jow (Jlz T.Jg Sbj hr (by decide) (Sj (pv 0) Sl)) (Jlz T.Jh Ser hr (by decide) (Sj (pv 0) (Sj (pv 1) Sl)))) (Jlz T.Ji Se0 hr (by decide) (Sj (pv 0) Sl))))
  refine ⟨_,rfl,_,rfl,o,R,x,sk,rfl,ro,sa,so,λH1 s1=>⟨_,rfl,Jn9 ?_⟩⟩
  refine ⟨_,rfl,o,R,rfl,ro.same s1,λB hB=>⟨(hl B hB).1,ybd (hl B hB).2 (by decide)⟩,hc,λH2 s2=>?_⟩
  have s12:=s1.trans s2
  refine ⟨_,rfl,_,rfl,o,R,x,sk,rfl,ro.same s12,sa.same s12,so,λH3 s3=>?_⟩
  have s13:=s12.trans s3
  have st1: -(2^64) < stN R/\stN R < 2^64:=by
   have q:=Jxi (b:=13) (by decide) (R.Bs.map lvN) λn hn=>by
    obtain ⟨B,hB,rfl⟩:=yo.mp hn
    exact hl B hB
   rw [ye] at q
   have p:(13:Int)^R.Bs.length<=28561:=by
    have cs:R.Bs.length=0\/R.Bs.length=1\/R.Bs.length=2\/R.Bs.length=3\/R.Bs.length=4:=by omega
    rcases cs with e|e|e|e|e <;> rw [e] <;> decide
   have m:stN R<=28561*13:=ycn (ybd q.2 p) (by omega) (by omega) (by decide)
   have m0:0<=stN R:=Int.mul_nonneg q.1 (by omega)
   omega
  refine ⟨_,_,rfl,rfl,.inl st1,?_⟩
  refine ⟨_,rfl,o,R,rfl,ro.same s13,h4,hc,λH4 s4=>⟨_,_,rfl,rfl,.inr ?_,k _ (s13.trans s4)⟩⟩
  have:=Skx h4 hc
  omega
theorem Jtx:Jm2 ["heft"] ["heft"] (Jm0 (top 38)):=⟨rfl,rfl,rfl,by decide +kernel,rfl,by decide +kernel,by decide +kernel⟩
theorem Jtv (T:Tx K mg a):So P w K mg base (CXX P w) 3 a.Ji4 a.Ji5 ["heft"] Yes:=by
 have Sdf:=Jtt (P:=P) (w:=w) (base:=base) T
 refine T.Jk.fn.okX Jtx (λvs H Q E h=>?_) (λcdv A outer s H vs Q E hr h=>?_)
 ·obtain ⟨n,rfl,_⟩:=h
  rfl
 ·obtain ⟨n,rfl,hn,k⟩:=h
  refine ⟨?t,?B,?C⟩
  case B=>
   refine' Sx ?O0
   case O0=>
   refine' Jmr ?O1 ?O2 ?O3
   case O1=>exact (Jmp Jwk (pv 0) (Jn7 (by rfl) T.Jae (v:=.int 4000) ⟨_,rfl⟩) (Jmy _))
   case O2=>
    refine' Sx ?O4
    case O4=>exact (Jn0 Jn4 rfl (Jnq T.Jdm Sdf hr (by decide) T.Jco.bd T.Jbb (Sj (pv 0) Sl)))
   case O3=>exact Jma
  exact ⟨_,rfl,_,_,rfl,rfl,_,rfl,ifF (decide_eq_false (by omega)) k⟩
def stF (R:Riv) (n:Int) (i:Nat):List Int×Int:=(R.Bs.take i).foldl (λp B=>(p.1++ [B.lo+p.2%lvN B],p.2/lvN B)) ([],n/(R.c+1))
theorem Jvb (R:Riv) (n:Int) {i:Nat} {B:Bsn} (h:R.Bs[i]?=some B):stF R n (i+1)=((stF R n i).1++ [B.lo+(stF R n i).2%lvN B],(stF R n i).2/lvN B):=by
 unfold stF
 rw [yy,h,ybx]
 rfl
theorem Ju9 (R:Riv) (n:Int):∀i,i<=R.Bs.length->(stF R n i).1.length=i:=by
 intro i
 induction i with
 |zero=>exact λ_=>rfl
 |succ i ih=>
  intro h
  rw [Jvb R n (yh (by omega:i < R.Bs.length))]
  dsimp only
  rw [yab,ih (by omega)]
  rfl
inductive Scf (H:Hp) (x:V) (ls:List Int) (wt:Int):Prop where
 |mk (t r:S1) (_:x= .ref t) (_:H t=some (.tup [.ref r,.int wt])) (_:H r=some (.tup (ls.map V.int)))
theorem Scf.same {H H':Hp} {x:V} {ls:List Int} {wt:Int} (s:Si H H') (h:Scf H x ls wt):Scf H' x ls wt:=by
 obtain ⟨t,r,e,h1,h2⟩:=h
 exact ⟨t,r,e,s _ _ h1,s _ _ h2⟩
inductive So6 (K:Sd) (a:Ad) (vs:List V) (H:Hp) (Q:VK) (z3:XK):Prop where
 |mk (o:S1) (R:Riv) (n:Int) (_:vs= [.ref o,.int n]) (_:Sak K a H o R) (_:(∀B∈R.Bs,1<=lvN B/\lvN B<=13)) (_:(0<=R.c/\R.c<=12)) (_:∀(x:V) (H':Hp),Si H H'->Scf H' x (stF R n R.Bs.length).1 (n%(R.c+1))->Q x H')
theorem Sat:Jm2 ["river","number","rest","levels","basin"] ["river","number"] (Jm0 (top 43)):=⟨rfl,rfl,rfl,by decide +kernel,rfl,by decide +kernel,by decide +kernel⟩
theorem Juy (T:Tx K mg a):So P w K mg base CX0 2 a.Jie a.Jif ["river","number"] (So6 K a):=by
 have Sal:=Jov (P:=P) (w:=w) (base:=base) T
 refine T.Jp.fn.ok Sat (λvs H Q E h=>?_) (λcdv A outer s H vs Q E hr h=>?_)
 ·obtain ⟨o,R,n,rfl,_⟩:=h
  rfl
 ·obtain ⟨o,R,n,rfl,⟨dx,b,t,os,ts,ho,hb,bl,ht,tl,n1,n2,n3⟩,hl,hc,k⟩:=h
  refine ⟨?t,?B,?C⟩
  case B=>
   refine' Su ?O0 ?O1
   case O0=>exact (Jm7 (i:=2) Sat.nd rfl (yf rfl) (Jm8 Jqc (pv 1) (Jm8 Jmg (Jm9 (pv 0) (by rfl)) Sr)))
   case O1=>
   refine' Su ?O2 ?O3
   case O2=>exact (Jm7 (i:=3) Sat.nd rfl (yf rfl) (Jmt Sl))
   case O3=>
   refine' Su ?O4 ?O5
   case O4=>
    refine' Jn5 ?O6 ?O7 ?O8 ?O9 ?Oa
    case O6=>exact PassesOwn.never
    case O7=>exact rfl
    case O8=>exact (Jt0 (Jm9 (pv 0) (by rfl)))
    case O9=>exact (Jm3 (i:=4) Sat.nd rfl (yf rfl))
    case Oa=>
    refine' Su ?Ob ?Oc
    case Ob=>exact (Jnd (Jps F.plainAttrs_list F.slot_list_append F.type_list_append Jor (pv 3) (Sj (Jm8 Jmg (Jm9 (pv 4) (by rfl)) (Jm8 Jpo (pv 2) (Jlz T.Jf Sal hr (by decide) (Sj (pv 4) Sl)))) Sl)))
    case Oc=>
    refine' Sx ?Od
    case Od=>exact (Jm7 (i:=2) Sat.nd rfl (yf rfl) (Jm8 Jqc (pv 2) (Jlz T.Jf Sal hr (by decide) (Sj (pv 4) Sl))))
   case O5=>
   refine' Sx ?Oe
   case Oe=>exact (Jm5 (Jn1 (Sj (Jmf Jng (by rfl) T.Jb3 Jnw (Sj (pv 3) Sl)) (Sj (Jm8 Jpo (pv 1) (Jm8 Jmg (Jm9 (pv 0) (by rfl)) Sr)) Sl))))
  have len:=bl.len
  refine ⟨_,rfl,_,rfl,o,_,dx,_,_,rfl,ho,T.Jet,T.Jfu,rfl,_,_,rfl,rfl,_,_,rfl,rfl,⟨by omega,Joh (by omega)⟩,?_⟩
  refine ⟨(show 0<=S6 by decide),λL hL=>?_⟩
  have sL:=Si.upd (o:=.lst []) hL
  refine ⟨_,rfl,o,_,dx,_,_,rfl,sL _ _ ho,T.Jet,T.Jfw,rfl,b,rfl,⟨_,Sy.of (sL _ _ hb)⟩,?_⟩
  refine Ju0 (K:=K) (a:=b) (xs:=os.map V.ref) (λi σ H'=>∃(o4:Option V),σ= [some (.ref o),some (.int n),some (.int (stF R n i).2),some (.ref L),o4]/\H' L=some (.lst ((stF R n i).1.map V.int))/\Si H H') ?_ ?_ ?_ ?_
  ·exact ⟨_,rfl,Sn,sL⟩
  ·rintro i σ H' _ ⟨_,_,_,sm⟩
   exact Sy.of (sm _ _ hb)
  ·rintro i x σ H' hx ⟨o4,rfl,hLs,sm⟩
   obtain ⟨ob,B,rfl,hB,ba⟩:=(bl.same sm).get hx
   obtain ⟨dx',hb',gs⟩:=ba
   have hi:i < R.Bs.length:=(yi.mp hB).1
   have hlv:=hl B (yr hB)
   have ln:=Ju9 R n i (by omega)
   refine ⟨_,rfl,.inl ⟨rfl,_,Ss.of hLs⟩,_,rfl,ob,_,dx',_,_,rfl,hb',T.Jen,T.Jfm,rfl,_,rfl,_,rfl,ob,B,rfl,⟨dx',hb',gs⟩,_,_,rfl,rfl,by omega,_,_,rfl,rfl,L,_,_,rfl,rfl,hLs,by rw [ye];exact Jmn (by omega),?_⟩
   have sm2:Si H (upd H' L (.lst ((stF R n i).1.map V.int++ [.int (B.lo+(stF R n i).2%lvN B)]))):=λc u e=>by
    rw [Sw (Jm1 e hL)]
    exact sm _ _ e
   have nL:ob≠L:=λz=>by
    rw [z,hLs] at hb'
    cases hb'
   refine ⟨_,rfl,_,rfl,ob,B,rfl,(Sc4.put hLs ⟨dx',hb',gs⟩),_,_,rfl,rfl,⟨by omega,Joh (by omega)⟩,?_⟩
   rw [Jvb R n hB]
   exact ⟨_,rfl,by rw [Sn,yag];rfl,sm2⟩
  ·rintro σ H' ⟨o4,rfl,hLs,sm⟩
   rw [ye,len] at hLs
   refine ⟨_,rfl,L,_,rfl,.inl ⟨Ss.of hLs,λr hr'=>?_⟩⟩
   have s2:=Si.upd (o:=.tup ((stF R n R.Bs.length).1.map V.int)) hr'
   have s02:=sm.trans s2
   refine ⟨_,rfl,_,rfl,o,_,dx,_,_,rfl,s02 _ _ ho,T.Jet,T.Jfu,rfl,_,_,rfl,rfl,_,_,rfl,rfl,by omega,(show 2<=S6 by decide),λt' ht'=>?_⟩
   have s3:=Si.upd (o:=.tup [.ref r,.int (n%(R.c+1))]) ht'
   exact k _ _ (s02.trans s3) ⟨t',r,rfl,Sn,s3 _ _ Sn⟩
def nbF (R:Riv) (ls:List Int) (wt:Int) (i:Nat):Int×Int:=((R.Bs.zip ls).take i).foldl (λp q=>(p.1+p.2*(q.2 - q.1.lo),p.2*lvN q.1)) (wt,R.c+1)
theorem Yc1 {R:Riv} {ls:List Int} {wt:Int} {i:Nat} {B:Bsn} {l:Int} (h1:R.Bs[i]?=some B) (h2:ls[i]?=some l):nbF R ls wt (i+1)=((nbF R ls wt i).1+(nbF R ls wt i).2*(l - B.lo),(nbF R ls wt i).2*lvN B):=by
 unfold nbF
 have e:(R.Bs.zip ls)[i]?=some (B,l):=List.getElem?_zip_eq_some.mpr ⟨h1,h2⟩
 rw [yy,e,ybx]
 rfl
inductive So2 (K:Sd) (a:Ad) (vs:List V) (H:Hp) (Q:VK) (z3:XK):Prop where
 |mk (o:S1) (R:Riv) (x:V) (ls:List Int) (wt:Int) (_:vs= [.ref o,x]) (_:Sak K a H o R) (_:Scf H x ls wt) (_:ls.length=R.Bs.length) (_:(∀B∈R.Bs,(1<=lvN B/\lvN B<=13)/\0<=B.lo/\B.lo<=12)) (_:(∀l∈ls,0<=l/\l<=1000)) (_:∀H',Si H H'->Q (.int (nbF R ls wt R.Bs.length).1) H')
theorem Saj:Jm2 ["river","standing","number","step","basin","level"] ["river","standing"] (Jm0 (top 42)):=⟨rfl,rfl,rfl,by decide +kernel,rfl,by decide +kernel,by decide +kernel⟩
theorem Jxg (T:Tx K mg a):So P w K mg base CX0 2 a.Jic a.Jid ["river","standing"] (So2 K a):=by
 have Sal:=Jov (P:=P) (w:=w) (base:=base) T
 refine T.Jo.fn.ok Saj (λvs H Q E h=>?_) (λcdv A outer s H vs Q E hr h=>?_)
 ·obtain ⟨o,R,x,ls,wt,rfl,_⟩:=h
  rfl
 ·obtain ⟨o,R,x,ls,wt,rfl,⟨dx,b,t,os,ts,ho,hb,bl,ht,tl,n1,n2,n3⟩,⟨u,r,rfl,hu,hr'⟩,hls,hB,hlv,k⟩:=h
  refine ⟨?t,?B,?C⟩
  case B=>
   refine' Su ?O0 ?O1
   case O0=>exact (Jm7 (i:=2) Saj.nd rfl (yf rfl) (Jmc Jmh (pv 1) Sr (λ_ _=>rfl)))
   case O1=>
   refine' Su ?O2 ?O3
   case O2=>exact (Jm7 (i:=3) Saj.nd rfl (yf rfl) (Jm8 Jmg (Jm9 (pv 0) (by rfl)) Sr))
   case O3=>
   refine' Su ?O4 ?O5
   case O4=>
    refine' Jn5 ?O6 ?O7 ?O8 ?O9 ?Oa
    case O6=>exact PassesOwn.never
    case O7=>exact rfl
    case O8=>exact (Yed true true (by rfl) T.Jb4 (Sj (Jm9 (pv 0) (by rfl)) (Sj (Jmc Jmh (pv 1) Sr (λ_ _=>rfl)) Sl)))
    case O9=>exact (Jqe rfl (Jmb (Jm3 (i:=4) Saj.nd rfl (yf rfl)) (Jmb (Jm3 (i:=5) Saj.nd rfl (yf rfl)) Jnv)))
    case Oa=>
    refine' Su ?Ob ?Oc
    case Ob=>exact (Jzy (i:=2) Saj.nd rfl (yf rfl) (Jm8 Jow (pv 3) (Jm8 Jnl (pv 5) (Jm9 (pv 4) (by rfl)))) Smi)
    case Oc=>
    refine' Sx ?Od
    case Od=>exact (Jzy (i:=3) Saj.nd rfl (yf rfl) (Jlz T.Jf Sal hr (by decide) (Sj (pv 4) Sl)) Ybr)
   case O5=>
   refine' Sx ?Oe
   case Oe=>exact (Jm5 (pv 2))
  have len:=bl.len
  refine ⟨_,rfl,u,_,1,_,rfl,rfl,Sy.of hu,rfl,?_⟩
  refine ⟨_,rfl,o,_,dx,_,_,rfl,ho,T.Jet,T.Jfu,rfl,_,_,rfl,rfl,?_⟩
  refine ⟨_,rfl,o,_,dx,_,_,rfl,ho,T.Jet,T.Jfw,rfl,_,rfl,u,_,0,_,rfl,rfl,Sy.of hu,rfl,b,r,rfl,⟨_,Sy.of hb⟩,⟨_,Sy.of hr'⟩,?_⟩
  refine Ybj (K:=K) (l1:=b) (l2:=r) (b1:=true) (b2:=true) (xs:=os.map V.ref) (ys:=ls.map V.int) (λi σ H'=>∃(o4 o5:Option V),σ= [some (.ref o),some (.ref u),some (.int (nbF R ls wt i).1),some (.int (nbF R ls wt i).2),o4,o5]/\Si H H') ⟨_,_,rfl,Si.refl _⟩ (λi σ H' _ ⟨_,_,_,sm⟩=>⟨Sy.of (sm _ _ hb),Sy.of (sm _ _ hr')⟩) (by rw [ye,ye];omega) ?_ ?_
  ·rintro i x y σ H' Ta hx hy ⟨o4,o5,rfl,sm⟩ hT
   rw [yj] at hy
   cases el:ls[i]? with
   |none=>rw [el] at hy;cases hy
   |some l=>
    rw [el] at hy
    cases hy
    have sT:=Si.upd (o:=.tup [x,V.int l]) hT
    obtain ⟨ob,B,rfl,eB,dx',hb',gs⟩:=(bl.same (sm.trans sT)).get hx
    obtain ⟨h1,h2⟩:=hB B (yr eB)
    have h3:=hlv l (yr el)
    refine ⟨Ta,_,rfl,Sy.of Sn,rfl,_,_,rfl,_,_,rfl,rfl,?_⟩
    refine ⟨_,rfl,_,rfl,_,rfl,_,rfl,ob,_,dx',_,_,rfl,hb',T.Jen,T.Jfm,rfl,_,_,rfl,rfl,_,_,rfl,rfl,.inr ⟨by omega,by omega⟩,_,_,rfl,rfl,?_⟩
    refine ⟨_,rfl,_,rfl,ob,B,rfl,⟨dx',hb',gs⟩,_,_,rfl,rfl,.inr ⟨by omega,by omega⟩,?_⟩
    rw [Yc1 eB el]
    exact ⟨_,_,rfl,sm.trans sT⟩
  ·rintro σ H' ⟨o4,o5,rfl,sm⟩
   rw [ye,len]
   exact ⟨_,rfl,k _ sm⟩
inductive TpR (H:Hp) (v:V) (r:List Int):Prop where
 |mk (q:_) (_:v= .ref q) (_:H q=some (.tup (r.map V.int)))
abbrev TpL (H:Hp) (vs:List V) (rs:List (List Int)):Prop:=Sa2 TpR H vs rs
theorem TpR.mn (D:S1):MnD D TpR:=by
 rintro H H' v a f ⟨q,rfl,g⟩
 exact ⟨q,rfl,f q _ (.inr λ_ z=>by cases z) g⟩
theorem TpL.on {H H':Hp} {vs:List V} {rs:List (List Int)} (f:∀q xs,H q=some (.tup xs)->H' q=some (.tup xs)) (h:TpL H vs rs):TpL H' vs rs:=h.imp λv r q=>by
 obtain ⟨q,rfl,g⟩:=q
 exact ⟨q,rfl,f _ _ g⟩
theorem TpL.one {H:Hp} {q:S1} {r:List Int} (g:H q=some (.tup (r.map V.int))):TpL H [.ref q] [r]:=Sa2.one ⟨q,rfl,g⟩
def lgR (rs:List (List Int)) (ns:List Int):List (List Int):=rs.flatMap λr=>ns.map λn=>r++ [n]
inductive Snz (vs:List V) (H:Hp) (Q:VK) (z3:XK):Prop where
 |mk (R N:S1) (us:List V) (rs:List (List Int)) (ns:List Int) (_:vs= [.ref R,.ref N]) (_:H R=some (.lst us)) (_:TpL H us rs) (_:H N=some (.lst (ns.map V.int))) (_:(∀r∈rs,r.length<=100)) (_:rs.length*ns.length<=1000) (_:ns.length<=1000) (_:∀(L:S1) (ws:List V) (H':Hp),H L=none->Si H H'->H' L=some (.lst ws)->TpL H' ws (lgR rs ns)->Q (.ref L) H')
theorem Jrz (rs:List (List Int)) (ns:List Int):(lgR rs ns).length=rs.length*ns.length:=by
 unfold lgR
 induction rs with
 |nil=>simp
 |cons r rs ih=>rw [ycg,yab,ih,ye,yaf,Nat.succ_mul,Nat.add_comm]
theorem Jyd {rs:List (List Int)} {ns:List Int} {i:Nat} {r:List Int} (h:rs[i]?=some r):lgR (rs.take (i+1)) ns=lgR (rs.take i) ns++ns.map λn=>r++ [n]:=by
 unfold lgR
 rw [yy,h,ycu]
 simp
theorem Sc0:Jm2 ["rows","numbers","longer","row"] ["rows","numbers"] (Jm0 (top 39)):=⟨rfl,rfl,rfl,by decide +kernel,rfl,by decide +kernel,by decide +kernel⟩
theorem Jqb (T:Tx K mg a):So P w K mg base CX0 1 a.Ji6 a.Ji7 ["rows","numbers"] Snz:=by
 refine T.Jl.fn.ok Sc0 (λvs H Q E h=>?_) (λcdv A outer s H vs Q E hr h=>?_)
 ·obtain ⟨R,N,us,rs,ns,rfl,_⟩:=h
  rfl
 ·obtain ⟨R,N,us,rs,ns,rfl,hR,tp,hN,h100,hm,hn,k⟩:=h
  refine ⟨?t,?B,?C⟩
  case B=>
   refine' Su ?O0 ?O1
   case O0=>exact (Jm7 (i:=2) Sc0.nd rfl (yf rfl) (Jmt Sl))
   case O1=>
   refine' Su ?O2 ?O3
   case O2=>
    refine' Jn5 ?O4 ?O5 ?O6 ?O7 ?O8
    case O4=>exact PassesOwn.never
    case O5=>exact rfl
    case O6=>exact (Jml (pv 0))
    case O7=>exact (Jm3 (i:=3) Sc0.nd rfl (yal rfl))
    case O8=>
    refine' Sx ?O9
    case O9=>exact (Jnd (Jps F.plainAttrs_list F.slot_list_extend F.type_list_extend Jpg (pv 2) (Sj (Jmj (N:=(["number","row"]:List Str)) (ini:=[none,some 3]) rfl (Jml (pv 1)) (λ_ _ _ _ _=>(Jm3 (i:=0) (by decide +kernel:(["number","row"]:List Str).Nodup) rfl (yf rfl))) (λ_ _ _ _ _=>Jmi) (λ_ _ _ _ _=>(Jm8 Ju5 (pv 1) (Jn1 (Sj (pv 0) Sl))))) Sl)))
   case O3=>
   refine' Sx ?Oa
   case Oa=>exact (Jm5 (pv 2))
  refine ⟨(show 0<=S6 by decide),λL hL=>?_⟩
  have sL:=Si.upd (o:=.lst []) hL
  have ul:=tp.1
  refine ⟨_,rfl,R,rfl,⟨_,Ss.of (sL _ _ hR)⟩,?_⟩
  refine Jno (xs:=us) (λi σ H'=>∃(o3:Option V) (ws:List V),σ= [some (.ref R),some (.ref N),some (.ref L),o3]/\H' L=some (.lst ws)/\TpL H' ws (lgR (rs.take i) ns)/\Si H H') ?_ ?_ ?_ ?_
  ·exact ⟨_,[],rfl,Sn,.nil,sL⟩
  ·rintro i σ H' _ ⟨_,_,_,_,_,sm⟩
   exact Ss.of (sm _ _ hR)
  ·rintro i x σ H' hx ⟨o3,ws,rfl,hLs,tw,sm⟩
   have hi:i < us.length:=(yi.mp hx).1
   obtain ⟨r,er⟩:∃r,rs[i]?=some r:=⟨rs[i],yh (by omega)⟩
   obtain ⟨q,rfl,hq⟩:=tp.2 i x r hx er
   have r100:=h100 r (yr er)
   have wl:ws.length+ns.length<=rs.length*ns.length:=by
    rw [tw.1,Jrz,yad,ycb (by omega)]
    have:=Nat.mul_le_mul_right ns.length (show i+1<=rs.length by omega)
    rw [Nat.succ_mul] at this
    exact this
   refine ⟨_,rfl,.inl ⟨rfl,_,Ss.of hLs⟩,_,rfl,N,rfl,⟨_,Ss.of (sm _ _ hN)⟩,λD hD=>?_⟩
   refine Jns (K:=K) (xs:=ns.map V.int) TpR (ns.map λn=>r++ [n]) (TpR.mn D) hD (by simp) (by rw [ye];omega) (sm _ _ hN) ?_ ?_
   ·intro j y e H2 Q' hy he s2 _ k'
    rw [yj] at hy he
    cases en:ns[j]? with
    |none=>rw [en] at hy;cases hy
    |some n=>
     rw [en] at hy he
     cases hy
     cases he
     refine ⟨_,rfl,_,rfl,(show 1<=S6 by decide),λp hp=>?_⟩
     have sp:=Si.upd (o:=.tup [V.int n]) hp
     refine ⟨q,p,_,_,rfl,rfl,sp _ _ (s2 _ _ (sm _ _ hq)),Sn,Jmw _ (by rw [ye];show _+1<=2000;omega),λz H3 s3 hz=>k' _ _ (sp.trans s3) ⟨z,rfl,?_⟩⟩
     rw [hz,yag]
     rfl
   ·intro ys H2 s2 hDs ty
    have yl:=ty.1
    rw [ye] at yl
    have hL2:=s2 _ _ hLs
    refine ⟨L,D,ws,ys,rfl,rfl,hL2,hDs,Jmw _ (by omega),_,ws++ys,rfl,Sn,?_,λc u e=>?_⟩
    ·rw [Jyd er]
     exact Sa2.on (TpR.mn L) (OnD.grow hL2) (Sa2.append (Sa2.on (TpR.mn L) (OnD.same s2) tw) ty)
    ·rw [Sw (Jm1 e hL)]
     exact s2 _ _ (sm _ _ e)
  ·rintro σ H' ⟨o3,ws,rfl,hLs,tw,sm⟩
   rw [ul,ybl] at tw
   exact ⟨_,rfl,k L ws H' hL sm hLs tw⟩
def rwN (R:Riv) (sk:Option (List (Int×Int))) (i:Nat):List (List Int):=((Jnt R sk).take i).foldl lgR [[]]
theorem Jqg {R:Riv} {sk:Option (List (Int×Int))} {i:Nat} {r:List Int} (h:(Jnt R sk)[i]?=some r):rwN R sk (i+1)=lgR (rwN R sk i) r:=by
 unfold rwN
 rw [yy,h,ybx]
 rfl
theorem Jyt {R:Riv} {sk:Option (List (Int×Int))} (h4:∀r∈Jnt R sk,r.length<=4):∀i,i<=(Jnt R sk).length->(rwN R sk i).length<=4^i/\∀r∈rwN R sk i,r.length=i:=by
 intro i
 induction i with
 |zero=>
  refine λ_=>⟨yg 1,λr hr=>?_⟩
  have hr':r∈ [([]:List Int)]:=hr
  rw [yan.mp hr']
  rfl
 |succ i ih=>
  intro h
  obtain ⟨h1,h2⟩:=ih (by omega)
  have er:(Jnt R sk)[i]?=some (Jnt R sk)[i]:=yh (by omega)
  rw [Jqg er]
  refine ⟨?_,λr hr=>?_⟩
  ·rw [Jrz,Nat.pow_succ]
   exact yco h1 (h4 _ (yat _))
  ·unfold lgR at hr
   obtain ⟨r0,hr0,hr⟩:=ycp.mp hr
   obtain ⟨n,_,rfl⟩:=yo.mp hr
   rw [yab,h2 r0 hr0]
   rfl
theorem Jss (R:Riv) (sk:Option (List (Int×Int))):(Jnt R sk).length=R.Bs.length:=by
 unfold Jnt
 have go:∀(l:List (Int×Int)) (rs:List (List Int)),(l.foldl (λrs p=>rs.set p.1.toNat [p.2]) rs).length=rs.length:=by
  intro l
  induction l with
  |nil=>exact λrs=>rfl
  |cons p l ih=>exact λrs=>(ih _).trans ybt
 rw [go,ye]
def twV:Option Int->V
 |none=>.non
 |some i=>.int i
def twL (R:Riv):List (Option Int):=none::(rgI R.Ts.length).map some
def chL (R:Riv) (sk:Option (List (Int×Int))):List (List Int×Option Int):=(rwN R sk R.Bs.length).flatMap λr=>(twL R).map λt=>(r,t)
inductive CcR (H:Hp) (v:V) (c:List Int×Option Int):Prop where
 |mk (t:_) (q:_) (_:v= .ref t) (_:H t=some (.tup [.ref q,twV c.2])) (_:H q=some (.tup (c.1.map V.int)))
abbrev CcL (H:Hp) (vs:List V) (cs:List (List Int×Option Int)):Prop:=Sa2 CcR H vs cs
theorem CcR.mn (D:S1):MnD D CcR:=by
 rintro H H' v a f ⟨t,q,rfl,g1,g2⟩
 exact ⟨t,q,rfl,f t _ (.inr λ_ z=>by cases z) g1,f q _ (.inr λ_ z=>by cases z) g2⟩
theorem CcL.on {H H':Hp} {vs:List V} {cs:List (List Int×Option Int)} (f:∀q xs,H q=some (.tup xs)->H' q=some (.tup xs)) (h:CcL H vs cs):CcL H' vs cs:=h.imp λv r q=>by
 obtain ⟨t,q,rfl,g1,g2⟩:=q
 exact ⟨t,q,rfl,f _ _ g1,f _ _ g2⟩
theorem Sjo {i:Nat} (h:i<=4):4^i<=256:=by
 have cs:i=0\/i=1\/i=2\/i=3\/i=4:=by omega
 rcases cs with rfl|rfl|rfl|rfl|rfl <;> decide
theorem Skt {i:Nat} (h:i+1<=4):4^i*4<=256:=by
 rw [<-Nat.pow_succ]
 exact Sjo h
inductive Snm (K:Sd) (a:Ad) (vs:List V) (H:Hp) (Q:VK) (z3:XK):Prop where
 |mk (o:S1) (R:Riv) (x:V) (sk:Option (List (Int×Int))) (_:vs= [.ref o,x]) (_:Sak K a H o R) (_:Sdc H x sk) (_:Jsj R sk) (_:R.Bs.length<=4) (_:∀(l:S1) (us:List V) (H':Hp),H l=none->Si H H'->H' l=some (.lst us)->CcL H' us (chL R sk)->Q (.ref l) H')
theorem Sab:Jm2 ["river","stuck","rows","settings","towns","let","row"] ["river","stuck"] (Jm0 (top 40)):=⟨rfl,rfl,rfl,by decide +kernel,rfl,by decide +kernel,by decide +kernel⟩
theorem Jur (T:Tx K mg a):So P w K mg base CX0 3 a.Ji8 a.Ji9 ["river","stuck"] (Snm K a):=by
 have Sbv:=Jpr (P:=P) (w:=w) (base:=base) T
 have Sc9:=Jqb (P:=P) (w:=w) (base:=base) T
 refine T.Jm.fn.ok Sab (λvs H Q E h=>?_) (λcdv A outer s H vs Q E hr h=>?_)
 ·obtain ⟨o,R,x,sk,rfl,_⟩:=h
  rfl
 ·obtain ⟨o,R,x,sk,rfl,ro,sa,so,h4,k⟩:=h
  refine ⟨?t,?B,?C⟩
  case B=>
   refine' Su ?O0 ?O1
   case O0=>exact (Jm7 (i:=2) Sab.nd rfl (yf rfl) (Jmt (Sj (Jn1 Sl) Sl)))
   case O1=>
   refine' Su ?O2 ?O3
   case O2=>
    refine' Jn5 ?O4 ?O5 ?O6 ?O7 ?O8
    case O4=>exact PassesOwn.never
    case O5=>exact rfl
    case O6=>exact (Jml (Jlz T.Jd Sbv hr (by decide) (Sj (pv 0) (Sj (pv 1) Sl))))
    case O7=>exact (Jm3 (i:=3) Sab.nd rfl (yf rfl))
    case O8=>
    refine' Sx ?O9
    case O9=>exact (Jm7 (i:=2) Sab.nd rfl (yf rfl) (Jlz T.Jl Sc9 hr (by decide) (Sj (pv 2) (Sj (pv 3) Sl))))
   case O3=>
   refine' Su ?Oa ?Ob
   case Oa=>exact (Jm7 (i:=4) Sab.nd rfl (yf rfl) (Jm8 Juz (Jmt (Sj Joy Sl)) (Jmf (Jnx rfl) (by rfl) T.Jav Jni (Sj (Jmf Jpa (by rfl) T.Jay Jq1 (Sj (Jm4 Jmd (by rfl) T.Jau Jnf (Sj (Jm9 (pv 0) (by rfl)) Sl)) Sl)) Sl))))
   case Ob=>
   refine' Su ?Oc ?Od
   case Oc=>exact (Jm7 (i:=5) Sab.nd rfl (yf rfl) (Jmt Sl))
   case Od=>
   refine' Su ?Oe ?Of
   case Oe=>
    refine' Jn5 ?Og ?Oh ?Oi ?Oj ?Ok
    case Og=>exact PassesOwn.never
    case Oh=>exact rfl
    case Oi=>exact (Jml (pv 2))
    case Oj=>exact (Jm3 (i:=6) Sab.nd rfl (yal rfl))
    case Ok=>
    refine' Sx ?Ol
    case Ol=>exact (Jnd (Jps F.plainAttrs_list F.slot_list_extend F.type_list_extend Jpg (pv 5) (Sj (Jmj (N:=(["town","row"]:List Str)) (ini:=[none,some 6]) rfl (Jml (pv 4)) (λ_ _ _ _ _=>(Jm3 (i:=0) (by decide +kernel:(["town","row"]:List Str).Nodup) rfl (yf rfl))) (λ_ _ _ _ _=>Jmi) (λ_ _ _ _ _=>(Jn1 (Sj (pv 1) (Sj (pv 0) Sl))))) Sl)))
   case Of=>
   refine' Sx ?Om
   case Om=>exact (Jm5 (pv 5))
  obtain ⟨dx,b,t,os,ts,ho,hb,bl,ht,tl,n1,n2,n3⟩:=id ro
  have r4:=Jry R sk bl.n4
  have ll:=Jss R sk
  refine ⟨(show 0<=S6 by decide),λe0 he0=>⟨(show 1<=S6 by decide),λl0 hl0=>?_⟩⟩
  have s0:Si H (upd (upd H e0 (.tup [])) l0 (.lst [.ref e0])):=(Si.upd he0).trans (Si.upd hl0)
  have tp0:TpL (upd (upd H e0 (.tup [])) l0 (.lst [.ref e0])) [.ref e0] [[]]:=TpL.one ((Si.upd hl0) _ _ Sn)
  have g0:=Sn (H:=upd H e0 (.tup [])) (a:=l0) (o:=.lst [.ref e0])
  generalize upd (upd H e0 (.tup [])) l0 (.lst [.ref e0])=H0 at*
  refine ⟨_,rfl,_,rfl,o,R,x,sk,rfl,ro.same s0,sa.same s0,so,λl us H1 hl s1 hl1 rw_=>⟨l,rfl,⟨_,Ss.of hl1⟩,?_⟩⟩
  have s01:=s0.trans s1
  have ul:us.length=R.Bs.length:=by rw [rw_.1,ll]
  refine Jno (xs:=us) (λi σ H'=>∃(Rw:S1) (vs:List V) (o3:Option V),σ= [some (.ref o),some x,some (.ref Rw),o3,none,none,none]/\H' Rw=some (.lst vs)/\TpL H' vs (rwN R sk i)/\Si H1 H') ?_ ?_ ?_ ?_
  ·exact ⟨l0,[.ref e0],_,rfl,s1 _ _ g0,TpL.on (λq xs e=>s1 _ _ e) tp0,Si.refl _⟩
  ·rintro i σ H' _ ⟨_,_,_,_,_,_,sm⟩
   exact Ss.of (sm _ _ hl1)
  ·rintro i y σ H' hy ⟨Rw,vs,o3,rfl,hRw,tp,sm⟩
   have hi:i < us.length:=(yi.mp hy).1
   obtain ⟨r,er⟩:∃r,(Jnt R sk)[i]?=some r:=⟨(Jnt R sk)[i],yh (by omega)⟩
   obtain ⟨q,rfl,_,g⟩:=rw_.2 i y r hy er
   have rl:=r4 r (yr er)
   obtain ⟨b1,b2⟩:=Jyt (R:=R) (sk:=sk) r4 i (by omega)
   have b3:=yco b1 rl
   have b4:=Skt (i:=i) (by omega)
   refine ⟨_,rfl,_,rfl,Rw,q,vs,rwN R sk i,r,rfl,hRw,tp,sm _ _ g,λr' hr'=>?_,by omega,by omega,λL ws H2 hL s2 hL2 tw=>?_⟩
   ·rw [b2 r' hr']
    omega
   ·refine ⟨L,ws,_,rfl,hL2,?_,sm.trans s2⟩
    rw [Jqg er]
    exact tw
  rintro σ H2 ⟨Rw,vs,o3,rfl,hRw,tp,s2⟩
  rw [ul] at tp
  have s02:=s01.trans s2
  obtain ⟨b1,b2⟩:=Jyt (R:=R) (sk:=sk) r4 R.Bs.length (by omega)
  have b5:=Sjo h4
  have tln:=tl.len
  refine ⟨(show 1<=S6 by decide),λa1 ha1=>?_⟩
  have s3:=Si.upd (o:=.lst [V.non]) ha1
  have s03:=s02.trans s3
  refine ⟨_,rfl,o,_,dx,_,_,rfl,s03 _ _ ho,T.Jet,T.Jfx,rfl,t,_,rfl,.inr (Sy.of (s03 _ _ ht)),_,rfl,λp hp=>⟨p,_,_,rfl,Sn,by omega,by omega,by omega,by rw [ye];omega,λl2 hl2=>?_⟩⟩
  have er:((yav (((ts.map V.ref).length:Int) - 0).toNat).map λk:Nat=>V.int (0+k))=((rgI R.Ts.length).map some).map twV:=by
   unfold rgI
   rw [yaq,yaq,Int.sub_zero,yau,ye,tln]
   exact yct λk _=>by simp [twV]
  rw [er]
  have s4:=Si.upd (o:=.rng 0 ((ts.map V.ref).length:Int)) hp
  have s5:=Si.upd (o:=.lst (((rgI R.Ts.length).map some).map twV)) hl2
  have tz: [V.non].length+(((rgI R.Ts.length).map some).map twV).length<=S6:=Jmw _ (by unfold rgI;rw [ye,ye,ye,yaz];show 1+_<=2000;omega)
  refine ⟨a1,l2,_,_,rfl,rfl,s5 _ _ (s4 _ _ Sn),Sn,tz,λTW hTW=>?_⟩
  have e6: [V.non]++((rgI R.Ts.length).map some).map twV=(twL R).map twV:=rfl
  rw [e6]
  have s6:=Si.upd (o:=.lst ((twL R).map twV)) hTW
  have s26:=((s3.trans s4).trans s5).trans s6
  have g6:=Sn (H:=upd (upd (upd H2 a1 (.lst [V.non])) p (.rng 0 ((ts.map V.ref).length:Int))) l2 (.lst (((rgI R.Ts.length).map some).map twV))) (a:=TW) (o:=.lst ((twL R).map twV))
  generalize upd (upd (upd (upd H2 a1 (.lst [V.non])) p (.rng 0 ((ts.map V.ref).length:Int))) l2 (.lst (((rgI R.Ts.length).map some).map twV))) TW (.lst ((twL R).map twV))=H6 at*
  have s06:=s02.trans s26
  have hRw6:=s26 _ _ hRw
  have tp6:=TpL.on (λq xs e=>s26 _ _ e) tp
  refine ⟨(show 0<=S6 by decide),λL hL=>?_⟩
  have sL:=Si.upd (o:=.lst []) hL
  have twl:(twL R).length<=4:=by
   unfold twL rgI
   rw [yaf,ye,ye,yaz]
   omega
  refine ⟨_,rfl,Rw,rfl,⟨_,Ss.of (sL _ _ hRw6)⟩,?_⟩
  have vl:=tp6.1
  refine Jno (xs:=vs) (λi σ H'=>∃(o6:Option V) (ws:List V),σ= [some (.ref o),some x,some (.ref Rw),o3,some (.ref TW),some (.ref L),o6]/\H' L=some (.lst ws)/\CcL H' ws (((rwN R sk R.Bs.length).take i).flatMap λr=>(twL R).map λt=>(r,t))/\ws.length<=4*i/\Si H6 H') ?_ ?_ ?_ ?_
  ·exact ⟨_,[],rfl,Sn,.nil,yg 0,sL⟩
  ·rintro i σ H' _ ⟨_,_,_,_,_,_,sm⟩
   exact Ss.of (sm _ _ hRw6)
  ·rintro i y σ H' hy ⟨o6,ws,rfl,hLs,cc,wl,sm⟩
   have hi:i < vs.length:=(yi.mp hy).1
   obtain ⟨r,err⟩:∃r,(rwN R sk R.Bs.length)[i]?=some r:=⟨(rwN R sk R.Bs.length)[i],yh (by omega)⟩
   obtain ⟨q,rfl,hq⟩:=tp6.2 i y r hy err
   refine ⟨_,rfl,.inl ⟨rfl,_,Ss.of hLs⟩,_,rfl,TW,rfl,⟨_,Ss.of (sm _ _ g6)⟩,λD hD=>?_⟩
   refine Jns (K:=K) (xs:=(twL R).map twV) CcR ((twL R).map λt=>(r,t)) (CcR.mn D) hD (by simp) (by rw [ye];omega) (sm _ _ g6) ?_ ?_
   ·intro j z e H2 Q' hz he s2 _ k'
    rw [yj] at hz he
    cases en:(twL R)[j]? with
    |none=>rw [en] at hz;cases hz
    |some n=>
     rw [en] at hz he
     cases hz
     cases he
     refine ⟨_,rfl,_,rfl,(show 2<=S6 by decide),λp hp=>?_⟩
     have sp:=Si.upd (o:=.tup [.ref q,twV n]) hp
     exact k' _ _ sp ⟨p,q,rfl,Sn,sp _ _ (s2 _ _ (sm _ _ hq))⟩
   ·intro ys H2 s2 hDs ty
    have yl:=ty.1
    rw [ye] at yl
    have hL2:=s2 _ _ hLs
    refine ⟨L,D,ws,ys,rfl,rfl,hL2,hDs,Jmw _ (by omega),_,ws++ys,rfl,Sn,?_,by rw [yab];omega,λc u e=>?_⟩
    ·rw [yy,err,ycu]
     refine Sa2.on (CcR.mn L) (OnD.grow hL2) (Sa2.append (Sa2.on (CcR.mn L) (OnD.same s2) cc) ?_)
     show CcL _ ys (List.flatMap _ [r])
     rw [List.flatMap_singleton]
     exact ty
    ·rw [Sw (Jm1 e hL)]
     exact s2 _ _ (sm _ _ e)
  ·rintro σ H' ⟨o6,ws,rfl,hLs,cc,wl,sm⟩
   rw [vl,ybl] at cc
   have h0:H L=none:=by
    cases e:H L with
    |none=>rfl
    |some u=>rw [s06 _ _ e] at hL;cases hL
   exact ⟨_,rfl,k L ws H' h0 (s06.trans sm) hLs cc⟩
def Jrb (R:Riv) (wet:Int):Int:=
 if (R.Bs.map (·.rn)).sum < (if 0 > wet+R.g - R.c then 0 else wet+R.g - R.c) then (R.Bs.map (·.rn)).sum else (if 0 > wet+R.g - R.c then 0 else wet+R.g - R.c)
inductive Ycz (K:Sd) (a:Ad) (vs:List V) (H:Hp) (Q:VK) (z3:XK):Prop where
 |mk (o:S1) (R:Riv) (wet:Int) (_:vs= [.ref o,.int wet]) (_:Sak K a H o R) (_:∀H',Si H H'->Q (.int (Jrb R wet)) H')
theorem Yal {Bs:List Bsn} (n1:Bs.length<=16) (n3:∀B∈Bs,0<=B.rn/\B.rn<=6):Sml (Bs.map (·.rn)):=by
 refine ⟨by rw [ye];omega,λn hn=>?_⟩
 obtain ⟨B,hB,rfl⟩:=yo.mp hn
 have:=n3 B hB
 omega
theorem Scs:Jm2 ["river","wet","too_many"] ["river","wet"] (Jm0 (top 19)):=⟨rfl,rfl,rfl,by decide +kernel,rfl,by decide +kernel,by decide +kernel⟩
theorem Jus (T:Tx K mg a):So P w K mg base CX0 1 a.Jh4 a.Jh5 ["river","wet"] (Ycz K a):=by
 refine T.J4.fn.ok Scs (λvs H Q E h=>?_) (λcdv A outer s H vs Q E hr h=>?_)
 ·obtain ⟨o,R,wet,rfl,_⟩:=h
  rfl
 ·obtain ⟨o,R,wet,rfl,ro,k⟩:=h
  refine ⟨?t,?B,?C⟩
  case B=>
   refine' Su ?O0 ?O1
   case O0=>exact (Jm7 (i:=2) Scs.nd rfl (yf rfl) (Jm4 (Jp9 rfl) (by rfl) T.Jaw Juc (Sj (Jm8 Jnl (Jm8 Jmg (pv 1) (Jm9 (pv 0) (by rfl))) (Jm9 (pv 0) (by rfl))) (Sj Sr Sl))))
   case O1=>
   refine' Sx ?O2
   case O2=>exact (Jm5 (Jm4 (Joq rfl) (by rfl) T.Jax Jsm (Sj (pv 2) (Sj (Jm4 (Jpb rfl) (by rfl) T.Jb2 Jpk (Sj (Jmj (N:=(["basin"]:List Str)) (ini:=[none]) rfl (Jt0 (Jm9 (pv 0) (by rfl))) (λ_ _ _ _ _=>(Jm3 (i:=0) (by decide +kernel:(["basin"]:List Str).Nodup) rfl (yf rfl))) (λ_ _ _ _ _=>Jmi) (λ_ _ _ _ _=>(Jo1 (K:=K) rfl (pv 0) (by rfl)))) Sl)) Sl))))
  obtain ⟨dx,b,t,os,ts,ho,hb,bl,ht,tl,n1,n2,n3⟩:=ro
  have len:=bl.len
  refine ⟨_,rfl,_,rfl,o,_,dx,_,_,rfl,ho,T.Jet,T.Jfv,rfl,_,_,rfl,rfl,?_⟩
  refine ⟨_,rfl,o,_,dx,_,_,rfl,ho,T.Jet,T.Jfu,rfl,_,_,rfl,rfl,_,_,rfl,?_⟩
  refine ⟨_,rfl,_,rfl,o,_,dx,_,_,rfl,ho,T.Jet,T.Jfw,rfl,b,rfl,⟨_,Sy.of hb⟩,λD hD=>?_⟩
  refine Jw5 ((R.Bs.map (·.rn)).map V.int) hD (by simp [len]) (by rw [ye];omega) hb ?_ ?_
  ·intro i x y H' Q' hx hy sm k'
   obtain ⟨ob,B,rfl,hB,dx,hb,gs⟩:=(bl.same sm).get hx
   rw [yj,yj,hB] at hy
   cases hy
   exact ⟨_,rfl,ob,_,dx,_,_,rfl,hb,T.Jen,T.Jfp,rfl,k' _ λ_ _ h=>h⟩
  intro H1 s1 hD1
  exact ⟨D,_,rfl,.inl (Ss.of hD1),Yal n1 n3,_,_,rfl,k _ s1⟩
def rnS (R:Riv) (wet:Int) (i:Nat):List (List Int):=(R.Bs.take i).foldl (λrs B=>(lgR rs (rgI (B.rn+1).toNat)).filter λr=>decide (r.sum<=wet)) [[]]
theorem Jqf {R:Riv} {wet:Int} {i:Nat} {B:Bsn} (h:R.Bs[i]?=some B):rnS R wet (i+1)=(lgR (rnS R wet i) (rgI (B.rn+1).toNat)).filter λr=>decide (r.sum<=wet):=by
 unfold rnS
 rw [yy,h,ybx]
 rfl
def rnL (R:Riv) (wet:Int):List (List Int):=(rnS R wet R.Bs.length).filter λr=>decide (Jrb R wet<=r.sum)
inductive RnB (R:Riv):Prop where
 |mk (b:Nat) (_:1<=b) (_:b^R.Bs.length<=1000) (_:∀B∈R.Bs,0<=B.rn/\B.rn+1<=b/\B.rn<=6)
theorem Jnj (n:Nat):(rgI n).length=n:=by
 unfold rgI
 rw [ye,yaz]
theorem Jxj {n:Nat} {x:Int} (h:x∈rgI n):0<=x/\x < n:=by
 unfold rgI at h
 obtain ⟨k,hk,rfl⟩:=yo.mp h
 have:=ycc.mp hk
 omega
theorem Ym {rs:List (List Int)} {ns:List Int} {r:List Int} (h:r∈lgR rs ns):∃r0∈rs,∃n∈ns,r=r0++ [n]:=by
 unfold lgR at h
 obtain ⟨r0,hr0,hr⟩:=ycp.mp h
 obtain ⟨n,hn,rfl⟩:=yo.mp hr
 exact ⟨r0,hr0,n,hn,rfl⟩
def R6 (i:Nat) (r:List Int):Prop:=r.length=i/\∀n∈r,0<=n/\n<=6
theorem R6.snoc {i:Nat} {r:List Int} {n:Int} (h:R6 i r) (h0:0<=n) (h6:n<=6):R6 (i+1) (r++ [n]):=by
 refine ⟨by rw [yab,h.1];rfl,λm hm=>?_⟩
 rcases yba.mp hm with q|q
 ·exact h.2 m q
 ·rw [yan.mp q]
  exact ⟨h0,h6⟩
theorem R6.sml {i:Nat} {r:List Int} (h:R6 i r) (hi:i<=16):Sml r:=⟨by rw [h.1];omega,λn hn=>by have:=h.2 n hn;omega⟩
theorem Skp {rs:List (List Int)} {B:Bsn} {i:Nat} (h:∀r∈rs,R6 i r) (h0:0<=B.rn) (h6:B.rn<=6):∀r∈lgR rs (rgI (B.rn+1).toNat),R6 (i+1) r:=by
 intro r hr
 obtain ⟨r0,hr0,n,hn,rfl⟩:=Ym hr
 have:=Jxj hn
 exact (h r0 hr0).snoc (by omega) (by omega)
theorem Jtm {R:Riv} {wet:Int} {b:Nat} (hb:∀B∈R.Bs,0<=B.rn/\B.rn+1<=b/\B.rn<=6):∀i,i<=R.Bs.length->(rnS R wet i).length<=b^i/\∀r∈rnS R wet i,R6 i r:=by
 intro i
 induction i with
 |zero=>
  refine λ_=>⟨yg 1,λr hr=>?_⟩
  have hr':r∈ [([]:List Int)]:=hr
  rw [yan.mp hr']
  exact ⟨rfl,λn hn=>nomatch hn⟩
 |succ i ih=>
  intro h
  obtain ⟨h1,h2⟩:=ih (by omega)
  have eB:R.Bs[i]?=some R.Bs[i]:=yh (by omega)
  obtain ⟨q0,q1,q2⟩:=hb _ (yat (by omega:i < R.Bs.length))
  rw [Jqf eB]
  refine ⟨yac (List.length_filter_le _ _) ?_,λr hr=>Skp h2 q0 q2 r (ybp.mp hr).1⟩
  rw [Jrz,Jnj,Nat.pow_succ]
  exact yco h1 (by omega)
theorem Srx {R:Riv} {wet:Int} (h:RnB R):(rnL R wet).length<=1000/\∀r∈rnL R wet,R6 R.Bs.length r:=by
 obtain ⟨b,_,b2,hb⟩:=h
 obtain ⟨h1,h2⟩:=Jtm (wet:=wet) hb R.Bs.length (yg _)
 exact ⟨yac (List.length_filter_le _ _) (yac h1 b2),λr hr=>h2 r (ybp.mp hr).1⟩
inductive Yf0 (K:Sd) (a:Ad) (vs:List V) (H:Hp) (Q:VK) (z3:XK):Prop where
 |mk (o:S1) (R:Riv) (wt:Int) (_:vs= [.ref o,.int wt]) (_:Sak K a H o R) (_:RnB R) (_:∀(L:S1) (us:List V) (H':Hp),H L=none->Si H H'->H' L=some (.lst us)->TpL H' us (rnL R wt)->Q (.ref L) H')
theorem Sb8:Jm2 ["river","wet","rows","basin","longer","least"] ["river","wet"] (Jm0 (top 41)):=⟨rfl,rfl,rfl,by decide +kernel,rfl,by decide +kernel,by decide +kernel⟩
theorem Jym (T:Tx K mg a):So P w K mg base CX0 2 a.Jia a.Jib ["river","wet"] (Yf0 K a):=by
 have Sc9:=Jqb (P:=P) (w:=w) (base:=base) T
 have Sf0:=Jus (P:=P) (w:=w) (base:=base) T
 refine T.Jn.fn.ok Sb8 (λvs H Q E h=>?_) (λcdv A outer s H vs Q E hr h=>?_)
 ·obtain ⟨o,R,wt,rfl,_⟩:=h
  rfl
 ·obtain ⟨o,R,wt,rfl,ro,⟨bb,b1,bp,hb6⟩,k⟩:=h
  refine ⟨?t,?B,?C⟩
  case B=>
   refine' Su ?O0 ?O1
   case O0=>exact (Jm7 (i:=2) Sb8.nd rfl (yf rfl) (Jmt (Sj (Jn1 Sl) Sl)))
   case O1=>
   refine' Su ?O2 ?O3
   case O2=>
    refine' Jn5 ?O4 ?O5 ?O6 ?O7 ?O8
    case O4=>exact PassesOwn.never
    case O5=>exact rfl
    case O6=>exact (Jt0 (Jm9 (pv 0) (by rfl)))
    case O7=>exact (Jm3 (i:=3) Sb8.nd rfl (yf rfl))
    case O8=>
    refine' Su ?O9 ?Oa
    case O9=>exact (Jm7 (i:=4) Sb8.nd rfl (yf rfl) (Jlz T.Jl Sc9 hr (by decide) (Sj (pv 2) (Sj (Jmf (Jnx rfl) (by rfl) T.Jav Jni (Sj (Jmf Jpa (by rfl) T.Jay Jq1 (Sj (Jm8 Jmg (Jm9 (pv 3) (by rfl)) Sr) Sl)) Sl)) Sl))))
    case Oa=>
    refine' Sx ?Ob
    case Ob=>exact (Jsa (i:=2) (N:=(["row","wet"]:List Str)) (ini:=[none,some 1]) Sb8.nd rfl (yf rfl) rfl (Jml (pv 4)) (λ_ _ _ _ _=>(Jm3 (i:=0) (by decide +kernel:(["row","wet"]:List Str).Nodup) rfl (yf rfl))) (λ_ _ _ _ _=>(Ju7 (Jmp Jqd (Jm4 (Jqq (K:=K) rfl rfl) (by rfl) T.Jb2 Jpk (Sj (pv 0) Sl)) (pv 1) (Jmy _)))) (λ_ _ _ _ _=>(pv 0)))
   case O3=>
   refine' Su ?Oc ?Od
   case Oc=>exact (Jm7 (i:=5) Sb8.nd rfl (yal rfl) (Jlz T.J4 Sf0 hr (by decide) (Sj (pv 0) (Sj (pv 1) Sl))))
   case Od=>
   refine' Sx ?Oe
   case Oe=>exact (Jm5 (Jmj (N:=(["row","least"]:List Str)) (ini:=[none,some 5]) rfl (Jml (pv 2)) (λ_ _ _ _ _=>(Jm3 (i:=0) (by decide +kernel:(["row","least"]:List Str).Nodup) rfl (yf rfl))) (λ_ _ _ _ _=>(Ju7 (Jmp Yc4 (Jm4 (Jqq (K:=K) rfl rfl) (by rfl) T.Jb2 Jpk (Sj (pv 0) Sl)) (pv 1) (Jmy _)))) (λ_ _ _ _ _=>(pv 0))))
  obtain ⟨dx,b,t,os,ts,ho,hb,bl,ht,tl,n1,n2,n3⟩:=id ro
  have len:=bl.len
  refine ⟨(show 0<=S6 by decide),λe0 he0=>⟨(show 1<=S6 by decide),λl0 hl0=>?_⟩⟩
  have s0:Si H (upd (upd H e0 (.tup [])) l0 (.lst [.ref e0])):=(Si.upd he0).trans (Si.upd hl0)
  have tp0:TpL (upd (upd H e0 (.tup [])) l0 (.lst [.ref e0])) [.ref e0] [[]]:=TpL.one ((Si.upd hl0) _ _ Sn)
  have g0:=Sn (H:=upd H e0 (.tup [])) (a:=l0) (o:=.lst [.ref e0])
  generalize upd (upd H e0 (.tup [])) l0 (.lst [.ref e0])=H0 at*
  refine ⟨_,rfl,o,_,dx,_,_,rfl,s0 _ _ ho,T.Jet,T.Jfw,rfl,b,rfl,⟨_,Sy.of (s0 _ _ hb)⟩,?_⟩
  refine Ju0 (K:=K) (a:=b) (xs:=os.map V.ref) (λi σ H'=>∃(Rw:S1) (vs:List V) (o3 o4:Option V),σ= [some (.ref o),some (.int wt),some (.ref Rw),o3,o4,none]/\H' Rw=some (.lst vs)/\TpL H' vs (rnS R wt i)/\Si H H') ?_ ?_ ?_ ?_
  ·exact ⟨l0,[.ref e0],_,_,rfl,g0,tp0,s0⟩
  ·rintro i σ H' _ ⟨_,_,_,_,_,_,_,sm⟩
   exact Sy.of (sm _ _ hb)
  ·rintro i x σ H' hx ⟨Rw,vs,o3,o4,rfl,hRw,tp,sm⟩
   obtain ⟨ob,B,rfl,hB,dx',hb',gs⟩:=(bl.same sm).get hx
   have hi:i < R.Bs.length:=(yi.mp hB).1
   obtain ⟨q0,q1,q2⟩:=hb6 B (yr hB)
   obtain ⟨r1,r2⟩:=Jtm (wet:=wt) hb6 i (by omega)
   have hpow:bb^i*bb<=1000:=by
    rw [<-Nat.pow_succ]
    exact yac (Nat.pow_le_pow_right b1 (by omega)) bp
   refine ⟨_,rfl,_,rfl,ob,_,dx',_,_,rfl,hb',T.Jen,T.Jfp,rfl,_,_,rfl,rfl,_,rfl,λp hp=>⟨p,_,_,rfl,Sn,by omega,by omega,by omega,?_,λl2 hl2=>?_⟩⟩
   ·omega
   have er:((yav ((B.rn+1) - 0).toNat).map λk:Nat=>V.int (0+k))=(rgI (B.rn+1).toNat).map V.int:=by
    unfold rgI
    rw [yaq,Int.sub_zero]
    exact yct λk _=>by simp
   rw [er]
   have sp:Si H' (upd (upd H' p (.rng 0 (B.rn+1))) l2 (.lst ((rgI (B.rn+1).toNat).map V.int))):=(Si.upd hp).trans (Si.upd hl2)
   have g2:=Sn (H:=upd H' p (.rng 0 (B.rn+1))) (a:=l2) (o:=.lst ((rgI (B.rn+1).toNat).map V.int))
   generalize upd (upd H' p (.rng 0 (B.rn+1))) l2 (.lst ((rgI (B.rn+1).toNat).map V.int))=H1 at*
   have gl:=Jnj (B.rn+1).toNat
   have m1:(rnS R wt i).length*(rgI (B.rn+1).toNat).length<=1000:=yac (yco r1 (by omega)) hpow
   refine ⟨Rw,l2,vs,rnS R wt i,rgI (B.rn+1).toNat,rfl,sp _ _ hRw,TpL.on (λq xs e=>sp _ _ e) tp,g2,λr hr=>?_,m1,by omega,λL ws H2 hL s2 hL2 tw=>?_⟩
   ·rw [(r2 r hr).1]
    omega
   have lg6:=Skp (B:=B) r2 q0 q2
   have wl:=tw.1
   rw [Jrz] at wl
   have s02:=(sm.trans sp).trans s2
   refine ⟨_,rfl,L,rfl,⟨_,Ss.of hL2⟩,λD hD=>?_⟩
   refine Jso (K:=K) TpR _ (λr=>decide (r.sum<=wt)) (TpR.mn D) hD tw (by omega) hL2 ?_ ?_
   ·rintro j y r H3 Q' er ⟨q,rfl,hq⟩ k'
    exact ⟨_,rfl,q,r,rfl,.inr (Sy.of hq),(lg6 r (yr er)).sml (by omega),_,rfl,_,_,rfl,rfl,_,rfl,k'⟩
   ·intro ys H3 s3 hDs ty
    rw [<-Jqf hB] at ty
    exact ⟨D,ys,_,_,rfl,hDs,ty,s02.trans s3⟩
  rintro σ H2 ⟨Rw,vs,o3,o4,rfl,hRw,tp,s2⟩
  rw [ye,len] at tp
  obtain ⟨r1,r2⟩:=Jtm (wet:=wt) hb6 R.Bs.length (yg _)
  refine ⟨_,rfl,_,rfl,o,R,wt,rfl,ro.same s2,λH3 s3=>?_⟩
  have s03:=s2.trans s3
  have tp3:=TpL.on (λq xs e=>s3 _ _ e) tp
  have hRw3:=s3 _ _ hRw
  have vl:=tp3.1
  refine ⟨_,rfl,Rw,rfl,⟨_,Ss.of hRw3⟩,λD hD=>?_⟩
  refine Jso (K:=K) TpR _ (λr=>decide (Jrb R wt<=r.sum)) (TpR.mn D) hD tp3 (by omega) hRw3 ?_ ?_
  ·rintro j y r H4 Q' er ⟨q,rfl,hq⟩ k'
   exact ⟨_,rfl,q,r,rfl,.inr (Sy.of hq),(r2 r (yr er)).sml (by omega),_,rfl,_,_,rfl,rfl,_,rfl,k'⟩
  ·intro ys H4 s4 hDs ty
   have h0:H D=none:=by
    cases e:H D with
    |none=>rfl
    |some u=>rw [s03 _ _ e] at hD;cases hD
   exact k D ys H4 h0 (s03.trans s4) hDs ty
def Jv1 (kd:Str) (m lv:Int):Int:=if kd=("step" :Str) then (if lv < m then lv else m) else if kd=("flap" :Str) then (if 0 > lv - m then 0 else lv - m) else lv/m
def lvG (G:Jme) (s lv:Int):Int:=Jv1 G.kd (G.ns.getD (match G.sv with|some j=>j|none=>s).toNat 0) lv
inductive Y4 (C:S1) (lo:Int) (f:Int->Int->Int) (vs:List V) (H:Hp) (Q:VK) (z3:XK):Prop where
 |mk (g:S1) (ns:List Int) (s lv:Int) (_:vs= [.ref g,.int s,.int lv]) (_:Sbw C H g (ns.map V.int)) (_:(0<=s/\s < ns.length)) (_:(∀n∈ns,lo<=n/\n<=12)) (_:(0<=lv/\lv<=1000)) (_:Q (.int (f (ns.getD s.toNat 0) lv)) H)
theorem Jrn:Jm2 ["self","setting","level"] ["self","setting","level"] (Jm0 (Jm6 (top 54) 2)):=⟨rfl,rfl,rfl,by decide +kernel,rfl,by decide +kernel,by decide +kernel⟩
theorem Jrf (T:Tx K mg a):So P w K mg base CX0 1 a.Jj2 a.Jj3 ["self","setting","level"] (Y4 a.Jll 0 λm lv=>if lv < m then lv else m):=by
 refine T.Jd1.fn.ok Jrn (λvs H Q E h=>?_) (λcdv A outer s H vs Q E hr h=>?_)
 ·obtain ⟨g,ns,s,lv,rfl,_⟩:=h
  rfl
 ·obtain ⟨g,ns,s,lv,rfl,⟨dx,t,hg,ht⟩,hs,hn,hl,k⟩:=h
  obtain ⟨hat,hin⟩:=Ju3 hs
  refine ⟨?t,?B,?C⟩
  case B=>
   refine' Sx ?O0
   case O0=>exact (Jm5 (Jm4 (Joq rfl) (by rfl) T.Jax Jsm (Sj (Jmc Jmh (Jm9 (pv 0) (by rfl)) (pv 1) (λ_ _=>rfl)) (Sj (pv 2) Sl))))
  exact ⟨_,rfl,g,_,dx,_,_,rfl,hg,T.Jdz,T.Jfg,rfl,_,rfl,t,_,_,_,rfl,rfl,Sy.of ht,hat,_,rfl,_,_,rfl,k⟩
theorem Jrh:Jm2 ["self","setting","level"] ["self","setting","level"] (Jm0 (Jm6 (top 55) 2)):=⟨rfl,rfl,rfl,by decide +kernel,rfl,by decide +kernel,by decide +kernel⟩
theorem Jrd (T:Tx K mg a):So P w K mg base CX0 1 a.Jj8 a.Jj9 ["self","setting","level"] (Y4 a.Jlm 0 λm lv=>if 0 > lv - m then 0 else lv - m):=by
 refine T.Jd4.fn.ok Jrh (λvs H Q E h=>?_) (λcdv A outer s H vs Q E hr h=>?_)
 ·obtain ⟨g,ns,s,lv,rfl,_⟩:=h
  rfl
 ·obtain ⟨g,ns,s,lv,rfl,⟨dx,t,hg,ht⟩,hs,hn,hl,k⟩:=h
  obtain ⟨hat,hin⟩:=Ju3 hs
  refine ⟨?t,?B,?C⟩
  case B=>
   refine' Sx ?O0
   case O0=>exact (Jm5 (Jm4 (Jp9 rfl) (by rfl) T.Jaw Juc (Sj (Jm8 Jnl (pv 2) (Jmc Jmh (Jm9 (pv 0) (by rfl)) (pv 1) (λ_ _=>rfl))) (Sj Sr Sl))))
  exact ⟨_,rfl,_,rfl,g,_,dx,_,_,rfl,hg,T.Je5,T.Jfh,rfl,_,rfl,t,_,_,_,rfl,rfl,Sy.of ht,hat,_,_,rfl,rfl,_,_,rfl,k⟩
theorem Jrl:Jm2 ["self","setting","level"] ["self","setting","level"] (Jm0 (Jm6 (top 56) 2)):=⟨rfl,rfl,rfl,by decide +kernel,rfl,by decide +kernel,by decide +kernel⟩
theorem Jre (T:Tx K mg a):So P w K mg base CX0 1 a.Jje a.Jjf ["self","setting","level"] (Y4 a.Jln 1 λm lv=>lv/m):=by
 refine T.Jd7.fn.ok Jrl (λvs H Q E h=>?_) (λcdv A outer s H vs Q E hr h=>?_)
 ·obtain ⟨g,ns,s,lv,rfl,_⟩:=h
  rfl
 ·obtain ⟨g,ns,s,lv,rfl,⟨dx,t,hg,ht⟩,hs,hn,hl,k⟩:=h
  obtain ⟨hat,hin⟩:=Ju3 hs
  refine ⟨?t,?B,?C⟩
  case B=>
   refine' Sx ?O0
   case O0=>exact (Jm5 (Jm8 Jqc (pv 2) (Jmc Jmh (Jm9 (pv 0) (by rfl)) (pv 1) (λ_ _=>rfl))))
  have hm:=hn _ hin
  refine ⟨_,rfl,_,rfl,g,_,dx,_,_,rfl,hg,T.Jeb,T.Jfi,rfl,_,rfl,t,_,_,_,rfl,rfl,Sy.of ht,hat,?_⟩
  exact ⟨_,_,rfl,rfl,⟨by omega,Joh (by omega)⟩,k⟩
theorem Jwf:∀{ns:List Int} {lo:Int},Jnh lo (ns.map V.int)=true->∀n∈ns,lo<=n/\n<=12
 | [],_,_=>λ_ h=>nomatch h
 |x::r,lo,h=>by
  have h':((decide (lo<=x)&&decide (x<=12))&&Jnh (x+1) (r.map V.int))=true:=h
  rw [yap,yap,decide_eq_true_eq,decide_eq_true_eq] at h'
  intro n hn
  rcases yp.mp hn with rfl|hn
  ·exact h'.1
  ·have:=Jwf h'.2 n hn
   omega
theorem Sbh.marks {G:Jme} (h:Sbh G):∀n∈G.ns,Jp5 G.kd<=n/\n<=12:=by
 have q:(decide (1<=(G.ns.map V.int).length/\(G.ns.map V.int).length<=4)&&Jnh (Jp5 G.kd) (G.ns.map V.int))=true:=h.ns
 rw [yap] at q
 exact Jwf q.2
theorem Jtk {H:Hp} {g:S1} {kd:Str} {ns:List Int} {s lv:Int} {Q:VK} (T:Tx K mg a) (hk:Knd kd) (ga:Sbw (cOf a kd) H g (ns.map V.int)) (hs:0<=s/\s < ns.length) (hn:∀n∈ns,Jp5 kd<=n/\n<=12) (hl:0<=lv/\lv<=1000) (k:Q (.int (Jv1 kd (ns.getD s.toNat 0) lv)) H):
  ∃C dx fs f fd ps sp,H g=some (.ins C dx fs)/\fs.lookup ("passes" :Str)=none/\Cls K C/\Joc K C "passes" f/\So P w K mg base CX0 1 f fd ps sp/\Sb2 K fd ps []/\sp [.ref g,.int s,.int lv] H Q E0:=by
 obtain ⟨dx,t,h1,h2⟩:=id ga
 rcases hk with rfl|rfl|rfl
 ·have e2:cOf a "step" =a.Jll:=if_pos rfl
  rw [e2] at h1 ga
  exact ⟨_,dx,_,_,_,_,_,h1,rfl,T.Jdz,T.Je4,Jrf T,T.Jd1.bd,g,ns,s,lv,rfl,ga,hs,hn,hl,k⟩
 ·have e2:cOf a "flap" =a.Jlm:=by unfold cOf;rw [if_neg Jwg,if_pos rfl]
  rw [e2] at h1 ga
  have ek:Jv1 "flap" (ns.getD s.toNat 0) lv=(if 0 > lv - ns.getD s.toNat 0 then 0 else lv - ns.getD s.toNat 0):=by unfold Jv1;rw [if_neg Jwg,if_pos rfl]
  rw [ek] at k
  exact ⟨_,dx,_,_,_,_,_,h1,rfl,T.Je5,T.Jea,Jrd T,T.Jd4.bd,g,ns,s,lv,rfl,ga,hs,hn,hl,k⟩
 ·have e2:cOf a "part" =a.Jln:=by unfold cOf;rw [if_neg Jwi,if_neg Jwh]
  rw [e2] at h1 ga
  have ek:Jv1 "part" (ns.getD s.toNat 0) lv=lv/ns.getD s.toNat 0:=by unfold Jv1;rw [if_neg Jwi,if_neg Jwh]
  rw [ek] at k
  exact ⟨_,dx,_,_,_,_,_,h1,rfl,T.Jeb,T.Jeg,Jre T,T.Jd7.bd,g,ns,s,lv,rfl,ga,hs,hn,hl,k⟩
theorem Ycb {H:Hp} {g:S1} {kd:Str} {xs:List V} (T:Tx K mg a) (hk:Knd kd) (ga:Sbw (cOf a kd) H g xs):∃t,TyX K H (.ref g) t/\Se K t (.ref a.Jlo)=some false:=by
 obtain ⟨dx,t,h1,h2⟩:=ga
 rcases hk with rfl|rfl|rfl
 ·rw [show cOf a "step" =a.Jll from if_pos rfl] at h1
  exact ⟨_,.of (T.Je0.ty T.Jdz h1),T.Jgc⟩
 ·rw [show cOf a "flap" =a.Jlm by unfold cOf;rw [if_neg Jwg,if_pos rfl]] at h1
  exact ⟨_,.of (T.Je6.ty T.Je5 h1),T.Jgd⟩
 ·rw [show cOf a "part" =a.Jln by unfold cOf;rw [if_neg Jwi,if_neg Jwh]] at h1
  exact ⟨_,.of (T.Jec.ty T.Jeb h1),T.Jge⟩
inductive Yex (a:Ad) (vs:List V) (H:Hp) (Q:VK) (z3:XK):Prop where
 |mk (x g dx:S1) (y:V) (kd:Str) (ns:List Int) (j lv:Int) (_:vs= [.ref x,y,.int lv]) (_:H x=some (.ins a.Jlo dx [("gate",.ref g),("setting",.int j)])) (_:Knd kd) (_:Sbw (cOf a kd) H g (ns.map V.int)) (_:(0<=j/\j < ns.length)) (_:(∀n∈ns,Jp5 kd<=n/\n<=12)) (_:(0<=lv/\lv<=1000)) (_:Q (.int (Jv1 kd (ns.getD j.toNat 0) lv)) H)
theorem Say:Jm2 ["self","setting","level","inner"] ["self","setting","level"] (Jm0 (Jm6 (top 57) 2)):=⟨rfl,rfl,rfl,by decide +kernel,rfl,by decide +kernel,by decide +kernel⟩
theorem Jqy (T:Tx K mg a):So P w K mg base CX0 2 a.Jjk a.Jjl ["self","setting","level"] (Yex a):=by
 refine T.Jda.fn.ok Say (λvs H Q E h=>?_) (λcdv A outer s H vs Q E hr h=>?_)
 ·obtain ⟨x,g,dx,y,kd,ns,j,lv,rfl,_⟩:=h
  rfl
 ·obtain ⟨x,g,dx,y,kd,ns,j,lv,rfl,hx,hk,ga,hj,hn,hl,k⟩:=h
  refine ⟨?t,?B,?C⟩
  case B=>
   refine' Su ?O0 ?O1
   case O0=>exact (Jm7 (i:=3) Say.nd rfl (yf rfl) (pv 0))
   case O1=>
   refine' Su ?O2 ?O3
   case O2=>exact (Ycf PassesOwn.never (Jmx (Jm4 Jo8 (by rfl) T.Jat Jmk (Sj (Jm9 (pv 3) (by rfl)) (Sj (Jn7 (by rfl) T.Jbk (v:=.ref _) rfl) Sl)))) (Sx (Jm7 (i:=3) Say.nd rfl (yf rfl) (Jm9 (pv 3) (by rfl)))))
   case O3=>
   refine' Sx ?O4
   case O4=>exact (Jm5 (Js8 (Jm9 (pv 3) (by rfl)) hr (Sj (Jm9 (pv 3) (by rfl)) (Sj (pv 2) Sl))))
  obtain ⟨t,tg,et⟩:=Ycb T hk ga
  obtain ⟨C,dx',fs,f,fd,ps,sp,h1,h2,c,m,ok,bd,hsp⟩:=Jtk (P:=P) (w:=w) (base:=base) (Q:=Q) T hk ga hj hn hl k
  refine ⟨_,rfl,λ_ σ' H'=>σ'= [some (.ref x),some y,some (.int lv),some (.ref x)]/\H'=H,⟨0,rfl,rfl⟩,?_⟩
  rintro n σ' H' ⟨rfl,rfl⟩
  refine ⟨_,rfl,x,_,dx,_,_,rfl,hx,T.Jeh,T.Jfj,rfl,_,_,_,t,false,rfl,rfl,tg,et,_,rfl,Jn9 ?_⟩
  exact ⟨_,rfl,x,_,dx,_,_,rfl,hx,T.Jeh,T.Jfj,rfl,g,C,dx',fs,f,fd,ps,sp,1,rfl,h1,h2,c,m,ok,by decide,bd,_,rfl,x,_,dx,_,_,rfl,hx,T.Jeh,T.Jfk,rfl,_,rfl,hsp⟩
theorem GX.passes {H:Hp} {x:V} {G:Jme} {s lv:Int} {Q:VK} (T:Tx K mg a) (gg:Sbh G) (gx:GX a H x G) (hs:0<=s/\s < (nOf G:Int)) (hl:0<=lv/\lv<=1000) (k:Q (.int (lvG G s lv)) H):
  ∃o C dx fs f fd ps sp k',x= .ref o/\H o=some (.ins C dx fs)/\fs.lookup ("passes" :Str)=none/\Cls K C/\Joc K C "passes" f/\So P w K mg base CX0 k' f fd ps sp/\k'<=2/\Sb2 K fd ps []/\sp [x,.int s,.int lv] H Q E0:=by
 obtain ⟨g,ga,r⟩:=gx
 unfold lvG at k
 unfold nOf at hs
 cases e:G.sv with
 |none=>
  rw [e] at r k hs
  subst r
  obtain ⟨C,dx',fs,f,fd,ps,sp,h1,h2,c,m,ok,bd,hsp⟩:=Jtk (P:=P) (w:=w) (base:=base) (Q:=Q) T gg.kd ga hs gg.marks hl k
  exact ⟨g,C,dx',fs,f,fd,ps,sp,1,rfl,h1,h2,c,m,ok,by decide,bd,hsp⟩
 |some j=>
  rw [e] at r k
  obtain ⟨q,dx,rfl,r2⟩:=r
  exact ⟨q,_,dx,_,_,_,_,_,2,rfl,r2,rfl,T.Jeh,T.Jem,Jqy T,by decide,T.Jda.bd,q,g,dx,.int s,G.kd,G.ns,j,lv,rfl,r2,gg.kd,ga,gg.sv j e,gg.marks,hl,k⟩
inductive Yd2 (a:Ad) (vs:List V) (H:Hp) (Q:VK) (z3:XK):Prop where
 |mk (x:V) (G:Jme) (s lv:Int) (_:vs= [x,.int s,.int lv]) (_:GX a H x G) (_:Sbh G) (_:(0<=s/\s < (nOf G:Int))) (_:(0<=lv/\lv<=1000)) (_:Q (.int (lvG G s lv)) H)
theorem Jqj:Jm2 ["self","thing"] ["self","thing"] (Jm0 (Jm6 (top 11) 0)):=⟨rfl,rfl,rfl,by decide +kernel,rfl,by decide +kernel,by decide +kernel⟩
theorem Jph (T:Tx K mg a):So P w K mg base CX0 1 a.Jgw a.Jgx ["self","thing"] (Jp0 K "thing"):=by
 refine T.Jcq.fn.ok Jqj (λvs H Q E h=>?_) (λcdv A outer s H vs Q E hr h=>?_)
 ·obtain ⟨e,C,W,fI,y,rfl,_⟩:=h
  rfl
 ·obtain ⟨e,C,W,fI,y,rfl,q,c,n,k⟩:=h
  refine ⟨_,(Sx (Joo (pv 0) (pv 1) rfl)),?_⟩
  exact ⟨_,rfl,_,rfl,e,C,W,fI,true,rfl,q,c,n,k⟩
theorem Jxk:Jm2 ["self","setting","level"] ["self","setting","level"] (Jm0 (Jm6 (top 53) 0)):=⟨rfl,rfl,rfl,by decide +kernel,rfl,by decide +kernel,by decide +kernel⟩
theorem Jon (T:Tx K mg a):So P w K mg base (CXX P w) 3 a.Jiw a.Jix ["self","setting","level"] (Yd2 a):=by
 have Sz:=Jnm (P:=P) (w:=w) (base:=base) T
 have Sa1:=Jo9 (P:=P) (w:=w) (base:=base) T
 have Sax:=Jph (P:=P) (w:=w) (base:=base) T
 refine T.Jcy.fn.okX Jxk (λvs H Q E h=>?_) (λcdv A outer s H vs Q E hr h=>?_)
 ·obtain ⟨x,G,s,lv,rfl,_⟩:=h
  rfl
 ·obtain ⟨x,G,s,lv,rfl,gx,gg,hs,hl,k⟩:=h
  refine ⟨?t,?B,?C⟩
  case B=>
   refine' Su ?O0 ?O1
   case O0=>
    refine' Jmr ?O2 ?O3 ?O4
    case O2=>exact (Jmu (Jmx (Jlz T.J0 Sz hr (by decide) (Sj (pv 1) (Sj Sr (Sj (Jm8 Jnl (Jqv (pv 0) hr) Sr) Sl))))))
    case O3=>
     refine' Sx ?O5
     case O5=>exact (Jn0 Jn4 rfl (Jnq T.Jdh Sa1 hr (by decide) T.Jcj.bd T.Jb6 (Sj (pv 1) Sl)))
    case O4=>exact Jma
   case O1=>
   refine' Su ?O6 ?O7
   case O6=>
    refine' Jmr ?O8 ?O9 ?Oa
    case O8=>exact (Jmu (Jmx (Jlz T.J0 Sz hr (by decide) (Sj (pv 2) (Sj Sr (Sj (Jn7 (by rfl) T.Jah (v:=.int 1000) ⟨_,rfl⟩) Sl))))))
    case O9=>
     refine' Sx ?Ob
     case Ob=>exact (Jn0 Jn4 rfl (Jnq T.Jdo Sax hr (by decide) T.Jcq.bd T.Jbd (Sj (pv 2) Sl)))
    case Oa=>exact Jma
   case O7=>
   refine' Sx ?Oc
   case Oc=>exact (Jm5 (Js8 (pv 0) hr (Sj (pv 1) (Sj (pv 2) Sl))))
  have gs:GS K a H x (nOf G):=gx.gs gg
  obtain ⟨o,C,dx',fs,f,fd,ps,sp,k',rfl,h1,h2,c,m,ok,hk,bd,hsp⟩:=gx.passes (P:=P) (w:=w) (base:=base) (Q:=Q) T gg hs hl k
  refine ⟨_,rfl,_,rfl,Jnz T gs ⟨_,_,rfl,rfl,.int s,0,(nOf G:Int) - 1,rfl,.inl ⟨s,rfl⟩,_,rfl,ifF (by simp [Jmm];omega) ?_⟩ (by decide)⟩
  refine ⟨_,rfl,.int lv,0,1000,rfl,.inl ⟨lv,rfl⟩,_,rfl,ifF (by simp [Jmm];omega) ?_⟩
  exact ⟨_,rfl,o,C,dx',fs,f,fd,ps,sp,k',rfl,h1,h2,c,m,ok,hk,bd,_,rfl,_,rfl,hsp⟩
def plc (S:Riv) (z:Str):Nat:=(S.Bs.map (·.z)).idxOf z
inductive Yey (K:Sd) (a:Ad) (vs:List V) (H:Hp) (Q:VK) (z3:XK):Prop where
 |mk (o:S1) (S:Riv) (z:Str) (_:vs= [.ref o,.str z]) (_:Sak K a H o S) (_:z∈S.Bs.map (·.z)) (_:∀H',Si H H'->Q (.int (plc S z)) H')
def TIn (S:Riv):Prop:=∀T∈S.Ts,T.b∈S.Bs.map (·.z)/\1<=T.wt/\T.wt<=6
inductive Yeq (K:Sd) (a:Ad) (vs:List V) (H:Hp) (Q:VK) (z3:XK):Prop where
 |mk (o:S1) (S:Riv) (t:Int) (T:Twn) (_:vs= [.ref o,.int t]) (_:Sak K a H o S) (_:TIn S) (_:0<=t) (_:S.Ts[t.toNat]?=some T) (_:∀H',Si H H'->Q (.int (plc S T.b)) H')
theorem Sbz.at {a:Ad} {H:Hp}:∀{xs:List S1} {Bs:List Twn} {i:Nat} {B:Twn},Sbz a H xs Bs->Bs[i]?=some B->∃o,xs[i]?=some o/\Scg a H o B
 |o::_,_::_,0,_,⟨h,_⟩,e=>by cases e;exact ⟨o,rfl,h⟩
 |_::_,_::_,i+1,_,⟨_,t⟩,e=>Sbz.at (i:=i) t (by simpa using e)
 | [],[],i,_,_,e=>by simp at e
theorem Ybo:∀{l:List Str} {i:Nat} {z:Str},l[i]?=some z->(∀j,j < i->l[j]?≠some z)->l.idxOf z=i
 | [],_,_,h,_=>by simp at h
 |x::l,0,z,h,_=>by
  have e:x=z:=by simpa using h
  rw [e]
  simp
 |x::l,i+1,z,h,n=>by
  have hx:x≠z:=λe=>n 0 (by omega) (by simp [e])
  have ih:=Ybo (l:=l) (i:=i) (z:=z) (by simpa using h) (λj hj=>by have:=n (j+1) (by omega);simpa using this)
  have hb:(x==z)=false:=beq_false_of_ne hx
  simp [List.idxOf_cons,hb,ih]
theorem Sbb:Jm2 ["self","name","place","basin"] ["self","name"] (Jm0 (Jm6 (top 71) 1)):=⟨rfl,rfl,rfl,by decide +kernel,rfl,by decide +kernel,by decide +kernel⟩
theorem Js2 (T:Tx K mg a):So P w K mg base CX0 1 a.Jk0 a.Jk1 ["self","name"] (Yey K a):=by
 refine T.Jde.fn.ok Sbb (λvs H Q E h=>?_) (λcdv A outer s H vs Q E hr h=>?_)
 ·obtain ⟨o,S,z,rfl,_⟩:=h
  rfl
 ·obtain ⟨o,S,z,rfl,ro,hz,k⟩:=h
  refine ⟨?t,?B,?C⟩
  case B=>
   refine' Su ?O0 ?O1
   case O0=>
    refine' Jn5 ?O2 ?O3 ?O4 ?O5 ?O6
    case O2=>exact PassesOwn.never
    case O3=>exact rfl
    case O4=>exact (Jyp (by rfl) T.Jar (Sj (Jm9 (pv 0) (by rfl)) Sl))
    case O5=>exact (Jqe rfl (Jmb (Jm3 (i:=2) Sbb.nd rfl (yf rfl)) (Jmb (Jm3 (i:=3) Sbb.nd rfl (yf rfl)) Jnv)))
    case O6=>
    refine' Sx ?O7
    case O7=>
    refine' Jmr ?O8 ?O9 ?Oa
    case O8=>exact (Jmp Jr8 (Jm9 (pv 3) (by rfl)) (pv 1) (Jmy _))
    case O9=>
     refine' Sx ?Ob
     case Ob=>exact (Jm5 (pv 2))
    case Oa=>exact Jma
   case O1=>
   refine' Sx ?Oc
   case Oc=>exact (Jm5 Joy)
  obtain ⟨dx,b,t,os,ts,ho,hb,bl,ht,tl,n1,n2,n3⟩:=ro
  have len:=bl.len
  refine ⟨_,rfl,o,_,dx,_,_,rfl,ho,T.Jet,T.Jfw,rfl,b,rfl,⟨_,Sy.of hb⟩,?_⟩
  refine Ybi (xs:=os.map V.ref) (λi σ H'=>(∃o1 o2,σ= [some (.ref o),some (.str z),o1,o2])/\Si H H'/\∀j,j < i->∀B,S.Bs[j]?=some B->B.z≠z) ⟨⟨_,_,rfl⟩,Si.refl _,λj hj=>absurd hj (Nat.not_lt_zero j)⟩ (λi σ H' _ ⟨_,sm,_⟩=>Sy.of (sm _ _ hb)) ?_ ?_
  ·rintro i x σ H' Ta hx ⟨⟨o1,o2,rfl⟩,sm,no⟩ hT
   obtain ⟨ob,B,rfl,hB,dxb,hob,gs⟩:=(bl.same sm).get hx
   have sT:=Si.upd (o:=.tup [.int i,.ref ob]) hT
   refine ⟨Ta,_,rfl,Sy.of Sn,rfl,_,_,rfl,_,_,rfl,rfl,?_⟩
   refine ⟨_,rfl,ob,_,dxb,_,_,rfl,sT _ _ hob,T.Jen,T.Jfl,rfl,_,rfl,rfl,_,rfl,?_⟩
   by_cases e:B.z=z
   ·refine ifT (by simp [e]) ⟨_,rfl,?_⟩
    have ei:plc S z=i:=by
     refine Ybo (by rw [yj,hB,<-e];rfl) λj hj z'=>?_
     rw [yj] at z'
     obtain ⟨B',hB',ez⟩:=yay.mp z'
     exact no j hj B' hB' ez
    have k':=k _ (sm.trans sT)
    rw [ei] at k'
    exact k'
   ·refine ifF (by simp [e]) ⟨⟨_,_,rfl⟩,sm.trans sT,λj hj B' hB'=>?_⟩
    by_cases ej:j=i
    ·subst ej
     rw [hB] at hB'
     cases hB'
     exact e
    ·exact no j (by omega) B' hB'
  ·rintro σ H' ⟨_,sm,no⟩
   exfalso
   have hm:(S.Bs.map (·.z)).idxOf z < (S.Bs.map (·.z)).length:=List.idxOf_lt_length_of_mem hz
   have hj:(S.Bs.map (·.z)).idxOf z < S.Bs.length:=by rw [ye] at hm;exact hm
   have g:=List.getElem_idxOf hm
   rw [List.getElem_map] at g
   exact no _ (by rw [ye,len];exact hj) _ (yh hj) g
theorem Jr4:Jm2 ["river","town"] ["river","town"] (Jm0 (top 20)):=⟨rfl,rfl,rfl,by decide +kernel,rfl,by decide +kernel,by decide +kernel⟩
theorem Jom (T:Tx K mg a):So P w K mg base CX0 2 a.Jh6 a.Jh7 ["river","town"] (Yeq K a):=by
 refine T.J5.fn.ok Jr4 (λvs H Q E h=>?_) (λcdv A outer s H vs Q E hr h=>?_)
 ·obtain ⟨o,S,t,W,rfl,_⟩:=h
  rfl
 ·obtain ⟨o,S,t,W,rfl,ro,ti,h0,hW,k⟩:=h
  refine ⟨?t,?B,?C⟩
  case B=>
   refine' Sx ?O0
   case O0=>exact (Jm5 (Js8 (pv 0) hr (Sj (Jm9 (Jmc Jmh (Jm9 (pv 0) (by rfl)) (pv 1) (λ_ _=>rfl)) (by rfl)) Sl)))
  obtain ⟨dx,b,tt,os,ts,ho,hb,bl,ht,tl,n1,n2,n3⟩:=id ro
  obtain ⟨ow,how,dw,hw⟩:=tl.at hW
  obtain ⟨i,rfl⟩:=yca h0
  have hat:atI (ts.map V.ref) (i:Int)=some (.ref ow):=Jrr (by rw [yj];simp at how;rw [how];rfl)
  refine ⟨_,rfl,o,_,dx,_,_,_,_,_,1,rfl,ho,rfl,T.Jet,T.Jev,Js2 T,by decide,T.Jde.bd,?_⟩
  refine ⟨_,rfl,o,_,dx,_,_,rfl,ho,T.Jet,T.Jfx,rfl,_,rfl,tt,_,_,_,rfl,rfl,Sy.of ht,hat,ow,_,dw,_,_,rfl,hw,T.Jeq,T.Jfs,rfl,o,S,W.b,rfl,ro,(ti W (yr hW)).1,k⟩
def drw (S:Riv) (ls:List Int):V->Int
 | .int t=>match S.Ts[t.toNat]? with
  |some T=>if ls.getD (plc S T.b) 0≥T.wt then T.wt else 0
  |none=>0
 |_=>0
def Skm (S:Riv) (v:V):Prop:=v= .non\/∃j:Int,v= .int j/\0<=j/\j < S.Ts.length
inductive StA (H:Hp) (x:V) (S:Riv) (ls:List Int) (wt:Int):Prop where
 |mk (y u:S1) (_:x= .ref y) (_:H y=some (.tup [.ref u,.int wt])) (_:H u=some (.tup (ls.map V.int))) (_:ls.length=S.Bs.length)
inductive ChA (H:Hp) (x:V) (S:Riv) (cs:List Int) (tv:V):Prop where
 |mk (y u:S1) (_:x= .ref y) (_:H y=some (.tup [.ref u,tv])) (_:H u=some (.tup (cs.map V.int))) (_:cs.length=S.Bs.length/\Skm S tv)
theorem StA.same {H H':Hp} {x:V} {S:Riv} {ls:List Int} {wt:Int} (s:Si H H') (h:StA H x S ls wt):StA H' x S ls wt:=by obtain ⟨y,u,e,h1,h2,h3⟩:=h;exact ⟨y,u,e,s _ _ h1,s _ _ h2,h3⟩
theorem ChA.same {H H':Hp} {x:V} {S:Riv} {cs:List Int} {tv:V} (s:Si H H') (h:ChA H x S cs tv):ChA H' x S cs tv:=by obtain ⟨y,u,e,h1,h2,h3⟩:=h;exact ⟨y,u,e,s _ _ h1,s _ _ h2,h3⟩
theorem Ycc {S:Riv} {z:Str} (h:z∈S.Bs.map (·.z)):plc S z < S.Bs.length:=by
 have hm:(S.Bs.map (·.z)).idxOf z < (S.Bs.map (·.z)).length:=List.idxOf_lt_length_of_mem h
 rw [ye] at hm
 exact hm
theorem Jwb {ns:List Int} {i:Nat} (h:i < ns.length):atI (ns.map V.int) (i:Int)=some (.int (ns.getD i 0)):=by
 have e:ns.getD i 0=ns[i]:=by simp [ybw,h]
 rw [e]
 exact Ju2 h
inductive Sno (K:Sd) (a:Ad) (vs:List V) (H:Hp) (Q:VK) (z3:XK):Prop where
 |mk (o:S1) (S:Riv) (x c:V) (ls cs:List Int) (wt:Int) (tv:V) (_:vs= [.ref o,x,c]) (_:Sak K a H o S) (_:TIn S) (_:StA H x S ls wt) (_:ChA H c S cs tv) (_:∀H',Si H H'->Q (.int (drw S ls tv)) H')
theorem Sfw:Jm2 ["river","standing","choice","town","want"] ["river","standing","choice"] (Jm0 (top 21)):=⟨rfl,rfl,rfl,by decide +kernel,rfl,by decide +kernel,by decide +kernel⟩
theorem Ye5 (T:Tx K mg a):So P w K mg base CX0 3 a.Jh8 a.Jh9 ["river","standing","choice"] (Sno K a):=by
 have Sb4:=Jom (P:=P) (w:=w) (base:=base) T
 refine T.J6.fn.ok Sfw (λvs H Q E h=>?_) (λcdv A outer s H vs Q E hr h=>?_)
 ·obtain ⟨o,S,x,c,ls,cs,wt,tv,rfl,_⟩:=h
  rfl
 ·obtain ⟨o,S,x,c,ls,cs,wt,tv,rfl,ro,ti,⟨y,u,rfl,hy,hu,lu⟩,⟨z,v,rfl,hz,hv,lv,tw⟩,k⟩:=h
  refine ⟨?t,?B,?C⟩
  case B=>
   refine' Su ?O0 ?O1
   case O0=>exact (Jm7 (i:=3) Sfw.nd rfl (yf rfl) (Jmc Jmh (pv 2) Sr (λ_ _=>rfl)))
   case O1=>
   refine' Su ?O2 ?O3
   case O2=>
    refine' Jmr ?O4 ?O5 ?O6
    case O4=>exact (Jmp Jzq (pv 3) Joy (Jmy _))
    case O5=>
     refine' Sx ?O7
     case O7=>exact (Jm5 Sr)
    case O6=>exact Jma
   case O3=>
   refine' Su ?O8 ?O9
   case O8=>exact (Jm7 (i:=4) Sfw.nd rfl (yf rfl) (Jm9 (Jmc Jmh (Jm9 (pv 0) (by rfl)) (pv 3) (λ_ _=>rfl)) (by rfl)))
   case O9=>
   refine' Sx ?Oa
   case Oa=>exact (Jm5 (Jv3 (Jmp Yc4 (Jmc Jmh (Jmc Jmh (pv 1) Sr (λ_ _=>rfl)) (Jlz T.J5 Sb4 hr (by decide) (Sj (pv 0) (Sj (pv 3) Sl))) (λ_ _=>rfl)) (pv 4) (Jmy _)) (pv 4) Sr))
  obtain ⟨dx,b,tt,os,ts,ho,hb,bl,ht,tl,n1,n2,n3⟩:=id ro
  refine ⟨_,rfl,z,_,1,tv,rfl,rfl,Sy.of hz,rfl,?_⟩
  rcases tw with rfl|⟨j,rfl,j0,j1⟩
  ·exact ⟨_,rfl,rfl,_,rfl,Jzf rfl (k _ λ_ _ h=>h)⟩
  ·obtain ⟨i,rfl⟩:=yca j0
   have hi:i < S.Ts.length:=by omega
   obtain ⟨ow,how,dw,hw⟩:=tl.at (i:=i) (B:=S.Ts[i]) (yh hi)
   have hat:atI (ts.map V.ref) (i:Int)=some (.ref ow):=Jrr (by rw [yj,how];rfl)
   have pin:=(ti _ (yat hi)).1
   have pl:=Ycc pin
   have e:drw S ls (.int (i:Int))=if ls.getD (plc S S.Ts[i].b) 0≥S.Ts[i].wt then S.Ts[i].wt else 0:=by
    show (match S.Ts[(i:Int).toNat]? with|some T=>_|none=>_)=_
    rw [yau,yh hi]
   rw [e] at k
   refine ⟨_,rfl,rfl,_,rfl,Jyc (λz=>by cases z) ?_⟩
   refine ⟨_,rfl,o,_,dx,_,_,rfl,ho,T.Jet,T.Jfx,rfl,_,rfl,tt,_,_,_,rfl,rfl,Sy.of ht,hat,ow,_,dw,_,_,rfl,hw,T.Jeq,T.Jft,rfl,?_⟩
   refine ⟨_,rfl,y,_,0,_,rfl,rfl,Sy.of hy,rfl,_,rfl,_,rfl,o,S,(i:Int),S.Ts[i],rfl,ro,ti,j0,(by simp [hi]),λH1 s1=>?_⟩
   refine ⟨u,_,_,_,rfl,rfl,Sy.of (s1 _ _ hu),Jwb (by omega),_,rfl,_,_,rfl,rfl,_,rfl,?_⟩
   by_cases q:S.Ts[i].wt<=ls.getD (plc S S.Ts[i].b) 0
   ·have k':=k _ s1
    rw [if_pos q] at k'
    exact ifT (decide_eq_true q) ⟨_,rfl,k'⟩
   ·have k':=k _ s1
    rw [if_neg q] at k'
    exact ifF (decide_eq_false q) k'
def Jyr (S:Riv):V->Nat
 | .int t=>match S.Ts[t.toNat]? with
  |some T=>plc S T.b
  |none=>0
 |_=>0
def lft (S:Riv) (ls:List Int) (tv:V):List Int:=if drw S ls tv > 0 then ls.set (Jyr S tv) (ls.getD (Jyr S tv) 0 - drw S ls tv) else ls
inductive Snx (K:Sd) (a:Ad) (vs:List V) (H:Hp) (Q:VK) (z3:XK):Prop where
 |mk (o:S1) (S:Riv) (x c:V) (ls cs:List Int) (wt:Int) (tv:V) (_:vs= [.ref o,x,c,.int (drw S ls tv)]) (_:Sak K a H o S) (_:TIn S) (_:StA H x S ls wt) (_:ChA H c S cs tv) (_:∀l H',H l=none->Si H H'->H' l=some (.lst ((lft S ls tv).map V.int))->Q (.ref l) H')
theorem Sct:Jm2 ["river","standing","choice","drawn","left"] ["river","standing","choice","drawn"] (Jm0 (top 22)):=⟨rfl,rfl,rfl,by decide +kernel,rfl,by decide +kernel,by decide +kernel⟩
theorem Juw (T:Tx K mg a):So P w K mg base CX0 3 a.Jha a.Jhb ["river","standing","choice","drawn"] (Snx K a):=by
 have Sb4:=Jom (P:=P) (w:=w) (base:=base) T
 refine T.J7.fn.ok Sct (λvs H Q E h=>?_) (λcdv A outer s H vs Q E hr h=>?_)
 ·obtain ⟨o,S,x,c,ls,cs,wt,tv,rfl,_⟩:=h
  rfl
 ·obtain ⟨o,S,x,c,ls,cs,wt,tv,rfl,ro,ti,⟨y,u,rfl,hy,hu,lu⟩,⟨z,v,rfl,hz,hv,lv,tw⟩,k⟩:=h
  refine ⟨?t,?B,?C⟩
  case B=>
   refine' Su ?O0 ?O1
   case O0=>exact (Jm7 (i:=4) Sct.nd rfl (yf rfl) (Jmf Jnu (by rfl) T.Jav Jni (Sj (Jmc Jmh (pv 1) Sr (λ_ _=>rfl)) Sl)))
   case O1=>
   refine' Su ?O2 ?O3
   case O2=>
    refine' Jmr ?O4 ?O5 ?O6
    case O4=>exact (Jmp Jwk (pv 3) Sr (Jmy _))
    case O5=>
     refine' Sx ?O7
     case O7=>exact (Yeg (pv 4) (Jlz T.J5 Sb4 hr (by decide) (Sj (pv 0) (Sj (Jmc Jmh (pv 2) Sr (λ_ _=>rfl)) Sl))) Ybl (pv 3) Smj Jsf)
    case O6=>exact Jma
   case O3=>
   refine' Sx ?O8
   case O8=>exact (Jm5 (pv 4))
  refine ⟨_,rfl,y,_,0,_,rfl,rfl,Sy.of hy,rfl,u,_,rfl,.inr (Sy.of hu),λl hl=>?_⟩
  have s1:=Si.upd (o:=.lst (ls.map V.int)) hl
  refine ⟨_,rfl,_,_,rfl,rfl,_,rfl,?_⟩
  by_cases hd:drw S ls tv > 0
  ·refine ifT (decide_eq_true hd) ?_
   obtain ⟨j,rfl,j0,j1⟩:∃j:Int,tv= .int j/\0<=j/\j < S.Ts.length:=by
    rcases tw with rfl|h
    ·exact absurd (show (0:Int) > 0 from hd) (by decide)
    ·exact h
   obtain ⟨i,rfl⟩:=yca j0
   have hi:i < S.Ts.length:=by omega
   have pin:=(ti _ (yat hi)).1
   have pl:=Ycc pin
   have ep:Jyr S (.int (i:Int))=plc S S.Ts[i].b:=by
    show (match S.Ts[(i:Int).toNat]? with|some T=>_|none=>_)=_
    rw [yau,yh hi]
   refine ⟨_,rfl,_,rfl,_,rfl,z,_,1,_,rfl,rfl,Sy.of (s1 _ _ hz),rfl,o,S,(i:Int),S.Ts[i],rfl,ro.same s1,ti,j0,(by simp [hi]),λH1 s2=>?_⟩
   have hl1:=s2 _ _ (Sn (H:=H) (a:=l) (o:=.lst (ls.map V.int)))
   have pl':plc S S.Ts[i].b < ls.length:=by omega
   have hix:ixN (ls.map V.int).length ((plc S S.Ts[i].b:Nat):Int)=some (plc S S.Ts[i].b):=by
    unfold ixN
    rw [if_pos (by omega),if_pos (by rw [ye];omega)]
    rfl
   refine ⟨l,_,_,_,rfl,rfl,Ss.of hl1,by omega,Jwb pl',_,rfl,_,_,rfl,rfl,l,_,_,_,rfl,rfl,hl1,hix,_,rfl,?_⟩
   have e:lft S ls (.int (i:Int))=ls.set (plc S S.Ts[i].b) (ls.getD (plc S S.Ts[i].b) 0 - drw S ls (.int (i:Int))):=by
    unfold lft
    rw [if_pos hd,ep]
   rw [e,List.map_set] at k
   exact k l _ hl (λb o e=>by rw [Sw (Jm1 e hl)];exact (s1.trans s2) _ _ e) Sn
  ·refine ifF (decide_eq_false hd) ?_
   have e:lft S ls tv=ls:=if_neg hd
   rw [e] at k
   exact ⟨_,rfl,k l _ hl s1 Sn⟩
def Jv0:List Jme->List Int->List Int->List Int
 |G::Gs,c::cs,l::ls=>lvG G c l::Jv0 Gs cs ls
 |_,_,_=>[]
theorem Jqu:∀{Gs:List Jme} {cs ls:List Int},Gs.length=cs.length->cs.length=ls.length->(Jv0 Gs cs ls).length=Gs.length
 | [],_,_,_,_=>rfl
 |_::_,[],_,e,_=>by simp at e
 |_::_,_::_,[],_,e=>by simp at e
 |_::Gs,_::cs,_::ls,e1,e2=>by
  show (Jv0 Gs cs ls).length+1=Gs.length+1
  rw [Jqu (by simpa using e1) (by simpa using e2)]
theorem Jwl:∀{Gs:List Jme} {cs ls:List Int} {i:Nat} {G:Jme} {c l:Int},Gs[i]?=some G->cs[i]?=some c->ls[i]?=some l->(Jv0 Gs cs ls)[i]?=some (lvG G c l)
 |_::_,_::_,_::_,0,_,_,_,h1,h2,h3=>by cases h1;cases h2;cases h3;rfl
 |_::Gs,_::cs,_::ls,i+1,_,_,_,h1,h2,h3=>Jwl (Gs:=Gs) (cs:=cs) (ls:=ls) (i:=i) (by simpa using h1) (by simpa using h2) (by simpa using h3)
 | [],_,_,_,_,_,_,h,_,_=>by simp at h
 |_::_,[],_,_,_,_,_,_,h,_=>by simp at h
 |_::_,_::_,[],_,_,_,_,_,_,h=>by simp at h
def Sbx:List Jme->List Int->List Int->Prop
 | [],[],[]=>True
 |G::Gs,c::cs,l::ls=>(Sbh G/\(0<=c/\c < (nOf G:Int))/\(0<=l/\l<=1000))/\Sbx Gs cs ls
 |_,_,_=>False
theorem Sbx.len:∀{Gs:List Jme} {cs ls:List Int},Sbx Gs cs ls->Gs.length=cs.length/\cs.length=ls.length
 | [],[],[],_=>⟨rfl,rfl⟩
 |_::Gs,_::cs,_::ls,⟨_,t⟩=>by
  have:=t.len
  simp
  omega
theorem Sbx.get:∀{Gs:List Jme} {cs ls:List Int} {i:Nat} {G:Jme} {c l:Int},Sbx Gs cs ls->Gs[i]?=some G->cs[i]?=some c->ls[i]?=some l->Sbh G/\(0<=c/\c < (nOf G:Int))/\(0<=l/\l<=1000)
 |_::_,_::_,_::_,0,_,_,_,⟨h,_⟩,h1,h2,h3=>by cases h1;cases h2;cases h3;exact h
 |_::Gs,_::cs,_::ls,i+1,_,_,_,⟨_,t⟩,h1,h2,h3=>t.get (i:=i) (by simpa using h1) (by simpa using h2) (by simpa using h3)
 | [],[],[],_,_,_,_,_,h,_,_=>by simp at h
inductive So3 (K:Sd) (a:Ad) (vs:List V) (H:Hp) (Q:VK) (z3:XK):Prop where
 |mk (o v l:S1) (S:Riv) (Gs:List Jme) (cs ls:List Int) (_:vs= [.ref o,.ref v,.ref l]) (_:Sak K a H o S) (_:GXL a H (S.Bs.map (·.g)) Gs) (_:Sbx Gs cs ls) (_:S.Bs.length=Gs.length) (_:H v=some (.tup (cs.map V.int))) (_:H l=some (.lst (ls.map V.int))) (_:∀u H',Si H H'->H' u=some (.tup ((Jv0 Gs cs ls).map V.int))->Q (.ref u) H')
def Jz8:Int->List Int->List Int->List Int->List Int
 |g,l::ls,o::os,r::rs=>(l - o+g+r)::Jz8 o ls os rs
 |_,_,_,_=>[]
theorem Jrt:∀{g:Int} {ls os rs:List Int},ls.length=os.length->ls.length=rs.length->(Jz8 g ls os rs).length=ls.length
 |_,[],_,_,_,_=>rfl
 |_,_::_,[],_,e,_=>by simp at e
 |_,_::_,_::_,[],_,e=>by simp at e
 |_,_::ls,o::os,_::rs,e1,e2=>by
  show (Jz8 o ls os rs).length+1=ls.length+1
  rw [Jrt (by simpa using e1) (by simpa using e2)]
theorem Jy2:∀{g:Int} {ls os rs:List Int} {i:Nat} {l o f r:Int},ls[i]?=some l->os[i]?=some o->(g::os)[i]?=some f->rs[i]?=some r->(Jz8 g ls os rs)[i]?=some (l - o+f+r)
 |_,_::_,_::_,_::_,0,_,_,_,_,h1,h2,h3,h4=>by cases h1;cases h2;cases h3;cases h4;rfl
 |_,_::ls,o::os,_::rs,i+1,_,_,_,_,h1,h2,h3,h4=>Jy2 (g:=o) (ls:=ls) (os:=os) (rs:=rs) (i:=i) (by simpa using h1) (by simpa using h2) (by simpa using h3) (by simpa using h4)
 |_,[],_,_,_,_,_,_,_,h,_,_,_=>by simp at h
 |_,_::_,[],_,_,_,_,_,_,_,h,_,_=>by simp at h
 |_,_::_,_::_,[],_,_,_,_,_,_,_,_,h=>by simp at h
inductive Ycx (vs:List V) (H:Hp) (Q:VK) (z3:XK):Prop where
 |mk (l u r:S1) (ls os rs:List Int) (_:vs= [.ref l,.ref u,.ref r]) (_:H l=some (.lst (ls.map V.int))) (_:H u=some (.tup (os.map V.int))) (_:H r=some (.tup (rs.map V.int))) (_:ls.length=os.length) (_:ls.length=rs.length) (_:(1<=ls.length/\ls.length<=16)) (_:∀w H',Si H H'->H' w=some (.tup ((Jz8 0 ls os rs).map V.int))->Q (.ref w) H')
def Joj:Nat->List Bsn->List Int->List Int
 |k,B::Bs,l::ls=>if B.lo<=l/\l<=B.hi then Joj (k+1) Bs ls else (k:Int)::Joj (k+1) Bs ls
 |_,_,_=>[]
theorem Jw1:∀{k:Nat} {Bs:List Bsn} {ls:List Int} {B:Bsn} {l:Int},Bs.length=ls.length->Joj k (Bs++ [B]) (ls++ [l])=Joj k Bs ls++(if B.lo<=l/\l<=B.hi then [] else [((k+Bs.length:Nat):Int)])
 |k,[],[],B,l,_=>by
  show (if B.lo<=l/\l<=B.hi then _ else _)=_
  split <;> rfl
 |_,[],_::_,_,_,e=>by simp at e
 |_,_::_,[],_,_,e=>by simp at e
 |k,B'::Bs,l'::ls,B,l,e=>by
  have ih:=Jw1 (k:=k+1) (Bs:=Bs) (ls:=ls) (B:=B) (l:=l) (by simpa using e)
  have ek:k+1+Bs.length=k+(B'::Bs).length:=by rw [yaf];omega
  rw [ek] at ih
  show (if B'.lo<=l'/\l'<=B'.hi then Joj (k+1) (Bs++ [B]) (ls++ [l]) else (k:Int)::Joj (k+1) (Bs++ [B]) (ls++ [l]))=(if B'.lo<=l'/\l'<=B'.hi then Joj (k+1) Bs ls else (k:Int)::Joj (k+1) Bs ls)++_
  rw [ih]
  split <;> rfl
theorem Jy3:∀{k:Nat} {Bs:List Bsn} {ls:List Int},(Joj k Bs ls).length<=Bs.length
 |_,[],_=>by simp [Joj]
 |_,_::_,[]=>by simp [Joj]
 |k,B::Bs,l::ls=>by
  have:=Jy3 (k:=k+1) (Bs:=Bs) (ls:=ls)
  show (if B.lo<=l/\l<=B.hi then Joj (k+1) Bs ls else (k:Int)::Joj (k+1) Bs ls).length<=_
  split <;> simp <;> omega
inductive Ycy (K:Sd) (a:Ad) (vs:List V) (H:Hp) (Q:VK) (z3:XK):Prop where
 |mk (o u:S1) (S:Riv) (ls:List Int) (_:vs= [.ref o,.ref u]) (_:Sak K a H o S) (_:H u=some (.tup (ls.map V.int))) (_:ls.length=S.Bs.length) (_:∀w H',Si H H'->H' w=some (.tup ((Joj 0 S.Bs ls).map V.int))->Q (.ref w) H')
theorem GX.lets {H:Hp} {x:V} {G:Jme} {s lv:Int} (T:Tx K mg a) (gg:Sbh G) (gx:GX a H x G) (hs:0<=s/\s < (nOf G:Int)) (hl:0<=lv/\lv<=1000):
  ∃o C dx fs f fd ps sp k',x= .ref o/\H o=some (.ins C dx fs)/\fs.lookup ("lets" :Str)=none/\Cls K C/\Joc K C "lets" f/\So P w K mg base CX0 k' f fd ps sp/\k'<=3/\Sb2 K fd ps []/\∀Q:VK,Q (.int (lvG G s lv)) H->sp [x,.int s,.int lv] H Q E0:=by
 have sp:∀Q:VK,Q (.int (lvG G s lv)) H->Yd2 a [x,.int s,.int lv] H Q E0:=λQ k=>⟨x,G,s,lv,rfl,gx,gg,hs,hl,k⟩
 obtain ⟨g,ga,r⟩:=gx
 obtain ⟨dx,t,h1,h2⟩:=id ga
 cases e:G.sv with
 |none=>
  rw [e] at r
  subst r
  rcases gg.kd with q|q|q
  ·rw [q,show cOf a "step" =a.Jll from if_pos rfl] at h1
   exact ⟨g,_,dx,_,_,_,_,_,3,rfl,h1,rfl,T.Jdz,T.Je2,(Jon T).calm,by decide,T.Jcy.bd,sp⟩
  ·rw [q,show cOf a "flap" =a.Jlm by unfold cOf;rw [if_neg Jwg,if_pos rfl]] at h1
   exact ⟨g,_,dx,_,_,_,_,_,3,rfl,h1,rfl,T.Je5,T.Je8,(Jon T).calm,by decide,T.Jcy.bd,sp⟩
  ·rw [q,show cOf a "part" =a.Jln by unfold cOf;rw [if_neg Jwi,if_neg Jwh]] at h1
   exact ⟨g,_,dx,_,_,_,_,_,3,rfl,h1,rfl,T.Jeb,T.Jee,(Jon T).calm,by decide,T.Jcy.bd,sp⟩
 |some j=>
  rw [e] at r
  obtain ⟨q,dq,rfl,r2⟩:=r
  exact ⟨q,_,dq,_,_,_,_,_,3,rfl,r2,rfl,T.Jeh,T.Jek,(Jon T).calm,by decide,T.Jcy.bd,sp⟩
theorem Y2:Jm2 ["river","settings","levels"] ["river","settings","levels"] (Jm0 (top 23)):=⟨rfl,rfl,rfl,by decide +kernel,rfl,by decide +kernel,by decide +kernel⟩
theorem Jzn (T:Tx K mg a):So P w K mg base CX0 4 a.Jhc a.Jhd ["river","settings","levels"] (So3 K a):=by
 refine T.J8.fn.ok Y2 (λvs H Q E h=>?_) (λcdv A outer s H vs Q E hr h=>?_)
 ·obtain ⟨o,v,l,S,Gs,cs,ls,rfl,_⟩:=h
  rfl
 ·obtain ⟨o,v,l,S,Gs,cs,ls,rfl,ro,gxl,so,ln,hv,hl,k⟩:=h
  refine ⟨?t,?B,?C⟩
  case B=>
   refine' Sx ?O0
   case O0=>exact (Jm5 (Jmf Jng (by rfl) T.Jb3 Jnw (Sj (Jmj (N:=(["basin","setting","level"]:List Str)) (ini:=[none,none,none]) rfl (Yee true true false (by rfl) T.Jb4 (Sj (Jm9 (pv 0) (by rfl)) (Sj (pv 1) (Sj (pv 2) Sl)))) (λ_ _ _ _ _=>(Jqw (K:=K) (n:=3) rfl rfl (Jmb (Jm3 (i:=0) (by decide +kernel:(["basin","setting","level"]:List Str).Nodup) rfl (yf rfl)) (Jmb (Jm3 (i:=1) (by decide +kernel:(["basin","setting","level"]:List Str).Nodup) rfl (yf rfl)) (Jmb (Jm3 (i:=2) (by decide +kernel:(["basin","setting","level"]:List Str).Nodup) rfl (yf rfl)) Jnv))))) (λ_ _ _ _ _=>Jmi) (λ_ _ _ _ _=>(Yah (P:=P) (w:=w) (K:=K) (mg:=mg) (base:=base) rfl rfl rfl rfl rfl (Jo1 (K:=K) rfl (pv 0) (by rfl)) hr (Sj (pv 1) (Sj (pv 2) Sl))))) Sl)))
  obtain ⟨dx,b,tt,os,ts,ho,hb,bl,ht,tl,n1,n2,n3⟩:=id ro
  have len:=bl.len
  have sl:=so.len
  refine ⟨_,rfl,o,_,dx,_,_,rfl,ho,T.Jet,T.Jfw,rfl,_,rfl,_,rfl,b,v,l,rfl,⟨_,Sy.of hb⟩,⟨_,Sy.of hv⟩,⟨_,Ss.of hl⟩,λD hD=>?_⟩
  have s0:=Si.upd (o:=.lst []) hD
  refine Ya2 (K:=K) (l1:=b) (l2:=v) (l3:=l) (b1:=true) (b2:=true) (b3:=false) (xs:=os.map V.ref) (ys:=cs.map V.int) (us:=ls.map V.int) (D:=D) (λi σ H'=>(∃o1 o2 o3,σ= [o1,o2,o3])/\H' D=some (.lst (((Jv0 Gs cs ls).take i).map V.int))/\Si H H') ⟨⟨_,_,_,rfl⟩,Sn,s0⟩ (λi σ H' _ ⟨_,_,sm⟩=>⟨Sy.of (sm _ _ hb),Sy.of (sm _ _ hv),Ss.of (sm _ _ hl)⟩) (by rw [ye,ye];omega) (by rw [ye,ye];omega) ?_ ?_
  ·rintro i x y u σ H' Ta hx hy hu ⟨⟨o1,o2,o3,rfl⟩,hDs,sm⟩ hT
   obtain ⟨ob,B,rfl,hB,dxb,hob,gs⟩:=(bl.same sm).get hx
   rw [yj] at hy hu
   obtain ⟨c,hc,rfl⟩:=yay.mp hy
   obtain ⟨lv,hlv,rfl⟩:=yay.mp hu
   obtain ⟨G,hG,gx⟩:=(gxl.same sm).get (i:=i) (x:=B.g) (by rw [yj,hB];rfl)
   obtain ⟨gg,hs,hl'⟩:=so.get hG hc hlv
   have sT:=Si.upd (o:=.tup [.ref ob,.int c,.int lv]) hT
   have hi:i < os.length:=by have:=(yi.mp hx).1;rw [ye] at this;exact this
   refine Sl5 (Sy.of Sn) ⟨_,rfl,ob,_,dxb,_,_,rfl,sT _ _ hob,T.Jen,T.Jfq,rfl,?_⟩
   obtain ⟨q,C,dxq,fs,f,fd,ps,sp,k',eq,h1,h2,c',m,ok,hk,bd,hsp⟩:=GX.lets (P:=P) (w:=w) (base:=base) T gg (gx.same sT) hs hl'
   refine ⟨q,C,dxq,fs,f,fd,ps,sp,k',eq,h1,h2,c',m,ok,hk,bd,_,rfl,_,rfl,hsp _ ⟨_,sT _ _ hDs,?_,⟨_,_,_,rfl⟩,?_,?_⟩⟩
   ·rw [ye,yad]
    exact Jmn (by omega)
   ·rw [Sn,yy,Jwl hG hc hlv]
    simp
   ·intro c o z
    rw [Sw (Jm1 z hD)]
    exact sT _ _ (sm _ _ z)
  rintro σ H1 ⟨_,hDs,sm⟩
  rw [yae (by rw [Jqu sl.1 sl.2,ye];omega)] at hDs
  exact ⟨D,_,rfl,.inl ⟨Ss.of hDs,λu hu=>k u _ (sm.trans (Si.upd hu)) Sn⟩⟩
theorem Yba (xs:List V) (h:1<=xs.length):Jq3 xs none (some (-1))=xs.dropLast:=by
 unfold Jq3
 rw [HT.sIx_none]
 have e:HT.sIx xs.length xs.length (some (-1))=xs.length - 1:=by
  show (if (-1:Int) < 0 then ((-1:Int)+(xs.length:Int)).toNat else min (-1:Int).toNat xs.length)=_
  rw [if_pos (by decide)]
  omega
 rw [e,List.dropLast_eq_take]
 rfl
theorem Jup {n:Nat} (h:1<=n):¬(HT.sIx n 0 none=0/\HT.sIx n n (some (-1))=n):=by
 have e:HT.sIx n n (some (-1))=n - 1:=by
  show (if (-1:Int) < 0 then ((-1:Int)+(n:Int)).toNat else min (-1:Int).toNat n)=_
  rw [if_pos (by decide)]
  omega
 rw [e]
 omega
theorem Sci:Jm2 ["left","outs","rain","from_above"] ["left","outs","rain"] (Jm0 (top 24)):=⟨rfl,rfl,rfl,by decide +kernel,rfl,by decide +kernel,by decide +kernel⟩
theorem Jsz (T:Tx K mg a):So P w K mg base CX0 1 a.Jhe a.Jhf ["left","outs","rain"] Ycx:=by
 refine T.J9.fn.ok Sci (λvs H Q E h=>?_) (λcdv A outer s H vs Q E hr h=>?_)
 ·obtain ⟨l,u,r,ls,os,rs,rfl,_⟩:=h
  rfl
 ·obtain ⟨l,u,r,ls,os,rs,rfl,hl,hu,hr0,e1,e2,n,k⟩:=h
  refine ⟨?t,?B,?C⟩
  case B=>
   refine' Su ?O0 ?O1
   case O0=>exact (Jm7 (i:=3) Sci.nd rfl (yf rfl) (Jm8 Ju5 (Jn1 (Sj Sr Sl)) (Jpi Snl (pv 1) Js9 (Jpp (Sks Ydh Sr)))))
   case O1=>
   refine' Sx ?O2
   case O2=>
   refine' Jm5 ?O3
   case O3=>exact (Jmf Jng (by rfl) T.Jb3 Jnw (Sj (Jmj (N:=(["level","out","gained","cubes"]:List Str)) (ini:=[none,none,none,none]) rfl (Yef false true true true (by rfl) T.Jb4 (pa4 (pv 0) (pv 1) (pv 3) (pv 2))) (λ_ _ _ _ _=>(Jqw (K:=K) (n:=4) rfl rfl (Jmb (Jm3 (i:=0) (by decide +kernel:(["level","out","gained","cubes"]:List Str).Nodup) rfl (yf rfl)) (Jmb (Jm3 (i:=1) (by decide +kernel:(["level","out","gained","cubes"]:List Str).Nodup) rfl (yf rfl)) (Jmb (Jm3 (i:=2) (by decide +kernel:(["level","out","gained","cubes"]:List Str).Nodup) rfl (yf rfl)) (Jmb (Jm3 (i:=3) (by decide +kernel:(["level","out","gained","cubes"]:List Str).Nodup) rfl (yf rfl)) Jnv)))))) (λ_ _ _ _ _=>Jmi) (λ_ _ _ _ _=>(Jm8 Jmg (Jm8 Jmg (Jm8 Jnl (pv 0) (pv 1)) (pv 2)) (pv 3)))) Sl))
  refine ⟨(show 1<=S6 by decide),λq1 h1=>?_⟩
  have s1:=Si.upd (o:=.tup [.int 0]) h1
  refine ⟨_,rfl,_,rfl,_,rfl,u,_,rfl,Sy.of (s1 _ _ hu),Jup (by rw [ye];omega),λq2 h2=>?_⟩
  rw [Yba _ (by rw [ye];omega)]
  have s2:=Si.upd (o:=.tup (os.map V.int).dropLast) h2
  refine ⟨q1,q2,_,_,rfl,rfl,s2 _ _ Sn,Sn,Jmw _ (by simp;omega),λf H3 s3 hf=>?_⟩
  have s13:=(s1.trans s2).trans s3
  have ef: [V.int 0]++(os.map V.int).dropLast=((0:Int)::os.dropLast).map V.int:=by rw [yak,List.map_dropLast];rfl
  rw [ef] at hf
  refine ⟨_,rfl,_,rfl,_,rfl,_,rfl,l,u,f,r,rfl,⟨_,Ss.of (s13 _ _ hl)⟩,⟨_,Sy.of (s13 _ _ hu)⟩,⟨_,Sy.of hf⟩,⟨_,Sy.of (s13 _ _ hr0)⟩,λD hD=>?_⟩
  have s0:=Si.upd (o:=.lst []) hD
  refine Ya3 (K:=K) (l1:=l) (l2:=u) (l3:=f) (l4:=r) (b1:=false) (b2:=true) (b3:=true) (b4:=true) (xs:=ls.map V.int) (ys:=os.map V.int) (us:=((0:Int)::os.dropLast).map V.int) (vs:=rs.map V.int) (D:=D) (λi σ H'=>(∃o1 o2 o3 o4,σ= [o1,o2,o3,o4])/\H' D=some (.lst (((Jz8 0 ls os rs).take i).map V.int))/\Si H3 H') ⟨⟨_,_,_,_,rfl⟩,Sn,s0⟩ (λi σ H' _ ⟨_,_,sm⟩=>⟨Ss.of (sm _ _ (s13 _ _ hl)),Sy.of (sm _ _ (s13 _ _ hu)),Sy.of (sm _ _ hf),Sy.of (sm _ _ (s13 _ _ hr0))⟩) (by simp;omega) (by simp;omega) (by simp;omega) ?_ ?_
  ·rintro i x y z v σ H' Ta hx hy hz hv ⟨⟨o1,o2,o3,o4,rfl⟩,hDs,sm⟩ hT
   rw [yj] at hx hy hz hv
   obtain ⟨lv,hlv,rfl⟩:=yay.mp hx
   obtain ⟨ov,hov,rfl⟩:=yay.mp hy
   obtain ⟨fv,hfv,rfl⟩:=yay.mp hz
   obtain ⟨rv,hrv,rfl⟩:=yay.mp hv
   have hi:i < ls.length:=(yi.mp hlv).1
   have hfv':((0:Int)::os)[i]?=some fv:=by
    cases i with
    |zero=>simpa using hfv
    |succ j=>
     have e:os.dropLast[j]?=some fv:=by simpa using hfv
     rw [List.dropLast_eq_take,List.getElem?_take] at e
     split at e
     ·simpa using e
     ·cases e
   have sT:=Si.upd (o:=.tup [.int lv,.int ov,.int fv,.int rv]) hT
   refine Ssn (Sy.of Sn) ⟨_,rfl,_,rfl,_,_,rfl,rfl,_,rfl,_,_,rfl,rfl,_,rfl,_,_,rfl,rfl,_,sT _ _ hDs,?_,⟨_,_,_,_,rfl⟩,?_,?_⟩
   ·rw [ye,yad]
    exact Jmn (by omega)
   ·rw [Sn,yy,Jy2 hlv hov hfv' hrv]
    simp
   ·intro c o z
    rw [Sw (Jm1 z hD)]
    exact sT _ _ (sm _ _ z)
  rintro σ H4 ⟨_,hDs,sm⟩
  rw [yae (by rw [Jrt e1 e2,ye];omega)] at hDs
  exact ⟨D,_,rfl,.inl ⟨Ss.of hDs,λq hq=>k q _ ((s13.trans sm).trans (Si.upd hq)) Sn⟩⟩
theorem Jxl:Jm2 ["river","levels"] ["river","levels"] (Jm0 (top 25)):=⟨rfl,rfl,rfl,by decide +kernel,rfl,by decide +kernel,by decide +kernel⟩
theorem Jx9 (T:Tx K mg a):So P w K mg base CX0 1 a.Jhg a.Jhh ["river","levels"] (Ycy K a):=by
 refine T.Ja.fn.ok Jxl (λvs H Q E h=>?_) (λcdv A outer s H vs Q E hr h=>?_)
 ·obtain ⟨o,u,S,ls,rfl,_⟩:=h
  rfl
 ·obtain ⟨o,u,S,ls,rfl,ro,hu,ln,k⟩:=h
  refine ⟨?t,?B,?C⟩
  case B=>
   refine' Sx ?O0
   case O0=>exact (Jm5 (Jmf Jng (by rfl) T.Jb3 Jnw (Sj (Jmj (N:=(["place","basin","levels"]:List Str)) (ini:=[none,none,some 1]) rfl (Jyp (by rfl) T.Jar (Sj (Jm9 (pv 0) (by rfl)) Sl)) (λ_ _ _ _ _=>(Jqw (K:=K) (n:=2) rfl rfl (Jmb (Jm3 (i:=0) (by decide +kernel:(["place","basin","levels"]:List Str).Nodup) rfl (yf rfl)) (Jmb (Jm3 (i:=1) (by decide +kernel:(["place","basin","levels"]:List Str).Nodup) rfl (yf rfl)) Jnv)))) (λ_ _ _ _ _=>(Ju7 (Jmu (Jv5 Jqd Jqd (Jo1 (K:=K) rfl (pv 1) (by rfl)) (Jmc (Yj (K:=K) rfl) (pv 2) (pv 0) (λ_ _=>rfl)) (Jo1 (K:=K) rfl (pv 1) (by rfl)))))) (λ_ _ _ _ _=>(pv 0))) Sl)))
  obtain ⟨dx,b,tt,os,ts,ho,hb,bl,ht,tl,n1,n2,n3⟩:=id ro
  have len:=bl.len
  refine ⟨_,rfl,o,_,dx,_,_,rfl,ho,T.Jet,T.Jfw,rfl,b,rfl,⟨_,Sy.of hb⟩,λD hD=>?_⟩
  have s0:=Si.upd (o:=.lst []) hD
  refine Ya1 (K:=K) (a:=b) (xs:=os.map V.ref) (D:=D) (λi σ H'=>(∃o1 o2,σ= [o1,o2,some (.ref u)])/\H' D=some (.lst ((Joj 0 (S.Bs.take i) (ls.take i)).map V.int))/\Si H H') ⟨⟨_,_,rfl⟩,Sn,s0⟩ (λi σ H' _ ⟨_,_,sm⟩=>Sy.of (sm _ _ hb)) ?_ ?_
  ·rintro i x σ H' Ta hx ⟨⟨o1,o2,rfl⟩,hDs,sm⟩ hT
   obtain ⟨ob,B,rfl,hB,dxb,hob,gs⟩:=(bl.same sm).get hx
   have sT:=Si.upd (o:=.tup [.int i,.ref ob]) hT
   have hi:i < S.Bs.length:=(yi.mp hB).1
   have hil:i < ls.length:=by omega
   have hob':=sT _ _ hob
   have hu':=sT _ _ (sm _ _ hu)
   have nx:Joj 0 (S.Bs.take (i+1)) (ls.take (i+1))=Joj 0 (S.Bs.take i) (ls.take i)++(if B.lo<=ls[i]/\ls[i]<=B.hi then [] else [(i:Int)]):=by
    have q:=Jw1 (k:=0) (Bs:=S.Bs.take i) (ls:=ls.take i) (B:=B) (l:=ls[i]) (by rw [yad,yad];omega)
    rw [yad,ycb (by omega),Nat.zero_add] at q
    rw [yy,hB,yy,yh hil]
    exact q
   refine ⟨Ta,_,rfl,Sy.of Sn,rfl,_,_,rfl,_,_,rfl,rfl,?_⟩
   have bad:¬(B.lo<=ls[i]/\ls[i]<=B.hi)->∃vs,(upd H' Ta (.tup [.int i,.ref ob])) D=some (.lst vs)/\vs.length < S6/\(∃p1 p2,[some (V.int i),some (.ref ob),some (.ref u)]= [p1,p2,some (V.ref u)])/\upd (upd H' Ta (.tup [.int i,.ref ob])) D (.lst (vs++ [.int i])) D=some (.lst ((Joj 0 (S.Bs.take (i+1)) (ls.take (i+1))).map V.int))/\Si H (upd (upd H' Ta (.tup [.int i,.ref ob])) D (.lst (vs++ [.int i]))):=λq=>by
    refine ⟨_,sT _ _ hDs,?_,⟨_,_,rfl⟩,?_,?_⟩
    ·have:=Jy3 (k:=0) (Bs:=S.Bs.take i) (ls:=ls.take i)
     rw [yad] at this
     rw [ye]
     exact Jmn (by omega)
    ·rw [Sn,nx,if_neg q,yag]
     rfl
    ·intro c o z
     rw [Sw (Jm1 z hD)]
     exact sT _ _ (sm _ _ z)
   refine ⟨_,rfl,ob,_,dxb,_,_,rfl,hob',T.Jen,T.Jfm,rfl,_,rfl,_,rfl,u,_,_,_,rfl,rfl,Sy.of hu',Ju2 hil,_,_,rfl,rfl,_,rfl,?_⟩
   by_cases h1:B.lo<=ls[i]
   ·rw [decide_eq_true h1]
    refine Joa ⟨_,rfl,ob,_,dxb,_,_,rfl,hob',T.Jen,T.Jfn,rfl,_,_,rfl,rfl,_,rfl,?_⟩
    by_cases h2:ls[i]<=B.hi
    ·rw [decide_eq_true h2]
     refine Jn9 ⟨⟨_,_,rfl⟩,?_,sm.trans sT⟩
     rw [nx,if_pos ⟨h1,h2⟩,ybb]
     exact sT _ _ hDs
    ·rw [decide_eq_false h2]
     exact Joa ⟨_,rfl,bad λz=>h2 z.2⟩
   ·rw [decide_eq_false h1]
    exact Jn9 ⟨_,rfl,Joa ⟨_,rfl,bad λz=>h1 z.1⟩⟩
  rintro σ H1 ⟨_,hDs,sm⟩
  rw [yae (by rw [ye];omega),yae (by rw [ye];omega)] at hDs
  exact ⟨D,_,rfl,.inl ⟨Ss.of hDs,λq hq=>k q _ (sm.trans (Si.upd hq)) Sn⟩⟩
def Som (c r:V) (d:Int) (u lv:S1) (wt:Int) (q:S1):List (Str×V):=[("choice",c),("rain",r),("drawn",.int d),("paid",.bl (decide (d > 0))),("outs",.ref u),("levels",.ref lv),("wet",.int wt),("broken",.ref q)]
structure Sgl (K:Sd) (a:Ad) (H:Hp) (o:S1) (S:Riv) (Gs:List Jme) (x c:V) (ls cs:List Int) (wt:Int) (tv:V) (ra:S1) (rn:List Int):Prop where
 ro:Sak K a H o S
 ti:TIn S
 gx:GXL a H (S.Bs.map (·.g)) Gs
 ln:S.Bs.length=Gs.length
 st:StA H x S ls wt
 ch:ChA H c S cs tv
 hr:H ra=some (.tup (rn.map V.int))
 rl:rn.length=S.Bs.length
 sm:Sml rn
 so:Sbx Gs cs (lft S ls tv)
 n1:1<=S.Bs.length
theorem Sgl.same {K:Sd} {a:Ad} {H H':Hp} {o:S1} {S:Riv} {Gs:List Jme} {x c:V} {ls cs:List Int} {wt:Int} {tv:V} {ra:S1} {rn:List Int} (s:Si H H') (h:Sgl K a H o S Gs x c ls cs wt tv ra rn):Sgl K a H' o S Gs x c ls cs wt tv ra rn:=
 ⟨h.ro.same s,h.ti,h.gx.same s,h.ln,h.st.same s,h.ch.same s,s _ _ h.hr,h.rl,h.sm,h.so,h.n1⟩
def Jtj (S:Riv) (Gs:List Jme) (ls cs:List Int) (tv:V):List Int:=Jv0 Gs cs (lft S ls tv)
def Jto (S:Riv) (Gs:List Jme) (ls cs:List Int) (tv:V) (rn:List Int):List Int:=Jz8 0 (lft S ls tv) (Jtj S Gs ls cs tv) rn
def Yaw (S:Riv) (wt:Int) (rn:List Int):Int:=if S.c < wt - rn.sum+S.g then S.c else wt - rn.sum+S.g
inductive Sr0 (a:Ad) (H:Hp) (p:S1) (c r:V) (S:Riv) (Gs:List Jme) (ls cs:List Int) (wt:Int) (tv:V) (rn:List Int):Prop where
 |mk (dx:_) (u:_) (lv:_) (q:_) (_:H p=some (.ins a.Jli dx (Som c r (drw S ls tv) u lv (Yaw S wt rn) q))) (_:H u=some (.tup ((Jtj S Gs ls cs tv).map V.int))) (_:H lv=some (.tup ((Jto S Gs ls cs tv rn).map V.int))) (_:H q=some (.tup ((Joj 0 S.Bs (Jto S Gs ls cs tv rn)).map V.int)))
inductive Yf3 (K:Sd) (a:Ad) (vs:List V) (H:Hp) (Q:VK) (z3:XK):Prop where
 |mk (p dx o ra:S1) (H0:Hp) (S:Riv) (Gs:List Jme) (x c:V) (ls cs rn:List Int) (wt:Int) (tv:V) (_:vs= [.ref p,.ref o,x,c,.ref ra]) (_:H0 p=none) (_:Si H0 H) (_:H p=some (.ins a.Jli dx [])) (_:Sgl K a H0 o S Gs x c ls cs wt tv ra rn) (_:∀H',Si H0 H'->Sr0 a H' p c (.ref ra) S Gs ls cs wt tv rn->Q .non H')
theorem Jx1 {S:Riv} {ls:List Int} {tv:V}:(lft S ls tv).length=ls.length:=by
 unfold lft
 split
 ·rw [ybt]
 ·rfl
def fs2 (c r:V):List (Str×V):=[("choice",c),("rain",r)]
def fs3 (c r:V) (d:Int):List (Str×V):=[("choice",c),("rain",r),("drawn",.int d)]
def fs4 (c r:V) (d:Int):List (Str×V):=[("choice",c),("rain",r),("drawn",.int d),("paid",.bl (decide (d > 0)))]
def fs5 (c r:V) (d:Int) (u:S1):List (Str×V):=[("choice",c),("rain",r),("drawn",.int d),("paid",.bl (decide (d > 0))),("outs",.ref u)]
def fs6 (c r:V) (d:Int) (u lv:S1):List (Str×V):=[("choice",c),("rain",r),("drawn",.int d),("paid",.bl (decide (d > 0))),("outs",.ref u),("levels",.ref lv)]
def fs7 (c r:V) (d:Int) (u lv:S1) (wt:Int):List (Str×V):=[("choice",c),("rain",r),("drawn",.int d),("paid",.bl (decide (d > 0))),("outs",.ref u),("levels",.ref lv),("wet",.int wt)]
theorem pf2 (c r:V):Jn2 "rain" r (Jn2 "choice" c [])=fs2 c r:=Jmq (show (["choice"]:List Str).contains "rain" =false by decide +kernel)
theorem pf3 (c r:V) (d:Int):Jn2 "drawn" (.int d) (fs2 c r)=fs3 c r d:=Jmq (show (["choice","rain"]:List Str).contains "drawn" =false by decide +kernel)
theorem pf4 (c r:V) (d:Int):Jn2 "paid" (.bl (decide (0 < d))) (fs3 c r d)=fs4 c r d:=Jmq (show (["choice","rain","drawn"]:List Str).contains "paid" =false by decide +kernel)
theorem pf5 (c r:V) (d:Int) (u:S1):Jn2 "outs" (.ref u) (fs4 c r d)=fs5 c r d u:=Jmq (show (["choice","rain","drawn","paid"]:List Str).contains "outs" =false by decide +kernel)
theorem pf6 (c r:V) (d:Int) (u lv:S1):Jn2 "levels" (.ref lv) (fs5 c r d u)=fs6 c r d u lv:=Jmq (show (["choice","rain","drawn","paid","outs"]:List Str).contains "levels" =false by decide +kernel)
theorem pf7 (c r:V) (d:Int) (u lv:S1) (wt:Int):Jn2 "wet" (.int wt) (fs6 c r d u lv)=fs7 c r d u lv wt:=Jmq (show (["choice","rain","drawn","paid","outs","levels"]:List Str).contains "wet" =false by decide +kernel)
theorem pf8 (c r:V) (d:Int) (u lv:S1) (wt:Int) (q:S1):Jn2 "broken" (.ref q) (fs7 c r d u lv wt)=Som c r d u lv wt q:=Jmq (show (["choice","rain","drawn","paid","outs","levels","wet"]:List Str).contains "broken" =false by decide +kernel)
theorem Sch:Jm2 ["self","river","standing","choice","rain","left"] ["self","river","standing","choice","rain"] (Jm0 (Jm6 (top 26) 0)):=⟨rfl,rfl,rfl,by decide +kernel,rfl,by decide +kernel,by decide +kernel⟩
theorem Jx6 (T:Tx K mg a):So P w K mg base CX0 5 a.Jhi a.Jhj ["self","river","standing","choice","rain"] (Yf3 K a):=by
 have Slb:=Ye5 (P:=P) (w:=w) (base:=base) T
 have Sf1:=Juw (P:=P) (w:=w) (base:=base) T
 have Shf:=Jzn (P:=P) (w:=w) (base:=base) T
 have Seh:=Jsz (P:=P) (w:=w) (base:=base) T
 have Sgb:=Jx9 (P:=P) (w:=w) (base:=base) T
 refine T.Jcr.fn.ok Sch (λvs H Q E h=>?_) (λcdv A outer s H vs Q E hr h=>?_)
 ·obtain ⟨p,dx,o,ra,H0,S,Gs,x,c,ls,cs,rn,wt,tv,rfl,_⟩:=h
  rfl
 ·obtain ⟨p,dx,o,ra,H0,S,Gs,x,c,ls,cs,rn,wt,tv,rfl,np,s0,hp,ti,k⟩:=h
  refine ⟨?t,?B,?C⟩
  case B=>
   refine' Su ?O0 ?O1
   case O0=>exact (Jmv (pv 0) (pv 3) rfl)
   case O1=>
   refine' Su ?O2 ?O3
   case O2=>exact (Jmv (pv 0) (pv 4) rfl)
   case O3=>
   refine' Su ?O4 ?O5
   case O4=>exact (Jmv (pv 0) (Jlz T.J6 Slb hr (by decide) (Sj (pv 1) (Sj (pv 2) (Sj (pv 3) Sl)))) rfl)
   case O5=>
   refine' Su ?O6 ?O7
   case O6=>exact (Jmv (pv 0) (Js7 Jwk (Jm9 (pv 0) (by rfl)) Sr (Jmy _)) rfl)
   case O7=>
   refine' Su ?O8 ?O9
   case O8=>exact (Jm7 (i:=5) Sch.nd rfl (yf rfl) (Jlz T.J7 Sf1 hr (by decide) (pa4 (pv 1) (pv 2) (pv 3) (Jm9 (pv 0) (by rfl)))))
   case O9=>
   refine' Su ?Oa ?Ob
   case Oa=>exact (Jmv (pv 0) (Jlz T.J8 Shf hr (by decide) (Sj (pv 1) (Sj (Jmc Jmh (pv 3) Sr (λ_ _=>rfl)) (Sj (pv 5) Sl)))) rfl)
   case Ob=>
   refine' Su ?Oc ?Od
   case Oc=>exact (Jmv (pv 0) (Jlz T.J9 Seh hr (by decide) (Sj (pv 5) (Sj (Jm9 (pv 0) (by rfl)) (Sj (pv 4) Sl)))) rfl)
   case Od=>
   refine' Su ?Oe ?Of
   case Oe=>exact (Jmv (pv 0) (Jm4 (Joq rfl) (by rfl) T.Jax Jsm (Sj (Jm8 Jmg (Jm8 Jnl (Jmc Jmh (pv 2) Sr (λ_ _=>rfl)) (Jm4 (Jpb rfl) (by rfl) T.Jb2 Jpk (Sj (pv 4) Sl))) (Jm9 (pv 1) (by rfl))) (Sj (Jm9 (pv 1) (by rfl)) Sl))) rfl)
   case Of=>
   refine' Sx ?Og
   case Og=>exact (Jmv (pv 0) (Jlz T.Ja Sgb hr (by decide) (Sj (pv 1) (Sj (Jm9 (pv 0) (by rfl)) Sl))) rfl)
  have new:∀{Ha:Hp} {ob:HO},Si H0 Ha->Si H0 (upd Ha p ob):=λs b oo e=>by rw [Sw (Jm1 e np)];exact s _ _ e
  refine ⟨_,rfl,_,rfl,p,_,dx,[],rfl,hp,T.Jdq,T.Jf1,by simp,?_⟩
  refine ⟨_,rfl,_,rfl,p,_,dx,_,rfl,Sn,T.Jdq,T.Jf2,by simp [Jn2],?_⟩
  rw [Jne,pf2]
  have h2:Si H0 (upd H p (.ins a.Jli dx (fs2 c (.ref ra)))):=new s0
  have ti2:=ti.same h2
  refine ⟨_,rfl,_,rfl,_,rfl,o,S,x,c,ls,cs,wt,tv,rfl,ti2.ro,ti2.ti,ti2.st,ti2.ch,λH3 s3=>?_⟩
  have p3:=s3 _ _ (Sn (H:=H) (a:=p) (o:=.ins a.Jli dx (fs2 c (.ref ra))))
  have h3:=h2.trans s3
  refine ⟨_,rfl,p,_,dx,_,rfl,p3,T.Jdq,T.Jf3,by simp [fs2],?_⟩
  rw [pf3]
  refine ⟨_,rfl,p,_,dx,_,_,rfl,Sn,T.Jdq,T.Jf3,rfl,_,_,rfl,rfl,?_⟩
  refine ⟨_,rfl,p,_,dx,_,rfl,Sn,T.Jdq,T.Jf4,by simp [fs3],?_⟩
  rw [Jne,pf4]
  have h4:Si H0 (upd H3 p (.ins a.Jli dx (fs4 c (.ref ra) (drw S ls tv)))):=new h3
  have ti4:=ti.same h4
  refine ⟨_,rfl,_,rfl,_,rfl,_,rfl,p,_,dx,_,_,rfl,Sn,T.Jdq,T.Jf3,rfl,o,S,x,c,ls,cs,wt,tv,rfl,ti4.ro,ti4.ti,ti4.st,ti4.ch,λl H5 hl0 s5 hl5=>?_⟩
  have p5:=s5 _ _ (Sn (H:=H3) (a:=p) (o:=.ins a.Jli dx (fs4 c (.ref ra) (drw S ls tv))))
  have h5:=h4.trans s5
  have ti5:=ti.same h5
  obtain ⟨y,yu,rfl,hy,hyu,ly⟩:=ti5.st
  obtain ⟨z,v,rfl,hz,hv,lc,tw⟩:=ti5.ch
  have sol:=ti.so.len
  refine ⟨_,rfl,_,rfl,z,_,0,_,rfl,rfl,Sy.of hz,rfl,_,rfl,o,v,l,S,Gs,cs,lft S ls tv,rfl,ti5.ro,ti5.gx,ti5.so,ti5.ln,hv,hl5,λu H6 s6 hu6=>?_⟩
  have p6:=s6 _ _ p5
  have np6:∀{b:S1} {ob:HO},H6 b=some ob->(∀C d fs,ob≠ .ins C d fs)->b≠p:=λhb n e=>by rw [e,p6] at hb;exact n _ _ _ (yt.inj hb).symm
  refine ⟨_,rfl,p,_,dx,_,rfl,p6,T.Jdq,T.Jf5,by simp [fs4],?_⟩
  rw [pf5]
  have h6:Si H0 (upd H6 p (.ins a.Jli dx (fs5 (.ref z) (.ref ra) (drw S ls tv) u))):=new (h5.trans s6)
  have ti6:=ti.same h6
  have u6:(upd H6 p (.ins a.Jli dx (fs5 (.ref z) (.ref ra) (drw S ls tv) u))) u=some (.tup ((Jtj S Gs ls cs tv).map V.int)):=by rw [Sw (np6 hu6 (λ_ _ _ z=>by cases z))];exact hu6
  have l6:(upd H6 p (.ins a.Jli dx (fs5 (.ref z) (.ref ra) (drw S ls tv) u))) l=some (.lst ((lft S ls tv).map V.int)):=by rw [Sw (np6 (s6 _ _ hl5) (λ_ _ _ z=>by cases z))];exact s6 _ _ hl5
  have n16:S.Bs.length<=16:=by obtain ⟨_,_,_,_,_,_,_,_,_,_,q,_⟩:=ti.ro;exact q
  have el:(lft S ls tv).length=S.Bs.length:=by rw [Jx1];exact ly
  have eo:(Jtj S Gs ls cs tv).length=S.Bs.length:=by unfold Jtj;rw [Jqu sol.1 sol.2];exact ti.ln.symm
  have rl:=ti.rl
  have n1:=ti.n1
  refine ⟨_,rfl,_,rfl,p,_,dx,_,_,rfl,Sn,T.Jdq,T.Jf5,rfl,_,rfl,l,u,ra,_,_,rn,rfl,l6,u6,ti6.hr,by omega,by omega,by omega,λlv H7 s7 hlv7=>?_⟩
  have p7:=s7 _ _ (Sn (H:=H6) (a:=p) (o:=.ins a.Jli dx (fs5 (.ref z) (.ref ra) (drw S ls tv) u)))
  have np7:∀{b:S1} {ob:HO},H7 b=some ob->(∀C d fs,ob≠ .ins C d fs)->b≠p:=λhb n e=>by rw [e,p7] at hb;exact n _ _ _ (yt.inj hb).symm
  refine ⟨_,rfl,p,_,dx,_,rfl,p7,T.Jdq,T.Jf6,by simp [fs5],?_⟩
  rw [pf6]
  have h7:Si H0 (upd H7 p (.ins a.Jli dx (fs6 (.ref z) (.ref ra) (drw S ls tv) u lv))):=new (h6.trans s7)
  have ti7:=ti.same h7
  obtain ⟨dxr,b,tt,os,ts,ho,hb,bl,ht,tl,m1,m2,m3⟩:=id ti7.ro
  obtain ⟨y7,yu7,ey,hy7,hyu7,ly7⟩:=ti7.st
  obtain rfl:y=y7:=V.ref.inj ey
  refine ⟨_,rfl,y,_,1,_,rfl,rfl,Sy.of hy7,rfl,_,rfl,ra,rn,rfl,.inr (Sy.of ti7.hr),ti.sm,_,_,rfl,rfl,_,rfl,o,_,dxr,_,_,rfl,ho,T.Jet,T.Jfv,rfl,_,_,rfl,rfl,_,rfl,o,_,dxr,_,_,rfl,ho,T.Jet,T.Jfu,rfl,_,_,rfl,?_⟩
  refine ⟨_,rfl,p,_,dx,_,rfl,Sn,T.Jdq,T.Jf7,by simp [fs6],?_⟩
  rw [Jne,pf7]
  have h8:Si H0 (upd H7 p (.ins a.Jli dx (fs7 (.ref z) (.ref ra) (drw S ls tv) u lv (Yaw S wt rn)))):=new (h6.trans s7)
  have ti8:=ti.same h8
  have lv8:(upd H7 p (.ins a.Jli dx (fs7 (.ref z) (.ref ra) (drw S ls tv) u lv (Yaw S wt rn)))) lv=some (.tup ((Jto S Gs ls cs tv rn).map V.int)):=by rw [Sw (np7 hlv7 (λ_ _ _ z=>by cases z))];exact hlv7
  have u8:(upd H7 p (.ins a.Jli dx (fs7 (.ref z) (.ref ra) (drw S ls tv) u lv (Yaw S wt rn)))) u=some (.tup ((Jtj S Gs ls cs tv).map V.int)):=by rw [Sw (np7 (s7 _ _ u6) (λ_ _ _ z=>by cases z))];exact s7 _ _ u6
  have e8:(Jto S Gs ls cs tv rn).length=S.Bs.length:=by unfold Jto;rw [Jrt (by omega) (by omega)];exact el
  refine ⟨_,rfl,_,rfl,p,_,dx,_,_,rfl,Sn,T.Jdq,T.Jf6,rfl,o,lv,S,_,rfl,ti8.ro,lv8,e8,λq H9 s9 hq9=>?_⟩
  have p9:=s9 _ _ (Sn (H:=H7) (a:=p) (o:=.ins a.Jli dx (fs7 (.ref z) (.ref ra) (drw S ls tv) u lv (Yaw S wt rn))))
  have np9:∀{b:S1} {ob:HO},H9 b=some ob->(∀C d fs,ob≠ .ins C d fs)->b≠p:=λhb n e=>by rw [e,p9] at hb;exact n _ _ _ (yt.inj hb).symm
  refine ⟨_,rfl,p,_,dx,_,rfl,p9,T.Jdq,T.Jf8,by simp [fs7],?_⟩
  rw [pf8]
  have keep:∀{b:S1} {ob ox:HO},H9 b=some ob->(∀C d fs,ob≠ .ins C d fs)->upd H9 p ox b=some ob:=λhb n=>by rw [Sw (np9 hb n)];exact hb
  exact k _ (new (h8.trans s9)) ⟨dx,u,lv,q,Sn,keep (s9 _ _ u8) (λ_ _ _ z=>by cases z),keep (s9 _ _ lv8) (λ_ _ _ z=>by cases z),keep hq9 (λ_ _ _ z=>by cases z)⟩
structure RvX (K:Sd) (a:Ad) (H:Hp) (o:S1) (S:Riv) (Gs:List Jme):Prop where
 ro:Sak K a H o S
 gx:GXL a H (S.Bs.map (·.g)) Gs
 ln:S.Bs.length=Gs.length
 ti:TIn S
 n1:1<=S.Bs.length
 ok:∀(i:Nat) (B:Bsn) (G:Jme),S.Bs[i]?=some B->Gs[i]?=some G->Sbh G/\B.n=nOf G/\0<=B.lo/\B.hi<=12
theorem RvX.same {K:Sd} {a:Ad} {H H':Hp} {o:S1} {S:Riv} {Gs:List Jme} (s:Si H H') (h:RvX K a H o S Gs):RvX K a H' o S Gs:=⟨h.ro.same s,h.gx.same s,h.ln,h.ti,h.n1,h.ok⟩
def Slr (S:Riv) (ls:List Int):Prop:=∀(i:Nat) (n:Int) (B:Bsn),ls[i]?=some n->S.Bs[i]?=some B->B.lo<=n/\n<=B.hi
def Siw (S:Riv) (cs:List Int):Prop:=∀(i:Nat) (n:Int) (B:Bsn),cs[i]?=some n->S.Bs[i]?=some B->0<=n/\n<=(B.n:Int) - 1
theorem Sbx.of:∀{Gs:List Jme} {cs ls:List Int},Gs.length=cs.length->cs.length=ls.length->(∀(i:Nat) (G:Jme) (c l:Int),Gs[i]?=some G->cs[i]?=some c->ls[i]?=some l->Sbh G/\(0<=c/\c < (nOf G:Int))/\(0<=l/\l<=1000))->Sbx Gs cs ls
 | [],[],[],_,_,_=>True.intro
 |G::Gs,c::cs,l::ls,e1,e2,h=>⟨h 0 G c l rfl rfl rfl,Sbx.of (by simpa using e1) (by simpa using e2) λi G c l q1 q2 q3=>h (i+1) G c l (by simpa using q1) (by simpa using q2) (by simpa using q3)⟩
 | [],_::_,_,e,_,_=>by simp at e
 |_::_,[],_,e,_,_=>by simp at e
 | [],[],_::_,_,e,_=>by simp at e
 |_::_,_::_,[],_,e,_=>by simp at e
theorem Smb {S:Riv} {ls:List Int} {tv:V} (ti:TIn S):0<=drw S ls tv/\(drw S ls tv > 0->drw S ls tv<=ls.getD (Jyr S tv) 0):=by
 cases tv with
 |int t=>
  show 0<=(match S.Ts[t.toNat]? with|some T=>if ls.getD (plc S T.b) 0≥T.wt then T.wt else 0|none=>0)/\((match S.Ts[t.toNat]? with|some T=>if ls.getD (plc S T.b) 0≥T.wt then T.wt else 0|none=>0) > 0->(match S.Ts[t.toNat]? with|some T=>if ls.getD (plc S T.b) 0≥T.wt then T.wt else 0|none=>0)<=ls.getD (match S.Ts[t.toNat]? with|some T=>plc S T.b|none=>0) 0)
  cases e:S.Ts[t.toNat]? with
  |none=>simp
  |some T=>
   have:=ti T (yr e)
   dsimp only
   split <;> omega
 |_=>exact ⟨Int.le_refl 0,λh=>absurd (show (0:Int) > 0 from h) (by decide)⟩
theorem Smt {S:Riv} {ls:List Int} {tv:V} (ti:TIn S) (h0:∀n∈ls,0<=n/\n<=12):∀n∈lft S ls tv,0<=n/\n<=12:=by
 have d:=Smb (ls:=ls) (tv:=tv) ti
 unfold lft
 split
 ·rename_i hd
  intro n hn
  rcases ycw hn with h|h
  ·exact h0 n h
  ·by_cases hp:Jyr S tv < ls.length
   ·have e:ls.getD (Jyr S tv) 0=ls[Jyr S tv]:=by simp [ybw,hp]
    have:=h0 _ (yat hp)
    rw [e] at h d
    have:=d.2 hd
    omega
   ·have e:ls.getD (Jyr S tv) 0=0:=by simp [ybw,hp]
    rw [e] at d
    have:=d.2 hd
    omega
 ·exact h0
theorem RvX.sets {K:Sd} {a:Ad} {H:Hp} {o:S1} {S:Riv} {Gs:List Jme} {ls cs:List Int} {tv:V} (h:RvX K a H o S Gs) (l1:ls.length=S.Bs.length) (l2:cs.length=S.Bs.length) (hl:Slr S ls) (hc:Siw S cs):Sbx Gs cs (lft S ls tv):=by
 have ln:=h.ln
 have all:∀n∈ls,0<=n/\n<=12:=λn hn=>by
  obtain ⟨i,hi⟩:=ybk hn
  have hi':i < ls.length:=(yi.mp hi).1
  have b:=hl i n S.Bs[i] hi (yh (by omega))
  have k:=h.ok i S.Bs[i] (Gs[i]'(by omega)) (yh (by omega)) (yh (by omega))
  omega
 refine .of (by omega) (by rw [Jx1];omega) λi G c l q1 q2 q3=>?_
 have hi:i < Gs.length:=(yi.mp q1).1
 have k:=h.ok i S.Bs[i] G (yh (by omega)) q1
 have b:=hc i c S.Bs[i] q2 (yh (by omega))
 have f:=Smt (tv:=tv) h.ti all l (yr q3)
 exact ⟨k.1,by rw [<-k.2.1];omega,by omega⟩
def Yac (S:Riv) (Gs:List Jme) (ls cs:List Int) (wt:Int) (tv:V) (rn:List Int):Option (List Int×Int):=if (Joj 0 S.Bs (Jto S Gs ls cs tv rn)).length=0 then some (Jto S Gs ls cs tv rn,Yaw S wt rn) else none
def Slq (H:Hp) (y:V):Option (List Int×Int)->Prop
 |none=>y= .non
 |some p=>Scf H y p.1 p.2
inductive Yd6 (a:Ad) (vs:List V) (H:Hp) (Q:VK) (z3:XK):Prop where
 |mk (p dx u lv q:S1) (c r:V) (d wt:Int) (_:vs= [.ref p]) (_:H p=some (.ins a.Jli dx (Som c r d u lv wt q))) (_:∀t H',Si H H'->H' t=some (.tup [.ref lv,.int wt])->Q (.ref t) H')
inductive Snw (K:Sd) (a:Ad) (vs:List V) (H:Hp) (Q:VK) (z3:XK):Prop where
 |mk (o ra:S1) (S:Riv) (Gs:List Jme) (x c:V) (ls cs rn:List Int) (wt:Int) (tv:V) (_:vs= [.ref o,x,c,.ref ra]) (_:Sgl K a H o S Gs x c ls cs wt tv ra rn) (_:∀y H',Si H H'->Slq H' y (Yac S Gs ls cs wt tv rn)->Q y H')
theorem Jt3:Jm2 ["self"] ["self"] (Jm0 (Jm6 (top 26) 1)):=⟨rfl,rfl,rfl,by decide +kernel,rfl,by decide +kernel,by decide +kernel⟩
theorem Jsw (T:Tx K mg a):So P w K mg base CX0 1 a.Jhk a.Jhl ["self"] (Yd6 a):=by
 refine T.Jcs.fn.ok Jt3 (λvs H Q E h=>?_) (λcdv A outer s H vs Q E hr h=>?_)
 ·obtain ⟨p,dx,u,lv,q,c,r,d,wt,rfl,_⟩:=h
  rfl
 ·obtain ⟨p,dx,u,lv,q,c,r,d,wt,rfl,hp,k⟩:=h
  refine ⟨?t,?B,?C⟩
  case B=>
   refine' Sx ?O0
   case O0=>exact (Jm5 (Jn1 (Sj (Jm9 (pv 0) (by rfl)) (Sj (Jm9 (pv 0) (by rfl)) Sl))))
  refine ⟨_,rfl,p,_,dx,_,_,rfl,hp,T.Jdq,T.Jf6,rfl,_,rfl,p,_,dx,_,_,rfl,hp,T.Jdq,T.Jf7,rfl,(show 2<=S6 by decide),λt ht=>k t _ (Si.upd ht) Sn⟩
theorem She:Jm2 ["river","standing","choice","rain","turn"] ["river","standing","choice","rain"] (Jm0 (top 44)):=⟨rfl,rfl,rfl,by decide +kernel,rfl,by decide +kernel,by decide +kernel⟩
theorem Ye6 (T:Tx K mg a):So P w K mg base CX0 7 a.Jig a.Jih ["river","standing","choice","rain"] (Snw K a):=by
 have See:=Jx6 (P:=P) (w:=w) (base:=base) T
 have Sef:=Jsw (P:=P) (w:=w) (base:=base) T
 refine T.Jq.fn.ok She (λvs H Q E h=>?_) (λcdv A outer s H vs Q E hr h=>?_)
 ·obtain ⟨o,ra,S,Gs,x,c,ls,cs,rn,wt,tv,rfl,_⟩:=h
  rfl
 ·obtain ⟨o,ra,S,Gs,x,c,ls,cs,rn,wt,tv,rfl,ti,k⟩:=h
  refine ⟨?t,?B,?C⟩
  case B=>
   refine' Su ?O0 ?O1
   case O0=>exact (Jm7 (i:=4) She.nd rfl (yf rfl) (Jof T.Jdr See (hr.mono (by decide)) (by rfl) T.Jbe T.Jcr.bd .nil Job (pa4 (pv 0) (pv 1) (pv 2) (pv 3))))
   case O1=>
   refine' Sx ?O2
   case O2=>exact (Jm5 (Jv3 (Jmp Jr8 (Jm4 Jmd (by rfl) T.Jau Jnf (Sj (Jm9 (pv 4) (by rfl)) Sl)) Sr (Jmy _)) (Jyo (pv 4) T.Jdq T.Jds Sef (hr.mono (by decide)) T.Jcs.bd .nil Job) Joy))
  refine ⟨_,rfl,_,rfl,_,rfl,_,rfl,λp dx hp hd ne=>?_⟩
  have sn:Si H (upd (upd H dx (.own p)) p (.ins a.Jli dx [])):=λb ob e=>by rw [Sw (Jm1 e hp),Sw (Jm1 e hd)];exact e
  refine ⟨p,dx,o,ra,H,S,Gs,x,c,ls,cs,rn,wt,tv,rfl,hp,sn,Sn,ti,λH1 s1 tr=>?_⟩
  obtain ⟨dx1,u,lv,q,g1,g2,g3,g4⟩:=tr
  refine ⟨rfl,_,rfl,p,_,dx1,_,_,rfl,g1,T.Jdq,T.Jf8,rfl,q,_,rfl,.inr (Sy.of g4),rfl,_,rfl,?_⟩
  rw [ye]
  unfold Yac at k
  by_cases e:(Joj 0 S.Bs (Jto S Gs ls cs tv rn)).length=0
  ·rw [if_pos e] at k
   refine ifT (by rw [e];rfl) ⟨_,rfl,p,dx1,_,rfl,g1,rfl,p,dx1,u,lv,q,c,.ref ra,_,_,rfl,g1,λt H2 s2 ht=>?_⟩
   exact k _ _ (s1.trans s2) ⟨t,lv,rfl,ht,s2 _ _ g3⟩
  ·rw [if_neg e] at k
   exact ifF (decide_eq_false λz=>e (by have:=V.int.inj z;omega)) (k _ _ s1 rfl)
theorem So9 {R:Riv} {n:Int} (hl:∀B∈R.Bs,1<=lvN B):∀i,i<=R.Bs.length->∀(j:Nat) (l:Int) (B:Bsn),(stF R n i).1[j]?=some l->R.Bs[j]?=some B->B.lo<=l/\l<=B.hi:=by
 intro i
 induction i with
 |zero=>exact λ_ j l B e=>by simp [stF] at e
 |succ i ih=>
  intro h j l B e1 e2
  have eB:R.Bs[i]?=some R.Bs[i]:=yh (by omega)
  rw [Jvb R n eB] at e1
  have ln:=Ju9 R n i (by omega)
  rw [yck,ln] at e1
  by_cases c:j < i
  ·rw [if_pos c] at e1
   exact ih (by omega) j l B e1 e2
  ·rw [if_neg c] at e1
   have ej:j=i:=by
    have:=(yi.mp e1).1
    simp at this
    omega
   subst ej
   rw [eB] at e2
   cases e2
   rw [Nat.sub_self] at e1
   cases e1
   have q:=hl _ (yr eB)
   have m1:=ycl (stF R n j).2 (show lvN R.Bs[j]≠0 by omega)
   have m2:=ycm (stF R n j).2 (show 0 < lvN R.Bs[j] by omega)
   have e:lvN R.Bs[j]=R.Bs[j].hi - R.Bs[j].lo+1:=rfl
   omega
def lvL:List Bsn->List (List Int)
 | []=>[[]]
 |B::Bs=>(lvL Bs).flatMap λls=>(rgI (lvN B).toNat).map λk=>(B.lo+k)::ls
theorem Juh {α β:Type} {m:Nat} {f:α->List β}:∀{l:List α},(∀x∈l,(f x).length=m)->∀(i j:Nat) (x:α),l[i]?=some x->j < m->(l.flatMap f)[i*m+j]?=(f x)[j]?:=by
 intro l
 induction l with
 |nil=>exact λ_ i j x e=>by simp at e
 |cons y l ih=>
  intro h i j x e hj
  have hy:=h y yah
  rw [ycg]
  cases i with
  |zero=>
   cases e
   rw [Nat.zero_mul,Nat.zero_add,List.getElem?_append_left (by omega)]
  |succ i=>
   rw [List.getElem?_append_right (by rw [hy,Nat.succ_mul];omega),hy,show (i+1)*m+j - m=i*m+j by rw [Nat.succ_mul];omega]
   exact ih (λx hx=>h x (yaa _ hx)) i j x (by simpa using e) hj
theorem Jrw {α β:Type} {m:Nat} {f:α->List β}:∀{l:List α},(∀x∈l,(f x).length=m)->(l.flatMap f).length=l.length*m:=by
 intro l
 induction l with
 |nil=>exact λ_=>by simp
 |cons y l ih=>
  intro h
  rw [ycg,yab,h y yah,ih λx hx=>h x (yaa _ hx),yaf,Nat.succ_mul,Nat.add_comm]
def prN:List Bsn->Nat
 | []=>1
 |B::Bs=>prN Bs*(lvN B).toNat
theorem Js1:∀Bs:List Bsn,(lvL Bs).length=prN Bs:=by
 intro Bs
 induction Bs with
 |nil=>rfl
 |cons B Bs ih=>
  show ((lvL Bs).flatMap _).length=prN Bs*_
  rw [Jrw (m:=(lvN B).toNat) λx _=>by rw [ye,Jnj],ih]
theorem Jzv (ns:List Int):∀c:Int,ns.foldl (·*·) c=c*Jpt ns:=by
 unfold Jpt
 induction ns with
 |nil=>intro c;simp
 |cons n ns ih=>
  intro c
  rw [List.foldl_cons,List.foldl_cons,ih (c*n),ih (1*n),Int.one_mul,Int.mul_assoc]
theorem Ycd:∀Bs:List Bsn,(∀B∈Bs,1<=lvN B)->Jpt (Bs.map lvN)=prN Bs:=by
 intro Bs
 induction Bs with
 |nil=>exact λ_=>rfl
 |cons B Bs ih=>
  intro h
  have q:=h B yah
  show (Bs.map lvN).foldl (·*·) (1*lvN B)=_
  rw [Jzv,ih λx hx=>h x (yaa _ hx)]
  show _=((prN Bs*(lvN B).toNat:Nat):Int)
  rw [Int.natCast_mul,Int.one_mul,Int.mul_comm,Int.toNat_of_nonneg (by omega)]
def stG (Bs:List Bsn) (acc:List Int) (n:Int):List Int×Int:=Bs.foldl (λp B=>(p.1++ [B.lo+p.2%lvN B],p.2/lvN B)) (acc,n)
theorem Yf6:∀(Bs:List Bsn),(∀B∈Bs,1<=lvN B)->∀(acc:List Int) (n:Nat),n < prN Bs->∃ls,(lvL Bs)[n]?=some ls/\(stG Bs acc n).1=acc++ls:=by
 intro Bs
 induction Bs with
 |nil=>
  intro _ acc n hn
  have e:n=0:=by
   have:n < 1:=hn
   omega
  subst e
  exact ⟨[],rfl,by simp [stG]⟩
 |cons B Bs ih=>
  intro h acc n hn
  have q:=h B yah
  obtain ⟨m,em⟩:∃m:Nat,lvN B=m:=⟨(lvN B).toNat,by omega⟩
  have hm:0 < m:=by omega
  have hn':n < prN Bs*(lvN B).toNat:=hn
  rw [em,yau] at hn'
  have hd:n/m < prN Bs:=(Nat.div_lt_iff_lt_mul hm).mpr hn'
  obtain ⟨ls,e1,e2⟩:=ih (λx hx=>h x (yaa _ hx)) (acc++ [B.lo+(n:Int)%lvN B]) (n/m) hd
  refine ⟨(B.lo+(n:Int)%lvN B)::ls,?_,?_⟩
  ·show ((lvL Bs).flatMap _)[n]?=_
   have g:=Juh (m:=m) (f:=λls=>(rgI (lvN B).toNat).map λk=>(B.lo+k)::ls) (l:=lvL Bs) (λx _=>by rw [ye,Jnj,em,yau]) (n/m) (n%m) ls e1 (Nat.mod_lt _ hm)
   rw [show n/m*m+n%m=n by rw [Nat.mul_comm];exact Nat.div_add_mod n m] at g
   rw [g,yj]
   unfold rgI
   rw [yj,ybm (by rw [em,yau];exact Nat.mod_lt _ hm),em]
   rfl
  ·show (stG Bs (acc++ [B.lo+(n:Int)%lvN B]) ((n:Int)/lvN B)).1=_
   rw [em] at e2⊢
   rw [show ((n:Int)/(m:Int))=((n/m:Nat):Int) from rfl,e2,List.append_assoc]
   rfl
def nbG (Bs:List Bsn) (ls:List Int) (p:Int×Int):Int×Int:=(Bs.zip ls).foldl (λp q=>(p.1+p.2*(q.2 - q.1.lo),p.2*lvN q.1)) p
theorem Ye1:∀(Bs:List Bsn),(∀B∈Bs,1<=lvN B)->∀(n:Nat) (ls:List Int) (acc st:Int),(lvL Bs)[n]?=some ls->(nbG Bs ls (acc,st)).1=acc+st*n:=by
 intro Bs
 induction Bs with
 |nil=>
  intro _ n ls acc st e
  have hn:n=0:=by
   have:=(yi.mp e).1
   have:n < 1:=this
   omega
  subst hn
  cases e
  simp [nbG]
 |cons B Bs ih=>
  intro h n ls acc st e
  have q:=h B yah
  obtain ⟨m,em⟩:∃m:Nat,lvN B=m:=⟨(lvN B).toNat,by omega⟩
  have hm:0 < m:=by omega
  have hn:n < prN (B::Bs):=by rw [<-Js1];exact (yi.mp e).1
  have hn':n < prN Bs*(lvN B).toNat:=hn
  rw [em,yau] at hn'
  have hd:n/m < prN Bs:=(Nat.div_lt_iff_lt_mul hm).mpr hn'
  have e1:(lvL Bs)[n/m]?=some ((lvL Bs)[n/m]'(by rw [Js1];exact hd)):=yh _
  generalize (lvL Bs)[n/m]'(by rw [Js1];exact hd)=l1 at e1
  have g:=Juh (m:=m) (f:=λls=>(rgI (lvN B).toNat).map λk=>(B.lo+k)::ls) (l:=lvL Bs) (λx _=>by rw [ye,Jnj,em,yau]) (n/m) (n%m) l1 e1 (Nat.mod_lt _ hm)
  rw [show n/m*m+n%m=n by rw [Nat.mul_comm];exact Nat.div_add_mod n m,yj] at g
  unfold rgI at g
  rw [yj,ybm (by rw [em,yau];exact Nat.mod_lt _ hm)] at g
  have e':((lvL Bs).flatMap λls=>(rgI (lvN B).toNat).map λk=>(B.lo+k)::ls)[n]?=some ls:=e
  unfold rgI at e'
  rw [g] at e'
  cases e'
  have i1:=ih (λx hx=>h x (yaa _ hx)) (n/m) l1 (acc+st*(B.lo+((n%m:Nat):Int) - B.lo)) (st*lvN B) e1
  show (nbG Bs l1 (acc+st*(B.lo+((n%m:Nat):Int) - B.lo),st*lvN B)).1=_
  rw [i1,em,Int.mul_assoc,Int.add_assoc,<-Int.mul_add]
  congr 2
  have dm:=Nat.div_add_mod n m
  have dm':(m:Int)*((n/m:Nat):Int)+((n%m:Nat):Int)=n:=by rw [<-Int.natCast_mul,<-Int.natCast_add,dm]
  omega
def stL (R:Riv):List (List Int×Int):=(lvL R.Bs).flatMap λls=>(rgI (R.c+1).toNat).map λwt=>(ls,wt)
theorem Yf7 (R:Riv) (hl:∀B∈R.Bs,1<=lvN B) (hc:0<=R.c):((stL R).length:Int)=stN R:=by
 unfold stL stN
 rw [Jrw (m:=(R.c+1).toNat) λx _=>by rw [ye,Jnj],Js1,Ycd _ hl,Int.natCast_mul,Int.toNat_of_nonneg (by omega)]
theorem Yp {R:Riv} (hl:∀B∈R.Bs,1<=lvN B) (hc:0<=R.c) {n:Nat} (hn:n < (stL R).length):(stL R)[n]?=some ((stF R n R.Bs.length).1,(n:Int)%(R.c+1))/\(nbF R (stF R n R.Bs.length).1 ((n:Int)%(R.c+1)) R.Bs.length).1=n:=by
 obtain ⟨m,em⟩:∃m:Nat,R.c+1=m:=⟨(R.c+1).toNat,by omega⟩
 have hm:0 < m:=by omega
 have em':(R.c+1).toNat=m:=by omega
 have hn':n < prN R.Bs*m:=by
  have:=Jrw (m:=(R.c+1).toNat) (f:=λls=>(rgI (R.c+1).toNat).map λwt:Int=>(ls,wt)) (l:=lvL R.Bs) λx _=>by rw [ye,Jnj]
  rw [Js1,em'] at this
  have hh:n < ((lvL R.Bs).flatMap λls=>(rgI (R.c+1).toNat).map λwt:Int=>(ls,wt)).length:=hn
  rw [em'] at hh
  omega
 have hd:n/m < prN R.Bs:=(Nat.div_lt_iff_lt_mul hm).mpr hn'
 obtain ⟨ls,e1,e2⟩:=Yf6 R.Bs hl [] (n/m) hd
 have e3:(stF R n R.Bs.length).1=ls:=by
  unfold stF
  rw [ybl,em]
  exact e2
 rw [e3]
 refine ⟨?_,?_⟩
 ·have g:=Juh (m:=m) (f:=λls=>(rgI (R.c+1).toNat).map λwt:Int=>(ls,wt)) (l:=lvL R.Bs) (λx _=>by rw [ye,Jnj,em']) (n/m) (n%m) ls e1 (Nat.mod_lt _ hm)
  rw [show n/m*m+n%m=n by rw [Nat.mul_comm];exact Nat.div_add_mod n m,yj] at g
  show ((lvL R.Bs).flatMap λls=>(rgI (R.c+1).toNat).map λwt:Int=>(ls,wt))[n]?=_
  rw [g]
  unfold rgI
  rw [yj,ybm (by rw [em'];exact Nat.mod_lt _ hm),em]
  rfl
 ·have ll:ls.length=R.Bs.length:=by
   rw [<-e3]
   exact Ju9 R n _ (yg _)
  have g:=Ye1 R.Bs hl (n/m) ls ((n:Int)%(R.c+1)) (R.c+1) e1
  unfold nbF
  rw [yae (by rw [List.length_zip];omega)]
  refine g.trans ?_
  rw [em]
  have dm:=Nat.div_add_mod n m
  have dm':(m:Int)*((n/m:Nat):Int)+((n%m:Nat):Int)=n:=by rw [<-Int.natCast_mul,<-Int.natCast_add,dm]
  have em2:(n:Int)%(m:Int)=((n%m:Nat):Int):=rfl
  rw [em2]
  omega
theorem Ydw {R:Riv} {sk:Option (List (Int×Int))} (so:Jsj R sk):∀(i:Nat) (r:List Int) (B:Bsn),(Jnt R sk)[i]?=some r->R.Bs[i]?=some B->∀n∈r,0<=n/\n < B.n:=by
 have h0:∀(i:Nat) (r:List Int) (B:Bsn),(R.Bs.map λB=>rgI B.n)[i]?=some r->R.Bs[i]?=some B->∀n∈r,0<=n/\n < B.n:=by
  intro i r B e1 e2 n hn
  rw [yj,e2] at e1
  cases e1
  exact Jxj hn
 have go:∀(l:List (Int×Int)) (rs:List (List Int)),(∀p∈l,SkB R p)->(∀(i:Nat) (r:List Int) (B:Bsn),rs[i]?=some r->R.Bs[i]?=some B->∀n∈r,0<=n/\n < B.n)->∀(i:Nat) (r:List Int) (B:Bsn),(l.foldl (λrs p=>rs.set p.1.toNat [p.2]) rs)[i]?=some r->R.Bs[i]?=some B->∀n∈r,0<=n/\n < B.n:=by
  intro l
  induction l with
  |nil=>exact λrs _ h=>h
  |cons p l ih=>
   intro rs hp h
   refine ih _ (λq hq=>hp q (yaa _ hq)) λi r B e1 e2 n hn=>?_
   obtain ⟨p0,B',eB,q0,q1⟩:=hp p yah
   rw [ycs] at e1
   by_cases c:p.1.toNat=i
   ·rw [if_pos c] at e1
    split at e1
    ·cases e1
     rw [c,e2] at eB
     cases eB
     rw [yan.mp hn]
     exact ⟨q0,q1⟩
    ·cases e1
   ·rw [if_neg c] at e1
    exact h i r B e1 e2 n hn
 unfold Jnt
 cases sk with
 |none=>exact h0
 |some l=>exact go l _ (so l rfl).2.2 h0
theorem Sne {R:Riv} {sk:Option (List (Int×Int))} (so:Jsj R sk):∀i,i<=R.Bs.length->∀r∈rwN R sk i,r.length=i/\Siw R r:=by
 intro i
 induction i with
 |zero=>
  intro _ r hr
  have hr':r∈ [([]:List Int)]:=hr
  rw [yan.mp hr']
  exact ⟨rfl,λi n B e=>by simp at e⟩
 |succ i ih=>
  intro h r hr
  have ll:=Jss R sk
  have er:(Jnt R sk)[i]?=some ((Jnt R sk)[i]'(by omega)):=yh _
  rw [Jqg er] at hr
  obtain ⟨r0,h0,n,hn,rfl⟩:=Ym hr
  obtain ⟨l0,c0⟩:=ih (by omega) r0 h0
  refine ⟨by rw [yab,l0];rfl,λj m B e1 e2=>?_⟩
  rw [yck,l0] at e1
  by_cases c:j < i
  ·rw [if_pos c] at e1
   exact c0 j m B e1 e2
  ·rw [if_neg c] at e1
   have ej:j=i:=by
    have:=(yi.mp e1).1
    simp at this
    omega
   subst ej
   rw [Nat.sub_self] at e1
   cases e1
   have q:=Ydw so j _ B er e2 n hn
   omega
theorem Yb6 {R:Riv} {sk:Option (List (Int×Int))} (so:Jsj R sk) {c:List Int×Option Int} (h:c∈chL R sk):c.1.length=R.Bs.length/\Siw R c.1/\Skm R (twV c.2):=by
 unfold chL at h
 obtain ⟨r,hr,h⟩:=ycp.mp h
 obtain ⟨t,ht,rfl⟩:=yo.mp h
 obtain ⟨q1,q2⟩:=Sne so R.Bs.length (yg _) r hr
 refine ⟨q1,q2,?_⟩
 unfold twL at ht
 rcases yp.mp ht with rfl|ht
 ·exact .inl rfl
 ·obtain ⟨n,hn,rfl⟩:=yo.mp ht
  have:=Jxj hn
  exact .inr ⟨n,rfl,this.1,this.2⟩
theorem Jwu {R:Riv} {sk:Option (List (Int×Int))} (h4:R.Bs.length<=4) (n4:∀B∈R.Bs,B.n<=4) (ht:R.Ts.length<=3):(chL R sk).length<=1024:=by
 have r4:=Jry R sk n4
 have ll:=Jss R sk
 obtain ⟨b1,_⟩:=Jyt (R:=R) (sk:=sk) r4 R.Bs.length (by omega)
 have b5:=Sjo h4
 unfold chL
 rw [Jrw (m:=R.Ts.length+1) λx _=>by rw [ye];unfold twL;rw [yaf,ye,Jnj]]
 have:=yco (yac b1 b5) (show R.Ts.length+1<=4 by omega)
 omega
theorem Sm2:∀{k:Nat} {Bs:List Bsn} {ls:List Int},(Joj k Bs ls).length=0->∀(i:Nat) (n:Int) (B:Bsn),ls[i]?=some n->Bs[i]?=some B->B.lo<=n/\n<=B.hi:=by
 intro k Bs
 induction Bs generalizing k with
 |nil=>exact λ_ i n B _ e=>by simp at e
 |cons C Bs ih=>
  intro ls h i n B e1 e2
  cases ls with
  |nil=>simp at e1
  |cons l ls=>
   have h':(if C.lo<=l/\l<=C.hi then Joj (k+1) Bs ls else (k:Int)::Joj (k+1) Bs ls).length=0:=h
   by_cases c:C.lo<=l/\l<=C.hi
   ·rw [if_pos c] at h'
    cases i with
    |zero=>cases e1;cases e2;exact c
    |succ i=>exact ih h' i n B (by simpa using e1) (by simpa using e2)
   ·rw [if_neg c] at h'
    simp at h'
inductive FlV (bad:S1->Prop) (H:Hp) (v:V) (rs:List (List Int)):Prop where
 |mk (q:_) (us:_) (_:v= .ref q) (_:¬bad q) (_:H q=some (.lst us)) (_:TpL H us rs)
theorem FlV.mn {bad:S1->Prop} {D:S1} (h:bad D):MnD D (FlV bad):=by
 rintro H H' v a f ⟨q,us,rfl,nb,g,r⟩
 exact ⟨q,us,rfl,nb,f q _ (.inl λe=>nb (e▸h)) g,TpL.on (λq xs e=>f q _ (.inr λ_ z=>by cases z) e) r⟩
def Sck (H H':Hp):Prop:=∀q o,(∀C d fs,o≠ .ins C d fs)->H q=some o->H' q=some o
theorem Sck.same {H H':Hp} (s:Si H H'):Sck H H':=λq o _ e=>s q o e
theorem Sck.tup {H H':Hp} (f:Sck H H'):∀q xs,H q=some (.tup xs)->H' q=some (.tup xs):=λq xs e=>f q _ (λ_ _ _ z=>by cases z) e
theorem Sck.lst {H H':Hp} {q:S1} {xs:List V} (f:Sck H H') (e:H q=some (.lst xs)):H' q=some (.lst xs):=f q _ (λ_ _ _ z=>by cases z) e
theorem FlV.to {bad bad':S1->Prop} {H H':Hp} {v:V} {rs:List (List Int)} (s:Sck H H') (hb:∀q,bad' q->bad q) (h:FlV bad H v rs):FlV bad' H' v rs:=by
 obtain ⟨q,us,rfl,nb,g,r⟩:=h
 exact ⟨q,us,rfl,λz=>nb (hb q z),s.lst g,TpL.on s.tup r⟩
theorem Scf.to {H H':Hp} {x:V} {ls:List Int} {wt:Int} (s:Sck H H') (h:Scf H x ls wt):Scf H' x ls wt:=by
 obtain ⟨t,r,e,h1,h2⟩:=h
 exact ⟨t,r,e,s.tup _ _ h1,s.tup _ _ h2⟩
def NoB:S1->Prop:=λ_=>False
def flL (S:Riv):List (List (List Int)):=(yav (S.c+1).toNat).map λk:Nat=>rnL S (k:Int)
structure Yv (S:Riv):Prop where
 n4:S.Bs.length<=4
 lv:∀B∈S.Bs,(1<=lvN B/\lvN B<=13)/\0<=B.lo/\B.lo<=12
 c:0<=S.c/\S.c<=12
 rb:RnB S
structure Shn (K:Sd) (a:Ad) (H:Hp) (s:S1) (S:Riv) (Gs:List Jme) (sk:Option (List (Int×Int))):Prop where
 at_:∃(dx o L F:S1) (fs:List (Str×V)) (us vs:List V),H s=some (.ins a.Jlj dx fs)/\fs.lookup ("river" :Str)=some (.ref o)/\fs.lookup ("listed" :Str)=some (.ref L)/\fs.lookup ("falls" :Str)=some (.ref F)/\fs.lookup ("ends_by_rain" :Str)=none/\fs.lookup ("ends_by_place" :Str)=none/\RvX K a H o S Gs/\H L=some (.lst us)/\CcL H us (chL S sk)/\H F=some (.lst vs)/\Sa2 (FlV NoB) H vs (flL S)
 so:Jsj S sk
 s4:Yv S
theorem Shn.same {K:Sd} {a:Ad} {H H':Hp} {s:S1} {S:Riv} {Gs:List Jme} {sk:Option (List (Int×Int))} (m:Si H H') (h:Shn K a H s S Gs sk):Shn K a H' s S Gs sk:=by
 obtain ⟨⟨dx,o,L,F,fs,us,vs,g1,l1,l2,l3,l4,l5,rv,g2,cc,g3,fl⟩,so,s4⟩:=h
 exact ⟨⟨dx,o,L,F,fs,us,vs,m _ _ g1,l1,l2,l3,l4,l5,rv.same m,m _ _ g2,CcL.on (λq xs e=>m _ _ e) cc,m _ _ g3,fl.imp λv a h=>h.to (.same m) λq z=>z⟩,so,s4⟩
inductive Snq (K:Sd) (a:Ad) (vs:List V) (H:Hp) (Q:VK) (z3:XK):Prop where
 |mk (s:S1) (S:Riv) (Gs:List Jme) (sk:Option (List (Int×Int))) (x c:V) (ls cs:List Int) (wt:Int) (tv:V) (_:vs= [.ref s,x,c]) (_:Shn K a H s S Gs sk) (_:StA H x S ls wt) (_:Slr S ls) (_:(0<=wt/\wt<=S.c)) (_:ChA H c S cs tv) (_:Siw S cs) (_:∀(v:V) (H':Hp),Si H H'->Q v H')
inductive Snp (K:Sd) (a:Ad) (vs:List V) (H:Hp) (Q:VK) (z3:XK):Prop where
 |mk (s:S1) (S:Riv) (Gs:List Jme) (sk:Option (List (Int×Int))) (x:V) (ls:List Int) (wt:Int) (_:vs= [.ref s,x]) (_:Shn K a H s S Gs sk) (_:StA H x S ls wt) (_:Slr S ls) (_:(0<=wt/\wt<=S.c)) (_:∀(v:V) (H':Hp),Si H H'->Q v H')
theorem Ybw {S:Riv} {Gs:List Jme} {ls cs rn:List Int} {tv:V} (hl:ls.length=S.Bs.length) (hg:Gs.length=S.Bs.length) (hc:cs.length=S.Bs.length) (hr:rn.length=S.Bs.length):(Jto S Gs ls cs tv rn).length=S.Bs.length:=by
 have e1:(lft S ls tv).length=S.Bs.length:=by rw [Jx1];exact hl
 have e2:(Jtj S Gs ls cs tv).length=S.Bs.length:=by unfold Jtj;rw [Jqu (by omega) (by omega)];exact hg
 unfold Jto
 rw [Jrt (by omega) (by omega)]
 exact e1
theorem Saw:Jm2 ["self","standing","choice","led"] ["self","standing","choice"] (Jm0 (Jm6 (top 45) 2)):=⟨rfl,rfl,rfl,by decide +kernel,rfl,by decide +kernel,by decide +kernel⟩
theorem Jp2 (T:Tx K mg a):So P w K mg base CX0 8 a.Jim a.Jin ["self","standing","choice"] (Snq K a):=by
 have Slc:=Ye6 (P:=P) (w:=w) (base:=base) T
 have Sgc:=Jxg (P:=P) (w:=w) (base:=base) T
 refine T.Jcv.fn.ok Saw (λvs H Q E h=>?_) (λcdv A outer s H vs Q E hr h=>?_)
 ·obtain ⟨s,S,Gs,sk,x,c,ls,cs,wt,tv,rfl,_⟩:=h
  rfl
 ·obtain ⟨s,S,Gs,sk,x,c,ls,cs,wt,tv,rfl,sp,sa,lvi,hwt,ca,csi,k⟩:=h
  refine ⟨?t,?B,?C⟩
  case B=>
   refine' Su ?O0 ?O1
   case O0=>exact (Jsa (i:=3) (N:=(["rain","standing","choice","self"]:List Str)) (ini:=[none,some 1,some 2,some 0]) Saw.nd rfl (yf rfl) rfl (Jml (Jmc Jn3 (Jm9 (pv 0) (by rfl)) (Jmc Jmh (pv 1) Sr (λ_ _=>rfl)) (λ_ _=>rfl))) (λ_ _ _ _ _=>(Jm3 (i:=0) (by decide +kernel:(["rain","standing","choice","self"]:List Str).Nodup) rfl (yf rfl))) (λ_ _ _ _ _=>Jmi) (λ_ _ _ _ _=>(Jlz T.Jq Slc hr (by decide) (pa4 (Jo1 (K:=K) rfl (pv 3) (by rfl)) (pv 1) (pv 2) (pv 0)))))
   case O1=>
   refine' Sx ?O2
   case O2=>exact (Jm5 (Jmj (N:=(["end","self"]:List Str)) (ini:=[none,some 0]) rfl (Jml (pv 3)) (λ_ _ _ _ _=>(Jm3 (i:=0) (by decide +kernel:(["end","self"]:List Str).Nodup) rfl (yf rfl))) (λ_ _ _ _ _=>Jmi) (λ_ _ _ _ _=>(Jv3 (Jmp Jzq (pv 0) Joy (Jmy _)) Joy (Jlz T.Jo Sgc hr (by decide) (Sj (Jo1 (K:=K) rfl (pv 1) (by rfl)) (Sj (pv 0) Sl)))))))
  obtain ⟨⟨dx,o,L,F,fs,us,vs,g1,l1,l2,l3,l4,l5,rv,g2,cc,g3,fl⟩,so,s4⟩:=sp
  obtain ⟨y,u,rfl,hy,hu,lu⟩:=id sa
  obtain ⟨z,v,rfl,hz,hv,lv,tw⟩:=id ca
  have ln:=rv.ln
  have hc:=s4.c
  obtain ⟨n,en⟩:∃n:Nat,wt=n:=⟨wt.toNat,by omega⟩
  have hn:n < vs.length:=by rw [fl.1];unfold flL;rw [ye,yaz];omega
  obtain ⟨rs,er,q,ws,ev,_,hq,tp⟩:=fl.at (yh hn)
  have ers:rs=rnL S wt:=by
   unfold flL at er
   rw [yj,ybm (by rw [fl.1] at hn;unfold flL at hn;rw [ye,yaz] at hn;exact hn)] at er
   rw [en]
   exact (yt.inj er).symm
  rw [ers] at tp
  have r6:=Srx (wet:=wt) s4.rb
  have wl:=tp.1
  refine ⟨_,rfl,s,_,dx,_,_,rfl,g1,T.Jdt,T.Jfe,l3,_,rfl,y,_,1,_,rfl,rfl,Sy.of hy,rfl,F,_,_,_,rfl,rfl,Ss.of g3,Jsl en (by rw [yh hn,ev]),q,rfl,⟨_,Ss.of hq⟩,λD hD=>?_⟩
  refine Jns (K:=K) (xs:=ws) (λH v p=>Slq H v p) ((rnL S wt).map λrn=>Yac S Gs ls cs wt tv rn) (λH H' v p f h=>?_) hD (by rw [ye,wl]) (by omega) hq ?_ ?_
  ·cases p with
   |none=>exact h
   |some p=>
    obtain ⟨t,r,e,h1,h2⟩:=h
    exact ⟨t,r,e,f _ _ (.inr λ_ z=>by cases z) h1,f _ _ (.inr λ_ z=>by cases z) h2⟩
  ·intro i x' p H' Q' hx hp sm _ k'
   have hi:i < (rnL S wt).length:=by rw [<-wl];exact (yi.mp hx).1
   rw [yj,yh hi] at hp
   cases hp
   obtain ⟨ra,rfl,hra⟩:=tp.2 i x' _ hx (yh hi)
   have r6':=r6.2 _ (yat hi)
   have rv2:=rv.same sm
   exact ⟨_,rfl,s,_,dx,_,_,rfl,sm _ _ g1,T.Jdt,T.Jfa,l1,_,rfl,_,rfl,_,rfl,o,ra,S,Gs,_,_,ls,cs,_,wt,tv,rfl,⟨rv2.ro,rv2.ti,rv2.gx,rv2.ln,sa.same sm,ca.same sm,sm _ _ hra,r6'.1,r6'.sml (by have:=s4.n4;omega),rv2.sets lu lv lvi csi,rv2.n1⟩,λy H5 s5 h5=>k' y H5 s5 h5⟩
  intro es H1 s1 hD1 rg
  have el:=rg.1
  rw [ye] at el
  refine ⟨_,rfl,D,rfl,⟨_,Ss.of hD1⟩,λD2 hD2=>?_⟩
  refine Jns (K:=K) (xs:=es) (λ_ _ (_:V)=>True) es (λ_ _ _ _ _ h=>h) hD2 rfl (by omega) hD1 ?_ λvs H2 s2 _ _=>k _ H2 (s1.trans s2)
  intro i x' _ H' Q' hx _ sm _ k'
  have hi:i < (rnL S wt).length:=by rw [<-el];exact (yi.mp hx).1
  have r6':=r6.2 _ (yat hi)
  have ld:Slq H1 x' (Yac S Gs ls cs wt tv (rnL S wt)[i]):=rg.2 i x' _ hx (by rw [yj,yh hi];rfl)
  have s1m:=s1.trans sm
  cases el2:Yac S Gs ls cs wt tv (rnL S wt)[i] with
  |none=>
   rw [el2] at ld
   cases ld
   exact ⟨_,rfl,rfl,_,rfl,Jzf rfl (k' _ _ (Si.refl _) True.intro)⟩
  |some p=>
   rw [el2] at ld
   have lb:Jto S Gs ls cs tv (rnL S wt)[i]=p.1/\(Joj 0 S.Bs (Jto S Gs ls cs tv (rnL S wt)[i])).length=0:=by
    unfold Yac at el2
    split at el2
    ·rename_i hb
     cases el2
     exact ⟨rfl,hb⟩
    ·cases el2
   have ll:=Ybw (ls:=ls) (cs:=cs) (tv:=tv) lu ln.symm lv r6'.1
   have bi:=Sm2 lb.2
   rw [lb.1] at ll bi
   obtain ⟨t,r,rfl,h1,h2⟩:=id ld
   refine ⟨_,rfl,rfl,_,rfl,Jyc (λz=>by cases z) ?_⟩
   refine ⟨_,rfl,s,_,dx,_,_,rfl,s1m _ _ g1,T.Jdt,T.Jfa,l1,_,rfl,o,S,_,p.1,p.2,rfl,(rv.same s1m).ro,Scf.same sm ld,ll,s4.lv,λl hl=>?_,λH5 s5=>k' _ _ s5 True.intro⟩
   obtain ⟨j,hj⟩:=ybk hl
   have hj':j < S.Bs.length:=by rw [<-ll];exact (yi.mp hj).1
   have b1:=bi j l S.Bs[j] hj (yh hj')
   have b2:=rv.ok j S.Bs[j] (Gs[j]'(by omega)) (yh hj') (yh (by omega))
   omega
theorem Joz:Jm2 ["self","standing"] ["self","standing"] (Jm0 (Jm6 (top 45) 1)):=⟨rfl,rfl,rfl,by decide +kernel,rfl,by decide +kernel,by decide +kernel⟩
theorem Jot (T:Tx K mg a):So P w K mg base CX0 9 a.Jik a.Jil ["self","standing"] (Snp K a):=by
 have Sc7:=Jp2 (P:=P) (w:=w) (base:=base) T
 refine T.Jcu.fn.ok Joz (λvs H Q E h=>?_) (λcdv A outer s H vs Q E hr h=>?_)
 ·obtain ⟨s,S,Gs,sk,x,ls,wt,rfl,_⟩:=h
  rfl
 ·obtain ⟨s,S,Gs,sk,x,ls,wt,rfl,sp,sa,lvi,hwt,k⟩:=h
  refine ⟨?t,?B,?C⟩
  case B=>
   refine' Sx ?O0
   case O0=>exact (Jm5 (Jmj (N:=(["choice","standing","self"]:List Str)) (ini:=[none,some 1,some 0]) rfl (Jml (Jm9 (pv 0) (by rfl))) (λ_ _ _ _ _=>(Jm3 (i:=0) (by decide +kernel:(["choice","standing","self"]:List Str).Nodup) rfl (yf rfl))) (λ_ _ _ _ _=>Jmi) (λ_ _ _ _ _=>(Jxh (pv 2) T.Jdt T.Jdw Sc7 (hr.mono (by decide)) T.Jcv.bd .nil Job (Sj (pv 1) (Sj (pv 0) Sl))))))
  obtain ⟨⟨dx,o,L,F,fs,us,vs,g1,l1,l2,l3,l4,l5,rv,g2,cc,g3,fl⟩,so,s4⟩:=id sp
  obtain ⟨_,_,_,os,ts,_,_,bl,_,tl,_,t3,_⟩:=id rv.ro
  have cl:=Jwu (sk:=sk) s4.n4 bl.n4 t3
  have ul:=cc.1
  refine ⟨_,rfl,s,_,dx,_,_,rfl,g1,T.Jdt,T.Jfc,l2,L,rfl,⟨_,Ss.of g2⟩,λD hD=>?_⟩
  refine Jns (K:=K) (xs:=us) (λ_ _ (_:V)=>True) us (λ_ _ _ _ _ h=>h) hD rfl (by omega) g2 ?_ λds H1 s1 _ _=>k _ _ s1
  intro i x' _ H' Q' hx _ sm _ k'
  have hi:i < (chL S sk).length:=by rw [<-ul];exact (yi.mp hx).1
  obtain ⟨t,q,rfl,h1,h2⟩:=cc.2 i x' _ hx (yh hi)
  obtain ⟨c1,c2,c3⟩:=Yb6 so (yat hi)
  exact ⟨_,rfl,s,dx,fs,rfl,sm _ _ g1,l4,_,rfl,_,rfl,s,S,Gs,sk,x,_,ls,_,wt,_,rfl,sp.same sm,sa.same sm,lvi,hwt,⟨t,q,rfl,sm _ _ h1,sm _ _ h2,c1,c3⟩,c2,λv H5 s5=>k' v _ s5 True.intro⟩
def sF1 (h:Int):List (Str×V):=[("heft",.int h)]
def sF2 (h:Int) (o:S1):List (Str×V):=[("heft",.int h),("river",.ref o)]
def sF3 (h:Int) (o rw:S1):List (Str×V):=[("heft",.int h),("river",.ref o),("row",.ref rw)]
def sF4 (h:Int) (o rw L:S1):List (Str×V):=[("heft",.int h),("river",.ref o),("row",.ref rw),("listed",.ref L)]
def sF5 (h:Int) (o rw L pl:S1):List (Str×V):=[("heft",.int h),("river",.ref o),("row",.ref rw),("listed",.ref L),("places",.ref pl)]
def sF6 (h:Int) (o rw L pl F:S1):List (Str×V):=[("heft",.int h),("river",.ref o),("row",.ref rw),("listed",.ref L),("places",.ref pl),("falls",.ref F)]
def Yap (h:Int) (o rw L pl F en:S1):List (Str×V):=[("heft",.int h),("river",.ref o),("row",.ref rw),("listed",.ref L),("places",.ref pl),("falls",.ref F),("ends",.ref en)]
theorem qf2 (h:Int) (o:S1):Jn2 "river" (.ref o) (sF1 h)=sF2 h o:=Jmq (show (["heft"]:List Str).contains "river" =false by decide +kernel)
theorem qf3 (h:Int) (o rw:S1):Jn2 "row" (.ref rw) (sF2 h o)=sF3 h o rw:=Jmq (show (["heft","river"]:List Str).contains "row" =false by decide +kernel)
theorem qf4 (h:Int) (o rw L:S1):Jn2 "listed" (.ref L) (sF3 h o rw)=sF4 h o rw L:=Jmq (show (["heft","river","row"]:List Str).contains "listed" =false by decide +kernel)
theorem qf5 (h:Int) (o rw L pl:S1):Jn2 "places" (.ref pl) (sF4 h o rw L)=sF5 h o rw L pl:=Jmq (show (["heft","river","row","listed"]:List Str).contains "places" =false by decide +kernel)
theorem qf6 (h:Int) (o rw L pl F:S1):Jn2 "falls" (.ref F) (sF5 h o rw L pl)=sF6 h o rw L pl F:=Jmq (show (["heft","river","row","listed","places"]:List Str).contains "falls" =false by decide +kernel)
theorem qf7 (h:Int) (o rw L pl F en:S1):Jn2 "ends" (.ref en) (sF6 h o rw L pl F)=Yap h o rw L pl F en:=Jmq (show (["heft","river","row","listed","places","falls"]:List Str).contains "ends" =false by decide +kernel)
abbrev StR:Hp->V->List Int×Int->Prop:=λH v p=>Scf H v p.1 p.2
inductive Sie (K:Sd) (a:Ad) (H:Hp) (s:S1) (S:Riv) (Gs:List Jme) (sk:Option (List (Int×Int))):Prop where
 |mk (dx o rw L pl F en:S1) (rs us vs:List V) (_:H s=some (.ins a.Jlj dx (Yap (wgN S sk) o rw L pl F en))) (_:RvX K a H o S Gs) (_:H rw=some (.lst rs)) (_:Sa2 StR H rs (stL S)) (_:H L=some (.lst us)) (_:CcL H us (chL S sk)) (_:H F=some (.lst vs)) (_:Sa2 (FlV NoB) H vs (flL S))
structure Shd (K:Sd) (a:Ad) (H:Hp) (o:S1) (S:Riv) (Gs:List Jme) (x:V) (sk:Option (List (Int×Int))):Prop where
 rv:RvX K a H o S Gs
 sa:Sdc H x sk
 so:Jsj S sk
 s4:Yv S
 wg:wgN S sk<=4000
 st:stN S<=2000
theorem Shd.same {K:Sd} {a:Ad} {H H':Hp} {o:S1} {S:Riv} {Gs:List Jme} {x:V} {sk:Option (List (Int×Int))} (m:Si H H') (h:Shd K a H o S Gs x sk):Shd K a H' o S Gs x sk:=⟨h.rv.same m,h.sa.same m,h.so,h.s4,h.wg,h.st⟩
inductive So5 (K:Sd) (a:Ad) (vs:List V) (H:Hp) (Q:VK) (z3:XK):Prop where
 |mk (p dx o:S1) (H0:Hp) (S:Riv) (Gs:List Jme) (x:V) (sk:Option (List (Int×Int))) (_:vs= [.ref p,.ref o,x]) (_:H0 p=none) (_:Si H0 H) (_:H p=some (.ins a.Jlj dx [])) (_:Shd K a H0 o S Gs x sk) (_:∀H',Si H0 H'->Sie K a H' p S Gs sk->Q .non H')
theorem Jx4 {α β:Type} {f:α->β} (inj:∀x y,f x=f y->x=y) {l:List α} (h:l.Nodup):(l.map f).Nodup:=List.pairwise_map.mpr (h.imp λhne e=>hne (inj _ _ e))
theorem Smu {rs:List (List Int)} {ns:List Int} (h1:rs.Nodup) (h2:ns.Nodup):(lgR rs ns).Nodup:=by
 unfold lgR
 induction rs with
 |nil=>exact List.nodup_nil
 |cons r rs ih=>
  rw [ybh] at h1
  rw [ycg,List.nodup_append]
  refine ⟨?_,ih h1.2,?_⟩
  ·exact Jx4 (λx y e=>by simpa using e) h2
  ·intro x hx y hy e
   obtain ⟨n,_,rfl⟩:=yo.mp hx
   obtain ⟨r',hr',hy⟩:=ycp.mp hy
   obtain ⟨n',_,rfl⟩:=yo.mp hy
   have:r=r':=by simpa using (List.append_inj' e rfl).1
   exact h1.1 (this▸hr')
theorem Ycm (n:Nat):(rgI n).Nodup:=Jx4 (λx y e=>Int.ofNat.inj e) List.nodup_range
theorem Ydy (R:Riv) (sk:Option (List (Int×Int))):∀r∈Jnt R sk,r.Nodup:=by
 have go:∀(l:List (Int×Int)) (rs:List (List Int)),(∀r∈rs,r.Nodup)->∀r∈l.foldl (λrs p=>rs.set p.1.toNat [p.2]) rs,r.Nodup:=by
  intro l
  induction l with
  |nil=>exact λrs h=>h
  |cons p l ih=>
   refine λrs h=>ih _ λr hr=>?_
   rcases ycw hr with q|rfl
   ·exact h r q
   ·simp
 refine go _ _ λr hr=>?_
 obtain ⟨B,_,rfl⟩:=yo.mp hr
 exact Ycm _
theorem Snf (R:Riv) (sk:Option (List (Int×Int))):∀i,i<=R.Bs.length->(rwN R sk i).Nodup:=by
 intro i
 induction i with
 |zero=>exact λ_=>by simp [rwN]
 |succ i ih=>
  intro h
  have ll:=Jss R sk
  have er:(Jnt R sk)[i]?=some ((Jnt R sk)[i]'(by omega)):=yh _
  rw [Jqg er]
  exact Smu (ih (by omega)) (Ydy R sk _ (yat _))
theorem Sm6 (R:Riv) (sk:Option (List (Int×Int))):(chL R sk).Nodup:=by
 have h:=Snf R sk R.Bs.length (yg _)
 have ht:(twL R).Nodup:=by
  unfold twL
  rw [ybh]
  refine ⟨λz=>?_,Jx4 (λx y e=>by simpa using e) (Ycm _)⟩
  obtain ⟨n,_,e⟩:=yo.mp z
  cases e
 unfold chL
 generalize rwN R sk R.Bs.length=rs at h
 induction rs with
 |nil=>exact List.nodup_nil
 |cons r rs ih=>
  rw [ybh] at h
  rw [ycg,List.nodup_append]
  refine ⟨Jx4 (λx y e=>by simpa using e) ht,ih h.2,?_⟩
  intro x hx y hy e
  obtain ⟨n,_,rfl⟩:=yo.mp hx
  obtain ⟨r',hr',hy⟩:=ycp.mp hy
  obtain ⟨n',_,rfl⟩:=yo.mp hy
  have:r=r':=congrArg (·.1) e
  exact h.1 (this▸hr')
theorem Jpy:Jm2 ["self","river","stuck"] ["self","river","stuck"] (Jm0 (Jm6 (top 45) 0)):=⟨rfl,rfl,rfl,by decide +kernel,rfl,by decide +kernel,by decide +kernel⟩
theorem Js3 (T:Tx K mg a):So P w K mg base CX0 10 a.Jii a.Jij ["self","river","stuck"] (So5 K a):=by
 have Siz:=Yc3 (P:=P) (w:=w) (base:=base) T
 have Ses:=Jtv (P:=P) (w:=w) (base:=base) T
 have Sbj:=Jp4 (P:=P) (w:=w) (base:=base) T
 have Sf2:=Juy (P:=P) (w:=w) (base:=base) T
 have Sez:=Jur (P:=P) (w:=w) (base:=base) T
 have Sh0:=Jym (P:=P) (w:=w) (base:=base) T
 have Sc2:=Jot (P:=P) (w:=w) (base:=base) T
 refine T.Jct.fn.ok Jpy (λvs H Q E h=>?_) (λcdv A outer s H vs Q E hr h=>?_)
 ·obtain ⟨p,dx,o,H0,S,Gs,x,sk,rfl,_⟩:=h
  rfl
 ·obtain ⟨p,dx,o,H0,S,Gs,x,sk,rfl,np,s0,hp,si,k⟩:=h
  have hu64:=Jqr hr
  refine ⟨?t,?B,?C⟩
  case B=>
   refine' Su ?O0 ?O1
   case O0=>exact (Jmv (pv 0) (Jlz T.Jj Siz.calm hr (by decide) (Sj (pv 1) (Sj (pv 2) Sl))) rfl)
   case O1=>
   refine' Su ?O2 ?O3
   case O2=>exact (Jnd (Jlz T.Jk Ses.calm hr (by decide) (Sj (Jm9 (pv 0) (by rfl)) Sl)))
   case O3=>
   refine' Su ?O4 ?O5
   case O4=>exact (Jmv (pv 0) (pv 1) rfl)
   case O5=>
   refine' Su ?O6 ?O7
   case O6=>exact (Jmv (pv 0) (Jmj (N:=(["number","river"]:List Str)) (ini:=[none,some 1]) rfl (Jnp (by rfl) T.Jay (Sj (Jlz T.Jg Sbj hr (by decide) (Sj (pv 1) Sl)) Sl)) (λ_ _ _ _ _=>(Jm3 (i:=0) (by decide +kernel:(["number","river"]:List Str).Nodup) rfl (yf rfl))) (λ_ _ _ _ _=>Jmi) (λ_ _ _ _ _=>(Jlz T.Jp Sf2 hr (by decide) (Sj (pv 1) (Sj (pv 0) Sl))))) rfl)
   case O7=>
   refine' Su ?O8 ?O9
   case O8=>exact (Jmv (pv 0) (Jlz T.Jm Sez hr (by decide) (Sj (pv 1) (Sj (pv 2) Sl))) rfl)
   case O9=>
   refine' Su ?Oa ?Ob
   case Oa=>exact (Jmv (pv 0) (Jmf (Jza rfl hu64) (by rfl) T.Jaq Yb (Sj (Jmj (N:=(["place","choice"]:List Str)) (ini:=[none,none]) rfl (Ju6 (by rfl) T.Jar (Sj (Jm9 (pv 0) (by rfl)) Sl)) (λ_ _ _ _ _=>(Jqw (K:=K) (n:=2) rfl rfl (Jmb (Jm3 (i:=0) (by decide +kernel:(["place","choice"]:List Str).Nodup) rfl (yf rfl)) (Jmb (Jm3 (i:=1) (by decide +kernel:(["place","choice"]:List Str).Nodup) rfl (yf rfl)) Jnv)))) (λ_ _ _ _ _=>Jmi) (λ_ _ _ _ _=>(Jn1 (Sj (pv 1) (Sj (pv 0) Sl))))) Sl)) rfl)
   case Ob=>
   refine' Su ?Oc ?Od
   case Oc=>exact (Jmv (pv 0) (Jmj (N:=(["wet","river"]:List Str)) (ini:=[none,some 1]) rfl (Jnp (by rfl) T.Jay (Sj (Jm8 Jmg (Jm9 (pv 1) (by rfl)) Sr) Sl)) (λ_ _ _ _ _=>(Jm3 (i:=0) (by decide +kernel:(["wet","river"]:List Str).Nodup) rfl (yf rfl))) (λ_ _ _ _ _=>Jmi) (λ_ _ _ _ _=>(Jlz T.Jn Sh0 hr (by decide) (Sj (pv 1) (Sj (pv 0) Sl))))) rfl)
   case Od=>
   refine' Sx ?Oe
   case Oe=>exact (Jmv (pv 0) (Jmj (N:=(["standing","self"]:List Str)) (ini:=[none,some 0]) rfl (Jml (Jm9 (pv 0) (by rfl))) (λ_ _ _ _ _=>(Jm3 (i:=0) (by decide +kernel:(["standing","self"]:List Str).Nodup) rfl (yf rfl))) (λ_ _ _ _ _=>Jmi) (λ_ _ _ _ _=>(Jxh (pv 1) T.Jdt T.Jdv Sc2 (hr.mono (by decide)) T.Jcu.bd .nil Job (Sj (pv 0) Sl)))) rfl)
  have new:∀{Ha:Hp} {ob:HO},Si H0 Ha->Si H0 (upd Ha p ob):=λs b oo e=>by rw [Sw (Jm1 e np)];exact s _ _ e
  have d2:∀{Ha:Hp} {C d:S1} {f:List (Str×V)} {ob:HO},Ha p=some (.ins C d f)->Sck Ha (upd Ha p ob):=λ{Ha C d f ob} g q oo n e=>by
   rw [Sw (λz=>by rw [z,g] at e;exact n _ _ _ (yt.inj e).symm)]
   exact e
  have s4:=si.s4
  have hc:=s4.c
  have lv1:∀B∈S.Bs,1<=lvN B:=λB hB=>(s4.lv B hB).1.1
  have st0:=Yf7 S lv1 hc.1
  have stb:=si.st
  have i0:=si.same s0
  refine ⟨_,rfl,_,rfl,o,S,x,sk,rfl,i0.rv.ro,i0.sa,si.so,s4.n4,λB hB=>⟨by have:=lv1 B hB;omega,(s4.lv B hB).1.2⟩,hc,λH1 s1=>?_⟩
  have p1:=s1 _ _ hp
  have h1:=s0.trans s1
  refine ⟨_,rfl,p,_,dx,_,rfl,p1,T.Jdt,T.Jf9,by simp,?_⟩
  refine ⟨_,rfl,p,_,dx,_,_,rfl,Sn,T.Jdt,T.Jf9,rfl,_,rfl,si.wg,?_⟩
  refine ⟨_,rfl,_,rfl,p,_,dx,_,rfl,Sn,T.Jdt,T.Jfa,by simp [Jn2],?_⟩
  rw [Jne]
  rw [show Jn2 "river" (V.ref o) (Jn2 "heft" (V.int (wgN S sk)) [])=sF2 (wgN S sk) o from qf2 _ _]
  have h2:Si H0 (upd H1 p (.ins a.Jlj dx (sF2 (wgN S sk) o))):=new h1
  have g2:=Sn (H:=H1) (a:=p) (o:=.ins a.Jlj dx (sF2 (wgN S sk) o))
  generalize upd H1 p (.ins a.Jlj dx (sF2 (wgN S sk) o))=H2 at*
  have i2:=si.same h2
  refine ⟨_,rfl,o,S,rfl,i2.rv.ro,λB hB=>⟨by have:=lv1 B hB;omega,ybd (s4.lv B hB).1.2 (by decide)⟩,hc,λH3 s3=>?_⟩
  have g3:=s3 _ _ g2
  have h3:=h2.trans s3
  refine ⟨_,rfl,by omega,by omega,λD hD=>?_⟩
  refine Jpe StR (stL S) (λH H' v q f h=>?_) hD (by omega) (by omega) ?_ ?_
  ·obtain ⟨t,r,e,h1,h2⟩:=h
   exact ⟨t,r,e,f _ _ (.inr λ_ z=>by cases z) h1,f _ _ (.inr λ_ z=>by cases z) h2⟩
  ·intro i y H' Q' hy sm _ k'
   have hi:i < (stL S).length:=(yi.mp hy).1
   rw [(Yp lv1 hc.1 hi).1] at hy
   cases hy
   rw [Int.zero_add]
   exact ⟨_,rfl,_,rfl,o,S,(i:Int),rfl,(si.same (h3.trans sm)).rv.ro,λB hB=>(s4.lv B hB).1,hc,λy H5 s5 h5=>k' y H5 s5 h5⟩
  intro rs H4 s34 hD4 rg
  have g4:=s34 _ _ g3
  have h4:=h3.trans s34
  refine ⟨_,rfl,p,_,dx,_,rfl,g4,T.Jdt,T.Jfb,by simp [sF2],?_⟩
  rw [qf3]
  have h5:Si H0 (upd H4 p (.ins a.Jlj dx (sF3 (wgN S sk) o D))):=new h4
  have f5:Sck H4 (upd H4 p (.ins a.Jlj dx (sF3 (wgN S sk) o D))):=d2 g4
  have g5:=Sn (H:=H4) (a:=p) (o:=.ins a.Jlj dx (sF3 (wgN S sk) o D))
  generalize upd H4 p (.ins a.Jlj dx (sF3 (wgN S sk) o D))=H5 at*
  have i5:=si.same h5
  refine ⟨_,rfl,_,rfl,o,S,x,sk,rfl,i5.rv.ro,i5.sa,si.so,s4.n4,λL us H6 hL s6 hL6 cc=>?_⟩
  have g6:=s6 _ _ g5
  have h6:=h5.trans s6
  refine ⟨_,rfl,p,_,dx,_,rfl,g6,T.Jdt,T.Jfc,by simp [sF3],?_⟩
  rw [qf4]
  have h7:Si H0 (upd H6 p (.ins a.Jlj dx (sF4 (wgN S sk) o D L))):=new h6
  have f7:Sck H6 (upd H6 p (.ins a.Jlj dx (sF4 (wgN S sk) o D L))):=d2 g6
  have g7:=Sn (H:=H6) (a:=p) (o:=.ins a.Jlj dx (sF4 (wgN S sk) o D L))
  generalize upd H6 p (.ins a.Jlj dx (sF4 (wgN S sk) o D L))=H7 at*
  have f57:Sck H4 H7:=λq ob n e=>f7 q ob n (s6 _ _ (f5 q ob n e))
  have hL7:=f7.lst hL6
  have cc7:=CcL.on f7.tup cc
  have ul:=cc7.1
  obtain ⟨_,_,_,_,_,_,_,bl,_,tl,_,t3,_⟩:=id si.rv.ro
  have cl:=Jwu (sk:=sk) s4.n4 bl.n4 t3
  refine ⟨_,rfl,p,_,dx,_,_,rfl,g7,T.Jdt,T.Jfc,rfl,L,rfl,⟨_,Ss.of hL7⟩,λD2 hD2=>?_⟩
  refine Yb7 (K:=K) (a:=L) (xs:=us) (D:=D2) (λi σ H'=>(∃o1 o2,σ= [o1,o2])/\∃(ts:List V) (kvs:List (Jo2×S1×Int)),H' D2=some (.lst ts)/\ts.length=i/\kvs.map (·.1)=(chL S sk).take i/\Yb1 H' ts kvs/\Si H7 H') ⟨⟨_,_,rfl⟩,[],[],Sn,rfl,rfl,.nil,Si.upd hD2⟩ (λi σ H' _ ⟨_,_,_,_,_,_,_,sm⟩=>Ss.of (sm _ _ hL7)) ?_ ?_
  ·rintro i x' σ H' Ta hx ⟨⟨o1,o2,rfl⟩,ts,kvs,hDs,tl,ek,pc,sm⟩ hT
   have hi:i < us.length:=(yi.mp hx).1
   have ec:(chL S sk)[i]?=some ((chL S sk)[i]'(by omega)):=yh _
   generalize (chL S sk)[i]'(by omega)=c at ec
   obtain ⟨t,q,rfl,e1,e2⟩:=cc7.2 i x' c hx ec
   have sT:=Si.upd (o:=.tup [.int i,.ref t]) hT
   refine ⟨Ta,_,rfl,Sy.of Sn,rfl,_,_,rfl,_,_,rfl,rfl,?_⟩
   refine ⟨_,rfl,_,rfl,(show 2<=S6 by decide),λT2 hT2=>?_⟩
   have sT2:=sT.trans (Si.upd (o:=.tup [.ref t,.int i]) hT2)
   have f8:=OnD.grow (zs:=ts++ [.ref T2]) (sT2 _ _ hDs)
   refine ⟨ts,sT2 _ _ hDs,Jmn (by omega),⟨_,_,rfl⟩,ts++ [.ref T2],kvs++ [(c,t,(i:Int))],Sn,by rw [yab,tl];rfl,by rw [yag,ek,yy,ec];rfl,?_,λb u e=>?_⟩
   ·have tk:∀b xs,H' b=some (.tup xs)->upd (upd (upd H' Ta (.tup [.int i,.ref t])) T2 (.tup [.ref t,.int i])) D2 (.lst (ts++ [.ref T2])) b=some (.tup xs):=λb xs e=>f8 b _ (.inr λ_ z=>by cases z) (sT2 _ _ e)
    refine Paired.snoc (Paired.imp' (λv e h=>?_) pc) ⟨T2,rfl,f8 _ _ (.inr λ_ z=>by cases z) Sn,q,?_,tk _ _ (sm _ _ e2)⟩
    ·obtain ⟨T3,rfl,h1,b,h2,h3⟩:=h
     exact ⟨T3,rfl,tk _ _ h1,b,tk _ _ h2,tk _ _ h3⟩
    ·have e:tnV c.2=twV c.2:=by cases c.2 <;> rfl
     show _=some (HO.tup [.ref q,tnV c.2])
     rw [e]
     exact tk _ _ (sm _ _ e1)
   ·rw [Sw (Jm1 e hD2)]
    exact sT2 _ _ (sm _ _ e)
  rintro σ H8 ⟨_,ts,kvs,hDs,tl,ek,pc,s78⟩
  rw [yae (by omega)] at ek
  have kl:kvs.length=(chL S sk).length:=by rw [<-ek,ye]
  refine ⟨D2,ts,kvs,rfl,hDs,pc,by omega,by rw [ek];exact Sm6 S sk,λpl hpl=>?_⟩
  generalize DC _ _ pl kvs=dc
  have s89:=Si.upd (o:=dc) hpl
  have s79:=s78.trans s89
  have g9:=s79 _ _ g7
  have h9:=h7.trans s79
  refine ⟨_,rfl,p,_,dx,_,rfl,g9,T.Jdt,T.Jfd,by simp [sF4],?_⟩
  rw [qf5]
  have h10:Si H0 (upd (upd H8 pl dc) p (.ins a.Jlj dx (sF5 (wgN S sk) o D L pl))):=new h9
  have f9:Sck (upd H8 pl dc) (upd (upd H8 pl dc) p (.ins a.Jlj dx (sF5 (wgN S sk) o D L pl))):=d2 g9
  have f10:Sck H7 (upd (upd H8 pl dc) p (.ins a.Jlj dx (sF5 (wgN S sk) o D L pl))):=λq ob n e=>f9 q ob n (s79 _ _ e)
  have g10:=Sn (H:=upd H8 pl dc) (a:=p) (o:=.ins a.Jlj dx (sF5 (wgN S sk) o D L pl))
  clear f9 g9 h9 s79 s89 hpl
  generalize upd (upd H8 pl dc) p (.ins a.Jlj dx (sF5 (wgN S sk) o D L pl))=H10 at*
  obtain ⟨dxr,b,t,os,ts',ho,hb,bl10,ht,tl10,_,_,_⟩:=id (si.same h10).rv.ro
  refine ⟨_,rfl,o,_,dxr,_,_,rfl,ho,T.Jet,T.Jfu,rfl,_,_,rfl,rfl,_,rfl,by omega,by omega,λD3 hD3=>?_⟩
  refine Jpe (FlV λq=>q=D3) (flL S) (FlV.mn rfl) hD3 (by unfold flL;rw [ye,yaz]) (by omega) ?_ ?_
  ·rintro i y H' Q' hy sm ⟨ds,hDs'⟩ k'
   have hi:i < (S.c+1).toNat:=by
    have:=(yi.mp hy).1
    unfold flL at this
    rw [ye,yaz] at this
    exact this
   unfold flL at hy
   rw [yj,ybm hi] at hy
   cases hy
   rw [Int.zero_add]
   refine ⟨_,rfl,_,rfl,o,S,(i:Int),rfl,(si.same (h10.trans sm)).rv.ro,s4.rb,λL' us' H5 hL' s5 g5 tp=>k' _ _ s5 ⟨L',us',rfl,λz=>?_,g5,tp⟩⟩
   rw [z,hDs'] at hL'
   cases hL'
  intro vs H11 s1011 hD11 fl
  have g11:=s1011 _ _ g10
  have h11:=h10.trans s1011
  refine ⟨_,rfl,p,_,dx,_,rfl,g11,T.Jdt,T.Jfe,by simp [sF5],?_⟩
  rw [qf6]
  have h12:Si H0 (upd H11 p (.ins a.Jlj dx (sF6 (wgN S sk) o D L pl D3))):=new h11
  have f12:Sck H11 (upd H11 p (.ins a.Jlj dx (sF6 (wgN S sk) o D L pl D3))):=d2 g11
  have g12:=Sn (H:=H11) (a:=p) (o:=.ins a.Jlj dx (sF6 (wgN S sk) o D L pl D3))
  generalize upd H11 p (.ins a.Jlj dx (sF6 (wgN S sk) o D L pl D3))=H12 at*
  have f712:Sck H7 H12:=λq ob n e=>f12 q ob n (s1011 _ _ (f10 q ob n e))
  have f412:Sck H4 H12:=λq ob n e=>f712 q ob n (f57 q ob n e)
  have hD12:=f412.lst hD4
  have rg12:Sa2 StR H12 rs (stL S):=rg.imp λv q h=>Scf.to f412 h
  have hL12:=f712.lst hL7
  have cc12:=CcL.on f712.tup cc7
  have hF12:=f12.lst hD11
  have fl12:Sa2 (FlV NoB) H12 vs (flL S):=fl.imp λv q h=>FlV.to (bad':=NoB) f12 (λ_ z=>z.elim) h
  have sp12:Shn K a H12 p S Gs sk:=⟨⟨dx,o,L,D3,_,us,vs,g12,rfl,rfl,rfl,rfl,rfl,(si.same h12).rv,hL12,cc12,hF12,fl12⟩,si.so,s4⟩
  have rl:=rg12.1
  refine ⟨_,rfl,p,_,dx,_,_,rfl,g12,T.Jdt,T.Jfb,rfl,D,rfl,⟨_,Ss.of hD12⟩,λD4 hD4'=>?_⟩
  refine Jns (K:=K) (xs:=rs) (λ_ _ (_:V)=>True) rs (λ_ _ _ _ _ h=>h) hD4' rfl (by omega) hD12 ?_ ?_
  ·intro i x' _ H' Q' hx _ sm _ k'
   have hi:i < (stL S).length:=by rw [<-rl];exact (yi.mp hx).1
   have es:=(Yp lv1 hc.1 hi).1
   have sd:=rg12.2 i x' _ hx es
   obtain ⟨t1,r1,rfl,e1,e2⟩:=id sd
   have m1:=ycl (i:Int) (show S.c+1≠0 by omega)
   have m2:=ycm (i:Int) (show 0 < S.c+1 by omega)
   exact ⟨_,rfl,p,dx,_,rfl,sm _ _ g12,rfl,_,rfl,p,S,Gs,sk,_,_,_,rfl,sp12.same sm,⟨t1,r1,rfl,sm _ _ e1,sm _ _ e2,Ju9 S i _ (yg _)⟩,λj n B q1 q2=>So9 lv1 S.Bs.length (yg _) j n B q1 q2,⟨m1,by omega⟩,λv H5 s5=>k' v H5 s5 True.intro⟩
  intro es H13 s13 hD13 _
  have g13:=s13 _ _ g12
  refine ⟨_,rfl,p,_,dx,_,rfl,g13,T.Jdt,T.Jff,by simp [sF6],?_⟩
  rw [qf7]
  have f14:Sck H13 (upd H13 p (.ins a.Jlj dx (Yap (wgN S sk) o D L pl D3 D4))):=d2 g13
  have f1214:Sck H12 (upd H13 p (.ins a.Jlj dx (Yap (wgN S sk) o D L pl D3 D4))):=λq ob n e=>f14 q ob n (s13 _ _ e)
  have h14:Si H0 (upd H13 p (.ins a.Jlj dx (Yap (wgN S sk) o D L pl D3 D4))):=new (h12.trans s13)
  exact k _ h14 ⟨dx,o,D,L,pl,D3,D4,rs,us,vs,Sn,(si.same h14).rv,f1214.lst hD12,rg12.imp λv q h=>Scf.to f1214 h,f1214.lst hL12,CcL.on f1214.tup cc12,f1214.lst hF12,fl12.imp λv q h=>FlV.to f1214 (λ_ z=>z) h⟩
theorem Js0 {R:Jo4} {S:Riv} (h:Jua R S):S.Bs.length=R.Bs.length:=by
 have:=congrArg List.length h.Bs
 simpa using this
theorem Jx2 {R:Jo4} {S:Riv} (h:Jua R S) {i:Nat} {C:Jo7} (e:R.Bs[i]?=some C):∃B,S.Bs[i]?=some B/\Jrs B=Jty C:=by
 have q:(S.Bs.map Jrs)[i]?=some (Jty C):=by rw [h.Bs,yj,e];rfl
 rw [yj] at q
 exact yay.mp q
theorem Jyf {α:Type} {R:Jo4} {S:Riv} (h:Jua R S) (f:Str×Int×Int×Int×Int×Nat->α):S.Bs.map (λB=>f (Jrs B))=R.Bs.map (λB=>f (Jty B)):=by
 have e1:S.Bs.map (λB=>f (Jrs B))=(S.Bs.map Jrs).map f:=by rw [yaq];rfl
 have e2:R.Bs.map (λB=>f (Jty B))=(R.Bs.map Jty).map f:=by rw [yaq];rfl
 rw [e1,e2,h.Bs]
def kvI (l:List (Int×Int)):List (Key×V):=l.map λp=>(yn p.1,V.int p.2)
inductive Six (H:Hp) (x:V) (l:List (Int×Int)):Prop where
 |mk (d:_) (_:x= .ref d) (_:Rd H d (.dK (kvI l)))
theorem Six.same {H H':Hp} {x:V} {l:List (Int×Int)} (s:Si H H') (h:Six H x l):Six H' x l:=by
 obtain ⟨d,e,h|⟨o,h⟩⟩:=h
 ·exact ⟨d,e,.inl (s _ _ h)⟩
 ·exact ⟨d,e,.inr ⟨o,s _ _ h⟩⟩
theorem Ys (i:Int):∀l:List (Int×Int),(Jop (kvI l) (yn i)).isSome=decide (i∈l.map (·.1)):=by
 intro l
 unfold Jop kvI
 induction l with
 |nil=>rfl
 |cons p l ih=>
  rw [yak,List.find?_cons]
  by_cases c:p.1=i
  ·subst c
   simp
  ·have e:decide ((yn p.1:Key)=yn i)=false:=decide_eq_false λz=>c (yn.inj z)
   rw [e]
   refine Eq.trans ih ?_
   have:¬i=p.1:=λz=>c z.symm
   simp [this]
theorem Jz4 (G:Jme):(G1 G).length=nOf G:=by
 unfold G1 nOf
 cases G.sv <;> rfl
def SkT (R:Jo4) (l:List (Int×Int)):Prop:=(l.map (·.1)).Nodup/\∀q∈l,0<=q.1/\∃C:Jo7,R.Bs[q.1.toNat]?=some C/\0<=q.2/\q.2 < nOf C.G
inductive Snv (vs:List V) (H:Hp) (Q:VK) (z3:XK):Prop where
 |mk (c:Int) (p:S1) (x:V) (R:Jo4) (_:vs= [.int c,x]) (_:Sfu p H x R) (_:Jr5 R) (_:∀(x':V) (l:List (Int×Int)) (H':Hp),Si H H'->Sdc H' x' (some l)->SkT R l->l.length<=R.Bs.length->(∃d,x'= .ref d/\H d=none)->Q x' H')
theorem Sbf:Jm2 ["_law_cell_here","_law_told","_law_stream_here","_law_stuck_here","_law_place","_law_one"] ["_law_cell_here","_law_told"] (Jm0 (top 85)):=⟨rfl,rfl,rfl,by decide +kernel,rfl,by decide +kernel,by decide +kernel⟩
theorem Jxf (T:Tx K mg a):So P w K mg base CX0 2 a.Jkq a.Jkr ["_law_cell_here","_law_told"] Snv:=by
 have Sc8:=Jr7 (P:=P) (w:=w) (base:=base) T
 have Sk:=Jo5 (P:=P) (w:=w) (base:=base) T
 refine T.Ja9.fn.ok Sbf (λvs H Q E h=>?_) (λcdv A outer s H vs Q E hr h=>?_)
 ·obtain ⟨c,p,x,R,rfl,_⟩:=h
  rfl
 ·obtain ⟨c,p,x,R,rfl,⟨t,lb,lt,bs,ts,rfl,ht,hb,btl,htt,ttl,nb,nt⟩,rg,k⟩:=h
  have hu64:=Jqr hr
  refine ⟨?t,?B,?C⟩
  case B=>
   refine' Su ?O0 ?O1
   case O0=>exact (Jm7 (i:=2) Sbf.nd rfl (yf rfl) (Jlz T.Jy Sc8 hr (by decide) (Sj (pv 0) Sl)))
   case O1=>
   refine' Su ?O2 ?O3
   case O2=>exact (Jm7 (i:=3) Sbf.nd rfl (yf rfl) Jv2)
   case O3=>
   refine' Su ?O4 ?O5
   case O4=>
    refine' Jn5 ?O6 ?O7 ?O8 ?O9 ?Oa
    case O6=>exact PassesOwn.never
    case O7=>exact rfl
    case O8=>exact (Ju6 (by rfl) T.Jar (Sj (Jmc Jmh (pv 1) Sr (λ_ _=>rfl)) Sl))
    case O9=>exact (Jqe rfl (Jmb (Jm3 (i:=4) Sbf.nd rfl (yf rfl)) (Jmb (Jm3 (i:=5) Sbf.nd rfl (yf rfl)) Jnv)))
    case Oa=>
    refine' Sx ?Ob
    case Ob=>
    refine' Jmr ?Oc ?Od ?Oe
    case Oc=>exact (Jmp Jr8 (Jlz T.Jz Sk hr (by decide) (Sj (pv 2) (Sj Sr Sl))) Sr (Jmy _))
    case Od=>
     refine' Sx ?Of
     case Of=>exact (Jwm hu64 (pv 3) (pv 4) (Jlz T.Jz Sk hr (by decide) (Sj (pv 2) (Sj (Jm4 Jmd (by rfl) T.Jau Jnf (Sj (Jmc Jmh (Jmc Jmh (pv 5) Sr (λ_ _=>rfl)) Sr (λ_ _=>rfl)) Sl)) Sl))) rfl)
    case Oe=>exact Jma
   case O5=>
   refine' Sx ?Og
   case Og=>exact (Jm5 (Sn1 (pv 3)))
  have bll:=btl.len
  have n16:=rg.n.2
  refine ⟨_,rfl,c,rfl,λp2 H1 hp2 s1 st1=>λd hd=>?_⟩
  have s2:=Si.upd (o:=.dK []) hd
  have s12:=s1.trans s2
  have hd0:H d=none:=by
   cases e:H d with
   |none=>rfl
   |some u=>rw [s1 _ _ e] at hd;cases hd
  refine ⟨_,rfl,t,_,2,_,rfl,rfl,Sy.of (s12 _ _ ht),rfl,lb,rfl,⟨_,Ss.of (s12 _ _ hb)⟩,?_⟩
  refine Jww (xs:=bs) (λi σ H'=>∃(o4 o5:Option V) (l:List (Int×Int)),σ= [some (.int c),some (.ref t),some (.ref p2),some (.ref d),o4,o5]/\H' d=some (.dK (kvI l))/\(∀q∈l,q.1 < i)/\SkT R l/\l.length<=i/\Sby H' p2/\Si H H') ?_ ?_ ?_ ?_
  ·exact ⟨_,_,[],rfl,Sn,(λq hq=>nomatch hq),⟨List.nodup_nil,(λq hq=>nomatch hq)⟩,yg 0,st1.same s2,s12⟩
  ·rintro i σ H' _ ⟨_,_,_,_,_,_,_,_,_,sm⟩
   exact Ss.of (sm _ _ hb)
  ·rintro i x σ H' Ta hx ⟨o4,o5,l,rfl,hds,lt',sk,ll,st,sm⟩ hT
   obtain ⟨C,hC,t5,gv,rfl,ht5,gt⟩:=btl.get hx
   have sT:=Si.upd (o:=.tup [V.int i,.ref t5]) hT
   have smT:=sm.trans sT
   have stT:=st.same sT
   have hdT:=sT _ _ hds
   have hi:i < bs.length:=(yi.mp hx).1
   refine ⟨Ta,_,rfl,Sy.of Sn,rfl,_,_,rfl,_,_,rfl,rfl,?_⟩
   refine ⟨_,rfl,p2,3,rfl,stT,by decide,Joh (by decide),λr H3 r0 r1 b3=>⟨rfl,_,rfl,?_⟩⟩
   have ndp:d≠p2:=Ju4 stT hdT (λ_ _ _ z=>by cases z)
   have hd3:=b3.1 _ _ ndp hdT
   have keep:∀{Ha Hb:Hp},Si H Ha->But p2 Ha Hb->Si H Hb:=λs b c o e=>b.1 c o (Jm1 e hp2) (s _ _ e)
   have sm3:=keep smT b3
   by_cases c0:r=0
   ·subst c0
    obtain ⟨tg,m,eg,hm,nm,hg⟩:=gt
    subst eg
    have htg:∃g2,H tg=some (.tup ([.str C.G.kd,.ref m]++g2)):=by
     rcases hg with ⟨_,q⟩|⟨j,m2,_,q,_⟩
     ·exact ⟨[],q⟩
     ·exact ⟨[.ref m2,.int j],q⟩
    obtain ⟨g2,htg⟩:=htg
    have gl:=(rg.Bs C (yr hC)).1.G.len
    have n4:1<=nOf C.G/\nOf C.G<=4:=by unfold nOf;split <;> omega
    have gn:=Jz4 C.G
    refine Jzf rfl ⟨_,rfl,_,rfl,t5,_,5,_,rfl,rfl,Sy.of (sm3 _ _ ht5),rfl,tg,_,1,_,rfl,rfl,Sy.of (sm3 _ _ htg),Jsl (j:=1) rfl rfl,m,_,rfl,.inl (Ss.of (sm3 _ _ hm)),p2,_,rfl,b3.2,by rw [ye];omega,Joh (by rw [ye];omega),λr2 H4 q0 q1 b4=>?_⟩
    have hd4:=b4.1 _ _ ndp hd3
    rw [ye,gn] at q1
    refine ⟨_,rfl,_,rfl,d,_,rfl,Sgx.k (k:=yn (i:Int)) hd4 (by unfold kvI;rw [ye];exact Jmn (by omega)),_,_,l++ [((i:Int),r2)],rfl,?_,?_,⟨?_,?_⟩,by rw [yab];exact Nat.succ_le_succ ll,?_,?_⟩
    ·have nv:Jop (kvI l) (yn (i:Int))=none:=by
      have e:=Ys (i:Int) l
      rw [decide_eq_false (λz=>by
       obtain ⟨q,hq,e⟩:=yo.mp z
       have:=lt' q hq
       omega)] at e
      cases ev:Jop (kvI l) (yn (i:Int)) with
      |none=>rfl
      |some v=>rw [ev] at e;cases e
     rw [Sn,Ych _ nv]
     unfold kvI
     rw [yag]
     rfl
    ·intro q hq
     rcases yba.mp hq with hq|hq
     ·have:=lt' q hq
      omega
     ·rw [yan.mp hq]
      show (i:Int) < ((i+1:Nat):Int)
      omega
    ·rw [yag,List.nodup_append]
     refine ⟨sk.1,by simp,λx hx y hy e=>?_⟩
     obtain ⟨q,hq,rfl⟩:=yo.mp hx
     have:=lt' q hq
     have hy':y=(i:Int):=by simpa using hy
     omega
    ·intro q hq
     rcases yba.mp hq with hq|hq
     ·exact sk.2 q hq
     ·rw [yan.mp hq]
      exact ⟨by show (0:Int)<=(i:Int);omega,C,hC,q0,q1⟩
    ·obtain ⟨x1,x2,x3,e⟩:=b4.2
     exact ⟨x1,x2,x3,by rw [Sw (yw ndp)];exact e⟩
    ·intro b o e
     rw [Sw (Jm1 e hd0)]
     exact keep sm3 b4 _ _ e
   ·exact Jyc (λz=>c0 (V.int.inj z)) ⟨_,_,l,rfl,hd3,λq hq=>by have:=lt' q hq;omega,sk,by omega,b3.2,sm3⟩
  ·rintro σ H' ⟨o4,o5,l,rfl,hds,lt',sk,ll,st,sm⟩
   rw [bll] at ll
   refine ⟨_,rfl,d,_,rfl,hds,λo=>k _ l _ (λb u e=>?_) ⟨d,o,rfl,Sn⟩ sk ll ⟨d,rfl,hd0⟩⟩
   rw [Sw (Jm1 e hd0)]
   exact sm _ _ e
theorem Snd {K:Sd} {a:Ad} {H:Hp} {o:S1} {S:Riv} {R:Jo4} (ro:Sak K a H o S) (lk:Jua R S) (rg:Jr5 R) (gx:GXL a H (S.Bs.map (·.g)) (R.Bs.map (·.G))):RvX K a H o S (R.Bs.map (·.G)):=by
 have hl:=Js0 lk
 have hz:S.Bs.map (·.z)=R.Bs.map (·.z):=Jyf lk (·.1)
 refine ⟨ro,gx,by rw [ye];exact hl,λT hT=>?_,by have:=rg.n;omega,λi B G hB hG=>?_⟩
 ·have:(T.z,T.b,T.wt)∈R.Ts.map (λB=>(B.z,B.b,B.wt)):=by rw [<-lk.Ts];exact ybc (f:=λB:Twn=>(B.z,B.b,B.wt)) hT
  obtain ⟨C,hC,e⟩:=yo.mp this
  have q:=rg.Ts C hC
  have e2:C.b=T.b:=congrArg (·.2.1) e
  have e3:C.wt=T.wt:=congrArg (·.2.2) e
  rw [hz,<-e2,<-e3]
  exact ⟨q.2.2.1,q.2.2.2.1,q.2.2.2.2⟩
 ·rw [yj] at hG
  obtain ⟨C,hC,rfl⟩:=yay.mp hG
  have k1:(S.Bs.map Jrs)[i]?=some (Jrs B):=by rw [yj,hB];rfl
  rw [lk.Bs,yj,hC] at k1
  have e:Jty C=Jrs B:=yt.inj k1
  have bg:=(rg.Bs C (yr hC)).1
  have e1:C.lo=B.lo:=congrArg (·.2.1) e
  have e2:C.hi=B.hi:=congrArg (·.2.2.1) e
  have e3:nOf C.G=B.n:=congrArg (·.2.2.2.2.2) e
  exact ⟨bg.G,e3.symm,by rw [<-e1];exact bg.lo.1,by rw [<-e2];exact bg.hi.2⟩
theorem Sfu.same {p:S1} {H H':Hp} {x:V} {R:Jo4} (rg:Jr5 R) (s:Si H H') (h:Sfu p H x R):Sfu p H' x R:=by
 obtain ⟨t,lb,lt,bs,ts,e,ht,hb,btl,htt,ttl,nb,nt⟩:=h
 exact ⟨t,lb,lt,bs,ts,e,s _ _ ht,s _ _ hb,btl.map (λ_ _ _ h=>h.same s) (λB hB=>(rg.Bs B hB).1),s _ _ htt,ttl.map λ_ _ h=>h.same s,nb,nt⟩
theorem Ss1 {R:Jo4} {S:Riv} {l:List (Int×Int)} (lk:Jua R S) (rg:Jr5 R) (h:SkT R l) (hl:l.length<=R.Bs.length):Jsj S (some l):=by
 intro l' e
 cases e
 refine ⟨yac hl rg.n.2,h.1,λq hq=>?_⟩
 obtain ⟨h0,C,hC,c0,c1⟩:=h.2 q hq
 obtain ⟨B,hB,ek⟩:=Jx2 lk hC
 have e:B.n=nOf C.G:=congrArg (·.2.2.2.2.2) ek
 exact ⟨h0,B,hB,c0,by rw [e];exact c1⟩
theorem Jyg {R:Jo4} {S:Riv} (lk:Jua R S) {B:Bsn} (h:B∈S.Bs):∃C∈R.Bs,Jrs B=Jty C:=by
 have q:Jrs B∈R.Bs.map Jty:=by rw [<-lk.Bs];exact ybc h
 obtain ⟨C,hC,e⟩:=yo.mp q
 exact ⟨C,hC,e.symm⟩
theorem Sjl {α:Type} {n:Nat} (u:List α) (e:u.length=n+1):∃a r,u=a::r/\r.length=n:=by
 cases u with
 |nil=>cases e
 |cons a r=>exact ⟨a,r,rfl,by simpa using e⟩
theorem Smv {α:Type} (u:List α) (e:u.length=1):∃a,u= [a]:=by
 obtain ⟨a,r,rfl,z⟩:=Sjl u e
 rw [ycx z]
 exact ⟨a,rfl⟩
theorem Sri {α:Type} (u:List α) (e:u.length=2):∃a b,u= [a,b]:=by
 obtain ⟨a,r,rfl,z⟩:=Sjl u e
 obtain ⟨b,rfl⟩:=Smv r z
 exact ⟨a,b,rfl⟩
theorem Srj {α:Type} (u:List α) (e:u.length=3):∃a b c,u= [a,b,c]:=by
 obtain ⟨a,r,rfl,z⟩:=Sjl u e
 obtain ⟨b,c,rfl⟩:=Sri r z
 exact ⟨a,b,c,rfl⟩
theorem Swj {α:Type} (u:List α) (e:u.length=4):∃a b c d,u= [a,b,c,d]:=by
 obtain ⟨a,r,rfl,z⟩:=Sjl u e
 obtain ⟨b,c,d,rfl⟩:=Srj r z
 exact ⟨a,b,c,d,rfl⟩
def rrF (c:Nat) (rs:List Nat):Int:=(rs.foldl (λws r=>wsS c r ws) (1::yax c 0)).sum
theorem Sry (S:Riv):rrN S=rrF S.c.toNat (S.Bs.map λB=>B.rn.toNat):=by
 unfold rrN rrF wsN
 rw [ybl,List.foldl_map]
theorem rr1:∀c < 13,∀a < 7,rrF c [a]<=7:=by decide +kernel
theorem rr2:∀c < 3,∀a < 3,∀b < 3,rrF c [a,b]<=6:=by decide +kernel
theorem rr3:∀c < 2,∀a < 2,∀b < 2,∀d < 2,rrF c [a,b,d]<=4:=by decide +kernel
theorem rr4:∀c < 2,∀a < 2,∀b < 2,∀d < 2,∀e < 2,rrF c [a,b,d,e]<=5:=by decide +kernel
theorem Swk {x y z X Y Z:Int} (x0:0<=x) (y0:0<=y) (z0:0<=z) (hx:x<=X) (hy:y<=Y) (hz:z<=Z):x*y*z<=X*Y*Z:=
 ycn (ycn hx hy y0 (ybd x0 hx)) hz z0 (Int.mul_nonneg (ybd x0 hx) (ybd y0 hy))
structure Sqs (S:Riv) (sk:Option (List (Int×Int))):Prop where
 s4:Yv S
 st:stN S<=2000
 wg:wgN S sk<=4000
theorem Ybv {S:Riv} {sk:Option (List (Int×Int))} {n L C M T:Nat} {k:Int} (hn:S.Bs.length=n) (hL:∀B∈S.Bs,1<=lvN B/\lvN B<=(L:Int)) (l1:1<=L) (hc:0<=S.c/\S.c+1<=(C:Int)) (hM:∀x∈Jnt S sk,x.length<=M) (m1:1<=M) (hT:S.Ts.length+1<=T) (h4:n<=4) (c12:S.c<=12) (hk:rrN S<=k) (k4:(L:Int)^n*C*((M:Int)^n*T)*k<=4000) (k2:(L:Int)^n*C<=2000):stN S<=2000/\wgN S sk<=4000:=by
 have q1:=Jxi (b:=(L:Int)) (by omega) (S.Bs.map lvN) λx hx=>by
  obtain ⟨B,hB,rfl⟩:=yo.mp hx
  have:=hL B hB
  omega
 rw [ye,hn] at q1
 have ll:=Jss S sk
 have q2:=Jxi (b:=(M:Int)) (by omega) ((Jnt S sk).map λr=>(r.length:Int)) λx hx=>by
  obtain ⟨y,hy,rfl⟩:=yo.mp hx
  have:=hM y hy
  omega
 rw [ye,ll,hn] at q2
 have rb:=Skx (R:=S) (by omega) ⟨hc.1,c12⟩
 have a1:stN S<=(L:Int)^n*C:=ycn q1.2 hc.2 (by omega) (ybd q1.1 q1.2)
 have a0:0<=stN S:=Int.mul_nonneg q1.1 (by omega)
 have b1:chN S sk<=(M:Int)^n*T:=ycn q2.2 (by omega) (by omega) (ybd q2.1 q2.2)
 have b0:0<=chN S sk:=Int.mul_nonneg q2.1 (by omega)
 exact ⟨ybd a1 k2,ybd (Swk a0 b0 rb.1 a1 b1 hk) k4⟩
theorem Ydx {R:Jo4} {S:Riv} {M:Nat} (lk:Jua R S) (sk:Option (List (Int×Int))) (m1:1<=M) (h:∀C∈R.Bs,nOf C.G<=M):∀x∈Jnt S sk,x.length<=M:=by
 have go:∀(l:List (Int×Int)) (rs:List (List Int)),(∀x∈rs,x.length<=M)->∀x∈l.foldl (λrs p=>rs.set p.1.toNat [p.2]) rs,x.length<=M:=by
  intro l
  induction l with
  |nil=>exact λrs h=>h
  |cons p l ih=>
   refine λrs h=>ih _ λx hx=>?_
   rcases ycw hx with q|rfl
   ·exact h x q
   ·exact m1
 refine go _ _ λx hx=>?_
 obtain ⟨B,hB,rfl⟩:=yo.mp hx
 obtain ⟨C,hC,ek⟩:=Jyg lk hB
 have e:B.n=nOf C.G:=congrArg (·.2.2.2.2.2) ek
 rw [Jnj,e]
 exact h C hC
theorem Jye {R:Jo4} {S:Riv} {sk:Option (List (Int×Int))} (lg:Yb0 R) (rg:Jr5 R) (lk:Jua R S):Sqs S sk:=by
 obtain ⟨n,L,C,M,T,r,hm,hn,hC,hT,hB⟩:=lg
 have ll:=Js0 lk
 have tl:S.Ts.length=R.Ts.length:=by have:=congrArg List.length lk.Ts;simpa using this
 have ec:=lk.c
 have gc:=rg.c
 have bas:∀B∈S.Bs,(1<=lvN B/\lvN B<=(L:Int))/\(0<=B.lo/\B.lo<=12)/\lvN B<=13/\0<=B.rn/\B.rn < (r:Int)/\B.rn<=6:=λB hB'=>by
  obtain ⟨D,hD,ek⟩:=Jyg lk hB'
  have e1:B.lo=D.lo:=congrArg (·.2.1) ek
  have e2:B.hi=D.hi:=congrArg (·.2.2.1) ek
  have e4:B.rn=D.rn:=congrArg (·.2.2.2.2.1) ek
  have g:=(rg.Bs D hD).1
  have g1:=g.lo
  have g2:=g.hi
  have g4:=g.rn
  have l:=hB D hD
  have l1:=l.s
  have l2:=l.r
  unfold lvN
  omega
 have nof:∀D∈R.Bs,1<=M->nOf D.G<=M:=λD hD h1=>by
  have l:=(hB D hD).m
  unfold nOf
  split <;> omega
 have rns:∀x∈S.Bs.map λB=>B.rn.toNat,x < r:=λx hx=>by
  obtain ⟨B,hB',rfl⟩:=yo.mp hx
  have:=bas B hB'
  omega
 have rl:(S.Bs.map λB=>B.rn.toNat).length=n:=by rw [ye];omega
 have main:∀(k:Int),n<=4->1<=L->1<=M->1<=r->r^n<=1000->(L:Int)^n*C*((M:Int)^n*T)*k<=4000->(L:Int)^n*C<=2000->rrN S<=k->Sqs S sk:=λk h4 l1 m1 r1 rp k4 k2 hk=>by
  obtain ⟨w1,w2⟩:=Ybv (sk:=sk) (n:=n) (T:=T) (by omega) (λB hB'=>(bas B hB').1) l1 (C:=C) ⟨by omega,by omega⟩ (Ydx lk sk m1 λD hD=>nof D hD m1) m1 (by omega) h4 (by omega) hk k4 k2
  refine ⟨⟨by omega,λB hB'=>?_,by omega,r,r1,by rw [ll,hn];exact rp,λB hB'=>?_⟩,w1,w2⟩
  ·have:=bas B hB'
   omega
  ·have:=bas B hB'
   omega
 have cc:S.c.toNat < C:=by omega
 rw [Sry] at main
 generalize (S.Bs.map λB=>B.rn.toNat)=rs at*
 generalize S.c.toNat=c at*
 simp only [yp,yaw,or_false,Prod.mk.injEq] at hm
 rcases hm with ⟨rfl,rfl,rfl,rfl,rfl,rfl⟩|⟨rfl,rfl,rfl,rfl,rfl,rfl⟩|⟨rfl,rfl,rfl,rfl,rfl,rfl⟩|⟨rfl,rfl,rfl,rfl,rfl,rfl⟩|⟨rfl,rfl,rfl,rfl,rfl,rfl⟩
 ·refine main 7 (by decide) (by decide) (by decide) (by decide) (by decide) (by decide) (by decide) ?_
  obtain ⟨a,rfl⟩:=Smv rs rl
  exact rr1 c (by omega) a (by have:=rns a (by simp);omega)
 ·refine main 7 (by decide) (by decide) (by decide) (by decide) (by decide) (by decide) (by decide) ?_
  obtain ⟨a,rfl⟩:=Smv rs rl
  exact rr1 c (by omega) a (by have:=rns a (by simp);omega)
 ·refine main 6 (by decide) (by decide) (by decide) (by decide) (by decide) (by decide) (by decide) ?_
  obtain ⟨a,b,rfl⟩:=Sri rs rl
  exact rr2 c cc a (rns a (by simp)) b (rns b (by simp))
 ·refine main 4 (by decide) (by decide) (by decide) (by decide) (by decide) (by decide) (by decide) ?_
  obtain ⟨a,b,d,rfl⟩:=Srj rs rl
  exact rr3 c cc a (rns a (by simp)) b (rns b (by simp)) d (rns d (by simp))
 ·refine main 5 (by decide) (by decide) (by decide) (by decide) (by decide) (by decide) (by decide) ?_
  obtain ⟨a,b,d,e,rfl⟩:=Swj rs rl
  exact rr4 c cc a (rns a (by simp)) b (rns b (by simp)) d (rns d (by simp)) e (rns e (by simp))
def NoD (H H':Hp):Prop:=∀q o,(∀ob u,o≠ .frz ob u)->(∀kvs,o≠ .dK kvs)->H q=some o->H' q=some o
theorem NoD.same {H H':Hp} (s:Si H H'):NoD H H':=λq o _ _ e=>s q o e
theorem NoD.trans {H H1 H':Hp} (s:NoD H H1) (t:NoD H1 H'):NoD H H':=λq o n m e=>t q o n m (s q o n m e)
theorem NoD.tup {H H':Hp} (f:NoD H H'):∀q xs,H q=some (.tup xs)->H' q=some (.tup xs):=λq xs e=>f q _ (λ_ _ z=>by cases z) (λ_ z=>by cases z) e
theorem NoD.lst {H H':Hp} {q:S1} {xs:List V} (f:NoD H H') (e:H q=some (.lst xs)):H' q=some (.lst xs):=f q _ (λ_ _ z=>by cases z) (λ_ z=>by cases z) e
theorem NoD.ins {H H':Hp} {q C d:S1} {fs:List (Str×V)} (f:NoD H H') (e:H q=some (.ins C d fs)):H' q=some (.ins C d fs):=f q _ (λ_ _ z=>by cases z) (λ_ z=>by cases z) e
theorem NoD.put {H:Hp} {d:S1} {o:HO} (h:(∃ob u,H d=some (.frz ob u))\/∃kvs,H d=some (.dK kvs)):NoD H (upd H d o):=λq u n m e=>by
 rw [Sw λz=>?_]
 ·exact e
 ·subst z
  rcases h with ⟨ob,u',h⟩|⟨kvs,h⟩
  ·rw [h] at e
   exact n _ _ (yt.inj e).symm
  ·rw [h] at e
   exact m _ (yt.inj e).symm
theorem FlV.nod {bad:S1->Prop} {H H':Hp} {v:V} {rs:List (List Int)} (s:NoD H H') (h:FlV bad H v rs):FlV bad H' v rs:=by
 obtain ⟨q,us,rfl,nb,g,r⟩:=h
 exact ⟨q,us,rfl,nb,s.lst g,TpL.on s.tup r⟩
inductive Sfv (a:Ad) (H:Hp) (s:S1) (S:Riv) (sk:Option (List (Int×Int))):Prop where
 |mk (dx o rw L pl F en dxr:S1) (hf:Int) (fr:List (Str×V)) (us vs:List V) (_:H s=some (.ins a.Jlj dx (Yap hf o rw L pl F en))) (_:H o=some (.ins a.Jlr dxr fr)) (_:fr.lookup ("cloud" :Str)=some (.int S.c)) (_:H L=some (.lst us)) (_:CcL H us (chL S sk)) (_:H F=some (.lst vs)) (_:Sa2 (FlV NoB) H vs (flL S))
theorem Sfv.nod {a:Ad} {H H':Hp} {s:S1} {S:Riv} {sk:Option (List (Int×Int))} (m:NoD H H') (h:Sfv a H s S sk):Sfv a H' s S sk:=by
 obtain ⟨dx,o,rw_,L,pl,F,en,dxr,hf,fr,us,vs,h1,h2,h3,h4,h5,h6,h7⟩:=h
 exact ⟨dx,o,rw_,L,pl,F,en,dxr,hf,fr,us,vs,m.ins h1,m.ins h2,h3,m.lst h4,CcL.on m.tup h5,m.lst h6,h7.imp λv p q=>q.nod m⟩
theorem Sie.l {K:Sd} {a:Ad} {H:Hp} {s:S1} {S:Riv} {Gs:List Jme} {sk:Option (List (Int×Int))} (h:Sie K a H s S Gs sk):Sfv a H s S sk:=by
 obtain ⟨dx,o,rw_,L,pl,F,en,rs,us,vs,h1,h2,h3,h4,h5,h6,h7,h8⟩:=h
 obtain ⟨dxr,b,t,os,ts,ho,_⟩:=h2.ro
 exact ⟨dx,o,rw_,L,pl,F,en,dxr,_,_,us,vs,h1,ho,rfl,h5,h6,h7,h8⟩
inductive Ss4 (a:Ad) (vs:List V) (H:Hp) (Q:VK) (z3:XK):Prop where
 |mk (s:S1) (S:Riv) (sk:Option (List (Int×Int))) (_:vs= [.ref s]) (_:Sfv a H s S sk) (_:∀(L:S1) (us:List V) (H':Hp),H L=none->Si H H'->H' L=some (.lst us)->CcL H' us (chL S sk)->Q (.ref L) H')
inductive Ss8 (K:Sd) (a:Ad) (vs:List V) (H:Hp) (Q:VK) (E:XK):Prop where
 |mk (s:S1) (S:Riv) (sk:Option (List (Int×Int))) (x:V) (_:vs= [.ref s,x]) (_:Sfv a H s S sk) (_:Tm K H x) (_:((∃n:Nat,x= .int n/\(n:Int)<=S.c/\∀(L:S1) (us:List V) (H':Hp),H L=none->Si H H'->H' L=some (.lst us)->TpL H' us (rnL S n)->Q (.ref L) H')\/(Jmm x 0 S.c=false/\∀cl eo H',RfC a.Jlh H H' x cl eo->E cl eo H')))
theorem Jqm:Jm2 ["self"] ["self"] (Jm0 (Jm6 (top 45) 5)):=⟨rfl,rfl,rfl,by decide +kernel,rfl,by decide +kernel,by decide +kernel⟩
theorem Jq9 (T:Tx K mg a):So P w K mg base CX0 1 a.Jio a.Jip ["self"] (Ss4 a):=by
 refine T.Jcw.fn.ok Jqm (λvs H Q E h=>?_) (λcdv A outer s H vs Q E hr h=>?_)
 ·obtain ⟨s,S,sk,rfl,_⟩:=h
  rfl
 ·obtain ⟨s,S,sk,rfl,⟨dx,o,rw_,L,pl,F,en,dxr,hf,fr,us,vs,h1,h2,h3,h4,h5,h6,h7⟩,k⟩:=h
  refine ⟨?t,?B,?C⟩
  case B=>
   refine' Sx ?O0
   case O0=>exact (Jm5 (Jmf Jnu (by rfl) T.Jav Jni (Sj (Jm9 (pv 0) (by rfl)) Sl)))
  refine ⟨_,rfl,s,_,dx,_,_,rfl,h1,T.Jdt,T.Jfc,rfl,L,_,rfl,.inl (Ss.of h4),λl hl=>?_⟩
  have sl:=Si.upd (o:=.lst us) hl
  exact k l us _ hl sl Sn (CcL.on (λq xs e=>sl _ _ e) h5)
theorem Jrm:Jm2 ["self","wet"] ["self","wet"] (Jm0 (Jm6 (top 45) 6)):=⟨rfl,rfl,rfl,by decide +kernel,rfl,by decide +kernel,by decide +kernel⟩
theorem Jou (T:Tx K mg a):So P w K mg base (CXX P w) 3 a.Jiq a.Jir ["self","wet"] (Ss8 K a):=by
 have Sz:=Jnm (P:=P) (w:=w) (base:=base) T
 have Sax:=Jph (P:=P) (w:=w) (base:=base) T
 refine T.Jcx.fn.okX Jrm (λvs H Q E h=>?_) (λcdv A outer s H vs Q E hr h=>?_)
 ·obtain ⟨s,S,sk,x,rfl,_⟩:=h
  rfl
 ·obtain ⟨s,S,sk,x,rfl,⟨dx,o,rw_,L,pl,F,en,dxr,hf,fr,us,vs,h1,h2,h3,h4,h5,h6,h7⟩,tm,k⟩:=h
  refine ⟨?t,?B,?C⟩
  case B=>
   refine' Su ?O0 ?O1
   case O0=>
    refine' Jmr ?O2 ?O3 ?O4
    case O2=>exact (Jmu (Jmx (Jlz T.J0 Sz hr (by decide) (Sj (pv 1) (Sj Sr (Sj (Jm9 (Jm9 (pv 0) (by rfl)) (by rfl)) Sl))))))
    case O3=>
     refine' Sx ?O5
     case O5=>exact (Jn0 Jn4 rfl (Jnq T.Jdo Sax hr (by decide) T.Jcq.bd T.Jbd (Sj (pv 1) Sl)))
    case O4=>exact Jma
   case O1=>
   refine' Sx ?O6
   case O6=>exact (Jm5 (Jmf Jnu (by rfl) T.Jav Jni (Sj (Jmc Jn3 (Jm9 (pv 0) (by rfl)) (pv 1) (λ_ _=>rfl)) Sl)))
  refine ⟨_,rfl,_,rfl,s,_,dx,_,_,rfl,h1,T.Jdt,T.Jfa,rfl,o,_,dxr,_,_,rfl,h2,T.Jet,T.Jfu,h3,x,0,_,rfl,tm,_,rfl,?_⟩
  rcases k with ⟨n,rfl,hn,k⟩|⟨er,k⟩
  ·have vl:=h7.1
   have hn':n < vs.length:=by rw [vl];unfold flL;rw [ye,yaz];omega
   obtain ⟨rs,er,q,ws,ev,_,hq,tp⟩:=h7.at (yh hn')
   have ers:rs=rnL S n:=by
    unfold flL at er
    rw [yj,ybm (by omega)] at er
    exact (yt.inj er).symm
   rw [ers] at tp
   refine ifF (by simp [Jmm];omega) ⟨_,rfl,s,_,dx,_,_,rfl,h1,T.Jdt,T.Jfe,rfl,_,rfl,F,_,_,_,rfl,rfl,Ss.of h6,Jsl rfl (by rw [yh hn',ev]),q,_,rfl,.inl (Ss.of hq),λl hl=>?_⟩
   have sl:=Si.upd (o:=.lst ws) hl
   exact k l ws _ hl sl Sn (TpL.on (λq xs e=>sl _ _ e) tp)
  ·exact ifT (by rw [er];rfl) (Jny T.Jdo T.Jf0 rfl λe dx h1 h2 h3=>k _ _ _ (RfC.new h1 h2 h3))
theorem Jys (m:Nat):rgI (m+1)=rgI m++ [(m:Int)]:=by
 unfold rgI
 rw [List.range_succ,yag]
 rfl
theorem Ycl (m:Nat) (k:Int) (h: -1<=k):(rgI m).filter (λn=>decide (n<=k))=rgI (if k+1 < (m:Int) then (k+1).toNat else m):=by
 induction m with
 |zero=>
  rw [if_neg (by omega)]
  rfl
 |succ m ih=>
  rw [Jys,List.filter_append,ih]
  by_cases c:k+1 < (m:Int)
  ·rw [if_pos c,if_pos (by omega),List.filter_cons_of_neg (by simp;omega)]
   simp
  ·rw [if_neg c]
   by_cases c2:k+1 < ((m+1:Nat):Int)
   ·rw [if_pos c2,List.filter_cons_of_neg (by simp;omega),show (k+1).toNat=m by omega]
    simp
   ·rw [if_neg c2,List.filter_cons_of_pos (by simp;omega),Jys]
    simp
def Jpf (wt rn:Int) (r:List Int):List (List Int):=(rgI ((if wt - r.sum < rn then wt - r.sum else rn)+1).toNat).map λn=>r++ [n]
theorem Ycp {wt rn:Int} (h0:0<=rn):∀{rs:List (List Int)},(∀r∈rs,r.sum<=wt)->(lgR rs (rgI (rn+1).toNat)).filter (λr=>decide (r.sum<=wt))=rs.flatMap (Jpf wt rn):=by
 intro rs
 induction rs with
 |nil=>exact λ_=>rfl
 |cons r rs ih=>
  intro h
  have hr:=h r yah
  have i1:=ih λx hx=>h x (yaa _ hx)
  unfold lgR at i1⊢
  rw [ycg,List.filter_append,i1,ycg]
  congr 1
  rw [List.filter_map]
  unfold Jpf
  congr 1
  have e:((λr:List Int=>decide (r.sum<=wt))∘λn=>r++ [n])=λn:Int=>decide (n<=wt - r.sum):=by
   funext n
   show decide ((r++ [n]).sum<=wt)=_
   rw [List.sum_append]
   have: [n].sum=n:=by simp
   rw [this]
   by_cases c:r.sum+n<=wt
   ·rw [decide_eq_true c,decide_eq_true (by omega)]
   ·rw [decide_eq_false c,decide_eq_false (by omega)]
  rw [e,Ycl _ _ (by omega)]
  congr 1
  split <;> split <;> omega
theorem Snc {S:Riv} {wt:Int} (w0:0<=wt):∀i,i<=S.Bs.length->∀r∈rnS S wt i,r.sum<=wt:=by
 intro i hi r hr
 cases i with
 |zero=>
  have hr':r∈ [([]:List Int)]:=hr
  rw [yan.mp hr']
  exact w0
 |succ i=>
  rw [Jqf (yh (by omega:i < S.Bs.length))] at hr
  exact of_decide_eq_true (ybp.mp hr).2
theorem Yaq {α β:Type} {f:α->List β} (l:List α) (j:Nat):((l.take j).flatMap f).length<=(l.flatMap f).length:=by
 have e:(l.flatMap f).length=((l.take j).flatMap f).length+((l.drop j).flatMap f).length:=by rw [<-yab,<-ycu,List.take_append_drop]
 omega
theorem R6.pos {i:Nat} {r:List Int} (h:R6 i r):0<=r.sum:=(Jxq (b:=6) (by decide) r h.2).1
inductive Snu (vs:List V) (H:Hp) (Q:VK) (z3:XK):Prop where
 |mk (p:S1) (x:V) (R:Jo4) (S:Riv) (wt:Int) (_:vs= [x,.int wt]) (_:Sfu p H x R) (_:Jr5 R) (_:Jua R S) (_:Yv S) (_:(0<=wt/\wt<=12)) (_:∀(L:S1) (us:List V) (H':Hp),H L=none->Si H H'->H' L=some (.lst us)->TpL H' us (rnL S wt)->Q (.ref L) H')
theorem Sai:Jm2 ["_law_told","_law_wet","_law_found","_law_one","_law_longer","_law_rain","_law_forced"] ["_law_told","_law_wet"] (Jm0 (top 83)):=⟨rfl,rfl,rfl,by decide +kernel,rfl,by decide +kernel,by decide +kernel⟩
theorem Jxc (T:Tx K mg a):So P w K mg base CX0 1 a.Jkm a.Jkn ["_law_told","_law_wet"] Snu:=by
 refine T.Ja7.fn.ok Sai (λvs H Q E h=>?_) (λcdv A outer s H vs Q E hr h=>?_)
 ·obtain ⟨p,x,R,S,wt,rfl,_⟩:=h
  rfl
 ·obtain ⟨p,x,R,S,wt,rfl,⟨t,lb,lt,bs,ts,rfl,ht,hb,btl,htt,ttl,nb,nt⟩,rg,lk,s4,hw,k⟩:=h
  refine ⟨?t,?B,?C⟩
  case B=>
   refine' Su ?O0 ?O1
   case O0=>exact (Jm7 (i:=2) Sai.nd rfl (yf rfl) (Jmt (Sj (Jn1 Sl) Sl)))
   case O1=>
   refine' Su ?O2 ?O3
   case O2=>
    refine' Jn5 ?O4 ?O5 ?O6 ?O7 ?O8
    case O4=>exact PassesOwn.never
    case O5=>exact rfl
    case O6=>exact (Jml (Jmc Jmh (pv 0) Sr (λ_ _=>rfl)))
    case O7=>exact (Jm3 (i:=3) Sai.nd rfl (yf rfl))
    case O8=>
    refine' Su ?O9 ?Oa
    case O9=>exact (Jm7 (i:=4) Sai.nd rfl (yf rfl) (Jmt Sl))
    case Oa=>
    refine' Su ?Ob ?Oc
    case Ob=>
     refine' Jn5 ?Od ?Oe ?Of ?Og ?Oh
     case Od=>exact PassesOwn.never
     case Oe=>exact rfl
     case Of=>exact (Jml (pv 2))
     case Og=>exact (Jm3 (i:=5) Sai.nd rfl (yal rfl))
     case Oh=>
     refine' Sx ?Oi
     case Oi=>exact (Jnd (Jps F.plainAttrs_list F.slot_list_extend F.type_list_extend Jpg (pv 4) (Sj (Jmj (N:=(["_law_fell","_law_rain"]:List Str)) (ini:=[none,some 5]) rfl (Jnp (by rfl) T.Jay (Sj (Jm8 Jmg (Jm4 (Joq rfl) (by rfl) T.Jax Jsm (Sj (Jmc Jmh (pv 3) Sr (λ_ _=>rfl)) (Sj (Jm8 Jnl (pv 1) (Jm4 (Jpb rfl) (by rfl) T.Jb2 Jpk (Sj (pv 5) Sl))) Sl))) Sr) Sl)) (λ_ _ _ _ _=>(Jm3 (i:=0) (by decide +kernel:(["_law_fell","_law_rain"]:List Str).Nodup) rfl (yf rfl))) (λ_ _ _ _ _=>Jmi) (λ_ _ _ _ _=>(Jm8 Ju5 (pv 1) (Jn1 (Sj (pv 0) Sl))))) Sl)))
    case Oc=>
    refine' Sx ?Oj
    case Oj=>exact (Jm7 (i:=2) Sai.nd rfl (yf rfl) (pv 4))
   case O3=>
   refine' Su ?Ok ?Ol
   case Ok=>exact (Jm7 (i:=6) Sai.nd rfl (yal rfl) (Jm4 (Joq rfl) (by rfl) T.Jax Jsm (Sj (Jm4 (Jpb rfl) (by rfl) T.Jb2 Jpk (Sj (Jmj (N:=(["_law_one"]:List Str)) (ini:=[none]) rfl (Jml (Jmc Jmh (pv 0) Sr (λ_ _=>rfl))) (λ_ _ _ _ _=>(Jm3 (i:=0) (by decide +kernel:(["_law_one"]:List Str).Nodup) rfl (yf rfl))) (λ_ _ _ _ _=>Jmi) (λ_ _ _ _ _=>(Jmc (Yj (K:=K) rfl) (pv 0) Sr (λ_ _=>rfl)))) Sl)) (Sj (Jm8 Jnl (Jm8 Jmg (pv 1) (Jmc Jmh (pv 0) Sr (λ_ _=>rfl))) (Jmc Jmh (pv 0) Sr (λ_ _=>rfl))) Sl))))
   case Ol=>
   refine' Sx ?Om
   case Om=>exact (Jm5 (Jmj (N:=(["_law_rain","_law_forced"]:List Str)) (ini:=[none,some 6]) rfl (Jml (pv 2)) (λ_ _ _ _ _=>(Jm3 (i:=0) (by decide +kernel:(["_law_rain","_law_forced"]:List Str).Nodup) rfl (yf rfl))) (λ_ _ _ _ _=>(Ju7 (Jmp Yc4 (Jm4 (Jqq (K:=K) rfl rfl) (by rfl) T.Jb2 Jpk (Sj (pv 0) Sl)) (pv 1) (Jmy _)))) (λ_ _ _ _ _=>(pv 0))))
  have bll:=btl.len
  have ll:=Js0 lk
  have n4:=s4.n4
  obtain ⟨bb,b1,bp,hb6⟩:=s4.rb
  refine ⟨(show 0<=S6 by decide),λe0 he0=>⟨(show 1<=S6 by decide),λl0 hl0=>?_⟩⟩
  have s0:Si H (upd (upd H e0 (.tup [])) l0 (.lst [.ref e0])):=(Si.upd he0).trans (Si.upd hl0)
  have tp0:TpL (upd (upd H e0 (.tup [])) l0 (.lst [.ref e0])) [.ref e0] [[]]:=TpL.one ((Si.upd hl0) _ _ Sn)
  have g0:=Sn (H:=upd H e0 (.tup [])) (a:=l0) (o:=.lst [.ref e0])
  generalize upd (upd H e0 (.tup [])) l0 (.lst [.ref e0])=H0 at*
  refine ⟨_,rfl,t,_,2,_,rfl,rfl,Sy.of (s0 _ _ ht),rfl,lb,rfl,⟨_,Ss.of (s0 _ _ hb)⟩,?_⟩
  refine Jno (xs:=bs) (λi σ H'=>∃(Rw:S1) (vs:List V) (o3 o4 o5:Option V),σ= [some (.ref t),some (.int wt),some (.ref Rw),o3,o4,o5,none]/\H' Rw=some (.lst vs)/\TpL H' vs (rnS S wt i)/\Si H H') ⟨l0,[.ref e0],_,_,_,rfl,g0,tp0,s0⟩ (λi σ H' _ ⟨_,_,_,_,_,_,_,_,sm⟩=>Ss.of (sm _ _ hb)) ?_ ?_
  ·rintro i x σ H' hx ⟨Rw,vs,o3,o4,o5,rfl,hRw,tp,sm⟩
   obtain ⟨C,hC,t5,gv,rfl,ht5,gt⟩:=btl.get hx
   obtain ⟨B,hB,ek⟩:=Jx2 lk hC
   have e4:B.rn=C.rn:=congrArg (·.2.2.2.2.1) ek
   have hi:i < S.Bs.length:=(yi.mp hB).1
   obtain ⟨q0,q1,q2⟩:=hb6 B (yr hB)
   obtain ⟨r1,r2⟩:=Jtm (wet:=wt) hb6 i (by omega)
   have rle:=Snc (S:=S) hw.1 i (by omega)
   have eF:rnS S wt (i+1)=(rnS S wt i).flatMap (Jpf wt B.rn):=by rw [Jqf hB];exact Ycp q0 rle
   have nl:((rnS S wt i).flatMap (Jpf wt B.rn)).length<=1000:=by
    rw [<-eF]
    exact yac (Jtm (wet:=wt) hb6 (i+1) (by omega)).1 (yac (Nat.pow_le_pow_right b1 (by omega)) bp)
   rw [eF]
   have vl:=tp.1
   refine ⟨(show 0<=S6 by decide),λL hL=>?_⟩
   have sL:=Si.upd (o:=.lst []) hL
   refine ⟨_,rfl,Rw,rfl,⟨_,Ss.of (sL _ _ hRw)⟩,?_⟩
   refine Jno (xs:=vs) (λj σ H2=>∃(o5:Option V) (ws:List V),σ= [some (.ref t),some (.int wt),some (.ref Rw),some (.ref t5),some (.ref L),o5,none]/\H2 L=some (.lst ws)/\TpL H2 ws (((rnS S wt i).take j).flatMap (Jpf wt B.rn))/\Si H' H2) ⟨_,[],rfl,Sn,.nil,sL⟩ (λj σ H2 _ ⟨_,_,_,_,_,s2⟩=>Ss.of (s2 _ _ hRw)) ?_ ?_
   ·rintro j y σ H2 hy ⟨o5,ws,rfl,hLs,tw,s2⟩
    obtain ⟨r,er,q,rfl,hq⟩:=tp.at hy
    have r6:=r2 r (yr er)
    have rs:=rle r (yr er)
    have rp:=r6.pos
    have wl:=tw.1
    have wl2:=Yaq (f:=Jpf wt B.rn) (rnS S wt i) j
    have s02:=sm.trans s2
    refine ⟨_,rfl,.inl ⟨rfl,_,Ss.of hLs⟩,_,rfl,t5,_,4,_,rfl,rfl,Sy.of (s02 _ _ ht5),rfl,_,rfl,_,rfl,q,r,rfl,.inr (Sy.of (s2 _ _ hq)),r6.sml (by omega),_,_,rfl,rfl,_,_,rfl,_,_,rfl,rfl,_,rfl,?_,?_,λD hD=>?_⟩
    ·split <;> omega
    ·split <;> omega
    rw [<-e4]
    have fl:(Jpf wt B.rn r).length<=7:=by
     unfold Jpf
     rw [ye,Jnj]
     split <;> omega
    refine Jpe TpR (Jpf wt B.rn r) (TpR.mn D) hD (by unfold Jpf;rw [ye,Jnj]) (by have:(Jpf wt B.rn r).length=((if wt - r.sum < B.rn then wt - r.sum else B.rn)+1).toNat:=by {unfold Jpf;rw [ye,Jnj]};omega) ?_ ?_
    ·intro m y H3 Q' hy sm3 _ k'
     have hm:=(yi.mp hy).1
     unfold Jpf at hy hm
     rw [ye,Jnj] at hm
     rw [yj] at hy
     unfold rgI at hy
     rw [yj,ybm hm] at hy
     cases hy
     refine ⟨_,rfl,_,rfl,(show 1<=S6 by decide),λp1 hp1=>?_⟩
     have sp:=Si.upd (o:=.tup [V.int (0+(m:Int))]) hp1
     refine ⟨q,p1,_,_,rfl,rfl,sp _ _ (sm3 _ _ (s2 _ _ hq)),Sn,Jmw _ (by rw [ye,r6.1];show _+1<=2000;omega),λz H4 s4' hz=>k' _ _ (sp.trans s4') ⟨z,rfl,?_⟩⟩
     rw [hz,yag,Int.zero_add]
     rfl
    ·intro ys H3 s3 hD3 ty
     have yl:=ty.1
     have hL3:=s3 _ _ hLs
     refine ⟨L,D,ws,ys,rfl,rfl,hL3,hD3,Jmw _ (by omega),_,ws++ys,rfl,Sn,?_,λc u e=>?_⟩
     ·rw [yy,er,ycu]
      refine Sa2.on (TpR.mn L) (OnD.grow hL3) (Sa2.append (Sa2.on (TpR.mn L) (OnD.same s3) tw) ?_)
      show Sa2 TpR _ ys (List.flatMap _ [r])
      rw [List.flatMap_singleton]
      exact ty
     ·rw [Sw (Jm1 e hL)]
      exact s3 _ _ (s2 _ _ e)
   ·rintro σ H2 ⟨o5,ws,rfl,hLs,tw,s2⟩
    rw [yae (by omega)] at tw
    exact ⟨_,rfl,L,ws,_,_,_,rfl,hLs,tw,sm.trans s2⟩
  rintro σ H2 ⟨Rw,vs,o3,o4,o5,rfl,hRw,tp,s2⟩
  rw [bll,<-ll] at tp
  obtain ⟨r1,r2⟩:=Jtm (wet:=wt) hb6 S.Bs.length (yg _)
  have sr:Sml (R.Bs.map (·.rn)):=by
   refine ⟨by rw [ye];omega,λn hn=>?_⟩
   obtain ⟨D,hD,rfl⟩:=yo.mp hn
   have:=(rg.Bs D hD).1.rn
   omega
  have er:S.Bs.map (·.rn)=R.Bs.map (·.rn):=Jyf lk λk=>k.2.2.2.2.1
  refine ⟨_,rfl,t,_,2,_,rfl,rfl,Sy.of (s2 _ _ ht),rfl,lb,rfl,⟨_,Ss.of (s2 _ _ hb)⟩,λD hD=>?_⟩
  refine Jug ((R.Bs.map (·.rn)).map V.int) hD (by simp [bll]) (by omega) (s2 _ _ hb) ?_ ?_
  ·intro i x y H' Q' hx hy sm k'
   obtain ⟨C,hC,t5,gv,rfl,ht5,gt⟩:=btl.get hx
   rw [yj,yj,hC] at hy
   cases hy
   exact ⟨_,rfl,t5,_,4,_,rfl,rfl,Sy.of (sm _ _ (s2 _ _ ht5)),rfl,k' _ (Si.refl _)⟩
  intro H3 s3 hD3
  have s03:=s2.trans s3
  refine ⟨D,_,rfl,.inl (Ss.of hD3),sr,_,rfl,_,rfl,t,_,1,_,rfl,rfl,Sy.of (s03 _ _ ht),rfl,_,_,rfl,rfl,_,rfl,t,_,0,_,rfl,rfl,Sy.of (s03 _ _ ht),rfl,_,_,rfl,rfl,_,_,rfl,?_⟩
  refine ⟨_,rfl,Rw,rfl,⟨_,Ss.of (s3 _ _ hRw)⟩,λD2 hD2=>?_⟩
  have tp3:=TpL.on (λq xs e=>s3 _ _ e) tp
  have vl:=tp3.1
  refine Jso (K:=K) TpR _ (λr=>decide ((if wt+R.g - R.c < (R.Bs.map (·.rn)).sum then wt+R.g - R.c else (R.Bs.map (·.rn)).sum)<=r.sum)) (TpR.mn D2) hD2 tp3 (by omega) (s3 _ _ hRw) ?_ ?_
  ·rintro j y r H4 Q' er ⟨q,rfl,hq⟩ k'
   exact ⟨_,rfl,q,r,rfl,.inr (Sy.of hq),(r2 r (yr er)).sml (by omega),_,rfl,_,_,rfl,rfl,_,rfl,k'⟩
  ·intro ys H4 s4' hDs ty
   have h0:H D2=none:=by
    cases e:H D2 with
    |none=>rfl
    |some u=>rw [s03 _ _ e] at hD2;cases hD2
   have ef:(rnS S wt S.Bs.length).filter (λr=>decide ((if wt+R.g - R.c < (R.Bs.map (·.rn)).sum then wt+R.g - R.c else (R.Bs.map (·.rn)).sum)<=r.sum))=rnL S wt:=by
    unfold rnL
    refine List.filter_congr λr hr=>?_
    have rp:=(r2 r hr).pos
    have rsum:0<=(R.Bs.map (·.rn)).sum:=(Jxq (b:=6) (by decide) _ λn hn=>by
     obtain ⟨D,hD,rfl⟩:=yo.mp hn
     exact (rg.Bs D hD).1.rn).1
    have q:((if wt+R.g - R.c < (R.Bs.map (·.rn)).sum then wt+R.g - R.c else (R.Bs.map (·.rn)).sum)<=r.sum)↔(Jrb S wt<=r.sum):=by
     unfold Jrb
     rw [er,lk.c,lk.g]
     generalize (R.Bs.map (·.rn)).sum=m at*
     split <;> split <;> split <;> omega
    by_cases c:Jrb S wt<=r.sum
    ·rw [decide_eq_true c,decide_eq_true (q.mpr c)]
    ·rw [decide_eq_false c,decide_eq_false λz=>c (q.mp z)]
   rw [ef] at ty
   exact k D2 ys H4 h0 (s03.trans s4') hDs ty
theorem Ybu {R:Riv} {l:List (Int×Int)} (h0:∀p∈l,0<=p.1) (nd:(l.map (·.1)).Nodup) {i:Nat} {B:Bsn} (e:R.Bs[i]?=some B):(∃v,Jop (kvI l) (yn (i:Int))=some (.int v)/\(Jnt R (some l))[i]?=some [v])\/(Jop (kvI l) (yn (i:Int))=none/\(Jnt R (some l))[i]?=some (rgI B.n)):=by
 have go:∀(l:List (Int×Int)) (rs:List (List Int)) (r:List Int),(∀p∈l,0<=p.1)->(l.map (·.1)).Nodup->rs[i]?=some r->(∃v,Jop (kvI l) (yn (i:Int))=some (.int v)/\(l.foldl (λrs p=>rs.set p.1.toNat [p.2]) rs)[i]?=some [v])\/(Jop (kvI l) (yn (i:Int))=none/\(l.foldl (λrs p=>rs.set p.1.toNat [p.2]) rs)[i]?=some r):=by
  intro l
  induction l with
  |nil=>exact λrs r _ _ e=>.inr ⟨rfl,e⟩
  |cons p l ih=>
   intro rs r hp nd e
   rw [yak,ybh] at nd
   have p0:=hp p yah
   have hi:i < rs.length:=(yi.mp e).1
   by_cases c:(i:Int)=p.1
   ·have e1:Jop (kvI (p::l)) (yn (i:Int))=some (.int p.2):=by
     unfold Jop kvI
     rw [yak,List.find?_cons,decide_eq_true (show ((yn p.1,V.int p.2):Key×V).1=yn (i:Int) by rw [c])]
     rfl
    refine .inl ⟨p.2,e1,?_⟩
    rcases ih (rs.set p.1.toNat [p.2]) [p.2] (λq hq=>hp q (yaa _ hq)) nd.2 (by rw [ycs,if_pos (by omega),if_pos (by omega)]) with ⟨v,q1,_⟩|⟨_,q2⟩
    ·exfalso
     have q:=Ys (i:Int) l
     rw [q1,decide_eq_false (by rw [c];exact nd.1)] at q
     cases q
    ·exact q2
   ·have e1:Jop (kvI (p::l)) (yn (i:Int))=Jop (kvI l) (yn (i:Int)):=by
     unfold Jop kvI
     rw [yak,List.find?_cons,decide_eq_false (show ¬((yn p.1,V.int p.2):Key×V).1=yn (i:Int) from λz=>c (yn.inj z).symm)]
    rw [e1]
    exact ih (rs.set p.1.toNat [p.2]) r (λq hq=>hp q (yaa _ hq)) nd.2 (by rw [ycs,if_neg (by omega)];exact e)
 exact go l (R.Bs.map λB=>rgI B.n) (rgI B.n) h0 nd (by rw [yj,e];rfl)
inductive Sns (vs:List V) (H:Hp) (Q:VK) (z3:XK):Prop where
 |mk (p:S1) (x y:V) (R:Jo4) (S:Riv) (l:List (Int×Int)) (_:vs= [x,y]) (_:Sfu p H x R) (_:Jr5 R) (_:Jua R S) (_:Yv S) (_:Six H y l) (_:SkT R l) (_:(∀B∈S.Bs,B.n<=4)) (_:∀(L:S1) (us:List V) (H':Hp),H L=none->Si H H'->H' L=some (.lst us)->CcL H' us (chL S (some l))->Q (.ref L) H')
theorem Sa0:Jm2 ["_law_told","_law_stuck_here","_law_found","_law_place","_law_one","_law_some","_law_longer","_law_settings","_law_every"] ["_law_told","_law_stuck_here"] (Jm0 (top 84)):=⟨rfl,rfl,rfl,by decide +kernel,rfl,by decide +kernel,by decide +kernel⟩
theorem Juu (T:Tx K mg a):So P w K mg base CX0 1 a.Jko a.Jkp ["_law_told","_law_stuck_here"] Sns:=by
 refine T.Ja8.fn.ok Sa0 (λvs H Q E h=>?_) (λcdv A outer s H vs Q E hr h=>?_)
 ·obtain ⟨p,x,y,R,S,l,rfl,_⟩:=h
  rfl
 ·obtain ⟨p,x,y,R,S,l,rfl,⟨t,lb,lt,bs,ts,rfl,ht,hb,btl,htt,ttl,nb,nt⟩,rg,lk,s4,dk,sk,n4',k⟩:=h
  have hu64:=Jqr hr
  refine ⟨?t,?B,?C⟩
  case B=>
   refine' Su ?O0 ?O1
   case O0=>exact (Jm7 (i:=2) Sa0.nd rfl (yf rfl) (Jmt (Sj (Jn1 Sl) Sl)))
   case O1=>
   refine' Su ?O2 ?O3
   case O2=>
    refine' Jn5 ?O4 ?O5 ?O6 ?O7 ?O8
    case O4=>exact PassesOwn.never
    case O5=>exact rfl
    case O6=>exact (Ju6 (by rfl) T.Jar (Sj (Jmc Jmh (pv 0) Sr (λ_ _=>rfl)) Sl))
    case O7=>exact (Jqe rfl (Jmb (Jm3 (i:=3) Sa0.nd rfl (yf rfl)) (Jmb (Jm3 (i:=4) Sa0.nd rfl (yf rfl)) Jnv)))
    case O8=>
    refine' Su ?O9 ?Oa
    case O9=>exact (Jm7 (i:=5) Sa0.nd rfl (yf rfl) (Jmf (Jnx rfl) (by rfl) T.Jav Jni (Sj (Jmf Jpa (by rfl) T.Jay Jq1 (Sj (Jm4 Jmd (by rfl) T.Jau Jnf (Sj (Jmc Jmh (Jmc Jmh (pv 4) Sr (λ_ _=>rfl)) Sr (λ_ _=>rfl)) Sl)) Sl)) Sl)))
    case Oa=>
    refine' Su ?Ob ?Oc
    case Ob=>
     refine' Jmr ?Od ?Oe ?Of
     case Od=>exact (Jmp (Jzo hu64) (pv 3) (pv 1) (by with_unfolding_all rfl))
     case Oe=>
      refine' Sx ?Og
      case Og=>exact (Jm7 (i:=5) Sa0.nd rfl (yf rfl) (Jmt (Sj (Yc7 hu64 (pv 1) (pv 3) (λ_ _=>rfl)) Sl)))
     case Of=>exact Jma
    case Oc=>
    refine' Su ?Oh ?Oi
    case Oh=>exact (Jm7 (i:=6) Sa0.nd rfl (yf rfl) (Jmt Sl))
    case Oi=>
    refine' Su ?Oj ?Ok
    case Oj=>
     refine' Jn5 ?Ol ?Om ?On ?Oo ?Op
     case Ol=>exact PassesOwn.never
     case Om=>exact rfl
     case On=>exact (Jml (pv 2))
     case Oo=>exact (Jm3 (i:=7) Sa0.nd rfl (yal rfl))
     case Op=>
     refine' Sx ?Oq
     case Oq=>exact (Jnd (Jps F.plainAttrs_list F.slot_list_extend F.type_list_extend Jpg (pv 6) (Sj (Jmj (N:=(["_law_setting","_law_settings"]:List Str)) (ini:=[none,some 7]) rfl (Jml (pv 5)) (λ_ _ _ _ _=>(Jm3 (i:=0) (by decide +kernel:(["_law_setting","_law_settings"]:List Str).Nodup) rfl (yf rfl))) (λ_ _ _ _ _=>Jmi) (λ_ _ _ _ _=>(Jm8 Ju5 (pv 1) (Jn1 (Sj (pv 0) Sl))))) Sl)))
    case Ok=>
    refine' Sx ?Or
    case Or=>exact (Jm7 (i:=2) Sa0.nd rfl (yf rfl) (pv 6))
   case O3=>
   refine' Su ?Os ?Ot
   case Os=>exact (Jm7 (i:=8) Sa0.nd rfl (yf rfl) (Jmt Sl))
   case Ot=>
   refine' Su ?Ou ?Ov
   case Ou=>
    refine' Jn5 ?Ow ?Ox ?Oy ?Oz ?U0
    case Ow=>exact PassesOwn.never
    case Ox=>exact rfl
    case Oy=>exact (Jml (pv 2))
    case Oz=>exact (Jm3 (i:=7) Sa0.nd rfl (yal rfl))
    case U0=>
    refine' Sx ?U1
    case U1=>exact (Jnd (Jps F.plainAttrs_list F.slot_list_extend F.type_list_extend Jpg (pv 8) (Sj (Jmj (N:=(["_law_town","_law_settings"]:List Str)) (ini:=[none,some 7]) rfl (Jml (Jm8 Juz (Jmt (Sj Joy Sl)) (Jmf (Jnx rfl) (by rfl) T.Jav Jni (Sj (Jmf Jpa (by rfl) T.Jay Jq1 (Sj (Jm4 Jmd (by rfl) T.Jau Jnf (Sj (Jmc Jmh (pv 0) Sr (λ_ _=>rfl)) Sl)) Sl)) Sl)))) (λ_ _ _ _ _=>(Jm3 (i:=0) (by decide +kernel:(["_law_town","_law_settings"]:List Str).Nodup) rfl (yf rfl))) (λ_ _ _ _ _=>Jmi) (λ_ _ _ _ _=>(Jn1 (Sj (pv 1) (Sj (pv 0) Sl))))) Sl)))
   case Ov=>
   refine' Sx ?U2
   case U2=>exact (Jm5 (pv 8))
  obtain ⟨d,rfl,rd⟩:=id dk
  have bll:=btl.len
  have ll:=Js0 lk
  have n4:=s4.n4
  have r4:=Jry S (some l) n4'
  have ln:=Jss S (some l)
  have l0:∀q∈l,0<=q.1:=λq hq=>(sk.2 q hq).1
  refine ⟨(show 0<=S6 by decide),λe0 he0=>⟨(show 1<=S6 by decide),λl0' hl0=>?_⟩⟩
  have s0:Si H (upd (upd H e0 (.tup [])) l0' (.lst [.ref e0])):=(Si.upd he0).trans (Si.upd hl0)
  have tp0:TpL (upd (upd H e0 (.tup [])) l0' (.lst [.ref e0])) [.ref e0] [[]]:=TpL.one ((Si.upd hl0) _ _ Sn)
  have g0:=Sn (H:=upd H e0 (.tup [])) (a:=l0') (o:=.lst [.ref e0])
  generalize upd (upd H e0 (.tup [])) l0' (.lst [.ref e0])=H0 at*
  refine ⟨_,rfl,t,_,2,_,rfl,rfl,Sy.of (s0 _ _ ht),rfl,lb,rfl,⟨_,Ss.of (s0 _ _ hb)⟩,?_⟩
  refine Jww (xs:=bs) (λi σ H'=>∃(Rw:S1) (vs:List V) (o3 o4 o5 o6 o7:Option V),σ= [some (.ref t),some (.ref d),some (.ref Rw),o3,o4,o5,o6,o7,none]/\H' Rw=some (.lst vs)/\TpL H' vs (rwN S (some l) i)/\Si H H') ⟨l0', [.ref e0],_,_,_,_,_,rfl,g0,tp0,s0⟩ (λi σ H' _ ⟨_,_,_,_,_,_,_,_,_,_,sm⟩=>Ss.of (sm _ _ hb)) ?_ ?_
  ·rintro i x σ H' Ta hx ⟨Rw,vs,o3,o4,o5,o6,o7,rfl,hRw,tp,sm⟩ hT
   obtain ⟨C,hC,t5,gv,rfl,ht5,gt⟩:=btl.get hx
   obtain ⟨B,hB,ek⟩:=Jx2 lk hC
   have hi:i < S.Bs.length:=(yi.mp hB).1
   have e5:B.n=nOf C.G:=congrArg (·.2.2.2.2.2) ek
   have hn4:=n4' B (yr hB)
   have sT:=Si.upd (o:=.tup [V.int i,.ref t5]) hT
   have smT:=sm.trans sT
   have h5:=smT _ _ ht5
   obtain ⟨tg,mg,eg,hm,nm,hg⟩:=gt
   subst eg
   have htg:∃g2,H tg=some (.tup ([.str C.G.kd,.ref mg]++g2)):=by
    rcases hg with ⟨_,q⟩|⟨j,m2,_,q,_⟩
    ·exact ⟨[],q⟩
    ·exact ⟨[.ref m2,.int j],q⟩
   obtain ⟨g2,htg⟩:=htg
   refine ⟨Ta,_,rfl,Sy.of Sn,rfl,_,_,rfl,_,_,rfl,rfl,?_⟩
   refine ⟨_,rfl,t5,_,5,_,rfl,rfl,Sy.of h5,rfl,tg,_,1,_,rfl,rfl,Sy.of (smT _ _ htg),Jsl (j:=1) rfl rfl,mg,_,rfl,.inl (Ss.of (smT _ _ hm)),_,rfl,λp1 hp1=>⟨p1,_,_,rfl,Sn,by omega,by omega,by omega,?_,λl2 hl2=>?_⟩⟩
   ·rw [ye,Jz4,<-e5]
    omega
   have er:((yav ((((G1 C.G).map V.int).length:Int) - 0).toNat).map λk:Nat=>V.int (0+k))=(rgI B.n).map V.int:=by
    unfold rgI
    rw [yaq,Int.sub_zero,yau,ye,Jz4,e5]
    exact yct λk _=>by simp
   rw [er]
   have s3:Si (upd H' Ta (.tup [V.int i,.ref t5])) (upd (upd (upd H' Ta (.tup [V.int i,.ref t5])) p1 (.rng 0 (((G1 C.G).map V.int).length:Int))) l2 (.lst ((rgI B.n).map V.int))):=(Si.upd hp1).trans (Si.upd hl2)
   have g3:=Sn (H:=upd (upd H' Ta (.tup [V.int i,.ref t5])) p1 (.rng 0 (((G1 C.G).map V.int).length:Int))) (a:=l2) (o:=.lst ((rgI B.n).map V.int))
   generalize upd (upd (upd H' Ta (.tup [V.int i,.ref t5])) p1 (.rng 0 (((G1 C.G).map V.int).length:Int))) l2 (.lst ((rgI B.n).map V.int))=H3 at*
   have sm3:=smT.trans s3
   obtain ⟨d',ed,rd3⟩:=dk.same sm3
   cases ed
   refine Jun (Jxm (λσ Hb=>∃(N:S1) (ns:List Int),σ= [some (.ref t),some (.ref d),some (.ref Rw),some (.int i),some (.ref t5),some (.ref N),o6,o7,none]/\Hb N=some (.lst (ns.map V.int))/\(Jnt S (some l))[i]?=some ns/\Si H3 Hb) (λM hM=>?_) ?_)
   ·rcases Ybu l0 sk.1 hB with ⟨v,v1,v2⟩|⟨v1,v2⟩
    ·refine ⟨_,rfl,_,rfl,d,_,rfl,.inl ⟨_,yn (i:Int),rd3,rfl,rfl⟩,_,rfl,ifT (by rw [v1];rfl) ?_⟩
     refine ⟨_,rfl,_,rfl,d,_,rfl,.inl ⟨_,yn (i:Int),rd3,rfl,v1.symm⟩,(show 1<=S6 by decide),λN hN=>hM _ _ ⟨N,[v],rfl,Sn,v2,Si.upd hN⟩⟩
    ·exact ⟨_,rfl,_,rfl,d,_,rfl,.inl ⟨_,yn (i:Int),rd3,rfl,rfl⟩,_,rfl,ifF (by rw [v1];rfl) (hM _ _ ⟨l2,_,rfl,g3,v2,Si.refl _⟩)⟩
   rintro σ H4 ⟨N,ns,rfl,hN4,ens,s34⟩
   have sm4:=sm3.trans s34
   have sR4:=(sT.trans s3).trans s34
   have rl:=r4 ns (yr ens)
   obtain ⟨b1,b2⟩:=Jyt (R:=S) (sk:=some l) r4 i (by omega)
   have b3:=yco b1 rl
   have b4:=Skt (i:=i) (by omega)
   have vl:=tp.1
   have tp4:=TpL.on (λq xs e=>sR4 _ _ e) tp
   have hRw4:=sR4 _ _ hRw
   rw [Jqg ens]
   refine ⟨(show 0<=S6 by decide),λL hL=>?_⟩
   have sL:=Si.upd (o:=.lst []) hL
   refine ⟨_,rfl,Rw,rfl,⟨_,Ss.of (sL _ _ hRw4)⟩,?_⟩
   refine Jno (xs:=vs) (λj σ H2=>∃(o7:Option V) (ws:List V),σ= [some (.ref t),some (.ref d),some (.ref Rw),some (.int i),some (.ref t5),some (.ref N),some (.ref L),o7,none]/\H2 L=some (.lst ws)/\TpL H2 ws (lgR ((rwN S (some l) i).take j) ns)/\Si H4 H2) ⟨_,[],rfl,Sn,.nil,sL⟩ (λj σ H2 _ ⟨_,_,_,_,_,s2⟩=>Ss.of (s2 _ _ hRw4)) ?_ ?_
   ·rintro j y σ H2 hy ⟨o7,ws,rfl,hLs,tw,s2⟩
    have hj:j < vs.length:=(yi.mp hy).1
    obtain ⟨r,er,q,rfl,hq⟩:=tp4.at hy
    have r100:=b2 r (yr er)
    have wl:ws.length+ns.length<=(rwN S (some l) i).length*ns.length:=by
     rw [tw.1,Jrz,yad,ycb (by omega)]
     have:=Nat.mul_le_mul_right ns.length (show j+1<=(rwN S (some l) i).length by omega)
     rw [Nat.succ_mul] at this
     exact this
    refine ⟨_,rfl,.inl ⟨rfl,_,Ss.of hLs⟩,_,rfl,N,rfl,⟨_,Ss.of (s2 _ _ hN4)⟩,λD hD=>?_⟩
    refine Jns (K:=K) (xs:=ns.map V.int) TpR (ns.map λn=>r++ [n]) (TpR.mn D) hD (by simp) (by rw [ye];omega) (s2 _ _ hN4) ?_ ?_
    ·intro j y e H3 Q' hy he s3' _ k'
     rw [yj] at hy he
     cases en:ns[j]? with
     |none=>rw [en] at hy;cases hy
     |some n=>
      rw [en] at hy he
      cases hy
      cases he
      refine ⟨_,rfl,_,rfl,(show 1<=S6 by decide),λp hp=>?_⟩
      have sp:=Si.upd (o:=.tup [V.int n]) hp
      refine ⟨q,p,_,_,rfl,rfl,sp _ _ (s3' _ _ (s2 _ _ hq)),Sn,Jmw _ (by rw [ye];show _+1<=2000;omega),λz H4 s4' hz=>k' _ _ (sp.trans s4') ⟨z,rfl,?_⟩⟩
      rw [hz,yag]
      rfl
    ·intro ys H3 s3' hDs ty
     have yl:=ty.1
     rw [ye] at yl
     have hL2:=s3' _ _ hLs
     refine ⟨L,D,ws,ys,rfl,rfl,hL2,hDs,Jmw _ (by omega),_,ws++ys,rfl,Sn,?_,λc u e=>?_⟩
     ·rw [Jyd er]
      exact Sa2.on (TpR.mn L) (OnD.grow hL2) (Sa2.append (Sa2.on (TpR.mn L) (OnD.same s3') tw) ty)
     ·rw [Sw (Jm1 e hL)]
      exact s3' _ _ (s2 _ _ e)
   ·rintro σ H2 ⟨o7,ws,rfl,hLs,tw,s2⟩
    rw [yae (by omega)] at tw
    exact ⟨_,rfl,L,ws,_,_,_,_,_,rfl,hLs,tw,sm4.trans s2⟩
  rintro σ H2 ⟨Rw,vs,o3,o4,o5,o6,o7,rfl,hRw,tp,s2⟩
  rw [bll,<-ll] at tp
  have vl:=tp.1
  obtain ⟨b1,b2⟩:=Jyt (R:=S) (sk:=some l) r4 S.Bs.length (by omega)
  have b5:=Sjo n4
  have tll:=ttl.len
  have tl2:S.Ts.length=R.Ts.length:=by have:=congrArg List.length lk.Ts;simpa using this
  have t3:=rg.tn
  have twl:(twL S).length<=4:=by
   unfold twL
   rw [yaf,ye,Jnj]
   omega
  refine ⟨(show 0<=S6 by decide),λL hL=>?_⟩
  have sL:=Si.upd (o:=.lst []) hL
  refine ⟨_,rfl,Rw,rfl,⟨_,Ss.of (sL _ _ hRw)⟩,?_⟩
  refine Jno (xs:=vs) (λi σ H'=>∃(o7:Option V) (ws:List V),σ= [some (.ref t),some (.ref d),some (.ref Rw),o3,o4,o5,o6,o7,some (.ref L)]/\H' L=some (.lst ws)/\CcL H' ws (((rwN S (some l) S.Bs.length).take i).flatMap λr=>(twL S).map λt=>(r,t))/\ws.length<=4*i/\Si H2 H') ⟨_,[],rfl,Sn,.nil,yg 0,sL⟩ (λi σ H' _ ⟨_,_,_,_,_,_,sm⟩=>Ss.of (sm _ _ hRw)) ?_ ?_
  ·rintro i y σ H' hy ⟨o7,ws,rfl,hLs,cc,wl,sm⟩
   have hi:i < vs.length:=(yi.mp hy).1
   obtain ⟨r,err,q,rfl,hq⟩:=tp.at hy
   have s02:=s2.trans sm
   refine ⟨_,rfl,.inl ⟨rfl,_,Ss.of hLs⟩,(show 1<=S6 by decide),λa1 ha1=>?_⟩
   have s3:=Si.upd (o:=.lst [V.non]) ha1
   refine ⟨_,rfl,t,_,3,_,rfl,rfl,Sy.of (s3 _ _ (s02 _ _ ht)),rfl,lt,_,rfl,.inl (Ss.of (s3 _ _ (s02 _ _ htt))),_,rfl,λp hp=>⟨p,_,_,rfl,Sn,by omega,by omega,by omega,by omega,λl2 hl2=>?_⟩⟩
   have er:((yav ((ts.length:Int) - 0).toNat).map λk:Nat=>V.int (0+k))=((rgI S.Ts.length).map some).map twV:=by
    unfold rgI
    rw [yaq,yaq,Int.sub_zero,yau,tll,tl2]
    exact yct λk _=>by simp [twV]
   rw [er]
   have s4':=Si.upd (o:=.rng 0 (ts.length:Int)) hp
   have s5:=Si.upd (o:=.lst (((rgI S.Ts.length).map some).map twV)) hl2
   have tz: [V.non].length+(((rgI S.Ts.length).map some).map twV).length<=S6:=Jmw _ (by rw [ye,ye,Jnj];show 1+_<=2000;omega)
   refine ⟨a1,l2,_,_,rfl,rfl,s5 _ _ (s4' _ _ Sn),Sn,tz,λTW hTW=>?_⟩
   have e6: [V.non]++((rgI S.Ts.length).map some).map twV=(twL S).map twV:=rfl
   rw [e6]
   have s36:=((s3.trans s4').trans s5).trans (Si.upd (o:=.lst ((twL S).map twV)) hTW)
   have g6:=Sn (H:=upd (upd (upd H' a1 (.lst [V.non])) p (.rng 0 (ts.length:Int))) l2 (.lst (((rgI S.Ts.length).map some).map twV))) (a:=TW) (o:=.lst ((twL S).map twV))
   generalize upd (upd (upd (upd H' a1 (.lst [V.non])) p (.rng 0 (ts.length:Int))) l2 (.lst (((rgI S.Ts.length).map some).map twV))) TW (.lst ((twL S).map twV))=H6 at*
   refine ⟨TW,rfl,⟨_,Ss.of g6⟩,λD hD=>?_⟩
   refine Jns (K:=K) (xs:=(twL S).map twV) CcR ((twL S).map λt=>(r,t)) (CcR.mn D) hD (by simp) (by rw [ye];omega) g6 ?_ ?_
   ·intro j z e H7 Q' hz he s7 _ k'
    rw [yj] at hz he
    cases en:(twL S)[j]? with
    |none=>rw [en] at hz;cases hz
    |some n=>
     rw [en] at hz he
     cases hz
     cases he
     refine ⟨_,rfl,_,rfl,(show 2<=S6 by decide),λp hp=>?_⟩
     have sp:=Si.upd (o:=.tup [.ref q,twV n]) hp
     exact k' _ _ sp ⟨p,q,rfl,Sn,sp _ _ (s7 _ _ (s36 _ _ (sm _ _ hq)))⟩
   ·intro ys H7 s7 hDs ty
    have yl:=ty.1
    rw [ye] at yl
    have s67:=s36.trans s7
    have hL2:=s67 _ _ hLs
    refine ⟨L,D,ws,ys,rfl,rfl,hL2,hDs,Jmw _ (by omega),_,ws++ys,rfl,Sn,?_,by rw [yab];omega,λc u e=>?_⟩
    ·rw [yy,err,ycu]
     refine Sa2.on (CcR.mn L) (OnD.grow hL2) (Sa2.append (Sa2.on (CcR.mn L) (OnD.same s67) cc) ?_)
     show CcL _ ys (List.flatMap _ [r])
     rw [List.flatMap_singleton]
     exact ty
    ·rw [Sw (Jm1 e hL)]
     exact s67 _ _ (sm _ _ e)
  ·rintro σ H' ⟨o7,ws,rfl,hLs,cc,wl,sm⟩
   rw [vl,ybl] at cc
   have h0:H L=none:=by
    cases e:H L with
    |none=>rfl
    |some u=>rw [s2 _ _ e] at hL;cases hL
   exact ⟨_,rfl,k L ws H' h0 (s2.trans sm) hLs cc⟩
theorem Sjk {i:Int} (h:i.natAbs<=10^40):i.natAbs.log2 < 1920:=by
 by_cases c:i.natAbs=0
 ·rw [c]
  decide
 ·exact (Nat.log2_lt c).mpr (Nat.lt_of_le_of_lt h (by decide +kernel))
theorem Jy8 {K:Sd} {H:Hp}:∀ns:List Int,Sar K H (ns.map V.int) (ns.map PyData.int):=by
 intro ns
 induction ns with
 |nil=>exact .nil
 |cons n ns ih=>exact .cons (.int n) ih
theorem Jva {K:Sd} {H H':Hp} {a:S1} {xs:List V} (s:Si H H') (h:Ss K H a xs):Ss K H' a xs:=by
 rcases h with (h|⟨o,h⟩)|h
 ·exact .inl (.inl (s _ _ h))
 ·exact .inl (.inr ⟨o,s _ _ h⟩)
 ·exact .inr h
theorem Yd8 {K:Sd} {H H':Hp} {a:S1} {xs:List V} (s:Si H H') (h:Sy K H a xs):Sy K H' a xs:=by
 rcases h with (h|⟨o,h⟩)|h
 ·exact .inl (.inl (s _ _ h))
 ·exact .inl (.inr ⟨o,s _ _ h⟩)
 ·exact .inr h
mutual
theorem Sbg.same {K:Sd} {H H':Hp} (s:Si H H'):∀{x} {d},Sbg K H x d->Sbg K H' x d
 |_,_,.non=>.non
 |_,_,.bl b=>.bl b
 |_,_,.int i=>.int i
 |_,_,.str z=>.str z
 |_,_,.lst hq hd=>.lst (Jva s hq) (Sar.same s hd)
 |_,_,.tup hq hd=>.tup (Yd8 s hq) (Sar.same s hd)
theorem Sar.same {K:Sd} {H H':Hp} (s:Si H H'):∀{xs:List V} {ds:List PyData},Sar K H xs ds->Sar K H' xs ds
 |_,_,.nil=>.nil
 |_,_,.cons h t=>.cons (Sbg.same s h) (Sar.same s t)
end
theorem Sa2.dat {α:Type} {K:Sd} {H:Hp} {Rel:Hp->V->α->Prop} {f:α->PyData} (h:∀v a,Rel H v a->Sbg K H v (f a)):∀{as:List α} {vs:List V},Sa2 Rel H vs as->Sar K H vs (as.map f):=by
 intro as
 induction as with
 |nil=>
  intro vs r
  rw [ycx (show vs.length=0 from r.1)]
  exact .nil
 |cons a as ih=>
  intro vs r
  cases vs with
  |nil=>exact nomatch r.1
  |cons v vs=>exact .cons (h v a (r.2 0 v a rfl rfl)) (ih ⟨Nat.succ.inj r.1,λi u b e1 e2=>r.2 (i+1) u b e1 e2⟩)
theorem Jx0 {α:Type} {f:α->PyData} {t:Nat}:∀{as:List α},(∀a∈as,PyData.canLay0 (f a)=true/\PyData.depth (f a)<=t)->PyData.canLayAll0 (as.map f)=true/\PyData.depthAll (as.map f)<=t:=by
 intro as
 induction as with
 |nil=>exact λ_=>⟨rfl,by simp [PyData.depthAll]⟩
 |cons a as ih=>
  intro h
  have i:=ih λx hx=>h x (yaa _ hx)
  have q:=h a yah
  refine ⟨by simp only [yak,PyData.canLayAll0,q.1,i.1,Bool.and_self],?_⟩
  simp only [yak,PyData.depthAll]
  omega
theorem Jul (l:List Int):PyData.canLay0 (.tuple (l.map PyData.int))=true/\PyData.depth (.tuple (l.map PyData.int))<=1:=by
 have q:=Jx0 (f:=PyData.int) (t:=0) (as:=l) λa _=>⟨rfl,by simp [PyData.depth]⟩
 exact ⟨by simp only [PyData.canLay0];exact q.1,by simp only [PyData.depth];omega⟩
theorem Jt6 {α:Type} {f:α->PyData} {as:List α} (h:∀a∈as,PyData.canLay0 (f a)=true/\PyData.depth (f a)<=2):SeqAt.shaped (.list (as.map f))=true/\PyData.eqv (.list (as.map f)) (.list (as.map f))=true:=by
 have q:=Jx0 (as:=as) h
 have c:PyData.canLay0 (.list (as.map f))=true:=by simp only [PyData.canLay0];exact q.1
 refine ⟨?_,SeqAt.eqv_refl _ c⟩
 simp only [SeqAt.shaped,c,Bool.true_and,PyData.depth]
 exact decide_eq_true (by omega)
def tpD (r:List Int):PyData:=.tuple (r.map PyData.int)
def twD:Option Int->PyData
 |some n=>.int n
 |none=>.none
def ccD (c:List Int×Option Int):PyData:=.tuple [tpD c.1,twD c.2]
theorem TpR.dat {K:Sd} {H:Hp} {v:V} {r:List Int} (h:TpR H v r):Sbg K H v (tpD r):=by
 obtain ⟨q,rfl,hq⟩:=h
 exact .tup (Sy.of hq) (Jy8 r)
theorem CcR.dat {K:Sd} {H:Hp} {v:V} {c:List Int×Option Int} (h:CcR H v c):Sbg K H v (ccD c):=by
 obtain ⟨t,q,rfl,h1,h2⟩:=h
 refine .tup (Sy.of h1) (.cons (.tup (Sy.of h2) (Jy8 _)) (.cons ?_ .nil))
 cases c.2 with
 |none=>exact .non
 |some n=>exact .int n
theorem Sm5 (c:List Int×Option Int):PyData.canLay0 (ccD c)=true/\PyData.depth (ccD c)<=2:=by
 have q:=Jul c.1
 have e:PyData.canLay0 (twD c.2)=true/\PyData.depth (twD c.2)<=0:=by
  cases c.2 with
  |none=>exact ⟨rfl,by simp [twD,PyData.depth]⟩
  |some n=>exact ⟨rfl,by simp [twD,PyData.depth]⟩
 have l:=Jx0 (f:=id) (t:=1) (as:=[tpD c.1,twD c.2]) (all_cons q (all_cons ⟨e.1,by have:=e.2;show PyData.depth (twD c.2)<=1;omega⟩ Jrq))
 rw [List.map_id] at l
 exact ⟨by unfold ccD;simp only [PyData.canLay0];exact l.1,by unfold ccD;simp only [PyData.depth];omega⟩
theorem Sl4 {r:List Int} (h4:r.length<=4) (h:∀n∈r,0<=n/\n<=1000):Rp (tpD r) 4 1:=by
 have q:=Rp.tup (b:=0) (t:=0) (ds:=r.map PyData.int) λd hd=>by
  obtain ⟨n,hn,rfl⟩:=yo.mp hd
  have:=h n hn
  exact Rp.int (Sjk (by omega))
 exact q.mono (by rw [ye];omega) (by decide)
theorem tw_rp {t:Option Int} (h:∀n,t=some n->0<=n/\n<=1000):Rp (twD t) 0 0:=by
 cases t with
 |none=>exact Rp.non
 |some n=>
  have:=h n rfl
  exact Rp.int (Sjk (by omega))
theorem Sr4 {c:List Int×Option Int} (h4:c.1.length<=4) (h:∀n∈c.1,0<=n/\n<=1000) (ht:∀n,c.2=some n->0<=n/\n<=1000):Rp (ccD c) 6 2:=by
 have q1:=Sl4 h4 h
 have q2:=tw_rp ht
 have q:=(Rp.tup (b:=4) (t:=1) (ds:=[tpD c.1,twD c.2]) (all_cons q1 (all_cons (q2.mono (by decide) (by decide)) Jrq)))
 refine ⟨q.sh,q.lv,?_,q.dp⟩
 have:=q1.bk
 have:=q2.bk
 simp only [ccD,PyData.bulk,PyData.bulkAll] at*
 omega
theorem Ycr {α:Type} {f:α->PyData} {b t:Nat} {as:List α} (h:∀a∈as,Rp (f a) b t):Rp (.list (as.map f)) ((b+1)*as.length) (t+1):=by
 have q:=Rp.lst (ds:=as.map f) λd hd=>by
  obtain ⟨a,ha,rfl⟩:=yo.mp hd
  exact h a ha
 rw [ye] at q
 exact q
theorem Ydb {rs:List Int} {i:Nat} {n:Int} (h:rs[i]?=some n):(rs.take (i+1)).sum=(rs.take i).sum+n:=by
 rw [yy,h,List.sum_append]
 simp
theorem Yco {S:Riv} {wt:Int} (w0:0<=wt) (h0:∀B∈S.Bs,0<=B.rn):∀i,i<=S.Bs.length->∃r∈rnS S wt i,r.sum=if wt < ((S.Bs.map (·.rn)).take i).sum then wt else ((S.Bs.map (·.rn)).take i).sum:=by
 intro i
 induction i with
 |zero=>exact λ_=>⟨[],yan.mpr rfl,by rw [List.take_zero];exact (if_neg (by simp;omega)).symm⟩
 |succ i ih=>
  intro hi
  obtain ⟨r,hr,e⟩:=ih (by omega)
  have hB:S.Bs[i]?=some S.Bs[i]:=yh (by omega)
  have b0:=h0 _ (yat (by omega:i < S.Bs.length))
  generalize S.Bs[i]=B at hB b0
  rw [Jqf hB,Ydb (n:=B.rn) (by rw [yj,hB];rfl)]
  generalize ((S.Bs.map (·.rn)).take i).sum=u at e⊢
  have hn:∃n:Int,0<=n/\n<=B.rn/\r.sum+n=if wt < u+B.rn then wt else u+B.rn:=by
   refine ⟨(if wt < u+B.rn then wt else u+B.rn) - r.sum,?_,?_,by omega⟩
   ·rw [e]
    split <;> split <;> omega
   ·rw [e]
    split <;> split <;> omega
  obtain ⟨n,n0,n1,en⟩:=hn
  have es:(r++ [n]).sum=r.sum+n:=by rw [List.sum_append];simp
  refine ⟨r++ [n],ybp.mpr ⟨ycp.mpr ⟨r,hr,yo.mpr ⟨n,?_,rfl⟩⟩,decide_eq_true ?_⟩,es.trans en⟩
  ·unfold rgI
   exact yo.mpr ⟨n.toNat,ycc.mpr (by omega),by omega⟩
  ·rw [es,en]
   split <;> omega
theorem Ycn {S:Riv} {wt:Int} (w0:0<=wt) (g:S.g<=S.c) (h0:∀B∈S.Bs,0<=B.rn):1<=(rnL S wt).length:=by
 obtain ⟨r,hr,e⟩:=Yco w0 h0 S.Bs.length (yg _)
 rw [yae (by rw [ye];exact yg _)] at e
 refine List.length_pos_of_mem (ybp.mpr ⟨hr,decide_eq_true ?_⟩:r∈rnL S wt)
 rw [e]
 unfold Jrb
 split <;> split <;> split <;> omega
structure Jz5 (S:Riv) (sk:Option (List (Int×Int))):Prop where
 cl:(chL S sk).length<=1024
 cc:∀c∈chL S sk,Rp (ccD c) 6 2
 rl:∀wt:Int,0<=wt->wt<=S.c->1<=(rnL S wt).length/\(rnL S wt).length<=1000/\∀r∈rnL S wt,Rp (tpD r) 4 1
 c12:S.c<=12
inductive Ss5 (a:Ad) (vs:List V) (H:Hp) (Q:VK) (z3:XK):Prop where
 |mk (s cl rl:S1) (S:Riv) (sk:Option (List (Int×Int))) (us ws:List V) (_:vs= [.ref s,.ref cl,.ref rl]) (_:Sfv a H s S sk) (_:H cl=some (.lst us)) (_:CcL H us (chL S sk)) (_:H rl=some (.lst ws)) (_:Sa2 (FlV NoB) H ws (flL S)) (_:Jz5 S sk) (_:∀H',Si H H'->Q (.bl true) H')
theorem Sbe:Jm2 ["_law_some","_law_choices_here","_law_rains_here","_law_found","_law_wet","_law_due"] ["_law_some","_law_choices_here","_law_rains_here"] (Jm0 (top 87)):=⟨rfl,rfl,rfl,by decide +kernel,rfl,by decide +kernel,by decide +kernel⟩
theorem Jxd (T:Tx K mg a):So P w K mg base CX0 4 a.Jku a.Jkv ["_law_some","_law_choices_here","_law_rains_here"] (Ss5 a):=by
 have Sd4:=Jq9 (P:=P) (w:=w) (base:=base) T
 have Sb9:=Jou (P:=P) (w:=w) (base:=base) T
 refine T.Jab.fn.ok Sbe (λvs H Q E h=>?_) (λcdv A outer s H vs Q E hr h=>?_)
 ·obtain ⟨s,cl,rl,S,sk,us,ws,rfl,_⟩:=h
  rfl
 ·obtain ⟨s,cl,rl,S,sk,us,ws,rfl,sg,hcl,cc,hrl,fl,ok,k⟩:=h
  have hu64:=Jqr hr
  have hgd:=hr.gd
  refine ⟨?t,?B,?C⟩
  case B=>
   refine' Su ?O0 ?O1
   case O0=>exact (Jm7 (i:=3) Sbe.nd rfl (yf rfl) (Jyo (pv 0) T.Jdt T.Jdx Sd4 (hr.mono (by decide)) T.Jcw.bd .nil Job))
   case O1=>
   refine' Su ?O2 ?O3
   case O2=>
    refine' Jmr ?O4 ?O5 ?O6
    case O4=>exact (PW.pt (Jtl (Jmu (Jmx (Jm4 Jo8 (by rfl) T.Jat Jmk (Sj (pv 3) (Sj (Jo0 (v:=.ty "list") (by rfl) T.Jav Jni rfl) Sl))))) (Jtl (Jmp (Jzr hu64) (pv 3) (pv 1) (Jmy _)) (Jt1 (Jmp Skr (Jm4 (Jod hgd hu64) (by rfl) T.Jaz Jqp (Sj (pv 3) Sl)) (Jm4 (Jod hgd hu64) (by rfl) T.Jaz Jqp (Sj (pv 1) Sl)) (Jmy _))))))
    case O5=>
     refine' Sx ?O7
     case O7=>exact (Jm5 Jo6)
    case O6=>exact Jma
   case O3=>
   refine' Su ?O8 ?O9
   case O8=>exact (Jnd (Smz F.plainAttrs_list F.slot_list_clear F.type_list_clear Yby (pv 3)))
   case O9=>
   refine' Su ?Oa ?Ob
   case Oa=>
    refine' Jn5 ?Oc ?Od ?Oe ?Of ?Og
    case Oc=>exact PassesOwn.never
    case Od=>exact rfl
    case Oe=>exact (Ju6 (by rfl) T.Jar (Sj (pv 2) Sl))
    case Of=>exact (Jqe rfl (Jmb (Jm3 (i:=4) Sbe.nd rfl (yf rfl)) (Jmb (Jm3 (i:=5) Sbe.nd rfl (yf rfl)) Jnv)))
    case Og=>
    refine' Su ?Oh ?Oi
    case Oh=>exact (Jm7 (i:=3) Sbe.nd rfl (yf rfl) (Jxh (pv 0) T.Jdt T.Jdy Sb9.calm (hr.mono (by decide)) T.Jcx.bd .nil Job (Sj (pv 4) Sl)))
    case Oi=>
    refine' Su ?Oj ?Ok
    case Oj=>
     refine' Jmr ?Ol ?Om ?On
     case Ol=>exact (PW.pt (Jtl (Jmu (Jmx (Jm4 Jo8 (by rfl) T.Jat Jmk (Sj (pv 3) (Sj (Jo0 (v:=.ty "list") (by rfl) T.Jav Jni rfl) Sl))))) (Jtl (Jmp (Jzr hu64) (pv 3) (pv 5) (Jmy _)) (Jt1 (Jmp Skr (Jm4 (Jod hgd hu64) (by rfl) T.Jaz Jqp (Sj (pv 3) Sl)) (Jm4 (Jod hgd hu64) (by rfl) T.Jaz Jqp (Sj (pv 5) Sl)) (Jmy _))))))
     case Om=>
      refine' Sx ?Oo
      case Oo=>exact (Jm5 Jo6)
     case On=>exact Jma
    case Ok=>
    refine' Sx ?Op
    case Op=>exact (Jnd (Jps F.plainAttrs_list F.slot_list_append F.type_list_append Jor (pv 3) (Sj (Jps F.plainAttrs_list F.slot_list_pop F.type_list_pop Yc0 (pv 3) (Sj Sr Sl)) Sl)))
   case Ob=>
   refine' Sx ?Oq
   case Oq=>exact (Jm5 Jo6)
  obtain ⟨dx,o,rw_,L0,pl,F,en,dxr,hf,fr,us',vs',h1,h2,h3,h4,h5,h6,h7⟩:=id sg
  refine ⟨_,rfl,s,dx,_,rfl,h1,rfl,s,S,sk,rfl,sg,λL ys H1 hL s1 hL1 c1=>?_⟩
  have dc1:Sbg K H1 (.ref L) (.list ((chL S sk).map ccD)):=.lst (Ss.of hL1) (Sa2.dat (λv c=>CcR.dat) c1)
  have dc2:Sbg K H1 (.ref cl) (.list ((chL S sk).map ccD)):=.lst (Ss.of (s1 _ _ hcl)) (Sa2.dat (λv c=>CcR.dat) (CcL.on (λq xs e=>s1 _ _ e) cc))
  have shc:=Jt6 (f:=ccD) (as:=chL S sk) λc _=>Sm5 c
  have rpc:=(Ycr ok.cc).mono (Nat.mul_le_mul_left _ ok.cl) (show 3<=60 by decide)
  refine ⟨_,rfl,_,_,_,_,true,rfl,rfl,.of (.lst hL1),rfl,_,rfl,Jn9 ?_⟩
  refine ⟨_,rfl,_,rfl,_,_,dc1,dc2,shc.1,shc.1,_,rfl,ifF (by rw [shc.2];rfl) ?_⟩
  refine ⟨_,rfl,_,_,_,rfl,.inl dc1,rpc,(by decide),⟨_,rfl,_,_,_,rfl,.inl dc2,rpc,(by decide),rfl,_,rfl,ifF (by simp) ?_⟩⟩
  refine ⟨_,rfl,.inl ⟨rfl,_,Ss.of hL1⟩,L,ys,rfl,rfl,hL1,?_⟩
  have s2:Si H (upd H1 L (.lst [])):=λb u e=>by rw [Sw (Jm1 e hL)];exact s1 _ _ e
  generalize upd H1 L (.lst [])=H2 at*
  refine ⟨_,rfl,rl,rfl,⟨_,Ss.of (s2 _ _ hrl)⟩,?_⟩
  refine Jww (xs:=ws) (λi σ H'=>∃(o3 o4 o5:Option V),σ= [some (.ref s),some (.ref cl),some (.ref rl),o3,o4,o5]/\Si H H') ⟨_,_,_,rfl,s2⟩ (λi σ H' _ ⟨_,_,_,_,sm⟩=>Ss.of (sm _ _ hrl)) ?_ ?_
  ·rintro i x σ H' Ta hx ⟨o3,o4,o5,rfl,sm⟩ hT
   have wl:=fl.1
   have hi:i < ws.length:=(yi.mp hx).1
   have fll:(flL S).length=(S.c+1).toNat:=by unfold flL;rw [ye,yaz]
   obtain ⟨rs,er,q,zs,rfl,_,hq,tp⟩:=fl.at hx
   have ers:rs=rnL S i:=by
    unfold flL at er
    rw [yj,ybm (by omega)] at er
    exact (yt.inj er).symm
   rw [ers] at tp
   have sT:=sm.trans (Si.upd (o:=.tup [V.int i,.ref q]) hT)
   refine ⟨Ta,_,rfl,Sy.of Sn,rfl,_,_,rfl,_,_,rfl,rfl,?_⟩
   generalize upd H' Ta (.tup [V.int i,.ref q])=H3 at*
   refine ⟨_,rfl,s,dx,_,rfl,sT _ _ h1,rfl,_,rfl,s,S,sk,.int i,rfl,sg.nod (NoD.same sT),.inl ⟨_,rfl⟩,.inl ⟨i,rfl,by omega,λL ys H4 hL s4 hL4 t4=>?_⟩⟩
   have s04:=sT.trans s4
   obtain ⟨n1,n2,n3⟩:=ok.rl i (by omega) (by omega)
   have yl:=t4.1
   have dc1:Sbg K H4 (.ref L) (.list ((rnL S i).map tpD)):=.lst (Ss.of hL4) (Sa2.dat (λv c=>TpR.dat) t4)
   have dc2:Sbg K H4 (.ref q) (.list ((rnL S i).map tpD)):=.lst (Ss.of (s04 _ _ hq)) (Sa2.dat (λv c=>TpR.dat) (TpL.on (λq xs e=>s04 _ _ e) tp))
   have shc:=Jt6 (f:=tpD) (as:=rnL S i) λr _=>⟨(Jul r).1,yac (Jul r).2 (by decide)⟩
   have rpc:=(Ycr n3).mono (Nat.mul_le_mul_left _ n2) (show 2<=60 by decide)
   refine ⟨_,rfl,_,_,_,_,true,rfl,rfl,.of (.lst hL4),rfl,_,rfl,Jn9 ?_⟩
   refine ⟨_,rfl,_,rfl,_,_,dc1,dc2,shc.1,shc.1,_,rfl,ifF (by rw [shc.2];rfl) ?_⟩
   refine ⟨_,rfl,_,_,_,rfl,.inl dc1,rpc,(by decide),⟨_,rfl,_,_,_,rfl,.inl dc2,rpc,(by decide),rfl,_,rfl,ifF (by simp) ?_⟩⟩
   cases ys with
   |nil=>rw [<-yl] at n1;cases n1
   |cons y ys=>
    refine ⟨_,rfl,.inl ⟨rfl,_,Ss.of hL4⟩,_,rfl,.inl ⟨rfl,_,Ss.of hL4⟩,⟨L,_,0,0,y,rfl,rfl,hL4,by decide,by decide,by simp [seqIndex?],rfl,⟨L,ys,y,rfl,rfl,Sn,Jmn (by rw [<-yl,yaf] at n2;omega),_,_,_,rfl,λb u e=>?_⟩⟩⟩
    have h3L:H3 L=none:=hL
    have e3:=sT _ _ e
    rw [Sw (Jm1 e3 hL),Sw (Jm1 e3 hL)]
    exact s4 _ _ e3
  ·rintro σ H' ⟨o3,o4,o5,rfl,sm⟩
   exact k H' sm
theorem ShA.same {K:Sd} {H H':Hp} {x:V} {d:PyData} (s:Si H H') (h:ShA K H x d):ShA K H' x d:=by
 rcases h with h|⟨c,e,hc,ed⟩
 ·exact .inl (Sbg.same s h)
 ·exact .inr ⟨c,e,s _ _ hc,ed⟩
def NoR (K:Sd) (H:Hp) (S:Riv) (x:V) (d:PyData):Prop:=Tm K H x/\Jmm x 0 S.c=false/\ShA K H x d/\PyData.strOk d.shown=true/\∃b,Rp d b 60/\b<=8000
inductive Snt (K:Sd) (a:Ad) (vs:List V) (H:Hp) (Q:VK) (z3:XK):Prop where
 |mk (s:S1) (S:Riv) (sk:Option (List (Int×Int))) (x:V) (d:PyData) (_:vs= [.ref s,x]) (_:Sfv a H s S sk) (_:NoR K H S x d) (_:∀(L:S1) (H':Hp),Si H H'->H' L=some (.lst [.str d.shown])->Q (.ref L) H')
inductive spLaw (K:Sd) (vs:List V) (H:Hp) (Q:VK) (z3:XK):Prop where
 |mk (a:S1) (ns:List Int) (_:vs= [.ref a]) (_:Ss K H a (ns.map V.int)) (_:ns.length<=63) (_:∀H',Q (.bl true) H')
theorem Ycv:∀m < 14,PyData.strOk (PyData.int ((m:Nat):Int)).shown=true:=by decide +kernel
theorem FlV.nod' {bad:S1->Prop} {H:Hp} {v:V} {rs:List (List Int)} (h:FlV bad H v rs):FlV NoB H v rs:=by
 obtain ⟨q,us,rfl,nb,g,r⟩:=h
 exact ⟨q,us,rfl,λz=>z.elim,g,r⟩
theorem Yem {S:Riv} {sk:Option (List (Int×Int))} (so:Jsj S sk) (s4:Yv S) (n4:∀B∈S.Bs,B.n<=4) (t3:S.Ts.length<=3) (g:S.g<=S.c):Jz5 S sk:=by
 obtain ⟨bb,b1,bp,hb6⟩:=s4.rb
 have h4:=s4.n4
 refine ⟨Jwu s4.n4 n4 t3,λc hc=>?_,λwt w0 w1=>⟨Ycn w0 g λB hB=>(hb6 B hB).1,?_,λr hr=>?_⟩,s4.c.2⟩
 ·obtain ⟨l1,l2,l3⟩:=Yb6 so hc
  refine Sr4 (by omega) (λn hn=>?_) λn hn=>?_
  ·obtain ⟨j,hj⟩:=ybk hn
   have hj':j < S.Bs.length:=by rw [<-l1];exact (yi.mp hj).1
   have q:=l2 j n S.Bs[j] hj (yh hj')
   have:=n4 _ (yat hj')
   omega
  ·rw [hn] at l3
   rcases l3 with z|⟨j,z,z1,z2⟩
   ·cases z
   ·cases z
    omega
 ·have q:=(Jtm (wet:=wt) hb6 S.Bs.length (yg _)).1
  exact yac (List.length_filter_le _ _) (yac q bp)
 ·have q:=(Jtm (wet:=wt) hb6 S.Bs.length (yg _)).2 r (ybp.mp hr).1
  exact Sl4 (by rw [q.1];exact h4) λn hn=>by have:=q.2 n hn;omega
theorem NoR.same {K:Sd} {H H':Hp} {S:Riv} {x:V} {d:PyData} (s:Si H H') (h:NoR K H S x d):NoR K H' S x d:=⟨h.1.same s,h.2.1,ShA.same s h.2.2.1,h.2.2.2⟩
theorem Sbd:Jm2 ["_law_some","_law_thing","_law_told","e"] ["_law_some","_law_thing"] (Jm0 (top 86)):=⟨rfl,rfl,rfl,by decide +kernel,rfl,by decide +kernel,by decide +kernel⟩
theorem Juv (T:Tx K mg a):So P w K mg base CX0 5 a.Jks a.Jkt ["_law_some","_law_thing"] (Snt K a):=by
 have Sb9:=Jou (P:=P) (w:=w) (base:=base) T
 refine T.Jaa.fn.ok Sbd (λvs H Q E h=>?_) (λcdv A outer s H vs Q E hr h=>?_)
 ·obtain ⟨s,S,sk,x,d,rfl,_⟩:=h
  rfl
 ·obtain ⟨s,S,sk,x,d,rfl,sg,⟨tm,wh,sh,_,b,rp,hb⟩,k⟩:=h
  have hu64:=Jqr hr
  have hgd:=hr.gd
  refine ⟨?t,?B,?C⟩
  case B=>
   refine' Su ?O0 ?O1
   case O0=>exact (Jm7 (i:=2) Sbd.nd rfl (yf rfl) Joy)
   case O1=>
   refine' Su ?O2 ?O3
   case O2=>exact (Sn6 ⟨rfl,rfl⟩ (λ_ _ hw=>(Sx (Jnd (Yc8 (pv 0) T.Jdt T.Jdy Sb9 hw hr (by decide) T.Jcx.bd (Sj (pv 1) Sl))))) (by exact Sro T.Jdp T.Jbd Sbd.nd (i:=3) rfl rfl (λ_=>(Sx (Jm7 (i:=2) Sbd.nd rfl (yf rfl) (Jmt (Sj (Jm4 (Jod hgd hu64) (by rfl) T.Jaz Jqp (Sj (Yec (pv 3) (by rfl)) Sl)) Sl))))) Sn3))
   case O3=>
   refine' Sx ?O4
   case O4=>exact (Jm5 (pv 2))
  obtain ⟨dx,o,rw_,L0,pl,F,en,dxr,hf,fr,us',vs',h1,h2,h3,h4,h5,h6,h7⟩:=id sg
  refine λpins=>⟨_,rfl,s,dx,_,rfl,h1,rfl,_,rfl,s,S,sk,x,rfl,sg,tm,.inr ⟨wh,?_⟩⟩
  intro c eo H1 rf
  obtain ⟨e,dx,rfl,rfl,s1,q1,q2⟩:=rf
  refine ⟨e,_,true,rfl,rfl,T.Jgf,Joa ?_⟩
  refine ⟨_,rfl,e,_,_,_,dx,_,_,_,rfl,q1,q2,T.Jdo,T.Jf0,rfl,?_⟩
  refine ⟨x,d,b,rfl,ShA.same s1 sh,rp,hb,(show 1<=S6 by decide),λL hL=>⟨_,rfl,k L _ (s1.trans (Si.upd hL)) Sn⟩⟩
theorem Scc:Jm2 ["_law_script","_law_k","_law_told","_law_river_here","_law_stuck_here","_law_choices_here","_law_rains_here","_law_some","_law_thing"] ["_law_script"] (Jm0 (top 88)):=⟨rfl,rfl,rfl,by decide +kernel,rfl,by decide +kernel,by decide +kernel⟩
theorem ok_law (T:Tx K mg a):So P w K mg base CX0 13 a.a_law a.d_law ["_law_script"] (spLaw K):=by
 have Se5:=Jyk (P:=P) (w:=w) (base:=base) T
 have Sfo:=Jxe (P:=P) (w:=w) (base:=base) T
 have Sg8:=Jyl (P:=P) (w:=w) (base:=base) T
 have Sfp:=Jxf (P:=P) (w:=w) (base:=base) T
 have Sbk:=Js3 (P:=P) (w:=w) (base:=base) T
 have Sep:=Juu (P:=P) (w:=w) (base:=base) T
 have Sfn:=Jxc (P:=P) (w:=w) (base:=base) T
 have Sdo:=Jxd (P:=P) (w:=w) (base:=base) T
 have Seq:=Juv (P:=P) (w:=w) (base:=base) T
 refine T.f_law.fn.ok Scc (λvs H Q E h=>?_) (λcdv A outer s H vs Q E hr h=>?_)
 ·obtain ⟨x,ns,rfl,_⟩:=h
  rfl
 ·obtain ⟨x,ns,rfl,sq,n63,k⟩:=h
  have hu64:=Jqr hr
  have hgd:=hr.gd
  refine ⟨?t,?B,?C⟩
  case B=>
   refine' Su ?O0 ?O1
   case O0=>
    refine' Jn5 ?O2 ?O3 ?O4 ?O5 ?O6
    case O2=>exact PassesOwn.never
    case O3=>exact rfl
    case O4=>exact (Jnp (by rfl) T.Jay (Sj (Jm4 (Jp9 rfl) (by rfl) T.Jaw Juc (Sj Sr (Sj (Jm4 (Joq rfl) (by rfl) T.Jax Jsm (Sj Sr (Sj (Jm4 Jmd (by rfl) T.Jau Jnf (Sj (pv 0) Sl)) Sl))) Sl))) Sl))
    case O5=>exact (Jm3 (i:=1) Scc.nd rfl (yf rfl))
    case O6=>
    refine' Su ?O7 ?O8
    case O7=>exact (Jm7 (i:=2) Scc.nd rfl (yal rfl) (Jlz T.Ja4 Sfo hr (by decide) (Sj (Jlz T.Jx Se5 hr (by decide) (Sj (pv 0) (Sj (pv 1) Sl))) Sl)))
    case O8=>
    refine' Su ?O9 ?Oa
    case O9=>exact (Jm7 (i:=3) Scc.nd rfl (yf rfl) (Jlz T.Ja6 Sg8 hr (by decide) (Sj (pv 2) Sl)))
    case Oa=>
    refine' Su ?Ob ?Oc
    case Ob=>exact (Jm7 (i:=4) Scc.nd rfl (yf rfl) (Jlz T.Ja9 Sfp hr (by decide) (Sj (Jm8 Jmg (Jlz T.Jx Se5 hr (by decide) (Sj (pv 0) (Sj (pv 1) Sl))) Sr) (Sj (pv 2) Sl))))
    case Oc=>
    refine' Su ?Od ?Oe
    case Od=>exact (Jm7 (i:=5) Scc.nd rfl (yf rfl) (Jlz T.Ja8 Sep hr (by decide) (Sj (pv 2) (Sj (pv 4) Sl))))
    case Oe=>
    refine' Su ?Of ?Og
    case Of=>exact (Jsa (i:=6) (N:=(["_law_wet","_law_told"]:List Str)) (ini:=[none,some 2]) Scc.nd rfl (yf rfl) rfl (Jnp (by rfl) T.Jay (Sj (Jm8 Jmg (Jmc Jmh (pv 2) Sr (λ_ _=>rfl)) Sr) Sl)) (λ_ _ _ _ _=>(Jm3 (i:=0) (by decide +kernel:(["_law_wet","_law_told"]:List Str).Nodup) rfl (yf rfl))) (λ_ _ _ _ _=>Jmi) (λ_ _ _ _ _=>(Jlz T.Ja7 Sfn hr (by decide) (Sj (pv 1) (Sj (pv 0) Sl)))))
    case Og=>
    refine' Su ?Oh ?Oi
    case Oh=>exact (Jm7 (i:=7) Scc.nd rfl (yf rfl) (Jof T.Jdu Sbk (hr.mono (by decide)) (by rfl) T.Jbf T.Jct.bd .nil Job (Sj (pv 3) (Sj (pv 4) Sl))))
    case Oi=>
    refine' Su ?Oj ?Ok
    case Oj=>
     refine' Jmr ?Ol ?Om ?On
     case Ol=>exact (Jmp (Ye8 hu64) (pv 4) Jv2 (Jmy _))
     case Om=>
      refine' Sx ?Oo
      case Oo=>exact (Jm7 (i:=7) Scc.nd rfl (yf rfl) (Jof T.Jdu Sbk (hr.mono (by decide)) (by rfl) T.Jbf T.Jdf (.cons (show L2.RelV .non .none from rfl) .nil) Job (Sj (pv 3) Sl)))
     case On=>exact Jma
    case Ok=>
    refine' Su ?Op ?Oq
    case Op=>exact (Yce hu64 (pv 4) Sr Sr rfl)
    case Oq=>
    refine' Su ?Or ?Os
    case Or=>exact (Jwm hu64 (pv 4) Sr Sr rfl)
    case Os=>
    refine' Su ?Ot ?Ou
    case Ot=>
     refine' Jmr ?Ov ?Ow ?Ox
     case Ov=>exact (PW.pt (Jtl (Jmu (Jmx (Jlz T.Jab Sdo hr (by decide) (Sj (pv 7) (Sj (pv 5) (Sj (pv 6) Sl)))))) (Jt1 (Jmu (Jmx (Jlz T.Jab Sdo hr (by decide) (Sj (pv 7) (Sj (pv 5) (Sj (pv 6) Sl)))))))))
     case Ow=>
      refine' Sx ?Oy
      case Oy=>exact (Jm5 Jo6)
     case Ox=>exact Jma
    case Ou=>
    refine' Sx ?Oz
    case Oz=>
    refine' Jn5 ?U0 ?U1 ?U2 ?U3 ?U4
    case U0=>exact PassesOwn.never
    case U1=>exact rfl
    case U2=>
     refine' Jml ?U5
     case U5=>
     refine' Jmt ?U6
     case U6=>
     refine' pa9 ?U7 ?U8 ?U9 ?Ua ?Ub ?Uc ?Ud ?Ue ?Uf
     case U7=>exact (Sks Ydh Sr)
     case U8=>exact (Jm8 Jmg (Jmc Jmh (pv 2) Sr (λ_ _=>rfl)) Sr)
     case U9=>exact Jo6
     case Ua=>exact Joy
     case Ub=>exact Jp7
     case Uc=>exact (Jn1 (Sj Sr Sl))
     case Ud=>exact (Jmt (Sj Sr Sl))
     case Ue=>exact Jv2
     case Uf=>exact (Jm8 Yc5 Sr Sr)
    case U3=>exact (Jm3 (i:=8) Scc.nd rfl (yf rfl))
    case U4=>
    refine' Sx ?Ug
    case Ug=>
    refine' Jmr ?Uh ?Ui ?Uj
    case Uh=>exact (Jmp (Jzr hu64) (Jlz T.Jaa Seq hr (by decide) (Sj (pv 7) (Sj (pv 8) Sl))) (Jmt (Sj (Jm4 (Jod hgd hu64) (by rfl) T.Jaz Jqp (Sj (pv 8) Sl)) Sl)) (Jmy _))
    case Ui=>
     refine' Sx ?Uk
     case Uk=>exact (Jm5 Jo6)
    case Uj=>exact Jma
   case O1=>
   refine' Sx ?Ul
   case Ul=>exact (Jm5 Jo6)
  refine ⟨_,rfl,x,_,rfl,.inl sq,_,_,rfl,_,_,rfl,_,rfl,?_,?_,?_⟩
  ·split <;> split <;> omega
  ·split <;> split <;> omega
  refine Jw9 (λi σ H'=>∃o1 o2 o3 o4 o5 o6 o7 o8,σ= [some (.ref x),o1,o2,o3,o4,o5,o6,o7,o8]/\Si H H') ⟨_,_,_,_,_,_,_,_,rfl,Si.refl H⟩ ?_ ?_
  ·rintro i σ H' hi ⟨o1,o2,o3,o4,o5,o6,o7,o8,rfl,s0⟩
   refine ⟨_,rfl,_,rfl,x,ns,i,?_,Jva s0 sq,λn0=>⟨n0,rfl,λtv R p H1 hp s1 st rt rg lg=>?_⟩⟩
   ·simp
   obtain ⟨t,lb,lt,bs,ts,rfl,ht,_⟩:=id rt
   refine ⟨_,rfl,p,.ref t,R,rfl,rt,rg,λo S H2 s2 ro lk gx=>?_⟩
   have s02:=(s0.trans s1).trans s2
   have rt2:=rt.same rg s2
   have rv:=Snd ro lk rg gx
   refine ⟨_,rfl,_,rfl,x,ns,i,?_,Jva s02 sq,λn1=>⟨_,_,rfl,rfl,_,rfl,n1+1,p,.ref t,R,rfl,rt2,rg,λsx l H3 s3 sa sk ln fr=>?_⟩⟩
   ·simp
   obtain ⟨d,rfl,hd2⟩:=fr
   obtain ⟨d',od,ed,hd3⟩:=id sa
   cases ed
   have s03:=s02.trans s3
   have hd0:H d=none:=by
    cases e:H d with
    |none=>rfl
    |some u=>rw [s02 _ _ e] at hd2;cases hd2
   have so:Jsj S (some l):=Ss1 lk rg sk ln
   have lgl:=Jye (sk:=some l) lg rg lk
   have s4:=lgl.s4
   have rv3:=rv.same s3
   have rt3:=rt2.same rg s3
   obtain ⟨_,_,_,_,_,_,_,bl,_,_,_,t3,_⟩:=id rv3.ro
   have rok:=Yem so s4 bl.n4 t3 (by rw [lk.g,lk.c];exact rg.g.2)
   refine ⟨_,rfl,_,rfl,p,.ref t,.ref d,R,S,l,rfl,rt3,rg,lk,s4,⟨d,rfl,.inr ⟨od,hd3⟩⟩,sk,bl.n4,λcl us H4 hcl s34 hcl4 cc=>?_⟩
   have s14:=(s2.trans s3).trans s34
   have rt4:=rt3.same rg s34
   have hc:=s4.c
   have ec:=lk.c
   refine ⟨_,rfl,t,_,0,_,rfl,rfl,Sy.of (s14 _ _ ht),rfl,_,_,rfl,rfl,_,rfl,by omega,by omega,λD hD=>?_⟩
   refine Jpe (FlV λq=>q=D) (flL S) (FlV.mn rfl) hD (by unfold flL;rw [ye,yaz,ec]) (by omega) ?_ ?_
   ·rintro i y H' Q' hy sm ⟨ds,hDs'⟩ k'
    have hi:i < (S.c+1).toNat:=by
     have:=(yi.mp hy).1
     unfold flL at this
     rw [ye,yaz] at this
     exact this
    unfold flL at hy
    rw [yj,ybm hi] at hy
    cases hy
    rw [Int.zero_add]
    refine ⟨_,rfl,_,rfl,p,.ref t,R,S,(i:Int),rfl,rt4.same rg sm,rg,lk,s4,⟨by omega,by omega⟩,λL' us' H5 hL' s5 g5 tp=>k' _ _ s5 ⟨L',us',rfl,λz=>?_,g5,tp⟩⟩
    rw [z,hDs'] at hL'
    cases hL'
   intro ws H5 s5 hD5 fl
   have fl5:Sa2 (FlV NoB) H5 ws (flL S):=fl.imp λv q h=>FlV.nod' h
   have s35:=s34.trans s5
   refine ⟨_,rfl,_,rfl,λpS dxS hpS hdS neS=>?_⟩
   have sn:Si H5 (upd (upd H5 dxS (.own pS)) pS (.ins a.Jlj dxS [])):=λb ob e=>by rw [Sw (Jm1 e hpS),Sw (Jm1 e hdS)];exact e
   refine ⟨pS,dxS,o,H5,S,_,.ref d,some l,rfl,hpS,sn,Sn,⟨rv3.same s35,sa.same s35,so,s4,lgl.wg,lgl.st⟩,λH6 s6 sg=>⟨rfl,?_⟩⟩
   have s36:=s35.trans s6
   have hl16:l.length<=16:=yac ln rg.n.2
   refine Jun (Jxm (λσ Hb=>∃(pS:S1) (so:Option (List (Int×Int))),σ= [some (.ref x),some (.int (0+(i:Int))),some (.ref t),some (.ref o),some (.ref d),some (.ref cl),some (.ref D),some (.ref pS),o8]/\Sfv a Hb pS S so/\chL S so=chL S (some l)/\Si H6 Hb) (λM hM=>?_) ?_)
   ·refine ⟨_,rfl,λb hb=>?_⟩
    have sb:=Si.upd (o:=.dK []) hb
    refine ⟨d,b,_,rfl,rfl,.inr ⟨od,sb _ _ (s36 _ _ hd3)⟩,Sn,_,rfl,?_⟩
    rcases l with _|⟨q,l⟩
    ·refine Joa ⟨_,rfl,λpS dxS hpS hdS neS=>?_⟩
     generalize upd H6 b (.dK [])=H7 at*
     have sn:Si H7 (upd (upd H7 dxS (.own pS)) pS (.ins a.Jlj dxS [])):=λb ob e=>by rw [Sw (Jm1 e hpS),Sw (Jm1 e hdS)];exact e
     have lgn:=Jye (sk:=none) lg rg lk
     refine ⟨pS,dxS,o,H7,S,_,.non,none,rfl,hpS,sn,Sn,⟨rv3.same (s36.trans sb),rfl,λl e=>(by cases e),s4,lgn.wg,lgn.st⟩,λH8 s8 sg=>⟨rfl,hM _ _ ⟨pS,none,rfl,sg.l,rfl,sb.trans s8⟩⟩⟩
    ·exact ifF rfl (hM _ _ ⟨pS,_,rfl,sg.l.nod (NoD.same sb),rfl,sb⟩)
   rintro σ H8 ⟨pS,so',rfl,sg8,ech,s68⟩
   have s38:=s36.trans s68
   have hd8:=s38 _ _ hd3
   have kl:(l.map λp=>((yn p.1,V.int p.2):Key×V)).length<=16:=by rw [ye];exact hl16
   have kl2:=Jq4 (l.map λp=>((yn p.1,V.int p.2):Key×V)) (yn 0) (V.int 0)
   refine ⟨_,rfl,d,od,_,yn 0,rfl,hd8,hd0,rfl,Jmn (by omega),?_⟩
   refine ⟨_,rfl,d,_,rfl,Sgx.k (k:=yn 1) Sn (Jmn (by omega)),?_⟩
   rw [Jne]
   have nd:=NoD.put (d:=d) (o:=.dK (Jpj (Jpj (l.map λp=>((yn p.1,V.int p.2):Key×V)) (yn 0) (V.int 0)) (yn 1) (V.int 7))) (.inl ⟨_,_,hd8⟩)
   have s9:Si H (upd H8 d (.dK (Jpj (Jpj (l.map λp=>((yn p.1,V.int p.2):Key×V)) (yn 0) (V.int 0)) (yn 1) (V.int 7)))):=λb u e=>by rw [Sw (Jm1 e hd0)];exact s38 _ _ (s03 _ _ e)
   generalize upd H8 d (.dK (Jpj (Jpj (l.map λp=>((yn p.1,V.int p.2):Key×V)) (yn 0) (V.int 0)) (yn 1) (V.int 7)))=H9 at*
   have m49:NoD H4 H9:=(NoD.same ((s5.trans s6).trans s68)).trans nd
   have m59:NoD H5 H9:=(NoD.same (s6.trans s68)).trans nd
   have sg9:=sg8.nod nd
   have hcl9:=m49.lst hcl4
   have cc9:CcL H9 us (chL S so'):=by rw [ech];exact CcL.on m49.tup cc
   have hD9:=m59.lst hD5
   have fl9:Sa2 (FlV NoB) H9 ws (flL S):=fl5.imp λv q h=>h.nod m59
   have rok':Jz5 S so':=⟨by rw [ech];exact rok.cl,by rw [ech];exact rok.cc,rok.rl,rok.c12⟩
   have ht9:=m49.tup _ _ (s14 _ _ ht)
   refine ⟨_,rfl,_,rfl,_,rfl,pS,cl,D,S,so',us,ws,rfl,sg9,hcl9,cc9,hD9,fl9,rok',λHa sA=>⟨_,rfl,Jn9 ?_⟩⟩
   refine ⟨_,rfl,_,rfl,_,rfl,pS,cl,D,S,so',us,ws,rfl,sg9.nod (NoD.same sA),sA _ _ hcl9,CcL.on (λq xs e=>sA _ _ e) cc9,sA _ _ hD9,fl9.imp λv q h=>h.nod (NoD.same sA),rok',λHb sB=>⟨_,rfl,Jn9 ?_⟩⟩
   have s9b:=sA.trans sB
   refine ⟨_,rfl,_,rfl,t,_,0,_,rfl,rfl,Sy.of (s9b _ _ ht9),rfl,_,_,rfl,rfl,(show 1<=S6 by decide),λa1 ha1=>⟨(show 1<=S6 by decide),λa2 ha2=>λa3 ha3=>?_⟩⟩
   generalize ea1:upd Hb a1 _=Hc
   obtain ⟨ta1,g1⟩:=Sjm ea1 ha1
   generalize ea2:upd Hc a2 _=Hd
   rw [ea1] at ha2
   obtain ⟨ta2,g2⟩:=Sjm ea2 ha2
   generalize ea3:upd Hd a3 _=He
   rw [ea1,ea2] at ha3
   obtain ⟨ta3,g3⟩:=Sjm ea3 ha3
   refine ⟨_,_,rfl,rfl,⟨by decide,by decide,by decide⟩,(show 9<=S6 by decide),λlt hlt=>?_⟩
   generalize elt:upd He lt _=Hf
   obtain ⟨tl,gl⟩:=Sjm elt hlt
   have ep:(10:Int)^Int.toNat 40=10000000000000000000000000000000000000000:=by decide
   have sbf:=((ta1.trans ta2).trans ta3).trans tl
   have nz:∀xs:List V,Hf lt=some (.lst xs)->∀z∈xs,∃d,NoR K Hf S z d:=by
    intro xs e
    rw [gl] at e
    cases e
    have ri:∀n:Int,n.natAbs<=10^40->n < 0\/S.c < n->PyData.strOk (PyData.int n).shown=true->∃d,NoR K Hf S (.int n) d:=λn h e sh=>⟨_,.inl ⟨_,rfl⟩,by simp [Jmm];omega,.inl (.int n),sh,0,(Rp.int (Sjk h)).mono (yg _) (by decide),by decide⟩
    have f1:=tl _ _ (ta3 _ _ (ta2 _ _ g1))
    have f2:=tl _ _ (ta3 _ _ g2)
    have f3:=tl _ _ g3
    have r0:∀d∈ [PyData.int 0],Rp d 0 0:=all_cons (Rp.int (Sjk (by decide))) Jrq
    refine all_cons (Pr:=λz=>∃d,NoR K Hf S z d) ?_ (all_cons ?_ (all_cons ?_ (all_cons ?_ (all_cons ?_ (all_cons ?_ (all_cons ?_ (all_cons ?_ (all_cons ?_ Jrq))))))))
    ·exact ri _ (by decide) (.inl (by decide)) (by decide +kernel)
    ·exact ri _ (by omega) (.inr (by omega)) (by obtain ⟨m,hm,em⟩:∃m:Nat,m < 14/\R.c+1=m:=⟨(R.c+1).toNat,by omega,by omega⟩;rw [em];exact Ycv m hm)
    ·exact ⟨_,.inr ⟨_,.of (.bl _),rfl⟩,rfl,.inl (.bl _),by decide +kernel,0,(Rp.bl _).mono (yg _) (by decide),by decide⟩
    ·exact ⟨_,.inr ⟨_,.of .non,rfl⟩,rfl,.inl .non,by decide +kernel,0,Rp.non.mono (yg _) (by decide),by decide⟩
    ·exact ⟨_,.inr ⟨_,.of (.str _),rfl⟩,rfl,.inl (.str _),by decide +kernel,_,(Rp.str (by decide +kernel)).mono (yg _) (by decide),by decide +kernel⟩
    ·exact ⟨_,.inr ⟨_,.of (.tup f1),rfl⟩,rfl,.inl (.tup (Sy.of f1) (.cons (.int 0) .nil)),by decide +kernel,1,(Rp.tup r0).mono (by decide) (by decide),by decide⟩
    ·exact ⟨_,.inr ⟨_,.of (.lst f2),rfl⟩,rfl,.inl (.lst (Ss.of f2) (.cons (.int 0) .nil)),by decide +kernel,1,(Rp.lst r0).mono (by decide) (by decide),by decide⟩
    ·exact ⟨_,.inr ⟨_,.of (.dK f3),rfl⟩,rfl,.inr ⟨_,rfl,f3,rfl⟩,by decide +kernel,0,Rp.dct.mono (by decide) (by decide),by decide⟩
    ·rw [ep]
     exact ri _ (by decide) (.inr (by omega)) (by decide +kernel)
   refine ⟨lt,rfl,⟨_,Ss.of gl⟩,?_⟩
   have sg9f:=sg9.nod (NoD.same (s9b.trans sbf))
   have s0f:=(s9.trans s9b).trans sbf
   refine Jno (λi σ H'=>∃(o1 o2 o3 o4 o5 o6 o8:Option V),σ= [some (.ref x),o1,o2,o3,o4,o5,o6,some (.ref pS),o8]/\Si Hf H') ⟨_,_,_,_,_,_,_,rfl,Si.refl _⟩ (λi σ H' _ ⟨_,_,_,_,_,_,_,_,sm⟩=>Ss.of (sm _ _ gl)) ?_ ?_
   ·rintro j z σ H' hz ⟨o1,o2,o3,o4,o5,o6,o8,rfl,sm⟩
    obtain ⟨dz,no⟩:=nz _ gl z (yr hz)
    have no':=no.same sm
    refine ⟨_,rfl,_,rfl,pS,S,so',z,dz,rfl,sg9f.nod (NoD.same sm),no',λL Hg sG hL=>?_⟩
    obtain ⟨_,_,sh,ok,b,rp,hb⟩:=no'.same sG
    refine ⟨_,rfl,z,dz,b,rfl,sh,rp,hb,(show 1<=S6 by decide),λL2 hL2=>?_⟩
    have s2':=Si.upd (o:=.lst [.str dz.shown]) hL2
    have shs:=Jt6 (f:=PyData.str) (as:=[dz.shown]) (all_cons ⟨by simp only [PyData.canLay0];exact ok,by simp [PyData.depth]⟩ Jrq)
    exact ⟨_,_,.lst (Ss.of (s2' _ _ hL)) (.cons (.str _) .nil),.lst (Ss.of Sn) (.cons (.str _) .nil),shs.1,shs.1,_,rfl,ifF (congrArg (λb:Bool=>!b) shs.2) ⟨_,_,_,_,_,_,_,rfl,(sm.trans sG).trans s2'⟩⟩
   ·rintro σ H' ⟨o1,o2,o3,o4,o5,o6,o8,rfl,sm⟩
    exact ⟨_,_,_,_,_,_,_,_,rfl,s0f.trans sm⟩
  ·rintro σ H' ⟨o1,o2,o3,o4,o5,o6,o7,o8,rfl,sm⟩
   exact k _
end
end K22
namespace PySem.W.Fast
def tw12241670634040947898:=()
def tw5019158236135163039:=()
def tw193270176007077067:=()
def tw7509260751809580726:=()
def tw4148030506965158072:=()
def tw13983947674441726241:=()
def tw915628588375397965:=()
def tw710589655646033384:=()
def tw2273064104873799688:=()
def tw10843840407397294185:=()
def tw16527094883133063470:=()
def tw9232154832326423031:=()
def tw10154370981615146110:=()
def tw11499042958725481250:=()
def tw4590585834462164264:=()
def tw2656504171511016982:=()
def tw6658517791497480942:=()
def tw8991228368885630062:=()
def tw14752996469121571050:=()
def tw15359546062051684990:=()
def tw5159858140086671242:=()
def tw5235487026357896302:=()
def tw5424646627324499865:=()
def tw18237842253674389358:=()
def tw14197395748788414647:=()
def tw12302787012423311247:=()
def tw13728494160014125688:=()
def tw5132730909611759877:=()
def tw4935756441636791576:=()
def tw15310452694474681768:=()
def tw10025090272858779231:=()
def tw1272432563026170255:=()
def tw13042963839153470288:=()
def tw4919965460416800800:=()
def tw11908136943270389871:=()
def tw14543510090833320259:=()
def tw2524810539735487455:=()
def tw16659475073028270589:=()
def tw3253849165803933422:=()
def tw2307834174662815942:=()
def tw14438872031949184956:=()
def tw1162243403613995672:=()
def tw17680017245875508963:=()
def tw15275106636698230624:=()
def tw13215677630091880398:=()
def tw5929261419827691546:=()
def tw323715648137652084:=()
def tw3301351239983931807:=()
def tw5596948712992685489:=()
def tw11386837083009742030:=()
def tw14017009522142199039:=()
def tw14138164280821386066:=()
def tw14360797379772150010:=()
def tw11513604918525787755:=()
def tw10798617896670934974:=()
def tw17121997909297983903:=()
def tw4409931564285562744:=()
def tw10238081061034655619:=()
def tw1274913755357906681:=()
def tw14767973326746328202:=()
def tw1802079954334830718:=()
def tw13232193997324213274:=()
def tw15032917375707083593:=()
def tw5076267709964938025:=()
def tw6179257452133298877:=()
def tw14308137608328209314:=()
def tw11991737979163903265:=()
def tw63910676865044521:=()
def tw13015646248151555900:=()
def tw5816376732521426629:=()
def tw4736882274032163555:=()
def tw1252159865509590651:=()
def tw1910986347309630368:=()
def tw12624199297733054042:=()
def tw2945151383342493949:=()
def tw4188801522170956966:=()
def tw457006846420754961:=()
def tw15398713993030623898:=()
def tw9662649767398911243:=()
def tw6901062986316755139:=()
def tw16843078456190640207:=()
def tw10469850944353950122:=()
def tw16828759857157640184:=()
def tw4062697489823695762:=()
def tw2879096352033318714:=()
def tw7219337475501670940:=()
def tw12661603176110013539:=()
def tw10430767326003198290:=()
def tw7060857595347693453:=()
def tw18095265713145478620:=()
def tw8109803304907197087:=()
def tw2504333600254376551:=()
def tw13827121794844120863:=()
def tw7911105055085135645:=()
def tw1837021976125459971:=()
def tw4344893195019617112:=()
def tw4194581728036916336:=()
def tw9268643062159069800:=()
def tw7572191093808924233:=()
def tw11991720022046143576:=()
def tw9849077132279323375:=()
def tw2693891287974584956:=()
def tw11662290844743852817:=()
def tw13325336686517483057:=()
def tw16090172584255549088:=()
def tw7087896398638103877:=()
def tw14361873579404642574:=()
def tw10818454865025767500:=()
def tw14182527719605903155:=()
def tw2310301665781068214:=()
def tw12550095116666718231:=()
def tw2517492307474012101:=()
def tw3337018739691818560:=()
def tw9674618572662869726:=()
def tw7913893299456400244:=()
def tw4319226766131613282:=()
def tw5506138774046841181:=()
def tw7880008697049966270:=()
def tw4978827844461744262:=()
def tw15283171745818610495:=()
def tw12628685109891402816:=()
def tw12483274574305212776:=()
def tw14119936321750109681:=()
def tw9130811900584442536:=()
def tw16282998881736980444:=()
def tw445229283163132380:=()
def tw16359318156854892310:=()
def tw16442833307620386778:=()
def tw4685828520911453879:=()
def tw2942547400336851345:=()
def tw15230184006538437934:=()
def tw6907485159766280876:=()
def tw2603147430826967698:=()
def tw15262886770084037832:=()
def tw14744387386617364305:=()
def tw858596112448073791:=()
def tw16944074768042934570:=()
def tw1647915225566448516:=()
def tw14084504852445391867:=()
def tw15994033070766727348:=()
def tw12332098685869359132:=()
def tw12549863695558882887:=()
def tw13351359339446361743:=()
def tw11416718475611671889:=()
def tw7789780706683098397:=()
def tw17011618521933689730:=()
def tw12428883498508287915:=()
def tw17024180118789410471:=()
def tw13259310185224471848:=()
def tw17857495288296995747:=()
def tw7196688211043297997:=()
def tw7309944247478325078:=()
def tw15264839339450547192:=()
def tw3441649970159669532:=()
def tw11153006619532356489:=()
def tw14358158156306005784:=()
def tw9978788068233268407:=()
def tw667607541597916097:=()
def tw13268462493614824406:=()
def tw16191762102354942426:=()
def tw9207447388830168699:=()
def tw5916371798969111492:=()
def tw968972787128746046:=()
def tw2035883878908623676:=()
def tw15674908408790671254:=()
def tw300228491757176824:=()
def tw7319935016981482115:=()
def tw6878867400700126888:=()
def tw10363394171376342268:=()
def tw15409275394206599755:=()
def tw10894291235840062128:=()
def tw12802264768703541820:=()
def tw10571637352251069871:=()
def tw10927295205699156603:=()
def tw17072315944238324724:=()
def tw5903181222356225089:=()
def tw11642240867105037283:=()
def tw13909801143297509253:=()
def tw1512591941857934904:=()
def tw1830933692944765620:=()
def tw3015923995846136488:=()
def tw17977602769194711357:=()
def tw4402418404009418550:=()
def tw1010551963064833939:=()
def tw6198887087835279948:=()
def tw17998002359015843534:=()
def tw3615591585904112079:=()
def tw10448544956890927047:=()
def tw364322672242481413:=()
def tw13788427150805132165:=()
def tw14396085673466329223:=()
def tw10600326145713860326:=()
def tw17608160423042965213:=()
def tw12804674581013216477:=()
def tw6471324206689601188:=()
def tw10765303378855536433:=()
def tw5775174258712003676:=()
def tw7217304104799246706:=()
def tw11943294935937031426:=()
def tw3080585095078438026:=()
def tw4920419092126544451:=()
def tw12455668285403712556:=()
def tw13263790296033203751:=()
def tw11286677759792475471:=()
def tw5424478775829605265:=()
def tw2259010189998453557:=()
def tw14451285947797579374:=()
def tw4735528676051834577:=()
def tw7437229093296276632:=()
def tw3370083653392445989:=()
def tw6628698236242592889:=()
def tw14295294943474626392:=()
def tw4356056666404610455:=()
def tw6083687940235911838:=()
def tw10888014407498519321:=()
def tw6220123090870502507:=()
def tw18140109185873657683:=()
def tw4057852640447172490:=()
def tw3084336788456690136:=()
def tw16158635422765102415:=()
def tw10296328858385132992:=()
def tw1275178956133562:=()
def tw18216075856203887838:=()
def tw980747154426507264:=()
def tw16467323536153936803:=()
def tw10713995178843373450:=()
def tw248044762743436583:=()
def tw12310590785513019087:=()
def tw16287671796225758565:=()
def tw7981681362897872390:=()
def tw8900649461499313688:=()
def tw17642935272390519516:=()
def tw18082368632632424480:=()
def tw3438036553718756406:=()
def tw15671248119675973978:=()
def tw1963449020864450946:=()
def tw1854790377979304960:=()
def tw2803192250630306958:=()
def tw3988891590338720599:=()
def tw17732378219230380288:=()
def tw3763293423088621336:=()
def tw11682433610680832002:=()
def tw15073883443436147518:=()
def tw12616473693707958267:=()
def tw895429978737588371:=()
def tw17395137762379523522:=()
def tw10958539114489018101:=()
def tw15442409806272968840:=()
def tw17329215236431020407:=()
def tw6752284530986761198:=()
def tw5357438975681686218:=()
def tw16994565254328035145:=()
def tw3506797645867331254:=()
def tw5455436888922435662:=()
def tw16671457609794829285:=()
def tw15679233814015306548:=()
def tw7898500088959599514:=()
def tw11175402311565896165:=()
def tw4574221999168419805:=()
def tw11266505213397437092:=()
def tw5461832621714532943:=()
def tw13651924471376105891:=()
def tw331888598140374650:=()
def tw11656906516205074234:=()
def tw867395793872783519:=()
def tw15542711544846010508:=()
def tw13235401149820459058:=()
def tw12990265199047965401:=()
def tw16543602798571943316:=()
def tw17293588902566518603:=()
def tw17816852229608711857:=()
def tw3072937022098353316:=()
def tw10898748674105202631:=()
def tw9109917219620626251:=()
def tw3212206542958228483:=()
def tw18271441809002967472:=()
def tw11903407715303986054:=()
def tw18238444832114623737:=()
def tw12568155823143038354:=()
def tw13112202104191257469:=()
def tw11664022371303448425:=()
def tw8583016449170569481:=()
def tw17022813236127929655:=()
def tw15653068234904602145:=()
def tw10089705870151937761:=()
def tw3557375222322416805:=()
def tw18251526478695199368:=()
def tw8350628779007270445:=()
def tw10149511856822229949:=()
def tw1931063294375822504:=()
def tw5739233147309683456:=()
def tw15602876964551136663:=()
def tw4430839751067839863:=()
def tw9303244634623107262:=()
def tw12101955958526252415:=()
def tw4889282645253236473:=()
def tw42208221226875461:=()
def tw862790484058447351:=()
def tw10581055078499865699:=()
def tw7533574828023200024:=()
def tw9769333325538683013:=()
def tw12418230458267772238:=()
def tw6125259917913920851:=()
def tw8880523658141437671:=()
def tw18067689354392232815:=()
def tw16711943791975326639:=()
def tw13751453264955886625:=()
def tw13758693125839518197:=()
def tw10950651912936460678:=()
def tw5547205940241732609:=()
def tw17756463108491968249:=()
def tw9388849127306508497:=()
def tw4983322982811502751:=()
def tw9157278078379462605:=()
def tw16137786069691578253:=()
def tw14763142234629457188:=()
def tw18197617762108137320:=()
def tw16933705670535036440:=()
def tw17237698703678256075:=()
def tw16092303588872294432:=()
def tw5694056400838469225:=()
def tw5314573316480246152:=()
def tw17682683040089128110:=()
def tw13225954286428082197:=()
def tw670084624532901666:=()
def tw17739316204447308387:=()
def tw16495420931014101507:=()
def tw9869924954994993151:=()
def tw5464618942497094981:=()
def tw8414846475775381505:=()
def tw4889001956790429263:=()
def tw15170323500617924976:=()
def tw2787733518022208078:=()
def tw13582115104578364980:=()
def tw9802570359400316379:=()
def tw6342320703082084960:=()
def tw16566320038725277519:=()
def tw5014701191049827593:=()
def tw7522820106497928153:=()
def tw1046156731086413129:=()
def tw9542966292266506806:=()
def tw11464479893478082785:=()
def tw2262917297939590358:=()
def tw18016123957417575003:=()
def tw12824540557492223407:=()
def tw11201664256818721108:=()
def tw9595166959878297024:=()
def tw11298948642213688348:=()
def tw8201736998107648078:=()
def tw13212436967204814868:=()
def tw11938218001286062789:=()
def tw14482199741268346377:=()
def tw10416104529150658302:=()
def tw10329580520051493735:=()
def tw17512563268086094932:=()
def tw10834532759386792116:=()
def tw6612337171141507702:=()
def tw4835800906602056269:=()
def tw7417681414144016812:=()
def tw11346725710917830838:=()
def tw1792026289282796956:=()
def tw3549942286301350536:=()
def tw10238432106189712351:=()
def tw9321772316640662084:=()
def tw15852208515670777369:=()
def tw17930917372396876200:=()
def tw4529520382372451861:=()
def tw3937504143444032082:=()
def tw14152824747234044463:=()
def tw10218713812453822831:=()
def tw13660733403113152025:=()
def tw13398202306965047935:=()
def tw7028485762611501553:=()
def tw11335783089453910391:=()
def tw12709109241603522003:=()
def tw17631323160172412469:=()
def tw14107796021820669247:=()
def tw10813677335187636120:=()
def tw18396598294350962524:=()
def tw2114199789868838823:=()
def tw8940549158524947505:=()
def tw11290672043134457963:=()
def tw10065254132192026018:=()
def tw10650404122315893167:=()
def tw15437489842184238880:=()
def tw2922367132363843277:=()
def tw4243270855461095659:=()
def tw12454505476141583788:=()
def tw11908009198242297520:=()
def tw18036110680677275760:=()
def tw18062930383130334733:=()
def tw2403155990021938895:=()
def tw13156081344951075042:=()
def tw80267300933964967:=()
def tw9280523970466008608:=()
def tw8385986316114793941:=()
def tw2879626529428746337:=()
def tw4008421447145774339:=()
def tw10394957975315488123:=()
def tw3949249345788962479:=()
def tw3118181462494382014:=()
def tw10451326507910342460:=()
def tw14541846164332432541:=()
def tw5814586181338226521:=()
def tw6274381425984808947:=()
def tw8207391305601748576:=()
def tw7501464951513334748:=()
def tw14305899192066913923:=()
def tw4808792837748292509:=()
def tw10123807152629779833:=()
def tw3615788605138049414:=()
def tw3378550885610244285:=()
def tw2158567591156622962:=()
def tw16707968646353449234:=()
def tw5761267152980377728:=()
def tw4694272074574001431:=()
def tw16603468200967039990:=()
def tw7902529278097394728:=()
def tw9769518448914446662:=()
def tw9636049711859697208:=()
def tw14205429966189205607:=()
end PySem.W.Fast
open PySem PySem.W PyProof.Rows
set_option maxRecDepth 100000 in
set_option maxHeartbeats 0 in
theorem PySem.Challenge.cw_weirwatch_k22_choices_and_rains_holds : PySem.Challenge.rw_weirwatch_k22_choices_and_rains.Holds := by
 w_on;o_law;k_head;(case hw=>w_witness2)
 k_fill
 refine L2.walk_ofK (l:=PySem.Challenge.rw_weirwatch_k22_choices_and_rains) (n:=63) (k:=13) (x:="_law_script") (CX:=L2.CX0) (sp:=K22.spLaw) rfl (by decide) rfl ⟨rfl,by decide,by decide,rfl⟩ (λw h Y=>PySem.W.kIn_of Y) ?F ?S ?C
 case F=>
  intro w mg fa h KX G hmg
  have T:∃a:K22.Ad,(∀(s:S3) (v:S2),BindsTo s a.d_law ⟨[v],[]⟩ [("_law_script",v)])/\K22.Tx (L2.KOf KX) mg a:=by
   have hh:=λaa ab ac ad ae af ag ah ai aj ak al am an ao ap aq ar au av aw ax ay az ba bb bc bd be bf bg bh bi bj bk bl bm bn bo bp bq br bs bt bu bv bw bx bz ca cb cc cd ce cf cg ch ci cj ck cl cm cn co cp cq cr cs ct cu cv cw cx cy cz da db dc dd de df dg dh di dj dk dl dm dn dp dq dr ds dt du dv dw dx dy dz ea eb ec ed ee ef eg eh ei ej ek el em en eo ep eq er es et eu ev ew ex ey ez fb fc fd fe ff fg fh fi fj fk fl fm fn fo fp fq fr fs ft fu fv fw fx fy fz ga gb gc gd ge gf gg gh gi gj gk gl gm gn go gp gq gr gs gt gu gv gw gx gy gz ha hb hc hd he hf hg hh hi hj hk hl hm hn ho hp hq=>@K22.Tx.mk (L2.KOf KX) mg ⟨aa,ab,ac,ad,ae,af,ag,ah,ai,aj,ak,al,am,an,ao,ap,aq,ar,au,av,aw,ax,ay,az,ba,bb,bc,bd,be,bf,bg,bh,bi,bj,bk,bl,bm,bn,bo,bp,bq,br,bs,bt,bu,bv,bw,bx,bz,ca,cb,cc,cd,ce,cf,cg,ch,ci,cj,ck,cl,cm,cn,co,cp,cq,cr,cs,ct,cu,cv,cw,cx,cy,cz,da,db,dc,dd,de,df,dg,dh,di,dj,dk,dl,dm,dn,dp,dq,dr,ds,dt,du,dv,dw,dx,dy,dz,ea,eb,ec,ed,ee,ef,eg,eh,ei,ej,ek,el,em,en,eo,ep,eq,er,es,et,eu,ev,ew,ex,ey,ez,fb,fc,fd,fe,ff,fg,fh,fi,fj,fk,fl,fm,fn,fo,fp,fq,fr,fs,ft,fu,fv,fw,fx,fy,fz,ga,gb,gc,gd,ge,gf,gg,gh,gi,gj,gk,gl,gm,gn,go,gp,gq,gr,gs,gt,gu,gv,gw,gx,gy,gz,ha,hb,hc,hd,he,hf,hg,hh,hi,hj,hk,hl,hm,hn,ho,hp,hq⟩
   dsimp only [L2.KOf,L2.NoAttr] at hh⊢
   apply Exists.intro
   refine' ⟨?bb,?tx⟩
   case tx=>
    apply hh
    iterate 18 (refine' L2.ft_mk KX G ?a ?b ?c ?d ?e;(case a=>k_is);(case b=>k_is);(case c=>k_is);(case d=>k_is);(case e=>first|(intro _ _ _ _ _ _ u h;obtain ⟨_,rfl⟩:=L2.lv1 u h;rfl)|(intro _ _ _ _ _ _ u h;obtain ⟨_,_,rfl⟩:=L2.lv2 u h;rfl)|(intro _ _ _ _ _ _ u h;obtain ⟨_,_,_,rfl⟩:=L2.lv3 u h;rfl)|(intro _ _ _ _ _ _ u h;obtain ⟨_,_,_,_,rfl⟩:=L2.lv4 u h;rfl)|(intro _ _ _ _ _ _ u h;obtain ⟨_,_,_,_,_,rfl⟩:=L2.lv5 u h;rfl)|(intro _ _ _ _ _ _ u h;obtain ⟨_,_,_,_,_,_,_,rfl⟩:=L2.lv7 u h;rfl)))
    refine' L2.ftd_mk KX G ?a ?b ?c ?d ?e ?f ?g;(case a=>k_is);(case b=>k_is);(case c=>k_is);(case d=>k_is);(case e=>k_is);(case f=>rfl);(case g=>intro u h;obtain ⟨_,_,rfl⟩:=L2.lv2 u h;exact ⟨_,rfl,rfl⟩)
    iterate 29 (refine' L2.ft_mk KX G ?a ?b ?c ?d ?e;(case a=>k_is);(case b=>k_is);(case c=>k_is);(case d=>k_is);(case e=>first|(intro _ _ _ _ _ _ u h;obtain ⟨_,rfl⟩:=L2.lv1 u h;rfl)|(intro _ _ _ _ _ _ u h;obtain ⟨_,_,rfl⟩:=L2.lv2 u h;rfl)|(intro _ _ _ _ _ _ u h;obtain ⟨_,_,_,rfl⟩:=L2.lv3 u h;rfl)|(intro _ _ _ _ _ _ u h;obtain ⟨_,_,_,_,rfl⟩:=L2.lv4 u h;rfl)|(intro _ _ _ _ _ _ u h;obtain ⟨_,_,_,_,_,rfl⟩:=L2.lv5 u h;rfl)|(intro _ _ _ _ _ _ u h;obtain ⟨_,_,_,_,_,_,_,rfl⟩:=L2.lv7 u h;rfl)))
    iterate 12 (refine' PySem.W.mg_of KX G ?a;(case a=>k_is))
    iterate 17 (refine' PySem.W.mg_none_of KX G ?a;(case a=>k_is))
    iterate 20 (refine' PySem.W.mg_of KX G ?a;(case a=>k_is))
    iterate 33 (k_is)
    iterate 11 (refine' L2.fm_mk ?a ?b ?c ?d;(case a=>k_is);(case b=>k_is);(case c=>k_is);(case d=>first|(intro _ _ _ _ _ _ u h;obtain ⟨_,rfl⟩:=L2.lv1 u h;rfl)|(intro _ _ _ _ _ _ u h;obtain ⟨_,_,rfl⟩:=L2.lv2 u h;rfl)|(intro _ _ _ _ _ _ u h;obtain ⟨_,_,_,rfl⟩:=L2.lv3 u h;rfl)|(intro _ _ _ _ _ _ u h;obtain ⟨_,_,_,_,rfl⟩:=L2.lv4 u h;rfl)|(intro _ _ _ _ _ _ u h;obtain ⟨_,_,_,_,_,rfl⟩:=L2.lv5 u h;rfl)|(intro _ _ _ _ _ _ u h;obtain ⟨_,_,_,_,_,_,_,rfl⟩:=L2.lv7 u h;rfl)))
    refine' L2.fmd_mk ?a ?b ?c ?d ?e ?f;(case a=>k_is);(case b=>k_is);(case c=>k_is);(case d=>k_is);(case e=>rfl);(case f=>intro u h;obtain ⟨_,_,_,rfl⟩:=L2.lv3 u h;exact ⟨_,rfl,rfl⟩)
    iterate 21 (refine' L2.fm_mk ?a ?b ?c ?d;(case a=>k_is);(case b=>k_is);(case c=>k_is);(case d=>first|(intro _ _ _ _ _ _ u h;obtain ⟨_,rfl⟩:=L2.lv1 u h;rfl)|(intro _ _ _ _ _ _ u h;obtain ⟨_,_,rfl⟩:=L2.lv2 u h;rfl)|(intro _ _ _ _ _ _ u h;obtain ⟨_,_,_,rfl⟩:=L2.lv3 u h;rfl)|(intro _ _ _ _ _ _ u h;obtain ⟨_,_,_,_,rfl⟩:=L2.lv4 u h;rfl)|(intro _ _ _ _ _ _ u h;obtain ⟨_,_,_,_,_,rfl⟩:=L2.lv5 u h;rfl)|(intro _ _ _ _ _ _ u h;obtain ⟨_,_,_,_,_,_,_,rfl⟩:=L2.lv7 u h;rfl)))
    refine' L2.bdd_mk (n:=2) rfl rfl ?a ?b ?c;(case a=>k_is);(case b=>rfl);(case c=>intro u h;obtain ⟨_,_,rfl⟩:=L2.lv2 u h;exact ⟨_,rfl,rfl⟩)
    iterate 9 (refine' L2.xc_mk ?a ?b ?c;(case a=>k_is);(case b=>kernel_rfl);(case c=>kernel_rfl))
    refine' L2.ec_mk ?a ?b;(case a=>k_is);(case b=>k_is)
    iterate 42 (constructor <;> k_is)
    iterate 38 (k_is)
    iterate 18 (kernel_rfl)
   case bb=>exact λs v=>.of_eq rfl
  obtain ⟨a,b,T⟩:=T
  have e:=hmg.symm.trans T.f_law.mgx
  cases e
  exact ⟨a.d_law,b,λbase kb nb=>K22.ok_law T⟩
 case S=>exact λK H a ns hl hO hS=>⟨a,ns,rfl,hS,hl,λ_=>rfl⟩
 case C=>exact λ_ _ _ _ z=>z
#print axioms PySem.Challenge.cw_weirwatch_k22_choices_and_rains_holds
