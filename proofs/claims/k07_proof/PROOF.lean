import PyProof.Rows.All
import Wide.All
import OpenK.AllK
import Wide.FinOn
import Lean
import PyProof.EqAt
import PyProof.EqKinds
import PyProof.TupleCall
import PySem.Challenge.RW_weirwatch_k07_texts_refused_at_the_word
open PySem renaming Addr → S5, Value → S6, Shared → S7, wpAny_bind → S8, wpAny_pure → S9, sizeLine → Sa, Program → Sb, FuncData → Sc, World → Sd, Around → Se, Stmt → Sf, Heap → Sg, wpAny → Sh
open PySem.W renaming Frag → Si, kitOne → Sj, findIn → Sk, mroIn → Sl, instObj → Sm
open List renaming length_map → ye, getElem?_eq_getElem → yi, length_take → yk, getElem?_map → yn, mem_cons → yo, size_toArray → yp, length_append → yq, map_append → yr, length_drop → yx, mem_append → yy, getElem?_eq_some_iff → yz, replicate → yaa, mem_of_getElem? → yab, length_cons → yad, not_mem_nil → yae, mem_singleton → yaf, all_eq_true → yah, map_cons → yaj, mem_map → yal, take_of_length_le → yam, mem_cons_of_mem → yan, mem_of_mem_take → yap, append_nil → yar, lookup_cons → yau, mem_of_mem_drop → yav, mem_append_right → yax, mem_cons_self → ybb, take_add_one → ybc, lookup → ybf, eq_nil_of_length_eq_zero → ybi, filterMap_cons → ybk, map_take → ybm, mem_range → ybn, of_mem_zip → ybr, find?_cons → ybs, length_nil → ybt, getElem_mem → ybu, forall_mem_cons → ybw, mem_append_left → ybx, getElem?_append_right → yca, getElem?_append_left → ycb, length_replicate → ycc, replicate_succ → ycd, getElem?_zip_eq_some → yce, getD_eq_getElem?_getD → ycf, drop_of_length_le → ycg, getElem?_eq_none → yck
open Or renaming inl → yf
open Nat renaming le_refl → yg, ne_of_lt → yu, le_trans → yv, lt_of_lt_of_le → yai, zero_le → yak, lt_of_le_of_lt → yay, lt_irrefl → yba, le_of_lt → ybd, lt_or_ge → ybh, min_eq_left → ybj, ne_of_gt → ybo, not_lt_zero → ybq, eq_zero_or_pos → ybv, lt_succ_self → ybz, log2_le_self → yci
open Ne renaming symm → yh
open PySem.Heap renaming lt_size → yj, get?_push_of_some → ym, get?_push_size → yag, size_push → yaz, get?_update_other → ybg, get?_update_self → ycj
open Option renaming some → yt, map_eq_some_iff → yat, isSome_iff_exists → ybp
open Bool renaming false_ne_true → yw, and_eq_true → yac, false_and → yao, true_and → yaw, eq_iff_iff → ybe
open Sum renaming inr → yaq
open Int renaming eq_ofNat_of_zero_le → yas, emod_lt_of_pos → ych
open Array renaming getElem?_eq_some_iff → ybl, length_toList → yby
set_option Elab.async false
set_option linter.all false
set_option maxRecDepth 100000
namespace L2
open PySem PySem.Spec PyProof.Rows
abbrev Key:=Sum Int Str
def Jtj:Key->S6->Bool
 | .inl k,v=>Value.isInt k v
 | .inr x,v=>Value.isStrOf x v
def Su8 (w:Sd):Key->Int
 | .inl k=>hashInt k
 | .inr x=>hashStr w x
theorem Jl1:∀{k:Key} {v:S6},Jtj k v=true->(∃i t,k=Sum.inl i/\v=Value.int i t)\/(∃x t,k=yaq x/\v=Value.str x t)
 | .inl i,v,h=>by
  obtain ⟨t,e⟩:=Value.isInt_shape (k:=i) (v:=v) h
  exact .inl ⟨i,t,rfl,e⟩
 | .inr x,v,h=>by
  obtain ⟨t,e⟩:=Value.isStrOf_shape (x:=x) (v:=v) h
  exact .inr ⟨x,t,rfl,e⟩
theorem Jya (i:Int) (t:Tok):Jtj (.inl i) (.int i t)=true:=by simp [Jtj,Value.isInt]
theorem Jyb (x:Str) (t:Tok):Jtj (.inr x) (.str x t)=true:=by simp [Jtj,Value.isStrOf]
theorem Slc (a b:Int):decide ((Sum.inl a:Key)=Sum.inl b)=(a==b):=by
 by_cases e:a=b
 ·subst e;simp
 ·have h:¬(Sum.inl a:Key)=Sum.inl b:=λq=>e (Sum.inl.inj q)
  rw [decide_eq_false h]
  exact (beq_eq_false_iff_ne.mpr e).symm
theorem Slf (a b:Str):decide ((yaq a:Key)=yaq b)=decide (a=b):=by
 by_cases e:a=b
 ·subst e;simp
 ·have h:¬(yaq a:Key)=yaq b:=λq=>e (yaq.inj q)
  rw [decide_eq_false h,decide_eq_false e]
theorem Sld (a:Int) (b:Str):decide ((Sum.inl a:Key)=yaq b)=false:=decide_eq_false (λq=>nomatch q)
theorem Sle (a:Str) (b:Int):decide ((yaq a:Key)=Sum.inl b)=false:=decide_eq_false (λq=>nomatch q)
def Jkc (prog:Sb) (w:Sd):PySem.KeyKind prog w Key where
 is:=Jtj
 hash:=Su8 w
 inj:=λv a b ha hb=>by
  rcases Jl1 ha with ⟨i,t,rfl,rfl⟩|⟨x,t,rfl,rfl⟩
  ·rcases Jl1 hb with ⟨j,u,rfl,e⟩|⟨y,u,rfl,e⟩
   ·injection e with e1 _;rw [e1]
   ·exact nomatch e
  ·rcases Jl1 hb with ⟨j,u,rfl,e⟩|⟨y,u,rfl,e⟩
   ·exact nomatch e
   ·injection e with e1 _;rw [e1]
 byValue:=λk v h=>by
  rcases Jl1 h with ⟨i,t,rfl,rfl⟩|⟨x,t,rfl,rfl⟩ <;> rfl
 pyHash:=λhv h=>by
  rcases Jl1 hv with ⟨i,t,rfl,rfl⟩|⟨x,t,rfl,rfl⟩
  ·exact wpAny_pyHash_int h
  ·exact wpAny_pyHash_str h
 eqBool:=λhu hv h=>by
  rcases Jl1 hu with ⟨i,t,rfl,rfl⟩|⟨x,t,rfl,rfl⟩
  ·rcases Jl1 hv with ⟨j,u,rfl,rfl⟩|⟨y,u,rfl,rfl⟩
   ·rw [Slc] at h;exact wpAny_eqBool_int h
   ·rw [Sld] at h;exact SeqAt.EqAt.int_str i t y u _ _ _ _ h
  ·rcases Jl1 hv with ⟨j,u,rfl,rfl⟩|⟨y,u,rfl,rfl⟩
   ·rw [Sle] at h;exact SeqAt.EqAt.str_int x t j u _ _ _ _ h
   ·rw [Slf] at h;exact wpAny_eqBool_str h
 «strs»:=λk x t v h=>by
  rcases Jl1 h with ⟨i,u,rfl,e⟩|⟨y,u,rfl,e⟩
  ·exact nomatch e
  ·injection e with e1 _
   subst e1
   cases v <;> rfl
theorem Jva (prog:Sb) (w:Sd) (i:Int) (t:Tok):(Jkc prog w).is (.inl i) (.int i t)=true:=Jya i t
theorem Jol (prog:Sb) (w:Sd) (x:Str) (t:Tok):(Jkc prog w).is (.inr x) (.str x t)=true:=Jyb x t
inductive V where
 |non|bl (b:Bool)|int (i:Int)|str (x:Str)|byt (b:Array UInt8)|flt (b:UInt64)|ref (a:S5)|ty (n:String)
 deriving DecidableEq
def Sa4:V->S6->Prop
 | .non,u=>u=Value.none
 | .bl b,u=>u=Value.bool b
 | .int i,u=>∃t,u=Value.int i t
 | .str x,u=>∃t,u=Value.str x t
 | .byt b,u=>∃t,u=Value.bytes b t
 | .flt b,u=>∃t,u=Value.float b t
 | .ref a,u=>u=Value.ref a
 | .ty n,u=>u=Value.type n
abbrev Sa2:List V->List S6->Prop:=Paired Sa4
theorem Sa2.length {xs:List V} {us:List S6} (r:Sa2 xs us):xs.length=us.length:=Paired.length r
theorem Sa2.get:∀{xs:List V} {us:List S6} {i:Nat} {x:V},Sa2 xs us->xs[i]?=some x->∃u,us[i]?=some u/\Sa4 x u
 |_,_,_,_,.nil,e=>by simp at e
 |_,_,0,_,.cons r _,e=>by simp at e;subst e;exact ⟨_,rfl,r⟩
 |_,_,i+1,x,.cons _ t,e=>by
  obtain ⟨u,h1,h2⟩:=Sa2.get (i:=i) (x:=x) t (by simpa using e)
  exact ⟨u,by simpa using h1,h2⟩
theorem Sa2.set {x:V} {u:S6} (r:Sa4 x u):∀{xs:List V} {us:List S6} (i:Nat),Sa2 xs us->Sa2 (xs.set i x) (us.set i u)
 |_,_,_,.nil=>.nil
 |_,_,0,.cons _ t=>.cons r t
 |_,_,i+1,.cons q t=>.cons q (Sa2.set r i t)
theorem Sa2.append:∀{xs ys:List V} {us ws:List S6},Sa2 xs us->Sa2 ys ws->Sa2 (xs++ys) (us++ws)
 |_,_,_,_,.nil,s=>s
 |_,_,_,_,.cons r t,s=>.cons r (Sa2.append t s)
theorem Sa2.take:∀{xs:List V} {us:List S6} (n:Nat),Sa2 xs us->Sa2 (xs.take n) (us.take n)
 |_,_,0,_=>.nil
 |_,_,_+1,.nil=>.nil
 |_,_,n+1,.cons r t=>.cons r (Sa2.take n t)
theorem Sa2.drop:∀{xs:List V} {us:List S6} (n:Nat),Sa2 xs us->Sa2 (xs.drop n) (us.drop n)
 |_,_,0,r=>r
 |_,_,_+1,.nil=>.nil
 |_,_,n+1,.cons _ t=>Sa2.drop n t
def Sc4:Option V->Option S6->Prop
 |some v,some u=>Sa4 v u
 |none,none=>True
 |_,_=>False
def KV {κ:Type}:List (κ×V)->List (κ×S6)->Prop:=Paired λ(p:κ×V) (q:κ×S6)=>p.1=q.1/\Sa4 p.2 q.2
def kV:Key->V
 | .inl i=>.int i
 | .inr x=>.str x
inductive HO where
 |lst (xs:List V)
 |tup (xs:List V)
 |dK (kvs:List (Key×V))|dT (kvs:List (List Key×V))
 |set (S:Int->Bool) (n:Nat)
 |ins (C dx:S5) (fs:List (Str×V))
 |own (x:S5)
 |xd (fs:List (Str×V))
 |cod (q:Str)
 |rng (lo hi:Int)
 |frz (o:Obj) (u:HO)
 |tbl (ps:Array (Nat×Nat×Str))
 |ext (φ:Sg->Prop)
abbrev Hp:=S5->Option HO
def upd (H:Hp) (a:S5) (o:HO):Hp:=λb=>if b=a then some o else H b
theorem Sv {H:Hp} {a:S5} {o:HO}:upd H a o a=some o:=by unfold upd;rw [if_pos rfl]
theorem Jjc {H:Hp} {a b:S5} {o:HO} (h:b≠a):upd H a o b=H b:=by unfold upd;rw [if_neg h]
theorem Jlv {H:Hp} {a:S5} {o u:HO}:upd (upd H a o) a u=upd H a u:=by
 funext b;unfold upd;split <;> rfl
theorem Sjr {H:Hp} {a b:S5} {o u:HO} (h:H a=some o) (h':H b=some u) (d:o≠u):a≠b:=by
 intro e;subst e;rw [h] at h';exact d (yt.inj h')
theorem Jjf {H:Hp} {a b:S5} {o:HO} (h:H a=some o) (h':H b=none):a≠b:=by
 intro e;subst e;rw [h] at h';cases h'
def Si7 (o:Obj):HO:=.frz o (.ext λ_=>True)
def Scu (H:Hp) (lb:Array (Nat×Nat×Str)):List S6->Prop
 | []=>True
 | .int l _:: .int c _::v::r=>(∃(n m:Nat) (q:Str) (a:S5),(n,m,q)∈lb/\l=n/\c=m/\v= .ref a/\H a=some (.cod q))/\Scu H lb r
 |_=>False
theorem Scu.mono {H H':Hp} {lb:Array (Nat×Nat×Str)} (k:∀b q,H b=some (.cod q)->H' b=some (.cod q)) {l:List S6} (x:Scu H lb l):Scu H' lb l:=by
 fun_induction Scu H lb l with
 |case1=>exact True.intro
 |case2 l _ c _ v r ih=>
  obtain ⟨⟨n,m,q,a,h1,h2,h3,h4,h5⟩,h6⟩:=x
  exact ⟨⟨n,m,q,a,h1,h2,h3,h4,k _ _ h5⟩,ih h6⟩
 |case3=>exact x.elim
section
variable (P:Sb) (w:Sd)
def Saa (H:Hp) (h:Sg) (a:S5):HO->Prop
 | .lst xs=>xs.length<=Sa/\∃(its:List S6) (n:Nat),Sa2 xs its/\h.get? a=some {cls:=.type "list",data:=.seq its.toArray n}
 | .tup xs=>xs.length<=Sa/\∃its:List S6,Sa2 xs its/\IsTup h a its.toArray
 | .dK kvs=>kvs.length<=Sa/\(a==sysModules)=false/\∃vs,KV kvs vs/\h.DictOf (Jkc P w) a vs
 | .dT kvs=>kvs.length<=Sa/\(a==sysModules)=false/\∃xs:List (List Key×S5×S6),
   Paired (λ(p:List Key×V) (q:List Key×S5×S6)=>p.1=q.1/\H q.2.1=some (.tup (p.1.map kV))/\Sa4 p.2 q.2.2) kvs xs/\
   ∃o es ep,h.get? a=some o/\o.ExactDict/\o.data= .dict es ep/\es.toList=xs.map (entryOfKey (tupleKind (Jkc P w)))/\(xs.map (·.1)).Nodup
 | .set S n=>h.SetOf (intKind P w) a S n
 | .ins C dx fs=>H dx=some (.own a)/\fs.length<=1000/\dx≠a/\h.get? a=some (Sm C dx)/\
   ∃mA,h.Ns1 dx mA/\(∀f,Sc4 (fs.lookup f) (mA f))/\PySem.Within mA (fs.map (·.1))
 | .own _=>∃o,h.get? a=some o
 | .xd fs=>∃mA,h.Ns1 a mA/\∀f,Sc4 (fs.lookup f) (mA f)
 | .rng lo hi=>∃t u v,h.get? a=some {cls:=.type "range",data:=.fields #[.int lo t,.int hi u,.int 1 v]}
 | .frz o u=>h.get? a=some o/\Saa H h a u
 | .tbl lb=>∃ts:Array S6,h.get? a=some ⟨.none,none,.fields ts,#[]⟩/\Scu H lb ts.toList
 | .cod q=>h.CodeRec (.ref a) q
 | .ext φ=>φ h/\(∃o,h.get? a=some o)/\∀h1 h2:Sg,φ h1->(∀o,h1.get? a=some o->h2.get? a=some o)->φ h2
def HOk (H:Hp) (h:Sg):Prop:=∀a o,H a=some o->Saa P w H h a o
end
section
variable {P:Sb} {w:Sd} {H H':Hp} {h h':Sg} {a:S5} {o:HO}
theorem Saa.lt (x:Saa P w H h a o):a < h.objs.size:=by
 cases o with
 |lst xs=>obtain ⟨_,_,_,_,e⟩:=x;exact yj e
 |tup xs=>obtain ⟨_,_,_,p⟩:=x;exact p.lt
 |dK kvs=>obtain ⟨_,_,_,_,o,_,_,e,_⟩:=x;exact yj e
 |dT kvs=>obtain ⟨_,_,_,_,o,_,_,e,_⟩:=x;exact yj e
 |set S n=>obtain ⟨o,_,_,_,e,_⟩:=x;exact yj e
 |ins C dx fs=>obtain ⟨_,_,_,e,_⟩:=x;exact yj e
 |own y=>obtain ⟨_,e⟩:=x;exact yj e
 |xd fs=>obtain ⟨_,⟨_,_,_,e,_⟩,_⟩:=x;exact yj e
 |rng lo hi=>obtain ⟨_,_,_,e⟩:=x;exact yj e
 |frz ob u=>obtain ⟨e,_⟩:=x;exact yj e
 |tbl lb=>obtain ⟨_,e,_⟩:=x;exact yj e
 |cod q=>obtain ⟨_,_,_,_,e1,e2,_⟩:=x;cases e1;exact yj e2
 |ext φ=>obtain ⟨_,⟨_,e⟩,_⟩:=x;exact yj e
theorem Paired.mapP {α β:Type} {F G:α->β->Prop}:∀{l₁:List α} {l₂:List β},Paired F l₁ l₂->(∀a b,F a b->G a b)->Paired G l₁ l₂
 |_,_,.nil,_=>.nil
 |_,_,.cons r t,f=>.cons (f _ _ r) (Paired.mapP t f)
theorem Saa.stay (x:Saa P w H h a o) (k:∀b u,(b=a\/H b=some (.own a))->h.get? b=some u->h'.get? b=some u)
  (ho:∀b,H b=some (.own a)->H' b=some (.own a)) (ht:∀b xs,H b=some (.tup xs)->H' b=some (.tup xs)) (hc:∀b q,H b=some (.cod q)->H' b=some (.cod q)):Saa P w H' h' a o:=by
 induction o with
 |lst xs=>obtain ⟨z,its,n,r,e⟩:=x;exact ⟨z,its,n,r,k _ _ (.inl rfl) e⟩
 |tup xs=>obtain ⟨z,its,r,ob,e,c⟩:=x;exact ⟨z,its,r,ob,k _ _ (.inl rfl) e,c⟩
 |dK kvs=>obtain ⟨z,y,vs,r,ob,es,ep,e,c⟩:=x;exact ⟨z,y,vs,r,ob,es,ep,k _ _ (.inl rfl) e,c⟩
 |dT kvs=>
  obtain ⟨z,y,xs,r,ob,es,ep,e,c⟩:=x
  exact ⟨z,y,xs,Paired.mapP r λp q z=>⟨z.1,ht _ _ z.2.1,z.2.2⟩,ob,es,ep,k _ _ (.inl rfl) e,c⟩
 |set S n=>obtain ⟨ob,es,ep,t,e,c⟩:=x;exact ⟨ob,es,ep,t,k _ _ (.inl rfl) e,c⟩
 |ins C dx fs=>
  obtain ⟨d,z,ne,e,mA,⟨od,es,ep,e2,c⟩,r⟩:=x
  exact ⟨ho _ d,z,ne,k _ _ (.inl rfl) e,mA,⟨od,es,ep,k _ _ (.inr d) e2,c⟩,r⟩
 |own y=>obtain ⟨ob,e⟩:=x;exact ⟨ob,k _ _ (.inl rfl) e⟩
 |xd fs=>obtain ⟨mA,⟨od,es,ep,e,c⟩,r⟩:=x;exact ⟨mA,⟨od,es,ep,k _ _ (.inl rfl) e,c⟩,r⟩
 |rng lo hi=>obtain ⟨t,u,v,e⟩:=x;exact ⟨t,u,v,k _ _ (.inl rfl) e⟩
 |frz ob u ih=>obtain ⟨e,q⟩:=x;exact ⟨k _ _ (.inl rfl) e,ih q⟩
 |tbl lb=>obtain ⟨ts,e,r⟩:=x;exact ⟨ts,k _ _ (.inl rfl) e,r.mono hc⟩
 |cod q=>obtain ⟨c,o,vs,t,e1,e2,e3,e4⟩:=x;cases e1;exact ⟨_,o,vs,t,rfl,k _ _ (.inl rfl) e2,e3,e4⟩
 |ext φ=>obtain ⟨p,⟨o,e⟩,st⟩:=x;exact ⟨st _ _ p λo q=>k _ _ (.inl rfl) q,⟨o,k _ _ (.inl rfl) e⟩,st⟩
theorem HOk.lt (x:HOk P w H h) (e:H a=some o):a < h.objs.size:=(x a o e).lt
theorem HOk.fresh (x:HOk P w H h) (e:h.objs.size<=a):H a=none:=by
 cases q:H a with
 |none=>rfl
 |some u=>exact absurd (yai (x.lt q) e) (yba _)
theorem HOk.kept (x:HOk P w H h) (k:∀b u,h.get? b=some u->h'.get? b=some u):HOk P w H h':=λa o e=>
 (x a o e).stay (λb u _ q=>k b u q) (λ_ q=>q) (λ_ _ q=>q) λ_ _ q=>q
theorem HOk.laid (x:HOk P w H h) (k:∀b u,h.get? b=some u->h'.get? b=some u) (hp:h.objs.size<=a) (new:Saa P w (upd H a o) h' a o):HOk P w (upd H a o) h':=λb u e=>by
 have hn:=x.fresh hp
 by_cases hb:b=a
 ·subst hb;rw [Sv] at e;cases e;exact new
 ·rw [Jjc hb] at e
  exact (x b u e).stay (λc v _ q=>k c v q) (λc q=>by rw [Jjc (Jjf q hn)];exact q) (λc xs q=>by rw [Jjc (Jjf q hn)];exact q) λc xs q=>by rw [Jjc (Jjf q hn)];exact q
end
def Rd (H:Hp) (a:S5) (u:HO):Prop:=H a=some u\/∃o,H a=some (.frz o u)
theorem Rd.ok {P:Sb} {w:Sd} {H:Hp} {h:Sg} {a:S5} {u:HO} (r:Rd H a u) (x:HOk P w H h):Saa P w H h a u:=by
 rcases r with r|⟨o,r⟩
 ·exact x a u r
 ·obtain ⟨_,q⟩:=x a _ r
  exact q
def Mut:Option HO->Prop
 |some (.lst _)=>True
 |some (.dK _)=>True
 |some (.dT _)=>True
 |some (.set _ _)=>True
 |some (.ins _ _ _)=>True
 |some (.ext _)=>True
 |_=>False
section
variable {P:Sb} {w:Sd} {H:Hp} {h h':Sg} {x e:S5} {o':HO}
theorem HOk.write (ok:HOk P w H h) (mu:Mut (H x)) (he:e=x\/H e=some (.own x)) (k:∀b u,b≠e->h.get? b=some u->h'.get? b=some u) (heo:∃u,h'.get? e=some u)
  (new:Saa P w (upd H x o') h' x o'):HOk P w (upd H x o') h':=λb u q=>by
 have nown:∀c y,H c=some (.own y)->c≠x:=λc y r z=>by subst z;rw [r] at mu;exact mu
 have ntup:∀c xs,H c=some (.tup xs)->c≠x:=λc xs r z=>by subst z;rw [r] at mu;exact mu
 by_cases hb:b=x
 ·subst hb;rw [Sv] at q;cases q;exact new
 ·rw [Jjc hb] at q
  by_cases hbe:b=e
  ·have q':H b=some (.own x):=by
    rcases he with z|z
    ·exact absurd (hbe.trans z) hb
    ·rw [hbe];exact z
   rw [q] at q';cases q'
   obtain ⟨v,hv⟩:=heo
   exact ⟨v,by rw [hbe];exact hv⟩
  ·refine (ok b u q).stay (λc v hc r=>k c v ?_ r) (λc r=>by rw [Jjc (nown c b r)];exact r) (λc xs r=>by rw [Jjc (ntup c xs r)];exact r) λc xs r=>by rw [Jjc λz=>by subst z;rw [r] at mu;exact mu];exact r
   rcases hc with rfl|hc
   ·exact hbe
   ·rintro rfl
    rcases he with z|z
    ·exact nown c b hc z
    ·rw [hc] at z;cases z;exact hb rfl
end
structure Un (fs ex:List S5) (H H':Hp) (h h':Sg):Prop where
 keep:∀b o,h.get? b=some o->H b=none->b∉fs->b∉ex->h'.get? b=some o
 slot:∀b o,h.get? b=some o->H b=none->b∈fs->b∉ex->∃sl,h'.get? b=some {o with slots:=sl}
 free:∀b o,h.get? b=some o->H b=none->b∉ex->H' b=none
 there:∀b o,h.get? b=some o->b∉ex->∃o',h'.get? b=some o'
 tups:∀b xs,H b=some (.tup xs)->H' b=some (.tup xs)
 frzs:∀b o u,H b=some (.frz o u)->H' b=some (.frz o u)
 tbls:∀b ps,H b=some (.tbl ps)->∃more,H' b=some (.tbl (ps++more))
section
variable {fs fs' ex ex':List S5} {H H1 H2:Hp} {h h1 h2 h':Sg} {a x e:S5} {o:HO}
theorem Un.any (u:Un fs ex H H1 h h1) {b:S5} {ob:Obj} (q:h.get? b=some ob) (n:H b=none) (hx:b∉ex):∃sl,h1.get? b=some {ob with slots:=sl}:=by
 by_cases hb:b∈fs
 ·exact u.slot b ob q n hb hx
 ·exact ⟨ob.slots,u.keep b ob q n hb hx⟩
theorem Un.trans (a:Un fs ex H H1 h h1) (b:Un fs ex H1 H2 h1 h2):Un fs ex H H2 h h2 where
 keep:=λc ob q n hc hx=>b.keep c ob (a.keep c ob q n hc hx) (a.free c ob q n hx) hc hx
 slot:=λc ob q n hc hx=>by
  obtain ⟨sl,e1⟩:=a.slot c ob q n hc hx
  obtain ⟨sl',e2⟩:=b.slot c _ e1 (a.free c ob q n hx) hc hx
  exact ⟨sl',e2⟩
 free:=λc ob q n hx=>by
  obtain ⟨o',e1⟩:=a.there c ob q hx
  exact b.free c o' e1 (a.free c ob q n hx) hx
 there:=λc ob q hx=>by
  obtain ⟨o',e1⟩:=a.there c ob q hx
  exact b.there c o' e1 hx
 tups:=λc xs q=>b.tups c xs (a.tups c xs q)
 frzs:=λc ob xs q=>b.frzs c ob xs (a.frzs c ob xs q)
 tbls:=λc ps q=>by
  obtain ⟨m1,e1⟩:=a.tbls c ps q
  obtain ⟨m2,e2⟩:=b.tbls c _ e1
  exact ⟨m1++m2,by rw [e2,Array.append_assoc]⟩
theorem Un.kept (k:∀b u,h.get? b=some u->h'.get? b=some u):Un fs ex H H h h':=
 ⟨λb ob q _ _ _=>k b ob q,λb ob q _ _ _=>⟨ob.slots,k b ob q⟩,λ_ _ _ n _=>n,λb ob q _=>⟨ob,k b ob q⟩,λ_ _ q=>q,λ_ _ _ q=>q,λ_ ps q=>⟨#[],by rw [q];simp⟩⟩
theorem Un.refl:Un fs ex H H h h:=Un.kept λ_ _ q=>q
theorem Un.laid (k:∀b u,h.get? b=some u->h'.get? b=some u) (hp:h.objs.size<=a) (hn:H a=none):Un fs ex H (upd H a o) h h' where
 keep:=λb u q _ _ _=>k b u q
 slot:=λb u q _ _ _=>⟨u.slots,k b u q⟩
 free:=λb u q n _=>by rw [Jjc (yu (yai (yj q) hp))];exact n
 there:=λb u q _=>⟨u,k b u q⟩
 tups:=λb xs q=>by rw [Jjc (Jjf q hn)];exact q
 frzs:=λb u xs q=>by rw [Jjc (Jjf q hn)];exact q
 tbls:=λb ps q=>⟨#[],by rw [Jjc (Jjf q hn),q];simp⟩
theorem Un.write (mu:Mut (H x)) (he:e=x\/H e=some (.own x)) (k:∀b u,b≠e->h.get? b=some u->h'.get? b=some u) (heo:∃u,h'.get? e=some u):Un fs ex H (upd H x o) h h':=by
 have hx:∀b,H b=none->b≠x:=λb n z=>by subst z;rw [n] at mu;exact mu
 have hb:∀b,H b=none->b≠e:=λb n z=>by
  subst z
  rcases he with r|r
  ·exact hx b n r
  ·rw [n] at r;cases r
 have hm:∀b u,H b=some u->¬Mut (some u)->b≠x:=λb u q nm z=>by subst z;rw [q] at mu;exact nm mu
 refine ⟨λb u q n _ _=>k b u (hb b n) q,λb u q n _ _=>⟨u.slots,k b u (hb b n) q⟩,λb u q n _=>by rw [Jjc (hx b n)];exact n,λb u q _=>?_,
  λb xs q=>by rw [Jjc (hm b _ q λz=>z)];exact q,λb u xs q=>by rw [Jjc (hm b _ q λz=>z)];exact q,λb ps q=>⟨#[],by rw [Jjc (hm b _ q λz=>z),q];simp⟩⟩
 by_cases hbe:b=e
 ·subst hbe;exact heo
 ·exact ⟨u,k b u hbe q⟩
end
def trk (h:Sg) (H:Hp):List S5:=(List.range h.objs.size).filter λa=>(H a).isSome
def Ju3 (h:Sg) (H:Hp):Sg:=PySem.W.hideAll h (trk h H)
theorem Jy8 (h:Sg) (H:Hp):(Ju3 h H).objs.size=h.objs.size:=PySem.W.hideAll_size _ _
theorem Jrv {h:Sg} {H:Hp} {b:S5} {o:Obj} (e:h.get? b=some o) (n:H b=none):(Ju3 h H).get? b=some o:=
 PySem.W.hideAll_get _ e λhm=>by
  have q:(H b).isSome=true:=(List.mem_filter.mp hm).2
  rw [n] at q;simp at q
theorem Yak {h:Sg} {H:Hp} {b:S5} {o:Obj} (e:(Ju3 h H).get? b=some o):h.get? b=some o/\H b=none:=by
 have e':h.get? b=some o:=PySem.W.of_hideAll (trk h H) e
 refine ⟨e',?_⟩
 cases q:H b with
 |none=>rfl
 |some x=>
  have hm:b∈trk h H:=List.mem_filter.mpr ⟨ybn.mpr (yj e'),by simp [q]⟩
  have z:(Ju3 h H).get? b=none:=PySem.W.hideAll_none (trk h H) hm
  rw [z] at e;cases e
structure Mod (K:Si) (mg:Str->Option S6) (base:Sg):Prop where
 kin:K.In base
 glob:base.Ns mainGlobals mg
 blt:∃mb,base.Ns builtinsNs mb/\∀x:Str,x≠"__name__" ->mb x=bootBuiltins x
 nolimit:base.NoLimit
structure Cx where
 prog:Sb
 w:Sd
 K:Si
 mg:Str->Option S6
 base:Sg
 A:Se
 N:List Str
 s₀:S7
 H₀:Hp
 env:Env
 outer:List Env
 stack:List Env
 ex:List S5
 fn:Str->Bool
 calm:Bool
 pn:List (S5×Obj)
 xe:S6->S7->Prop
def frs (l:List Env):List S5:=l.filterMap (·.frame)
abbrev Cx.fs (X:Cx):List S5:=frs X.outer
def Vis (sc:Scope) (x:Str):Prop:=sc.names.lookup x=some .local\/sc.names.lookup x=some .cell\/sc.names.lookup x=some .free
def Loc (sc:Scope) (x:Str):Prop:=sc.names.lookup x=some .local\/sc.names.lookup x=some .cell
def Stt (env:Env) (h:Sg) (m:Str->Option S6) (x:Str) (u:S6):Prop:=
 (env.kindOf x=some .local/\m x=some u)\/((env.kindOf x=some .cell\/env.kindOf x=some .free)/\∃c,env.cells.lookup x=some c/\h.IsCell c (some u))
structure Cx.Ok (X:Cx):Prop where
 mod:Mod X.K X.mg X.base
 kind:X.env.scope.kind= .function
 glob:X.env.globals=mainGlobals
 blt:X.env.builtins=builtinsNs
 above:X.s₀.heap.objs.size<=X.env.locals
 inj:∀x y c,X.env.cells.lookup x=some c->X.env.cells.lookup y=some c->x=y
 has:∀x,(X.env.kindOf x=some .cell\/X.env.kindOf x=some .free)->∃c,X.env.cells.lookup x=some c
 cab:∀x c,X.fn x=true->X.env.cells.lookup x=some c->X.s₀.heap.objs.size<=c
 hd:X.calm=true->X.A.handled=none
 frames:X.A.frames=some X.stack
 stk:X.stack=X.outer\/(X.stack=X.env::X.outer/\X.env.frame=some X.env.locals)
 exf:∀b∈X.ex,b≠X.env.locals/\∀x c,X.env.cells.lookup x=some c->c≠b
 bs:∀b o,X.base.get? b=some o->X.s₀.heap.get? b=some o/\X.H₀ b=none
 bsz:X.base.objs.size<=X.s₀.heap.objs.size
 noex:∀b o,X.base.get? b=some o->b∉X.ex
 exfs:∀b∈X.ex,b∉X.fs
 funs:X.s₀.heap.FunFrames X.base X.outer
 frf:∀b∈X.fs,X.H₀ b=none
structure Sw (X:Cx) (pins:List (S5×Obj)) (σ:List (Option V)) (H:Hp) (s:S7):Prop where
 ok:X.Ok
 os:s.os=X.s₀.os
 bare:AllBare s.gens
 base:Un X.fs X.ex X.H₀ H X.s₀.heap s.heap
 loc:∃m,s.heap.Ns X.env.locals m/\∀(i:Nat) (x:Str) (v:V),X.N[i]?=some x->σ[i]?=some (some v)->Vis X.env.scope x->∃u,Sa4 v u/\Stt X.env s.heap m x u
 cell:∀x c,X.env.cells.lookup x=some c->∃v,s.heap.IsCell c v
 free:H X.env.locals=none
 freeC:∀x c,X.env.cells.lookup x=some c->H c=none\/(X.fn x=false/\∃o,H c=some (Si7 o))
 pin:∀p∈X.pn++pins,s.heap.get? p.1=some p.2/\H p.1=none/\p.1≠X.env.locals/\p.1∉X.fs/\∀v,p.2.data≠ .cell v
 hok:HOk X.prog X.w H s.heap
 len:σ.length=X.N.length
section
variable {X:Cx} {pins:List (S5×Obj)} {σ:List (Option V)} {H H':Hp} {s:S7} {h':Sg}
theorem Cx.Ok.nofr (ok:X.Ok) {b:S5} {o:Obj} (e:X.base.get? b=some o):b∉X.fs:=λhb=>by
 have:=(ok.funs.mem hb).1
 rw [e] at this;cases this
theorem Sw.bs (I:Sw X pins σ H s):∀b o,X.base.get? b=some o->s.heap.get? b=some o/\H b=none:=λb o e=>
 ⟨I.base.keep b o (I.ok.bs b o e).1 (I.ok.bs b o e).2 (I.ok.nofr e) (I.ok.noex b o e),I.base.free b o (I.ok.bs b o e).1 (I.ok.bs b o e).2 (I.ok.noex b o e)⟩
theorem Sw.bk (I:Sw X pins σ H s):∀b o,X.base.get? b=some o->s.heap.get? b=some o:=λb o e=>(I.bs b o e).1
theorem Sw.mod (I:Sw X pins σ H s):Mod X.K X.mg X.base:=I.ok.mod
theorem Sw.kIn (I:Sw X pins σ H s):X.K.In s.heap:=I.ok.mod.kin.keeps I.bk
theorem Sw.lt (I:Sw X pins σ H s):X.env.locals < s.heap.objs.size:=let ⟨_,hn,_⟩:=I.loc;hn.lt
theorem Sw.sz (I:Sw X pins σ H s):X.s₀.heap.objs.size<=s.heap.objs.size:=yv I.ok.above (ybd I.lt)
theorem Sw.nofs (I:Sw X pins σ H s) {a:S5} (h:s.heap.objs.size<=a):a∉X.fs:=λhb=>by
 obtain ⟨_,o,ho,_⟩:=I.ok.funs.mem hb
 exact absurd (yai (yj ho) (yv I.sz h)) (yba _)
theorem Sw.cne (I:Sw X pins σ H s):∀x c,X.env.cells.lookup x=some c->c≠X.env.locals:=λx c e z=>by
 obtain ⟨v,o,ho,hd⟩:=I.cell x c e
 obtain ⟨m,⟨o',es,ep,ho',hd',_⟩,_⟩:=I.loc
 rw [z,ho'] at ho;cases ho;rw [hd'] at hd;cases hd
theorem Sw.funs (I:Sw X pins σ H s):s.heap.FunFrames X.base X.outer:=by
 have all:∀(l:List Env),(∀b∈frs l,b∈X.fs)->X.s₀.heap.FunFrames X.base l->s.heap.FunFrames X.base l:=by
  intro l
  induction l with
  |nil=>intro _ _;trivial
  |cons env r ih=>
   intro hs hl
   obtain ⟨hk,⟨L,o,hf,hn,ho,hd⟩,hr⟩:=hl
   have hL:L∈X.fs:=hs L (by unfold frs;rw [ybk,hf];exact ybb)
   obtain ⟨sl,e⟩:=I.base.slot L o ho (I.ok.frf L hL) hL λz=>I.ok.exfs L z hL
   exact ⟨hk,⟨L,_,hf,hn,e,hd⟩,ih (λb hb=>hs b (by unfold frs;rw [ybk,hf];exact yan _ hb)) hr⟩
 exact all X.outer (λ_ hb=>hb) I.ok.funs
theorem Sw.stack (I:Sw X pins σ H s):s.heap.FunFrames X.base X.stack:=by
 rcases I.ok.stk with e|⟨e,hf⟩
 ·rw [e];exact I.funs
 ·rw [e]
  obtain ⟨m,hn,_⟩:=I.loc
  refine .cons (by rw [I.ok.kind];decide) hf hn ?_ I.funs
  exact Heap.get?_none_of_le (yv I.ok.bsz I.ok.above)
theorem Sw.stkSub (I:Sw X pins σ H s):∀b∈frs X.stack,b∈X.env.locals::X.fs:=λb hb=>by
 rcases I.ok.stk with e|⟨e,hf⟩
 ·rw [e] at hb;exact yan _ hb
 ·rw [e] at hb
  unfold frs at hb
  rw [ybk,hf] at hb
  exact hb
theorem Sw.stkFree (I:Sw X pins σ H s):∀b∈frs X.stack,H b=none:=λb hb=>by
 rcases yo.mp (I.stkSub b hb) with e|hb
 ·rw [e];exact I.free
 ·obtain ⟨_,o,ho,_⟩:=I.ok.funs.mem hb
  exact I.base.free b o ho (I.ok.frf b hb) λz=>I.ok.exfs b z hb
theorem Sw.step {g':Array GenState} {t':Nat} {d':Drawn} {ch:List S5} (I:Sw X pins σ H s)
  (hch:∀b∈ch,(b∈X.ex\/X.s₀.heap.objs.size<=b)/\b≠X.env.locals/\(∀x c,X.env.cells.lookup x=some c->c≠b)/\∀p∈X.pn++pins,p.1≠b)
  (keep:∀b o,b≠X.env.locals->b∉X.fs->b∉ch->s.heap.get? b=some o->H b=none->h'.get? b=some o)
  (slot:∀b o,b≠X.env.locals->b∈X.fs->b∉ch->s.heap.get? b=some o->H b=none->∃sl,h'.get? b=some {o with slots:=sl}) (free:∀b o,b∉ch->s.heap.get? b=some o->H b=none->H' b=none)
  (there:∀b o,b∉ch->s.heap.get? b=some o->∃o',h'.get? b=some o')
  (tups:∀b xs,H b=some (.tup xs)->H' b=some (.tup xs)) (frzs:∀b o u,H b=some (.frz o u)->H' b=some (.frz o u)) (tbls:∀b ps,H b=some (.tbl ps)->∃more,H' b=some (.tbl (ps++more)))
  (ns:∀m,s.heap.Ns X.env.locals m->h'.Ns X.env.locals m) (hok:HOk X.prog X.w H' h') (hg:AllBare g'):
  Sw X pins σ H' {s with heap:=h',gens:=g',drawn:=d',toks:=t'}:=by
 have neL:∀b o,X.s₀.heap.get? b=some o->b≠X.env.locals:=λb o e=>yu (yai (yj e) I.ok.above)
 have neC:∀b o,X.s₀.heap.get? b=some o->b∉X.ex->b∉ch:=λb o e hx hb=>by
  rcases (hch b hb).1 with z|z
  ·exact hx z
  ·exact absurd (yai (yj e) z) (yba _)
 have cellK:∀x c,X.env.cells.lookup x=some c->∀v,s.heap.IsCell c v->h'.IsCell c v:=λx c e v ⟨o,ho,hd⟩=>by
  have nch:c∉ch:=λz=>(hch c z).2.2.1 x c e rfl
  rcases I.freeC x c e with n|⟨_,ob,q⟩
  ·by_cases hc:c∈X.fs
   ·obtain ⟨sl,q⟩:=slot c o (I.cne x c e) hc nch ho n
    exact ⟨_,q,hd⟩
   ·exact ⟨o,keep c o (I.cne x c e) hc nch ho n,hd⟩
  ·obtain ⟨e1,_⟩:=I.hok c _ q
   obtain ⟨e2,_⟩:=hok c _ (frzs c ob _ q)
   rw [ho] at e1;cases e1
   exact ⟨_,e2,hd⟩
 refine ⟨I.ok,I.os,hg,⟨λb o e n hb hx=>?_,λb o e n hb hx=>?_,λb o e n hx=>?_,λb o e hx=>?_,λb xs e=>tups b xs (I.base.tups b xs e),λb o xs e=>frzs b o xs (I.base.frzs b o xs e),λb ps e=>?_⟩,?_,λx c e=>?_,?_,λx c e=>?_,λp hp=>?_,hok,I.len⟩
 ·exact keep b o (neL b o e) hb (neC b o e hx) (I.base.keep b o e n hb hx) (I.base.free b o e n hx)
 ·obtain ⟨sl,e1⟩:=I.base.slot b o e n hb hx
  obtain ⟨sl',e2⟩:=slot b _ (neL b o e) hb (neC b o e hx) e1 (I.base.free b o e n hx)
  exact ⟨sl',e2⟩
 ·obtain ⟨o',e1⟩:=I.base.there b o e hx
  exact free b o' (neC b o e hx) e1 (I.base.free b o e n hx)
 ·obtain ⟨o',e1⟩:=I.base.there b o e hx
  exact there b o' (neC b o e hx) e1
 ·obtain ⟨m1,e1⟩:=I.base.tbls b ps e
  obtain ⟨m2,e2⟩:=tbls b _ e1
  exact ⟨m1++m2,by rw [e2,Array.append_assoc]⟩
 ·obtain ⟨m,hn,hl⟩:=I.loc
  refine ⟨m,ns m hn,λi x v e1 e2 e3=>?_⟩
  obtain ⟨u,r,l⟩:=hl i x v e1 e2 e3
  refine ⟨u,r,?_⟩
  rcases l with l|⟨k,c,e,z⟩
  ·exact .inl l
  ·exact .inr ⟨k,c,e,cellK x c e _ z⟩
 ·obtain ⟨v,z⟩:=I.cell x c e
  exact ⟨v,cellK x c e v z⟩
 ·obtain ⟨m,⟨o,_,_,ho,_⟩,_⟩:=I.loc
  exact free _ o (λz=>(hch _ z).2.1 rfl) ho I.free
 ·obtain ⟨v,o,ho,hd⟩:=I.cell x c e
  rcases I.freeC x c e with n|⟨hf,ob,q⟩
  ·exact .inl (free c o (λz=>(hch c z).2.2.1 x c e rfl) ho n)
  ·exact .inr ⟨hf,ob,frzs c ob _ q⟩
 ·obtain ⟨e,n,ne,nf,d⟩:=I.pin p hp
  have nch:p.1∉ch:=λz=>(hch p.1 z).2.2.2 p hp rfl
  exact ⟨keep p.1 p.2 ne nf nch e n,free p.1 p.2 nch e n,ne,nf,d⟩
theorem Sw.un {t':Nat} (I:Sw X pins σ H s) (u:Un X.fs [] H H' s.heap h') (hok:HOk X.prog X.w H' h'):Sw X pins σ H' {s with heap:=h',toks:=t'}:=by
 obtain ⟨m,⟨o,es,ep,ho,r⟩,_⟩:=id I.loc
 obtain ⟨sl,hL⟩:=u.any ho I.free (by simp)
 exact I.step (g':=s.gens) (d':=s.drawn) (ch:=[]) (λ_ z=>nomatch z) (λb o _ hb _ e n=>u.keep b o e n hb (by simp)) (λb o _ hb _ e n=>u.slot b o e n hb (by simp)) (λb o _ e n=>u.free b o e n (by simp)) (λb o _ e=>u.there b o e (by simp)) u.tups u.frzs u.tbls (λm' hm=>by
  obtain ⟨o',es',ep',ho',r'⟩:=hm
  rw [ho] at ho';cases ho'
  exact ⟨_,es',ep',hL,r'⟩) hok I.bare
theorem Sw.call {g':Array GenState} {t':Nat} {d':Drawn} {ch:List S5} (I:Sw X pins σ H s) (u:Un (frs X.stack) ch H H' s.heap h') (hok:HOk X.prog X.w H' h') (hg:AllBare g')
  (hch:∀b∈ch,(b∈X.ex\/X.s₀.heap.objs.size<=b)/\b≠X.env.locals/\(∀x c,X.env.cells.lookup x=some c->c≠b)/\∀p∈X.pn++pins,p.1≠b):
  Sw X pins σ H' {s with heap:=h',gens:=g',drawn:=d',toks:=t'}:=by
 obtain ⟨m,⟨o,es,ep,ho,r⟩,_⟩:=id I.loc
 obtain ⟨sl,hL⟩:=u.any ho I.free λz=>(hch _ z).2.1 rfl
 exact I.step (ch:=ch) hch (λb o hL hb hc e n=>u.keep b o e n (λz=>(yo.mp (I.stkSub b z)).elim hL hb) hc) (λb o _ _ hc e n=>u.any e n hc) (λb o hc e n=>u.free b o e n hc) (λb o hc e=>u.there b o e hc) u.tups u.frzs u.tbls (λm' hm=>by
  obtain ⟨o',es',ep',ho',r'⟩:=hm
  rw [ho] at ho';cases ho'
  exact ⟨_,es',ep',hL,r'⟩) hok hg
theorem Sw.turned {t':Nat} {it:S5} (I:Sw X pins σ H s) (k:∀b o,b≠it->s.heap.get? b=some o->h'.get? b=some o) (hn:H it=none) (hL:it≠X.env.locals)
  (h1:it∈X.ex\/X.s₀.heap.objs.size<=it) (h2:∀x c,X.env.cells.lookup x=some c->c≠it) (h3:∀p∈X.pn++pins,p.1≠it):Sw X pins σ H {s with heap:=h',toks:=t'}:=by
 have nit:∀b u,H b=some u->b≠it:=λb u e z=>by rw [z,hn] at e;cases e
 refine I.step (g':=s.gens) (d':=s.drawn) (ch:=[it]) (λb hb=>?_) (λb o _ _ hc e _=>k b o (λz=>hc (by simp [z])) e) (λb o _ _ hc e _=>⟨o.slots,k b o (λz=>hc (by simp [z])) e⟩) (λ_ _ _ _ n=>n)
  (λb o hc e=>⟨o,k b o (λz=>hc (by simp [z])) e⟩) (λ_ _ e=>e) (λ_ _ _ e=>e) (λb ps e=>⟨#[],by rw [e];simp⟩) (λm hm=>?_) (λb u e=>?_) I.bare
 ·have e:b=it:=by simpa using hb
  subst e
  exact ⟨h1,hL,h2,h3⟩
 ·obtain ⟨o,es,ep,ho,r⟩:=hm
  exact ⟨o,es,ep,k _ o (yh hL) ho,r⟩
 ·refine (I.hok b u e).stay (λc v hc q=>k c v ?_ q) (λ_ q=>q) (λ_ _ q=>q) λ_ _ q=>q
  rcases hc with z|z
  ·rw [z];exact nit b u e
  ·exact nit c _ z
theorem Sw.tok (I:Sw X pins σ H s) (t:Nat):Sw X pins σ H {s with toks:=t}:=I.un (h':=s.heap) (t':=t) Un.refl I.hok
theorem Sw.kept {t':Nat} (I:Sw X pins σ H s) (k:∀b u,s.heap.get? b=some u->h'.get? b=some u):Sw X pins σ H {s with heap:=h',toks:=t'}:=I.un (Un.kept k) (I.hok.kept k)
theorem Sw.laid {a:S5} {o:HO} {t':Nat} (I:Sw X pins σ H s) (k:∀b u,s.heap.get? b=some u->h'.get? b=some u) (hp:s.heap.objs.size<=a) (new:Saa X.prog X.w (upd H a o) h' a o):
  Sw X pins σ (upd H a o) {s with heap:=h',toks:=t'}:=I.un (Un.laid k hp (I.hok.fresh hp)) (I.hok.laid k hp new)
theorem Sw.write {x e:S5} {o:HO} {t':Nat} (I:Sw X pins σ H s) (mu:Mut (H x)) (he:e=x\/H e=some (.own x)) (k:∀b u,b≠e->s.heap.get? b=some u->h'.get? b=some u) (heo:∃u,h'.get? e=some u)
  (new:Saa X.prog X.w (upd H x o) h' x o):Sw X pins σ (upd H x o) {s with heap:=h',toks:=t'}:=I.un (Un.write mu he k heo) (I.hok.write mu he k heo new)
theorem Sw.pins_of {pins':List (S5×Obj)} (I:Sw X pins σ H s) (h:∀p∈pins',s.heap.get? p.1=some p.2/\H p.1=none/\p.1≠X.env.locals/\p.1∉X.fs/\∀v,p.2.data≠ .cell v):Sw X pins' σ H s:=
 ⟨I.ok,I.os,I.bare,I.base,I.loc,I.cell,I.free,I.freeC,λp hp=>(yy.mp hp).elim (λz=>I.pin p (ybx _ z)) (h p),I.hok,I.len⟩
theorem Js1 {N:List Str} (hN:N.Nodup) {i j:Nat} {x:Str} (a:N[i]?=some x) (b:N[j]?=some x):i=j:=by
 obtain ⟨h1,e1⟩:=yz.mp a
 obtain ⟨h2,e2⟩:=yz.mp b
 exact (List.getElem_inj hN).mp (e1.trans e2.symm)
theorem Jtp {M:Model} {A:Se} {E:S6->S7->Prop} {i:Nat} {x:Str} {v:V} {u:S6} {Q:Unit->S7->Prop} (I:Sw X pins σ H s) (hN:X.N.Nodup) (hi:X.N[i]?=some x) (hx:Loc X.env.scope x) (r:Sa4 v u)
  (h:∀s',Sw X pins (σ.set i (some v)) H s'->(∃a,Heap.SameBut a s.heap s'.heap/\(a=X.env.locals\/X.env.cells.lookup x=some a))->Q () s') (hf:X.fn x=true\/X.env.scope.names.lookup x=some .local:=by first|exact .inl rfl|exact .inr rfl|assumption):Sh M A (storeName X.env x u) Q E s:=by
 obtain ⟨m,hn,hl⟩:=id I.loc
 have hcls:(X.env.scope.kind== .class||(X.env.scope.kind== .module&&X.env.locals !=X.env.globals))=false:=by rw [I.ok.kind];rfl
 have hiσ:i < σ.length:=by rw [I.len];exact (yz.mp hi).1
 have cne:=I.cne
 have tracked:∀{a:S5} {h':Sg},(∃o,s.heap.get? a=some o/\H a=none)->Heap.SameBut a s.heap h'->HOk X.prog X.w H h':=λ{a h'} ha hs b ob e=>by
  obtain ⟨_,_,hfree⟩:=ha
  refine (I.hok b ob e).stay (λc w' hc q=>(hs.2 c ?_).trans q) (λ_ q=>q) (λ_ _ q=>q) λ_ _ q=>q
  rintro rfl
  rcases hc with rfl|hc
  ·rw [hfree] at e;cases e
  ·rw [hfree] at hc;cases hc
 rcases hx with hk|hk
 ·refine wpAny_storeName_local hk hn (λh' hn' hs=>?_) hcls
  obtain ⟨oL,_,_,hoL,_⟩:=id hn
  refine h _ ⟨I.ok,I.os,I.bare,⟨λb o e n hb hx=>?_,λb o e n hb hx=>?_,I.base.free,λb o e hx=>?_,I.base.tups,I.base.frzs,I.base.tbls⟩,⟨_,hn',λj y v' e1 e2 e3=>?_⟩,λy c e=>?_,I.free,I.freeC,λp hp=>?_,tracked ⟨oL,hoL,I.free⟩ hs,by simpa using I.len⟩ ⟨_,hs,.inl rfl⟩
  ·exact (hs.2 b (yu (yai (yj e) I.ok.above))).trans (I.base.keep b o e n hb hx)
  ·obtain ⟨sl,e1⟩:=I.base.slot b o e n hb hx
   exact ⟨sl,(hs.2 b (yu (yai (yj e) I.ok.above))).trans e1⟩
  ·obtain ⟨o',e1⟩:=I.base.there b o e hx
   exact ⟨o',(hs.2 b (yu (yai (yj e) I.ok.above))).trans e1⟩
  ·by_cases hj:j=i
   ·subst hj
    rw [hi] at e1;cases e1
    rw [List.getElem?_set_self hiσ] at e2
    cases e2
    exact ⟨u,r,.inl ⟨hk,by simp⟩⟩
   ·rw [List.getElem?_set_ne (yh hj)] at e2
    obtain ⟨u',r',q⟩:=hl j y v' e1 e2 e3
    refine ⟨u',r',?_⟩
    rcases q with ⟨k,e⟩|⟨k,c,e,z⟩
    ·refine .inl ⟨k,?_⟩
     have:y≠x:=λe=>hj (Js1 hN e1 (e▸hi))
     simp [this,e]
    ·exact .inr ⟨k,c,e,z.sameBut hs (cne y c e)⟩
  ·obtain ⟨w',z⟩:=I.cell y c e
   exact ⟨w',z.sameBut hs (cne y c e)⟩
  ·obtain ⟨e,n,ne,nf,d⟩:=I.pin p hp
   exact ⟨(hs.2 p.1 ne).trans e,n,ne,nf,d⟩
 ·have hfn:X.fn x=true:=by
   rcases hf with z|z
   ·exact z
   ·rw [z] at hk;cases hk
  obtain ⟨c,hc⟩:=I.ok.has x (.inl hk)
  obtain ⟨w',z⟩:=I.cell x c hc
  refine wpAny_storeName_cell I.ok.kind hk hc z (λh' hc' hs=>?_)
  obtain ⟨oc,hoc,hocd⟩:=id z
  refine h {s with heap:=h'} ⟨I.ok,I.os,I.bare,⟨λb o e n hb hx=>?_,λb o e n hb hx=>?_,I.base.free,λb o e hx=>?_,I.base.tups,I.base.frzs,I.base.tbls⟩,⟨m,hn.sameBut hs (yh (cne x c hc)),λj y v' e1 e2 e3=>?_⟩,λy c' e=>?_,I.free,I.freeC,λp hp=>?_,tracked ⟨oc,hoc,(I.freeC x c hc).elim id λz=>by rw [hfn] at z;cases z.1⟩ hs,by simpa using I.len⟩ ⟨c,hs,.inr hc⟩
  ·exact (hs.2 b (yu (yai (yj e) (I.ok.cab x c hfn hc)))).trans (I.base.keep b o e n hb hx)
  ·obtain ⟨sl,e1⟩:=I.base.slot b o e n hb hx
   exact ⟨sl,(hs.2 b (yu (yai (yj e) (I.ok.cab x c hfn hc)))).trans e1⟩
  ·obtain ⟨o',e1⟩:=I.base.there b o e hx
   exact ⟨o',(hs.2 b (yu (yai (yj e) (I.ok.cab x c hfn hc)))).trans e1⟩
  ·by_cases hj:j=i
   ·subst hj
    rw [hi] at e1;cases e1
    rw [List.getElem?_set_self hiσ] at e2
    cases e2
    exact ⟨u,r,.inr ⟨.inl hk,c,hc,hc'⟩⟩
   ·rw [List.getElem?_set_ne (yh hj)] at e2
    obtain ⟨u',r',q⟩:=hl j y v' e1 e2 e3
    refine ⟨u',r',?_⟩
    rcases q with q|⟨k,c',e,z'⟩
    ·exact .inl q
    ·refine .inr ⟨k,c',e,z'.sameBut hs ?_⟩
     rintro rfl
     exact hj (Js1 hN e1 (I.ok.inj _ _ _ e hc▸hi))
  ·by_cases hcc:c'=c
   ·subst hcc;exact ⟨_,hc'⟩
   ·obtain ⟨w2,z2⟩:=I.cell y c' e
    exact ⟨w2,z2.sameBut hs hcc⟩
  ·obtain ⟨e,n,ne,nf,d⟩:=I.pin p hp
   refine ⟨(hs.2 p.1 ?_).trans e,n,ne,nf,d⟩
   intro q
   rw [q,hoc] at e
   have q':oc=p.2:=yt.inj e
   exact d w' (by rw [<-q'];exact hocd)
theorem Jse {M:Model} {A:Se} {E:S6->S7->Prop} {i:Nat} {x:Str} {v:V} {u:S6} {Q:Unit->S7->Prop} (I:Sw X pins σ H s) (hN:X.N.Nodup) (hi:X.N[i]?=some x) (hx:Loc X.env.scope x) (r:Sa4 v u)
  (h:∀s',Sw X pins (σ.set i (some v)) H s'->Q () s') (hf:X.fn x=true\/X.env.scope.names.lookup x=some .local:=by first|exact .inl rfl|exact .inr rfl|assumption):Sh M A (storeName X.env x u) Q E s:=
 Jtp I hN hi hx r (λs' I' _=>h s' I') hf
theorem Sw.call' {s':S7} {ch:List S5} (I:Sw X pins σ H s) (ho:s'.os=s.os) (u:Un (frs X.stack) ch H H' s.heap s'.heap) (hok:HOk X.prog X.w H' s'.heap) (hg:AllBare s'.gens)
  (hch:∀b∈ch,(b∈X.ex\/X.s₀.heap.objs.size<=b)/\b≠X.env.locals/\(∀x c,X.env.cells.lookup x=some c->c≠b)/\∀p∈X.pn++pins,p.1≠b):Sw X pins σ H' s':=by
 obtain ⟨h',g',d',t',o'⟩:=s'
 have e:o'=s.os:=ho
 subst e
 exact I.call (g':=g') (t':=t') (d':=d') u hok hg hch
end
abbrev XK:=S6->Option S5->Hp->Prop
abbrev St:=List (Option V)
abbrev VK:=V->Hp->Prop
abbrev TE:=St->Hp->VK->Prop
abbrev TT:=St->Hp->(Bool->Hp->Prop)->Prop
abbrev TA:=St->Hp->(List V->Hp->Prop)->Prop
structure Sbz where
 nx:St->Hp->Prop
 rt:VK
 bk:St->Hp->Prop:=λ_ _=>False
 ct:St->Hp->Prop:=λ_ _=>False
abbrev TS:=Sbz->St->Hp->Prop
def EP (X:Cx) (pins:List (S5×Obj)) (σ:St) (Q:VK) (u:S6) (s':S7):Prop:=∃v H',Sw X pins σ H' s'/\Sa4 v u/\Q v H'
def TP (X:Cx) (pins:List (S5×Obj)) (σ:St) (Q:Bool->Hp->Prop) (b:Bool) (s':S7):Prop:=∃H',Sw X pins σ H' s'/\Q b H'
def AP (X:Cx) (pins:List (S5×Obj)) (σ:St) (Q:List V->Hp->Prop) (us:List S6) (s':S7):Prop:=∃vs H',Sw X pins σ H' s'/\Sa2 vs us/\Q vs H'
def SP (X:Cx) (pins:List (S5×Obj)) (D:Sbz) (f:Flow) (s':S7):Prop:=
 match f with
 | .next=>∃σ' H',Sw X pins σ' H' s'/\D.nx σ' H'
 | .brk=>∃σ' H',Sw X pins σ' H' s'/\D.bk σ' H'
 | .cont=>∃σ' H',Sw X pins σ' H' s'/\D.ct σ' H'
 | .ret u=>∃v σ' H',Sw X pins σ' H' s'/\Sa4 v u/\D.rt v H'
def PE (X:Cx) (e:Expr) (t:TE):Prop:=
 ∀(pins:List (S5×Obj)) (s:S7) (σ:St) (H:Hp) (Q:VK),Sw X pins σ H s->t σ H Q->Sh (model X.prog X.w) X.A (eval e X.env) (EP X pins σ Q) X.xe s
def PT (X:Cx) (e:Expr) (t:TT):Prop:=
 ∀(pins:List (S5×Obj)) (s:S7) (σ:St) (H:Hp) (Q:Bool->Hp->Prop),Sw X pins σ H s->t σ H Q->Sh (model X.prog X.w) X.A (isTrue e X.env (eval e X.env)) (TP X pins σ Q) X.xe s
def PW (X:Cx) (e:Expr) (t:TT):Prop:=
 ∀(whole:Sem S6) (pins:List (S5×Obj)) (s:S7) (σ:St) (H:Hp) (Q:Bool->Hp->Prop),Sw X pins σ H s->t σ H Q->Sh (model X.prog X.w) X.A (isTrue e X.env whole) (TP X pins σ Q) X.xe s
theorem PW.pt {X:Cx} {e:Expr} {t:TT} (h:PW X e t):PT X e t:=h _
def PA (X:Cx) (es:List Expr) (t:TA):Prop:=
 ∀(pos:Pos) (pins:List (S5×Obj)) (s:S7) (σ:St) (H:Hp) (Q:List V->Hp->Prop),Sw X pins σ H s->t σ H Q->Sh (model X.prog X.w) X.A (spliced (backTo pos (starEach es X.env))) (AP X pins σ Q) X.xe s
def PS (X:Cx) (st:Sf) (t:TS):Prop:=
 ∀(pins:List (S5×Obj)) (s:S7) (σ:St) (H:Hp) (D:Sbz),Sw X pins σ H s->t D σ H->Sh (model X.prog X.w) X.A (exec st X.env) (SP X pins D) X.xe s
def PSs (X:Cx) (st:List Sf) (t:TS):Prop:=
 ∀(pins:List (S5×Obj)) (s:S7) (σ:St) (H:Hp) (D:Sbz),Sw X pins σ H s->t D σ H->Sh (model X.prog X.w) X.A (execs st X.env) (SP X pins D) X.xe s
theorem thn {α:Type} {t:Sem α} {Q Q':α->S7->Prop} {M:Model} {A:Se} {E:S6->S7->Prop} {s:S7} (h:Sh M A t Q E s) (hQ:∀a s,Q a s->Q' a s):Sh M A t Q' E s:=wpAny_mono h hQ λ_ _ x=>x
section
variable {X:Cx}
def Smi (i:Nat):TE:=λσ H Q=>∃v,σ[i]?=some (some v)/\Q v H
def tC (v:V):TE:=λ_ H Q=>Q v H
theorem Y4 {i:Nat} {x:Str} {pos:Pos} (hN:X.N[i]?=some x) (hv:Vis X.env.scope x) (hd:(x==("__debug__" :Str))=false:=by decide) (hcd:(x==("__classdict__" :Str))=false:=by decide):PE X (.Name x pos) (Smi i):=by
 intro pins s σ H Q I h
 obtain ⟨v,e,h⟩:=h
 obtain ⟨m,hn,hl⟩:=I.loc
 obtain ⟨u,r,l⟩:=hl i x v hN e hv
 have fin:EP X pins σ Q u s:=⟨v,H,I,r,h⟩
 rcases l with ⟨hk,hm⟩|⟨hk,c,hc,hcell⟩
 ·exact wpAny_Name (wpAny_loadName_local I.ok.kind hk hn hm fin) hd
 ·rcases hk with hk|hk
  ·exact wpAny_Name (wpAny_loadName_cell I.ok.kind hk hc hcell fin) hd
  ·exact wpAny_Name (wpAny_loadName_free I.ok.kind hk hc hcell fin hcd) hd
theorem Sy {i j pos}:PE X (.Constant (.int i) j pos) (tC (.int i)):=λ_ _ _ H _ I h=>wpAny_Constant_int ⟨.int i,H,I.tok _,⟨_,rfl⟩,h⟩
theorem Jn6 {b j pos}:PE X (.Constant (.bool b) j pos) (tC (.bl b)):=λ_ _ _ H _ I h=>Constant_bool ⟨.bl b,H,I,rfl,h⟩
theorem Jm7 {j pos}:PE X (.Constant .none j pos) (tC .non):=λ_ _ _ H _ I h=>Constant_none ⟨.non,H,I,rfl,h⟩
theorem Jjg {x j pos}:PE X (.Constant (.str x) j pos) (tC (.str x)):=λ_ _ _ H _ I h=>Calls.Constant_str ⟨.str x,H,I.tok _,⟨_,rfl⟩,h⟩
def Gl (X:Cx) (x:Str):Prop:=X.env.kindOf x=some .globalImplicit
theorem Jo2 {E:S6->S7->Prop} {pins:List (S5×Obj)} {s:S7} {σ:St} {H:Hp} {x:Str} {u:S6} {pos:Pos} {Q:S6->S7->Prop} (I:Sw X pins σ H s) (hg:Gl X x) (hm:X.mg x=some u) (h:Q u s)
  (hd:(x==("__debug__" :Str))=false:=by decide):Sh (model X.prog X.w) X.A (eval (.Name x pos) X.env) Q E s:=
 Calls.Name_function_global I.ok.kind hg (Calls.loadGlobal_global (by rw [I.ok.glob];exact I.mod.glob.keeps I.bk) hm h) hd
theorem Jqu {E:S6->S7->Prop} {pins:List (S5×Obj)} {s:S7} {σ:St} {H:Hp} {x:Str} {u:S6} {pos:Pos} {Q:S6->S7->Prop} (I:Sw X pins σ H s) (hg:Gl X x) (hm:X.mg x=none) (hv:bootBuiltins x=some u) (h:Q u s)
  (hn:x≠"__name__" :=by decide) (hd:(x==("__debug__" :Str))=false:=by decide):Sh (model X.prog X.w) X.A (eval (.Name x pos) X.env) Q E s:=by
 obtain ⟨mb,h1,h2⟩:=I.mod.blt
 exact Calls.Name_function_global I.ok.kind hg (Calls.loadGlobal_builtin (by rw [I.ok.glob];exact I.mod.glob.keeps I.bk) hm (by rw [I.ok.blt];exact h1.keeps I.bk) ((h2 x hn).trans hv) h) hd
theorem Jk6 {x:Str} {v:V} {u:S6} {pos:Pos} (hg:Gl X x) (hm:X.mg x=some u) (r:Sa4 v u) (hd:(x==("__debug__" :Str))=false:=by decide):PE X (.Name x pos) (tC v):=
 λ_ _ _ H _ I h=>Jo2 I hg hm ⟨v,H,I,r,h⟩ hd
theorem Jlu {x:Str} {v:V} {u:S6} {pos:Pos} (hg:Gl X x) (hm:X.mg x=none) (hv:bootBuiltins x=some u) (r:Sa4 v u) (hn:x≠"__name__" :=by decide) (hd:(x==("__debug__" :Str))=false:=by decide):PE X (.Name x pos) (tC v):=
 λ_ _ _ H _ I h=>Jqu I hg hm hv ⟨v,H,I,r,h⟩ hn hd
variable {a b:Expr} {ta tb:TE} {pos:Pos}
def tB (t:TE):TT:=λσ H Q=>t σ H λx H1=>∃c,x= .bl c/\Q c H1
theorem Jkg {e:Expr} {t:TE} (h:PE X e t) (he:∀whole,isTrue e X.env whole=(do let v<-whole;standAt e.pos;holding [v] (truthy v)):=by intro _;rfl):PT X e (tB t):=by
 intro pins s σ H Q I hw
 refine isTrue_plain (thn (h pins s σ H _ I hw) λv s1 zq=>?_) (he _)
 obtain ⟨x,H1,I1,r1,q1⟩:=zq
 obtain ⟨d,rfl,q⟩:=q1
 cases r1
 exact wpAny_truthy_bool ⟨H1,I1,q⟩
variable {tA tB':TT} {rest:List Expr}
def Suw (t u:TT):TT:=λσ H Q=>t σ H λc H1=>if c=true then u σ H1 Q else Q false H1
def tOr (t u:TT):TT:=λσ H Q=>t σ H λc H1=>if c=true then Q true H1 else u σ H1 Q
def Sv2 (t:TT):TT:=λσ H Q=>t σ H λc H1=>Q (!c) H1
theorem Jlz (ha:PT X a tA):PW X (.BoolOp .And [a] pos) tA:=by
 intro wh pins s σ H Q I h
 refine isTrue_and (thn (ha pins s σ H Q I h) λc s1 e=>?_)
 cases c with
 |true=>exact isTrue_and_nil e
 |false=>exact e
theorem Jnn (ha:PT X a tA):PW X (.BoolOp .Or [a] pos) tA:=by
 intro wh pins s σ H Q I h
 refine isTrue_or (thn (ha pins s σ H Q I h) λc s1 e=>?_)
 cases c with
 |false=>exact isTrue_or_nil e
 |true=>exact e
theorem Jmt (ha:PT X a tA) (hb:PW X (.BoolOp .And (b::rest) pos) tB'):PW X (.BoolOp .And (a::b::rest) pos) (Suw tA tB'):=by
 intro wh pins s σ H Q I h
 refine isTrue_and (thn (ha pins s σ H _ I h) λc s1 zq=>?_)
 obtain ⟨H1,I1,q1⟩:=zq
 cases c with
 |true=>exact hb wh pins s1 σ H1 Q I1 q1
 |false=>exact ⟨H1,I1,q1⟩
theorem Jot (ha:PT X a tA) (hb:PW X (.BoolOp .Or (b::rest) pos) tB'):PW X (.BoolOp .Or (a::b::rest) pos) (tOr tA tB'):=by
 intro wh pins s σ H Q I h
 refine isTrue_or (thn (ha pins s σ H _ I h) λc s1 zq=>?_)
 obtain ⟨H1,I1,q1⟩:=zq
 cases c with
 |true=>exact ⟨H1,I1,q1⟩
 |false=>exact hb wh pins s1 σ H1 Q I1 q1
theorem Jkf (ha:PT X a tA):PT X (.UnaryOp .Not a pos) (Sv2 tA):=by
 intro pins s σ H Q I h
 exact isTrue_not (ha pins s σ H (λc H1=>Q (!c) H1) I h)
def Spj (ta tb:TE):TE:=λσ H Q=>ta σ H λx H1=>∃c,x= .bl c/\if c=true then tb σ H1 Q else Q (.bl false) H1
def Sv3 (ta tb:TE):TE:=λσ H Q=>ta σ H λx H1=>∃c,x= .bl c/\if c=true then Q (.bl true) H1 else tb σ H1 Q
theorem Jor {op} {t:TE} (h:PE X a t):PE X (.BoolOp op [a] pos) t:=λpins s σ H Q I hw=>BoolOp_one (h pins s σ H Q I hw)
theorem Jr1 (ha:PE X a ta) (hb:PE X (.BoolOp .And (b::rest) pos) tb):PE X (.BoolOp .And (a::b::rest) pos) (Spj ta tb):=by
 intro pins s σ H Q I h
 refine BoolOp_and (thn (ha pins s σ H _ I h) λv s1 zq=>?_)
 obtain ⟨x,H1,I1,r1,q1⟩:=zq
 obtain ⟨c,rfl,q1⟩:=q1
 cases r1
 refine wpAny_truthy_bool ?_
 cases c with
 |true=>exact hb pins s1 σ H1 Q I1 q1
 |false=>exact ⟨.bl false,H1,I1,rfl,q1⟩
theorem Sox (ha:PE X a ta) (hb:PE X (.BoolOp .Or (b::rest) pos) tb):PE X (.BoolOp .Or (a::b::rest) pos) (Sv3 ta tb):=by
 intro pins s σ H Q I h
 refine BoolOp_or (thn (ha pins s σ H _ I h) λv s1 zq=>?_)
 obtain ⟨x,H1,I1,r1,q1⟩:=zq
 obtain ⟨c,rfl,q1⟩:=q1
 cases r1
 refine wpAny_truthy_bool ?_
 cases c with
 |false=>exact hb pins s1 σ H1 Q I1 q1
 |true=>exact ⟨.bl true,H1,I1,rfl,q1⟩
def tIf (t:TT) (ta tb:TE):TE:=λσ H Q=>t σ H λc H1=>if c=true then ta σ H1 Q else tb σ H1 Q
theorem Y3 {c:Expr} (hc:PT X c tA) (ha:PE X a ta) (hb:PE X b tb):PE X (.IfExp c a b pos) (tIf tA ta tb):=by
 intro pins s σ H Q I h
 refine wpAny_IfExp (thn (hc pins s σ H _ I h) λd s1 zq=>?_)
 obtain ⟨H1,I1,q1⟩:=zq
 cases d with
 |true=>exact ha pins s1 σ H1 Q I1 q1
 |false=>exact hb pins s1 σ H1 Q I1 q1
end
def Sx (K:Si) (H:Hp) (a:S5) (xs:List V):Prop:=
 Rd H a (.lst xs)\/
  ∃(o:Obj) (its:Array S6) (n:Nat),K.lookup a=some o/\o.cls= .type "list" /\o.dict=none/\o.data= .seq its n/\its.size<=Sa/\Sa2 xs its.toList
def SqT (K:Si) (H:Hp) (a:S5) (xs:List V):Prop:=
 Rd H a (.tup xs)\/
  ∃(o:Obj) (its:Array S6) (n:Nat),K.lookup a=some o/\o.cls= .type "tuple" /\o.data= .seq its n/\its.size<=Sa/\Sa2 xs its.toList
def Stx:S6->Option V
 | .none=>some .non
 | .bool b=>some (.bl b)
 | .int i _=>some (.int i)
 | .str x _=>some (.str x)
 | .bytes b _=>some (.byt b)
 | .float b _=>some (.flt b)
 | .ref a=>some (.ref a)
 | .type n=>some (.ty n)
 |_=>none
theorem Sa4.abs {x:V} {u:S6} (r:Sa4 x u):Stx u=some x:=by
 cases x with
 |non=>cases r;rfl
 |bl _=>cases r;rfl
 |int _=>obtain ⟨t,rfl⟩:=r;rfl
 |str _=>obtain ⟨t,rfl⟩:=r;rfl
 |byt _=>obtain ⟨t,rfl⟩:=r;rfl
 |flt _=>obtain ⟨t,rfl⟩:=r;rfl
 |ref _=>cases r;rfl
 |ty _=>cases r;rfl
theorem Sa4.inj {x y:V} {u:S6} (r:Sa4 x u) (q:Sa4 y u):x=y:=yt.inj (r.abs.symm.trans q.abs)
theorem Sa2.inj:∀{xs ys:List V} {us:List S6},Sa2 xs us->Sa2 ys us->xs=ys
 |_,_,_,.nil,.nil=>rfl
 |_,_,_,.cons r t,.cons r' t'=>by rw [r.inj r',Sa2.inj t t']
section
variable {X:Cx} {pins:List (S5×Obj)} {σ:St} {H:Hp} {s:S7} {a:S5} {xs ys:List V}
theorem Sx.of {K:Si} (h:H a=some (.lst xs)):Sx K H a xs:=.inl (.inl h)
theorem SqT.of {K:Si} (h:H a=some (.tup xs)):SqT K H a xs:=.inl (.inl h)
theorem Sw.list (I:Sw X pins σ H s) (h:Sx X.K H a xs):∃its:List S6,Sa2 xs its/\PlainL s.heap a its.toArray/\xs.length<=Sa:=by
 rcases h with h|⟨o,its,n,hk,hc,hd,hs,hz,r⟩
 ·obtain ⟨z,its,n,r,e⟩:=h.ok I.hok
  exact ⟨its,r,⟨_,n,e,rfl,rfl,rfl⟩,z⟩
 ·refine ⟨its.toList,r,⟨o,n,I.kIn a o hk,hc,hd,by simpa using hs⟩,?_⟩
  have e:=r.length
  simp only [yby] at e
  omega
theorem Sw.tuple (I:Sw X pins σ H s) (h:SqT X.K H a xs):∃its:List S6,Sa2 xs its/\IsTup s.heap a its.toArray/\xs.length<=Sa:=by
 rcases h with h|⟨o,its,n,hk,hc,hs,hz,r⟩
 ·obtain ⟨z,its,r,p⟩:=h.ok I.hok
  exact ⟨its,r,p,z⟩
 ·refine ⟨its.toList,r,⟨o,I.kIn a o hk,hc,n,by simpa using hs⟩,?_⟩
  have e:=r.length
  simp only [yby] at e
  omega
theorem Sw.list_inj (I:Sw X pins σ H s) (h:Sx X.K H a xs) (h':Sx X.K H a ys):xs=ys:=by
 obtain ⟨its,r,⟨o,n,e,_,_,d⟩,_⟩:=I.list h
 obtain ⟨its',r',⟨o',n',e',_,_,d'⟩,_⟩:=I.list h'
 rw [e] at e';cases e'
 rw [d] at d'
 injection d' with d1 _
 have:its=its':=by simpa using congrArg Array.toList d1
 subst this
 exact r.inj r'
theorem Sw.tuple_inj (I:Sw X pins σ H s) (h:SqT X.K H a xs) (h':SqT X.K H a ys):xs=ys:=by
 obtain ⟨its,r,⟨o,e,_,n,d⟩,_⟩:=I.tuple h
 obtain ⟨its',r',⟨o',e',_,n',d'⟩,_⟩:=I.tuple h'
 rw [e] at e';cases e'
 rw [d] at d'
 injection d' with d1 _
 have:its=its':=by simpa using congrArg Array.toList d1
 subst this
 exact r.inj r'
end
abbrev Cx.wish (X:Cx) (E:S6->S7->Prop):Cx:={X with xe:=E}
abbrev Cx.nox (X:Cx):Cx:=X.wish λ_ _=>False
theorem Cx.Ok.wish {X:Cx} (ok:X.Ok) (E:S6->S7->Prop):(X.wish E).Ok:=
 ⟨ok.mod,ok.kind,ok.glob,ok.blt,ok.above,ok.inj,ok.has,ok.cab,ok.hd,ok.frames,ok.stk,ok.exf,ok.bs,ok.bsz,ok.noex,ok.exfs,ok.funs,ok.frf⟩
theorem Cx.Ok.unwish {X:Cx} {E:S6->S7->Prop} (ok:(X.wish E).Ok):X.Ok:=
 ⟨ok.mod,ok.kind,ok.glob,ok.blt,ok.above,ok.inj,ok.has,ok.cab,ok.hd,ok.frames,ok.stk,ok.exf,ok.bs,ok.bsz,ok.noex,ok.exfs,ok.funs,ok.frf⟩
section
variable {X:Cx} {pins:List (S5×Obj)} {σ:St} {H:Hp} {s:S7} {E:S6->S7->Prop}
theorem Sw.wish (I:Sw X pins σ H s) (E:S6->S7->Prop):Sw (X.wish E) pins σ H s:=⟨I.ok.wish E,I.os,I.bare,I.base,I.loc,I.cell,I.free,I.freeC,I.pin,I.hok,I.len⟩
theorem Sw.unwish (I:Sw (X.wish E) pins σ H s):Sw X pins σ H s:=⟨I.ok.unwish,I.os,I.bare,I.base,I.loc,I.cell,I.free,I.freeC,I.pin,I.hok,I.len⟩
theorem SP.unwish {D:Sbz} {f:Flow} {s':S7} (h:SP (X.wish E) pins D f s'):SP X pins D f s':=by
 cases f with
 |next=>obtain ⟨σ',H',I,q⟩:=h;exact ⟨σ',H',I.unwish,q⟩
 |brk=>obtain ⟨σ',H',I,q⟩:=h;exact ⟨σ',H',I.unwish,q⟩
 |cont=>obtain ⟨σ',H',I,q⟩:=h;exact ⟨σ',H',I.unwish,q⟩
 |ret u=>obtain ⟨v,σ',H',I,r,q⟩:=h;exact ⟨v,σ',H',I.unwish,r,q⟩
theorem PE.nox {e:Expr} {t:TE} (h:PE X.nox e t):PE X e t:=λpins s σ H Q I hw=>
 wpAny_mono (h pins s σ H Q (I.wish _) hw) (λ_ _ ⟨v,H',I',r,q⟩=>⟨v,H',I'.unwish,r,q⟩) λ_ _ z=>False.elim z
theorem PSs.nox {st:List Sf} {t:TS} (h:PSs X.nox st t):PSs X st t:=λpins s σ H D I hw=>
 wpAny_mono (h pins s σ H D (I.wish _) hw) (λ_ _ q=>q.unwish) λ_ _ z=>False.elim z
end
section
variable {X:Cx} {st:Sf} {rest:List Sf} {t u:TS} {e:Expr} {te:TE} {pos:Pos}
def Jxt:TS:=λD σ H=>D.nx σ H
def Sj4 (t u:TS):TS:=λD σ H=>t {D with nx:=u D} σ H
theorem Jjm:PSs X [] Jxt:=λ_ _ σ H _ I h=>wpAny_execs_nil ⟨σ,H,I,h⟩
theorem Jj9 (h1:PS X st t) (h2:PSs X rest u):PSs X (st::rest) (Sj4 t u):=by
 intro pins s σ H D I h
 refine wpAny_execs_cons (thn (h1 pins s σ H {D with nx:=u D} I h) λf s1 q=>?_)
 cases f with
 |next=>
  obtain ⟨σ',H',I',q⟩:=q
  exact h2 pins s1 σ' H' D I' q
 |ret v=>exact q
 |brk=>exact q
 |cont=>exact q
theorem Jjb (h1:PS X st t):PSs X [st] t:=by
 intro pins s σ H D I h
 refine wpAny_execs_cons (thn (h1 pins s σ H D I h) λf s1 q=>?_)
 cases f with
 |next=>exact wpAny_execs_nil q
 |ret v=>exact q
 |brk=>exact q
 |cont=>exact q
theorem Sw.quiet {pins:List (S5×Obj)} {σ:St} {H:Hp} {s:S7} (I:Sw X pins σ H s):interactive X.env=false:=by simp [interactive,I.ok.kind]
def Spm (te:TE):TS:=λD σ H=>te σ H λ_ H1=>D.nx σ H1
theorem Jkm (he:PE X e te) (hs:swapsWith e none pos.line X.env=pure false:=by rfl):PS X (.Expr e pos) (Spm te):=by
 intro pins s σ H D I h
 exact wpAny_Expr_any (thn (he pins s σ H _ I h) λv s1 ⟨x,H1,I1,r1,q1⟩=>⟨σ,H1,I1,q1⟩) I.quiet hs
def Sv4 (te:TE):TS:=λD σ H=>te σ H D.rt
theorem Jji (he:PE X e te):PS X (.Return (some e) pos) (Sv4 te):=by
 intro pins s σ H D I h
 exact wpAny_Return_some (thn (he pins s σ H _ I h) λv s1 ⟨x,H1,I1,r1,q1⟩=>⟨x,σ,H1,I1,r1,q1⟩)
def Suz (c:TT) (t u:TS):TS:=λD σ H=>c σ H λb H1=>if b=true then t D σ H1 else u D σ H1
theorem Jjv {c:Expr} {a b:List Sf} {tc:TT} (hc:PT X c tc) (ha:PSs X a t) (hb:PSs X b u):PS X (.If c a b pos) (Suz tc t u):=by
 intro pins s σ H D I h
 refine wpAny_If (thn (hc pins s σ H _ I h) λd s1 zq=>?_)
 obtain ⟨H1,I1,q1⟩:=zq
 cases d with
 |true=>exact ha pins s1 σ H1 D I1 q1
 |false=>exact hb pins s1 σ H1 D I1 q1
end
abbrev TG:=V->St->Hp->(St->Hp->Prop)->Prop
abbrev TGs:=List V->St->Hp->(St->Hp->Prop)->Prop
def PG (X:Cx) (target:Expr) (t:TG):Prop:=
 ∀(pins:List (S5×Obj)) (s:S7) (σ:St) (H:Hp) (v:V) (u:S6) (Q:St->Hp->Prop),Sw X pins σ H s->Sa4 v u->t v σ H Q->
  Sh (model X.prog X.w) X.A (assign target X.env u) (λ_ s'=>∃σ' H',Sw X pins σ' H' s'/\Q σ' H') X.xe s
def PGs (X:Cx) (ts:List Expr) (t:TGs):Prop:=
 ∀(pins:List (S5×Obj)) (s:S7) (σ:St) (H:Hp) (vs:List V) (us:List S6) (Q:St->Hp->Prop),Sw X pins σ H s->Sa2 vs us->t vs σ H Q->
  Sh (model X.prog X.w) X.A (assignInOrder ((assignEach ts X.env).map (·.2)) us) (λ_ s'=>∃σ' H',Sw X pins σ' H' s'/\Q σ' H') X.xe s
abbrev Skw:=V->V->V->Hp->(Hp->Prop)->Prop
def Sok (X:Cx) (t:Skw):Prop:=
 ∀(pins:List (S5×Obj)) (s:S7) (σ:St) (H:Hp) (o i v:V) (ov iv u:S6) (Q:Hp->Prop),Sw X pins σ H s->Sa4 o ov->Sa4 i iv->Sa4 v u->t o i v H Q->
  Sh (model X.prog X.w) X.A (setItem ov iv u) (λ_ s'=>∃H',Sw X pins σ H' s'/\Q H') X.xe s
section
variable {X:Cx} {pos:Pos}
def Jnf (i:Nat):TG:=λv σ H Q=>Q (σ.set i (some v)) H
theorem Jk3 {i:Nat} {x:Str} (hN:X.N.Nodup) (hi:X.N[i]?=some x) (hx:Loc X.env.scope x) (hf:X.fn x=true\/X.env.scope.names.lookup x=some .local:=by first|exact .inl rfl|exact .inr rfl|assumption):PG X (.Name x pos) (Jnf i):=by
 intro pins s σ H v u Q I r h
 exact wpAny_assign_Name (Jse I hN hi hx r (λs' I'=>⟨_,H,I',h⟩) hf)
def Su0:TGs:=λvs σ H Q=>vs= []/\Q σ H
def Sop (t:TG) (u:TGs):TGs:=λvs σ H Q=>∃v r,vs=v::r/\t v σ H λσ' H'=>u r σ' H' Q
theorem Jxn:PGs X [] Su0:=by
 intro pins s σ H vs us Q I r h
 obtain ⟨e,h⟩:=h
 subst e
 cases r
 exact assignInOrder_nil ⟨σ,H,I,h⟩
theorem Jq9 {e:Expr} {es:List Expr} {t:TG} {u:TGs} (h1:PG X e t) (h2:PGs X es u)
  (hs:(assignEach (e::es) X.env).map (·.2)=assign e X.env::(assignEach es X.env).map (·.2):=by rfl):PGs X (e::es) (Sop t u):=by
 intro pins s σ H vs us Q I r h
 obtain ⟨v,vr,e1,h⟩:=h
 subst e1
 cases r with
 |cons r rr=>
  rw [hs]
  refine assignInOrder_cons (thn (h1 pins s σ H _ _ _ I r h) λ_ s1 zq=>?_)
  obtain ⟨σ1,H1,I1,q1⟩:=zq
  exact h2 pins s1 σ1 H1 _ _ Q I1 rr q1
def Su2 (K:Si) (n:Nat) (t:TGs):TG:=λv σ H Q=>∃a xs,v= .ref a/\SqT K H a xs/\xs.length=n/\t xs σ H Q
theorem Y5 {es:List Expr} {k:Nat} {t:TGs} {n:Nat} (hc:X.calm=true) (h:PGs X es t)
  (hn:(assignEach es X.env).length=n:=by rfl) (hst:(assignEach es X.env).findIdx? (·.1)=none:=by rfl):PG X (.Tuple es k pos) (Su2 X.K n t):=by
 intro pins s σ H v u Q I r hw
 obtain ⟨a,xs,e1,hq,hl,hw⟩:=hw
 subst e1
 cases r
 obtain ⟨its,rv,ht,hz⟩:=I.tuple hq
 refine assign_Tuple_tuple (I.ok.hd hc) ht (by simp [hn,<-hl,rv.length]) hst λh' hx=>?_
 have I1:Sw X pins σ H {s with heap:=h'}:=I.kept (t':=s.toks) λb o e=>hx b o (yu (yj e)) e
 exact h pins _ σ H xs _ Q I1 (by simpa using rv) hw
def Su1 (to ti:TE) (t:Skw):TG:=λv σ H Q=>to σ H λo H1=>ti σ H1 λi H2=>t o i v H2 λH3=>Q σ H3
theorem Jwj {o i:Expr} {to ti:TE} {t:Skw} (ho:PE X o to) (hi:PE X i ti) (hs:Sok X t)
  (ha:∀v,assign (.Subscript o i pos) X.env v=(do
   let ov<-holding [v] (eval o X.env)
   let iv<-holding [v,ov] (eval i X.env)
   standAt pos
   holding [v,ov,iv] (setItem ov iv v)
   release [v,ov,iv] []):=by intro _;rfl):PG X (.Subscript o i pos) (Su1 to ti t):=by
 intro pins s σ H v u Q I r h
 rw [ha]
 refine S8 (wpAny_holding (thn (ho pins s σ H _ I h) λov s1 zq=>?_))
 obtain ⟨x,H1,I1,r1,q1⟩:=zq
 refine S8 (wpAny_holding (thn (hi pins s1 σ H1 _ I1 q1) λiv s2 zq=>?_))
 obtain ⟨y,H2,I2,r2,q2⟩:=zq
 refine S8 (wpAny_standAt (S8 (wpAny_holding (thn (hs pins s2 σ H2 x y v ov iv u _ I2 r1 r2 r q2) λ_ s3 zq=>?_))))
 obtain ⟨H3,I3,q3⟩:=zq
 exact wpAny_release ⟨σ,H3,I3,q3⟩
def Spk (te:TE) (g:TG):TS:=λD σ H=>te σ H λx H1=>g x σ H1 D.nx
theorem Juo {tg e:Expr} {te:TE} {g:TG} (he:PE X e te) (hg:PG X tg g) (hs:swapsWithSole [tg] e pos.line X.env=pure false:=by rfl) (hw:swappedStores [tg] e X.env=pure none:=by rfl)
  (h1:(assignEach [tg] X.env).map (·.2)= [assign tg X.env]:=by rfl):PS X (.Assign [tg] e pos) (Spk te g):=by
 intro pins s σ H D I h
 refine wpAny_Assign_stores (thn (he pins s σ H _ I h) λv s1 zq=>?_) hs hw
 obtain ⟨x,H1,I1,r1,q1⟩:=zq
 rw [h1]
 exact thn (hg pins s1 σ H1 x v _ I1 r1 q1) λ_ s2 q=>q
theorem Jjl {i:Nat} {x:Str} {e:Expr} {te:TE} {pos':Pos} (hN:X.N.Nodup) (hi:X.N[i]?=some x) (hx:Loc X.env.scope x) (he:PE X e te) (hs:swapsWith e (some (.Name x pos')) pos.line X.env=pure false:=by rfl) (hf:X.fn x=true\/X.env.scope.names.lookup x=some .local:=by first|exact .inl rfl|exact .inr rfl|assumption):
  PS X (.Assign [.Name x pos'] e pos) (Spk te (Jnf i)):=by
 intro pins s σ H D I h
 refine wpAny_Assign_Name (thn (he pins s σ H _ I h) λv s1 zq=>?_) hs
 obtain ⟨y,H1,I1,r1,q1⟩:=zq
 exact Jse I1 hN hi hx r1 (λs2 I2=>⟨_,H1,I2,q1⟩) hf
def Yo (c:TT) (tb:TS):TS:=λD σ H=>∃W:Nat->St->Hp->Prop,(∃m,W m σ H)/\∀m σ H,W m σ H->
 c σ H λb H1=>if b=true then ∃N:St->Hp->Prop,(∀σ' H',N σ' H'->∃m',m' < m/\W m' σ' H')/\tb {D with nx:=N,ct:=N,bk:=D.nx} σ H1 else D.nx σ H1
theorem Y7 {c:Expr} {body:List Sf} {tc:TT} {tb:TS} (hp:PassesOwn (model X.prog X.w) X.A X.env X.xe) (hc:PT X c tc) (hb:PSs X body tb):PS X (.While c body [] pos) (Yo tc tb):=by
 intro pins s σ H D I h
 obtain ⟨W,⟨m0,w0⟩,turn⟩:=h
 refine wpAny_While (codeAny_whileLoop (λn s'=>∃σ' H',Sw X pins σ' H' s'/\W n σ' H') ?_ m0 ⟨σ,H,I,w0⟩)
 rintro n s1 ⟨σ1,H1,I1,w1⟩
 refine wpAny_passesOwn hp (thn (hc pins s1 σ1 H1 _ I1 (turn n σ1 H1 w1)) λb s2 zq=>?_)
 obtain ⟨H2,I2,q2⟩:=zq
 cases b with
 |true=>
  obtain ⟨N,hN,q2⟩:=q2
  rw [if_pos rfl]
  refine wpAny_passesOwn hp (thn (hb pins s2 σ1 H2 _ I2 q2) λf s3 q3=>?_)
  cases f with
  |next=>
   obtain ⟨σ3,H3,I3,n3⟩:=q3
   obtain ⟨m',hm,w3⟩:=hN σ3 H3 n3
   exact ⟨m',hm,σ3,H3,I3,w3⟩
  |cont=>
   obtain ⟨σ3,H3,I3,n3⟩:=q3
   obtain ⟨m',hm,w3⟩:=hN σ3 H3 n3
   exact ⟨m',hm,σ3,H3,I3,w3⟩
  |brk=>exact q3
  |ret v=>exact q3
 |false=>
  rw [if_neg yw]
  exact wpAny_execs_nil ⟨σ1,H2,I2,q2⟩
end
structure It where
 go:Nat->Hp->Prop
 yld:Nat->Hp->V->Hp->Prop
 stop:Nat->Hp->Prop
def Jql (X:Cx) (pins:List (S5×Obj)) (H:Hp) (b:S5):Prop:=
 H b=none/\b≠X.env.locals/\b∉X.fs/\(b∈X.ex\/X.s₀.heap.objs.size<=b)/\(∀x c,X.env.cells.lookup x=some c->c≠b)/\∀p∈X.pn++pins,p.1≠b
theorem Sw.fpOk {X:Cx} {pins:List (S5×Obj)} {σ:St} {H H':Hp} {s:S7} {b:S5} (I:Sw X pins σ H s) (hb:s.heap.objs.size<=b) (hn:H' b=none):Jql X pins H' b:=by
 refine ⟨hn,ybo (yai I.lt hb),I.nofs hb,.inr (yv I.sz hb),λx c e z=>?_,λp hp z=>?_⟩
 ·obtain ⟨v,q⟩:=I.cell x c e
  exact absurd (yai q.lt (by rw [z];exact hb)) (yba _)
 ·exact absurd (yai (yj (I.pin p hp).1) (by rw [z];exact hb)) (yba _)
structure Jv1 (P:Sb) (w:Sd) (K:Si) (tg:Expr) (J:It) (fp:List S5) (it:S5) (tn:Nat->Sg->Prop):Prop where
 mem:it∈fp
 obj:∀i h,tn i h->∀b∈fp,∃o,h.get? b=some o/\∀v,o.data≠ .cell v
 keep:∀i h h',tn i h->(∀b∈fp,∀o,h.get? b=some o->h'.get? b=some o)->tn i h'
 item:∀(X:Cx),X.prog=P->X.w=w->X.K=K->X.calm=true->∀(i:Nat) (pins:List (S5×Obj)) (s:S7) (σ:St) (H:Hp) (E:S6->S7->Prop),Sw X pins σ H s->(∀b∈fp,Jql X pins H b)->tn i s.heap->J.go i H->
  Sh (model P w) X.A (pyNext (.ref it)) (λr s1=>∃u,r=some u/\
   Sh (model P w) X.A (letOwnedTupleGo tg (.ref it) u) (λ_ s2=>∃x H',Sw X pins σ H' s2/\Sa4 x u/\J.yld i H x H'/\tn (i+1) s2.heap/\∀b∈fp,H' b=none) E s1) E s
 done:∀(X:Cx),X.prog=P->X.w=w->X.K=K->X.calm=true->∀(i:Nat) (pins:List (S5×Obj)) (s:S7) (σ:St) (H:Hp) (E:S6->S7->Prop),Sw X pins σ H s->(∀b∈fp,Jql X pins H b)->tn i s.heap->J.stop i H->
  Sh (model P w) X.A (pyNext (.ref it)) (λr s1=>r=none/\Sw X pins σ H s1) E s
 self:∀(A:Se) (i:Nat) (s:S7) (Q:S6->S7->Prop) (E:S6->S7->Prop),tn i s.heap->Q (.ref it) s->Sh (model P w) A (pyIter (.ref it)) Q E s
abbrev TI:=St->Hp->(It->Hp->Prop)->Prop
def PIE (X:Cx) (pins:List (S5×Obj)) (σ:St) (tg:Expr) (R:It->Hp->Prop) (itv:S6) (s2:S7):Prop:=
 ∃(it:S5) (fp:List S5) (tn:Nat->Sg->Prop) (J:It) (H':Hp),itv= .ref it/\Sw X pins σ H' s2/\Jv1 X.prog X.w X.K tg J fp it tn/\tn 0 s2.heap/\(∀b∈fp,Jql X pins H' b)/\R J H'
def PI (X:Cx) (tg iter:Expr) (wi:TI):Prop:=
 ∀(pins:List (S5×Obj)) (s:S7) (σ:St) (H:Hp) (R:It->Hp->Prop),Sw X pins σ H s->wi σ H R->
  Sh (model X.prog X.w) X.A (eval iter X.env) (λv s1=>Sh (model X.prog X.w) X.A (pyIter v) (PIE X pins σ tg R) X.xe s1) X.xe s
theorem Jxa {M:Model} {A:Se} {E:S6->S7->Prop} {s:S7} {tg:Expr} {it:S5} {u:S6} {o:Obj} {n:String} {vs:Array S6} {Q:Unit->S7->Prop} (ho:s.heap.get? it=some o) (hc:o.cls= .type n) (hd:o.data= .fields vs)
  (hn: ["enumerate","zip","dict_itemiterator","dict_reverseitemiterator","odict_iterator","itertools.zip_longest","itertools.pairwise"].contains n=false) (hQ:Q () s):Sh M A (letOwnedTupleGo tg (.ref it) u) Q E s:=by
 unfold letOwnedTupleGo
 cases tg <;> first
  |exact S9 hQ
  | (cases u <;> first
    |exact S9 hQ
    | (refine S8 (wpAny_load ho ?_)
       rw [hc,hd]
       show Sh M A (if (["enumerate","zip","dict_itemiterator","dict_reverseitemiterator","odict_iterator","itertools.zip_longest","itertools.pairwise"].contains n&&vs[0]?==some (rawInt _))=true then _ else _) Q E s
       rw [if_neg (by intro h;rw [hn,yao] at h;cases h)]
       exact S9 hQ))
def Itl (K:Si) (a:S5):It:=
 ⟨λi H=>∃xs x,Sx K H a xs/\xs[i]?=some x,λi H x H'=>H'=H/\∀xs,Sx K H a xs->xs[i]?=some x,λi H=>∃xs,Sx K H a xs/\xs.length<=i⟩
def Itt (K:Si) (a:S5):It:=
 ⟨λi H=>∃xs x,SqT K H a xs/\xs[i]?=some x,λi H x H'=>H'=H/\∀xs,SqT K H a xs->xs[i]?=some x,λi H=>∃xs,SqT K H a xs/\xs.length<=i⟩
def Itr (lo:Int) (n:Nat):It:=⟨λi _=>i < n,λi H x H'=>H'=H/\x= .int (lo+i),λi _=>n<=i⟩
theorem Jtq {P:Sb} {w:Sd} {K:Si} {tg:Expr} (a it:S5):Jv1 P w K tg (Itl K a) [it] it (λi h=>h.IsListIter it a i) where
 mem:=by simp
 obj:=λi h st b hb=>by
  have e:b=it:=by simpa using hb
  subst e
  obtain ⟨o,e,c,d⟩:=st
  exact ⟨o,e,λv z=>by rw [d] at z;cases z⟩
 keep:=λi h h' st k=>st.at λo e=>k it (by simp) o e
 item:=by
  intro X hP hw hK hc i pins s σ H E I hf st hg
  subst hP hw hK
  obtain ⟨xs,x,hq,hx⟩:=hg
  obtain ⟨its,rv,p,hz⟩:=I.list hq
  obtain ⟨u,hu,ru⟩:=rv.get hx
  obtain ⟨f0,f1,f2,f3,f4,f5⟩:=hf it (by simp)
  refine wpAny_pyNext_list_item st p.isList (x:=u) (by simpa using hu) λh' st' sb=>?_
  have I1:Sw X pins σ H {s with heap:=h'}:=I.turned (t':=s.toks) (λb o hb e=>(sb.2 b hb).trans e) f0 f1 f3 f4 f5
  obtain ⟨o,e,c,d⟩:=id st'
  exact ⟨u,rfl,Jxa (s:={s with heap:=h'}) e c d (by decide) ⟨x,H,I1,ru,⟨rfl,λys hy=>by rw [I.list_inj hy hq];exact hx⟩,st',λb hb=>(hf b hb).1⟩⟩
 done:=by
  intro X hP hw hK hc i pins s σ H E I hf st hg
  subst hP hw hK
  obtain ⟨xs,hq,hx⟩:=hg
  obtain ⟨its,rv,p,hz⟩:=I.list hq
  obtain ⟨f0,f1,f2,f3,f4,f5⟩:=hf it (by simp)
  have hl:=rv.length
  exact wpAny_pyNext_list_end (I.ok.hd hc) st p.isList (by simp;omega) λh' eb=>⟨rfl,I.turned (t':=s.toks) (λb o hb e=>eb b o hb e) f0 f1 f3 f4 f5⟩
 self:=λ_ _ _ _ _ st h=>wpAny_pyIter_listiter st h
theorem Jsf {P:Sb} {w:Sd} {K:Si} {tg:Expr} (a it:S5):Jv1 P w K tg (Itt K a) [it] it (λi h=>h.IsTupleIter it a i) where
 mem:=by simp
 obj:=λi h st b hb=>by
  have e:b=it:=by simpa using hb
  subst e
  obtain ⟨o,e,c,d⟩:=st
  exact ⟨o,e,λv z=>by rw [d] at z;cases z⟩
 keep:=λi h h' st k=>st.at λo e=>k it (by simp) o e
 item:=by
  intro X hP hw hK hc i pins s σ H E I hf st hg
  subst hP hw hK
  obtain ⟨xs,x,hq,hx⟩:=hg
  obtain ⟨its,rv,p,hz⟩:=I.tuple hq
  obtain ⟨u,hu,ru⟩:=rv.get hx
  obtain ⟨f0,f1,f2,f3,f4,f5⟩:=hf it (by simp)
  refine wpAny_pyNext_tuple_item st (show s.heap.IsTuple a its.toArray from p) (x:=u) (by simpa using hu) λh' st' sb=>?_
  have I1:Sw X pins σ H {s with heap:=h'}:=I.turned (t':=s.toks) (λb o hb e=>(sb.2 b hb).trans e) f0 f1 f3 f4 f5
  obtain ⟨o,e,c,d⟩:=id st'
  exact ⟨u,rfl,Jxa (s:={s with heap:=h'}) e c d (by decide) ⟨x,H,I1,ru,⟨rfl,λys hy=>by rw [I.tuple_inj hy hq];exact hx⟩,st',λb hb=>(hf b hb).1⟩⟩
 done:=by
  intro X hP hw hK hc i pins s σ H E I hf st hg
  subst hP hw hK
  obtain ⟨xs,hq,hx⟩:=hg
  obtain ⟨its,rv,p,hz⟩:=I.tuple hq
  obtain ⟨f0,f1,f2,f3,f4,f5⟩:=hf it (by simp)
  have hl:=rv.length
  exact wpAny_pyNext_tuple_end (I.ok.hd hc) st (show s.heap.IsTuple a its.toArray from p) (by simp;omega) λh' eb=>⟨rfl,I.turned (t':=s.toks) (λb o hb e=>eb b o hb e) f0 f1 f3 f4 f5⟩
 self:=λ_ _ _ _ _ st h=>wpAny_pyIter_tupleiter st h
theorem Jwv {P:Sb} {w:Sd} {K:Si} {tg:Expr} (it:S5) (lo:Int) (n:Nat):Jv1 P w K tg (Itr lo n) [it] it (λi h=>IsRangeIter h it (lo+(i:Nat)*1) ((n:Int) - (i:Nat)) 1) where
 mem:=by simp
 obj:=λi h st b hb=>by
  have e:b=it:=by simpa using hb
  subst e
  exact ⟨_,st,λv z=>by
   have z':Data.fields _=Data.cell v:=z
   cases z'⟩
 keep:=λi h h' st k=>k it (by simp) _ st
 item:=by
  intro X hP hw hK hc i pins s σ H E I hf st hg
  subst hP hw hK
  obtain ⟨f0,f1,f2,f3,f4,f5⟩:=hf it (by simp)
  have W:=Walks.range (prog:=X.prog) (w:=X.w) (I.ok.hd hc) it lo 1 n
  refine W.item i s _ _ hg st λv h' tk hv st' kk=>?_
  obtain ⟨t,rfl⟩:=hv
  have I1:Sw X pins σ H {s with heap:=h',toks:=tk}:=I.turned (λb o hb e=>kk b o (by simpa using hb) e) f0 f1 f3 f4 f5
  refine ⟨_,rfl,Jxa (s:={s with heap:=h',toks:=tk}) (n:="range_iterator") st' rfl rfl (by decide) ⟨.int (lo+i),H,I1,⟨t,?_⟩,⟨rfl,rfl⟩,st',λb hb=>(hf b hb).1⟩⟩
  rw [Int.mul_one]
 done:=by
  intro X hP hw hK hc i pins s σ H E I hf st hg
  subst hP hw hK
  obtain ⟨f0,f1,f2,f3,f4,f5⟩:=hf it (by simp)
  exact wpAny_pyNext_range_end (I.ok.hd hc) st (by have:n<=i:=hg;omega) λh' eb=>⟨rfl,I.turned (t':=s.toks) (λb o hb e=>eb b o hb e) f0 f1 f3 f4 f5⟩
 self:=λ_ _ _ _ _ st h=>wpAny_pyIter_rangeiter st h
section
variable {X:Cx} {tg:Expr}
def Soq (K:Si) (tl:TE):TI:=λσ H R=>tl σ H λx H1=>∃a,x= .ref a/\(∃xs,Sx K H1 a xs)/\R (Itl K a) H1
def Su7 (K:Si) (tl:TE):TI:=λσ H R=>tl σ H λx H1=>∃a,x= .ref a/\(∃xs,SqT K H1 a xs)/\R (Itt K a) H1
theorem Jlm {l:Expr} {tl:TE} (hl:PE X l tl):PI X tg l (Soq X.K tl):=by
 intro pins s σ H R I h
 refine thn (hl pins s σ H _ I h) λv s1 zq=>?_
 obtain ⟨x,H1,I1,r1,q1⟩:=zq
 obtain ⟨a,e,⟨xs,hq⟩,q⟩:=q1
 subst e
 cases r1
 obtain ⟨its,rv,p,hz⟩:=I1.list hq
 refine wpAny_pyIter_list p.isList ?_
 refine ⟨s1.heap.objs.size,[s1.heap.objs.size],_,_,H1,rfl,I1.kept (t':=s1.toks) λb o e=>ym _ e,Jtq a _,⟨_,yag _ rfl,rfl,rfl⟩,λb hb=>?_,q⟩
 have e:b=s1.heap.objs.size:=by simpa using hb
 subst e
 exact I1.fpOk (yg _) (I1.hok.fresh (yg _))
theorem Jwl {l:Expr} {tl:TE} (hl:PE X l tl):PI X tg l (Su7 X.K tl):=by
 intro pins s σ H R I h
 refine thn (hl pins s σ H _ I h) λv s1 zq=>?_
 obtain ⟨x,H1,I1,r1,q1⟩:=zq
 obtain ⟨a,e,⟨xs,hq⟩,q⟩:=q1
 subst e
 cases r1
 obtain ⟨its,rv,p,hz⟩:=I1.tuple hq
 refine wpAny_pyIter_tuple (show s1.heap.IsTuple a its.toArray from p) ?_
 refine ⟨s1.heap.objs.size,[s1.heap.objs.size],_,_,H1,rfl,I1.kept (t':=s1.toks) λb o e=>ym _ e,Jsf a _,⟨_,yag _ rfl,rfl,rfl⟩,λb hb=>?_,q⟩
 have e:b=s1.heap.objs.size:=by simpa using hb
 subst e
 exact I1.fpOk (yg _) (I1.hok.fresh (yg _))
theorem Jvj {pins:List (S5×Obj)} {σ:St} {H:Hp} {s:S7} {R:It->Hp->Prop} {E:S6->S7->Prop} {lo hi:Int} {t u v:Tok} {tk:Nat} (I:Sw X pins σ H s) (h1: -(2^62)<=lo) (h2:lo < 2^62) (h3: -(2^62)<=hi) (h4:hi < 2^62)
  (q:R (Itr lo (hi - lo).toNat) H):Sh (model X.prog X.w) X.A (pyIter (.ref s.heap.objs.size)) (PIE X pins σ tg R) E {s with heap:=s.heap.push {cls:=.type "range",data:=.fields #[.int lo t,.int hi u,.int 1 v]},toks:=tk}:=by
 refine wpAny_pyIter_range (IsRange.new ..) (small_one h1 h2 h3 h4) ?_
 have I1:Sw X pins σ H {s with heap:=s.heap.push {cls:=.type "range",data:=.fields #[.int lo t,.int hi u,.int 1 v]},toks:=tk}:=I.kept λb o e=>ym _ e
 refine ⟨(s.heap.push {cls:=.type "range",data:=.fields #[.int lo t,.int hi u,.int 1 v]}).objs.size,[(s.heap.push {cls:=.type "range",data:=.fields #[.int lo t,.int hi u,.int 1 v]}).objs.size],_,_,H,rfl,
  I1.kept (t':=tk) λb o e=>ym _ e,Jwv _ lo (hi - lo).toNat,?_,λb hb=>?_,q⟩
 ·have e1:lo+((0:Nat):Int)*1=lo:=by simp
  have e2:(((hi - lo).toNat:Nat):Int) - ((0:Nat):Int)=Builtin.Range.rangeSize lo hi 1:=by rw [rangeSize_one];split <;> omega
  show IsRangeIter _ _ (lo+((0:Nat):Int)*1) ((((hi - lo).toNat:Nat):Int) - ((0:Nat):Int)) 1
  rw [e1,e2]
  exact yag _ rfl
 ·have e:b=(s.heap.push {cls:=.type "range",data:=.fields #[.int lo t,.int hi u,.int 1 v]}).objs.size:=by simpa using hb
  subst e
  exact I1.fpOk (yg _) (I1.hok.fresh (yg _))
def Sor (ta:TA):TI:=λσ H R=>ta σ H λvs H1=>∃j:Int,vs= [.int j]/\ -(2^62)<=j/\j < 2^62/\R (Itr 0 j.toNat) H1
def Sos (ta:TA):TI:=λσ H R=>ta σ H λvs H1=>∃i j:Int,vs= [.int i,.int j]/\(-(2^62)<=i/\i < 2^62/\ -(2^62)<=j/\j < 2^62)/\R (Itr i (j - i).toNat) H1
theorem Jn2 {a:Expr} {ta:TA} {p pos:Pos} (hg:Gl X "range") (hm:X.mg "range" =none) (ha:PA X [a] ta) (hs:starEach [a] X.env= [(false,eval a X.env)]:=by rfl):PI X tg (.Call (.Name "range" p) [a] [] pos) (Sor ta):=by
 intro pins s σ H R I h
 refine Call_ (Jqu I hg hm boot_range (PyProof.Rows.callWith_type1 (thn (ha pos pins s σ H _ I h) λus s1 zq=>?_) hs rfl))
 obtain ⟨vs,H1,I1,r1,q1⟩:=zq
 obtain ⟨j,e,q1,q2,q⟩:=q1
 subst e
 cases r1 with
 |cons r rr=>
  cases rr
  obtain ⟨t,rfl⟩:=r
  exact call_range_1 (Jvj I1 (by omega) (by omega) q1 q2 (by simpa using q))
theorem Jyj {a b:Expr} {ta:TA} {p pos:Pos} (hg:Gl X "range") (hm:X.mg "range" =none) (ha:PA X [a,b] ta) (hs:starEach [a,b] X.env= [(false,eval a X.env),(false,eval b X.env)]:=by rfl) (hs2:starEach [b] X.env= [(false,eval b X.env)]:=by rfl):
  PI X tg (.Call (.Name "range" p) [a,b] [] pos) (Sos ta):=by
 intro pins s σ H R I h
 refine Call_ (Jqu I hg hm boot_range (PyProof.Rows.callWith_type1 (thn (ha pos pins s σ H _ I h) λus s1 zq=>?_) (by rw [hs,hs2]) (by rw [hs2];rfl)))
 obtain ⟨vs,H1,I1,r1,q1⟩:=zq
 obtain ⟨i,j,e,⟨q1,q2,q3,q4⟩,q⟩:=q1
 subst e
 cases r1 with
 |cons r rr=>
  cases rr with
  |cons r' rr=>
   cases rr
   obtain ⟨t,rfl⟩:=r
   obtain ⟨t',rfl⟩:=r'
   exact call_range_2 (Jvj I1 q1 q2 q3 q4 q)
def Suy (wi:TI) (g:TG) (tb:TS):TS:=λD σ H=>wi σ H λJ H1=>∃W:Nat->Nat->St->Hp->Prop,(∃m,W 0 m σ H1)/\∀i m σ H,W i m σ H->
 (J.stop i H/\D.nx σ H)\/(J.go i H/\∃N:St->Hp->Prop,(∀σ' H',N σ' H'->∃m',m' < m/\W (i+1) m' σ' H')/\∀x H',J.yld i H x H'->g x σ H' λσ2 H2=>tb {D with nx:=N,ct:=N,bk:=D.nx} σ2 H2)
def Js9 (fp:List S5) (h:Sg):List (S5×Obj):=fp.filterMap λb=>(h.get? b).map λo=>(b,o)
theorem Jo3 {fp:List S5} {h:Sg} {b:S5} {o:Obj} (hb:b∈fp) (e:h.get? b=some o):(b,o)∈Js9 fp h:=List.mem_filterMap.mpr ⟨b,hb,by rw [e];rfl⟩
theorem Jyg {fp:List S5} {h:Sg} {p:S5×Obj} (hp:p∈Js9 fp h):p.1∈fp/\h.get? p.1=some p.2:=by
 obtain ⟨b,hb,e⟩:=List.mem_filterMap.mp hp
 cases q:h.get? b with
 |none=>rw [q] at e;cases e
 |some o=>
  rw [q] at e
  have e':(b,o)=p:=yt.inj e
  subst e'
  exact ⟨hb,q⟩
theorem Sw.pinned {pins:List (S5×Obj)} {σ:St} {H:Hp} {s:S7} {fp:List S5} (I:Sw X pins σ H s) (hf:∀b∈fp,Jql X pins H b) (ho:∀b∈fp,∃o,s.heap.get? b=some o/\∀v,o.data≠ .cell v):Sw X (pins++Js9 fp s.heap) σ H s:=
 I.pins_of λp hp=>(yy.mp hp).elim (λz=>I.pin p (yax _ z)) λz=>by
  obtain ⟨hb,e⟩:=Jyg z
  obtain ⟨f0,f1,f2,_⟩:=hf p.1 hb
  obtain ⟨o,e',d⟩:=ho p.1 hb
  rw [e] at e';cases e'
  exact ⟨e,f0,f1,f2,d⟩
theorem Sw.unpinned {pins pl:List (S5×Obj)} {σ:St} {H:Hp} {s:S7} (I:Sw X (pins++pl) σ H s):Sw X pins σ H s:=I.pins_of λp hp=>I.pin p (yax _ (ybx _ hp))
theorem Jnm {iter:Expr} {body:List Sf} {wi:TI} {g:TG} {tb:TS} {pos:Pos} (hp:PassesOwn (model X.prog X.w) X.A X.env X.xe) (hc:X.calm=true) (hi:PI X tg iter wi) (hg:PG X tg g) (hb:PSs X body tb)
  (hs:∀x,foldedSetIterable iter X.env x=pure x:=by intro _;rfl):PS X (.For tg iter body [] pos) (Suy wi g tb):=by
 intro pins s σ H D I h
 refine wpAny_For (thn (hi pins s σ H _ I h) λv s1 h1=>thn h1 λitv s2 h2=>?_) hs
 obtain ⟨it,fp,tn,J,H2,e,I2,T,st2,f2,W,⟨m0,w0⟩,turn⟩:=h2
 subst e
 have stat:∀{H':Hp},(∀b∈fp,H' b=none)->∀b∈fp,Jql X pins H' b:=λhn b hb=>⟨hn b hb,(f2 b hb).2⟩
 refine codeAny_forLoop_any (λn s'=>∃i σ' H',Sw X pins σ' H' s'/\tn i s'.heap/\(∀b∈fp,H' b=none)/\W i n σ' H') ?_ m0 ⟨0,σ,H2,I2,st2,λb hb=>(f2 b hb).1,w0⟩
 rintro n s3 ⟨i,σ3,H3,I3,st3,fr3,w3⟩
 rcases turn i n σ3 H3 w3 with ⟨stop,qn⟩|⟨go,N,hN,step⟩
 ·refine wpAny_passesOwn hp (thn (T.done X rfl rfl rfl hc i pins s3 σ3 H3 X.xe I3 (stat fr3) st3 stop) λr s4 ⟨hr,I4⟩=>?_)
  subst hr
  exact wpAny_execs_nil ⟨σ3,H3,I4,qn⟩
 ·refine wpAny_passesOwn hp (thn (T.item X rfl rfl rfl hc i pins s3 σ3 H3 X.xe I3 (stat fr3) st3 go) λr s4 ⟨u,hr,h4⟩=>?_)
  subst hr
  refine wpAny_passesOwn hp (thn h4 λ_ s5 zq=>?_)
  obtain ⟨x,H5,I5,r5,y5,st5,fr5⟩:=zq
  have I5':=I5.pinned (stat fr5) (T.obj _ _ st5)
  refine wpAny_passesOwn hp (thn (hg _ s5 σ3 H5 x u _ I5' r5 (step x H5 y5)) λ_ s6 zq=>?_)
  obtain ⟨σ6,H6,I6,q6⟩:=zq
  refine wpAny_passesOwn hp (thn (hb _ s6 σ6 H6 _ I6 q6) λf s7 q7=>?_)
  have again:∀{σ7:St} {H7:Hp},Sw X (pins++Js9 fp s5.heap) σ7 H7 s7->N σ7 H7->∃m,m < n/\∃i σ' H',Sw X pins σ' H' s7/\tn i s7.heap/\(∀b∈fp,H' b=none)/\W i m σ' H':=λ{σ7 H7} I7 n7=>by
   obtain ⟨m',hm,w7⟩:=hN σ7 H7 n7
   refine ⟨m',hm,i+1,σ7,H7,I7.unpinned,T.keep _ _ _ st5 λb hb o e=>(I7.pin (b,o) (yax _ (yax _ (Jo3 hb e)))).1,λb hb=>?_,w7⟩
   obtain ⟨o,e,d⟩:=T.obj _ _ st5 b hb
   exact (I7.pin (b,o) (yax _ (yax _ (Jo3 hb e)))).2.1
  cases f with
  |next=>obtain ⟨σ7,H7,I7,n7⟩:=q7;exact again I7 n7
  |cont=>obtain ⟨σ7,H7,I7,n7⟩:=q7;exact again I7 n7
  |brk=>obtain ⟨σ7,H7,I7,q7⟩:=q7;exact ⟨σ7,H7,I7.unpinned,q7⟩
  |ret v=>obtain ⟨x7,σ7,H7,I7,r7,q7⟩:=q7;exact ⟨x7,σ7,H7,I7.unpinned,r7,q7⟩
end
theorem Jrt {K:Si} {a:S5} {xs:List V} {g:TG} {tb:TS} {D:Sbz} {σ:St} {H:Hp} (Pv:Nat->St->Hp->Prop) (h0:Pv 0 σ H) (hl:∀i σ H,i<=xs.length->Pv i σ H->Sx K H a xs)
  (hs:∀i x σ H,xs[i]?=some x->Pv i σ H->g x σ H λσ2 H2=>tb {D with nx:=Pv (i+1),ct:=Pv (i+1),bk:=D.nx} σ2 H2) (hd:∀σ H,Pv xs.length σ H->D.nx σ H):
  ∃W:Nat->Nat->St->Hp->Prop,(∃m,W 0 m σ H)/\∀i m σ H,W i m σ H->
   ((Itl K a).stop i H/\D.nx σ H)\/((Itl K a).go i H/\∃N:St->Hp->Prop,(∀σ' H',N σ' H'->∃m',m' < m/\W (i+1) m' σ' H')/\∀x H',(Itl K a).yld i H x H'->g x σ H' λσ2 H2=>tb {D with nx:=N,ct:=N,bk:=D.nx} σ2 H2):=by
 refine ⟨λi m σ H=>m=xs.length - i/\i<=xs.length/\Pv i σ H,⟨xs.length,by simp,yak _,h0⟩,?_⟩
 rintro i m σ H ⟨rfl,hi,p⟩
 have q:=hl i σ H hi p
 by_cases hlt:i < xs.length
 ·refine .inr ⟨⟨xs,xs[i],q,by simp [hlt]⟩,Pv (i+1),λσ' H' p'=>⟨xs.length - (i+1),by omega,rfl,hlt,p'⟩,λx H' y=>?_⟩
  obtain ⟨e,y⟩:=y
  subst e
  exact hs i x σ _ (y xs q) p
 ·have e:i=xs.length:=by omega
  subst e
  exact .inl ⟨⟨xs,q,yg _⟩,hd σ H p⟩
theorem Ya5 {K:Si} {a:S5} {xs:List V} {g:TG} {tb:TS} {D:Sbz} {σ:St} {H:Hp} (Pv:Nat->St->Hp->Prop) (h0:Pv 0 σ H) (hl:∀i σ H,i<=xs.length->Pv i σ H->SqT K H a xs)
  (hs:∀i x σ H,xs[i]?=some x->Pv i σ H->g x σ H λσ2 H2=>tb {D with nx:=Pv (i+1),ct:=Pv (i+1),bk:=D.nx} σ2 H2) (hd:∀σ H,Pv xs.length σ H->D.nx σ H):
  ∃W:Nat->Nat->St->Hp->Prop,(∃m,W 0 m σ H)/\∀i m σ H,W i m σ H->
   ((Itt K a).stop i H/\D.nx σ H)\/((Itt K a).go i H/\∃N:St->Hp->Prop,(∀σ' H',N σ' H'->∃m',m' < m/\W (i+1) m' σ' H')/\∀x H',(Itt K a).yld i H x H'->g x σ H' λσ2 H2=>tb {D with nx:=N,ct:=N,bk:=D.nx} σ2 H2):=by
 refine ⟨λi m σ H=>m=xs.length - i/\i<=xs.length/\Pv i σ H,⟨xs.length,by simp,yak _,h0⟩,?_⟩
 rintro i m σ H ⟨rfl,hi,p⟩
 have q:=hl i σ H hi p
 by_cases hlt:i < xs.length
 ·refine .inr ⟨⟨xs,xs[i],q,by simp [hlt]⟩,Pv (i+1),λσ' H' p'=>⟨xs.length - (i+1),by omega,rfl,hlt,p'⟩,λx H' y=>?_⟩
  obtain ⟨e,y⟩:=y
  subst e
  exact hs i x σ _ (y xs q) p
 ·have e:i=xs.length:=by omega
  subst e
  exact .inl ⟨⟨xs,q,yg _⟩,hd σ H p⟩
theorem Jn1 {lo:Int} {n:Nat} {g:TG} {tb:TS} {D:Sbz} {σ:St} {H:Hp} (Pv:Nat->St->Hp->Prop) (h0:Pv 0 σ H)
  (hs:∀i σ H,i < n->Pv i σ H->g (.int (lo+i)) σ H λσ2 H2=>tb {D with nx:=Pv (i+1),ct:=Pv (i+1),bk:=D.nx} σ2 H2) (hd:∀σ H,Pv n σ H->D.nx σ H):
  ∃W:Nat->Nat->St->Hp->Prop,(∃m,W 0 m σ H)/\∀i m σ H,W i m σ H->
   ((Itr lo n).stop i H/\D.nx σ H)\/((Itr lo n).go i H/\∃N:St->Hp->Prop,(∀σ' H',N σ' H'->∃m',m' < m/\W (i+1) m' σ' H')/\∀x H',(Itr lo n).yld i H x H'->g x σ H' λσ2 H2=>tb {D with nx:=N,ct:=N,bk:=D.nx} σ2 H2):=by
 refine ⟨λi m σ H=>m=n - i/\i<=n/\Pv i σ H,⟨n,by simp,yak _,h0⟩,?_⟩
 rintro i m σ H ⟨rfl,hi,p⟩
 by_cases hlt:i < n
 ·refine .inr ⟨hlt,Pv (i+1),λσ' H' p'=>⟨n - (i+1),by omega,rfl,hlt,p'⟩,λx H' y=>?_⟩
  obtain ⟨e,y⟩:=y
  subst e y
  exact hs i σ _ hlt p
 ·have e:i=n:=by omega
  subst e
  exact .inl ⟨yg _,hd σ H p⟩
theorem Yr {c:TT} {tb:TS} {D:Sbz} {σ:St} {H:Hp} (Pv:St->Hp->Prop) (μ:St->Hp->Nat) (h0:Pv σ H)
  (hs:∀σ H,Pv σ H->c σ H λb H1=>if b=true then tb {D with nx:=λσ' H'=>Pv σ' H'/\μ σ' H' < μ σ H,ct:=λσ' H'=>Pv σ' H'/\μ σ' H' < μ σ H,bk:=D.nx} σ H1 else D.nx σ H1)
  (mono:∀σ H Q Q',(∀b H1,Q b H1->Q' b H1)->c σ H Q->c σ H Q'):Yo c tb D σ H:=by
 refine ⟨λm σ H=>m=μ σ H/\Pv σ H,⟨_,rfl,h0⟩,?_⟩
 rintro m σ H ⟨rfl,p⟩
 refine mono σ H _ _ (λb H1 q=>?_) (hs σ H p)
 cases b with
 |true=>exact ⟨_,λσ' H' ⟨p',l⟩=>⟨_,l,rfl,p'⟩,q⟩
 |false=>exact q
abbrev R2:=V->V->Hp->VK->Prop
def OpR (X:Cx) (f:S6->S6->Sem S6) (r:R2):Prop:=
 ∀(pins:List (S5×Obj)) (s:S7) (σ:St) (H:Hp) (x y:V) (v u:S6) (Q:VK),Sw X pins σ H s->Sa4 x v->Sa4 y u->r x y H Q->
  Sh (model X.prog X.w) X.A (f v u) (EP X pins σ Q) X.xe s
def UnR (X:Cx) (f:S6->Sem S6) (r:V->Hp->VK->Prop):Prop:=
 ∀(pins:List (S5×Obj)) (s:S7) (σ:St) (H:Hp) (x:V) (v:S6) (Q:VK),Sw X pins σ H s->Sa4 x v->r x H Q->
  Sh (model X.prog X.w) X.A (f v) (EP X pins σ Q) X.xe s
def Jmd (X:Cx) (f:S6) (r:List V->Hp->VK->Prop):Prop:=
 ∀(pins:List (S5×Obj)) (s:S7) (σ:St) (H:Hp) (xs:List V) (us:List S6) (Q:VK),Sw X pins σ H s->Sa2 xs us->r xs H Q->
  Sh (model X.prog X.w) X.A (call f us) (EP X pins σ Q) X.xe s
def Stv (X:Cx) (r:V->Hp->(Bool->Hp->Prop)->Prop):Prop:=
 ∀(pins:List (S5×Obj)) (s:S7) (σ:St) (H:Hp) (x:V) (v:S6) (Q:Bool->Hp->Prop),Sw X pins σ H s->Sa4 x v->r x H Q->
  Sh (model X.prog X.w) X.A (truthy v) (TP X pins σ Q) X.xe s
def tOp (r:R2) (ta tb:TE):TE:=λσ H Q=>ta σ H λx H1=>tb σ H1 λy H2=>r x y H2 Q
def tUn (r:V->Hp->VK->Prop) (ta:TE):TE:=λσ H Q=>ta σ H λx H1=>r x H1 Q
def rI (C:Int->Int->Prop) (g:Int->Int->V):R2:=λx y H Q=>∃i j,x= .int i/\y= .int j/\C i j/\Q (g i j) H
def rI0 (g:Int->Int->V):R2:=λx y H Q=>∃i j,x= .int i/\y= .int j/\Q (g i j) H
def rU (g:Int->V):V->Hp->VK->Prop:=λx H Q=>∃i,x= .int i/\Q (g i) H
section
variable {X:Cx} {a b c:Expr} {ta tb tc:TE} {pos:Pos}
theorem Sl2 (ha:PE X a ta) (hb:PE X b tb) {pins:List (S5×Obj)} {s:S7} {σ:St} {H:Hp} {R:V->V->Hp->Prop} (I:Sw X pins σ H s)
  (h:ta σ H λx H1=>tb σ H1 λy H2=>R x y H2) {Q:S6->S7->Prop} {f:S6->S6->Sem S6}
  (hf:∀v u s2 x y H2,Sw X pins σ H2 s2->Sa4 x v->Sa4 y u->R x y H2->Sh (model X.prog X.w) X.A (f v u) Q X.xe s2):
  Sh (model X.prog X.w) X.A (eval a X.env) (λv s₁=>Sh (model X.prog X.w) X.A (eval b X.env) (λu s₂=>Sh (model X.prog X.w) X.A (f v u) Q X.xe s₂) X.xe s₁) X.xe s:=by
 refine thn (ha pins s σ H _ I h) λv s1 zq=>?_
 obtain ⟨x,H1,I1,r1,q1⟩:=zq
 refine thn (hb pins s1 σ H1 _ I1 q1) λu s2 zq=>?_
 obtain ⟨y,H2,I2,r2,q2⟩:=zq
 exact hf v u s2 x y H2 I2 r1 r2 q2
theorem Jjn {op:Operator} {r:R2} (ho:OpR X (binaryOp op) r) (ha:PE X a ta) (hb:PE X b tb):PE X (.BinOp a op b pos) (tOp r ta tb):=by
 intro pins s σ H Q I h
 exact wpAny_BinOp (Sl2 ha hb I h λv u s2 x y H2 I2 rx ry q=>ho pins s2 σ H2 x y v u Q I2 rx ry q)
theorem Jxm {op:UnaryOp} {r:V->Hp->VK->Prop} (ho:UnR X (unaryOp op) r) (ha:PE X a ta):PE X (.UnaryOp op a pos) (tUn r ta):=by
 intro pins s σ H Q I h
 exact UnaryOp_ (thn (ha pins s σ H _ I h) λv s1 ⟨x,H1,I1,r1,q1⟩=>ho pins s1 σ H1 x v Q I1 r1 q1)
theorem opI {f:S6->S6->Sem S6} {C:Int->Int->Prop} {g:Int->Int->Int}
  (rule:∀(i j:Int) (t u:Tok) (s:S7) (Q:S6->S7->Prop) (E:S6->S7->Prop),C i j->Q (.int (g i j) s.toks) {s with toks:=s.toks+1}->Sh (model X.prog X.w) X.A (f (.int i t) (.int j u)) Q E s):
  OpR X f (rI C λi j=>.int (g i j)):=by
 intro pins s σ H x y v u Q I rx ry h
 obtain ⟨i,j,rfl,rfl,hc,q⟩:=h
 obtain ⟨t,rfl⟩:=rx
 obtain ⟨t',rfl⟩:=ry
 exact rule i j t t' s _ _ hc ⟨.int (g i j),H,I.tok _,⟨_,rfl⟩,q⟩
theorem Sov {f:S6->S6->Sem S6} {g:Int->Int->Int}
  (rule:∀(i j:Int) (t u:Tok) (s:S7) (Q:S6->S7->Prop) (E:S6->S7->Prop),Q (.int (g i j) s.toks) {s with toks:=s.toks+1}->Sh (model X.prog X.w) X.A (f (.int i t) (.int j u)) Q E s):
  OpR X f (rI0 λi j=>.int (g i j)):=by
 intro pins s σ H x y v u Q I rx ry h
 obtain ⟨i,j,rfl,rfl,q⟩:=h
 obtain ⟨t,rfl⟩:=rx
 obtain ⟨t',rfl⟩:=ry
 exact rule i j t t' s _ _ ⟨.int (g i j),H,I.tok _,⟨_,rfl⟩,q⟩
theorem Sj1 {f:S6->S6->Sem S6} {g:Int->Int->Bool}
  (rule:∀(i j:Int) (t u:Tok) (s:S7) (Q:S6->S7->Prop) (E:S6->S7->Prop),Q (.bool (g i j)) s->Sh (model X.prog X.w) X.A (f (.int i t) (.int j u)) Q E s):
  OpR X f (rI0 λi j=>.bl (g i j)):=by
 intro pins s σ H x y v u Q I rx ry h
 obtain ⟨i,j,rfl,rfl,q⟩:=h
 obtain ⟨t,rfl⟩:=rx
 obtain ⟨t',rfl⟩:=ry
 exact rule i j t t' s _ _ ⟨.bl (g i j),H,I,rfl,q⟩
def Srn (i j:Int):Prop:=0<=j/\j<=1000000/\i.natAbs < 2^64
def Sk6 (i j:Int):Prop:=(-(2^64) < i/\i < 2^64)\/(-(2^64) < j/\j < 2^64)
theorem Sk6.ok {i j:Int} (h:Sk6 i j):IntMulOk i j:=by
 rcases h with ⟨h1,h2⟩|⟨h1,h2⟩
 ·exact .of_left (intBits_le_64 h1 h2)
 ·exact .of_right (intBits_le_64 h1 h2)
theorem Jk8:OpR X (binaryOp .Add) (rI0 λi j=>.int (i+j)):=Sov λ_ _ _ _ _ _ _ q=>add_int q
theorem Jnl:OpR X (binaryOp .Sub) (rI0 λi j=>.int (i - j)):=Sov λ_ _ _ _ _ _ _ q=>sub_int q
theorem Jpp:OpR X (binaryOp .Mult) (rI Sk6 λi j=>.int (i*j)):=opI λ_ _ _ _ _ _ _ hc q=>mul_int q hc.ok
theorem Joq:OpR X (binaryOp .Mod) (rI (λ_ j=>0 < j) λi j=>.int (i%j)):=opI λi j _ _ _ _ _ hc q=>by
 have h1:(0:Int) < j:=hc
 exact mod_int' (by omega) (by rw [Int.fmod_eq_emod_of_nonneg i (by omega)];exact q)
theorem Y0:OpR X (binaryOp .Pow) (rI Srn λi j=>.int (i^j.toNat)):=opI λ_ _ _ _ _ _ _ hc q=>pow_int_small hc.1 hc.2.1 hc.2.2 q
theorem unI {f:S6->Sem S6} {g:Int->Int}
  (rule:∀(i:Int) (t:Tok) (s:S7) (Q:S6->S7->Prop) (E:S6->S7->Prop),Q (.int (g i) s.toks) {s with toks:=s.toks+1}->Sh (model X.prog X.w) X.A (f (.int i t)) Q E s):
  UnR X f (rU λi=>.int (g i)):=by
 intro pins s σ H x v Q I rx h
 obtain ⟨i,rfl,q⟩:=h
 obtain ⟨t,rfl⟩:=rx
 exact rule i t s _ _ ⟨.int (g i),H,I.tok _,⟨_,rfl⟩,q⟩
theorem Juy:UnR X (unaryOp .USub) (rU λi=>.int (-i)):=unI λ_ _ _ _ _ q=>neg_int q
end
def Sp6:V->V->Bool
 | .non,.non=>true| .non,.int _=>true| .int _,.non=>true| .non,.bl _=>true| .bl _,.non=>true| .non,.str _=>true| .str _,.non=>true
 | .int _,.int _=>true| .bl _,.bl _=>true| .str _,.str _=>true| .byt _,.byt _=>true
 | .int _,.str _=>true| .str _,.int _=>true| .bl _,.str _=>true| .str _,.bl _=>true
 |_,_=>false
def rEq:R2:=λx y H Q=>Sp6 x y=true/\Q (.bl (decide (x=y))) H
def rNe:R2:=λx y H Q=>Sp6 x y=true/\Q (.bl (!decide (x=y))) H
theorem Jx5 {i j:Int}:decide (V.int i=V.int j)=(i==j):=by
 rw [ybe]
 simp
theorem Jz8 {i j:Bool}:decide (V.bl i=V.bl j)=(i==j):=by
 rw [ybe]
 simp
theorem Jx6 {i j:Str}:decide (V.str i=V.str j)=(i==j):=by
 rw [ybe]
 simp
theorem Jx4 {i j:Array UInt8}:decide (V.byt i=V.byt j)=(i.toList==j.toList):=by
 rw [ybe]
 cases i
 cases j
 simp
section
variable {X:Cx} {a b c:Expr} {ta tb tc:TE} {pos:Pos}
theorem Jk7 {pins:List (S5×Obj)} {σ:St} {H:Hp} {s:S7} {Q:VK} {k k':Bool} (I:Sw X pins σ H s) (q:Q (.bl k) H) (e:k=k'):EP X pins σ Q (.bool k') s:=by
 subst e
 exact ⟨.bl k,H,I,rfl,q⟩
theorem Jkv:OpR X (compareOp .Eq) rEq:=by
 intro pins s σ H x y v u Q I rx ry h
 obtain ⟨hs,q⟩:=h
 cases x with
 |non=>
  cases rx
  cases y with
  |non=>cases ry;exact PySem.EqNone.eq_none_none (Jk7 I q (by simp))
  |bl j=>cases ry;exact PySem.EqNone.eq_none_bool (Jk7 I q (by simp))
  |int j=>obtain ⟨t',rfl⟩:=ry;exact PySem.EqNone.eq_none_int (Jk7 I q (by simp))
  |str j=>obtain ⟨t',rfl⟩:=ry;exact PySem.EqNone.eq_none_str (Jk7 I q (by simp))
  |_=>exact absurd (show false=true from hs) yw
 |bl i=>
  cases rx
  cases y with
  |non=>cases ry;exact PySem.EqNone.eq_bool_none (Jk7 I q (by simp))
  |bl j=>cases ry;exact eq_bool (Jk7 I q Jz8)
  |str j=>obtain ⟨t',rfl⟩:=ry;exact PySem.EqMixed.eq_bool_str (Jk7 I q (by simp))
  |_=>exact absurd (show false=true from hs) yw
 |int i=>
  obtain ⟨t,rfl⟩:=rx
  cases y with
  |non=>cases ry;exact PySem.EqNone.eq_int_none (Jk7 I q (by simp))
  |int j=>obtain ⟨t',rfl⟩:=ry;exact eq_int (Jk7 I q Jx5)
  |str j=>obtain ⟨t',rfl⟩:=ry;exact PySem.EqMixed.eq_int_str (Jk7 I q (by simp))
  |_=>exact absurd (show false=true from hs) yw
 |str i=>
  obtain ⟨t,rfl⟩:=rx
  cases y with
  |non=>cases ry;exact PySem.EqNone.eq_str_none (Jk7 I q (by simp))
  |bl j=>cases ry;exact PySem.EqMixed.eq_str_bool (Jk7 I q (by simp))
  |int j=>obtain ⟨t',rfl⟩:=ry;exact PySem.EqMixed.eq_str_int (Jk7 I q (by simp))
  |str j=>obtain ⟨t',rfl⟩:=ry;exact eq_str (Jk7 I q Jx6)
  |_=>exact absurd (show false=true from hs) yw
 |byt i=>
  obtain ⟨t,rfl⟩:=rx
  cases y with
  |byt j=>obtain ⟨t',rfl⟩:=ry;exact PySem.W.eq_bytes (Jk7 I q Jx4)
  |_=>exact absurd (show false=true from hs) yw
 |_=>cases y <;> exact absurd (show false=true from hs) yw
theorem Sjs:OpR X (compareOp .NotEq) rNe:=by
 intro pins s σ H x y v u Q I rx ry h
 obtain ⟨hs,q⟩:=h
 cases x with
 |non=>
  cases rx
  cases y with
  |non=>cases ry;exact PySem.EqNone.ne_none_none (Jk7 I q (by simp))
  |bl j=>cases ry;exact PySem.EqNone.ne_none_bool (Jk7 I q (by simp))
  |int j=>obtain ⟨t',rfl⟩:=ry;exact PySem.EqNone.ne_none_int (Jk7 I q (by simp))
  |str j=>obtain ⟨t',rfl⟩:=ry;exact PySem.EqNone.ne_none_str (Jk7 I q (by simp))
  |_=>exact absurd (show false=true from hs) yw
 |bl i=>
  cases rx
  cases y with
  |non=>cases ry;exact PySem.EqNone.ne_bool_none (Jk7 I q (by simp))
  |bl j=>cases ry;exact ne_bool (Jk7 I q (congrArg not Jz8))
  |str j=>obtain ⟨t',rfl⟩:=ry;exact PySem.EqMixed.ne_bool_str (Jk7 I q (by simp))
  |_=>exact absurd (show false=true from hs) yw
 |int i=>
  obtain ⟨t,rfl⟩:=rx
  cases y with
  |non=>cases ry;exact PySem.EqNone.ne_int_none (Jk7 I q (by simp))
  |int j=>obtain ⟨t',rfl⟩:=ry;exact ne_int (Jk7 I q (congrArg not Jx5))
  |str j=>obtain ⟨t',rfl⟩:=ry;exact PySem.EqMixed.ne_int_str (Jk7 I q (by simp))
  |_=>exact absurd (show false=true from hs) yw
 |str i=>
  obtain ⟨t,rfl⟩:=rx
  cases y with
  |non=>cases ry;exact PySem.EqNone.ne_str_none (Jk7 I q (by simp))
  |bl j=>cases ry;exact PySem.EqMixed.ne_str_bool (Jk7 I q (by simp))
  |int j=>obtain ⟨t',rfl⟩:=ry;exact PySem.EqMixed.ne_str_int (Jk7 I q (by simp))
  |str j=>obtain ⟨t',rfl⟩:=ry;exact ne_str (Jk7 I q (congrArg not Jx6))
  |_=>exact absurd (show false=true from hs) yw
 |byt i=>
  obtain ⟨t,rfl⟩:=rx
  cases y with
  |byt j=>obtain ⟨t',rfl⟩:=ry;exact PySem.W.ne_bytes (Jk7 I q (congrArg not Jx4))
  |_=>exact absurd (show false=true from hs) yw
 |_=>cases y <;> exact absurd (show false=true from hs) yw
theorem Jop:OpR X (compareOp .Lt) (rI0 λi j=>.bl (decide (i < j))):=Sj1 λ_ _ _ _ _ _ _ q=>lt_int q
theorem Jmg:OpR X (compareOp .LtE) (rI0 λi j=>.bl (decide (i<=j))):=Sj1 λ_ _ _ _ _ _ _ q=>le_int q
theorem Jxk:OpR X (compareOp .Gt) (rI0 λi j=>.bl (decide (j < i))):=Sj1 λ_ _ _ _ _ _ _ q=>gt_int q
theorem Sow:OpR X (compareOp .GtE) (rI0 λi j=>.bl (decide (j<=i))):=Sj1 λ_ _ _ _ _ _ _ q=>ge_int q
theorem Jyh:OpR X (compareOp .In) (λx y H Q=>∃i j,x= .str i/\y= .str j/\Q (.bl (!(Builtin.Str.occurrences j i 0 j.length 1).isEmpty)) H):=by
 intro pins s σ H x y v u Q I rx ry h
 obtain ⟨i,j,rfl,rfl,q⟩:=h
 obtain ⟨t,rfl⟩:=rx
 obtain ⟨t',rfl⟩:=ry
 exact in_str (Jk7 I q rfl)
theorem Sll:OpR X (compareOp .Is) (λx y H Q=>y= .non/\Q (.bl (decide (x= .non))) H):=by
 intro pins s σ H x y v u Q I rx ry h
 obtain ⟨rfl,q⟩:=h
 cases ry
 refine is_none_gen (Jk7 I q ?_)
 cases x <;> first
  | (cases rx; rfl)
  | (obtain ⟨t,rfl⟩:=rx; rfl)
theorem Jul:OpR X (compareOp .IsNot) (λx y H Q=>y= .non/\Q (.bl (!decide (x= .non))) H):=by
 intro pins s σ H x y v u Q I rx ry h
 obtain ⟨rfl,q⟩:=h
 cases ry
 refine isnot_none_gen (Jk7 I q ?_)
 cases x <;> first
  | (cases rx; rfl)
  | (obtain ⟨t,rfl⟩:=rx; rfl)
theorem Jq7:OpR X (compareOp .NotIn) (λx y H Q=>∃i j,x= .str i/\y= .str j/\Q (.bl (!(!(Builtin.Str.occurrences j i 0 j.length 1).isEmpty))) H):=by
 intro pins s σ H x y v u Q I rx ry h
 obtain ⟨i,j,rfl,rfl,q⟩:=h
 obtain ⟨t,rfl⟩:=rx
 obtain ⟨t',rfl⟩:=ry
 exact notIn_str (Jk7 I q rfl)
theorem Jjp (b:Expr) {op:CmpOp} (h:op≠ .In:=by decide) (h2:op≠ .NotIn:=by decide):behindInMarks op b=false:=by
 have e1:(op==CmpOp.In)=false:=by cases op <;> first|rfl|exact absurd rfl h
 have e2:(op==CmpOp.NotIn)=false:=by cases op <;> first|rfl|exact absurd rfl h2
 cases b <;> simp [behindInMarks,e1,e2]
theorem Jkt {op:CmpOp} {r:R2} (ho:OpR X (compareOp op) r) (ha:PE X a ta) (hb:PE X b tb) (hm:behindInMarks op b=false):PE X (.Compare a [op] [b] pos) (tOp r ta tb):=by
 intro pins s σ H Q I h
 exact wpAny_Compare1 (Sl2 ha hb I h λv u s2 x y H2 I2 rx ry q=>ho pins s2 σ H2 x y v u Q I2 rx ry q) hm
def Sk4 (t:TE):TT:=λσ H Q=>t σ H λx H'=>∃k,x= .bl k/\Q k H'
theorem Jjo {op:CmpOp} {r:R2} (ho:OpR X (compareOp op) r) (ha:PE X a ta) (hb:PE X b tb) (hm:behindInMarks op b=false):PT X (.Compare a [op] [b] pos) (Sk4 (tOp r ta tb)):=by
 intro pins s σ H Q I h
 refine wpAny_isTrue_Compare1 (thn (ha pins s σ H _ I h) λv s1 ⟨x,H1,I1,r1,q1⟩=>thn (hb pins s1 σ H1 _ I1 q1) λu s2 ⟨y,H2,I2,r2,q2⟩=>
  thn (ho pins s2 σ H2 x y v u _ I2 r1 r2 q2) λc s3 ⟨z,H3,I3,r3,k,e,q3⟩=>?_) hm
 subst e
 cases r3
 exact wpAny_truthy_bool ⟨H3,I3,q3⟩
def Yl (r r':R2) (ta tb tc:TE):TE:=λσ H Q=>ta σ H λx H1=>tb σ H1 λy H2=>r x y H2 λz H3=>∃k,z= .bl k/\
 (if k=true then tc σ H3 λw' H4=>r' y w' H4 Q else Q (.bl false) H3)
theorem Js7 {op op':CmpOp} {r r':R2} (ho:OpR X (compareOp op) r) (ho':OpR X (compareOp op') r') (ha:PE X a ta) (hb:PE X b tb) (hc:PE X c tc)
  (hm:lastMarks [op,op'] [b,c]=false:=by with_unfolding_all rfl):PE X (.Compare a [op,op'] [b,c] pos) (Yl r r' ta tb tc):=by
 intro pins s σ H Q I h
 refine Compare_chain (thn (ha pins s σ H _ I h) λv s1 ⟨x,H1,I1,r1,q1⟩=>chain_link (thn (hb pins s1 σ H1 _ I1 q1) λu s2 ⟨y,H2,I2,r2,q2⟩=>
  thn (ho pins s2 σ H2 x y v u _ I2 r1 r2 q2) λd s3 ⟨z,H3,I3,r3,k,e,q3⟩=>?_)) hm
 subst e
 cases r3
 refine wpAny_truthy_bool ?_
 cases k with
 |false=>exact ite_ff ⟨.bl false,H3,I3,rfl,q3⟩
 |true=>exact ite_tt (chain_last (thn (hc pins s3 σ H3 _ I3 q3) λw' s4 ⟨z',H4,I4,r4,q4⟩=>ho' pins s4 σ H4 y z' u w' Q I4 r2 r4 q4))
theorem Jnw {op op':CmpOp} {r r':R2} (ho:OpR X (compareOp op) r) (ho':OpR X (compareOp op') r') (ha:PE X a ta) (hb:PE X b tb) (hc:PE X c tc)
  (hm:lastMarks [op,op'] [b,c]=false:=by with_unfolding_all rfl):PT X (.Compare a [op,op'] [b,c] pos) (Sk4 (Yl r r' ta tb tc)):=by
 intro pins s σ H Q I h
 refine isTrue_chain (thn (ha pins s σ H _ I h) λv s1 ⟨x,H1,I1,r1,q1⟩=>test_link (thn (hb pins s1 σ H1 _ I1 q1) λu s2 ⟨y,H2,I2,r2,q2⟩=>
  thn (ho pins s2 σ H2 x y v u _ I2 r1 r2 q2) λd s3 ⟨z,H3,I3,r3,k,e,q3⟩=>?_)) hm
 subst e
 cases r3
 refine wpAny_truthy_bool ?_
 cases k with
 |false=>
  obtain ⟨k',e',q'⟩:=q3
  cases e'
  exact ite_ff ⟨H3,I3,q'⟩
 |true=>
  refine ite_tt (test_last (thn (hc pins s3 σ H3 _ I3 q3) λw' s4 ⟨z',H4,I4,r4,q4⟩=>thn (ho' pins s4 σ H4 y z' u w' _ I4 r2 r4 q4) λd' s5 zq=>?_))
  obtain ⟨z2,H5,I5,r5,k2,e2,q5⟩:=zq
  subst e2
  cases r5
  exact wpAny_truthy_bool ⟨H5,I5,q5⟩
def Som (K:Si) (x:V) (H:Hp) (k:Bool):Prop:=
 match x with
 | .non=>k=false
 | .bl b=>k=b
 | .int i=>k=(i !=0)
 | .str y=>y.length<=Sa/\k=((y.length:Int) !=0)
 | .byt y=>y.size<=Sa/\k=((y.size:Int) !=0)
 | .ref p=>(∃xs,Sx K H p xs/\k=!xs.isEmpty)\/(∃xs,SqT K H p xs/\k=!xs.isEmpty)\/∃kvs,H p=some (.dK kvs)/\k=!kvs.isEmpty
 |_=>False
theorem Jw3 {κ:Type} {kvs:List (κ×V)} {vs:List (κ×S6)} (r:KV kvs vs):(!vs.isEmpty)=!kvs.isEmpty:=by
 cases r <;> rfl
theorem Jrx {xs:List V} {its:List S6} (r:Sa2 xs its):(!its.toArray.isEmpty)=!xs.isEmpty:=by
 cases r <;> simp
theorem Jpi:(Sa:Nat) < 2^63:=by rw [sizeLine_eq];decide
theorem Smk:Stv X (λx H Q=>∃k,Som X.K x H k/\Q k H):=by
 intro pins s σ H x v Q I rx h
 obtain ⟨k,e,q⟩:=h
 have hl:=Jpi
 have hs:Sa=16777216:=sizeLine_eq
 cases x with
 |non=>
  cases rx
  have e':k=false:=e
  subst e'
  exact truthy_none ⟨H,I,q⟩
 |bl b=>
  cases rx
  have e':k=b:=e
  subst e'
  exact wpAny_truthy_bool ⟨H,I,q⟩
 |int i=>
  obtain ⟨t,rfl⟩:=rx
  have e':k=(i !=0):=e
  subst e'
  exact PySem.P.truthy_int ⟨H,I,q⟩
 |str y=>
  obtain ⟨t,rfl⟩:=rx
  obtain ⟨hy,e'⟩:y.length<=Sa/\k=((y.length:Int) !=0):=e
  subst e'
  exact PySem.P.truthy_str (by omega) ⟨H,I.tok _,q⟩
 |byt y=>
  obtain ⟨t,rfl⟩:=rx
  obtain ⟨hy,e'⟩:y.size<=Sa/\k=((y.size:Int) !=0):=e
  subst e'
  exact PySem.W.truthy_bytes (by omega) ⟨H,I.tok _,q⟩
 |ref p=>
  cases rx
  have e':(∃xs,Sx X.K H p xs/\k=!xs.isEmpty)\/(∃xs,SqT X.K H p xs/\k=!xs.isEmpty)\/∃kvs,H p=some (.dK kvs)/\k=!kvs.isEmpty:=e
  rcases e' with ⟨xs,hx,e'⟩|⟨xs,hx,e'⟩|⟨kvs,hx,e'⟩
  ·subst e'
   obtain ⟨its,r,pl,hz⟩:=I.list hx
   have hlen:=r.length
   exact wpAny_truthy_list pl.isList (by simp only [yp];omega) ⟨H,I.tok _,by rw [Jrx r];exact q⟩
  ·subst e'
   obtain ⟨its,r,pl,hz⟩:=I.tuple hx
   have hlen:=r.length
   exact truthy_tuple pl (by simp only [yp];omega) ⟨H,I.tok _,by rw [Jrx r];exact q⟩
  ·subst e'
   obtain ⟨hz,hS,vs,r,m⟩:kvs.length<=Sa/\(p==sysModules)=false/\∃vs,KV kvs vs/\s.heap.DictOf (Jkc X.prog X.w) p vs:=I.hok p _ hx
   have hlen:kvs.length=vs.length:=Paired.length r
   exact wpAny_truthy_dict hS m (by omega) ⟨H,I.tok _,by rw [Jw3 r];exact q⟩
 |_=>exact (show False from e).elim
theorem Jo4:OpR X (binaryOp .Add) (λx y H Q=>∃i j,x= .str i/\y= .str j/\i.length+j.length<=Sa/\Q (.str (i++j)) H):=by
 intro pins s σ H x y v u Q I rx ry h
 obtain ⟨i,j,rfl,rfl,hz,q⟩:=h
 obtain ⟨t,rfl⟩:=rx
 obtain ⟨t',rfl⟩:=ry
 exact add_str (λt' tk=>⟨.str (i++j),H,I.tok _,⟨_,rfl⟩,q⟩) hz
theorem Jmw {x:V} {us:List S6} (r:Sa2 [x] us):∃u,us= [u]/\Sa4 x u:=by
 cases r with
 |cons r1 r2=>cases r2;exact ⟨_,rfl,r1⟩
theorem Jxv {x y:V} {us:List S6} (r:Sa2 [x,y] us):∃u w',us= [u,w']/\Sa4 x u/\Sa4 y w':=by
 cases r with
 |cons r1 r2=>
  cases r2 with
  |cons r3 r4=>cases r4;exact ⟨_,_,rfl,r1,r3⟩
theorem Jta (hc:X.calm=true):Jmd X (.builtin "max") (λxs H Q=>∃i j,xs= [.int i,.int j]/\Q (.int (if j > i then j else i)) H):=by
 intro pins s σ H xs us Q I r h
 obtain ⟨i,j,rfl,q⟩:=h
 obtain ⟨u,w',rfl,⟨t,rfl⟩,⟨t',rfl⟩⟩:=Jxv r
 refine max_two_ints (I.ok.hd hc) λh' tk k=>⟨_,H,I.kept k,?_,q⟩
 by_cases hj:j > i
 ·rw [if_pos hj,if_pos hj];exact ⟨_,rfl⟩
 ·rw [if_neg hj,if_neg hj];exact ⟨_,rfl⟩
theorem Jy2 (hc:X.calm=true):Jmd X (.builtin "min") (λxs H Q=>∃i j,xs= [.int i,.int j]/\Q (.int (if j < i then j else i)) H):=by
 intro pins s σ H xs us Q I r h
 obtain ⟨i,j,rfl,q⟩:=h
 obtain ⟨u,w',rfl,⟨t,rfl⟩,⟨t',rfl⟩⟩:=Jxv r
 refine min_two_ints (I.ok.hd hc) λh' tk k=>⟨_,H,I.kept k,?_,q⟩
 by_cases hj:j < i
 ·rw [if_pos hj,if_pos hj];exact ⟨_,rfl⟩
 ·rw [if_neg hj,if_neg hj];exact ⟨_,rfl⟩
theorem Jqq:Jmd X (.type "int") (λxs H Q=>(∃i,xs= [.int i]/\Q (.int i) H)\/∃k,xs= [.bl k]/\Q (.int (if k then 1 else 0)) H):=by
 intro pins s σ H xs us Q I r h
 rcases h with ⟨i,rfl,q⟩|⟨k,rfl,q⟩
 ·obtain ⟨u,rfl,t,rfl⟩:=Jmw r
  exact call_int_int ⟨.int i,H,I,⟨_,rfl⟩,q⟩
 ·obtain ⟨u,rfl,r1⟩:=Jmw r
  cases r1
  exact call_int_bool ⟨.int (if k then 1 else 0),H,I.tok _,⟨_,rfl⟩,q⟩
theorem Jlt:Jmd X (.type "str") (λxs H Q=>∃i,xs= [.int i]/\i.natAbs.log2 < 1920/\Q (.str (toString i)) H):=by
 intro pins s σ H xs us Q I r h
 obtain ⟨i,rfl,hz,q⟩:=h
 obtain ⟨u,rfl,t,rfl⟩:=Jmw r
 exact PySem.P.str_of_int hz ⟨.str _,H,I.tok _,⟨_,rfl⟩,q⟩
end
structure Sgn (h:Sg) (x dx C:S5) (mA:Str->Option S6):Prop where
 obj:h.get? x=some (Sm C dx)
 ns:h.Ns1 dx mA
 ne:dx≠x
theorem Jqv {h:Sg} {dx:S5} {mA:Str->Option S6} (n:h.Ns1 dx mA):∃od,h.get? dx=some od/\∀name,PySem.W.lookIn name od=some (mA name):=by
 obtain ⟨o,es,ep,ho,hd,hk,_,hm⟩:=n
 refine ⟨o,ho,λname=>?_⟩
 have e:=hm name
 unfold nsFind findBy at e
 rw [<-Array.find?_toList] at e
 unfold PySem.W.lookIn
 rw [hd]
 dsimp only
 split
 ·rename_i y q
  rw [q] at e
  exact congrArg some e
 ·rename_i q
  rw [q] at e
  have a:es.toList.any (·.refKey)=false:=by
   rw [List.any_eq_false]
   intro y hy
   obtain ⟨z,t,hkey⟩:=hk y (Array.mem_toList_iff.mp hy)
   simp [DictEntry.refKey,hkey]
  have a':¬es.toList.any (·.refKey)=true:=by rw [a];exact yw
  rw [if_neg a']
  exact congrArg some e
theorem Sgn.look {h:Sg} {x dx C:S5} {mA:Str->Option S6} (I:Sgn h x dx C mA):∃od,PySem.W.InstAt h x (Sm C dx) C (some od)/\∀name,PySem.W.lookIn name od=some (mA name):=
 let ⟨od,ho,hl⟩:=Jqv I.ns
 ⟨od,⟨I.obj,rfl,rfl,ho⟩,hl⟩
section
variable {prog:Sb} {w:Sd} {A:Se} {E:S6->S7->Prop} {s:S7} {K:Si} {x dx C f:S5} {mA:Str->Option S6} {name:Str} {v:S6}
theorem Ya6 {expr:Bool} {Q:S6->S7->Prop} (X:K.In s.heap) (I:Sgn s.heap x dx C mA) (hg:PySem.W.plainGet K C name=true) (hh:PySem.W.hasDictIn K C=true)
  (ha:Sk K (.ref C) name=some none) (hv:mA name=some v) (hv':PySem.W.handedIn v=true) (h:Q v {s with toks:=s.toks+1}):
  Sh (model prog w) A (getAttr (.ref x) name expr) Q E s:=by
 obtain ⟨od,J,hl⟩:=I.look
 exact PySem.W.get_value X J (PySem.W.plainGet_of hg).1 (PySem.W.findObj_own hh ha rfl (by rw [hl,hv])) hv' h
theorem Jzg {pl:Sem Bool} {Q:S6×List S6->S7->Prop} (X:K.In s.heap) (I:Sgn s.heap x dx C mA) (hg:PySem.W.plainGet K C name=true)
  (hf:Sk K (.ref C) name=some (some (.ref f))) (ht:PySem.W.isFn K (.ref f)=true) (hv:mA name=none) (h:Q (.ref f,[.ref x]) s):
  Sh (model prog w) A (getMethod (.ref x) name pl) Q E s:=by
 obtain ⟨od,J,hl⟩:=I.look
 exact PySem.W.method_fn X J (PySem.W.plainGet_of hg).1 (PySem.W.plainGet_of hg).2 hf (beq_iff_eq.mp ht) (by show (PySem.W.lookIn name od).map (·.isSome)=some false;rw [hl,hv];rfl) h
theorem Yaz {ns:List Str} {Q:Unit->S7->Prop} (X:K.In s.heap) (I:Sgn s.heap x dx C mA)
  (hs:Sk K (.ref C) "__setattr__" =some (some (.builtin "object.__setattr__"))) (hp:PySem.W.plainOver K C=true) (ht:PySem.W.takerIn K C name=some none) (hh:PySem.W.hasDictIn K C=true)
  (hw:PySem.Within mA ns) (hsz:ns.length<=Sa)
  (h:∀h',Sgn h' x dx C (λy=>if y=name then some v else mA y)->Heap.SameBut dx s.heap h'->Q () {s with heap:=h',toks:=s.toks+2}):
  Sh (model prog w) A (setAttr (.ref x) name v) Q E s:=by
 obtain ⟨od,J,hl⟩:=I.look
 refine PySem.W.set_plain X J hs (PySem.W.osa_open (s:={s with toks:=s.toks+1}) (r:=none) X J hp ht λb=>?_)
 obtain ⟨cd,hc,hd'⟩:=PySem.W.any_some hh
 have hx:s.heap.get? x=some ⟨.ref C,some dx,.plain,#[]⟩:=I.obj
 refine S8 (S9 (S8 (S8 (wpAny_loadPart hx (S8 (PySem.W.Looks.here (s:={s with toks:=s.toks+1}) (PySem.W.looks_clsIn X hc) ?_))))))
 rw [hd']
 refine S9 (a:=some dx) (S8 (S9 (S8 ?_)))
 refine wpAny_nsSet1 (s:={s with toks:=s.toks+1}) I.ns λh' hn2 hs2=>?_
 obtain ⟨oD,esD,epD,hoD,hdD,hcD⟩:=hn2.count (PySem.Within.cons name v hw)
 refine S8 (wpAny_lookBehind hoD (by rw [hdD];exact pastItsLine_dict (yv hcD (by rw [yad];omega))) ?_)
 exact S9 (h _ ⟨(hs2.2 _ (yh I.ne)).trans I.obj,hn2,I.ne⟩ hs2)
theorem Jv9 {R:Result->S7->Prop} {vs:List S6} {kw:List (Str×S6)} (X:K.In s.heap) (hm:PySem.W.makesIn K C=true)
  (hi:Sk K (.ref C) "__init__" =some (some (.ref f))) (hf:PySem.W.typeIn K (.ref f)=some (.type "function"))
  (h:codeAny (model prog w) (A.under (.builtin "type.__call__" ⟨.ref C::vs,kw⟩)) (.call (.ref f) ⟨.ref (s.heap.objs.size+1)::vs,kw⟩) (PySem.W.InitBack (s.heap.objs.size+1) R)
   {s with heap:=(s.heap.push PySem.W.emptyDict).push (Sm C s.heap.objs.size)}):
  codeAny (model prog w) A (.call (.ref C) ⟨vs,kw⟩) R s:=by
 obtain ⟨hh,g,d,t,os⟩:=s
 exact PySem.W.make_core (PySem.W.makes_of X hm) (PySem.W.looks_findIn X hi) (λself=>PySem.W.bind_fn X self hf) (.inl rfl) h
end
def Jl8 (f:Str) (v:V):List (Str×V)->List (Str×V)
 | []=>[(f,v)]
 | (g,x) :: r=>if g = f then (g,v) :: r else (g,x) :: Jl8 f v r
theorem Joi (f g:Str) (v:V):∀fs:List (Str×V),(Jl8 f v fs).lookup g=if g=f then some v else fs.lookup g
 | []=>by
  show ybf g [(f,v)]=_
  by_cases h:g=f
  ·have hb:(g==f)=true:=beq_iff_eq.mpr h
   simp only [ybf,hb,if_pos h]
  ·have hb:(g==f)=false:=beq_eq_false_iff_ne.mpr h
   simp only [ybf,hb,if_neg h]
 | (k,x) :: r=>by
  have ih:=Joi f g v r
  rw [show Jl8 f v ((k,x)::r)=(if k=f then (k,v)::r else (k,x)::Jl8 f v r) from rfl]
  by_cases hk:k=f
  ·rw [if_pos hk]
   by_cases h:g=k
   ·have hb:(g==k)=true:=beq_iff_eq.mpr h
    simp only [ybf,hb,if_pos (h.trans hk)]
   ·have hb:(g==k)=false:=beq_eq_false_iff_ne.mpr h
    simp only [ybf,hb,if_neg (λe:g=f=>h (e.trans hk.symm))]
  ·rw [if_neg hk]
   by_cases h:g=k
   ·have hb:(g==k)=true:=beq_iff_eq.mpr h
    simp only [ybf,hb,if_neg (λe:g=f=>hk (h.symm.trans e))]
   ·have hb:(g==k)=false:=beq_eq_false_iff_ne.mpr h
    simp only [ybf,hb]
    exact ih
theorem Jnt (f:Str) (v:V):∀fs:List (Str×V),f∈(Jl8 f v fs).map (·.1)/\∀g,g∈fs.map (·.1)->g∈(Jl8 f v fs).map (·.1)
 | []=>⟨by simp [Jl8],λg h=>by simp at h⟩
 | (k,x) :: r=>by
  obtain ⟨i1,i2⟩:=Jnt f v r
  rw [show Jl8 f v ((k,x)::r)=(if k=f then (k,v)::r else (k,x)::Jl8 f v r) from rfl]
  by_cases hk:k=f
  ·rw [if_pos hk]
   subst hk
   exact ⟨by simp,λg h=>by simpa using h⟩
  ·rw [if_neg hk]
   refine ⟨?_,λg h=>?_⟩
   ·rw [yaj]
    exact yan _ i1
   ·rw [yaj] at h⊢
    rcases yo.mp h with e|e
    ·exact yo.mpr (.inl e)
    ·exact yan _ (i2 g e)
theorem Jog (f:Str) (v:V):∀fs:List (Str×V),(Jl8 f v fs).length<=fs.length+1
 | []=>by simp [Jl8]
 | (k,x) :: r=>by
  have ih:=Jog f v r
  rw [show Jl8 f v ((k,x)::r)=(if k=f then (k,v)::r else (k,x)::Jl8 f v r) from rfl]
  by_cases hk:k=f
  ·rw [if_pos hk,yad,yad];omega
  ·rw [if_neg hk,yad,yad];omega
theorem Sc4.some_of {v:V} {o:Option S6} (r:Sc4 (some v) o):∃u,o=some u/\Sa4 v u:=by
 cases o with
 |none=>exact (show False from r).elim
 |some u=>exact ⟨u,rfl,r⟩
theorem Sc4.none_of {o:Option S6} (r:Sc4 none o):o=none:=by
 cases o with
 |none=>rfl
 |some u=>exact (show False from r).elim
theorem Jtg {v:V} {u:S6} (r:Sa4 v u):PySem.W.handedIn u=true:=by
 cases v with
 |non=>cases (show u=Value.none from r);rfl
 |bl b=>cases (show u=Value.bool b from r);rfl
 |int i=>obtain ⟨t,e⟩:=(show ∃t,u=Value.int i t from r);cases e;rfl
 |str x=>obtain ⟨t,e⟩:=(show ∃t,u=Value.str x t from r);cases e;rfl
 |byt b=>obtain ⟨t,e⟩:=(show ∃t,u=Value.bytes b t from r);cases e;rfl
 |flt b=>obtain ⟨t,e⟩:=(show ∃t,u=Value.float b t from r);cases e;rfl
 |ref a=>cases (show u=Value.ref a from r);rfl
 |ty n=>cases (show u=Value.type n from r);rfl
section
variable {P:Sb} {w:Sd} {H H':Hp} {h h':Sg} {a C dx:S5} {fs fs':List (Str×V)}
theorem Jri (hok:HOk P w H h) (e:H a=some (.ins C dx fs)):∃mA,Sgn h a dx C mA/\(∀f,Sc4 (fs.lookup f) (mA f))/\PySem.Within mA (fs.map (·.1))/\fs.length<=1000/\H dx=some (.own a):=by
 obtain ⟨d,z,ne,ob,mA,n,r,q⟩:=(show Saa P w H h a (.ins C dx fs) from hok a _ e)
 exact ⟨mA,⟨ob,n,ne⟩,r,q,z,d⟩
end
structure Cls (K:Si) (C:S5):Prop where
 pg:PySem.W.plainGet K C Str.empty=true
 hd:PySem.W.hasDictIn K C=true
 po:PySem.W.plainOver K C=true
 sa:Sk K (.ref C) "__setattr__" =some (some (.builtin "object.__setattr__"))
theorem Cls.get {K:Si} {C:S5} (c:Cls K C) (f:Str):PySem.W.plainGet K C f=true:=c.pg
def NoAttr (K:Si) (C:S5) (f:Str):Prop:=Sk K (.ref C) f=some none
theorem NoAttr.taker {K:Si} {C:S5} {f:Str} (n:NoAttr K C f):PySem.W.takerIn K C f=some none:=by
 unfold PySem.W.takerIn
 rw [show Sk K (.ref C) f=some none from n]
 rfl
structure Jph (K:Si) (C:S5) (m:Str) (f:S5):Prop where
 at_:Sk K (.ref C) m=some (some (.ref f))
 fn:PySem.W.isFn K (.ref f)=true
 kp:PySem.W.keepIn K (.ref f)=true
section
variable {X:Cx} {pins:List (S5×Obj)} {σ:St} {H:Hp} {s:S7} {a C dx:S5} {fs:List (Str×V)} {f:Str} {v:V} {A:Se} {E:S6->S7->Prop}
theorem Jru {b:Bool} {Q:S6->S7->Prop} (I:Sw X pins σ H s) (e:H a=some (.ins C dx fs)) (c:Cls X.K C) (n:NoAttr X.K C f) (l:fs.lookup f=some v)
  (h:∀u s',Sw X pins σ H s'->Sa4 v u->Q u s'):Sh (model X.prog X.w) A (getAttr (.ref a) f b) Q E s:=by
 obtain ⟨mA,O,r,_,_,_⟩:=Jri I.hok e
 obtain ⟨u,hu,ru⟩:=Sc4.some_of (v:=v) (o:=mA f) (by rw [<-l];exact r f)
 exact Ya6 I.kIn O (c.get f) c.hd n hu (Jtg ru) (h u _ (I.tok _) ru)
theorem Jo1 {m:Str} {g:S5} {pl:Sem Bool} {Q:S6×List S6->S7->Prop} (I:Sw X pins σ H s) (e:H a=some (.ins C dx fs)) (c:Cls X.K C) (k:Jph X.K C m g) (l:fs.lookup m=none)
  (h:Q (.ref g,[.ref a]) s):Sh (model X.prog X.w) A (getMethod (.ref a) m pl) Q E s:=by
 obtain ⟨mA,O,r,_,_,_⟩:=Jri I.hok e
 have hn:mA m=none:=Sc4.none_of (by rw [<-l];exact r m)
 exact Jzg I.kIn O (c.get m) k.at_ k.fn hn h
theorem Jsc {y:V} {u:S6} {Q:Unit->S7->Prop} (I:Sw X pins σ H s) (e:H a=some (.ins C dx fs)) (c:Cls X.K C) (n:NoAttr X.K C f) (hl:fs.length < 1000) (ry:Sa4 y u)
  (h:∀s',Sw X pins σ (upd H a (.ins C dx (Jl8 f y fs))) s'->Q () s'):Sh (model X.prog X.w) A (setAttr (.ref a) f u) Q E s:=by
 obtain ⟨mA,O,r,wi,_,ho⟩:=Jri I.hok e
 have hz:(fs.map (·.1)).length<=Sa:=by rw [ye,sizeLine_eq];omega
 refine Yaz I.kIn O c.sa c.po n.taker c.hd wi hz λh' O' sb=>h _ ?_
 have hd:∃o,h'.get? dx=some o:=let ⟨o,_,_,e',_⟩:=O'.ns;⟨o,e'⟩
 refine I.write (x:=a) (e:=dx) (by rw [e];exact True.intro) (.inr ho) (λb q hb z=>(sb.2 b hb).trans z) hd ?_
 refine ⟨by rw [Jjc O.ne];exact ho,?_,O.ne,O'.obj,_,O'.ns,λg=>?_,λg hg=>?_⟩
 ·have:=Jog f y fs;omega
 ·show Sc4 ((Jl8 f y fs).lookup g) (if g=f then some u else mA g)
  rw [Joi]
  by_cases q:g=f
  ·rw [if_pos q,if_pos q];exact ry
  ·rw [if_neg q,if_neg q];exact r g
 ·by_cases q:g=f
  ·rw [q];exact (Jnt f y fs).1
  ·refine (Jnt f y fs).2 g (wi g λz=>hg ?_)
   show (if g=f then some u else mA g)=none
   rw [if_neg q];exact z
theorem Sw.made (I:Sw X pins σ H s):Sw X pins σ (upd (upd H s.heap.objs.size (.own (s.heap.objs.size+1))) (s.heap.objs.size+1) (.ins C s.heap.objs.size []))
  {s with heap:=(s.heap.push PySem.W.emptyDict).push (Sm C s.heap.objs.size)}:=by
 have e1:(s.heap.push PySem.W.emptyDict).get? s.heap.objs.size=some PySem.W.emptyDict:=yag s.heap rfl
 have e2:((s.heap.push PySem.W.emptyDict).push (Sm C s.heap.objs.size)).get? (s.heap.objs.size+1)=some (Sm C s.heap.objs.size):=by
  have:=yag (s.heap.push PySem.W.emptyDict) (o:=Sm C s.heap.objs.size) rfl
  rwa [yaz] at this
 have e3:(s.heap.push PySem.W.emptyDict).Ns s.heap.objs.size (λ_=>none):=⟨PySem.W.emptyDict,#[],_,e1,rfl,(λe he=>absurd he (by simp)),λ_=>rfl⟩
 have I1:=I.laid (a:=s.heap.objs.size) (o:=.own (s.heap.objs.size+1)) (h':=s.heap.push PySem.W.emptyDict) (t':=s.toks) (λb u q=>ym _ q) (yg _) ⟨_,e1⟩
 refine I1.laid (a:=s.heap.objs.size+1) (o:=.ins C s.heap.objs.size []) (t':=s.toks) (λb u q=>ym _ q) (Nat.le_of_eq (yaz _ _)) ?_
 have ne:s.heap.objs.size≠s.heap.objs.size+1:=yu (ybz _)
 refine ⟨by rw [Jjc ne,Sv],yak _,ne,e2,λ_=>none,(Heap.Ns1.of_empty e3).at λo q=>ym _ q,λ_=>True.intro,λy hy=>absurd rfl hy⟩
theorem Jx0 {prog:Sb} {w:Sd} {env:Env} {e:Expr} {f:Str} {pos:Pos} {s:S7} {Q:S6->S7->Prop} (hb:attributeBase e f env (eval e env)=eval e env)
  (h:Sh (model prog w) A (eval e env) (λo s₁=>Sh (model prog w) A (getAttr o f true) Q E s₁) E s):Sh (model prog w) A (eval (.Attribute e f pos) env) Q E s:=
 Attribute_any_ h (by rw [arm_eval_Attribute,hb])
end
def Spo (K:Si) (ta:TE) (f:Str):TE:=λσ H Q=>ta σ H λx H1=>∃a C dx fs v,x= .ref a/\H1 a=some (.ins C dx fs)/\Cls K C/\NoAttr K C f/\fs.lookup f=some v/\Q v H1
def Sut (K:Si) (ta tv:TE) (f:Str):TS:=λD σ H=>tv σ H λy H1=>ta σ H1 λx H2=>∃a C dx fs,x= .ref a/\H2 a=some (.ins C dx fs)/\Cls K C/\NoAttr K C f/\fs.length < 1000/\
 D.nx σ (upd H2 a (.ins C dx (Jl8 f y fs)))
def Sny (X:Cx) (op:Operator) (rd:V->V->Hp->VK->Prop):Prop:=
 ∀(pins:List (S5×Obj)) (s:S7) (σ:St) (H:Hp) (x y:V) (u v:S6) (Q:VK),Sw X pins σ H s->Sa4 x u->Sa4 y v->rd x y H Q->Sh (model X.prog X.w) X.A (inplaceOp op u v) (EP X pins σ Q) X.xe s
def Yaw (K:Si) (ta tv:TE) (rd:V->V->Hp->VK->Prop) (f:Str):TS:=λD σ H=>ta σ H λx H1=>∃a C dx fs v,x= .ref a/\H1 a=some (.ins C dx fs)/\Cls K C/\NoAttr K C f/\fs.lookup f=some v/\
 tv σ H1 λy H2=>rd v y H2 λz H3=>∃dx' fs',H3 a=some (.ins C dx' fs')/\fs'.length < 1000/\D.nx σ (upd H3 a (.ins C dx' (Jl8 f z fs')))
section
variable {X:Cx} {o e value:Expr} {f:Str} {pos pos' tpos:Pos} {ta tv:TE}
theorem Jkq (he:PE X e ta) (hb:attributeBase e f X.env (eval e X.env)=eval e X.env):PE X (.Attribute e f pos) (Spo X.K ta f):=by
 intro pins s σ H Q I h
 refine Jx0 hb (thn (he pins s σ H _ I h) λu s1 zq=>?_)
 obtain ⟨x,H1,I1,rx,a,C,dx,fs,v,ex,ea,c,n,l,q⟩:=zq
 subst ex
 obtain rfl:u=Value.ref a:=rx
 exact Jru I1 ea c n l λu' s2 I2 ru=>⟨v,H1,I2,ru,q⟩
theorem Jle (ha:PE X o ta) (hv:PE X value tv) (hs:swapsWith value (some (.Attribute o f pos')) pos.line X.env=pure false):PS X (.Assign [.Attribute o f pos'] value pos) (Sut X.K ta tv f):=by
 intro pins s σ H D I h
 refine plainObj_wpAny_Assign_Attribute (thn (hv pins s σ H _ I h) λu s1 ⟨y,H1,I1,ry,q⟩=>thn (ha pins s1 σ H1 _ I1 q) λov s2 zq=>?_) hs
 obtain ⟨x,H2,I2,rx,a,C,dx,fs,ex,ea,c,n,l,q2⟩:=zq
 subst ex
 obtain rfl:ov=Value.ref a:=rx
 exact Jsc I2 ea c n l ry λs3 I3=>⟨σ,_,I3,q2⟩
theorem Jym {op:Operator} {rd:V->V->Hp->VK->Prop} (ha:PE X o ta) (hv:PE X value tv) (hop:Sny X op rd):PS X (.AugAssign (.Attribute o f tpos) op value pos) (Yaw X.K ta tv rd f):=by
 intro pins s σ H D I h
 refine wpAny_AugAssign_AttributeAny (thn (ha pins s σ H _ I h) λov s1 zq=>?_)
 obtain ⟨x,H1,I1,rx,a,C,dx,fs,v,ex,ea,c,n,l,q⟩:=zq
 subst ex
 obtain rfl:ov=Value.ref a:=rx
 refine Jru I1 ea c n l λu s2 I2 ru=>thn (hv pins s2 σ H1 _ I2 q) λw3 s3 ⟨y,H2,I3,ry,q3⟩=>thn (hop pins s3 σ H2 v y u w3 _ I3 ru ry q3) λw4 s4 zq=>?_
 obtain ⟨z,H3,I4,rz,dx',fs',ea',l',q4⟩:=zq
 exact Jsc I4 ea' c n l' rz λs5 I5=>⟨σ,_,I5,q4⟩
def Sud:V->V->Hp->VK->Prop:=λx y H Q=>∃i j,x= .int i/\y= .int j/\Q (.int (i+j)) H
theorem Sla:Sny X .Add Sud:=by
 rintro pins s σ H x y u v Q I rx ry ⟨i,j,rfl,rfl,q⟩
 obtain ⟨t,rfl⟩:=(show ∃t,u=Value.int i t from rx)
 obtain ⟨t',rfl⟩:=(show ∃t',v=Value.int j t' from ry)
 exact PyProof.Rows.iadd_int ⟨.int (i+j),H,I.tok _,⟨_,rfl⟩,q⟩
end
section
variable {X:Cx} {pins:List (S5×Obj)} {σ:St} {H:Hp} {s:S7} {A:Se} {E:S6->S7->Prop} {Q:S6->S7->Prop} {c:S6} {b:Bool}
inductive Jqn (K:Si) (H:Hp):V->S6->Prop where
 |non:Jqn K H .non (.type "NoneType")
 |bl (x:Bool):Jqn K H (.bl x) (.type "bool")
 |int (i:Int):Jqn K H (.int i) (.type "int")
 |str (x:Str):Jqn K H (.str x) (.type "str")
 |flt (x:UInt64):Jqn K H (.flt x) (.type "float")
 |lst {a:S5} {xs:List V} (e:H a=some (.lst xs)):Jqn K H (.ref a) (.type "list")
 |frz {a:S5} {o:Obj} {xs:List V} (e:H a=some (.frz o (.lst xs))):Jqn K H (.ref a) (.type "list")
 |tup {a:S5} {xs:List V} (e:H a=some (.tup xs)):Jqn K H (.ref a) (.type "tuple")
 |dK {a:S5} {kvs:List (Key×V)} (e:H a=some (.dK kvs)):Jqn K H (.ref a) (.type "dict")
 |dT {a:S5} {kvs:List (List Key×V)} (e:H a=some (.dT kvs)):Jqn K H (.ref a) (.type "dict")
 |ins {a C dx:S5} {fs:List (Str×V)} (e:H a=some (.ins C dx fs)) (cl:Cls K C) (ha:Sk K (.ref C) "__class__" =some (some (.builtin "object.__class__")))
   (hn:PySem.W.specialIn K (.builtin "object.__class__") "__get__" =some (some (.builtin "getset_descriptor.__get__"))) (htk:PySem.W.takesIn K (.builtin "object.__class__")=some true)
   (hm:Sl K C (.type "object")=some true):Jqn K H (.ref a) (.ref C)
end
structure Sao (k:Nat) (A:Se):Prop where
 hd:A.handled=none
 dp:A.depth+3*k+5 < recursionLimit
 un:A.units+16*k+200 < cLine
theorem Sao.mono {j k:Nat} {A:Se} (r:Sao k A) (h:j<=k):Sao j A:=⟨r.hd,by have:=r.dp;omega,by have:=r.un;omega⟩
theorem Sao.deeper {k:Nat} {A:Se} (r:Sao (k+1) A) (env:Env):Sao k (A.deeper env):=
 ⟨r.hd,by have:=r.dp;show A.depth+1+3*k+5 < _;omega,by have:=r.un;show A.units+3+16*k+200 < _;omega⟩
theorem Jw8 {A:Se} {C:S5} {us:List S6} {kw:List (Str×S6)}:(A.under (.builtin "type.__call__" ⟨.ref C::us,kw⟩)).depth=A.depth+1:=by
 first|rfl|simp [Around.under,Code.weight,Code.isCreation,Code.isGuard,Code.isCaller,Code.frames,Code.isFrame,guardIds]
theorem Jw9 {A:Se} {C:S5} {us:List S6} {kw:List (Str×S6)}:(A.under (.builtin "type.__call__" ⟨.ref C::us,kw⟩)).units=A.units+1:=by
 first|rfl|simp [Around.under,Code.cUnits,Code.frames,Code.isFrame]
theorem Sao.make {k:Nat} {A:Se} (r:Sao (k+1) A) (C:S5) (us:List S6) (kw:List (Str×S6)):Sao k (A.under (.builtin "type.__call__" ⟨.ref C::us,kw⟩)):=
 ⟨r.hd,by have:=r.dp;rw [Jw8];omega,by have:=r.un;rw [Jw9];omega⟩
theorem Sao.depth {k:Nat} {A:Se} (r:Sao k A):A.depth < recursionLimit:=by have:=r.dp;omega
theorem Sao.units {k:Nat} {A:Se} (r:Sao k A):A.units+64 < cLine:=by have:=r.un;omega
def Jrf:TA:=λ_ H Q=>Q [] H
def Jjy (ta:TE) (tr:TA):TA:=λσ H Q=>ta σ H λx H1=>tr σ H1 λxs H2=>Q (x::xs) H2
section
variable {X:Cx} {e:Expr} {es:List Expr} {te:TE} {t:TA} {pos:Pos}
theorem Ss:PA X [] Jrf:=λ_ _ _ _ H Q I h=>Calls.spliced_nil ⟨[],H,I,.nil,h⟩
theorem So (ha:PE X e te) (hr:PA X es t) (hs:starEach (e::es) X.env=(false,eval e X.env)::starEach es X.env:=by rfl):PA X (e::es) (Jjy te t):=by
 intro pos pins s σ H Q I h
 rw [hs]
 show Sh _ _ (spliced ((false,eval e X.env)::backTo pos (starEach es X.env))) _ _ s
 refine Calls.spliced_cons (thn (ha pins s σ H _ I h) λu s1 zq=>?_)
 obtain ⟨x,H1,I1,r1,q1⟩:=zq
 exact thn (hr pos pins s1 σ H1 _ I1 q1) λus s2 ⟨xs,H2,I2,r2,q2⟩=>⟨x::xs,H2,I2,.cons r1 r2,q2⟩
def Sv6 (t:TA):TE:=λσ H Q=>t σ H λxs H1=>xs.length<=Sa/\∀p,H1 p=none->Q (.ref p) (upd H1 p (.tup xs))
def Sv1 (t:TA):TE:=λσ H Q=>t σ H λxs H1=>xs.length<=Sa/\∀p,H1 p=none->Q (.ref p) (upd H1 p (.lst xs))
theorem Jkj {x1} (h:PA X es t):PE X (.Tuple es x1 pos) (Sv6 t):=by
 intro pins s σ H Q I hq
 refine wpAny_Tuple_spliced (thn (h pos pins s σ H _ I hq) λus s1 ⟨xs,H1,I1,r,z,q⟩=>⟨by rw [<-r.length];exact z,?_⟩)
 have hf:H1 s1.heap.objs.size=none:=I1.hok.fresh (yg _)
 refine ⟨.ref s1.heap.objs.size,upd H1 s1.heap.objs.size (.tup xs),I1.laid (t':=s1.toks) (λb u e=>ym _ e) (yg _) ?_,rfl,q _ hf⟩
 exact ⟨z,us,r,⟨_,yag _ rfl,rfl,_,rfl⟩⟩
theorem Jju (h:PA X es t):PE X (.List es pos) (Sv1 t):=by
 intro pins s σ H Q I hq
 refine wpAny_List_spliced (thn (h pos pins s σ H _ I hq) λus s1 ⟨xs,H1,I1,r,z,q⟩=>⟨by rw [<-r.length];exact z,?_⟩)
 have hf:H1 s1.heap.objs.size=none:=I1.hok.fresh (yg _)
 refine ⟨.ref s1.heap.objs.size,upd H1 s1.heap.objs.size (.lst xs),I1.laid (t':=s1.toks) (λb u e=>ym _ e) (yg _) ?_,rfl,q _ hf⟩
 exact ⟨z,us,0,r,yag _ rfl⟩
end
abbrev Sp:=List V->Hp->VK->XK->Prop
abbrev CXT:=List Env->Hp->S7->XK->S6->S7->Prop
structure Sf5 (P:Sb) (w:Sd) (K:Si) (mg:Str->Option S6) (base:Sg) (A:Se) (outer:List Env) (s:S7) (H:Hp):Prop where
 frames:A.frames=some outer
 mod:Mod K mg base
 bs:∀b o,base.get? b=some o->s.heap.get? b=some o/\H b=none
 bsz:base.objs.size<=s.heap.objs.size
 funs:s.heap.FunFrames base outer
 frf:∀b∈frs outer,H b=none
 hok:HOk P w H s.heap
 bare:AllBare s.gens
def CE (outer:List Env) (P:Sb) (w:Sd) (H:Hp) (s:S7) (Q:VK) (u:S6) (s':S7):Prop:=
 ∃v H',s'.os=s.os/\AllBare s'.gens/\Un (frs outer) [] H H' s.heap s'.heap/\HOk P w H' s'.heap/\Sa4 v u/\Q v H'
def CR (CX:CXT) (outer:List Env) (P:Sb) (w:Sd) (H:Hp) (s:S7) (Q:VK) (E:XK) (r:Result) (s':S7):Prop:=
 match r with
 | .ok (.ret u)=>CE outer P w H s Q u s'
 | .ok _=>False
 | .error e=>CX outer H s E e s'
structure Jjz (P:Sb) (w:Sd) (K:Si) (mg:Str->Option S6) (base:Sg) (CX:CXT) (k:Nat) (f:S5) (fd:Sc) (ps:List Str) (sp:Sp):Prop where
 len:∀vs H Q E,sp vs H Q E->vs.length=ps.length
 run:∀(A:Se) (outer:List Env) (s:S7) (H:Hp) (args:Args) (us:List S6) (vs:List V) (Q:VK) (E:XK),Sao k A->Sf5 P w K mg base A outer s H->BindsTo s fd args (ps.zip us)->Sa2 vs us->sp vs H Q E->
  codeAny (model P w) A (.call (.ref f) args) (CR CX outer P w H s Q E) s
theorem Sf5.make {P:Sb} {w:Sd} {K:Si} {mg:Str->Option S6} {base:Sg} {A:Se} {outer:List Env} {s:S7} {H:Hp} (e:Sf5 P w K mg base A outer s H) (C:S5) (us:List S6) (kw:List (Str×S6)):
  Sf5 P w K mg base (A.under (.builtin "type.__call__" ⟨.ref C::us,kw⟩)) outer s H:=⟨by first|exact e.frames|(simpa [Around.under,Code.envs,Code.isFrame,pushEnvs] using e.frames),e.mod,e.bs,e.bsz,e.funs,e.frf,e.hok,e.bare⟩
section
variable {X:Cx} {pins:List (S5×Obj)} {σ:St} {H:Hp} {s s':S7}
theorem Sw.env0 (I:Sw X pins σ H s):Sf5 X.prog X.w X.K X.mg X.base X.A X.stack s H:=
 ⟨I.ok.frames,I.ok.mod,I.bs,yv I.ok.bsz I.sz,I.stack,I.stkFree,I.hok,I.bare⟩
theorem Sw.after {Q:VK} {u:S6} (I:Sw X pins σ H s) (h:CE X.stack X.prog X.w H s Q u s'):EP X pins σ Q u s':=by
 obtain ⟨v,H',os,bare,un,hok,r,q⟩:=h
 obtain ⟨hh,g,d,t,os'⟩:=s'
 obtain rfl:os'=s.os:=os
 exact ⟨v,H',I.call (h':=hh) (g':=g) (d':=d) (t':=t) (ch:=[]) un hok bare (λb z=>absurd z (by simp)),r,q⟩
end
def Sk2 (sp:Sp) (dvs:List V) (E:XK) (t:TA):TE:=λσ H Q=>t σ H λvs H1=>sp (vs++dvs) H1 Q E
def Spr (C:S5) (m:Str) (sp:Sp) (dvs:List V) (E:XK) (ta:TE) (t:TA):TE:=λσ H Q=>ta σ H λx H1=>∃a dx fs,x= .ref a/\H1 a=some (.ins C dx fs)/\fs.lookup m=none/\
 t σ H1 λvs H2=>sp (x::(vs++dvs)) H2 Q E
def Spq (C:S5) (sp:Sp) (dvs:List V) (E:XK) (t:TA):TE:=λσ H Q=>t σ H λvs H1=>∀x dx,H1 x=none->H1 dx=none->dx≠x->
 sp (.ref x::(vs++dvs)) (upd (upd H1 dx (.own x)) x (.ins C dx [])) (λv H2=>v= .non/\Q (.ref x) H2) E
def Sbh (K:Si) (fd:Sc) (ps:List Str) (ds:List S6):Prop:=
 ∀(s:S7) (us:List S6),K.In s.heap->(us++ds).length=ps.length->BindsTo s fd ⟨us,[]⟩ (ps.zip (us++ds))
theorem Sbh.all {K:Si} {fd:Sc} {ps:List Str} (h:∀us:List S6,us.length=ps.length->bindArgs fd ⟨us,[]⟩=pure (ps.zip us)):Sbh K fd ps []:=λs us _ hl=>by
 rw [yar] at hl⊢
 exact .of_eq (h us hl)
def Jqm (CX:CXT) (X:Cx) (E:XK):Prop:=∀(pins:List (S5×Obj)) (σ:St) (H:Hp) (s:S7) (e:S6) (s':S7),Sw X pins σ H s->CX X.stack H s E e s'->X.xe e s'
section
variable {X:Cx} {CX:CXT} {k:Nat} {f C:S5} {fd:Sc} {ps:List Str} {sp:Sp} {dvs:List V} {ds:List S6} {E:XK} {x m:Str} {p pos apos:Pos} {e o:Expr} {es:List Expr} {ta:TE} {t:TA}
theorem Jwn {pins:List (S5×Obj)} {σ:St} {H:Hp} {s:S7} {Q:VK} {us:List S6} {vs:List V} (F:Jjz X.prog X.w X.K X.mg X.base CX k f fd ps sp) (hr:Sao k X.A) (hb:Sbh X.K fd ps ds) (hd:Sa2 dvs ds) (hx:Jqm CX X E)
  (I:Sw X pins σ H s) (r:Sa2 vs us) (h:sp (vs++dvs) H Q E):Sh (model X.prog X.w) X.A (call (.ref f) us) (EP X pins σ Q) X.xe s:=by
 have r2:Sa2 (vs++dvs) (us++ds):=r.append hd
 have hl:(us++ds).length=ps.length:=by rw [<-r2.length];exact F.len _ _ _ _ h
 refine wpAny_call (codeAny_mono (F.run X.A X.stack s H ⟨us,[]⟩ (us++ds) (vs++dvs) Q E hr I.env0 (hb s us I.kIn hl) r2 h) λr s' hq=>?_)
 cases r with
 |error e=>exact hx pins σ H s e s' I hq
 |ok fl=>
  cases fl with
  |ret u=>exact I.after hq
  |next=>exact False.elim hq
  |brk=>exact False.elim hq
  |cont=>exact False.elim hq
theorem Yal (F:Jjz X.prog X.w X.K X.mg X.base CX k f fd ps sp) (hr:Sao k X.A) (hg:Gl X x) (hm:X.mg x=some (.ref f)) (hk:PySem.W.keepIn X.K (.ref f)=true) (hb:Sbh X.K fd ps ds) (hd:Sa2 dvs ds) (hx:Jqm CX X E)
  (ha:PA X (e::es) t) (hdb:(x==("__debug__" :Str))=false:=by decide) (he:starEach (e::es) X.env=(false,eval e X.env)::starEach es X.env:=by rfl) (hpl:(backTo pos (starEach es X.env)).any (·.1)=false:=by rfl):
  PE X (.Call (.Name x p) (e::es) [] pos) (Sk2 sp dvs E t):=by
 intro pins s σ H Q I h
 refine wpAny_Call_Name_kw (Jo2 I hg hm ?_ hdb)
 refine PySem.W.callWith_K (h₀:=X.base) I.ok.mod.kin hk (thn (ha pos pins s σ H _ I h) λus s1 ⟨vs,H1,I1,r,q⟩=>⟨I1.kIn,?_⟩) he hpl
 exact Jwn F hr hb hd hx I1 r q
theorem Js8 {pl:Sem Bool} (he:PE X o ta) (c:Cls X.K C) (hm:Jph X.K C m f) (F:Jjz X.prog X.w X.K X.mg X.base CX k f fd ps sp) (hr:Sao k X.A) (hb:Sbh X.K fd ps ds) (hd:Sa2 dvs ds) (hx:Jqm CX X E)
  (ht:eval (.Call (.Attribute o m apos) [] [] pos) X.env=(do
   let ov<-eval o X.env
   standAt apos.atName
   let (f,first)<-holding [ov] (getMethod ov m pl)
   callWith pos f first (backTo pos (starEach [] X.env)) (backToKw pos (keywordEach [] X.env))):=by rfl):
  PE X (.Call (.Attribute o m apos) [] [] pos) (Spr C m sp dvs E ta Jrf):=by
 intro pins s σ H Q I h
 refine PySem.W.methodCall_KW (pl:=pl) (thn (he pins s σ H _ I h) λu s1 zq=>?_) ht
 obtain ⟨x,H1,I1,rx,a,dx,fs,ex,ea,l,q⟩:=zq
 subst ex
 obtain rfl:u=Value.ref a:=rx
 refine Jo1 I1 ea c hm l ?_
 exact PySem.W.callWith_K0 (first:=[.ref a]) I1.kIn hm.kp (Jwn (us:=[.ref a]) (vs:=[.ref a]) F hr hb hd hx I1 (.cons rfl .nil) q)
structure Mk (K:Si) (C f:S5):Prop where
 makes:PySem.W.makesIn K C=true
 init:Sk K (.ref C) "__init__" =some (some (.ref f))
 fn:PySem.W.isFn K (.ref f)=true
 kp:PySem.W.keepIn K (.ref C)=true
theorem Y8 {pins:List (S5×Obj)} {σ:St} {H:Hp} {s:S7} {Q:VK} {us:List S6} {vs:List V} (M:Mk X.K C f) (F:Jjz X.prog X.w X.K X.mg X.base CX k f fd ps sp) (hr:Sao (k+1) X.A) (hb:Sbh X.K fd ps ds) (hd:Sa2 dvs ds)
  (hx:Jqm CX X E) (I:Sw X pins σ H s) (r:Sa2 vs us)
  (h:∀x dx,H x=none->H dx=none->dx≠x->sp (.ref x::(vs++dvs)) (upd (upd H dx (.own x)) x (.ins C dx [])) (λv H2=>v= .non/\Q (.ref x) H2) E):
  Sh (model X.prog X.w) X.A (call (.ref C) us) (EP X pins σ Q) X.xe s:=by
 have hq:=h (s.heap.objs.size+1) s.heap.objs.size (I.hok.fresh (Nat.le_succ _)) (I.hok.fresh (yg _)) (yu (ybz _))
 have I2:=Sw.made (C:=C) I
 have r2:Sa2 (V.ref (s.heap.objs.size+1)::(vs++dvs)) (Value.ref (s.heap.objs.size+1)::(us++ds)):=.cons rfl (r.append hd)
 have hl:(Value.ref (s.heap.objs.size+1)::us++ds).length=ps.length:=by
  have e:=r2.length
  rw [F.len _ _ _ _ hq] at e
  exact e.symm
 refine wpAny_call (Jv9 (f:=f) I.kIn M.makes M.init (beq_iff_eq.mp M.fn) (codeAny_mono (F.run _ X.stack _ _ ⟨Value.ref (s.heap.objs.size+1)::us,[]⟩ (Value.ref (s.heap.objs.size+1)::(us++ds)) _ _ E (hr.make C us [])
  (I2.env0.make C us []) (hb _ (Value.ref (s.heap.objs.size+1)::us) I2.kIn hl) r2 hq) λr s' hq'=>?_))
 cases r with
 |error e=>exact hx pins σ _ _ e s' I2 hq'
 |ok fl=>
  cases fl with
  |ret u=>
   obtain ⟨v,H',I3,rv,ev,q3⟩:=I2.after hq'
   subst ev
   exact ⟨rv,⟨V.ref (s.heap.objs.size+1),H',I3,rfl,q3⟩⟩
  |next=>exact False.elim hq'
  |brk=>exact False.elim hq'
  |cont=>exact False.elim hq'
theorem Jxl (M:Mk X.K C f) (F:Jjz X.prog X.w X.K X.mg X.base CX k f fd ps sp) (hr:Sao (k+1) X.A) (hg:Gl X x) (hm:X.mg x=some (.ref C)) (hb:Sbh X.K fd ps ds) (hd:Sa2 dvs ds) (hx:Jqm CX X E)
  (ha:PA X (e::es) t) (hdb:(x==("__debug__" :Str))=false:=by decide) (he:starEach (e::es) X.env=(false,eval e X.env)::starEach es X.env:=by rfl) (hpl:(backTo pos (starEach es X.env)).any (·.1)=false:=by rfl):
  PE X (.Call (.Name x p) (e::es) [] pos) (Spq C sp dvs E t):=by
 intro pins s σ H Q I h
 refine wpAny_Call_Name_kw (Jo2 I hg hm ?_ hdb)
 refine PySem.W.callWith_K (h₀:=X.base) I.ok.mod.kin M.kp (thn (ha pos pins s σ H _ I h) λus s1 ⟨vs,H1,I1,r,q⟩=>⟨I1.kIn,?_⟩) he hpl
 exact Y8 M F hr hb hd hx I1 r q
end
section
variable {X:Cx} {CX:CXT} {k:Nat} {f C:S5} {fd:Sc} {ps ks:List Str} {sp:Sp} {E:XK} {x m:Str} {p pos apos kpos:Pos} {e o:Expr} {es:List Expr} {kws:List Keyword} {te ta:TE} {t tk:TA} {nm:Option Str}
variable {g:List S6->List S6->List S6} {gV:List V->List V->List V}
end
structure Jjh (N P:List Str) (sc:Scope):Prop where
 kind:sc.kind= .function
 co:sc.isCoroutine=false
 gen:sc.isGenerator=false
 nd:N.Nodup
 pre:N.take P.length=P
 par:∀x∈P,sc.names.lookup x=some .local\/sc.names.lookup x=some .cell
 nofree:∀y∈sc.names,y.2≠ .free
theorem Jt8 {kindOf:Str->Option NameKind} {x:Str}:∀{binds:List (Str×S6)} {m:Str->Option S6},(∀v,(x,v)∉binds)->bindL kindOf binds m x=m x
 | [],_,_=>rfl
 | (n,v) :: r,m,h=>by
  unfold bindL
  rw [Jt8 λw hw=>h w (yan _ hw)]
  split
  ·have:x≠n:=by rintro rfl;exact h v ybb
   simp [this]
  ·rfl
theorem Jt7 {kindOf:Str->Option NameKind} {x:Str}:∀{binds:List (Str×S6)} {m:Str->Option S6},(∀v,(x,v)∉binds)->bindC kindOf binds m x=m x
 | [],_,_=>rfl
 | (n,v) :: r,m,h=>by
  unfold bindC
  rw [Jt7 λw hw=>h w (yan _ hw)]
  split
  ·rfl
  ·have:x≠n:=by rintro rfl;exact h v ybb
   simp [this]
theorem Jqp {kindOf:Str->Option NameKind} {x:Str} {v:S6}:∀{P:List Str} {vs:List S6} {i:Nat} {m:Str->Option S6},P.Nodup->P[i]?=some x->vs[i]?=some v->kindOf x=some .local->
  bindL kindOf (P.zip vs) m x=some v
 | [],_,_,_,_,h,_,_=>by simp at h
 |_::_,[],_,_,_,_,h,_=>by simp at h
 |p::P,w::vs,0,m,nd,h1,h2,hk=>by
  simp at h1 h2;subst h1;subst h2
  show bindL kindOf ((p,w)::P.zip vs) m p=_
  unfold bindL
  rw [Jt8 λv hv=>(List.nodup_cons.mp nd).1 (ybr hv).1,if_pos hk]
  simp
 |p::P,w::vs,i+1,m,nd,h1,h2,hk=>by
  show bindL kindOf ((p,w)::P.zip vs) m x=_
  unfold bindL
  exact Jqp (i:=i) (List.nodup_cons.mp nd).2 (by simpa using h1) (by simpa using h2) hk
theorem Jqo {kindOf:Str->Option NameKind} {x:Str} {v:S6}:∀{P:List Str} {vs:List S6} {i:Nat} {m:Str->Option S6},P.Nodup->P[i]?=some x->vs[i]?=some v->kindOf x≠some .local->
  bindC kindOf (P.zip vs) m x=some v
 | [],_,_,_,_,h,_,_=>by simp at h
 |_::_,[],_,_,_,_,h,_=>by simp at h
 |p::P,w::vs,0,m,nd,h1,h2,hk=>by
  simp at h1 h2;subst h1;subst h2
  show bindC kindOf ((p,w)::P.zip vs) m p=_
  unfold bindC
  rw [Jt7 λv hv=>(List.nodup_cons.mp nd).1 (ybr hv).1,if_neg hk]
  simp
 |p::P,w::vs,i+1,m,nd,h1,h2,hk=>by
  show bindC kindOf ((p,w)::P.zip vs) m x=_
  unfold bindC
  exact Jqo (i:=i) (List.nodup_cons.mp nd).2 (by simpa using h1) (by simpa using h2) hk
def start (N:List Str) (vs:List V):St:=vs.map some++yaa (N.length - vs.length) none
def Jsi (CX:CXT) (P:Sb) (w:Sd) (K:Si) (mg:Str->Option S6) (base:Sg) (N:List Str) (qual:Str) (scope:Scope) (f:S5) (cd:S6) (A:Se) (outer:List Env) (s:S7) (H:Hp) (E:XK):Cx where
 prog:=P
 w:=w
 K:=K
 mg:=mg
 base:=base
 A:=A.deeper (envOfC qual scope s.heap.objs.size f cd)
 N:=N
 s₀:=s
 H₀:=H
 env:=envOfC qual scope s.heap.objs.size f cd
 outer:=outer
 stack:=envOfC qual scope s.heap.objs.size f cd::outer
 ex:=[]
 calm:=true
 fn:=λ_=>true
 pn:=[]
 xe:=λe s'=>Sh (model P w) (A.deeper (envOfC qual scope s.heap.objs.size f cd)) (leaving (envOfC qual scope s.heap.objs.size f cd) e) (λ_ s''=>CX outer H s E e s'') (λe' s''=>CX outer H s E e' s'') s'
theorem Jns {sc:Scope} {n:Nat} {x:Str} (h:sc.names.lookup x=some .cell):∃c,(cellsFrom n sc.names []).lookup x=some c:=by
 have q:=PySem.W.cellsFrom_some sc.names n [] (.inl h)
 exact ybp.mp q
theorem Jth {CX:CXT} {P:Sb} {w:Sd} {K:Si} {mg:Str->Option S6} {base:Sg} {N ps:List Str} {qual:Str} {scope:Scope} {f:S5} {cd:S6} {A:Se} {outer:List Env} {s s1:S7} {H:Hp} {E:XK} {us:List S6} {vs:List V}
  (S:Jjh N ps scope) (hd:A.handled=none) (e0:Sf5 P w K mg base A outer s H) (hl:vs.length=ps.length) (r:Sa2 vs us)
  (x:InCallC s s.heap.objs.size (bindL (envOfC qual scope s.heap.objs.size f cd).kindOf (ps.zip us) λ_=>none) (cellsFrom (s.heap.objs.size+1) scope.names []) (bindC (envOfC qual scope s.heap.objs.size f cd).kindOf (ps.zip us) λ_=>none) s1):
  Sw (Jsi CX P w K mg base N qual scope f cd A outer s H E) [] (start N vs) H s1:=by
 have hpl:ps.length<=N.length:=by have:=congrArg List.length S.pre;rw [yk] at this;omega
 obtain ⟨h1,tk,rfl,hk⟩:=x.done
 have noA:∀b:S5,b∉(Jsi CX P w K mg base N qual scope f cd A outer s H E).ex:=λb z=>absurd (show b∈([]:List S5) from z) (by simp)
 refine ⟨⟨e0.mod,S.kind,rfl,rfl,yg _,λy z c h1 h2=>?_,λy hy=>?_,λy c _ h=>?_,λ_=>hd,Around.frames_deeper e0.frames,.inr ⟨rfl,rfl⟩,λb z=>absurd z (noA b),e0.bs,e0.bsz,λb _ _=>noA b,λb z=>absurd z (noA b),e0.funs,e0.frf⟩,
  rfl,e0.bare,Un.kept hk,⟨_,x.toInCall.ns,λi y v h1 h2 h3=>?_⟩,λy c h=>⟨_,x.cell y c h⟩,e0.hok.fresh (yg _),λy c h=>?_,λp hp=>absurd (show p∈([]:List (S5×Obj)) from hp) (by simp),e0.hok.kept hk,?_⟩
 ·exact name_of_addr x.apart (PySem.mem_of_lookup h1) (PySem.mem_of_lookup h2)
 ·have hy:scope.names.lookup y=some .cell\/scope.names.lookup y=some .free:=hy
  rcases hy with hy|hy
  ·exact Jns hy
  ·exact absurd rfl (S.nofree _ (PySem.mem_of_lookup hy))
 ·exact ybd (x.above y c (PySem.mem_of_lookup h))
 ·have hi:i < vs.length:=by
   unfold start at h2
   by_cases hi:i < vs.length
   ·exact hi
   ·rw [yca (by simpa using hi)] at h2
    rw [List.getElem?_replicate] at h2
    split at h2 <;> cases h2
  have ha:vs[i]?=some v:=by
   unfold start at h2
   rw [ycb (by simpa using hi),yn] at h2
   cases e:vs[i]? with
   |none=>rw [e] at h2;cases h2
   |some a=>rw [e] at h2;cases h2;rfl
  obtain ⟨u,hu,rv⟩:=r.get ha
  have hp:ps[i]?=some y:=by
   rw [<-S.pre,List.getElem?_take_of_lt (by omega)];exact h1
  have ndP:ps.Nodup:=by rw [<-S.pre];exact S.nd.sublist (List.take_sublist _ _)
  refine ⟨u,rv,?_⟩
  rcases S.par y (yab hp) with k|k
  ·exact .inl ⟨k,Jqp ndP hp hu k⟩
  ·obtain ⟨c,e⟩:=Jns (n:=s.heap.objs.size+1) k
   refine .inr ⟨.inl k,c,e,?_⟩
   have q:=x.cell y c e
   rw [Jqo ndP hp hu (by show scope.names.lookup y≠_;rw [k];decide)] at q
   exact q
 ·exact .inl (e0.hok.fresh (ybd (x.above y c (PySem.mem_of_lookup h))))
 ·unfold start
  show _=N.length
  rw [yq,ye,ycc]
  omega
theorem Sjn {CX:CXT} {P:Sb} {w:Sd} {K:Si} {mg:Str->Option S6} {base:Sg} {k:Nat} {f:S5} {name qual:Str} {params:Arguments} {body:List Sf} {scope:Scope} {dV kV doc pm cdv ct oc:S6} {an od:Option S5}
  {osl:Array (Option S6)} {N ps:List Str} {sp:Sp} (lk:K.lookup f=some ⟨oc,od,.func (PySem.W.fnOf name qual params body scope dV kV doc pm an cdv ct),osl⟩) (hcd:PySem.W.codeIn K cdv qual=true) (S:Jjh N ps scope)
  (len:∀vs H Q E,sp vs H Q E->vs.length=ps.length)
  (hbody:∀(A:Se) (outer:List Env) (s:S7) (H:Hp) (vs:List V) (Q:VK) (E:XK),Sao k (A.deeper (envOfC qual scope s.heap.objs.size f cdv))->sp vs H Q E->
   ∃t,PSs (Jsi CX P w K mg base N qual scope f cdv A outer s H E) body t/\t {nx:=λ_ H'=>Q .non H',rt:=Q} (start N vs) H):
  Jjz P w K mg base CX (k+1) f (PySem.W.fnOf name qual params body scope dV kV doc pm an cdv ct) ps sp:=by
 refine ⟨len,λA outer s H args us vs Q E hr e0 hb r hsp=>?_⟩
 have hl:=len _ _ _ _ hsp
 have KX:K.In s.heap:=e0.mod.kin.keeps λb o e=>(e0.bs b o e).1
 have lim:s.heap.NoLimit:=e0.mod.nolimit.keeps λb o e=>(e0.bs b o e).1
 have hkind:∀y∈ps.zip us,scope.names.lookup y.1=some .local\/(scope.names.lookup y.1=some .cell/\((cellsFrom (s.heap.objs.size+1) scope.names []).lookup y.1).isSome=true):=λ⟨n,v⟩ hy=>by
  rcases S.par n (ybr hy).1 with q|q
  ·exact .inl q
  ·exact .inr ⟨q,PySem.W.cellsFrom_some _ _ _ (.inl q)⟩
 refine codeAny_call_function hr.depth (KX _ _ lk) rfl S.co S.gen rfl (PySem.W.codeRec_of KX hcd) (hb _ _ _ _ ?_)
 refine wpAny_newFunctionEnv_cells S.kind hkind λenv he s1 x=>?_
 subst he
 refine ⟨lim.keeps x.toInCall.keep,codeAny_func ?_⟩
 obtain ⟨t,ht,hq⟩:=hbody A outer s H vs Q E (hr.deeper _) hsp
 have I:Sw (Jsi CX P w K mg base N qual scope f cdv A outer s H E) [] (start N vs) H s1:=Jth S hr.hd e0 hl r x
 refine wpAny_mono (ht [] s1 (start N vs) H _ I hq) (λfl s' hs=>?_) λe s' hs=>hs
 have fin:∀{σ':St} {H':Hp} {v:V} {u:S6},Sw (Jsi CX P w K mg base N qual scope f cdv A outer s H E) [] σ' H' s'->Sa4 v u->Q v H'->CE outer P w H s Q u s':=
  λ{σ' H' v u} J rv q=>⟨v,H',J.os,J.bare,J.base,J.hok,rv,q⟩
 cases fl with
 |ret u=>
  obtain ⟨v,σ',H',J,rv,q⟩:=hs
  exact fin J rv q
 |next=>
  obtain ⟨σ',H',J,q⟩:=hs
  exact fin (v:=V.non) (u:=Value.none) J rfl q
 |brk=>
  obtain ⟨_,_,_,q⟩:=hs
  exact False.elim q
 |cont=>
  obtain ⟨_,_,_,q⟩:=hs
  exact False.elim q
section
variable {X:Cx} {x:Str} {p pos:Pos} {e:Expr} {es:List Expr} {t:TA} {id T:String} {r:List V->Hp->VK->Prop}
def tCB (r:List V->Hp->VK->Prop) (t:TA):TE:=λσ H Q=>t σ H λvs H1=>r vs H1 Q
theorem Jjk (hc:Jmd X (.builtin id) r) (hg:Gl X x) (hm:X.mg x=none) (hv:bootBuiltins x=some (.builtin id)) (ha:PA X (e::es) t) (hn:x≠"__name__" :=by decide) (hdb:(x==("__debug__" :Str))=false:=by decide)
  (he:starEach (e::es) X.env=(false,eval e X.env)::starEach es X.env:=by rfl) (hpl:(backTo pos (starEach es X.env)).any (·.1)=false:=by rfl):PE X (.Call (.Name x p) (e::es) [] pos) (tCB r t):=by
 intro pins s σ H Q I h
 refine wpAny_Call_Name_kw (Jqu I hg hm hv ?_ hn hdb)
 exact PyProof.Rows.callWith_builtin1 (thn (ha pos pins s σ H _ I h) λus s1 ⟨vs,H1,I1,r1,q1⟩=>hc pins s1 σ H1 vs us Q I1 r1 q1) he hpl
theorem Jkd (hc:Jmd X (.type T) r) (hg:Gl X x) (hm:X.mg x=none) (hv:bootBuiltins x=some (.type T)) (ha:PA X (e::es) t) (hn:x≠"__name__" :=by decide) (hdb:(x==("__debug__" :Str))=false:=by decide)
  (he:starEach (e::es) X.env=(false,eval e X.env)::starEach es X.env:=by rfl) (hpl:(backTo pos (starEach es X.env)).any (·.1)=false:=by rfl):PE X (.Call (.Name x p) (e::es) [] pos) (tCB r t):=by
 intro pins s σ H Q I h
 refine wpAny_Call_Name_kw (Jqu I hg hm hv ?_ hn hdb)
 exact PyProof.Rows.callWith_type1 (thn (ha pos pins s σ H _ I h) λus s1 ⟨vs,H1,I1,r1,q1⟩=>hc pins s1 σ H1 vs us Q I1 r1 q1) he hpl
end
end L2
namespace HT
open PySem PyProof.Rows
section
open PySem.SeqAt
open PySem.AutoSeq1 (wpAny_loadPart')
open PySem.MeetsSeq PySem.MeetsSeq2 PySem.MeetsSeq3
end
section
variable {prog:Sb} {w:Sd} {A:Se} {E:S6->S7->Prop} {s:S7}
def sIx (n d:Nat):Option Int->Nat
 |none=>d
 |some v=>if v < 0 then (v+(n:Int)).toNat else min v.toNat n
theorem sIx_none (n d:Nat):sIx n d none=d:=rfl
theorem sIx_nat (n d k:Nat):sIx n d (some (k:Int))=min k n:=by
 show (if (k:Int) < 0 then ((k:Int)+(n:Int)).toNat else min (k:Int).toNat n)=min k n
 rw [if_neg (by omega),Int.toNat_natCast]
end
end HT
namespace L2
open PySem PySem.Spec PyProof.Rows
abbrev TO:=St->Hp->(Option Int->Hp->Prop)->Prop
def PO (X:Cx) (e:Option Expr) (t:TO):Prop:=
 ∀(pins:List (S5×Obj)) (s:S7) (σ:St) (H:Hp) (Q:Option Int->Hp->Prop),Sw X pins σ H s->t σ H Q->
  Sh (model X.prog X.w) X.A (evalPart e X.env) (λu s'=>∃o H',Sw X pins σ H' s'/\IsPart u o/\Q o H') X.xe s
def Ybh:TO:=λ_ H Q=>Q none H
def Sps (t:TE):TO:=λσ H Q=>t σ H λx H1=>∃i,x= .int i/\Q (some i) H1
section
variable {X:Cx} {e:Expr} {te:TE} {lo hi:Option Expr} {tl th:TO} {pos p2:Pos}
theorem Jki:PO X none Ybh:=by
 intro pins s σ H Q I h
 rw [evalPart_none]
 exact S9 ⟨none,H,I,.none,h⟩
theorem Jk4 (h:PE X e te):PO X (some e) (Sps te):=by
 intro pins s σ H Q I hw
 rw [evalPart_some]
 refine thn (h pins s σ H _ I hw) λu s1 zq=>?_
 obtain ⟨x,H1,I1,r1,q1⟩:=zq
 obtain ⟨i,rfl,q⟩:=q1
 obtain ⟨t,rfl⟩:=r1
 exact ⟨some i,H1,I1,.int i t,q⟩
def SlR (X:Cx) (r:V->Option Int->Option Int->Hp->VK->Prop):Prop:=
 ∀(pins:List (S5×Obj)) (s:S7) (σ:St) (H:Hp) (x:V) (v vl vu:S6) (lo hi:Option Int) (sl:S5) (Q:VK),Sw X pins σ H s->Sa4 x v->s.heap.IsSliceOf sl vl vu .none->IsPart vl lo->IsPart vu hi->r x lo hi H Q->
  ∃T id,typeLookup (.type T) "__getitem__" =pure (some (.builtin id))/\s.TypeIs v T/\Sh (model X.prog X.w) X.A (getItem v (.ref sl)) (EP X pins σ Q) X.xe s
def tSl (r:V->Option Int->Option Int->Hp->VK->Prop) (te:TE) (tl th:TO):TE:=λσ H Q=>te σ H λx H1=>tl σ H1 λl H2=>th σ H2 λu H3=>r x l u H3 Q
theorem Jk2 {r:V->Option Int->Option Int->Hp->VK->Prop} (hr:SlR X r) (he:PE X e te) (hl:PO X lo tl) (hu:PO X hi th):PE X (.Subscript e (.Slice lo hi none p2) pos) (tSl r te tl th):=by
 intro pins s σ H Q I h
 refine Subscript_ (thn (he pins s σ H _ I h) λv s1 zq=>?_)
 obtain ⟨x,H1,I1,r1,q1⟩:=zq
 refine wpAny_Slice (thn (hl pins s1 σ H1 _ I1 q1) λvl s2 ⟨l,H2,I2,pl,q2⟩=>thn (hu pins s2 σ H2 _ I2 q2) λvu s3 zq=>?_)
 obtain ⟨u,H3,I3,pu,q3⟩:=zq
 rw [evalPart_none]
 refine S9 ?_
 have I4:Sw X pins σ H3 {s3 with heap:=s3.heap.push {cls:=.type "slice",data:=.fields #[vl,vu,.none]}}:=I3.kept (t':=s3.toks) λb ob q=>ym _ q
 obtain ⟨T,id,hT,ht,hg⟩:=hr pins {s3 with heap:=s3.heap.push {cls:=.type "slice",data:=.fields #[vl,vu,.none]}} σ H3 x v vl vu l u s3.heap.objs.size Q I4 r1 (Heap.IsSliceOf.new ..) pl pu q3
 show Sh (model X.prog X.w) X.A (subscriptTail e (.Slice lo hi none p2) v (.ref s3.heap.objs.size)) (EP X pins σ Q) X.xe {s3 with heap:=s3.heap.push {cls:=.type "slice",data:=.fields #[vl,vu,.none]}}
 exact tail_any (ops:=[.ref s3.heap.objs.size,v]) ht hT hg (by with_unfolding_all rfl)
def Jlf (xs:List V) (lo hi:Option Int):List V:=(xs.drop (HT.sIx xs.length 0 lo)).take (HT.sIx xs.length xs.length hi - HT.sIx xs.length 0 lo)
theorem Jv3 (xs:List V) (lo hi:Option Int):(Jlf xs lo hi).length<=xs.length:=by
 unfold Jlf
 rw [yk,yx]
 omega
end
def ixN (n:Nat) (i:Int):Option Nat:=if 0<=i then (if i < n then some i.toNat else none) else if -(n:Int)<=i then some (i+n).toNat else none
def atI {α:Type} (xs:List α) (i:Int):Option α:=(ixN xs.length i).bind λj=>xs[j]?
theorem Jxb {n:Nat} {i:Int} {j:Nat} (h:ixN n i=some j):seqIndex? i n=some j/\j < n/\ -(n:Int)<=i/\i < n:=by
 unfold ixN at h
 by_cases h0:0<=i
 ·rw [if_pos h0] at h
  by_cases h1:i < n
  ·rw [if_pos h1] at h
   have e:i.toNat=j:=yt.inj h
   exact ⟨by rw [seqIndex_of h0 h1,e],by omega,by omega,h1⟩
  ·rw [if_neg h1] at h;cases h
 ·rw [if_neg h0] at h
  by_cases h1: -(n:Int)<=i
  ·rw [if_pos h1] at h
   have e:(i+n).toNat=j:=yt.inj h
   exact ⟨by rw [seqIndex_neg (by omega) h1,e],by omega,h1,by omega⟩
  ·rw [if_neg h1] at h;cases h
theorem Jtt {α:Type} {xs:List α} {i:Int} {v:α} (h:atI xs i=some v):∃j,seqIndex? i xs.length=some j/\xs[j]?=some v/\j < xs.length/\ -(xs.length:Int)<=i/\i < xs.length:=by
 unfold atI at h
 cases e:ixN xs.length i with
 |none=>rw [e] at h;cases h
 |some j=>
  rw [e] at h
  obtain ⟨h1,h2,h3,h4⟩:=Jxb e
  exact ⟨j,h1,h,h2,h3,h4⟩
theorem Jl7 {α:Type} {xs:List α} {j:Nat} {v:α} (h:xs[j]?=some v):atI xs (j:Int)=some v:=by
 have hj:j < xs.length:=(yz.mp h).1
 have e:ixN xs.length (j:Int)=some j:=by
  unfold ixN
  rw [if_pos (by omega),if_pos (by omega)];simp
 unfold atI;rw [e];exact h
def Ya1 (b:Expr):Prop:=∀o i,subscripted b false o i=operate [o,i] (getItem o i)
def IxR (X:Cx) (r:R2):Prop:=
 ∀(value slice:Expr) (pins:List (S5×Obj)) (s:S7) (σ:St) (H:Hp) (x y:V) (v u:S6) (Q:VK),Sw X pins σ H s->Sa4 x v->Sa4 y u->r x y H Q->
  subscripted slice false v u=operate [v,u] (getItem v u)->Sh (model X.prog X.w) X.A (subscriptTail value slice v u) (EP X pins σ Q) X.xe s
def MtR (X:Cx) (id:String) (r:V->List V->Hp->VK->Prop):Prop:=
 ∀(pins:List (S5×Obj)) (s:S7) (σ:St) (H:Hp) (x:V) (xs:List V) (v:S6) (us:List S6) (Q:VK),Sw X pins σ H s->Sa4 x v->Sa2 xs us->r x xs H Q->
  Sh (model X.prog X.w) X.A (call (.builtin id) (v::us)) (EP X pins σ Q) X.xe s
section
variable {X:Cx} {a b:Expr} {ta tb:TE} {pos:Pos}
theorem Jk5 {r:R2} (hr:IxR X r) (ha:PE X a ta) (hb:PE X b tb) (hs:Ya1 b):PE X (.Subscript a b pos) (tOp r ta tb):=by
 intro pins s σ H Q I h
 exact Subscript_ (Sl2 ha hb I h λv u s2 x y H2 I2 rx ry q=>hr a b pins s2 σ H2 x y v u Q I2 rx ry q (hs _ _))
def Suk (K:Si):R2:=λx y H Q=>∃p xs i v,x= .ref p/\y= .int i/\Sx K H p xs/\atI xs i=some v/\Q v H
def Sun (K:Si):R2:=λx y H Q=>∃p xs i v,x= .ref p/\y= .int i/\SqT K H p xs/\atI xs i=some v/\Q v H
def Sul:R2:=λx y H Q=>∃z i c,x= .str z/\y= .int i/\z.length<=Sa/\atI z.cps.toList i=some c/\Q (.str ⟨#[c]⟩) H
theorem Jjs:IxR X (Suk X.K):=by
 intro value slice pins s σ H x y v u Q I rx ry h hs
 obtain ⟨p,xs,i,z,rfl,rfl,hq,he,q⟩:=h
 cases rx
 obtain ⟨t,rfl⟩:=ry
 obtain ⟨its,r,pl,hz⟩:=I.list hq
 obtain ⟨j,h1,h2,h3,h4,h5⟩:=Jtt he
 obtain ⟨w,ew,rw'⟩:=r.get h2
 have hl:=r.length
 have hn:=Jpi
 have fin:EP X pins σ Q w s:=⟨z,H,I,rw',q⟩
 by_cases h0:0<=i
 ·have hj:i.toNat=j:=by
   rw [seqIndex_of h0 h5] at h1
   exact yt.inj h1
  exact item_listR pl.isList h0 (by omega) (by rw [hj];simpa using ew) fin hs
 ·have hj:(i+(its.toArray.size:Int)).toNat=j:=by
   rw [seqIndex_neg (by omega) h4] at h1
   rw [yp,<-hl]
   exact yt.inj h1
  exact subscriptTail_builtinR (x:=w) pl.isList.typeIs slot_list_getitem.lookup
   (wpAny_getItem_list_neg (Q:=λr s'=>r=w/\EP X pins σ Q r s') pl.isList (by omega) (by rw [yp] <;> omega) (by omega) (by rw [hj];simpa using ew) ⟨rfl,fin⟩) hs
theorem Jzj:IxR X (Sun X.K):=by
 intro value slice pins s σ H x y v u Q I rx ry h hs
 obtain ⟨p,xs,i,z,rfl,rfl,hq,he,q⟩:=h
 cases rx
 obtain ⟨t,rfl⟩:=ry
 obtain ⟨its,r,pl,hz⟩:=I.tuple hq
 obtain ⟨j,h1,h2,h3,h4,h5⟩:=Jtt he
 obtain ⟨w,ew,rw'⟩:=r.get h2
 have hl:=r.length
 have hn:=Jpi
 have fin:EP X pins σ Q w s:=⟨z,H,I,rw',q⟩
 exact subscriptTail_builtinR (x:=w) pl.typeIs slot_tuple_getitem.lookup
  (getItem_tuple (j:=j) (Q:=λr s'=>r=w/\EP X pins σ Q r s') pl (by omega) (by omega) (by rw [yp,<-hl];exact h1) (by simpa using ew) ⟨rfl,fin⟩) hs
theorem Ju4:IxR X Sul:=by
 intro value slice pins s σ H x y v u Q I rx ry h hs
 obtain ⟨z,i,c,rfl,rfl,hz,he,q⟩:=h
 obtain ⟨t,rfl⟩:=rx
 obtain ⟨t',rfl⟩:=ry
 obtain ⟨j,h1,h2,h3,h4,h5⟩:=Jtt he
 have hl:z.cps.toList.length=z.length:=by simp [Str.length]
 rw [hl] at h1 h4 h5
 have hn:=Jpi
 exact tail_any (typeIs_str s z t) slot_str_getitem.lookup (getItem_str (c:=c) (by
  have e1:decide (i < -(2^63:Int))=false:=decide_eq_false (by omega)
  have e2:decide (i≥2^63)=false:=decide_eq_false (by omega)
  rw [e1,e2,Bool.or_false]) (by rw [h1];simpa using h2) ⟨.str ⟨#[c]⟩,H,I.tok _,⟨_,rfl⟩,q⟩) hs
theorem Jwa (its:List S6) (n j:Nat) (u:S6):Obj.mapSeq (·.setIfInBounds j u) {cls:=.type "list",data:=.seq its.toArray n}={cls:=.type "list",data:=.seq (its.set j u).toArray n}:=by
 simp [Obj.mapSeq]
theorem Sw.lst {pins:List (S5×Obj)} {σ:St} {H:Hp} {s:S7} {p:S5} {xs:List V} (I:Sw X pins σ H s) (h:H p=some (.lst xs)):
  ∃(its:List S6) (n:Nat),Sa2 xs its/\s.heap.get? p=some {cls:=.type "list",data:=.seq its.toArray n}/\xs.length<=Sa:=by
 obtain ⟨z,its,n,r,e⟩:=I.hok p _ h
 exact ⟨its,n,r,e,z⟩
theorem Sw.lstUpd {pins:List (S5×Obj)} {σ:St} {H:Hp} {s:S7} {p:S5} {xs ys:List V} {its its':List S6} {n n':Nat} {f:Obj->Obj} (I:Sw X pins σ H s) (h:H p=some (.lst xs))
  (ho:s.heap.get? p=some {cls:=.type "list",data:=.seq its.toArray n}) (hf:f {cls:=.type "list",data:=.seq its.toArray n}={cls:=.type "list",data:=.seq its'.toArray n'}) (r:Sa2 ys its') (hz:ys.length<=Sa) (t:Nat):
  Sw X pins σ (upd H p (.lst ys)) {s with heap:=s.heap.update p f,toks:=t}:=by
 have e:(s.heap.update p f).get? p=some {cls:=.type "list",data:=.seq its'.toArray n'}:=by
  rw [ycj f ho (by rw [hf] <;> rfl),hf]
 refine I.write (x:=p) (e:=p) (by rw [h];trivial) (.inl rfl) (λb u hb q=>(ybg _ _ (yh hb)).trans q) ⟨_,e⟩ ?_
 exact ⟨hz,its',n',r,e⟩
def Sp1:V->V->V->Hp->(Hp->Prop)->Prop:=λo i v H Q=>∃p xs k j,o= .ref p/\i= .int k/\H p=some (.lst xs)/\ixN xs.length k=some j/\Q (upd H p (.lst (xs.set j v)))
theorem Jsb:Sok X Sp1:=by
 intro pins s σ H o i v ov iv u Q I ro ri rv h
 obtain ⟨p,xs,k,j,rfl,rfl,hp,hj,q⟩:=h
 cases ro
 obtain ⟨t,rfl⟩:=ri
 obtain ⟨its,n,r,ho,hz⟩:=I.lst hp
 obtain ⟨h1,h2,h3,h4⟩:=Jxb hj
 have hl:=r.length
 have hn:=Jpi
 have I':Sw X pins σ (upd H p (.lst (xs.set j v))) {s with heap:=s.heap.update p (Obj.mapSeq (·.setIfInBounds j u))}:=
  I.lstUpd hp ho (Jwa its n j u) (r.set rv j) (by rw [List.length_set];exact hz) s.toks
 by_cases h0:0<=k
 ·have hk:k.toNat=j:=by
   rw [seqIndex_of h0 h4] at h1
   exact yt.inj h1
  exact PySem.W.ki_setAt ho h0 (by omega) (by rw [yp,<-hl];exact h4) (by rw [hk];exact ⟨_,I',q⟩)
 ·have hk:(k+(its.toArray.size:Int)).toNat=j:=by
   rw [seqIndex_neg (by omega) h3] at h1
   rw [yp,<-hl]
   exact yt.inj h1
  exact PySem.W.ki_setBack ho (by omega) (by rw [yp,<-hl];exact h3) (by omega) (by rw [hk];exact ⟨_,I',q⟩)
theorem Jur (lo hi:Option Int) (n:Nat):(sliceBounds lo hi none n).1=((HT.sIx n 0 lo:Nat):Int)/\(sliceBounds lo hi none n).2.1=((HT.sIx n n hi:Nat):Int)/\(sliceBounds lo hi none n).2.2=1:=by
 refine ⟨?_,?_,rfl⟩
 ·cases lo with
  |none=>simp [sliceBounds,HT.sIx]
  |some i=>
   simp only [sliceBounds,HT.sIx,Option.getD_none,show (1:Int) > 0 by decide,if_true]
   by_cases h:i < 0
   ·simp only [h,if_true] <;> omega
   ·simp only [h,if_false] <;> omega
 ·cases hi with
  |none=>simp [sliceBounds,HT.sIx]
  |some i=>
   simp only [sliceBounds,HT.sIx,Option.getD_none,show (1:Int) > 0 by decide,if_true]
   by_cases h:i < 0
   ·simp only [h,if_true] <;> omega
   ·simp only [h,if_false] <;> omega
theorem Jt5 (its:List S6) (lo hi:Option Int):slicePick its.toArray lo hi none=((its.drop (HT.sIx its.length 0 lo)).take (HT.sIx its.length its.length hi - HT.sIx its.length 0 lo)).toArray:=by
 obtain ⟨h1,h2,h3⟩:=Jur lo hi its.toArray.size
 unfold slicePick
 rw [h1,h2,h3]
 simp only [sliceRange_one,pick_run,yp] <;> rfl
def Sur (K:Si):V->Option Int->Option Int->Hp->VK->Prop:=λx lo hi H Q=>∃a xs,x= .ref a/\Sx K H a xs/\∀p,H p=none->Q (.ref p) (upd H p (.lst (Jlf xs lo hi)))
theorem Jka:SlR X (Sur X.K):=by
 intro pins s σ H x v vl vu lo hi sl Q I rx hs pl pu h
 obtain ⟨a,xs,rfl,hx,q⟩:=h
 cases rx
 obtain ⟨its,r,ht,hz⟩:=I.list hx
 have hlen:=r.length
 refine ⟨"list",_,slot_list_getitem.lookup,ht.isList.typeIs,?_⟩
 refine wpAny_getItem_list_slice ht.isList hs pl pu .none (by simp) ?_ (by rw [yp] <;> omega)
 rw [Jt5,<-hlen]
 refine ⟨.ref s.heap.objs.size,_,I.laid (t':=s.toks) (o:=.lst (Jlf xs lo hi)) (λb ob q=>ym _ q) (yg _) ?_,rfl,q _ (I.hok.fresh (yg _))⟩
 exact ⟨yv (Jv3 xs lo hi) hz,_,0,(r.drop (HT.sIx xs.length 0 lo)).take (HT.sIx xs.length xs.length hi - HT.sIx xs.length 0 lo),yag _ rfl⟩
def Joa:V->Bool
 | .non=>true
 | .bl _=>true
 | .int _=>true
 | .str _=>true
 |_=>false
def eqV:V->V->Bool
 | .non,.non=>true
 | .bl a,.bl b=>a==b
 | .bl a,.int b=>(if a then 1 else 0)==b
 | .int a,.bl b=>a==(if b then 1 else 0)
 | .int a,.int b=>a==b
 | .str a,.str b=>a==b
 |_,_=>false
theorem Jzc {A:Se} {s:S7} {y x:V} {u v:S6} (ry:Sa4 y u) (rx:Sa4 x v) (fy:Joa y=true) (fx:Joa x=true):SeqAt.EqAt A s u v (eqV y x):=by
 cases y with
 |non=>
  cases ry
  cases x with
  |non=>cases rx;exact SeqAt.EqAt.same _
  |bl b=>cases rx;exact SeqAt.EqAt.none_bool b
  |int b=>obtain ⟨t,rfl⟩:=rx;exact SeqAt.EqAt.none_int b t
  |str b=>obtain ⟨t,rfl⟩:=rx;exact SeqAt.EqAt.none_str b t
  |_=>exact absurd (show false=true from fx) yw
 |bl a=>
  cases ry
  cases x with
  |non=>cases rx;exact SeqAt.EqAt.bool_none a
  |bl b=>cases rx;exact SeqAt.EqAt.bool_bool a b
  |int b=>obtain ⟨t,rfl⟩:=rx;exact SeqAt.EqAt.bool_int a b t
  |str b=>obtain ⟨t,rfl⟩:=rx;exact SeqAt.EqAt.bool_str a b t
  |_=>exact absurd (show false=true from fx) yw
 |int a=>
  obtain ⟨t',rfl⟩:=ry
  cases x with
  |non=>cases rx;exact SeqAt.EqAt.int_none a t'
  |bl b=>cases rx;exact SeqAt.EqAt.int_bool a t' b
  |int b=>obtain ⟨t,rfl⟩:=rx;exact SeqAt.EqAt.int_int a t' b t
  |str b=>obtain ⟨t,rfl⟩:=rx;exact SeqAt.EqAt.int_str a t' b t
  |_=>exact absurd (show false=true from fx) yw
 |str a=>
  obtain ⟨t',rfl⟩:=ry
  cases x with
  |non=>cases rx;exact SeqAt.EqAt.str_none a t'
  |bl b=>cases rx;exact SeqAt.EqAt.str_bool a t' b
  |int b=>obtain ⟨t,rfl⟩:=rx;exact SeqAt.EqAt.str_int a t' b t
  |str b=>obtain ⟨t,rfl⟩:=rx;exact SeqAt.EqAt.str_str a t' b t
  |_=>exact absurd (show false=true from fx) yw
 |_=>exact absurd (show false=true from fy) yw
def eqU (x:V) (u:S6):Bool:=match u with
 | .none=>eqV .non x
 | .bool b=>eqV (.bl b) x
 | .int i _=>eqV (.int i) x
 | .str z _=>eqV (.str z) x
 |_=>false
theorem Jzd {x y:V} {u:S6} (r:Sa4 y u) (f:Joa y=true):eqU x u=eqV y x:=by
 cases y with
 |non=>cases r;rfl
 |bl b=>cases r;rfl
 |int i=>obtain ⟨t,rfl⟩:=r;rfl
 |str z=>obtain ⟨t,rfl⟩:=r;rfl
 |_=>exact absurd (show false=true from f) yw
theorem Jpx {x:V}:∀{xs:List V} {us:List S6},Sa2 xs us->xs.all Joa=true->us.any (eqU x)=xs.any λy=>eqV y x
 |_,_,.nil,_=>rfl
 |y::xs,u::us,.cons r t,f=>by
  rw [List.all_cons,yac] at f
  rw [List.any_cons,List.any_cons,Jzd r f.1,Jpx t f.2]
theorem Jok {A:Se} {s:S7} {x:V} {v:S6} (rx:Sa4 x v) (fx:Joa x=true):∀{xs:List V} {us:List S6},Sa2 xs us->xs.all Joa=true->∀u∈us,SeqAt.EqAt A s u v (eqU x u)
 |_,_,.nil,_=>λu hu=>by cases hu
 |y::xs,u::us,.cons r t,f=>λu' hu=>by
  rw [List.all_cons,yac] at f
  rcases yo.mp hu with rfl|hu
  ·rw [Jzd r f.1];exact Jzc r rx f.1 fx
  ·exact Jok rx fx t f.2 u' hu
def inV (x:V) (xs:List V):Bool:=xs.any λy=>eqV y x
def rIn (K:Si) (neg:Bool):R2:=λx y H Q=>∃p xs,y= .ref p/\(Sx K H p xs\/SqT K H p xs)/\Joa x=true/\xs.all Joa=true/\Q (.bl (if neg then !inV x xs else inV x xs)) H
theorem Jnu:OpR X (compareOp .In) (rIn X.K false):=by
 intro pins s σ H x y v u Q I rx ry h
 obtain ⟨p,xs,rfl,hq,fx,fs,q⟩:=h
 cases ry
 rcases hq with hq|hq
 ·obtain ⟨its,r,pl,hz⟩:=I.list hq
  refine SeqAt.in_listAt (eqU x) pl.isList (λw hw=>Jok rx fx r fs w (by simpa using hw)) ⟨.bl _,H,I,rfl,?_⟩
  rw [show its.toArray.any (eqU x)=its.any (eqU x) by simp,Jpx r fs]
  exact q
 ·obtain ⟨its,r,pl,hz⟩:=I.tuple hq
  refine SeqAt.in_tupleAt (eqU x) pl (λw hw=>Jok rx fx r fs w (by simpa using hw)) ⟨.bl _,H,I,rfl,?_⟩
  rw [show its.toArray.any (eqU x)=its.any (eqU x) by simp,Jpx r fs]
  exact q
theorem Jq6:OpR X (compareOp .NotIn) (rIn X.K true):=by
 intro pins s σ H x y v u Q I rx ry h
 obtain ⟨p,xs,rfl,hq,fx,fs,q⟩:=h
 cases ry
 rcases hq with hq|hq
 ·obtain ⟨its,r,pl,hz⟩:=I.list hq
  refine SeqAt.notIn_listAt (eqU x) pl.isList (λw hw=>Jok rx fx r fs w (by simpa using hw)) ⟨.bl _,H,I,rfl,?_⟩
  rw [show its.toArray.any (eqU x)=its.any (eqU x) by simp,Jpx r fs]
  exact q
 ·obtain ⟨its,r,pl,hz⟩:=I.tuple hq
  refine SeqAt.notIn_tupleAt (eqU x) pl (λw hw=>Jok rx fx r fs w (by simpa using hw)) ⟨.bl _,H,I,rfl,?_⟩
  rw [show its.toArray.any (eqU x)=its.any (eqU x) by simp,Jpx r fs]
  exact q
theorem Jjq:Jmd X (.builtin "len") (λxs H Q=>∃p ys,xs= [.ref p]/\(Sx X.K H p ys\/SqT X.K H p ys)/\Q (.int ys.length) H):=by
 intro pins s σ H xs us Q I r h
 obtain ⟨p,ys,rfl,hq,q⟩:=h
 obtain ⟨u,rfl,rx⟩:=Jmw r
 cases rx
 have hn:=Jpi
 rcases hq with hq|hq
 ·obtain ⟨its,r',pl,hz⟩:=I.list hq
  have hlen:=r'.length
  exact Calls.call_len_list pl.isList (by simp only [yp] <;> omega) ⟨.int ys.length,H,I.tok _,⟨s.toks+1,by rw [yp,hlen]⟩,q⟩
 ·obtain ⟨its,r',pl,hz⟩:=I.tuple hq
  have hlen:=r'.length
  exact len_tuple pl (by simp only [yp] <;> omega) ⟨.int ys.length,H,I.tok _,⟨s.toks+1,by rw [yp,hlen]⟩,q⟩
theorem Jm5:Jmd X (.builtin "len") (λxs H Q=>∃z,xs= [.str z]/\z.length<=Sa/\Q (.int z.length) H):=by
 intro pins s σ H xs us Q I r h
 obtain ⟨z,rfl,hz,q⟩:=h
 obtain ⟨u,rfl,t,rfl⟩:=Jmw r
 have hn:=Jpi
 exact len_str (by omega) ⟨.int z.length,H,I.tok _,⟨_,rfl⟩,q⟩
theorem Jtx:Jmd X (.type "list") (λxs H Q=>∃p ys,xs= [.ref p]/\(Sx X.K H p ys\/SqT X.K H p ys)/\∀l,H l=none->Q (.ref l) (upd H l (.lst ys))):=by
 intro pins s σ H xs us Q I r h
 obtain ⟨p,ys,rfl,hq,q⟩:=h
 obtain ⟨u,rfl,rx⟩:=Jmw r
 cases rx
 have fin:∀(its:List S6),Sa2 ys its->ys.length<=Sa->∀(h':Sg) (c':Nat),(∀b o',s.heap.get? b=some o'->h'.get? b=some o')->
   h'.get? s.heap.objs.size=some {cls:=.type "list",dict:=none,data:=.seq its.toArray c',slots:=#[]}->EP X pins σ Q (.ref s.heap.objs.size) {s with heap:=h'}:=λits r' hz h' c' kp e=>
  ⟨.ref s.heap.objs.size,_,I.laid (t':=s.toks) kp (yg _) (show Saa X.prog X.w _ h' _ (.lst ys) from ⟨hz,its,c',r',e⟩),rfl,q _ (I.hok.fresh (yg _))⟩
 rcases hq with hq|hq
 ·obtain ⟨its,r',pl,hz⟩:=I.list hq
  have hlen:=r'.length
  obtain ⟨o,ho,hc,n,hd⟩:=pl.isList
  exact call_list_seq p (.inl rfl) ho hc hd (λh' c' kp e=>fin its r' hz h' c' kp e) (by simp only [yp] <;> omega)
 ·obtain ⟨its,r',pl,hz⟩:=I.tuple hq
  have hlen:=r'.length
  obtain ⟨o,ho,hc,n,hd⟩:=pl
  exact call_list_seq p (.inr rfl) ho hc hd (λh' c' kp e=>fin its r' hz h' c' kp e) (by simp only [yp] <;> omega)
theorem Jnj:Jmd X (.type "tuple") (λxs H Q=>∃p ys,xs= [.ref p]/\((Sx X.K H p ys/\∀l,H l=none->Q (.ref l) (upd H l (.tup ys)))\/(SqT X.K H p ys/\Q (.ref p) H))):=by
 intro pins s σ H xs us Q I r h
 obtain ⟨p,ys,rfl,h⟩:=h
 obtain ⟨u,rfl,rx⟩:=Jmw r
 cases rx
 rcases h with ⟨hq,q⟩|⟨hq,q⟩
 ·obtain ⟨its,r',pl,hz⟩:=I.list hq
  have hlen:=r'.length
  refine call_tuple_list pl.isList (λh' kp=>?_) (by simp only [yp] <;> omega)
  have I1:Sw X pins σ H {s with heap:=h'}:=I.kept (t':=s.toks) kp
  have I2:Sw X pins σ (upd H h'.objs.size (.tup ys)) {s with heap:=h'.push {cls:=.type "tuple",data:=.seq its.toArray}}:=
   I1.laid (t':=s.toks) (λb o e=>ym _ e) (yg _) (show Saa X.prog X.w _ _ _ (.tup ys) from ⟨hz,its,r',IsTup.new _ _⟩)
  exact ⟨.ref h'.objs.size,_,I2,rfl,q _ (I1.hok.fresh (yg _))⟩
 ·obtain ⟨its,r',pl,hz⟩:=I.tuple hq
  exact call_tuple_same pl ⟨.ref p,H,I,rfl,q⟩
def tyV (K:Si) (T:String) (x:V) (H:Hp):Prop:=match x with
 | .str _=>T="str"
 | .int _=>T="int"
 | .ref p=>(T="list" /\∃xs,Sx K H p xs)\/(T="tuple" /\∃o,K.lookup p=some o/\o.cls= .type "tuple" /\o.dict=none)\/
   (T="dict" /\((∃kvs,H p=some (.dK kvs))\/∃kvs,H p=some (.dT kvs)))\/(T="set" /\∃S n,H p=some (.set S n))
 |_=>False
theorem Smm {pins:List (S5×Obj)} {σ:St} {H:Hp} {s:S7} {T:String} {x:V} {v:S6} (I:Sw X pins σ H s) (r:Sa4 x v) (ty:tyV X.K T x H):
  s.TypeIs v T/\∀a,v= .ref a->∃ob,s.heap.get? a=some ob/\ob.dict=none:=by
 cases x with
 |str z=>
  obtain ⟨t,rfl⟩:=r
  cases (show T="str" from ty)
  exact ⟨typeIs_str s z t,λ_ e=>nomatch e⟩
 |int i=>
  obtain ⟨t,rfl⟩:=r
  cases (show T="int" from ty)
  exact ⟨typeIs_int s i t,λ_ e=>nomatch e⟩
 |ref p=>
  cases r
  rcases ty with ⟨rfl,xs,hq⟩|⟨rfl,o,hk,hc,hd⟩|⟨rfl,hk⟩|⟨rfl,S,n,hk⟩
  ·obtain ⟨its,_,pl,_⟩:=I.list hq
   refine ⟨pl.isList.typeIs,λa e=>?_⟩
   cases e
   obtain ⟨o,n,e,c,hd,_⟩:=pl
   exact ⟨o,e,hd⟩
  ·refine ⟨⟨o,I.kIn p o hk,hc⟩,λa e=>?_⟩
   cases e
   exact ⟨o,I.kIn _ o hk,hd⟩
  ·have z:∃o,s.heap.get? p=some o/\o.ExactDict:=by
    rcases hk with ⟨kvs,hk⟩|⟨kvs,hk⟩
    ·obtain ⟨_,_,_,_,o,_,_,e,ex,_⟩:=I.hok p _ hk
     exact ⟨o,e,ex⟩
    ·obtain ⟨_,_,_,_,o,_,_,e,ex,_⟩:=I.hok p _ hk
     exact ⟨o,e,ex⟩
   obtain ⟨o,e,ex⟩:=z
   refine ⟨⟨o,e,ex.1⟩,λa e2=>?_⟩
   cases e2
   exact ⟨o,e,ex.2.1⟩
  ·obtain ⟨o,_,_,_,e,ex,_⟩:=I.hok p _ hk
   refine ⟨⟨o,e,ex.1⟩,λa e2=>?_⟩
   cases e2
   exact ⟨o,e,ex.2.1⟩
 |_=>exact False.elim ty
def tBM (K:Si) (T:String) (r:V->List V->Hp->VK->Prop) (to:TE) (t:TA):TE:=λσ H Q=>to σ H λx H1=>tyV K T x H1/\t σ H1 λxs H2=>r x xs H2 Q
variable {o e:Expr} {es:List Expr} {to:TE} {t:TA} {name:Str} {apos cpos:Pos} {T id:String} {r:V->List V->Hp->VK->Prop}
theorem Jll (pa:PlainAttrs T) (slot:Slot T name id) (hty:typeOf (.builtin id)=pure (.type "method_descriptor")) (hm:MtR X id r) (ho:PE X o to) (ha:PA X (e::es) t)
  (hbase:attributeBase o name X.env (eval o X.env)=eval o X.env:=by rfl)
  (hfew:((backTo cpos (starEach (e::es) X.env)).all (λx=>!x.1)&&(backToKw cpos (keywordEach [] X.env)).all (λx=>x.1.isSome)
   &&decide ((e::es).length+([]:List Keyword).length+(if ([]:List Keyword).isEmpty then 0 else 1) < 30))=true:=by rfl)
  (hline:(apos.endLine==cpos.line)=true:=by rfl) (hs:starEach (e::es) X.env=(false,eval e X.env)::starEach es X.env:=by rfl) (hplain:(backTo cpos (starEach es X.env)).any (·.1)=false:=by rfl):
  PE X (.Call (.Attribute o name apos) (e::es) [] cpos) (tBM X.K T r to t):=by
 intro pins s σ H Q I h
 refine wpAny_Call_method_late hbase hfew hline rfl (thn (ho pins s σ H _ I h) λv s1 zq=>?_)
 obtain ⟨x,H1,I1,r1,ty,q1⟩:=zq
 obtain ⟨h1,h2⟩:=Smm I1 r1 ty
 refine ⟨T,id,pa,slot,hty,h1,h2,?_⟩
 have hA:=ha cpos pins s1 σ H1 _ I1 q1
 rw [hs] at hA⊢
 refine Calls.callWith_builtin (by show (false||(backTo cpos (starEach es X.env)).any (·.1))=false;rw [hplain] <;> rfl) (Calls.evalArgs_plain ?_)
 exact thn hA λus s2 ⟨vs,H2,I2,r2,q2⟩=>hm pins s2 σ H2 x vs v us Q I2 r1 r2 q2
end
def MtM (X:Cx) (id:String) (r:V->List V->Hp->VK->Prop):Prop:=
 ∀(pins:List (S5×Obj)) (s:S7) (σ:St) (H:Hp) (x:V) (xs:List V) (v:S6) (us:List S6) (Q:VK),Sw X pins σ H s->Sa4 x v->Sa2 xs us->r x xs H Q->
  Sh (model X.prog X.w) X.A (call (.builtin id) (v::us)) (EP X pins σ Q) X.xe s
theorem Sa2.one:∀{x:V} {us:List S6},Sa2 [x] us->∃u,us= [u]/\Sa4 x u
 |_,_,.cons r .nil=>⟨_,rfl,r⟩
theorem Sa2.rep {xs:List V} {us:List S6} (h:Sa2 xs us):∀k:Nat,Sa2 (yaa k xs).flatten (yaa k us).flatten
 |0=>.nil
 |k+1=>by
  rw [ycd,ycd,List.flatten_cons,List.flatten_cons]
  exact Sa2.append h (Sa2.rep h k)
theorem Jtf (its:List S6):∀(k:Nat) (acc:List S6),
  List.foldl (λx1 x2=>x1++x2) acc.toArray (yaa k its.toArray)=(acc++(yaa k its).flatten).toArray
 |0,acc=>by simp
 |k+1,acc=>by
  have e:acc.toArray++its.toArray=(acc++its).toArray:=by simp
  have e2:(acc++its)++(yaa k its).flatten=acc++(yaa (k+1) its).flatten:=by
   rw [ycd,List.flatten_cons,List.append_assoc]
  rw [<-e2,<-Jtf its k (acc++its),<-e,ycd,List.foldl_cons]
section
variable {X:Cx} {pins:List (S5×Obj)} {σ:St} {H:Hp} {s:S7} {l b:S5} {xs ys zs:List V}
theorem Sw.lset {its its':List S6} {n:Nat} {f:Array S6->Array S6} {t':Nat} (I:Sw X pins σ H s) (hH:H l=some (.lst xs))
  (e:s.heap.get? l=some {cls:=.type "list",data:=.seq its.toArray n}) (hf:f its.toArray=its'.toArray) (hv:Sa2 ys its') (hz:ys.length<=Sa):
  Sw X pins σ (upd H l (.lst ys)) {s with heap:=s.heap.update l (Obj.mapSeq f),toks:=t'}:=by
 have q:=PySem.IsL.update e f
 rw [hf] at q
 refine I.write (x:=l) (e:=l) (by rw [hH];exact trivial) (.inl rfl) (λb' u hb hu=>(ybg s.heap (Obj.mapSeq f) (yh hb)).trans hu) ⟨_,q⟩ ?_
 exact ⟨hz,its',_,hv,q⟩
theorem Sw.lnew {its:List S6} {t':Nat} (I:Sw X pins σ H s) (hv:Sa2 ys its) (hz:ys.length<=Sa):
  Sw X pins σ (upd H s.heap.objs.size (.lst ys)) {s with heap:=s.heap.push {cls:=.type "list",data:=.seq its.toArray},toks:=t'}:=
 I.laid (λ_ _ q=>ym _ q) (yg _) ⟨hz,its,0,hv,yag _ rfl⟩
theorem Sw.fresh (I:Sw X pins σ H s):H s.heap.objs.size=none:=I.hok.fresh (yg _)
theorem Sw.lstM (I:Sw X pins σ H s) (hH:H l=some (.lst xs)):xs.length<=Sa/\∃(its:List S6) (n:Nat),Sa2 xs its/\xs.length=its.length/\s.heap.get? l=some {cls:=.type "list",data:=.seq its.toArray n}:=by
 obtain ⟨z,its,n,r,e⟩:=I.hok l _ hH
 exact ⟨z,its,n,r,r.length,e⟩
theorem Jvc {n:Nat} (h:n<=Sa):Builtin.List.listTooLong n=false:=by
 unfold Builtin.List.listTooLong
 exact decide_eq_false (by omega)
end
section
variable {X:Cx}
def Yar:V->List V->Hp->VK->Prop:=λx vs H Q=>∃l xs y,x= .ref l/\vs= [y]/\H l=some (.lst xs)/\xs.length < Sa/\Q .non (upd H l (.lst (xs++ [y])))
theorem Jkw:MtM X "list.append" Yar:=by
 intro pins s σ H x vs v us Q I rx rv h
 obtain ⟨l,xs,y,rfl,rfl,hH,hz,q⟩:=h
 cases rx
 obtain ⟨u,rfl,ru⟩:=rv.one
 obtain ⟨z,its,n,r,hl,e⟩:=I.lstM hH
 refine call_meets F.slot_list_append ⟨_,e,rfl⟩ F.entry_list_append (F.args_list_append_2 _ _) (PySem.list_append l its.toArray n u (by rw [yp];omega)) ⟨e,?_⟩
 refine ⟨.non,_,I.lset (its':=its++ [u]) hH e (by simp) (r.append (.cons ru .nil)) ?_,rfl,q⟩
 rw [yq,List.length_singleton]
 omega
def Yas:V->List V->Hp->VK->Prop:=λx vs H Q=>∃l b xs zs,x= .ref l/\vs= [.ref b]/\H l=some (.lst xs)/\H b=some (.lst zs)/\xs.length+zs.length<=Sa/\Q .non (upd H l (.lst (xs++zs)))
theorem Jtl:MtM X "list.extend" Yas:=by
 intro pins s σ H x vs v us Q I rx rv h
 obtain ⟨l,b,xs,zs,rfl,rfl,hH,hB,hz,q⟩:=h
 cases rx
 obtain ⟨u,rfl,ru⟩:=rv.one
 cases ru
 obtain ⟨z,its,n,r,hl,e⟩:=I.lstM hH
 obtain ⟨z2,its2,n2,r2,hl2,e2⟩:=I.lstM hB
 have hsz:its.toArray.size+its2.toArray.size<=Sa:=by rw [yp,yp];omega
 have hlong:¬(!its.toArray.isEmpty&&Builtin.List.listTooLong (its.toArray.size+its2.toArray.size))=true:=by
  rw [Jvc hsz,Bool.and_false]
  exact yw
 refine call_meets F.slot_list_extend ⟨_,e,rfl⟩ F.entry_list_extend (F.args_list_extend_2 _ _)
  (AutoSeq1.list_extend_list_list_0 l its.toArray n b its2.toArray n2 hlong (by rw [yp];omega) (by omega)) ⟨e,e2,?_⟩
 refine ⟨.non,_,I.lset (its':=its++its2) hH e (by simp) (r.append r2) ?_,rfl,q⟩
 rw [yq]
 omega
def Suf:R2:=λx y H Q=>∃l b xs zs,x= .ref l/\y= .ref b/\H l=some (.lst xs)/\H b=some (.lst zs)/\xs.length+zs.length<=Sa/\∀p,H p=none->Q (.ref p) (upd H p (.lst (xs++zs)))
theorem Jks:OpR X (binaryOp .Add) Suf:=by
 intro pins s σ H x y v u Q I rx ry h
 obtain ⟨l,b,xs,zs,rfl,rfl,hH,hB,hz,q⟩:=h
 cases rx
 cases ry
 obtain ⟨z,its,n,r,hl,e⟩:=I.lstM hH
 obtain ⟨z2,its2,n2,r2,hl2,e2⟩:=I.lstM hB
 refine PySem.P.add_list e e2 ?_ (by rw [yp,yp];omega)
 have ea:its.toArray++its2.toArray=(its++its2).toArray:=by simp
 rw [ea]
 exact ⟨.ref _,_,I.lnew (t':=s.toks) (r.append r2) (by rw [yq];omega),rfl,q _ I.fresh⟩
def Suq:R2:=λx y H Q=>∃l k xs,x= .ref l/\y= .int k/\H l=some (.lst xs)/\ -(2^63)<=k/\k < 2^63/\xs.length*k.toNat<=Sa/\
 ∀p,H p=none->Q (.ref p) (upd H p (.lst (yaa k.toNat xs).flatten))
theorem Yac {α:Type} (xs:List α) (k:Nat):(yaa k xs).flatten.length=k*xs.length:=by
 induction k with
 |zero=>simp
 |succ k ih=>rw [ycd,List.flatten_cons,yq,ih,Nat.succ_mul,Nat.add_comm]
theorem Sln:OpR X (binaryOp .Mult) Suq:=by
 intro pins s σ H x y v u Q I rx ry h
 obtain ⟨l,k,xs,rfl,rfl,hH,h1,h2,hz,q⟩:=h
 cases rx
 obtain ⟨t,rfl⟩:=ry
 obtain ⟨z,its,n,r,hl,e⟩:=I.lstM hH
 have hlen:its.toArray.size*k.toNat<=Sa:=by rw [yp,<-hl];exact hz
 have hcap:¬its.toArray.size*k.toNat > (2^63 - 1)/8:=by
  have:(Sa:Nat)<=(2^63 - 1)/8:=by decide
  omega
 have hfit:¬(!Builtin.List.listFitsIndex k)=true:=by
  rw [fitsIndex_both h1 h2]
  exact yw
 have hlong:¬Builtin.List.listTooLong (its.toArray.size*k.toNat)=true:=by
  rw [Jvc hlen]
  exact yw
 have hnew:List.foldl (λx1 x2=>x1++x2) #[] (yaa (if its.toArray.isEmpty=true then 0 else k.toNat) its.toArray)=(yaa k.toNat its).flatten.toArray:=by
  have f0:∀m:Nat,List.foldl (λx1 x2=>x1++x2) #[] (yaa m its.toArray)=(yaa m its).flatten.toArray:=λm=>by
   have:=Jtf its m []
   rw [List.nil_append] at this
   exact this
  rw [f0]
  cases its with
  |nil=>simp
  |cons a r'=>rw [if_neg (by simp)]
 refine wpAny_binaryOp_repeat_ref (T:="list") (U:="int") (by decide) ⟨_,e,rfl⟩ (λs'=>typeIs_int s' k t) noFill_list_mul F.fills_int_mul F.slot_int_rmul repeat_list F.slot_int_index.lookup
  (call_meets F.slot_int_rmul (typeIs_int s k t) F.entry_int_rmul (F.args_int_rmul_2 _ _) (int___rmul___int_list k t l its.toArray n)
   ⟨e,rfl,⟨_,e,rfl⟩,call_meets F.slot_list_mul ⟨_,e,rfl⟩ F.entry_list_mul (F.args_list_mul_2 _ _) (AutoListH.list___mul___list_int_3 l its.toArray n k t hfit hcap hlong) ⟨e,?_⟩⟩)
 rw [hnew]
 exact ⟨.ref _,_,I.lnew (t':=s.toks) (r.rep k.toNat) (by rw [Yac,Nat.mul_comm];exact hz),rfl,q _ I.fresh⟩
end
section
variable {prog:Sb} {w:Sd} {A:Se} {E:S6->S7->Prop} {s:S7}
end
section
variable {X:Cx}
end
section
variable {κ:Type} [DecidableEq κ]
def Jmq (kvs:List (κ×V)) (k:κ):Option V:=(kvs.find? λkv=>decide (kv.1=k)).map (·.2)
def Jlh (kvs:List (κ×V)) (k:κ) (v:V):List (κ×V):=
 if (kvs.any λkv=>decide (kv.1=k))=true then kvs.map (λkv=>if kv.1=k then (kv.1,v) else kv) else kvs++ [(k,v)]
theorem Jls {p:κ×V} {r:List (κ×V)} {k:κ} (e:p.1=k):Jmq (p::r) k=some p.2:=by simp [Jmq,ybs,e]
theorem Jlr {p:κ×V} {r:List (κ×V)} {k:κ} (e:¬p.1=k):Jmq (p::r) k=Jmq r k:=by simp [Jmq,ybs,e]
theorem Jqj (k:κ):∀kvs:List (κ×V),(kvs.any λkv=>decide (kv.1=k))=(Jmq kvs k).isSome
 | []=>rfl
 |p::r=>by
  rw [List.any_cons]
  by_cases e:p.1=k
  ·simp only [Jls e,decide_eq_true e,Bool.true_or,Option.isSome_some]
  ·rw [Jlr e,decide_eq_false e,Bool.false_or];exact Jqj k r
theorem Jvv (k j:κ) (y:V):∀kvs:List (κ×V),Jmq (kvs.map λkv=>if kv.1=k then (kv.1,y) else kv) j=(Jmq kvs j).map λx=>if j=k then y else x
 | []=>rfl
 |p::r=>by
  have ih:=Jvv k j y r
  rw [yaj]
  by_cases h:p.1=k
  ·rw [if_pos h]
   by_cases e:p.1=j
   ·rw [Jls (p:=(p.1,y)) e,Jls e,Option.map_some,if_pos (e.symm.trans h)]
   ·rw [Jlr (p:=(p.1,y)) e,Jlr e,ih]
  ·rw [if_neg h]
   by_cases e:p.1=j
   ·rw [Jls (p:=p) e,Jls e,Option.map_some,if_neg (λz=>h (e.trans z))]
   ·rw [Jlr (p:=p) e,Jlr e,ih]
theorem Jtr (k j:κ) (y:V):∀kvs:List (κ×V),Jmq kvs k=none->Jmq (kvs++ [(k,y)]) j=if j=k then some y else Jmq kvs j
 | [],_=>by
  by_cases e:k=j
  ·rw [if_pos e.symm];exact Jls (p:=(k,y)) e
  ·rw [if_neg (λz=>e z.symm)];exact Jlr (p:=(k,y)) e
 |p::r,hn=>by
  rw [List.cons_append]
  have hk:¬p.1=k:=λz=>by rw [Jls z] at hn;cases hn
  rw [Jlr hk] at hn
  have ih:=Jtr k j y r hn
  by_cases e:p.1=j
  ·rw [Jls e,Jls e,if_neg (λz=>hk (e.trans z))]
  ·rw [Jlr e,Jlr e,ih]
theorem Jke (kvs:List (κ×V)) (k j:κ) (y:V):Jmq (Jlh kvs k y) j=if j=k then some y else Jmq kvs j:=by
 unfold Jlh
 by_cases a:(kvs.any λkv=>decide (kv.1=k))=true
 ·rw [if_pos a,Jvv]
  rw [Jqj] at a
  by_cases e:j=k
  ·obtain ⟨x,hx⟩:=ybp.mp a
   rw [if_pos e,e,hx,Option.map_some,if_pos rfl]
  ·rw [if_neg e]
   cases Jmq kvs j with
   |none=>rfl
   |some x=>rw [Option.map_some,if_neg e]
 ·rw [if_neg a]
  refine Jtr k j y kvs ?_
  rw [Jqj] at a
  cases q:Jmq kvs k with
  |none=>rfl
  |some x=>rw [q] at a;exact (a rfl).elim
theorem Joh (kvs:List (κ×V)) (k:κ) (v:V):(Jlh kvs k v).length<=kvs.length+1:=by
 unfold Jlh
 split
 ·rw [ye];omega
 ·rw [yq,yad,ybt];omega
theorem Sc4.isSome_eq {o:Option V} {u:Option S6} (r:Sc4 o u):o.isSome=u.isSome:=by
 cases o with
 |none=>cases u with
  |none=>rfl
  |some _=>exact (show False from r).elim
 |some _=>cases u with
  |none=>exact (show False from r).elim
  |some _=>rfl
theorem KV.val {kvs:List (κ×V)} {vs:List (κ×S6)} (r:KV kvs vs) (k:κ):Sc4 (Jmq kvs k) (valueAt vs k):=by
 unfold KV at r
 induction r with
 |nil=>exact True.intro
 | @cons p q ps qs h t ih=>
  obtain ⟨h1,h2⟩:=h
  by_cases e:p.1=k
  ·have e':q.1=k:=h1.symm.trans e
   have b:valueAt (q::qs) k=some q.2:=by simp [valueAt,ybs,e']
   rw [Jls e,b];exact h2
  ·have e':¬q.1=k:=λz=>e (h1.trans z)
   have b:valueAt (q::qs) k=valueAt qs k:=by simp [valueAt,ybs,e']
   rw [Jlr e,b];exact ih
theorem KV.any {kvs:List (κ×V)} {vs:List (κ×S6)} (r:KV kvs vs) (k:κ):(kvs.any λkv=>decide (kv.1=k))=vs.any λkv=>decide (kv.1=k):=by
 unfold KV at r
 induction r with
 |nil=>rfl
 |cons h t ih=>rw [List.any_cons,List.any_cons,ih,h.1]
theorem KV.repl {kvs:List (κ×V)} {vs:List (κ×S6)} (r:KV kvs vs) (k:κ) {y:V} {u:S6} (ry:Sa4 y u):
  KV (kvs.map λkv=>if kv.1=k then (kv.1,y) else kv) (vs.map λkv=>if kv.1=k then (kv.1,u) else kv):=by
 unfold KV at r⊢
 induction r with
 |nil=>exact .nil
 | @cons p q ps qs h t ih=>
  rw [yaj,yaj]
  refine .cons ?_ ih
  obtain ⟨h1,h2⟩:=h
  by_cases e:p.1=k
  ·rw [if_pos e,if_pos (h1.symm.trans e)];exact ⟨h1,ry⟩
  ·rw [if_neg e,if_neg (λz=>e (h1.trans z))];exact ⟨h1,h2⟩
theorem KV.put {kvs:List (κ×V)} {vs:List (κ×S6)} (r:KV kvs vs) (k:κ) {y:V} {u:S6} (ry:Sa4 y u):KV (Jlh kvs k y) (stored vs k u):=by
 unfold Jlh stored
 rw [r.any k]
 by_cases e:(vs.any λkv=>decide (kv.1=k))=true
 ·rw [if_pos e,if_pos e];exact r.repl k ry
 ·rw [if_neg e,if_neg e];exact Paired.snoc r ⟨rfl,ry⟩
theorem KV.length {kvs:List (κ×V)} {vs:List (κ×S6)} (r:KV kvs vs):kvs.length=vs.length:=Paired.length r
end
theorem Jxc {P:Sb} {w:Sd} {k:Key} {u:S6} (r:Sa4 (kV k) u):(Jkc P w).is k u=true:=by
 cases k with
 |inl i=>obtain ⟨t,e⟩:=(show ∃t,u=Value.int i t from r);subst e;exact Jva P w i t
 |inr x=>obtain ⟨t,e⟩:=(show ∃t,u=Value.str x t from r);subst e;exact Jol P w x t
theorem Jti {P:Sb} {w:Sd}:∀{ks:List Key} {us:List S6},Sa2 (ks.map kV) us->ItemsAre (Jkc P w) ks us
 | [],_,r=>by rw [List.map_nil] at r;cases r;exact .nil
 |k::ks,_,r=>by
  rw [yaj] at r
  cases r with
  |cons h t=>exact .cons (Jxc h) (Jti t)
abbrev KT (H:Hp):List (List Key×V)->List (List Key×S5×S6)->Prop:=Paired λp q=>p.1=q.1/\H q.2.1=some (.tup (p.1.map kV))/\Sa4 p.2 q.2.2
theorem KT.val {H:Hp} {kvs:List (List Key×V)} {xs:List (List Key×S5×S6)} (r:KT H kvs xs) (k:List Key):Sc4 (Jmq kvs k) ((atKey xs k).map (·.2)):=by
 induction r with
 |nil=>exact True.intro
 | @cons p q ps qs h t ih=>
  obtain ⟨h1,_,h2⟩:=h
  by_cases e:p.1=k
  ·have e':q.1=k:=h1.symm.trans e
   have b:atKey (q::qs) k=some q.2:=by simp [atKey,ybs,e']
   rw [Jls e,b];exact h2
  ·have e':¬q.1=k:=λz=>e (h1.trans z)
   have b:atKey (q::qs) k=atKey qs k:=by simp [atKey,ybs,e']
   rw [Jlr e,b];exact ih
theorem KT.repl {H:Hp} {kvs:List (List Key×V)} {xs:List (List Key×S5×S6)} (r:KT H kvs xs) (k:List Key) {y:V} {u:S6} (ry:Sa4 y u):
  KT H (kvs.map λkv=>if kv.1=k then (kv.1,y) else kv) (xs.map (putAt k u)):=by
 induction r with
 |nil=>exact .nil
 | @cons p q ps qs h t ih=>
  rw [yaj,yaj]
  refine .cons ?_ ih
  obtain ⟨h1,h2,h3⟩:=h
  unfold putAt
  by_cases e:p.1=k
  ·rw [if_pos e,if_pos (h1.symm.trans e)];exact ⟨h1,h2,ry⟩
  ·rw [if_neg e,if_neg (λz=>e (h1.trans z))];exact ⟨h1,h2,h3⟩
theorem KT.put {H:Hp} {kvs:List (List Key×V)} {xs:List (List Key×S5×S6)} (r:KT H kvs xs) (k:List Key) {b:S5} {y:V} {u:S6} (hb:H b=some (.tup (k.map kV))) (ry:Sa4 y u):
  KT H (Jlh kvs k y) (storedH xs k b u):=by
 have e:(kvs.any λkv=>decide (kv.1=k))=(atKey xs k).isSome:=by
  rw [Jqj,(r.val k).isSome_eq,Option.isSome_map]
 unfold Jlh storedH
 rw [e]
 by_cases q:(atKey xs k).isSome=true
 ·rw [if_pos q,if_pos q];exact r.repl k ry
 ·rw [if_neg q,if_neg q];exact Paired.snoc r ⟨rfl,hb,ry⟩
theorem KT.keeps {H H':Hp} {kvs:List (List Key×V)} {xs:List (List Key×S5×S6)} (r:KT H kvs xs) (ht:∀b ys,H b=some (.tup ys)->H' b=some (.tup ys)):KT H' kvs xs:=
 Paired.mapP r λ_ _ z=>⟨z.1,ht _ _ z.2.1,z.2.2⟩
section
variable {P:Sb} {w:Sd} {H:Hp} {h:Sg} {a:S5}
theorem Sjw {u:HO} (ok:HOk P w H h) (e:Rd H a u):Saa P w H h a u:=e.ok ok
theorem Jza {kvs:List (Key×V)} (ok:HOk P w H h) (e:Rd H a (.dK kvs)):kvs.length<=Sa/\(a==sysModules)=false/\∃vs,KV kvs vs/\h.DictOf (Jkc P w) a vs:=
 show Saa P w H h a (.dK kvs) from Sjw ok e
theorem Sjm {kvs:List (Key×V)} (ok:HOk P w H h) (e:H a=some (.dK kvs)):kvs.length<=Sa/\(a==sysModules)=false/\∃vs,KV kvs vs/\h.DictOf (Jkc P w) a vs:=Jza ok (.inl e)
theorem Jw5 {ks:List Key} (ok:HOk P w H h) (e:H a=some (.tup (ks.map kV))):(tupleKind (Jkc P w)).is h ks a:=by
 obtain ⟨_,its,r,o,h1,h2,n,h3⟩:=(show Saa P w H h a (.tup (ks.map kV)) from ok a _ e)
 exact ⟨o,its.toArray,n,h1,h2,h3,by simpa using Jti r⟩
theorem Jzb {kvs:List (List Key×V)} (ok:HOk P w H h) (e:Rd H a (.dT kvs)):kvs.length<=Sa/\(a==sysModules)=false/\
  ∃xs,KT H kvs xs/\h.DictOfH (tupleKind (Jkc P w)) a xs:=by
 obtain ⟨z,y,xs,r,o,es,ep,h1,h2,h3,h4,h5⟩:=(show Saa P w H h a (.dT kvs) from Sjw ok e)
 refine ⟨z,y,xs,r,o,es,ep,h1,h2,h3,h4,λx hx=>?_,h5⟩
 have all:∀{l:List (List Key×V)} {m:List (List Key×S5×S6)},KT H l m->∀x∈m,(tupleKind (Jkc P w)).is h x.1 x.2.1:=by
  intro l m q
  induction q with
  |nil=>intro x hx;exact nomatch hx
  | @cons p q ps qs hq t ih=>
   intro x hx
   rcases yo.mp hx with e|hx
   ·subst e
    exact Jw5 ok (by rw [<-hq.1];exact hq.2.1)
   ·exact ih x hx
 exact all r x hx
theorem Soo {kvs:List (List Key×V)} (ok:HOk P w H h) (e:H a=some (.dT kvs)):kvs.length<=Sa/\(a==sysModules)=false/\
  ∃xs,KT H kvs xs/\h.DictOfH (tupleKind (Jkc P w)) a xs:=Jzb ok (.inl e)
end
def Jv0 (H:Hp) (a:S5) (y:V) (r:Option V):Prop:=
 (∃kvs k,Rd H a (.dK kvs)/\y=kV k/\r=Jmq kvs k)\/∃kvs k b,Rd H a (.dT kvs)/\y= .ref b/\H b=some (.tup (k.map kV))/\r=Jmq kvs k
def Snw (H:Hp) (a:S5) (y v:V) (H':Hp):Prop:=
 (∃kvs k,H a=some (.dK kvs)/\y=kV k/\kvs.length < Sa/\H'=upd H a (.dK (Jlh kvs k v)))\/
 ∃kvs k b,H a=some (.dT kvs)/\y= .ref b/\H b=some (.tup (k.map kV))/\kvs.length < Sa/\H'=upd H a (.dT (Jlh kvs k v))
section
variable {X:Cx} {pins:List (S5×Obj)} {σ:St} {H:Hp} {s:S7} {a:S5} {y v:V} {u r:S6} {o:Option V} {A:Se} {E:S6->S7->Prop}
theorem Sw.big (I:Sw X pins σ H s):sysModules < s.heap.objs.size:=by
 have h:mainGlobals < s.heap.objs.size:=(I.mod.glob.keeps I.bk).lt
 exact Nat.lt_trans (by decide) h
theorem Jy5 {Q:S6->S7->Prop} (hu:A.units+1 < cLine) (I:Sw X pins σ H s) (g:Jv0 H a y (some v)) (ry:Sa4 y u) (h:∀w' s',Sw X pins σ H s'->Sa4 v w'->Q w' s'):
  Sh (model X.prog X.w) A (getItem (.ref a) u) Q E s:=by
 rcases g with ⟨kvs,k,e,ey,l⟩|⟨kvs,k,b,e,ey,eb,l⟩
 ·subst ey
  obtain ⟨z,hd,vs,rel,dd⟩:=Jza I.hok e
  obtain ⟨w',hw,rw'⟩:=Sc4.some_of (v:=v) (o:=valueAt vs k) (by rw [l];exact rel.val k)
  exact wpAny_getItem_of (Jxc ry) dd.mapOf hw (h w' _ (I.tok _) rw')
 ·subst ey
  cases (show u=Value.ref b from ry)
  obtain ⟨z,hd,xs,rel,dd⟩:=Jzb I.hok e
  obtain ⟨w',hw,rw'⟩:=Sc4.some_of (v:=v) (o:=(atKey xs k).map (·.2)) (by rw [l];exact rel.val k)
  obtain ⟨p,hp,hp2⟩:=yat.mp hw
  refine wpAny_getItem_heap (tupleKind_room_in1 hu) (Jw5 I.hok eb) dd hp ?_
  rw [hp2]
  exact h w' _ (I.tok _) rw'
theorem Ju0 {h':Sg} {t':Nat} {ob:HO} (I:Sw X pins σ H s) (mu:Mut (H a)) (hs:Heap.SameBut a s.heap h') (he:∃q,h'.get? a=some q) (new:Saa X.prog X.w (upd H a ob) h' a ob):
  Sw X pins σ (upd H a ob) {s with heap:=h',toks:=t'}:=
 I.write (x:=a) (e:=a) mu (.inl rfl) (λb q hb z=>(hs.2 b hb).trans z) he new
theorem Jz9 {P:Sb} {w:Sd} {H':Hp} {h':Sg} {kvs:List (Key×V)} {vs:List (Key×S6)} (z:kvs.length<=Sa) (hd:(a==sysModules)=false) (rel:KV kvs vs) (dd:h'.DictOf (Jkc P w) a vs):
  Saa P w H' h' a (.dK kvs):=⟨z,hd,vs,rel,dd⟩
theorem Jy6 {H':Hp} {Q:Unit->S7->Prop} (hu:A.units+1 < cLine) (I:Sw X pins σ H s) (g:Snw H a y v H') (ry:Sa4 y u) (rv:Sa4 v r) (h:∀s',Sw X pins σ H' s'->Q () s'):
  Sh (model X.prog X.w) A (setItem (.ref a) u r) Q E s:=by
 rcases g with ⟨kvs,k,e,ey,l,eH⟩|⟨kvs,k,b,e,ey,eb,l,eH⟩
 ·subst ey eH
  obtain ⟨z,hd,vs,rel,dd⟩:=Sjm I.hok e
  have hz:vs.length<=Sa:=by rw [<-rel.length];exact z
  have hl:(Jlh kvs k v).length<=Sa:=by have:=Joh kvs k v;omega
  refine wpAny_setItem_pairs (hsz:=hz) (Jxc ry) dd λh' dd' hs=>h _ ?_
  have he:∃q,h'.get? a=some q:=let ⟨q,_,_,hq,_⟩:=dd';⟨q,hq⟩
  exact Ju0 I (by rw [e];exact True.intro) hs he (Jz9 hl hd (rel.put k rv) dd')
 ·subst ey eH
  cases (show u=Value.ref b from ry)
  obtain ⟨z,hd,xs,rel,dd⟩:=Soo I.hok e
  have hz:xs.length<=Sa:=by rw [<-Paired.length rel];exact z
  have hl:(Jlh kvs k v).length<=Sa:=by have:=Joh kvs k v;omega
  refine wpAny_setItem_heap (hsz:=hz) (tupleKind_room_in1 hu) (Jw5 I.hok eb) dd λh' dd' hs=>h _ ?_
  obtain ⟨q,es,ep,hq,h2,h3,h4,_,h5⟩:=dd'
  refine Ju0 I (by rw [e];exact True.intro) hs ⟨q,hq⟩ ⟨hl,hd,_,(rel.put k eb rv).keeps λc ys ec=>?_,q,es,ep,hq,h2,h3,h4,h5⟩
  rw [Jjc (Sjr ec e (λz=>nomatch z))]
  exact ec
end
section
variable {X:Cx} {pins:List (S5×Obj)} {σ:St} {H:Hp} {s:S7} {a:S5} {kvs:List (Key×V)} {k:Key} {u:S6} {A:Se} {E:S6->S7->Prop}
end
def Skt (i:Expr):Prop:=∀ov iv,subscripted i false ov iv=operate [ov,iv] (getItem ov iv)
theorem Ybg {prog:Sb} {w:Sd} {A:Se} {E:S6->S7->Prop} {s:S7} {env:Env} {value slice:Expr} {pos:Pos} {T id:String} {Q:S6->S7->Prop}
  (hl:typeLookup (.type T) "__getitem__" =pure (some (.builtin id))) (hs:Skt slice)
  (h:Sh (model prog w) A (eval value env) (λo s₁=>Sh (model prog w) A (eval slice env) (λi s₂=>s₂.TypeIs o T/\Sh (model prog w) A (getItem o i) Q E s₂) E s₁) E s):
  Sh (model prog w) A (eval (.Subscript value slice pos) env) Q E s:=by
 refine Subscript_ (wpAny_mono h (λo s₁ h₁=>wpAny_mono h₁ (λi s₂ h₂=>?_) λ_ _ x=>x) λ_ _ x=>x)
 obtain ⟨hT,h₂⟩:=h₂
 unfold subscriptTail
 refine S8 ?_
 rw [getitemInPython_of_ne hT.not_modules]
 refine S8 (wpAny_specialOf hT hl ?_)
 have fin:Sh (model prog w) A (subscripted slice false o i) (λr s₃=>Sh (model prog w) A (letTemporaryGo value o r >>=λ_=>pure r) Q E s₃) E s₂:=by
  rw [hs o i]
  exact wpAny_operating (wpAny_mono h₂ (λr s₃ h₃=>S8 (wpAny_letTemporaryGo (S9 h₃))) λ_ _ x=>x)
 first
  |exact S9 (S8 fin)
  |exact S8 (S9 (S8 fin))
  |exact S8 fin
theorem Jv4 {X:Cx} {pins:List (S5×Obj)} {σ:St} {H:Hp} {s:S7} {a:S5} {y:V} {o:Option V} (I:Sw X pins σ H s) (g:Jv0 H a y o):s.TypeIs (.ref a) "dict" :=by
 rcases g with ⟨kvs,k,e,_,_⟩|⟨kvs,k,b,e,_,_,_⟩
 ·obtain ⟨_,_,vs,_,dd⟩:=Jza I.hok e
  exact dd.typeIs
 ·obtain ⟨_,_,xs,_,dd⟩:=Jzb I.hok e
  exact dd.typeIs
def Sk3 (td ty:TE):TE:=λσ H Q=>td σ H λx H1=>ty σ H1 λy H2=>∃a v,x= .ref a/\Jv0 H2 a y (some v)/\Q v H2
def Sjx (td ty tv:TE):TS:=λD σ H=>tv σ H λv H1=>td σ H1 λx H2=>ty σ H2 λy H3=>∃a H4,x= .ref a/\Snw H3 a y v H4/\D.nx σ H4
section
variable {X:Cx} {o i e value:Expr} {pos pos' tpos:Pos} {td ty tv:TE}
theorem Yam (hu:X.A.units+1 < cLine) (ho:PE X o td) (hi:PE X i ty) (hs:Skt i):PE X (.Subscript o i pos) (Sk3 td ty):=by
 intro pins s σ H Q I h
 refine Ybg PySem.F.slot_dict_getitem.lookup hs (thn (ho pins s σ H _ I h) λu s1 ⟨x,H1,I1,rx,q1⟩=>thn (hi pins s1 σ H1 _ I1 q1) λiv s2 zq=>?_)
 obtain ⟨y,H2,I2,ry,a,v,ex,g,q2⟩:=zq
 subst ex
 obtain rfl:u=Value.ref a:=rx
 exact ⟨Jv4 I2 g,Jy5 hu I2 g ry λw' s3 I3 rw'=>⟨v,H2,I3,rw',q2⟩⟩
theorem Yao (hu:X.A.units+1 < cLine) (ho:PE X o td) (hi:PE X i ty) (hv:PE X value tv) (hs:swapsWith value (some (.Subscript o i pos')) pos.line X.env=pure false):
  PS X (.Assign [.Subscript o i pos'] value pos) (Sjx td ty tv):=by
 intro pins s σ H D I h
 refine wpAny_Assign_Subscript (thn (hv pins s σ H _ I h) λr s1 ⟨v,H1,I1,rv,q1⟩=>thn (ho pins s1 σ H1 _ I1 q1) λu s2 ⟨x,H2,I2,rx,q2⟩=>thn (hi pins s2 σ H2 _ I2 q2) λiv s3 zq=>?_) hs
 obtain ⟨y,H3,I3,ry,a,H4,ex,g,q3⟩:=zq
 subst ex
 obtain rfl:u=Value.ref a:=rx
 exact Jy6 hu I3 g ry rv λs4 I4=>⟨σ,H4,I4,q3⟩
end
theorem Jv5 {P:Sb} {w:Sd} {H:Hp} (h:Sg) (hb:sysModules < h.objs.size):Saa P w H (h.push {cls:=.type "dict",data:=.dict #[]}) h.objs.size (.dK []):=
 ⟨yak _,beq_eq_false_iff_ne.mpr (yh (yu hb)),[],.nil,Heap.DictOf.new h⟩
def Smf:TE:=λ_ H Q=>∀p,H p=none->Q (.ref p) (upd H p (.dK []))
section
variable {X:Cx} {pos:Pos}
theorem Y2:PE X (.Dict [] [] pos) Smf:=λpins s σ H Q I h=>
 wpAny_Dict_empty ⟨.ref s.heap.objs.size,_,I.laid (a:=s.heap.objs.size) (o:=.dK []) (t':=s.toks) (λ_ _ q=>ym _ q) (yg _) (Jv5 s.heap I.big),rfl,h _ (I.hok.fresh (yg _))⟩
end
def Jwt:List (TE×TE)->St->Hp->(List (V×V)->Hp->Prop)->Prop
 | [],_,H,Q=>Q [] H
 | (tk,tv) :: r,σ,H,Q=>tk σ H λx H1=>tv σ H1 λy H2=>Jwt r σ H2 λps H3=>Q ((x,y) :: ps) H3
abbrev VV:List (V×V)->List (S6×S6)->Prop:=Paired λp q=>Sa4 p.1 q.1/\Sa4 p.2 q.2
def PPs (X:Cx) (pos:Pos) (keys:List (Option Expr)) (values:List Expr) (trs:List (TE×TE)):Prop:=
 ∀(pins:List (S5×Obj)) (s:S7) (σ:St) (H:Hp) (Q:List (V×V)->Hp->Prop),Sw X pins σ H s->Jwt trs σ H Q->
  Sh (model X.prog X.w) X.A (evalPairs (pairTrees keys values X.env pos)) (λvs s'=>∃ps H',Sw X pins σ H' s'/\VV ps vs/\Q ps H') X.xe s
theorem Jun {X:Cx} {pos:Pos}:PPs X pos [] [] []:=λpins s σ H Q I h=>pairTrees_nil_walk ⟨[],H,I,.nil,h⟩
theorem Jm8 {X:Cx} {pos:Pos} {k v:Expr} {ks:List (Option Expr)} {vs:List Expr} {tk tv:TE} {trs:List (TE×TE)} (hk:PE X k tk) (hv:PE X v tv) (hr:PPs X pos ks vs trs):
  PPs X pos (some k::ks) (v::vs) ((tk,tv)::trs):=λpins s σ H Q I h=>
 pairTrees_cons_walk (thn (hk pins s σ H _ I h) λu s1 ⟨x,H1,I1,rx,q1⟩=>thn (hv pins s1 σ H1 _ I1 q1) λw2 s2 ⟨y,H2,I2,ry,q2⟩=>
  thn (hr pins s2 σ H2 _ I2 q2) λws s3 ⟨ps,H3,I3,rel,q3⟩=>⟨(x,y)::ps,H3,I3,.cons ⟨rx,ry⟩ rel,q3⟩)
def Jlg (kvs more:List (Key×V)):List (Key×V):=more.foldl (λacc kv=>Jlh acc kv.1 kv.2) kvs
theorem KV.merge:∀{more:List (Key×V)} {rs:List (Key×S6)} {kvs:List (Key×V)} {vs:List (Key×S6)},KV more rs->KV kvs vs->KV (Jlg kvs more) (merged vs rs):=by
 intro more rs kvs vs r
 unfold KV at r
 induction r generalizing kvs vs with
 |nil=>intro q;exact q
 | @cons p q ps qs h t ih=>
  intro r0
  have e:KV (Jlh kvs p.1 p.2) (stored vs q.1 q.2):=by
   have:=r0.put p.1 h.2
   rw [<-h.1];exact this
  exact ih e
theorem Jpd:∀(more kvs:List (Key×V)),(Jlg kvs more).length<=kvs.length+more.length
 | [],kvs=>by show kvs.length<=kvs.length+0;omega
 |p::r,kvs=>by
  have h1:=Jpd r (Jlh kvs p.1 p.2)
  have h2:=Joh kvs p.1 p.2
  show (Jlg (Jlh kvs p.1 p.2) r).length<=_
  rw [yad];omega
theorem Jrr {P:Sb} {w:Sd}:∀{kvs:List (Key×V)} {ws:List (S6×S6)},VV (kvs.map λkv=>(kV kv.1,kv.2)) ws->∃rs,Carries (Jkc P w) ws rs/\KV kvs rs
 | [],_,r=>by rw [List.map_nil] at r;cases r;exact ⟨[],True.intro,.nil⟩
 |p::kvs,_,r=>by
  rw [yaj] at r
  cases r with
  | @cons a b as bs h t=>
   obtain ⟨rs,c,q⟩:=Jrr (P:=P) (w:=w) t
   obtain ⟨b1,b2⟩:=b
   exact ⟨(p.1,b2)::rs,⟨Jxc h.1,rfl,c⟩,.cons ⟨rfl,h.2⟩ q⟩
def Spl (trs:List (TE×TE)):TE:=λσ H Q=>∀p,H p=none->Jwt trs σ (upd H p (.dK [])) λps H2=>H2 p=some (.dK [])/\∃kvs:List (Key×V),ps=kvs.map (λkv=>(kV kv.1,kv.2))/\kvs.length<=15/\Q (.ref p) (upd H2 p (.dK (Jlg [] kvs)))
theorem Jum {X:Cx} {pos:Pos} {keys:List (Option Expr)} {values:List Expr} {trs:List (TE×TE)} (h:PPs X pos keys values trs) (hall:keys.all (·.isSome)=true) (hl:keys.length=values.length) (h0:keys≠ [])
  (h15:keys.length<=15):PE X (.Dict keys values pos) (Spl trs):=by
 intro pins s σ H Q I q
 have hn:=I.hok.fresh (yg s.heap.objs.size)
 have I1:=I.laid (a:=s.heap.objs.size) (o:=.dK []) (h':=s.heap.push {cls:=.type "dict",data:=.dict #[]}) (t':=s.toks) (λ_ _ q=>ym _ q) (yg _) (Jv5 s.heap I.big)
 refine wpAny_Dict_walk (knd:=Jkc X.prog X.w) hall hl h0 h15 (thn (h pins _ σ _ _ I1 (q _ hn)) λws s2 zq=>?_)
 obtain ⟨ps,H2,I2,rel,e,kvs,ep,lk,q2⟩:=zq
 subst ep
 obtain ⟨rs,c,rk⟩:=Jrr (P:=X.prog) (w:=X.w) rel
 obtain ⟨z,hd,vs0,r0,dd⟩:=Sjm I2.hok e
 cases r0
 refine ⟨rs,c,dd,λh' dd' hs=>⟨.ref s.heap.objs.size,_,?_,rfl,q2⟩⟩
 have hz:(Jlg [] kvs).length<=Sa:=by
  have h1:=Jpd kvs []
  rw [ybt] at h1
  rw [sizeLine_eq];omega
 have he:∃q,h'.get? s.heap.objs.size=some q:=let ⟨q,_,_,hq,_⟩:=dd';⟨q,hq⟩
 exact Ju0 I2 (by rw [e];exact True.intro) hs he (Jz9 hz hd (rk.merge .nil) dd')
section
variable {X:Cx} {pins:List (S5×Obj)} {σ:St} {H:Hp} {s:S7} {a:S5} {y d:V} {u r:S6} {o:Option V} {A:Se} {E:S6->S7->Prop}
end
section
variable {X:Cx} {o e f:Expr} {apos cpos:Pos} {td ty tx:TE}
end
section
variable {X:Cx} {pins:List (S5×Obj)} {σ:St} {H:Hp} {s:S7} {a:S5} {kvs:List (Key×V)} {A:Se} {E:S6->S7->Prop}
end
section
variable {X:Cx} {pins:List (S5×Obj)} {σ:St} {H:Hp} {s:S7} {a:S5} {y:V} {u:S6} {A:Se} {E:S6->S7->Prop}
end
end L2
namespace Att
open PySem PySem.W PySem.Calls PyProof.Rows
theorem Jrb {P:Params} {h:Sg}:∀(ns:List Int) (vs:List S6),WellAll P h vs (ns.map WData.int)->IntsAre vs ns:=by
 intro ns
 induction ns with
 |nil=>
  intro vs w
  rw [List.map_nil] at w
  cases w
  exact .nil
 |cons n ns ih=>
  intro vs w
  rw [yaj] at w
  cases w with
  |cons a b=>
   cases a
   exact .cons _ _ (ih _ b)
theorem Jyn {l:OpenLaw} {n:Nat} (hn:l.most=some n) {P:Params} {h:Sg} {args:List WData} {vals:List S6}
  (hpre:l.row.toRowW.claim.pre args=true) (hwl:WellAll P h vals args):
  ∃a vs ns,vals= [Value.ref a]/\args= [WData.list (ns.map WData.int)]/\h.get? a=some {cls:=.type "list",data:=.seq vs.toArray}/\IntsAre vs ns/\ns.length<=n:=by
 have hsh:WShape.hasAll [] args [.list .int]=true:=(pre_splitW hpre).1
 have hc:l.pre.holds [] {args:=args}=true:=(pre_splitW hpre).2
 obtain ⟨d,r,rfl,h1,h2⟩:=hasAllW_cons hsh
 obtain rfl:=hasAllW_nil h2
 obtain ⟨xs,rfl,h3⟩:=hasW_list h1
 obtain ⟨ns,rfl⟩:=items_int h3
 have hlen:ns.length<=n:=by
  unfold OpenLaw.pre at hc
  have h4:(WTm.not (.lt (.lit (.int (n:Int))) (.len (.arg 0)))).holds [] {args:=[.list (ns.map .int)]}=true:=by
   have h4:=(holds_andW hc).1
   rw [hn] at h4
   exact h4
  have h5:=condW_of h4 (w_not (w_lt w_lit (w_len_list (w_arg rfl))))
  rw [ye] at h5
  refine Nat.le_of_not_lt λq=>?_
  have q':(n:Int) < ((ns.length:Nat):Int):=by omega
  first
   | (rw [decide_eq_true q'] at h5; exact absurd h5 (by decide))
   | (simp at h5; omega)
 cases hwl with
 |cons w1 w2=>
  cases w2
  cases w1 with
  |list ho hall=>exact ⟨_,_,ns,rfl,rfl,ho,Jrb ns _ hall,hlen⟩
theorem Jyk (l:OpenLaw) (args:List WData):l.row.toRowW.claim.post args (.bool true) args=true:=
 postW_of (r:=l.row.toRowW) (X:=(true==true))
  (show WShape.has [] (.bool true) .bool=true by first|rfl|decide|simp [WShape.has,WShape.arms,WShape.armsAll])
  (show (WTm.eq .res (.lit (.bool true))).value [] {args:=args,res:=some (.bool true),after:=args}=some (.bool (true==true)) from w_eq_bool (w_res rfl) w_lit) rfl
theorem attach_call {l:OpenLaw} {n:Nat} {q:Sb} {loose:List Str} {XP:(Str->Option S6)->Sg->Prop} {YP:Sd->Sg->Prop} {d:DefRec}
  (hn:l.most=some n) (hdf:d.params.defaults= [])
  (call:∀(w:Sd) (s₀ s₁:S7) (mg mb:Str->Option S6) (fa:S5) (o:Obj) (pm cd doc:S6) (a:S5) (vs:List S6) (ns:List Int),
   Ground q loose [] XP w s₀ mg mb s₁.heap->YP w s₁.heap->
   s₁.heap.get? fa=some o->o.data= .func (docDef d.name d.params d.body d.scope pm cd doc)->s₁.heap.CodeRec cd d.name->mg d.name=some (.ref fa)->
   s₁.heap.get? a=some {cls:=.type "list",data:=.seq vs.toArray}->IntsAre vs ns->ns.length<=n->s₁.gens= #[]->
   codeAny (model l.prog w) callerA (.call (.ref fa) ⟨[.ref a],[]⟩) (λr s'=>r= .ok (.ret (.bool true))/\OldK s₁.heap s'.heap/\s'.os=s₁.os/\AllBare s'.gens) s₁):
  WalkO q loose XP YP l.row.toRowW d [] (λf vs=>PySem.call f vs):=by
 intro w s₀ s₁ mg mb G Y fa o pm cd doc dV kV ho hd hcd hD hmg hg args vals as hpre hlay hrd hwl hlo
 obtain rfl:dV= .none:=Dflts.none hD hdf
 obtain rfl:kV= .none:=Dflts.noKw hD
 obtain ⟨a,vs,ns,rfl,rfl,hobj,hints,hlen⟩:=Jyn hn hpre hwl
 refine enter_call (codeAny_mono (call w s₀ s₁ mg mb fa o pm cd doc a vs ns G Y ho (fd_plain hd) hcd hmg hobj hints hlen hg) λr s' hq=>?_)
 obtain ⟨rfl,h2,h3,h4⟩:=hq
 exact ⟨.inl ⟨.bool true,.bool true,[],rfl,λ_=>rfl,.bool true,Jyk l _,λ_=>⟨List.Pairwise.nil,λ_ hm=>(nomatch hm)⟩⟩,h2,h3,h4⟩
section
variable {prog:Sb} {w:Sd} {A:Se} {E:S6->S7->Prop} {s:S7} {K:Si}
end
end Att
namespace L2
open PySem PySem.Spec PyProof.Rows
theorem Jts:∀{vs:List S6} {ns:List Int},IntsAre vs ns->Sa2 (ns.map V.int) vs
 |_,_,.nil=>.nil
 |_,_,.cons n t h=>.cons ⟨t,rfl⟩ (Jts h)
abbrev KOf {K:Si} {h:Sg} (_:K.In h):Si:=K
def Jjj (s:Sf) (j:Nat):Sf:=match s with
 | .ClassDef _ _ _ body _ _ _ _ _ _ _=>body.getD j (.Pass ⟨0,0,0,0⟩)
 |_=>.Pass ⟨0,0,0,0⟩
def Jmn (s:Sf):Arguments:=match s with
 | .FunctionDef _ a _ _ _ _ _ _ _ _=>a
 |_=>{posonlyargs:=[],args:=[],vararg:=none,kwonlyargs:=[],kw_defaults:=[],kwarg:=none,defaults:=[]}
def Jli (s:Sf):List Sf:=match s with
 | .FunctionDef _ _ b _ _ _ _ _ _ _=>b
 |_=>[]
def Jje (s:Sf):Scope:=match s with
 | .FunctionDef _ _ _ _ _ _ sc _ _ _=>sc
 |_=>{kind:=.function,names:=[],isGenerator:=false,isCoroutine:=false}
abbrev CX0:CXT:=λ_ _ _ _ _ _=>False
abbrev E0:XK:=λ_ _ _=>False
theorem Js6 {X:Cx}:Jqm CX0 X E0:=λ_ _ _ _ _ _ _ h=>h.elim
structure Fun (K:Si) (x qual:Str) (st:Sf) (f:S5) (fd:Sc):Prop where
 ex:∃(oc:S6) (od:Option S5) (kV doc pm:S6) (an:Option S5) (cdv ct:S6) (osl:Array (Option S6)),
  fd=PySem.W.fnOf x qual (Jmn st) (Jli st) (Jje st) .none kV doc pm an cdv ct/\K.lookup f=some ⟨oc,od,.func fd,osl⟩/\PySem.W.codeIn K cdv qual=true
 kp:PySem.W.keepIn K (.ref f)=true
section
variable {P:Sb} {w:Sd} {K:Si} {mg:Str->Option S6} {base:Sg}
theorem Fun.ok {x qual:Str} {st:Sf} {f:S5} {fd:Sc} {N ps:List Str} {k:Nat} {sp:Sp} (F:Fun K x qual st f fd) (S:Jjh N ps (Jje st)) (len:∀vs H Q E,sp vs H Q E->vs.length=ps.length)
  (hbody:∀(cdv:S6) (A:Se) (outer:List Env) (s:S7) (H:Hp) (vs:List V) (Q:VK) (E:XK),Sao k (A.deeper (envOfC qual (Jje st) s.heap.objs.size f cdv))->sp vs H Q E->
   ∃t,PSs (Jsi CX0 P w K mg base N qual (Jje st) f cdv A outer s H E).nox (Jli st) t/\t {nx:=λ_ H'=>Q .non H',rt:=Q} (start N vs) H):Jjz P w K mg base CX0 (k+1) f fd ps sp:=by
 obtain ⟨oc,od,kV,doc,pm,an,cdv,ct,osl,rfl,lk,hcd⟩:=F.ex
 refine Sjn lk hcd S len λA outer s H vs Q E hr hsp=>?_
 obtain ⟨t,h,q⟩:=hbody cdv A outer s H vs Q E hr hsp
 exact ⟨t,h.nox,q⟩
theorem Fun.binds {x qual:Str} {st:Sf} {f:S5} {fd:Sc} {ps:List Str} (F:Fun K x qual st f fd)
  (h:∀(kV doc pm:S6) (an:Option S5) (cdv ct:S6) (us:List S6),us.length=ps.length->bindArgs (PySem.W.fnOf x qual (Jmn st) (Jli st) (Jje st) .none kV doc pm an cdv ct) ⟨us,[]⟩=pure (ps.zip us)):Sbh K fd ps []:=by
 obtain ⟨oc,od,kV,doc,pm,an,cdv,ct,osl,rfl,lk,hcd⟩:=F.ex
 exact .all (h kV doc pm an cdv ct)
theorem Ju2 {x qual:Str} {st:Sf} {f:S5} {oc:S6} {od an:Option S5} {osl:Array (Option S6)} {kV doc pm cdv ct:S6} (l:K.lookup f=some ⟨oc,od,.func (PySem.W.fnOf x qual (Jmn st) (Jli st) (Jje st) .none kV doc pm an cdv ct),osl⟩)
  (c:PySem.W.codeIn K cdv qual=true) (k:PySem.W.keepIn K (.ref f)=true):Fun K x qual st f (PySem.W.fnOf x qual (Jmn st) (Jli st) (Jje st) .none kV doc pm an cdv ct):=⟨⟨oc,od,kV,doc,pm,an,cdv,ct,osl,rfl,l,c⟩,k⟩
end
section
variable {X:Cx}
theorem pv (i:Nat) {x:Str} {pos:Pos} (hN:X.N[i]?=some x:=by rfl) (hv:Vis X.env.scope x:=by first|exact yf rfl|exact Or.inr (yf rfl)|exact Or.inr (Or.inr rfl)) (hd:(x==("__debug__" :Str))=false:=by decide)
  (hcd:(x==("__classdict__" :Str))=false:=by decide):PE X (.Name x pos) (Smi i):=Y4 hN hv hd hcd
end
theorem Jjw {A B:Prop} (h:B):if false=true then A else B:=by
 rw [if_neg yw]
 exact h
theorem Jkb {A B:Prop} (h:A):if true=true then A else B:=by
 rw [if_pos rfl]
 exact h
theorem Jlx {c A B:Prop} [Decidable c] (h1:c->A) (h2:¬c->B):if c then A else B:=by
 by_cases h:c
 ·rw [if_pos h]
  exact h1 h
 ·rw [if_neg h]
  exact h2 h
def Sn (H H':Hp):Prop:=∀b o,H b=some o->H' b=some o
theorem Sn.refl (H:Hp):Sn H H:=λ_ _ h=>h
theorem Sn.trans {H H1 H2:Hp} (a:Sn H H1) (b:Sn H1 H2):Sn H H2:=λc o h=>b c o (a c o h)
theorem Sn.seq {K:Si} {H H':Hp} {a:S5} {xs:List V} (e:Sn H H') (h:Sx K H a xs):Sx K H' a xs:=by
 rcases h with (h|⟨o,h⟩)|h
 ·exact .inl (.inl (e _ _ h))
 ·exact .inl (.inr ⟨o,e _ _ h⟩)
 ·exact .inr h
section
variable {κ:Type} [DecidableEq κ]
end
end L2
set_option Elab.async false
set_option linter.all false
set_option maxRecDepth 100000
set_option maxHeartbeats 4000000
namespace L2
open PySem PySem.Spec PyProof.Rows
def Jm2 (cells:List (Str×S5)):List (Str×NameKind)->List (Str×S5)->List (Str×S5)
 | [],acc=>acc
 | (n,k) :: r,acc=>if (k == NameKind.free) = true then (match cells.lookup n with | some c=>Jm2 cells r ((n,c) :: acc) | none=>Jm2 cells r acc) else Jm2 cells r acc
theorem Jn3 {cells:List (Str×S5)}:∀(ns:List (Str×NameKind)) (acc:List (Str×S5)),(∀x c,acc.lookup x=some c->cells.lookup x=some c)->∀x c,(Jm2 cells ns acc).lookup x=some c->cells.lookup x=some c
 | [],_,h,x,c,e=>h x c e
 | (n,k) :: r,acc,h,x,c,e=>by
  unfold Jm2 at e
  by_cases hk:(k==NameKind.free)=true
  ·rw [if_pos hk] at e
   cases hc:cells.lookup n with
   |none=>rw [hc] at e;exact Jn3 r acc h x c e
   |some d=>
    rw [hc] at e
    refine Jn3 r ((n,d)::acc) (λy b q=>?_) x c e
    rw [yau] at q
    by_cases hy:(y==n)=true
    ·rw [hy] at q
     have hy':y=n:=beq_iff_eq.mp hy
     rw [hy',hc]
     exact q
    ·have hy':(y==n)=false:=by simpa using hy
     rw [hy'] at q
     exact h y b q
  ·rw [if_neg hk] at e
   exact Jn3 r acc h x c e
theorem Jo0 {cells:List (Str×S5)}:∀(ns:List (Str×NameKind)) (acc:List (Str×S5)) (x:Str),(acc.lookup x).isSome=true->((Jm2 cells ns acc).lookup x).isSome=true
 | [],_,_,h=>h
 | (n,k) :: r,acc,x,h=>by
  unfold Jm2
  by_cases hk:(k==NameKind.free)=true
  ·rw [if_pos hk]
   cases hc:cells.lookup n with
   |none=>exact Jo0 r acc x h
   |some d=>
    refine Jo0 r ((n,d)::acc) x ?_
    rw [yau]
    cases hy:x==n with
    |true=>rfl
    |false=>exact h
  ·rw [if_neg hk]
   exact Jo0 r acc x h
theorem Jmh {cells:List (Str×S5)} {x:Str}:∀(ns:List (Str×NameKind)) (acc:List (Str×S5)),(x,NameKind.free)∈ns->(∃c,cells.lookup x=some c)->((Jm2 cells ns acc).lookup x).isSome=true
 | [],_,h,_=>by simp at h
 | (n,k) :: r,acc,h,hc=>by
  unfold Jm2
  rcases yo.mp h with e|e
  ·cases e
   obtain ⟨c,hc⟩:=hc
   rw [if_pos (by decide),hc]
   exact Jo0 r _ x (by rw [yau,beq_self_eq_true];rfl)
  ·by_cases hk:(k==NameKind.free)=true
   ·rw [if_pos hk]
    cases hd:cells.lookup n with
    |none=>exact Jmh r acc e hc
    |some d=>exact Jmh r _ e hc
   ·rw [if_neg hk]
    exact Jmh r acc e hc
theorem Jpc {sc:Scope} {env:Env} (h:∀y∈sc.names,y.2= .free->∃c,env.cells.lookup y.1=some c):closureFor sc env=pure (Jm2 env.cells sc.names []):=by
 have key:∀(ns:List (Str×NameKind)) (acc:List (Str×S5)),(∀y∈ns,y.2= .free->∃c,env.cells.lookup y.1=some c)->
   (forIn ns acc λ(x:Str×NameKind) (r:List (Str×S5))=>if (x.2==NameKind.free)=true then (cellOf env x.1 >>=λc=>pure (ForInStep.yield ((x.1,c)::r)):Sem _) else pure (ForInStep.yield r))=(pure (Jm2 env.cells ns acc):Sem _):=by
  intro ns
  induction ns with
  |nil=>intro acc _;rfl
  |cons y r ih=>
   intro acc hy
   obtain ⟨n,k⟩:=y
   rw [List.forIn_cons]
   unfold Jm2
   by_cases hk:(k==NameKind.free)=true
   ·have hk':k= .free:=by simpa using hk
    obtain ⟨c,hc⟩:=hy (n,k) ybb hk'
    have hc':env.cells.lookup n=some c:=hc
    simp only [hk,if_true]
    have e1:cellOf env n=pure c:=by unfold cellOf;rw [hc']
    rw [e1,hc']
    exact ih _ λz hz=>hy z (yan _ hz)
   ·simp only [hk,if_false]
    exact ih _ λz hz=>hy z (yan _ hz)
 have k0:=key sc.names [] h
 unfold closureFor
 first
  |exact k0
  | (refine Eq.trans ?_ (congrArg (λm : Sem (List (Str × S5))=>m >>= λr=>pure r) k0); rfl)
def blk (X:Cx) (sc:Scope) (N:List Str) (C:S5) (s:S7) (H:Hp) (fp:List S5) (pn:List (S5×Obj)):Cx:=
 {X with N:=N,s₀:=s,H₀:=H,env:=compEnvC sc (Jm2 X.env.cells sc.names []) C X.env,outer:=X.stack,ex:=fp,fn:=λ_=>false,pn:=pn,xe:=λ_ _=>False}
def Jy4 (ini:List (Option Nat)) (σ:St):St:=ini.map λo=>match o with|none=>none|some j=>(σ[j]?).join
def scB (sc:Scope):Bool:=decide (sc.kind= .function)&&sc.names.all (λy=>decide (y.2≠ .cell))&&sc.names.all (λy=>!decide (y.2= .local)||decide (sc.names.lookup y.1=some .local))
def frB (outer:List (Str×NameKind)) (sc:Scope):Bool:=sc.names.all λy=>!decide (y.2= .free)||(decide (outer.lookup y.1=some .cell)||decide (outer.lookup y.1=some .free))
def Slb (No N:List Str) (ini:List (Option Nat)) (outer:List (Str×NameKind)) (sc:Scope):Bool:=
 (N.zip ini).all λy=>match y.2 with|none=>true|some j=>decide (No[j]?=some y.1)&&decide (sc.names.lookup y.1=some .free)&&(decide (outer.lookup y.1=some .cell)||decide (outer.lookup y.1=some .free))
def PIf (X:Cx) (ifs:List Expr) (t:TT):Prop:=
 ∀(pins:List (S5×Obj)) (s:S7) (σ:St) (H:Hp) (Q:Bool->Hp->Prop),Sw X pins σ H s->t σ H Q->
  Sh (model X.prog X.w) X.A (forIn ifs true λc r=>if r=true then do let ok<-isTrue c X.env (eval c X.env);pure (ForInStep.yield ok) else pure (ForInStep.yield r)) (TP X pins σ Q) X.xe s
def Sj5:TT:=λ_ H Q=>Q true H
theorem Jl3 {X:Cx}:PIf X [] Sj5:=λ_ _ _ H _ I h=>wpAny_tests_nil ⟨H,I,h⟩
theorem Jxo {X:Cx} {c:Expr} {t:TT} (h:PT X c t):PIf X [c] t:=λpins s σ H Q I q=>wpAny_tests_one (h pins s σ H Q I q)
def Ym (wi:TI) (ini:List (Option Nat)) (g:TG) (tt:TT) (te:TE):TE:=λσ H Q=>wi σ H λJ H1=>∀D,H1 D=none->∃W:Nat->Nat->St->Hp->Prop,(∃m,W 0 m (Jy4 ini σ) (upd H1 D (.lst [])))/\
 ∀i m σ' H',W i m σ' H'->(J.stop i H'/\Q (.ref D) H')\/(J.go i H'/\∃N:St->Hp->Prop,(∀σ2 H2,N σ2 H2->∃m',m' < m/\W (i+1) m' σ2 H2)/\
  ∀x H2,J.yld i H' x H2->g x σ' H2 λσ3 H3=>tt σ3 H3 λb H4=>if b=true then te σ3 H4 (λv H5=>∃ys,H5 D=some (.lst ys)/\ys.length < Sa/\N σ3 (upd H5 D (.lst (ys++ [v])))) else N σ3 H4)
section
variable {prog:Sb} {w:Sd} {A:Se} {R:Result->S7->Prop} {s:S7}
theorem Jty {elt target iter:Expr} {ifs:List Expr} {scope:Scope} {pos:Pos} {it acc:S6} {env:Env} (I:Nat->S7->Prop)
  (turn:∀n s,I n s->Sh (model prog w) A (pyNext it) (λr s1=>match r with
   |none=>R (.ok .next) s1
   |some v=>Sh (model prog w) A (letOwnedTupleGo target it v) (λ_ s1'=>Sh (model prog w) A (assign target env v) (λ_ s2=>
     Sh (model prog w) A (forIn ifs true λc r=>if r=true then do let ok<-isTrue c env (eval c env);pure (ForInStep.yield ok) else pure (ForInStep.yield r)) (λok s3=>
      if ok=true then Sh (model prog w) A (eval elt env) (λx s4=>
       Sh (model prog w) A (call (.builtin "list.append") [acc,x]) (λ_ s5=>∃m,m < n/\I m s5) (λ_ _=>False) s4) (λ_ _=>False) s3
      else ∃m,m < n/\I m s3) (λ_ _=>False) s2) (λ_ _=>False) s1') (λ_ _=>False) s1) (λ_ _=>False) s)
  (n:Nat) (h:I n s):codeAny (model prog w) A (.compLoop (.ListComp elt [⟨target,iter,ifs,0⟩] scope pos) 0 it acc env) R s:=by
 refine codeAny_loop rfl I (λn s hI=>?_) n h
 show Sh _ A ((compTurn (.ListComp elt [⟨target,iter,ifs,0⟩] scope pos) 0 it acc env).onRaise (λx=>do noteFrame x env;theTreesLotGoes x)) _ _ s
 refine wpAny_noted (wpAny_noRaise ?_)
 rw [compTurn_list]
 refine S8 (wpAny_standAt (S8 (wpAny_mono (turn n s hI) (λr s1 h1=>?_) λ_ _ h'=>h')))
 cases r with
 |none=>exact S9 h1
 |some v=>
  refine S8 (wpAny_mono h1 (λ_ s1' h1'=>?_) λ_ _ h'=>h')
  refine S8 (wpAny_mono h1' (λ_ s2 h2=>S8 (wpAny_mono h2 (λok s3 h3=>?_) λ_ _ h'=>h')) λ_ _ h'=>h')
  cases ok with
  |false=>exact S9 ⟨rfl,h3⟩
  |true=>
   exact S8 (S8 (wpAny_mono h3 (λx s4 h4=>S8 (wpAny_mono h4 (λ_ s5 h5=>S9 (S9 ⟨rfl,h5⟩)) λ_ _ h'=>h')) λ_ _ h'=>h'))
end
section
variable {X:Cx} {pins:List (S5×Obj)} {σ:St} {H:Hp} {s:S7}
theorem Sl3 {sc:Scope} {N:List Str} {C:S5} {fp:List S5} {pn:List (S5×Obj)} (I:Sw X pins σ H s) (hk:sc.kind= .function) (hcell:∀y∈sc.names,y.2≠ .cell)
  (hfr:∀y∈sc.names,y.2= .free->X.env.kindOf y.1=some .cell\/X.env.kindOf y.1=some .free) (hC:C=s.heap.objs.size) (hf:∀b∈fp,Jql X pins H b/\b < s.heap.objs.size):(blk X sc N C s H fp pn).Ok:=by
 have hin:∀x c,(Jm2 X.env.cells sc.names []).lookup x=some c->X.env.cells.lookup x=some c:=Jn3 sc.names [] (λx c e=>by simp at e)
 refine ⟨I.ok.mod,hk,I.ok.glob,I.ok.blt,Nat.le_of_eq hC.symm,λx y c h1 h2=>I.ok.inj x y c (hin _ _ h1) (hin _ _ h2),λx hx=>?_,λx c h _=>(by cases h),I.ok.hd,I.ok.frames,.inl rfl,λb hb=>?_,I.bs,yv I.ok.bsz I.sz,λb o e hb=>?_,λb hb z=>?_,I.stack,I.stkFree⟩
 ·have hx':(relabel sc X.env).names.lookup x=some .cell\/(relabel sc X.env).names.lookup x=some .free:=hx
  have hm:(x,NameKind.free)∈sc.names:=by
   have:∀k,(relabel sc X.env).names.lookup x=some k->(k= .cell\/k= .free)->(x,NameKind.free)∈sc.names:=λk e hkk=>by
    have m:=PySem.mem_of_lookup e
    obtain ⟨⟨n',k'⟩,m1,m2⟩:=yal.mp m
    dsimp only at m2
    by_cases hc:(k'==NameKind.free&&X.env.scope.kind== .function&&X.env.kindOf n'==some .cell)=true
    ·rw [if_pos hc] at m2
     have e1:n'=x:=congrArg Prod.fst m2
     have e2:k'=NameKind.free:=by simp at hc;exact hc.1.1
     rw [<-e1,<-e2]
     exact m1
    ·rw [if_neg hc] at m2
     have e1:n'=x:=congrArg Prod.fst m2
     have e2:k'=k:=congrArg Prod.snd m2
     rcases hkk with z|z
     ·exact absurd (e2.trans z) (hcell _ m1)
     ·rw [<-e1,<-z,<-e2];exact m1
   rcases hx' with e|e
   ·exact this _ e (.inl rfl)
   ·exact this _ e (.inr rfl)
  have hh:=Jmh (cells:=X.env.cells) sc.names [] hm (I.ok.has x (hfr _ hm rfl))
  exact ybp.mp hh
 ·obtain ⟨⟨f0,f1,f2,f3,f4,f5⟩,lt⟩:=hf b hb
  exact ⟨λz=>yu lt (z.trans hC),λx c e=>f4 x c (hin _ _ e)⟩
 ·obtain ⟨⟨f0,f1,f2,f3,f4,f5⟩,lt⟩:=hf b hb
  rcases f3 with z|z
  ·exact I.ok.noex b o e z
  ·exact absurd (yai (yj (I.ok.bs b o e).1) z) (yba _)
 ·obtain ⟨⟨f0,f1,f2,f3,f4,f5⟩,lt⟩:=hf b hb
  rcases yo.mp (I.stkSub b z) with e|e
  ·exact f1 e
  ·exact f2 e
theorem Ya2 {sc:Scope} {N:List Str} {ini:List (Option Nat)} {fp:List S5} {h1:Sg} {t':Nat} (I:Sw X pins σ H s) (hk:sc.kind= .function) (hcell:∀y∈sc.names,y.2≠ .cell)
  (hfr:∀y∈sc.names,y.2= .free->X.env.kindOf y.1=some .cell\/X.env.kindOf y.1=some .free) (hf:∀b∈fp,Jql X pins H b/\b < s.heap.objs.size) (hlen:N.length=ini.length)
  (hini:∀(i:Nat) (x:Str) (j:Nat),N[i]?=some x->ini[i]?=some (some j)->X.N[j]?=some x/\sc.names.lookup x=some .free/\(X.env.kindOf x=some .cell\/X.env.kindOf x=some .free))
  (hn:h1.Ns s.heap.objs.size (λ_=>none)) (kp:∀b o,s.heap.get? b=some o->h1.get? b=some o):
  Sw (blk X sc N s.heap.objs.size s H fp (X.pn++pins)) [] (Jy4 ini σ) H {s with heap:=h1,toks:=t'}:=by
 have hin:∀x c,(Jm2 X.env.cells sc.names []).lookup x=some c->X.env.cells.lookup x=some c:=Jn3 sc.names [] (λx c e=>by simp at e)
 refine ⟨Sl3 I hk hcell hfr rfl hf,rfl,I.bare,Un.kept kp,⟨_,hn,λi x v e1 e2 e3=>?_⟩,λx c e=>?_,I.hok.fresh (yg _),λx c e=>(I.freeC x c (hin _ _ e)).imp id λz=>⟨rfl,z.2⟩,λp hp=>?_,I.hok.kept kp,?_⟩
 ·have e1':N[i]?=some x:=e1
  have e2':(Jy4 ini σ)[i]?=some (some v):=e2
  unfold Jy4 at e2'
  rw [yn] at e2'
  cases hi:ini[i]? with
  |none=>rw [hi] at e2';cases e2'
  |some o=>
   rw [hi] at e2'
   cases o with
   |none=>cases e2'
   |some j=>
    have e4:(σ[j]?).join=some v:=yt.inj e2'
    have e5:σ[j]?=some (some v):=by
     cases q:σ[j]? with
     |none=>rw [q] at e4;cases e4
     |some z=>rw [q] at e4;exact congrArg some e4
    obtain ⟨a1,a2,a3⟩:=hini i x j e1' hi
    obtain ⟨m,hm,hl⟩:=I.loc
    have hvis:Vis X.env.scope x:=by
     rcases a3 with z|z
     ·exact .inr (.inl z)
     ·exact .inr (.inr z)
    obtain ⟨u,r,l⟩:=hl j x v a1 e5 hvis
    refine ⟨u,r,.inr ⟨?_,?_⟩⟩
    ·have hm2:=PySem.mem_of_lookup a2
     have e3':Vis (relabel sc X.env) x:=e3
     rcases e3' with z|z|z
     ·exfalso
      have m1:=PySem.mem_of_lookup z
      obtain ⟨⟨n',k'⟩,m2,m3⟩:=yal.mp m1
      dsimp only at m3
      have key:∀{ns:List (Str×NameKind)},ns.lookup x=some .free->(ns.map λ(n,k)=>if (k==NameKind.free&&X.env.scope.kind== .function&&X.env.kindOf n==some .cell) then (n,NameKind.cell) else (n,k)).lookup x≠some .local:=by
       intro ns
       induction ns with
       |nil=>intro q;simp at q
       |cons y r ih=>
        obtain ⟨n,k⟩:=y
        intro q
        rw [yau] at q
        rw [yaj]
        dsimp only
        cases hx:x==n with
        |true=>
         rw [hx] at q
         have q':k= .free:=yt.inj q
         subst q'
         split
         ·rw [yau,hx];intro z;cases z
         ·rw [yau,hx];intro z;cases z
        |false=>
         rw [hx] at q
         split
         ·rw [yau,hx];exact ih q
         ·rw [yau,hx];exact ih q
      exact key a2 z
     ·exact .inl z
     ·exact .inr z
    ·rcases l with ⟨k1,_⟩|⟨_,c,hc,hcl⟩
     ·exfalso
      rcases a3 with z|z
      ·rw [z] at k1;cases k1
      ·rw [z] at k1;cases k1
     ·have hh:=Jmh (cells:=X.env.cells) sc.names [] (PySem.mem_of_lookup a2) ⟨c,hc⟩
      obtain ⟨c',hc'⟩:=ybp.mp hh
      have:c'=c:=by
       have q:=hin _ _ hc'
       rw [hc] at q
       exact (yt.inj q).symm
      subst this
      obtain ⟨oc,hoc,hod⟩:=hcl
      exact ⟨c',hc',oc,kp _ _ hoc,hod⟩
 ·obtain ⟨v,oc,hoc,hod⟩:=I.cell x c (hin _ _ e)
  exact ⟨v,oc,kp _ _ hoc,hod⟩
 ·have hp':p∈X.pn++pins:=by simpa [blk] using hp
  obtain ⟨e,n,ne,nf,d⟩:=I.pin p hp'
  refine ⟨kp _ _ e,n,yu (yj e),λz=>?_,d⟩
  rcases yo.mp (I.stkSub p.1 z) with q|q
  ·exact ne q
  ·exact nf q
 ·unfold Jy4
  show (ini.map _).length=N.length
  rw [ye]
  exact hlen.symm
end
section
variable {X:Cx} {elt iter tg:Expr} {ifs:List Expr} {sc:Scope} {pos:Pos} {N:List Str} {ini:List (Option Nat)} {wi:TI} {g:TG} {tt:TT} {te:TE}
theorem Jtb {pins:List (S5×Obj)} {σ:St} {H:Hp} {s:S7} {Q:VK} {use:Option (S6->Sem Unit)} {Q':S6->S7->Prop} {p:Pos} (hc:X.calm=true) (hi:PI X tg iter wi)
  (hsc:scB sc=true) (hfr:frB X.env.scope.names sc=true) (hlen:N.length=ini.length) (hini:Slb X.N N ini X.env.scope.names sc=true)
  (hg:∀C s H fp pn,PG (blk X sc N C s H fp pn) tg g) (ht:∀C s H fp pn,PIf (blk X sc N C s H fp pn) ifs tt) (he:∀C s H fp pn,PE (blk X sc N C s H fp pn) elt te)
  (hs:∀x,foldedSetIterable iter X.env x=pure x) (I:Sw X pins σ H s) (h:Ym wi ini g tt te σ H Q)
  (hfin:∀(D:S5) (H':Hp) (s':S7) (C:S5) (m:Str->Option S6),Sw X pins σ H' s'->Jql X pins H' C->s'.heap.Ns C m->Q (.ref D) H'->compPost (model X.prog X.w) X.A X.xe use Q' (.ref D) C (.ok .next) s'):
  Sh (model X.prog X.w) X.A (comprehension (.ListComp elt [⟨tg,iter,ifs,0⟩] sc pos) sc X.env p (newList []) false (eval iter X.env) use) Q' X.xe s:=by
 have hsc':=hsc
 unfold scB at hsc'
 rw [yac,yac] at hsc'
 obtain ⟨⟨hk0,hcell0⟩,hnames0⟩:=hsc'
 have hk:sc.kind= .function:=of_decide_eq_true hk0
 have hcell:∀y∈sc.names,y.2≠ .cell:=λy hy=>of_decide_eq_true (yah.mp hcell0 y hy)
 have hnames:∀y∈sc.names,y.2= .local->sc.names.lookup y.1=some .local:=λy hy hl=>by
  have q:=yah.mp hnames0 y hy
  rw [decide_eq_true hl] at q
  exact of_decide_eq_true (by simpa using q)
 have hfrP:∀y∈sc.names,y.2= .free->X.env.kindOf y.1=some .cell\/X.env.kindOf y.1=some .free:=λy hy hl=>by
  have q:=yah.mp hfr y hy
  rw [decide_eq_true hl] at q
  have q2:decide (X.env.scope.names.lookup y.1=some .cell)=true\/decide (X.env.scope.names.lookup y.1=some .free)=true:=by simpa using q
  rcases q2 with z|z
  ·exact .inl (of_decide_eq_true z)
  ·exact .inr (of_decide_eq_true z)
 have hiniP:∀(i:Nat) (x:Str) (j:Nat),N[i]?=some x->ini[i]?=some (some j)->X.N[j]?=some x/\sc.names.lookup x=some .free/\(X.env.kindOf x=some .cell\/X.env.kindOf x=some .free):=λi x j e1 e2=>by
  have hm:(x,some j)∈N.zip ini:=by
   refine yab (i:=i) ?_
   rw [yce]
   exact ⟨e1,e2⟩
  have q:=yah.mp hini _ hm
  dsimp only at q
  rw [yac,yac,Bool.or_eq_true] at q
  obtain ⟨⟨q1,q2⟩,q3⟩:=q
  refine ⟨of_decide_eq_true q1,of_decide_eq_true q2,?_⟩
  rcases q3 with z|z
  ·exact .inl (of_decide_eq_true z)
  ·exact .inr (of_decide_eq_true z)
 refine wpAny_comprehension_free (use:=use) rfl hs (Jpc λy hy hl=>I.ok.has y.1 (hfrP y hy hl)) hk hnames ?_
 refine thn (hi pins s σ H _ I h) λv s1 h1=>thn h1 λitv s2 h2=>?_
 obtain ⟨it,fp,tn,J,H2,e,I2,T,st2,f2,step⟩:=h2
 subst e
 refine wpAny_newObj_type (wpAny_newFunctionEnv hcell (by intro y hy;simp at hy) (λh1 hns1 hsb1=>?_) hk)
 dsimp only at hns1 hsb1⊢
 have hD:H2 s2.heap.objs.size=none:=I2.hok.fresh (yg _)
 have kp3:∀b o,s2.heap.get? b=some o->(s2.heap.push {cls:=.type "list",dict:=none,data:=.seq ([]:List S6).toArray}).get? b=some o:=λb o e=>ym _ e
 have I3:Sw X pins σ (upd H2 s2.heap.objs.size (.lst [])) {s2 with heap:=s2.heap.push {cls:=.type "list",dict:=none,data:=.seq ([]:List S6).toArray}}:=
  I2.laid (t':=s2.toks) kp3 (yg _) ⟨yak _,[],0,.nil,yag _ rfl⟩
 obtain ⟨W,⟨m0,w0⟩,turn⟩:=step s2.heap.objs.size hD
 generalize hs3:({s2 with heap:=s2.heap.push {cls:=.type "list",dict:=none,data:=.seq ([]:List S6).toArray}}:S7)=s3 at I3
 have e3h:s3.heap=s2.heap.push {cls:=.type "list",dict:=none,data:=.seq ([]:List S6).toArray}:=by rw [<-hs3]
 rw [<-e3h] at hns1 hsb1 kp3⊢
 have sz3:s2.heap.objs.size < s3.heap.objs.size:=by rw [e3h,yaz];exact ybz _
 have hf3:∀b∈fp,Jql X pins (upd H2 s2.heap.objs.size (.lst [])) b/\b < s3.heap.objs.size:=λb hb=>by
  obtain ⟨o,eo,_⟩:=T.obj 0 _ st2 b hb
  have lt:=yj eo
  obtain ⟨f0,fr⟩:=f2 b hb
  exact ⟨⟨by rw [Jjc (yu lt)];exact f0,fr⟩,Nat.lt_trans lt sz3⟩
 have kp4:∀b o,s3.heap.get? b=some o->h1.get? b=some o:=λb o e=>(hsb1.2 b (yu (yj e))).trans (ym _ e)
 have I4:Sw (blk X sc N s3.heap.objs.size s3 (upd H2 s2.heap.objs.size (.lst [])) fp (X.pn++pins)) [] (Jy4 ini σ) (upd H2 s2.heap.objs.size (.lst [])) {s3 with heap:=h1,toks:=s3.toks+([]:List (Str×S6)).length}:=
  Ya2 I3 hk hcell hfrP hf3 hlen hiniP hns1 kp4
 have st4:tn 0 h1:=T.keep 0 _ _ st2 λb hb o e=>kp4 b o (kp3 b o e)
 have e4s:({s2 with heap:=h1,toks:=s2.toks+([]:List (Str×S6)).length}:S7)={s3 with heap:=h1,toks:=s3.toks+([]:List (Str×S6)).length}:=by rw [<-hs3]
 have stat:∀{H':Hp},(∀b∈fp,H' b=none)->∀b∈fp,Jql (blk X sc N s3.heap.objs.size s3 (upd H2 s2.heap.objs.size (.lst [])) fp (X.pn++pins)) [] H' b:=λ{H'} hn b hb=>by
  obtain ⟨⟨f0,f1,f2',f3,f4,f5⟩,lt⟩:=hf3 b hb
  refine ⟨hn b hb,yu lt,λz=>?_,.inl hb,λx c e=>f4 x c (Jn3 sc.names [] (λx c e=>by simp at e) x c e),λp hp=>f5 p (by simpa [blk] using hp)⟩
  rcases yo.mp (I3.stkSub b z) with q|q
  ·exact f1 q
  ·exact f2' q
 have loop:∀s4:S7,s4={s3 with heap:=h1,toks:=s3.toks+([]:List (Str×S6)).length}->codeAny (model X.prog X.w) X.A (.compLoop (.ListComp elt [⟨tg,iter,ifs,0⟩] sc pos) 0 (.ref it) (.ref s2.heap.objs.size) (compEnvC sc (Jm2 X.env.cells sc.names []) s3.heap.objs.size X.env))
   (compPost (model X.prog X.w) X.A X.xe use Q' (.ref s2.heap.objs.size) s3.heap.objs.size) s4:=by
  rintro s4 rfl
  refine Jty (λn s'=>∃i σ' H',Sw (blk X sc N s3.heap.objs.size s3 (upd H2 s2.heap.objs.size (.lst [])) fp (X.pn++pins)) [] σ' H' s'/\tn i s'.heap/\(∀b∈fp,H' b=none)/\W i n σ' H') ?_ m0
   ⟨0,_,_,I4,st4,λb hb=>(hf3 b hb).1.1,w0⟩
  rintro n s5 ⟨i,σ5,H5,I5,st5,fr5,w5⟩
  rcases turn i n σ5 H5 w5 with ⟨stop,q⟩|⟨go,N',hN',step'⟩
  ·refine thn (T.done (blk X sc N s3.heap.objs.size s3 (upd H2 s2.heap.objs.size (.lst [])) fp (X.pn++pins)) rfl rfl rfl hc i [] s5 σ5 H5 _ I5 (stat fr5) st5 stop) λr s6 ⟨hr,I6⟩=>?_
   subst hr
   have un:Un (frs X.stack) fp H2 H5 s2.heap s6.heap:=(Un.laid (fs:=frs X.stack) (ex:=fp) kp3 (yg _) hD).trans I6.base
   have os6:s6.os=s2.os:=I6.os.trans (show s3.os=s2.os by rw [<-hs3])
   have IX:Sw X pins σ H5 s6:=I2.call' (ch:=fp) os6 un I6.hok I6.bare λb hb=>by
    obtain ⟨⟨f0,f1,f2',f3,f4,f5⟩,lt⟩:=hf3 b hb
    exact ⟨f3,f1,f4,f5⟩
   obtain ⟨m,hm,_⟩:=I6.loc
   exact hfin _ H5 s6 s3.heap.objs.size m IX (I2.fpOk (ybd sz3) I6.free) hm q
  ·refine thn (T.item (blk X sc N s3.heap.objs.size s3 (upd H2 s2.heap.objs.size (.lst [])) fp (X.pn++pins)) rfl rfl rfl hc i [] s5 σ5 H5 _ I5 (stat fr5) st5 go) λr s6 ⟨u,hr,h6⟩=>?_
   subst hr
   refine thn h6 λ_ s7 zq=>?_
   obtain ⟨x,H7,I7,r7,y7,st7,fr7⟩:=zq
   have I7':=I7.pinned (stat fr7) (T.obj _ _ st7)
   refine thn (hg _ _ _ _ _ _ s7 σ5 H7 x u _ I7' r7 (step' x H7 y7)) λ_ s8 zq=>?_
   obtain ⟨σ8,H8,I8,q8⟩:=zq
   refine thn (ht _ _ _ _ _ _ s8 σ8 H8 _ I8 q8) λok s9 zq=>?_
   obtain ⟨H9,I9,q9⟩:=zq
   have again:∀{σ':St} {H':Hp} {s':S7},Sw (blk X sc N s3.heap.objs.size s3 (upd H2 s2.heap.objs.size (.lst [])) fp (X.pn++pins)) ([]++Js9 fp s7.heap) σ' H' s'->N' σ' H'->
     ∃m,m < n/\∃i σ' H',Sw (blk X sc N s3.heap.objs.size s3 (upd H2 s2.heap.objs.size (.lst [])) fp (X.pn++pins)) [] σ' H' s'/\tn i s'.heap/\(∀b∈fp,H' b=none)/\W i m σ' H':=λ{σ' H' s'} J n'=>by
    obtain ⟨m',hm,w'⟩:=hN' σ' H' n'
    refine ⟨m',hm,i+1,σ',H',J.unpinned,T.keep _ _ _ st7 λb hb o e=>(J.pin (b,o) (yax _ (yax _ (Jo3 hb e)))).1,λb hb=>?_,w'⟩
    obtain ⟨o,e,d⟩:=T.obj _ _ st7 b hb
    exact (J.pin (b,o) (yax _ (yax _ (Jo3 hb e)))).2.1
   cases ok with
   |false=>
    rw [if_neg yw] at q9⊢
    exact again I9 q9
   |true=>
    rw [if_pos rfl] at q9⊢
    refine thn (he _ _ _ _ _ _ s9 σ8 H9 _ I9 q9) λv10 s10 zq=>?_
    obtain ⟨x10,H10,I10,r10,ys,hys,hyl,q10⟩:=zq
    refine thn (Jkw _ s10 σ8 H10 (.ref s2.heap.objs.size) [x10] _ [v10] (λ_ H'=>N' σ8 H') I10 rfl (.cons r10 .nil) ⟨_,ys,x10,rfl,rfl,hys,hyl,q10⟩) λ_ s11 zq=>?_
    obtain ⟨_,H11,I11,_,q11⟩:=zq
    exact again I11 q11
 have fin:=codeAny_compStart_list (R:=compPost (model X.prog X.w) X.A X.xe use Q' (.ref s2.heap.objs.size) s3.heap.objs.size) (loop _ rfl) (T.self X.A 0 {s3 with heap:=h1,toks:=s3.toks+([]:List (Str×S6)).length} _ _ st4 (loop _ rfl))
 rw [<-e4s] at fin
 exact fin
theorem Jkz (hc:X.calm=true) (hi:PI X tg iter wi) (hg:∀C s H fp pn,PG (blk X sc N C s H fp pn) tg g) (ht:∀C s H fp pn,PIf (blk X sc N C s H fp pn) ifs tt) (he:∀C s H fp pn,PE (blk X sc N C s H fp pn) elt te)
  (hsc:scB sc=true:=by rfl) (hfr:frB X.env.scope.names sc=true:=by rfl) (hlen:N.length=ini.length:=by rfl) (hini:Slb X.N N ini X.env.scope.names sc=true:=by rfl)
  (hs:∀x,foldedSetIterable iter X.env x=pure x:=by intro _;rfl):PE X (.ListComp elt [⟨tg,iter,ifs,0⟩] sc pos) (Ym wi ini g tt te):=by
 intro pins s σ H Q I h
 rw [eval_ListComp]
 refine Jtb (use:=none) hc hi hsc hfr hlen hini hg ht he hs I h λD H' s' C m I' f hn q=>?_
 obtain ⟨f0,f1,f2,f3,f4,f5⟩:=f
 exact ⟨m,hn,λh' sb=>⟨.ref D,H',I'.turned (it:=C) (t':=s'.toks) (λb o hb e=>(sb.2 b hb).trans e) f0 f1 f3 f4 f5,rfl,q⟩⟩
def Spt (i:Nat) (te:TE):TS:=λD σ H=>te σ H λv H1=>D.nx (σ.set i (some v)) H1
theorem Yaq {i:Nat} {y:Str} {py spos:Pos} (hN:X.N.Nodup) (hiy:X.N[i]?=some y) (hx:Loc X.env.scope y) (hc:X.calm=true) (hi:PI X tg iter wi) (hg:∀C s H fp pn,PG (blk X sc N C s H fp pn) tg g) (ht:∀C s H fp pn,PIf (blk X sc N C s H fp pn) ifs tt) (he:∀C s H fp pn,PE (blk X sc N C s H fp pn) elt te)
  (hf:X.fn y=true\/X.env.scope.names.lookup y=some .local:=by first|exact .inl rfl|exact .inr rfl|assumption)
  (hsw:swapsWith (.ListComp elt [⟨tg,iter,ifs,0⟩] sc pos) (some (.Name y py)) spos.line X.env=pure true:=by rfl)
  (hsc:scB sc=true:=by rfl) (hfr:frB X.env.scope.names sc=true:=by rfl) (hlen:N.length=ini.length:=by rfl) (hini:Slb X.N N ini X.env.scope.names sc=true:=by rfl)
  (hs:∀x,foldedSetIterable iter X.env x=pure x:=by intro _;rfl):PS X (.Assign [.Name y py] (.ListComp elt [⟨tg,iter,ifs,0⟩] sc pos) spos) (Spt i (Ym wi ini g tt te)):=by
 intro pins s σ H D I h
 rw [exec_Assign_Name_used _ _ _ _ hsw]
 refine S8 (wpAny_standAt (S8 ?_))
 show Sh _ X.A (do let _<-comprehension (.ListComp elt [⟨tg,iter,ifs,0⟩] sc pos) sc X.env _ (newList []) false (eval iter X.env) (some (assign (.Name y py) X.env))) _ _ s
 refine S8 (wpAny_mono (Jtb (use:=some (assign (.Name y py) X.env)) (Q':=λ_ s'=>SP X pins D .next s') hc hi hsc hfr hlen hini hg ht he hs I h λD' H' s' C m I' f hn q=>?_) (λ_ s' hq=>S9 (S9 hq)) λ_ _ e=>e)
 obtain ⟨f0,f1,f2,f3,f4,f5⟩:=f
 show Sh _ X.A (assign (.Name y py) X.env (.ref D')) _ _ _
 refine wpAny_assign_Name (Jtp I' hN hiy hx (v:=.ref D') rfl (λs'' I'' sb=>?_) hf)
 obtain ⟨a,sb,ha⟩:=sb
 have hCa:C≠a:=by
  rcases ha with z|z
  ·rw [z];exact f1
  ·exact λe=>f4 y a z e.symm
 refine ⟨m,hn.sameBut sb hCa,λh' sb'=>⟨_,H',I''.turned (it:=C) (t':=s''.toks) (λb o hb e=>(sb'.2 b hb).trans e) f0 f1 f3 f4 f5,q⟩⟩
end
section
variable {g:TG} {tt:TT} {te:TE} {H:Hp} {D:S5} {σ:St} {R:Hp->Prop}
theorem Jw0 {lo:Int} {n:Nat} (Pv:Nat->St->Hp->Prop) (h0:Pv 0 σ H)
  (hs:∀i σ H,i < n->Pv i σ H->g (.int (lo+i)) σ H λσ3 H3=>tt σ3 H3 λb H4=>if b=true then te σ3 H4 (λv H5=>∃ys,H5 D=some (.lst ys)/\ys.length < Sa/\Pv (i+1) σ3 (upd H5 D (.lst (ys++ [v])))) else Pv (i+1) σ3 H4)
  (hd:∀σ H,Pv n σ H->R H):
  ∃W:Nat->Nat->St->Hp->Prop,(∃m,W 0 m σ H)/\∀i m σ' H',W i m σ' H'->((Itr lo n).stop i H'/\R H')\/((Itr lo n).go i H'/\∃N:St->Hp->Prop,(∀σ2 H2,N σ2 H2->∃m',m' < m/\W (i+1) m' σ2 H2)/\
   ∀x H2,(Itr lo n).yld i H' x H2->g x σ' H2 λσ3 H3=>tt σ3 H3 λb H4=>if b=true then te σ3 H4 (λv H5=>∃ys,H5 D=some (.lst ys)/\ys.length < Sa/\N σ3 (upd H5 D (.lst (ys++ [v])))) else N σ3 H4):=by
 refine ⟨λi m σ H=>m=n - i/\i<=n/\Pv i σ H,⟨n,by simp,yak _,h0⟩,?_⟩
 rintro i m σ H ⟨rfl,hi,p⟩
 by_cases hlt:i < n
 ·refine .inr ⟨hlt,Pv (i+1),λσ' H' p'=>⟨n - (i+1),by omega,rfl,hlt,p'⟩,λx H' y=>?_⟩
  obtain ⟨e,y⟩:=y
  subst e y
  exact hs i σ _ hlt p
 ·have e:i=n:=by omega
  subst e
  exact .inl ⟨yg _,hd σ H p⟩
theorem Jmi {K:Si} {a:S5} {xs:List V} (Pv:Nat->St->Hp->Prop) (h0:Pv 0 σ H) (hl:∀i σ H,i<=xs.length->Pv i σ H->Sx K H a xs)
  (hs:∀i x σ H,xs[i]?=some x->Pv i σ H->g x σ H λσ3 H3=>tt σ3 H3 λb H4=>if b=true then te σ3 H4 (λv H5=>∃ys,H5 D=some (.lst ys)/\ys.length < Sa/\Pv (i+1) σ3 (upd H5 D (.lst (ys++ [v])))) else Pv (i+1) σ3 H4)
  (hd:∀σ H,Pv xs.length σ H->R H):
  ∃W:Nat->Nat->St->Hp->Prop,(∃m,W 0 m σ H)/\∀i m σ' H',W i m σ' H'->((Itl K a).stop i H'/\R H')\/((Itl K a).go i H'/\∃N:St->Hp->Prop,(∀σ2 H2,N σ2 H2->∃m',m' < m/\W (i+1) m' σ2 H2)/\
   ∀x H2,(Itl K a).yld i H' x H2->g x σ' H2 λσ3 H3=>tt σ3 H3 λb H4=>if b=true then te σ3 H4 (λv H5=>∃ys,H5 D=some (.lst ys)/\ys.length < Sa/\N σ3 (upd H5 D (.lst (ys++ [v])))) else N σ3 H4):=by
 refine ⟨λi m σ H=>m=xs.length - i/\i<=xs.length/\Pv i σ H,⟨xs.length,by simp,yak _,h0⟩,?_⟩
 rintro i m σ H ⟨rfl,hi,p⟩
 have q:=hl i σ H hi p
 by_cases hlt:i < xs.length
 ·refine .inr ⟨⟨xs,xs[i],q,by simp [hlt]⟩,Pv (i+1),λσ' H' p'=>⟨xs.length - (i+1),by omega,rfl,hlt,p'⟩,λx H' y=>?_⟩
  obtain ⟨e,y⟩:=y
  subst e
  exact hs i x σ _ (y xs q) p
 ·have e:i=xs.length:=by omega
  subst e
  exact .inl ⟨⟨xs,q,yg _⟩,hd σ H p⟩
end
theorem Jly {i:Nat} {v:V} {σ:St} {H:Hp} {A B:St->Hp->Prop} (h:A (σ.set i (some v)) H):Jnf i v σ H λσ3 H3=>Sj5 σ3 H3 λb H4=>if b=true then A σ3 H4 else B σ3 H4:=by
 show if true=true then A (σ.set i (some v)) H else B (σ.set i (some v)) H
 rw [if_pos rfl]
 exact h
def sgn (c:Nat):V:=.str ⟨#[c]⟩
def Its (z:Str):It:=⟨λi _=>i < z.cps.size,λi H x H'=>H'=H/\∃c,z.cps[i]?=some c/\x=sgn c,λi _=>z.cps.size=i⟩
def Su6 (tl:TE):TI:=λσ H R=>tl σ H λx H1=>∃z,x= .str z/\R (Its z) H1
theorem Jvs {P:Sb} {w:Sd} {K:Si} {tg:Expr} {z:Str} {it:S5} {n:String} {fl:Nat->Array S6} {St:Nat->Sg->Prop}
  (Wk:∀A':Se,A'.handled=none->Walks P w A' it [it] [it] z.cps.size (SignAt z) St) (hst:∀i h,St i h->∃o,h.get? it=some o/\o.cls= .type n/\∃a,o.data= .fields a)
  (hn: ["enumerate","zip","dict_itemiterator","dict_reverseitemiterator","odict_iterator","itertools.zip_longest","itertools.pairwise"].contains n=false)
  (hself:∀(A:Se) (i:Nat) (s:S7) (Q:S6->S7->Prop) (E:S6->S7->Prop),St i s.heap->Q (.ref it) s->Sh (model P w) A (pyIter (.ref it)) Q E s):Jv1 P w K tg (Its z) [it] it St where
 mem:=by simp
 obj:=λi h st b hb=>by
  have e:b=it:=by simpa using hb
  subst e
  obtain ⟨o,e,_,a,d⟩:=hst i h st
  exact ⟨o,e,λv z=>by rw [d] at z;cases z⟩
 keep:=λi h h' st k=>by
  have W0:=Wk callerA rfl
  exact W0.frame i h h' st λb hb o e=>k b hb o e
 item:=by
  intro X hP hw hK hc i pins s σ H E I hf st hg
  subst hP hw hK
  obtain ⟨f0,f1,f2,f3,f4,f5⟩:=hf it (by simp)
  have W:=Wk X.A (I.ok.hd hc)
  refine W.item i s _ _ hg st λv h' tk hv st' kk=>?_
  obtain ⟨c,u,hcp,rfl⟩:=hv
  have I1:Sw X pins σ H {s with heap:=h',toks:=tk}:=I.turned (λb o hb e=>kk b o (by simpa using hb) e) f0 f1 f3 f4 f5
  obtain ⟨o,e,cl,a,d⟩:=hst _ _ st'
  exact ⟨_,rfl,Jxa (s:={s with heap:=h',toks:=tk}) e cl d hn ⟨sgn c,H,I1,⟨u,rfl⟩,⟨rfl,c,hcp,rfl⟩,st',λb hb=>(hf b hb).1⟩⟩
 done:=by
  intro X hP hw hK hc i pins s σ H E I hf st hg
  subst hP hw hK
  obtain ⟨f0,f1,f2,f3,f4,f5⟩:=hf it (by simp)
  have W:=Wk X.A (I.ok.hd hc)
  have hg':z.cps.size=i:=hg
  subst hg'
  exact W.done s _ _ st λh' tk kk=>⟨rfl,I.turned (λb o hb e=>kk b o (by simpa using hb) e) f0 f1 f3 f4 f5⟩
 self:=hself
theorem Jwk {X:Cx} {tg l:Expr} {tl:TE} (hl:PE X l tl):PI X tg l (Su6 tl):=by
 intro pins s σ H R I h
 refine thn (hl pins s σ H _ I h) λv s1 zq=>?_
 obtain ⟨x,H1,I1,r1,z,e,q⟩:=zq
 subst e
 obtain ⟨t,rfl⟩:=r1
 have fin:∀(o:Obj) (St:Nat->Sg->Prop) (n:String),Jv1 X.prog X.w X.K tg (Its z) [s1.heap.objs.size] s1.heap.objs.size St->St 0 (s1.heap.push o)->PIE X pins σ tg R (.ref s1.heap.objs.size) {s1 with heap:=s1.heap.push o}:=λo St n T st0=>by
  refine ⟨s1.heap.objs.size,[s1.heap.objs.size],St,Its z,H1,rfl,I1.kept (t':=s1.toks) λb o e=>ym _ e,T,st0,λb hb=>?_,q⟩
  have e:b=s1.heap.objs.size:=by simpa using hb
  subst e
  exact I1.fpOk (yg _) (I1.hok.fresh (yg _))
 cases ha:z.cps.all (· < 128)
 ·refine wpAny_pyIter_wide ha (fin _ (λi h=>h.IsStrIter s1.heap.objs.size "str_iterator" z t i) "str_iterator" (Jvs (n:="str_iterator") (fl:=λ_=>#[]) (λA' hA=>Walks.strWide hA _ z t) (λi h st=>?_) (by decide) (λA i s Q E st q=>wpAny_pyIter_striter_wide st q)) ⟨_,yag _ rfl,rfl,rfl⟩)
  obtain ⟨o,e,c,d⟩:=st
  exact ⟨o,e,c,_,d⟩
 ·refine wpAny_pyIter_ascii ha (fin _ (λi h=>h.IsStrIter s1.heap.objs.size "str_ascii_iterator" z t i) "str_ascii_iterator" (Jvs (n:="str_ascii_iterator") (fl:=λ_=>#[]) (λA' hA=>Walks.strAscii hA _ z t) (λi h st=>?_) (by decide) (λA i s Q E st q=>wpAny_pyIter_striter_ascii st q)) ⟨_,yag _ rfl,rfl,rfl⟩)
  obtain ⟨o,e,c,d⟩:=st
  exact ⟨o,e,c,_,d⟩
theorem Jrs {z:Str} {g:TG} {tt:TT} {te:TE} {H:Hp} {D:S5} {σ:St} {R:Hp->Prop} (Pv:Nat->St->Hp->Prop) (h0:Pv 0 σ H)
  (hs:∀i c σ H,z.cps[i]?=some c->Pv i σ H->g (sgn c) σ H λσ3 H3=>tt σ3 H3 λb H4=>if b=true then te σ3 H4 (λv H5=>∃ys,H5 D=some (.lst ys)/\ys.length < Sa/\Pv (i+1) σ3 (upd H5 D (.lst (ys++ [v])))) else Pv (i+1) σ3 H4)
  (hd:∀σ H,Pv z.cps.size σ H->R H):
  ∃W:Nat->Nat->St->Hp->Prop,(∃m,W 0 m σ H)/\∀i m σ' H',W i m σ' H'->((Its z).stop i H'/\R H')\/((Its z).go i H'/\∃N:St->Hp->Prop,(∀σ2 H2,N σ2 H2->∃m',m' < m/\W (i+1) m' σ2 H2)/\
   ∀x H2,(Its z).yld i H' x H2->g x σ' H2 λσ3 H3=>tt σ3 H3 λb H4=>if b=true then te σ3 H4 (λv H5=>∃ys,H5 D=some (.lst ys)/\ys.length < Sa/\N σ3 (upd H5 D (.lst (ys++ [v])))) else N σ3 H4):=by
 refine ⟨λi m σ H=>m=z.cps.size - i/\i<=z.cps.size/\Pv i σ H,⟨z.cps.size,by simp,yak _,h0⟩,?_⟩
 rintro i m σ H ⟨rfl,hi,p⟩
 by_cases hlt:i < z.cps.size
 ·refine .inr ⟨hlt,Pv (i+1),λσ' H' p'=>⟨z.cps.size - (i+1),by omega,rfl,hlt,p'⟩,λx H' y=>?_⟩
  obtain ⟨e,c,hcp,y⟩:=y
  subst e y
  exact hs i c σ _ hcp p
 ·have e:i=z.cps.size:=by omega
  subst e
  exact .inl ⟨rfl,hd σ H p⟩
section
variable {X:Cx}
theorem Jvi:OpR X (binaryOp .FloorDiv) (rI (λ_ j=>0 < j/\j.natAbs.log2 < 9000) λi j=>.int (i/j)):=opI λi j _ _ _ _ _ hc q=>by
 have h1:(0:Int) < j:=hc.1
 exact floordiv_int (by omega) (by rw [Int.fdiv_eq_ediv_of_nonneg i (by omega)];exact q) (.inl (PyProof.noPylong_of_log2 hc.2))
def Sl8:V->Option S6
 | .ty n=>some (.type n)
 | .ref a=>some (.ref a)
 |_=>none
theorem Jxs:∀{ys:List Str} {us:List S6},Sa2 (ys.map V.str) us->StrsAre us ys
 | [],_,.nil=>.nil
 |_::_,_,.cons ⟨_,rfl⟩ t=>.cons _ _ (Jxs t)
def Sju (K:Si):V->List V->Hp->VK->Prop:=λx xs H Q=>∃(z:Str) (a:S5) (ys:List Str),x= .str z/\xs= [.ref a]/\Sx K H a (ys.map V.str)/\(ys.map (·.length)).sum+ys.length*z.length<=16777216/\Q (.str (Txt.join z ys)) H
theorem Jp4:MtR X "str.join" (Sju X.K):=by
 intro pins s σ H x xs v us Q I rx rs h
 obtain ⟨z,a,ys,rfl,rfl,hq,hz,q⟩:=h
 obtain ⟨t,rfl⟩:=rx
 obtain ⟨u,rfl,ru⟩:=Jmw rs
 cases ru
 obtain ⟨its,r,pl,_⟩:=I.list hq
 exact join_list pl.isList (by simpa using Jxs r) hz λt' k=>⟨.str _,H,I.tok _,⟨_,rfl⟩,q⟩
theorem Jmx:Jmd X (.type "int") (λxs H Q=>∃z n,xs= [.str z]/\PySem.intText? z=some n/\z.length<=640/\Q (.int n) H):=by
 intro pins s σ H xs us Q I r h
 obtain ⟨z,n,rfl,hn,hl,q⟩:=h
 obtain ⟨u,rfl,t,rfl⟩:=Jmw r
 exact PySem.W.KIN.call_text hn hl ⟨.int n,H,I.tok _,⟨_,rfl⟩,q⟩
def Sue (K:Si):List V->Hp->VK->Prop:=λxs H Q=>∃(a:S5) (bs:List Bool),xs= [.ref a]/\Sx K H a (bs.map V.bl)/\Q (.bl (bs.all id)) H
theorem Jpz (hc:X.calm=true):Jmd X (.builtin "all") (Sue X.K):=by
 intro pins s σ H xs us Q I r h
 obtain ⟨a,bs,rfl,hq,q⟩:=h
 obtain ⟨u,rfl,ru⟩:=Jmw r
 cases ru
 obtain ⟨its,rv,pl,hz⟩:=I.list hq
 have hlen:=rv.length
 refine call_all_walk (wpAny_pyIter_list pl.isList ⟨s.heap.objs.size,[s.heap.objs.size,a],[s.heap.objs.size],its.toArray.size,_,_,λi=>bs.getD i true,rfl,Walks.list (prog:=X.prog) (w:=X.w) (A:=X.A.in1) (show X.A.in1.handled=none from I.ok.hd hc) s.heap.objs.size a ?_ its.toArray,⟨⟨_,yag _ rfl,rfl,rfl⟩,pl.isList.at λo e=>ym _ e⟩,?_,λh' tk k=>?_⟩)
 ·obtain ⟨o,_,e,_⟩:=pl
  exact yu (yj e)
 ·intro i v s' Q' E' hv hq'
  have hv':its[i]?=some v:=by simpa using hv
  have hi:i < its.length:=(yz.mp hv').1
  have hb:i < bs.length:=by rw [ye] at hlen;omega
  obtain ⟨u',hu',ru'⟩:=rv.get (i:=i) (x:=V.bl bs[i]) (by rw [yn,yi hb];rfl)
  rw [hv'] at hu'
  cases hu'
  cases ru'
  refine wpAny_truthy_bool ?_
  have:bs.getD i true=bs[i]:=by rw [ycf,yi hb];rfl
  rw [<-this]
  exact hq'
 ·have e:((List.range its.toArray.size).all λi=>bs.getD i true)=bs.all id:=by
   have hl2:its.toArray.size=bs.length:=by rw [ye] at hlen;rw [yp];exact hlen.symm
   rw [hl2,ybe,yah,yah]
   constructor
   ·intro hh b hb
    obtain ⟨i,hi,rfl⟩:=List.getElem_of_mem hb
    have:=hh i (ybn.mpr hi)
    rw [ycf,yi hi] at this
    exact this
   ·intro hh i hi
    have hi':=ybn.mp hi
    rw [ycf,yi hi']
    exact hh _ (ybu hi')
  rw [e]
  exact ⟨.bl _,H,I.kept λb o e=>k b o (λz=>by
   have z':b=s.heap.objs.size:=by simpa using z
   exact absurd (yj e) (by rw [z'];exact yba _)) (ym _ e),rfl,q⟩
end
mutual
inductive Se2 (K:Si) (H:Hp):V->PyData->Prop
 |non:Se2 K H .non .none
 |bl (b:Bool):Se2 K H (.bl b) (.bool b)
 |int (i:Int):Se2 K H (.int i) (.int i)
 |str (z:Str):Se2 K H (.str z) (.str z)
 |lst {a:S5} {xs:List V} {ds:List PyData}:Sx K H a xs->Scr K H xs ds->Se2 K H (.ref a) (.list ds)
 |tup {a:S5} {xs:List V} {ds:List PyData}:SqT K H a xs->Scr K H xs ds->Se2 K H (.ref a) (.tuple ds)
inductive Scr (K:Si) (H:Hp):List V->List PyData->Prop
 |nil:Scr K H [] []
 |cons {x:V} {d:PyData} {xs:List V} {ds:List PyData}:Se2 K H x d->Scr K H xs ds->Scr K H (x::xs) (d::ds)
end
section
variable {X:Cx} {pins:List (S5×Obj)} {σ:St} {H:Hp} {s:S7}
mutual
theorem Se2.reads (I:Sw X pins σ H s):∀{x:V} {d:PyData},Se2 X.K H x d->∀{v:S6},Sa4 x v->∃as,Reads s.heap v d as
 |_,_,.non,_,r=>by cases r;exact ⟨_,.none⟩
 |_,_,.bl b,_,r=>by cases r;exact ⟨_,.bool b⟩
 |_,_,.int i,_,r=>by obtain ⟨t,rfl⟩:=r;exact ⟨_,.int i t⟩
 |_,_,.str z,_,r=>by obtain ⟨t,rfl⟩:=r;exact ⟨_,.str z t⟩
 |_,_,.lst (a:=a) hq hd,_,r=>by
  cases r
  obtain ⟨its,rv,⟨o,n,e,c,dd,dt⟩,_⟩:=I.list hq
  obtain ⟨as,ra⟩:=Scr.reads I hd rv
  exact ⟨_,.list e c dt (by simpa using ra)⟩
 |_,_,.tup (a:=a) hq hd,_,r=>by
  cases r
  obtain ⟨its,rv,⟨o,e,c,n,dt⟩,_⟩:=I.tuple hq
  obtain ⟨as,ra⟩:=Scr.reads I hd rv
  exact ⟨_,.tuple e c dt (by simpa using ra)⟩
theorem Scr.reads (I:Sw X pins σ H s):∀{xs:List V} {ds:List PyData},Scr X.K H xs ds->∀{us:List S6},Sa2 xs us->∃as,ReadsAll s.heap us ds as
 |_,_,.nil,_,r=>by cases r;exact ⟨_,.nil⟩
 |_,_,.cons h t,_,r=>by
  cases r with
  |cons r1 r2=>
   obtain ⟨as,ra⟩:=Se2.reads I h r1
   obtain ⟨bs,rb⟩:=Scr.reads I t r2
   exact ⟨_,.cons ra rb⟩
end
def Soz (K:Si) (neg:Bool):R2:=λx y H Q=>∃d e,Se2 K H x d/\Se2 K H y e/\SeqAt.shaped d=true/\SeqAt.shaped e=true/\Q (.bl (if neg then !PyData.eqv d e else PyData.eqv d e)) H
theorem Jwf (hu:X.A.units+64 < cLine):OpR X (compareOp .Eq) (Soz X.K false):=by
 intro pins s σ H x y v u Q I rx ry h
 obtain ⟨d,e,hd,he,sd,se,q⟩:=h
 obtain ⟨as,ra⟩:=hd.reads I rx
 obtain ⟨bs,rb⟩:=he.reads I ry
 exact eq_dataH ra rb sd se hu (Jk7 I q rfl)
theorem Juk (hu:X.A.units+64 < cLine):OpR X (compareOp .NotEq) (Soz X.K true):=by
 intro pins s σ H x y v u Q I rx ry h
 obtain ⟨d,e,hd,he,sd,se,q⟩:=h
 obtain ⟨as,ra⟩:=hd.reads I rx
 obtain ⟨bs,rb⟩:=he.reads I ry
 exact ne_dataH ra rb sd se hu (Jk7 I q rfl)
end
theorem Jk0:bootBuiltins "isinstance" =some (.builtin "isinstance"):=by decide +kernel
theorem Jkh:bootBuiltins "len" =some (.builtin "len"):=by decide +kernel
theorem Jz3:bootBuiltins "max" =some (.builtin "max"):=by decide +kernel
theorem Sl4:bootBuiltins "min" =some (.builtin "min"):=by decide +kernel
theorem Jtu:bootBuiltins "all" =some (.builtin "all"):=by decide +kernel
theorem Joe:bootBuiltins "int" =some (.type "int"):=by decide +kernel
theorem Jni:bootBuiltins "str" =some (.type "str"):=by decide +kernel
theorem Jtv:bootBuiltins "bool" =some (.type "bool"):=by decide +kernel
theorem Jrh:bootBuiltins "list" =some (.type "list"):=by decide +kernel
theorem Jnr:bootBuiltins "tuple" =some (.type "tuple"):=by decide +kernel
structure FT (K:Si) (mg:Str->Option S6) (x:Str) (st:Sf) (ps:List Str) (f:S5) (fd:Sc):Prop where
 mgx:mg x=some (.ref f)
 fn:Fun K x x st f fd
 bd:Sbh K fd ps []
section
variable {X:Cx} {x:Str} {st:Sf} {ps:List Str} {f:S5} {fd:Sc} {sp:Sp} {k j:Nat} {p pos:Pos} {e:Expr} {es:List Expr} {t:TA}
theorem Jjd (F:FT X.K X.mg x st ps f fd) (G:Jjz X.prog X.w X.K X.mg X.base CX0 k f fd ps sp) (hr:Sao j X.A) (hk:k<=j) (ha:PA X (e::es) t) (hg:Gl X x:=by rfl) (hdb:(x==("__debug__" :Str))=false:=by decide)
  (he:starEach (e::es) X.env=(false,eval e X.env)::starEach es X.env:=by rfl) (hpl:(backTo pos (starEach es X.env)).any (·.1)=false:=by rfl):PE X (.Call (.Name x p) (e::es) [] pos) (Sk2 sp [] E0 t):=
 Yal G (hr.mono hk) hg F.mgx F.fn.kp F.bd .nil Js6 ha hdb he hpl
end
theorem Sn.upd {H:Hp} {D:S5} {o:HO} (h:H D=none):Sn H (upd H D o):=λb u e=>by rw [Jjc (Jjf e h)];exact e
def Scl (H:Hp) (p:S5):Prop:=∃a b c:Int,H p=some (.lst [.int a,.int b,.int c])
def But (p:S5) (H H':Hp):Prop:=(∀b o,b≠p->H b=some o->H' b=some o)/\Scl H' p
theorem But.trans {p:S5} {H H1 H2:Hp} (a:But p H H1) (b:But p H1 H2):But p H H2:=⟨λc o n e=>b.1 c o n (a.1 c o n e),b.2⟩
theorem But.refl {p:S5} {H:Hp} (s:Scl H p):But p H H:=⟨λ_ _ _ e=>e,s⟩
theorem But.same {p:S5} {H H1 H2:Hp} (a:But p H H1) (b:Sn H1 H2):But p H H2:=⟨λc o n e=>b c o (a.1 c o n e),let ⟨x,y,z,e⟩:=a.2;⟨x,y,z,b p _ e⟩⟩
theorem Scl.same {p:S5} {H H1:Hp} (a:Scl H p) (b:Sn H H1):Scl H1 p:=by obtain ⟨x,y,z,e⟩:=a;exact ⟨x,y,z,b p _ e⟩
theorem But.of {p:S5} {H H1:Hp} (a:Scl H p) (b:Sn H H1):But p H H1:=(But.refl a).same b
theorem But.free {p:S5} {H H':Hp} (s:Scl H p) (b:But p H H') {D:S5} (h:H' D=none):H D=none:=by
 by_cases e:D=p
 ·obtain ⟨x,y,z,q⟩:=b.2
  rw [e,q] at h
  cases h
 ·cases q:H D with
  |none=>rfl
  |some o=>
   rw [b.1 D o e q] at h
   cases h
theorem But.updD {p D:S5} {H H':Hp} {o:HO} (b:But p H H') (hD:H D=none) (ne:D≠p):But p H (upd H' D o):=by
 refine ⟨λc u n e=>?_,?_⟩
 ·rw [Jjc (Jjf e hD)]
  exact b.1 c u n e
 ·obtain ⟨x,y,z,q⟩:=b.2
  exact ⟨x,y,z,by rw [Jjc (yh ne)];exact q⟩
theorem Scl.ne {p D:S5} {H:Hp} (s:Scl H p) (hD:H D=none):D≠p:=by
 obtain ⟨x,y,z,q⟩:=s
 exact (Jjf q hD).symm
theorem Jxf {p:S5} {H:Hp} {a:S5} {o:HO} (s:Scl H p) (h:H a=some o) (hn:∀x y z:Int,o≠ .lst [.int x,.int y,.int z]):a≠p:=by
 intro e
 obtain ⟨x,y,z,q⟩:=s
 rw [e,q] at h
 exact hn x y z (yt.inj h).symm
def Sm8:Sp:=λvs H Q _=>∃(p:S5) (m:Int),vs= [.ref p,.int m]/\Scl H p/\0 < m/\m.natAbs.log2 < 9000/\∀(r:Int) (H':Hp),0<=r->r < m->But p H H'->Q (.int r) H'
def Yh:Sp:=λvs H Q _=>∃c:Int,vs= [.int c]/\∀(p:S5) (H':Hp),H p=none->Sn H H'->Scl H' p->Q (.ref p) H'
def Sly (K:Si):Sp:=λvs H Q _=>∃(a:S5) (ns:List Int) (k:Nat),vs= [.ref a,.int k]/\Sx K H a (ns.map V.int)/\∀n:Int,Q (.int n) H
theorem Ya8 {ns:List Int} {k:Nat} (h:k < ns.length):atI (ns.map V.int) (k:Int)=some (.int ns[k]):=Jl7 (by rw [yn,yi h];rfl)
theorem Jp1 {A:Se} {k:Nat} (hr:Sao k A):A.units+64 < cLine:=hr.units
end L2
namespace L2
open PySem PySem.Spec PyProof.Rows Builtin Builtin.ObjectAttr
abbrev VEm:List S6:=[.type "ValueError",.type "Exception",.type "BaseException",.type "object"]
def xcB (K:Si) (C fI:S5):Bool:=
 Sk K (.ref C) "__getattribute__" ==some (some (.builtin "BaseException.__getattribute__"))&&Sk K (.ref C) "__getattr__" ==some none&&Sk K (.ref C) "__setattr__" ==some (some (.builtin "object.__setattr__"))&&
 Sk K (.ref C) "__init__" ==some (some (.ref fI))&&PySem.W.typeIn K (.ref fI)==some (.type "function")&&PySem.W.keepIn K (.ref C)&&PySem.W.hasDictIn K C&&Sl K C (.type "BaseException")==some true&&Sl K C (.type "object")==some true&&
 Sk K (.ref C) "__class__" ==some (some (.builtin "object.__class__"))&&PySem.W.specialIn K (.builtin "object.__class__") "__get__" ==some (some (.builtin "getset_descriptor.__get__"))&&PySem.W.takesIn K (.builtin "object.__class__")==some true
structure Sag (K:Si) (C W fI:S5):Prop where
 obj:∃(nm q:Str) (N:S5) (bs:List S6) (sn:List Str) (sub:List S6) (ab:Bool) (col:Option Bool) (dd:Option S5) (k0 k1 k2 k3 k5:Option S6),
  K.lookup C=some (excClassObj nm q C N bs (.ref W::VEm) true sn sub ab col dd k0 k1 k2 k3 k5 "ValueError.__new__")
 tl:PySem.W.tailIn K VEm (.ref W::VEm)=true
 all:xcB K C fI=true
theorem Jl0 {K:Si} {C fI:S5} (h:xcB K C fI=true):
  (Sk K (.ref C) "__getattribute__" =some (some (.builtin "BaseException.__getattribute__"))/\Sk K (.ref C) "__getattr__" =some none/\Sk K (.ref C) "__setattr__" =some (some (.builtin "object.__setattr__")))/\
  (Sk K (.ref C) "__init__" =some (some (.ref fI))/\PySem.W.typeIn K (.ref fI)=some (.type "function")/\PySem.W.keepIn K (.ref C)=true/\PySem.W.hasDictIn K C=true)/\Sl K C (.type "BaseException")=some true/\Sl K C (.type "object")=some true/\
  Sk K (.ref C) "__class__" =some (some (.builtin "object.__class__"))/\PySem.W.specialIn K (.builtin "object.__class__") "__get__" =some (some (.builtin "getset_descriptor.__get__"))/\PySem.W.takesIn K (.builtin "object.__class__")=some true:=by
 unfold xcB at h
 simp only [yac,beq_iff_eq] at h
 obtain ⟨⟨⟨⟨⟨⟨⟨⟨⟨⟨⟨a,b⟩,c⟩,d⟩,e⟩,f⟩,g⟩,i⟩,j⟩,k⟩,l⟩,m⟩:=h
 exact ⟨⟨a,b,c⟩,⟨d,e,f,g⟩,i,j,k,l,m⟩
section
variable {K:Si} {C W fI:S5} (c:Sag K C W fI)
include c
theorem Sag.ga:Sk K (.ref C) "__getattribute__" =some (some (.builtin "BaseException.__getattribute__")):=(Jl0 c.all).1.1
theorem Sag.gh:Sk K (.ref C) "__getattr__" =some none:=(Jl0 c.all).1.2.1
theorem Sag.sa:Sk K (.ref C) "__setattr__" =some (some (.builtin "object.__setattr__")):=(Jl0 c.all).1.2.2
theorem Sag.ini:Sk K (.ref C) "__init__" =some (some (.ref fI)):=(Jl0 c.all).2.1.1
theorem Sag.fn:PySem.W.typeIn K (.ref fI)=some (.type "function"):=(Jl0 c.all).2.1.2.1
theorem Sag.kp:PySem.W.keepIn K (.ref C)=true:=(Jl0 c.all).2.1.2.2.1
theorem Sag.hd:PySem.W.hasDictIn K C=true:=(Jl0 c.all).2.1.2.2.2
theorem Sag.mb:Sl K C (.type "BaseException")=some true:=(Jl0 c.all).2.2.1
theorem Sag.mo:Sl K C (.type "object")=some true:=(Jl0 c.all).2.2.2.1
theorem Sag.cl:Sk K (.ref C) "__class__" =some (some (.builtin "object.__class__")):=(Jl0 c.all).2.2.2.2.1
theorem Sag.cg:PySem.W.specialIn K (.builtin "object.__class__") "__get__" =some (some (.builtin "getset_descriptor.__get__")):=(Jl0 c.all).2.2.2.2.2.1
theorem Sag.ct:PySem.W.takesIn K (.builtin "object.__class__")=some true:=(Jl0 c.all).2.2.2.2.2.2
end
theorem Jyw (self:S6) (C W:S5):refuseLoop self "__setattr__" (.ref C:: .ref W::VEm)=pure ():=by
 rw [refuseLoop_ref,refuseLoop_ref]
 exact PySem.F.store_ValueError.passes self
theorem Sag.mro {K:Si} {C W fI:S5} (c:Sag K C W fI):∃cd,PySem.W.clsIn K C=some cd/\cd.mro= .ref C:: .ref W::VEm/\cd.hasDict=true:=by
 obtain ⟨nm,q,N,bs,sn,sub,ab,col,dd,k0,k1,k2,k3,k5,l⟩:=c.obj
 unfold PySem.W.clsIn
 rw [l]
 exact ⟨_,rfl,rfl,rfl⟩
section
variable {prog:Sb} {w:Sd} {A:Se} {E:S6->S7->Prop} {s:S7} {K:Si} {x C W fI:S5} {ox:Obj} {od:Option Obj} {name:Str}
theorem Ybp:builtinKind "BaseException.__getattribute__" =some .slot:=by decide +kernel
theorem Yv:splitId "BaseException.__getattribute__" =some ("BaseException","__getattribute__"):=by decide +kernel
theorem Jxz {r:Found} {tk:Tok} {R:Result->S7->Prop} (c:Sag K C W fI) (X:K.In s.heap) (I:PySem.W.InstAt s.heap x ox C od) (hf:PySem.W.findObj K C od name=some r)
  (h:Sh (model prog w) A.in1 (match r with| .value v=>ret v| .bind g b=>bindTo g b (.ref x) (.ref C)| .missing=>unsupported "none")
   (λfin s'=>match fin with| .done f=>R (.ok f) s'| .again c'=>c'.quiet=true/\codeAny (model prog w) A c' R s') (λe s'=>R (.error e) s') s) (hr:r≠ .missing):
  codeAny (model prog w) A (.call (.builtin "BaseException.__getattribute__") ⟨[.ref x,.str name tk],[]⟩) R s:=by
 have T0:=I.type (M:=model prog w)
 have T3:=PySem.W.looks_find (M:=model prog w) X I hf
 have T4:PySem.W.Looks (model prog w) s.heap (isInstance (.ref x) (.type "BaseException")) true:=T0.andThen (PySem.W.looks_mroIn X c.mb)
 have ck:∀{Q':Unit->S7->Prop} {E':S6->S7->Prop} {A':Se},Q' () s->Sh (model prog w) A' (checkBuiltinCall "BaseException.__getattribute__" ⟨[.ref x,.str name tk],[]⟩) Q' E' s:=λ{Q' E' A'} q=>
  @PySem.W.check_slot (model prog w) A' E' s "BaseException.__getattribute__" "BaseException" "__getattribute__" (.ref x) [.str name tk] [] Q' Ybp Yv T4 (F.args_bexc_ga (.ref x) (.str name tk)) q
 refine codeAny_call_builtin F.excAttr_ValueError.ga.plain F.entry_bexc_ga (ck ?_)
 unfold Builtin.«object.__getattribute__»
 refine S8 (S9 (S8 (S9 (S8 (T0.here (S8 (T3.here ?_)))))))
 cases r with
 |missing=>exact absurd rfl hr
 |value v=>exact h
 |bind gg b=>exact h
theorem Smu {v:S6} {expr:Bool} {Q:S6->S7->Prop} (c:Sag K C W fI) (X:K.In s.heap) (I:PySem.W.InstAt s.heap x ox C od) (hf:PySem.W.findObj K C od name=some (.value v)) (hh:PySem.W.handedIn v=true)
  (q:Q v {s with toks:=s.toks+1}):Sh (model prog w) A (getAttr (.ref x) name expr) Q E s:=by
 obtain ⟨hp,g,d,t,os⟩:=s
 have T0:=I.type (M:=model prog w)
 have T1:=PySem.W.looks_findIn (M:=model prog w) X c.ga
 have T2:=PySem.W.looks_findIn (M:=model prog w) X c.gh
 unfold getAttr getAttrBy
 refine S8 (wpAny_mkText (wpAny_holding (S8 (T0.at (S8 (T1.at ?_))))))
 show Sh _ _ (getAttrByItsOwn (.ref x) _ (.ref C) _ _ _) _ _ _
 unfold getAttrByItsOwn
 refine S8 (show Sh _ _ (typeLookup (.ref C) "__getattr__") _ _ _ from T2.at ?_)
 have e0:callGetattribute (.ref x) (.str name t) (.builtin "BaseException.__getattribute__") expr=boundAndCalled (.builtin "BaseException.__getattribute__") (.ref x) (.str name t):=by cases expr <;> rfl
 rw [e0]
 unfold boundAndCalled
 rw [F.excAttr_ValueError.ga.bind]
 refine S8 (wpAny_attempt (wpAny_holding (S8 (S9 (wpAny_call (Jxz (s:=⟨hp,g,d,t+1,os⟩) (r:=.value v) c X I hf ?_ (λz=>nomatch z)))))))
 refine S9 ?_
 show Sh _ _ (handedOut v) _ _ _
 rw [PySem.W.handedOut_of hh]
 exact S9 q
end
section
variable {prog:Sb} {w:Sd} {A:Se} {E:S6->S7->Prop} {s:S7} {K:Si} {x C W fI:S5} {ox:Obj} {od:Option Obj} {name:Str} {v:S6}
theorem Yu {tk:Tok} {R:Result->S7->Prop} (c:Sag K C W fI) (X:K.In s.heap) (I:PySem.W.InstAt s.heap x ox C od) (hn:Sk K (.ref C) name=some none)
  (h:Sh (model prog w) A.in1 (storeInOwnDict (.ref x) (.ref C) (.str name tk) name v false)
   (λfin s'=>match fin with| .done f=>R (.ok f) s'| .again c'=>c'.quiet=true/\codeAny (model prog w) A c' R s') (λe s'=>R (.error e) s') s):
  codeAny (model prog w) A (.call (.builtin "object.__setattr__") ⟨[.ref x,.str name tk,v],[]⟩) R s:=by
 have SF:=PySem.F.store_object
 obtain ⟨cd,hc,hm,_⟩:=c.mro
 have T0:=I.type (M:=model prog w)
 have sub:PySem.W.Looks (model prog w) s.heap (isInstance (.ref x) (.type "object")) true:=T0.andThen (PySem.W.looks_mroIn X c.mo)
 have hmr:PySem.W.Looks (model prog w) s.heap (mroOf (.ref C)) cd.mro:=(PySem.W.looks_clsIn X hc).andThen .now
 have T2:=PySem.W.looks_findIn (M:=model prog w) X hn
 refine codeAny_call_builtin SF.slot.plain SF.entry (@PySem.W.check_slot (model prog w) _ _ s "object.__setattr__" "object" "__setattr__" (.ref x) [.str name tk,v] [] _ SF.kind SF.split sub (SF.args (.ref x) (.str name tk) v) ?_)
 rw [PySem.W.osa_eq,refuse_eq]
 refine S8 (S8 (T0.here (S8 (hmr.here ?_))))
 rw [hm,Jyw]
 exact S9 (S8 (T0.here (S8 (T2.here (S8 (S9 h))))))
theorem Jww {vs:Array S6} {Q:Unit->S7->Prop} (c:Sag K C W fI) (X:K.In s.heap) (hx:s.heap.get? x=some ox) (hcl:ox.cls= .ref C) (hdi:ox.dict=none) (hd:ox.data= .fields vs) (hn:Sk K (.ref C) name=some none)
  (h:∀h',(∀b u,b≠x->s.heap.get? b=some u->h'.get? b=some u)->h'.get? x=some {ox with dict:=some s.heap.objs.size}->h'.Ns1 s.heap.objs.size (λy=>if y=name then some v else none)->Q () {s with heap:=h',toks:=s.toks+2}):
  Sh (model prog w) A (setAttr (.ref x) name v) Q E s:=by
 have I:PySem.W.InstAt s.heap x ox C none:=⟨hx,hcl,by unfold PySem.W.notCls;rw [hd],by rw [hdi];trivial⟩
 obtain ⟨cd,hc,_,hdct⟩:=c.mro
 refine PySem.W.set_plain X I c.sa (Yu (s:={s with toks:=s.toks+1}) c X I hn ?_)
 obtain ⟨oc,odi,oda,osl⟩:=ox
 dsimp only at hcl hdi hd
 subst hcl hdi hd
 refine S8 (S9 (S8 (S8 (wpAny_loadPart hx (S8 (PySem.W.Looks.here (s:={s with toks:=s.toks+1}) (PySem.W.looks_clsIn X hc) ?_))))))
 rw [hdct]
 dsimp only
 simp only [Bool.not_true,Bool.false_eq_true,if_false,typeHasDict,Bool.or_false]
 have e1:(s.heap.push {cls:=.type "dict",data:=.dict #[]}).get? x=some ⟨.ref C,none,.fields vs,osl⟩:=ym _ hx
 have nx:s.heap.objs.size≠x:=ybo (yj hx)
 have n0:(s.heap.push {cls:=.type "dict",data:=.dict #[]}).Ns s.heap.objs.size (λ_=>none):=⟨_,#[],_,yag s.heap rfl,rfl,(λe he=>absurd he (by simp)),λ_=>rfl⟩
 refine S8 (wpAny_alloc (S8 (wpAny_update e1 ?_)))
 have e2:=ycj (λo=>{o with dict:=some s.heap.objs.size}) e1 rfl
 have n1:((s.heap.push {cls:=.type "dict",data:=.dict #[]}).update x λo=>{o with dict:=some s.heap.objs.size}).Ns1 s.heap.objs.size (λ_=>none):=
  (Heap.Ns1.of_empty n0).at λo q=>by rw [ybg _ _ (yh nx)];exact q
 refine S9 (S8 (S9 (S8 ?_)))
 refine wpAny_nsSet1 n1 λh' n2 sb=>?_
 obtain ⟨oD,esD,epD,hoD,hdD,hcD⟩:=n2.count (PySem.Within.cons name v PySem.Within.nil)
 refine S8 (wpAny_lookBehind hoD (by rw [hdD];exact pastItsLine_dict (yv hcD (Nat.le_add_left 1 Sa))) ?_)
 refine S9 (h h' (λb u hb q=>?_) ((sb.2 _ (yh nx)).trans e2) n2)
 have nb:b≠s.heap.objs.size:=yu (yj q)
 rw [sb.2 b nb,ybg _ _ (yh hb)]
 exact ym _ q
theorem Jwx {vs:Array S6} {dx:S5} {mA:Str->Option S6} {ns:List Str} {Q:Unit->S7->Prop} (c:Sag K C W fI) (X:K.In s.heap) (hx:s.heap.get? x=some ox) (hcl:ox.cls= .ref C) (hdi:ox.dict=some dx) (hd:ox.data= .fields vs) (hn:Sk K (.ref C) name=some none)
  (n1:s.heap.Ns1 dx mA) (hw:PySem.Within mA ns) (hsz:ns.length<=1000)
  (h:∀h',Heap.SameBut dx s.heap h'->h'.Ns1 dx (λy=>if y=name then some v else mA y)->Q () {s with heap:=h',toks:=s.toks+2}):
  Sh (model prog w) A (setAttr (.ref x) name v) Q E s:=by
 obtain ⟨oD0,hoD0,_⟩:=Jqv n1
 have I:PySem.W.InstAt s.heap x ox C (some oD0):=⟨hx,hcl,by unfold PySem.W.notCls;rw [hd],by rw [hdi];exact hoD0⟩
 obtain ⟨cd,hc,_,hdct⟩:=c.mro
 refine PySem.W.set_plain X I c.sa (Yu (s:={s with toks:=s.toks+1}) c X I hn ?_)
 obtain ⟨oc,odi,oda,osl⟩:=ox
 dsimp only at hcl hdi hd
 subst hcl hdi hd
 refine S8 (S9 (S8 (S8 (wpAny_loadPart hx (S8 (PySem.W.Looks.here (s:={s with toks:=s.toks+1}) (PySem.W.looks_clsIn X hc) ?_))))))
 rw [hdct]
 refine S9 (a:=some dx) (S8 (S9 (S8 ?_)))
 refine wpAny_nsSet1 (s:={s with toks:=s.toks+1}) n1 λh' n2 sb=>?_
 obtain ⟨oD,esD,epD,hoD,hdD,hcD⟩:=n2.count (PySem.Within.cons name v hw)
 refine S8 (wpAny_lookBehind hoD (by rw [hdD];exact pastItsLine_dict (yv hcD (by rw [yad,sizeLine_eq];omega))) ?_)
 exact S9 (h h' sb n2)
end
abbrev Jyx (us:List S6):Obj:={cls:=.type "tuple",data:=.seq us.toArray}
abbrev Sia (C:S5) (t:S5):Obj:={cls:=.ref C,data:=.fields #[.ref t,.none,.none,.none,.bool false,.none]}
section
variable {prog:Sb} {w:Sd} {A:Se} {E:S6->S7->Prop} {K:Si} {C W fI:S5} {us:List S6} {hp:Sg} {g:Array GenState} {d:Drawn} {t:Nat} {os:OsState}
theorem Yw {Q:PySem.Fin->S7->Prop} (c:Sag K C W fI) (X:K.In hp) (hz:us.length<=Sa)
  (h:Sh (model prog w) A (call (.ref fI) (.ref (hp.objs.size+1)::us)) (λr s'=>r= .none/\Q (.done (.ret (.ref (hp.objs.size+1)))) s') E ⟨(hp.push (Jyx us)).push (Sia C hp.objs.size),g,d,t,os⟩):
  Sh (model prog w) A (Builtin.«type.__call__» ⟨.ref C::us,[]⟩) Q E ⟨hp,g,d,t,os⟩:=by
 obtain ⟨nm,q,N,bs,sn,sub,ab,col,dd,k0,k1,k2,k3,k5,l⟩:=c.obj
 have FV:=F.excBase_ValueError
 have kC:=X _ _ l
 have TL:OwnTail hp VEm (.ref W::VEm):=PySem.W.tail_of_in X c.tl
 have up:∀b o,hp.get? b=some o->((hp.push (Jyx us)).push (Sia C hp.objs.size)).get? b=some o:=λb o e=>ym _ (ym _ e)
 have gE:((hp.push (Jyx us)).push (Sia C hp.objs.size)).get? (hp.objs.size+1)=some ({cls:=.ref C,data:=.fields #[.ref hp.objs.size,.none,.none,.none,.bool false,.none]}:Obj):=Heap.get?_push_at (by simp only [yaz]) rfl
 have X2:=X.keeps up
 have kC2:=X2 _ _ l
 have hcC:(Value.ref C:: .ref W::VEm).contains (.ref C)=true:=by simp
 repeat (first|with_reducible refine wpAny_loadPart_at kC ?_|with_reducible refine wpAny_madeBy_exc kC ?_|wp_step)
 refine codeAny_call_builtin_code (Code.quiet_builtin _ FV.quiet) (wpAny_check_new_subT FV TL kC (codeAny_exc_new_subT FV TL kC ?_ hz))
 show Sh _ _ _ _ _ _
 unfold isInstance
 repeat (first|with_reducible refine wpAny_loadPart_at gE ?_|(with_reducible refine wpAny_isSubtype_exc kC2 ?_;rw [hcC])|wp_step)
 show Sh _ _ (typeLookup (.ref C) _) _ _ _
 refine (PySem.W.looks_findIn X2 c.ini).at (wpAny_holding (S8 ((PySem.W.bind_fn X2 _ c.fn).at ?_)))
 refine S8 (wpAny_mono h (λr s' hr=>?_) λ_ _ z=>z)
 obtain ⟨rfl,hQ⟩:=hr
 wp_walk
 exact hQ
theorem Ybq {s:S7} {Q:S6->S7->Prop} (c:Sag K C W fI) (X:K.In s.heap) (hz:us.length<=Sa)
  (h:Sh (model prog w) (A.under (.builtin "type.__call__" ⟨.ref C::us,[]⟩)) (call (.ref fI) (.ref (s.heap.objs.size+1)::us)) (λr s'=>r= .none/\Q (.ref (s.heap.objs.size+1)) s') E {s with heap:=(s.heap.push (Jyx us)).push (Sia C s.heap.objs.size)}):
  Sh (model prog w) A (call (.ref C) us) Q E s:=by
 obtain ⟨hp,g,d,t,os⟩:=s
 obtain ⟨nm,q,N,bs,sn,sub,ab,col,dd,k0,k1,k2,k3,k5,l⟩:=c.obj
 have kC:=X _ _ l
 have v1:=tc_lookup
 have v2:=tc_bind (.ref C)
 have hT:(⟨hp,g,d,t,os⟩:S7).TypeIs (.ref C) "type" :=⟨_,kC,rfl⟩
 refine wpAny_call (codeAny_of_tree ?_)
 show Sh _ _ (callAny (.ref C) _) _ _ _
 repeat (any_goals (first|assumption|with_reducible refine wpAny_loadPart_at kC ?_|wp_step))
 exact ⟨rfl,codeAny_call_builtin_at (Code.quiet_builtin _ (by decide +kernel)) entry_typeCall (wpAny_check_type_call_sub kC (Yw c X hz h))⟩
end
end L2
namespace L2
open PySem PySem.Spec PyProof.Rows
def XO (e C:S5) (dx:Option S5) (fr:Bool):HO:=.ext λh=>∃o vs,h.get? e=some o/\o.cls= .ref C/\o.dict=dx/\o.data= .fields vs/\(∃t,vs[0]?=some (.ref t))/\∃y,vs[1]?=some y/\(fr=true->y= .none)
def XD (dx:S5) (fs:List (Str×V)):HO:=.ext λh=>∃mA,h.Ns1 dx mA/\(∀f,Sc4 (fs.lookup f) (mA f))/\PySem.Within mA (fs.map (·.1))/\fs.length<=1000
section
variable {P:Sb} {w:Sd} {H:Hp} {h:Sg} {e C dx:S5} {od:Option S5} {fr:Bool} {fs:List (Str×V)}
theorem Yy {o:Obj} {vs:Array S6} (he:h.get? e=some o) (h1:o.cls= .ref C) (h2:o.dict=od) (h3:o.data= .fields vs) (h4:∃t,vs[0]?=some (.ref t)) (h5:∃y,vs[1]?=some y/\(fr=true->y= .none)):Saa P w H h e (XO e C od fr):=
 ⟨⟨o,vs,he,h1,h2,h3,h4,h5⟩,⟨o,he⟩,λ_ _ ⟨o,vs,a,r⟩ k=>⟨o,vs,k o a,r⟩⟩
theorem Jr5 (hok:HOk P w H h) (q:H e=some (XO e C od fr)):∃o vs,h.get? e=some o/\o.cls= .ref C/\o.dict=od/\o.data= .fields vs/\(∃t,vs[0]?=some (.ref t))/\∃y,vs[1]?=some y/\(fr=true->y= .none):=(hok e _ q).1
theorem Sk5 {mA:Str->Option S6} (n:h.Ns1 dx mA) (r:∀f,Sc4 (fs.lookup f) (mA f)) (w':PySem.Within mA (fs.map (·.1))) (z:fs.length<=1000):Saa P w H h dx (XD dx fs):=
 ⟨⟨mA,n,r,w',z⟩,(let ⟨o,_,_,q,_⟩:=n;⟨o,q⟩),λ_ _ ⟨m,a,r⟩ k=>⟨m,a.at k,r⟩⟩
theorem Yx (hok:HOk P w H h) (q:H dx=some (XD dx fs)):∃mA,h.Ns1 dx mA/\(∀f,Sc4 (fs.lookup f) (mA f))/\PySem.Within mA (fs.map (·.1))/\fs.length<=1000:=(hok dx _ q).1
theorem Jy0 (hok:HOk P w H h) (q:H e=some (XO e C (some dx) fr)) (qd:H dx=some (XD dx fs)):∃(ox oD:Obj) (mA:Str->Option S6),PySem.W.InstAt h e ox C (some oD)/\(∀n,PySem.W.lookIn n oD=some (mA n))/\∀f,Sc4 (fs.lookup f) (mA f):=by
 obtain ⟨o,vs,he,hc,hd,hf,_⟩:=Jr5 hok q
 obtain ⟨mA,n1,r,_⟩:=Yx hok qd
 obtain ⟨oD,hD,hl⟩:=Jqv n1
 exact ⟨o,oD,mA,⟨he,hc,by unfold PySem.W.notCls;rw [hf],by rw [hd];exact hD⟩,hl,r⟩
end
section
variable {X:Cx} {pins:List (S5×Obj)} {σ:St} {H:Hp} {s:S7} {e C W fI dx:S5} {fs:List (Str×V)} {fr:Bool} {f:Str} {v:V} {A:Se} {E:S6->S7->Prop}
theorem Jvw {b:Bool} {Q:S6->S7->Prop} (I:Sw X pins σ H s) (q:H e=some (XO e C (some dx) fr)) (qd:H dx=some (XD dx fs)) (c:Sag X.K C W fI) (n:NoAttr X.K C f) (l:fs.lookup f=some v)
  (h:∀u s',Sw X pins σ H s'->Sa4 v u->Q u s'):Sh (model X.prog X.w) A (getAttr (.ref e) f b) Q E s:=by
 obtain ⟨ox,oD,mA,J,hl,r⟩:=Jy0 I.hok q qd
 obtain ⟨u,hu,ru⟩:=Sc4.some_of (v:=v) (o:=mA f) (by rw [<-l];exact r f)
 exact Smu c I.kIn J (PySem.W.findObj_own c.hd n rfl (by rw [hl,hu])) (Jtg ru) (h u _ (I.tok _) ru)
theorem Yz {y:V} {u:S6} {Q:Unit->S7->Prop} (I:Sw X pins σ H s) (q:H e=some (XO e C none fr)) (c:Sag X.K C W fI) (n:NoAttr X.K C f) (ry:Sa4 y u)
  (h:∀dx s',H dx=none->dx≠e->Sw X pins σ (upd (upd H dx (XD dx [(f,y)])) e (XO e C (some dx) fr)) s'->Q () s'):Sh (model X.prog X.w) A (setAttr (.ref e) f u) Q E s:=by
 obtain ⟨o,vs,he,hc,hd,hf,h0,h1⟩:=Jr5 I.hok q
 have ne:s.heap.objs.size≠e:=ybo (yj he)
 have hn:H s.heap.objs.size=none:=I.hok.fresh (yg _)
 refine Jww c I.kIn he hc hd hf n λh' kp ke n1=>h s.heap.objs.size _ hn ne ?_
 have hD:h'.get? s.heap.objs.size≠none:=by obtain ⟨oD,_,_,q1,_⟩:=n1;rw [q1];exact λz=>nomatch z
 have qd:∀m:Hp,Saa X.prog X.w m h' s.heap.objs.size (XD s.heap.objs.size [(f,y)]):=λm=>Sk5 n1 (λg=>by
  by_cases z:g=f
  ·have zb:(g==f)=true:=beq_iff_eq.mpr z
   simp only [ybf,zb,if_pos z];exact ry
  ·have zb:(g==f)=false:=beq_eq_false_iff_ne.mpr z
   simp only [ybf,zb,if_neg z];exact True.intro) (λg hg=>by
  by_cases z:g=f
  ·rw [z];simp
  ·exact absurd (if_neg z) hg) (by simp)
 have un1:Un X.fs [] H (upd (upd H s.heap.objs.size (XD s.heap.objs.size [(f,y)])) e (XO e C (some s.heap.objs.size) fr)) s.heap h':=by
  have nb:∀b ob,s.heap.get? b=some ob->b≠s.heap.objs.size:=λb ob z=>yu (yj z)
  have sm:∀b u',H b=some u'->u'≠XO e C none fr->upd (upd H s.heap.objs.size (XD s.heap.objs.size [(f,y)])) e (XO e C (some s.heap.objs.size) fr) b=some u':=λb u' z d=>by
   rw [Jjc (λw':b=e=>d (by rw [w',q] at z;exact (yt.inj z).symm)),Jjc (Jjf z hn)];exact z
  refine ⟨λb ob z n _ _=>kp b ob (λw'=>by rw [w',q] at n;cases n) z,λb ob z n _ _=>⟨ob.slots,kp b ob (λw'=>by rw [w',q] at n;cases n) z⟩,λb ob z n _=>?_,λb ob z _=>?_,λb xs z=>sm b _ z (λw'=>by cases w'),λb ob u' z=>sm b _ z (λw'=>by cases w'),λb ps z=>⟨#[],by rw [sm b _ z (λw'=>by cases w')];simp⟩⟩
  ·rw [Jjc (λw'=>by rw [w',q] at n;cases n),Jjc (nb b ob z)];exact n
  ·by_cases w':b=e
   ·exact ⟨_,by rw [w'];exact ke⟩
   ·exact ⟨ob,kp b ob w' z⟩
 refine I.un (t':=s.toks+2) un1 λb ob z=>?_
 by_cases w1:b=e
 ·subst w1
  rw [Sv] at z;cases z
  exact Yy ke hc rfl hf h0 h1
 ·rw [Jjc w1] at z
  by_cases w2:b=s.heap.objs.size
  ·subst w2
   rw [Sv] at z;cases z
   exact qd _
  ·rw [Jjc w2] at z
   have keep:∀c' u',H c'=some u'->u'≠XO e C none fr->upd (upd H s.heap.objs.size (XD s.heap.objs.size [(f,y)])) e (XO e C (some s.heap.objs.size) fr) c'=some u':=λc' u' zz d=>by
    rw [Jjc (λw':c'=e=>d (by rw [w',q] at zz;exact (yt.inj zz).symm)),Jjc (Jjf zz hn)];exact zz
   refine (I.hok b ob z).stay (λc' v' hc' zz=>kp c' v' ?_ zz) (λc' zz=>keep c' _ zz (λw'=>by cases w')) (λc' xs zz=>keep c' _ zz (λw'=>by cases w')) λc' xs zz=>keep c' _ zz (λw'=>by cases w')
   rcases hc' with rfl|hc'
   ·exact w1
   ·rintro rfl;rw [q] at hc';cases hc'
theorem Ya0 {y:V} {u:S6} {Q:Unit->S7->Prop} (I:Sw X pins σ H s) (q:H e=some (XO e C (some dx) fr)) (qd:H dx=some (XD dx fs)) (c:Sag X.K C W fI) (n:NoAttr X.K C f) (hz:fs.length < 1000) (ry:Sa4 y u)
  (h:∀s',Sw X pins σ (upd H dx (XD dx (Jl8 f y fs))) s'->Q () s'):Sh (model X.prog X.w) A (setAttr (.ref e) f u) Q E s:=by
 obtain ⟨o,vs,he,hc,hd,hf,h0,h1⟩:=Jr5 I.hok q
 obtain ⟨mA,n1,r,wi,zl⟩:=Yx I.hok qd
 refine Jwx c I.kIn he hc hd hf n n1 wi (by rw [ye];omega) λh' sb n2=>h _ ?_
 refine I.write (x:=dx) (e:=dx) (t':=s.toks+2) (by rw [qd];exact True.intro) (.inl rfl) (λb u' hb z=>(sb.2 b hb).trans z) (let ⟨oD,_,_,q1,_⟩:=n2;⟨oD,q1⟩) ?_
 refine Sk5 n2 (λg=>?_) (λg hg=>?_) (by have:=Jog f y fs;omega)
 ·rw [Joi]
  by_cases z:g=f
  ·rw [if_pos z,if_pos z];exact ry
  ·rw [if_neg z,if_neg z];exact r g
 ·by_cases z:g=f
  ·rw [z];exact (Jnt f y fs).1
  ·exact (Jnt f y fs).2 g (wi g λz2=>hg (by show (if g=f then some u else mA g)=none;rw [if_neg z];exact z2))
theorem Sw.xmade {us:List S6} (I:Sw X pins σ H s):Sw X pins σ (upd H (s.heap.objs.size+1) (XO (s.heap.objs.size+1) C none true)) {s with heap:=(s.heap.push (Jyx us)).push (Sia C s.heap.objs.size)}:=by
 have I1:=I.kept (h':=s.heap.push (Jyx us)) (t':=s.toks) λb u q=>ym _ q
 refine I1.laid (a:=s.heap.objs.size+1) (t':=s.toks) (λb u q=>ym _ q) (Nat.le_of_eq (yaz _ _)) ?_
 exact Yy (Heap.get?_push_at (by simp only [yaz]) rfl) rfl rfl rfl ⟨_,rfl⟩ ⟨_,rfl,λ_=>rfl⟩
end
def Spp (K:Si) (ta:TE) (f:Str):TE:=λσ H Q=>ta σ H λx H1=>∃e C W fI dx fs v fr,x= .ref e/\H1 e=some (XO e C (some dx) fr)/\H1 dx=some (XD dx fs)/\Sag K C W fI/\NoAttr K C f/\fs.lookup f=some v/\Q v H1
def Sp4 (K:Si) (ta tv:TE) (f:Str):TS:=λD σ H=>tv σ H λy H1=>ta σ H1 λx H2=>∃e C W fI fr,x= .ref e/\H2 e=some (XO e C none fr)/\Sag K C W fI/\NoAttr K C f/\∀dx,H2 dx=none->dx≠e->
 D.nx σ (upd (upd H2 dx (XD dx [(f,y)])) e (XO e C (some dx) fr))
def Sp5 (K:Si) (ta tv:TE) (f:Str):TS:=λD σ H=>tv σ H λy H1=>ta σ H1 λx H2=>∃e C W fI dx fs fr,x= .ref e/\H2 e=some (XO e C (some dx) fr)/\H2 dx=some (XD dx fs)/\Sag K C W fI/\NoAttr K C f/\fs.length < 1000/\
 D.nx σ (upd H2 dx (XD dx (Jl8 f y fs)))
def Spn (C:S5) (sp:Sp) (t:TA):TE:=λσ H Q=>t σ H λvs H1=>vs.length<=1000/\∀e,H1 e=none->sp (.ref e::vs) (upd H1 e (XO e C none true)) (λv H2=>v= .non/\Q (.ref e) H2) E0
section
variable {X:Cx} {o e value:Expr} {f:Str} {pos pos' tpos p:Pos} {ta tv:TE} {C W fI:S5} {fd:Sc} {ps:List Str} {sp:Sp} {k j:Nat} {x:Str} {es:List Expr} {t:TA}
theorem Jrl (he:PE X e ta) (hb:attributeBase e f X.env (eval e X.env)=eval e X.env):PE X (.Attribute e f pos) (Spp X.K ta f):=by
 intro pins s σ H Q I h
 refine Jx0 hb (thn (he pins s σ H _ I h) λu s1 zq=>?_)
 obtain ⟨x,H1,I1,rx,a,C,W,fI,dx,fs,v,fr,ex,q,qd,c,n,l,k⟩:=zq
 subst ex
 obtain rfl:u=Value.ref a:=rx
 exact Jvw I1 q qd c n l λu' s2 I2 ru=>⟨v,H1,I2,ru,k⟩
theorem Jo5 (ha:PE X o ta) (hv:PE X value tv) (hs:swapsWith value (some (.Attribute o f pos')) pos.line X.env=pure false):PS X (.Assign [.Attribute o f pos'] value pos) (Sp4 X.K ta tv f):=by
 intro pins s σ H D I h
 refine plainObj_wpAny_Assign_Attribute (thn (hv pins s σ H _ I h) λu s1 ⟨y,H1,I1,ry,q⟩=>thn (ha pins s1 σ H1 _ I1 q) λov s2 zq=>?_) hs
 obtain ⟨x,H2,I2,rx,a,C,W,fI,fr,ex,ea,c,n,q2⟩:=zq
 subst ex
 obtain rfl:ov=Value.ref a:=rx
 exact Yz I2 ea c n ry λdx s3 h1 h2 I3=>⟨σ,_,I3,q2 dx h1 h2⟩
theorem Yap (ha:PE X o ta) (hv:PE X value tv) (hs:swapsWith value (some (.Attribute o f pos')) pos.line X.env=pure false):PS X (.Assign [.Attribute o f pos'] value pos) (Sp5 X.K ta tv f):=by
 intro pins s σ H D I h
 refine plainObj_wpAny_Assign_Attribute (thn (hv pins s σ H _ I h) λu s1 ⟨y,H1,I1,ry,q⟩=>thn (ha pins s1 σ H1 _ I1 q) λov s2 zq=>?_) hs
 obtain ⟨x,H2,I2,rx,a,C,W,fI,dx,fs,fr,ex,ea,ed,c,n,z,q2⟩:=zq
 subst ex
 obtain rfl:ov=Value.ref a:=rx
 exact Ya0 I2 ea ed c n z ry λs3 I3=>⟨σ,_,I3,q2⟩
theorem Yau {pins:List (S5×Obj)} {σ:St} {H:Hp} {s:S7} {Q:VK} {us:List S6} {vs:List V} (c:Sag X.K C W fI) (G:Jjz X.prog X.w X.K X.mg X.base CX0 k fI fd ps sp) (hr:Sao (k+1) X.A) (hb:Sbh X.K fd ps []) (I:Sw X pins σ H s) (r:Sa2 vs us) (hz:vs.length<=1000)
  (h:∀e,H e=none->sp (.ref e::vs) (upd H e (XO e C none true)) (λv H2=>v= .non/\Q (.ref e) H2) E0):Sh (model X.prog X.w) X.A (call (.ref C) us) (EP X pins σ Q) X.xe s:=by
 have hq:=h (s.heap.objs.size+1) (I.hok.fresh (Nat.le_succ _))
 have I2:=Sw.xmade (C:=C) (us:=us) I
 have r2:Sa2 (V.ref (s.heap.objs.size+1)::vs) (Value.ref (s.heap.objs.size+1)::us):=.cons rfl r
 have hl:(Value.ref (s.heap.objs.size+1)::us++ []).length=ps.length:=by
  rw [yar,<-r2.length,G.len _ _ _ _ hq]
 refine Ybq c I.kIn (by rw [<-r.length];exact yv hz (by decide)) (wpAny_call (codeAny_mono (G.run _ X.stack _ _ ⟨Value.ref (s.heap.objs.size+1)::us,[]⟩ (Value.ref (s.heap.objs.size+1)::us) _ _ E0 (hr.make C us [])
  (I2.env0.make C us []) (by have:=hb _ (Value.ref (s.heap.objs.size+1)::us) I2.kIn hl;rw [yar] at this;exact this) r2 hq) λr s' hq'=>?_))
 cases r with
 |error e=>exact False.elim hq'
 |ok fl=>
  cases fl with
  |ret u=>
   obtain ⟨v,H',I3,rv,ev,q3⟩:=I2.after hq'
   subst ev
   exact ⟨rv,⟨V.ref (s.heap.objs.size+1),H',I3,rfl,q3⟩⟩
  |next=>exact False.elim hq'
  |brk=>exact False.elim hq'
  |cont=>exact False.elim hq'
theorem Jm1 (c:Sag X.K C W fI) (G:Jjz X.prog X.w X.K X.mg X.base CX0 k fI fd ps sp) (hr:Sao j X.A) (hk:k+1<=j) (hb:Sbh X.K fd ps []) (hm:X.mg x=some (.ref C)) (ha:PA X (e::es) t) (hg:Gl X x:=by rfl)
  (hdb:(x==("__debug__" :Str))=false:=by decide) (he:starEach (e::es) X.env=(false,eval e X.env)::starEach es X.env:=by rfl) (hpl:(backTo pos (starEach es X.env)).any (·.1)=false:=by rfl):
  PE X (.Call (.Name x p) (e::es) [] pos) (Spn C sp t):=by
 intro pins s σ H Q I h
 refine wpAny_Call_Name_kw (Jo2 I hg hm ?_ hdb)
 refine PySem.W.callWith_K (h₀:=X.base) I.ok.mod.kin c.kp (thn (ha pos pins s σ H _ I h) λus s1 ⟨vs,H1,I1,r,z,q⟩=>⟨I1.kIn,?_⟩) he hpl
 exact Yau c G (hr.mono hk) hb I1 r z q
end
section
variable {K:Si} {C W fI:S5} {x:S5}
theorem Sv7 (c:Sag K C W fI):PySem.W.KitX K (.ref x) (.ref C) (λh=>∃ox od,PySem.W.InstAt h x ox C (some od)) where
 ty:=λ_ _ _ ⟨_,_,I⟩=>I.type
 it:=λ_ _ X _=>by
  obtain ⟨nm,q,N,bs,sn,sub,ab,col,dd,k0,k1,k2,k3,k5,l⟩:=c.obj
  intro A' Q' E' s' k q
  unfold isType loadHead
  exact S8 (wpAny_loadPart (k _ _ (X _ _ l)) (S9 q))
 ne:=λh tp dd its n sl X htp=>by
  obtain ⟨nm,q,N,bs,sn,sub,ab,col,dd,k0,k1,k2,k3,k5,l⟩:=c.obj
  refine Bool.eq_false_iff.mpr λz=>?_
  have e:C=tp:=Value.ref.inj (beq_iff_eq.mp z)
  subst e
  have z:=congrArg (Option.map (·.cls)) ((X _ _ l).symm.trans htp)
  simp at z
 ca:=λ{prog w A E Q s} X ⟨ox,od,I⟩ kq=>by
  have hf:PySem.W.findObj K C (some od) "__class__" =some (.bind (.builtin "getset_descriptor.__get__") (.builtin "object.__class__")):=PySem.W.findObj_data (by obtain ⟨cd,hc,_⟩:=c.mro;rw [hc];rfl) c.cl c.cg c.ct
  obtain ⟨hp,g,d,t,os⟩:=s
  have T0:=I.type (M:=model prog w)
  have T1:=PySem.W.looks_findIn (M:=model prog w) X c.ga
  have T2:=PySem.W.looks_findIn (M:=model prog w) X c.gh
  unfold getAttr? getAttrBy? getAttrBy
  refine S8 (wpAny_mkText (S8 (wpAny_attempt (wpAny_holding (S8 (T0.at (S8 (T1.at ?_))))))))
  show Sh _ _ (getAttrByItsOwn (.ref x) _ (.ref C) _ _ _) _ _ _
  unfold getAttrByItsOwn
  refine S8 (show Sh _ _ (typeLookup (.ref C) "__getattr__") _ _ _ from T2.at ?_)
  show Sh _ _ ((holding _ (boundAndCalled (.builtin "BaseException.__getattribute__") (.ref x) (.str "__class__" t))).attempt >>=_) _ _ _
  unfold boundAndCalled
  rw [F.excAttr_ValueError.ga.bind]
  refine S8 (wpAny_attempt (wpAny_holding (S8 (S9 (wpAny_call (Jxz (s:=⟨hp,g,d,t+1,os⟩) c X I hf ?_ (λz=>nomatch z)))))))
  show Sh _ _ (holding [_] (call _ [_,.ref x,.ref C]) >>=ret) _ _ _
  refine S8 (wpAny_holding (wpAny_call (PySem.W.class_get (s:=⟨hp,g,d,t+1,os⟩) X I c.mo (S9 ?_))))
  show Sh _ _ (handedOut (.ref C)) _ _ _
  rw [PySem.W.handedOut_of rfl]
  exact S9 (S9 kq)
end
section
variable {M:Model} {A:Se} {E:S6->S7->Prop} {s:S7} {env:Env} {outer:List Env} {base:Sg} {L e T:S5} {oe oT:Obj} {vs ts:Array S6} {Q:Unit->S7->Prop}
theorem Jtm {head:S6} {hadNext:Bool} (hfr:A.frames=some (env::outer)) (hl:s.heap.FunFrames base (env::outer)) (hf:env.frame=some L) (he:s.heap.get? e=some oe) (hd:oe.data= .fields vs) (hz:1 < vs.size)
  (hQ:∀h' T,(∀b o,s.heap.get? b=some o->b∉frs (env::outer)->b≠e->h'.get? b=some o)->(∀b o,s.heap.get? b=some o->b≠e->∃sl,h'.get? b=some {o with slots:=sl})->s.heap.objs.size<=T->
   h'.get? e=some (oe.mapFields (·.setIfInBounds 1 (.ref T)))->(∃oT ts,h'.get? T=some oT/\oT.data= .fields ts/\ts[3]?=some (rawInt L))->Q () {s with heap:=h'}):
  Sh M A (do let a<-frameOf env;let pl<-entryPlaceOf L hadNext;let b<-EntryCells.newEntry head a .none (rawInt L) .none pl;setField (.ref e) 1 b) Q E s:=by
 have hen:e∉frs (env::outer):=λz=>by
  obtain ⟨_,o,ho,nf⟩:=hl.mem z
  rw [he] at ho
  cases ho
  exact nf vs hd
 refine S8 (wpAny_frameOf_fun hfr hl hf λh1 sl1=>S8 (wpAny_entryPlaceOf λpl hpl=>?_))
 unfold EntryCells.newEntry newFields
 have he1:h1.get? e=some oe:=(sl1.2.1 e hen).trans he
 have nT:h1.objs.size≠e:=ybo (yj he1)
 refine S8 (wpAny_newObj_type (wpAny_setField (ym _ he1) hd hz (hQ _ h1.objs.size (λb o hb hn ne=>?_) (λb o hb ne=>?_) (Nat.le_of_eq sl1.1.symm) (ycj _ (ym _ he1) (Obj.isFreed_of_fields (Obj.data_mapFields hd _))) ?_)) (hpl.sizeOk5 _ _ _ _ _))
 ·rw [ybg _ _ (yh ne)]
  exact ym _ ((sl1.2.1 b hn).trans hb)
 ·obtain ⟨sl,q⟩:=sl1.2.2 b o hb
  exact ⟨sl,by rw [ybg _ _ (yh ne)];exact ym _ q⟩
 ·refine ⟨_,_,(ybg _ _ (yh nT)).trans (yag h1 rfl),rfl,?_⟩
  first|(simp;done)|(rcases hpl with rfl|⟨_,_,_,_,_,_,_,rfl⟩ <;> simp)
theorem Jwe (hfr:A.frames=some (env::outer)) (hl:s.heap.FunFrames base (env::outer)) (hf:env.frame=some L) (he:s.heap.get? e=some oe) (hd:oe.data= .fields vs) (h1:vs[1]?=some .none)
  (hQ:∀h' T,(∀b o,s.heap.get? b=some o->b∉frs (env::outer)->b≠e->h'.get? b=some o)->(∀b o,s.heap.get? b=some o->b≠e->∃sl,h'.get? b=some {o with slots:=sl})->s.heap.objs.size<=T->
   h'.get? e=some (oe.mapFields (·.setIfInBounds 1 (.ref T)))->(∃oT ts,h'.get? T=some oT/\oT.data= .fields ts/\ts[3]?=some (rawInt L))->Q () {s with heap:=h'}):
  Sh M A (noteFrame (.ref e) env) Q E s:=by
 unfold noteFrame
 simp only [hf]
 refine S8 (wpAny_field he hd h1 ?_)
 rw [if_neg (by decide:¬(Value.none !=Value.none)=true)]
 exact Jtm hfr hl hf he hd (ybl.mp h1).1 hQ
theorem Jyf (hfr:A.frames=some (env::outer)) (hl:s.heap.FunFrames base (env::outer)) (hf:env.frame=some L) (he:s.heap.get? e=some oe) (hd:oe.data= .fields vs) (h1:vs[1]?=some (.ref T))
  (hT:s.heap.get? T=some oT) (hdT:oT.data= .fields ts) (h3:ts[3]?=some .none) (ne:T≠e)
  (hQ:∀h' T',(∀b o,s.heap.get? b=some o->b∉frs (env::outer)->b≠e->b≠T->h'.get? b=some o)->(∀b o,s.heap.get? b=some o->b≠e->b≠T->∃sl,h'.get? b=some {o with slots:=sl})->s.heap.objs.size<=T'->
   h'.get? e=some (oe.mapFields (·.setIfInBounds 1 (.ref T')))->(∃oT ts,h'.get? T'=some oT/\oT.data= .fields ts/\ts[3]?=some (rawInt L))->Q () {s with heap:=h'}):
  Sh M A (noteFrame (.ref e) env) Q E s:=by
 unfold noteFrame
 simp only [hf]
 refine S8 (wpAny_field he hd h1 ?_)
 rw [if_pos (by simp:(Value.ref T !=Value.none)=true)]
 refine S8 (wpAny_field hT hdT h3 ?_)
 rw [if_neg (by simp [rawInt]:¬(Value.none==rawInt L)=true)]
 have ot:∀b,b≠T->(s.heap.update T (Obj.mapFields (·.setIfInBounds 3 Value.none))).get? b=s.heap.get? b:=λb hb=>ybg _ _ (yh hb)
 have nr:∀b o,s.heap.get? b=some o->(∀ws,o.data≠ .fields ws)->b≠T:=λb o hb nf z=>by
  rw [z,hT] at hb
  cases hb
  exact nf ts hdT
 refine S8 (wpAny_setField hT hdT (ybl.mp h3).1 ?_)
 refine Jtm (s:={s with heap:=s.heap.update T (Obj.mapFields (·.setIfInBounds 3 Value.none))}) hfr (hl.of_keeps λb o hb nf=>⟨o,(ot b (nr b o hb nf)).trans hb,rfl⟩) hf ((ot e (yh ne)).trans he) hd (ybl.mp h1).1 λh' T' k1 k2 k3 k4 k5=>?_
 refine hQ h' T' (λb o hb hn h1 h2=>k1 b o ((ot b h2).trans hb) hn h1) (λb o hb h1 h2=>k2 b o ((ot b h2).trans hb) h1) ?_ k4 k5
 have z:(s.heap.update T (Obj.mapFields (·.setIfInBounds 3 Value.none))).objs.size=s.heap.objs.size:=Heap.size_after_update ..
 rw [<-z];exact k3
end
def Flt (X:Cx) (pins:List (S5×Obj)) (H:Hp) (h:Sg) (e:S5) (fl:S6):Prop:=
 ∃oe vs T oT ts,h.get? e=some oe/\oe.data= .fields vs/\vs[1]?=some (.ref T)/\H T=none/\h.get? T=some oT/\oT.data= .fields ts/\ts[3]?=some fl/\X.s₀.heap.objs.size<=T/\∀p∈X.pn++pins,p.1≠T
def Jwz (X:Cx):Prop:=X.stack=X.env::X.outer/\X.env.frame=some X.env.locals
section
variable {X:Cx} {pins:List (S5×Obj)} {σ:St} {H:Hp} {s:S7} {e C:S5} {od:Option S5} {fr fr':Bool} {A:Se} {M:Model} {E:S6->S7->Prop} {Q:Unit->S7->Prop} {fl:S6} {h':Sg}
theorem Sw.freeOf (I:Sw X pins σ H s) {b:S5} {o:Obj} {ts:Array S6} (hb:s.heap.get? b=some o) (hd:o.data= .fields ts):b≠X.env.locals/\∀x c,X.env.cells.lookup x=some c->c≠b:=by
 refine ⟨λz=>?_,λx c e z=>?_⟩
 ·obtain ⟨m,⟨o',es,ep,ho',hd',_⟩,_⟩:=I.loc
  rw [z,ho'] at hb;cases hb;rw [hd'] at hd;cases hd
 ·obtain ⟨v,o',ho',hd'⟩:=I.cell x c e
  rw [z,hb] at ho';cases ho';rw [hd] at hd';cases hd'
theorem Sw.fly {ch:List S5} (I:Sw X pins σ H s) (q:H e=some (XO e C od fr)) (hch:∀b∈ch,X.s₀.heap.objs.size<=b/\H b=none/\(∃o ts,s.heap.get? b=some o/\o.data= .fields ts)/\∀p∈X.pn++pins,p.1≠b)
  (k:∀b o,s.heap.get? b=some o->b∉frs X.stack->b≠e->b∉ch->h'.get? b=some o) (ks:∀b o,s.heap.get? b=some o->b≠e->b∉ch->∃sl,h'.get? b=some {o with slots:=sl})
  (new:Saa X.prog X.w (upd H e (XO e C od fr')) h' e (XO e C od fr')):Sw X pins σ (upd H e (XO e C od fr')) {s with heap:=h'}:=by
 have ne:∀b u,H b=some u->u≠XO e C od fr->b≠e:=λb u z d w'=>d (by rw [w',q] at z;exact (yt.inj z).symm)
 have nn:∀b,H b=none->b≠e:=λb z w'=>by rw [w',q] at z;cases z
 have u:Un (frs X.stack) ch H (upd H e (XO e C od fr')) s.heap h':=by
  refine ⟨λb o hb n hs hc=>k b o hb hs (nn b n) hc,λb o hb n _ hc=>ks b o hb (nn b n) hc,λb o _ n _=>by rw [Jjc (nn b n)];exact n,λb o hb hc=>?_,λb xs z=>?_,λb o u z=>?_,λb ps z=>⟨#[],?_⟩⟩
  ·by_cases w':b=e
   ·rw [w'];exact new.2.1
   ·obtain ⟨sl,z⟩:=ks b o hb w' hc
    exact ⟨_,z⟩
  ·rw [Jjc (ne b _ z (λw'=>by cases w'))];exact z
  ·rw [Jjc (ne b _ z (λw'=>by cases w'))];exact z
  ·rw [Jjc (ne b _ z (λw'=>by cases w')),z];simp
 refine I.call (g':=s.gens) (d':=s.drawn) (t':=s.toks) (ch:=ch) u (λb o z=>?_) I.bare λb hb=>?_
 ·by_cases w':b=e
  ·subst w'
   rw [Sv] at z;cases z
   exact new
  ·rw [Jjc w'] at z
   refine (I.hok b o z).stay (λc v hc zz=>k c v zz ?_ ?_ ?_) (λc zz=>by rw [Jjc (ne c _ zz (λw'=>by cases w'))];exact zz) (λc xs zz=>by rw [Jjc (ne c _ zz (λw'=>by cases w'))];exact zz) λc xs zz=>by rw [Jjc (ne c _ zz (λw'=>by cases w'))];exact zz
   ·intro hs
    have:=I.stkFree c hs
    rcases hc with rfl|hc
    ·rw [this] at z;cases z
    ·rw [this] at hc;cases hc
   ·rcases hc with rfl|hc
    ·exact w'
    ·exact ne c _ hc (λw'=>by cases w')
   ·intro hb
    have:=(hch c hb).2.1
    rcases hc with rfl|hc
    ·rw [this] at z;cases z
    ·rw [this] at hc;cases hc
 ·obtain ⟨h1,_,⟨o,ts,ho,hd⟩,h4⟩:=hch b hb
  exact ⟨.inr h1,(I.freeOf ho hd).1,(I.freeOf ho hd).2,h4⟩
theorem Ju8 (I:Sw X pins σ H s) (hs:Jwz X) (hA:A.frames=some X.stack) (q:H e=some (XO e C od fr)) (hfl:fr=true\/Flt X pins H s.heap e .none)
  (h:∀s',Sw X pins σ (upd H e (XO e C od false)) s'->Flt X pins (upd H e (XO e C od false)) s'.heap e (rawInt X.env.locals)->Q () s'):Sh M A (noteFrame (.ref e) X.env) Q E s:=by
 obtain ⟨o,vs,he,hc,hd,hf,⟨t0,h0⟩,y,h1,hy⟩:=Jr5 I.hok q
 have hA':A.frames=some (X.env::X.outer):=by rw [hA,hs.1]
 have FF:s.heap.FunFrames X.base (X.env::X.outer):=by rw [<-hs.1];exact I.stack
 have sub:∀b,b∉frs X.stack->b∉frs (X.env::X.outer):=λb z w'=>z (by rw [hs.1];exact w')
 have new:∀{h':Sg} {T:S5},h'.get? e=some (o.mapFields (·.setIfInBounds 1 (.ref T)))->Saa X.prog X.w (upd H e (XO e C od false)) h' e (XO e C od false):=λ{h' T} z=>by
  have hz:1 < vs.size:=(ybl.mp h1).1
  refine Yy z ((Obj.cls_mapFields _ _).trans hc) ?_ (Obj.data_mapFields hf _) ⟨t0,by rw [Array.getElem?_setIfInBounds_ne (by decide)];exact h0⟩ ⟨.ref T,by simp [hz],λz=>nomatch z⟩
  obtain ⟨_,_,dt,_⟩:=o
  cases dt <;> first|exact hd|cases hf
 have fin:∀{h':Sg} {T:S5},Sw X pins σ (upd H e (XO e C od false)) {s with heap:=h'}->s.heap.objs.size<=T->h'.get? e=some (o.mapFields (·.setIfInBounds 1 (.ref T)))->(∃oT ts,h'.get? T=some oT/\oT.data= .fields ts/\ts[3]?=some (rawInt X.env.locals))->Q () {s with heap:=h'}:=λ{h' T} J k3 k4 ⟨oT,ts,k5,k6,k7⟩=>by
  have hz:1 < vs.size:=(ybl.mp h1).1
  refine h _ J ⟨_,_,T,oT,ts,k4,Obj.data_mapFields hf _,by simp [hz],?_,k5,k6,k7,yv I.sz k3,λp hp z=>?_⟩
  ·rw [Jjc (λz=>absurd (yj he) (by rw [<-z];exact Nat.not_lt.mpr k3))]
   exact I.hok.fresh k3
  ·obtain ⟨z1,_⟩:=I.pin p hp
   exact absurd (yj z1) (by rw [z];exact Nat.not_lt.mpr k3)
 by_cases hfr:y= .none
 ·subst hfr
  refine Jwe hA' FF hs.2 he hf h1 λh' T k1 k2 k3 k4 k5=>fin (I.fly (ch:=[]) q (λb z=>absurd z (by simp)) (λb o hb hn ne _=>k1 b o hb (sub b hn) ne) (λb o hb ne _=>k2 b o hb ne) (new k4)) k3 k4 k5
 ·rcases hfl with z|⟨oe,ws,T,oT,ts,z1,z2,z3,z4,z5,z6,z7,z8,z9⟩
  ·exact absurd (hy z) hfr
  ·rw [he] at z1;cases z1
   rw [hf] at z2;cases z2
   have ne:T≠e:=λw'=>by rw [w',q] at z4;cases z4
   refine Jyf hA' FF hs.2 he hf z3 z5 z6 z7 ne λh' T' k1 k2 k3 k4 k5=>fin (I.fly (ch:=[T]) q (λb hb=>?_) (λb o hb hn ne hc=>k1 b o hb (sub b hn) ne (by simpa using hc)) (λb o hb ne hc=>k2 b o hb ne (by simpa using hc)) (new k4)) k3 k4 k5
   obtain rfl:b=T:=by simpa using hb
   exact ⟨z8,z4,⟨oT,ts,z5,z6⟩,z9⟩
theorem Jp0 (I:Sw X pins σ H s) (q:H e=some (XO e C od fr)) (hfl:Flt X pins H s.heap e fl) (h:∀s',Sw X pins σ H s'->Flt X pins H s'.heap e .none->Q () s'):Sh M A (setFlight (.ref e) none) Q E s:=by
 obtain ⟨oe,vs,T,oT,ts,z1,z2,z3,z4,z5,z6,z7,z8,z9⟩:=hfl
 have hz:3 < ts.size:=(ybl.mp z7).1
 have ne:T≠e:=λw'=>by rw [w',q] at z4;cases z4
 have ot:∀b,b≠T->(s.heap.update T (Obj.mapFields (·.setIfInBounds 3 Value.none))).get? b=s.heap.get? b:=λb hb=>ybg _ _ (yh hb)
 refine wpAny_setFlight_none z1 z2 z3 z5 z6 hz (h _ (I.turned (it:=T) (t':=s.toks) (λb o hb z=>(ot b hb).trans z) z4 (I.freeOf z5 z6).1 (.inr z8) (I.freeOf z5 z6).2 z9) ?_)
 exact ⟨oe,vs,T,_,_,(ot e (yh ne)).trans z1,z2,z3,z4,ycj _ z5 (Obj.isFreed_of_fields (Obj.data_mapFields z6 _)),Obj.data_mapFields z6 _,by simp [hz],z8,z9⟩
end
def CXX (P:Sb) (w:Sd):CXT:=λouter H s E ev s'=>∃e C dx H',ev= .ref e/\s'.os=s.os/\AllBare s'.gens/\Un (frs outer) [] H H' s.heap s'.heap/\HOk P w H' s'.heap/\H' e=some (XO e C (some dx) false)/\
 (∃oe vs T oT ts,s'.heap.get? e=some oe/\oe.data= .fields vs/\vs[1]?=some (.ref T)/\H' T=none/\s'.heap.get? T=some oT/\oT.data= .fields ts/\ts[3]?=some .none/\s.heap.objs.size<=T)/\E (.ref C) (some e) H'
def Jod (X:Cx) (R:St->XK):Prop:=∀pins σ H s e C dx fr,Sw X pins σ H s->H e=some (XO e C (some dx) fr)->(fr=true\/Flt X pins H s.heap e .none)->R σ (.ref C) (some e) (upd H e (XO e C (some dx) false))->X.xe (.ref e) s
theorem Jjt {P:Sb} {w:Sd} {K:Si} {mg:Str->Option S6} {base:Sg} {N:List Str} {qual:Str} {scope:Scope} {f:S5} {cd:S6} {A:Se} {outer:List Env} {s:S7} {H:Hp} {E:XK}:
  Jod (Jsi (CXX P w) P w K mg base N qual scope f cd A outer s H E) (λ_=>E):=by
 intro pins σ H1 s1 e C dx fr I q hfl hE
 show Sh _ _ (leaving _ _) _ _ _
 unfold leaving
 refine S8 (Ju8 I ⟨rfl,rfl⟩ I.ok.frames q hfl λs2 I2 f2=>Jp0 I2 Sv f2 λs3 I3 f3=>?_)
 obtain ⟨oe,vs,T,oT,ts,z1,z2,z3,z4,z5,z6,z7,z8,_⟩:=f3
 exact ⟨e,C,dx,_,rfl,I3.os,I3.bare,I3.base,I3.hok,Sv,⟨oe,vs,T,oT,ts,z1,z2,z3,z4,z5,z6,z7,z8⟩,hE⟩
theorem Smo {H:Hp} {a:S5} {o:HO} (h:H a=some o):upd H a o=H:=by
 funext b
 unfold upd
 split
 ·rename_i z;rw [z,h]
 ·rfl
section
variable {X:Cx} {pins:List (S5×Obj)} {σ:St} {H:Hp} {s s':S7} {R:St->XK} {ev:S6}
theorem Jy1 (hw:Jod X R) (I:Sw X pins σ H s) (h:CXX X.prog X.w X.stack H s (R σ) ev s'):X.xe ev s':=by
 obtain ⟨e,C,dx,H',rfl,ho,hg,un,hok,q,⟨oe,vs,T,oT,ts,z1,z2,z3,z4,z5,z6,z7,z8⟩,hR⟩:=h
 have I':Sw X pins σ H' s':=I.call' (ch:=[]) ho un hok hg λb z=>absurd z (by simp)
 refine hw pins σ H' s' e C dx false I' q (.inr ⟨oe,vs,T,oT,ts,z1,z2,z3,z4,z5,z6,z7,yv I.sz z8,λp hp z=>?_⟩) (by rw [Smo q];exact hR)
 obtain ⟨y1,_⟩:=I.pin p hp
 exact absurd (yj y1) (by rw [z];exact Nat.not_lt.mpr z8)
end
theorem Fun.okX {P:Sb} {w:Sd} {K:Si} {mg:Str->Option S6} {base:Sg} {x qual:Str} {st:Sf} {f:S5} {fd:Sc} {N ps:List Str} {k:Nat} {sp:Sp} (F:Fun K x qual st f fd) (S:Jjh N ps (Jje st)) (len:∀vs H Q E,sp vs H Q E->vs.length=ps.length)
  (hbody:∀(cdv:S6) (A:Se) (outer:List Env) (s:S7) (H:Hp) (vs:List V) (Q:VK) (E:XK),Sao k (A.deeper (envOfC qual (Jje st) s.heap.objs.size f cdv))->sp vs H Q E->
   ∃t,PSs (Jsi (CXX P w) P w K mg base N qual (Jje st) f cdv A outer s H E) (Jli st) t/\t {nx:=λ_ H'=>Q .non H',rt:=Q} (start N vs) H):Jjz P w K mg base (CXX P w) (k+1) f fd ps sp:=by
 obtain ⟨oc,od,kV,doc,pm,an,cdv,ct,osl,rfl,lk,hcd⟩:=F.ex
 exact Sjn lk hcd S len λA outer s H vs Q E hr hsp=>hbody cdv A outer s H vs Q E hr hsp
def Sme (sp:Sp) (R:St->XK) (t:TA):TE:=λσ H Q=>t σ H λvs H1=>sp vs H1 Q (R σ)
def Yn (C:S5) (m:Str) (sp:Sp) (R:St->XK) (ta:TE) (t:TA):TE:=λσ H Q=>ta σ H λx H1=>∃a dx fs,x= .ref a/\H1 a=some (.ins C dx fs)/\fs.lookup m=none/\t σ H1 λvs H2=>sp (x::vs) H2 Q (R σ)
def Smg (C:S5) (sp:Sp) (R:St->XK) (t:TA):TE:=λσ H Q=>t σ H λvs H1=>∀x dx,H1 x=none->H1 dx=none->dx≠x->
 sp (.ref x::vs) (upd (upd H1 dx (.own x)) x (.ins C dx [])) (λv H2=>v= .non/\Q (.ref x) H2) (R σ)
section
variable {X:Cx} {k j:Nat} {f C:S5} {fd:Sc} {ps:List Str} {sp:Sp} {R:St->XK} {x m:Str} {p pos apos:Pos} {e o:Expr} {es:List Expr} {ta:TE} {t:TA}
theorem Jup {pins:List (S5×Obj)} {σ:St} {H:Hp} {s:S7} {Q:VK} {us:List S6} {vs:List V} (G:Jjz X.prog X.w X.K X.mg X.base (CXX X.prog X.w) k f fd ps sp) (hw:Jod X R) (hr:Sao k X.A) (hb:Sbh X.K fd ps [])
  (I:Sw X pins σ H s) (r:Sa2 vs us) (h:sp vs H Q (R σ)):Sh (model X.prog X.w) X.A (call (.ref f) us) (EP X pins σ Q) X.xe s:=by
 have hl:(us++ []).length=ps.length:=by rw [yar,<-r.length,G.len _ _ _ _ h]
 have hb':=hb s us I.kIn hl
 rw [yar] at hb'
 refine wpAny_call (codeAny_mono (G.run X.A X.stack s H ⟨us,[]⟩ us vs Q (R σ) hr I.env0 hb' r h) λr s' hq=>?_)
 cases r with
 |error e=>exact Jy1 hw I hq
 |ok fl=>
  cases fl with
  |ret u=>exact I.after hq
  |next=>exact False.elim hq
  |brk=>exact False.elim hq
  |cont=>exact False.elim hq
theorem Jku {st:Sf} (F:FT X.K X.mg x st ps f fd) (G:Jjz X.prog X.w X.K X.mg X.base (CXX X.prog X.w) k f fd ps sp) (hw:Jod X R) (hr:Sao j X.A) (hk:k<=j) (ha:PA X (e::es) t) (hg:Gl X x:=by rfl)
  (hdb:(x==("__debug__" :Str))=false:=by decide) (he:starEach (e::es) X.env=(false,eval e X.env)::starEach es X.env:=by rfl) (hpl:(backTo pos (starEach es X.env)).any (·.1)=false:=by rfl):
  PE X (.Call (.Name x p) (e::es) [] pos) (Sme sp R t):=by
 intro pins s σ H Q I h
 refine wpAny_Call_Name_kw (Jo2 I hg F.mgx ?_ hdb)
 refine PySem.W.callWith_K (h₀:=X.base) I.ok.mod.kin F.fn.kp (thn (ha pos pins s σ H _ I h) λus s1 ⟨vs,H1,I1,r,q⟩=>⟨I1.kIn,?_⟩) he hpl
 exact Jup G hw (hr.mono hk) F.bd I1 r q
theorem Jkp {pl:Sem Bool} (he:PE X o ta) (c:Cls X.K C) (hm:Jph X.K C m f) (G:Jjz X.prog X.w X.K X.mg X.base (CXX X.prog X.w) k f fd ps sp) (hw:Jod X R) (hr:Sao j X.A) (hk:k<=j) (hb:Sbh X.K fd ps []) (ha:PA X (e::es) t)
  (hst:starEach (e::es) X.env=(false,eval e X.env)::starEach es X.env:=by rfl) (hpl:(backTo pos (starEach es X.env)).any (·.1)=false:=by rfl)
  (ht:eval (.Call (.Attribute o m apos) (e::es) [] pos) X.env=(do
   let ov<-eval o X.env
   standAt apos.atName
   let (f,first)<-holding [ov] (getMethod ov m pl)
   callWith pos f first (backTo pos (starEach (e::es) X.env)) (backToKw pos (keywordEach [] X.env))):=by rfl):
  PE X (.Call (.Attribute o m apos) (e::es) [] pos) (Yn C m sp R ta t):=by
 intro pins s σ H Q I h
 refine PySem.W.methodCall_KW (pl:=pl) (thn (he pins s σ H _ I h) λu s1 zq=>?_) ht
 obtain ⟨x,H1,I1,rx,a,dx,fs,ex,ea,l,q⟩:=zq
 subst ex
 obtain rfl:u=Value.ref a:=rx
 refine Jo1 I1 ea c hm l ?_
 refine PySem.W.callWith_K (first:=[.ref a]) (h₀:=X.base) I.ok.mod.kin hm.kp (thn (ha pos pins s1 σ H1 _ I1 q) λus s2 ⟨vs,H2,I2,r,q2⟩=>⟨I2.kIn,?_⟩) hst hpl
 exact Jup (us:=.ref a::us) (vs:=.ref a::vs) G hw (hr.mono hk) hb I2 (.cons rfl r) q2
theorem Jnv (Mk':Mk X.K C f) (G:Jjz X.prog X.w X.K X.mg X.base (CXX X.prog X.w) k f fd ps sp) (hw:Jod X R) (hr:Sao j X.A) (hk:k+1<=j) (hb:Sbh X.K fd ps []) (hm:X.mg x=some (.ref C)) (ha:PA X (e::es) t) (hg:Gl X x:=by rfl)
  (hdb:(x==("__debug__" :Str))=false:=by decide) (he:starEach (e::es) X.env=(false,eval e X.env)::starEach es X.env:=by rfl) (hpl:(backTo pos (starEach es X.env)).any (·.1)=false:=by rfl):
  PE X (.Call (.Name x p) (e::es) [] pos) (Smg C sp R t):=by
 intro pins s σ H Q I h
 refine wpAny_Call_Name_kw (Jo2 I hg hm ?_ hdb)
 refine PySem.W.callWith_K (h₀:=X.base) I.ok.mod.kin Mk'.kp (thn (ha pos pins s σ H _ I h) λus s1 ⟨vs,H1,I1,r,q⟩=>⟨I1.kIn,?_⟩) he hpl
 have hq:=q (s1.heap.objs.size+1) s1.heap.objs.size (I1.hok.fresh (Nat.le_succ _)) (I1.hok.fresh (yg _)) (yu (ybz _))
 have I2:=Sw.made (C:=C) I1
 have r2:Sa2 (V.ref (s1.heap.objs.size+1)::vs) (Value.ref (s1.heap.objs.size+1)::us):=.cons rfl r
 have hl:(Value.ref (s1.heap.objs.size+1)::us++ []).length=ps.length:=by
  rw [yar,<-r2.length,G.len _ _ _ _ hq]
 refine wpAny_call (Jv9 (f:=f) I1.kIn Mk'.makes Mk'.init (beq_iff_eq.mp Mk'.fn) (codeAny_mono (G.run _ X.stack _ _ ⟨Value.ref (s1.heap.objs.size+1)::us,[]⟩ (Value.ref (s1.heap.objs.size+1)::us) _ _ (R σ) ((hr.mono hk).make C us [])
  (I2.env0.make C us []) (by have:=hb _ (Value.ref (s1.heap.objs.size+1)::us) I2.kIn hl;rw [yar] at this;exact this) r2 hq) λr s' hq'=>?_))
 cases r with
 |error e=>exact Jy1 hw I2 hq'
 |ok fl=>
  cases fl with
  |ret u=>
   obtain ⟨v,H',I3,rv,ev,q3⟩:=I2.after hq'
   subst ev
   exact ⟨rv,⟨V.ref (s1.heap.objs.size+1),H',I3,rfl,q3⟩⟩
  |next=>exact False.elim hq'
  |brk=>exact False.elim hq'
  |cont=>exact False.elim hq'
end
def Y9 (K:Si) (R:St->XK) (te:TE):TS:=λ_ σ H=>te σ H λv H1=>∃e C W fI dx,v= .ref e/\H1 e=some (XO e C (some dx) true)/\Sag K C W fI/\R σ (.ref C) (some e) (upd H1 e (XO e C (some dx) false))
section
variable {X:Cx} {R:St->XK} {x:Expr} {pos:Pos} {te:TE}
theorem Jkx (hw:Jod X R) (hc:X.calm=true) (hx:PE X x te):PS X (.Raise (some x) none pos) (Y9 X.K R te):=by
 intro pins s σ H D I h
 rw [arm_exec_Raise]
 refine S8 (wpAny_standAt ?_)
 show Sh _ _ (raiseStmt X.env (some (do let v<-eval x X.env;standAt pos;pure v)) none) _ _ _
 unfold raiseStmt
 refine S8 (S8 (thn (hx pins s σ H _ I h) λu s1 ⟨y,H1,I1,ry,e,C,W,fI,dx,ey,q,c,k⟩=>S8 (wpAny_standAt (S9 ?_))))
 subst ey
 obtain rfl:u=Value.ref e:=ry
 obtain ⟨o,vs,he,hcl,hd,hf,h0,y,h1,hy⟩:=Jr5 I1.hok q
 have hy':=hy rfl
 subst hy'
 have fin:X.xe (.ref e) s1:=hw pins σ H1 s1 e C dx true I1 q (.inl rfl) k
 have hh:X.A.handled=none:=I.ok.hd hc
 obtain ⟨nm,qn,N,bs,sn,sub,ab,col,dd,k0,k1,k2,k3,k5,l⟩:=c.obj
 have kC:=I1.kIn _ _ l
 have hcB:(Value.ref C:: .ref W::VEm).contains (.type "BaseException")=true:=by simp
 obtain ⟨oc,odi,oda,osl⟩:=o
 dsimp only at hcl hd hf
 subst hcl hd hf
 obtain ⟨hp,g,d,tk,os⟩:=s1
 repeat (first|with_reducible refine wpAny_loadPart_at he ?_|with_reducible refine wpAny_loadPart_at kC ?_|(with_reducible refine wpAny_isSubtype_exc kC ?_;rw [hcB])|with_reducible refine wpAny_field he rfl h1 ?_|wp_step)
 exact wpAny_raiseNew_none hh fin
end
structure Siq (K:Si) (C:S5):Prop where
 obj:∃(dd:Option S5) (cd:ClassData) (sl:Array (Option S6)),K.lookup C=some ⟨.type "type",dd,.cls cd,sl⟩
 mb:Sl K C (.type "BaseException")=some true
section
variable {prog:Sb} {w:Sd} {A:Se} {E:S6->S7->Prop} {s:S7} {K:Si} {e C C0:S5} {oe:Obj} {b:Bool}
theorem Jwb {Q:Bool->S7->Prop} (X:K.In s.heap) (c0:Siq K C0) (he:s.heap.get? e=some oe) (hc:oe.cls= .ref C) (hm:Sl K C (.ref C0)=some b) (q:Q b s):Sh (model prog w) A (excMatches (.ref e) (.ref C0)) Q E s:=by
 obtain ⟨dd,cd,sl,l⟩:=c0.obj
 have k0:=X _ _ l
 have f0:=tc_notTuple
 have m1:=PySem.W.looks_mroIn (M:=model prog w) X c0.mb
 have m2:=PySem.W.looks_mroIn (M:=model prog w) X hm
 obtain ⟨oc,odi,oda,osl⟩:=oe
 dsimp only at hc
 subst hc
 obtain ⟨hp,g,d,tk,os⟩:=s
 unfold excMatches
 repeat (first|with_reducible refine wpAny_loadPart_at he ?_|with_reducible refine wpAny_loadPart_at k0 ?_|with_reducible refine m1.at ?_|with_reducible refine m2.at ?_|wp_step)
 cases b <;> (repeat wp_step) <;> exact q
end
def Cx.caught (X:Cx) (e:S5):Cx:={X with A:=X.A.mark (some (.ref e)),calm:=false,xe:=λ_ _=>False}
def Cx.tried (X:Cx) (pins:List (S5×Obj)) (R:St->XK):Cx:=
 {X with pn:=X.pn++pins,xe:=λev s'=>∃σ H e C dx fr,ev= .ref e/\Sw X pins σ H s'/\H e=some (XO e C (some dx) fr)/\(fr=true\/Flt X pins H s'.heap e .none)/\R σ (.ref C) (some e) (upd H e (XO e C (some dx) false))}
section
variable {X:Cx} {pins pins':List (S5×Obj)} {σ:St} {H:Hp} {s:S7} {R:St->XK} {e:S5}
theorem Sw.caught (I:Sw X pins σ H s) (e:S5):Sw (X.caught e) pins σ H s:=
 ⟨⟨I.ok.mod,I.ok.kind,I.ok.glob,I.ok.blt,I.ok.above,I.ok.inj,I.ok.has,I.ok.cab,(λz=>nomatch z),I.ok.frames,I.ok.stk,I.ok.exf,I.ok.bs,I.ok.bsz,I.ok.noex,I.ok.exfs,I.ok.funs,I.ok.frf⟩,I.os,I.bare,I.base,I.loc,I.cell,I.free,I.freeC,I.pin,I.hok,I.len⟩
theorem Sw.uncaught (ok:X.Ok) (I:Sw (X.caught e) pins σ H s):Sw X pins σ H s:=⟨ok,I.os,I.bare,I.base,I.loc,I.cell,I.free,I.freeC,I.pin,I.hok,I.len⟩
theorem Sw.tried (I:Sw X pins σ H s) (R:St->XK):Sw (X.tried pins R) [] σ H s:=
 ⟨⟨I.ok.mod,I.ok.kind,I.ok.glob,I.ok.blt,I.ok.above,I.ok.inj,I.ok.has,I.ok.cab,I.ok.hd,I.ok.frames,I.ok.stk,I.ok.exf,I.ok.bs,I.ok.bsz,I.ok.noex,I.ok.exfs,I.ok.funs,I.ok.frf⟩,I.os,I.bare,I.base,I.loc,I.cell,I.free,I.freeC,(λp hp=>I.pin p (by rw [yar] at hp;exact hp)),I.hok,I.len⟩
theorem Sw.untried (I:Sw (X.tried pins R) pins' σ H s):Sw X pins σ H s:=
 ⟨⟨I.ok.mod,I.ok.kind,I.ok.glob,I.ok.blt,I.ok.above,I.ok.inj,I.ok.has,I.ok.cab,I.ok.hd,I.ok.frames,I.ok.stk,I.ok.exf,I.ok.bs,I.ok.bsz,I.ok.noex,I.ok.exfs,I.ok.funs,I.ok.frf⟩,I.os,I.bare,I.base,I.loc,I.cell,I.free,I.freeC,(λp hp=>I.pin p (ybx _ hp)),I.hok,I.len⟩
theorem Smv:Jod (X.tried pins R) R:=λpins' σ H s e C dx fr I q hfl hR=>⟨σ,H,e,C,dx,fr,rfl,I.untried,q,hfl.imp id λ⟨oe,vs,T,oT,ts,z1,z2,z3,z4,z5,z6,z7,z8,z9⟩=>⟨oe,vs,T,oT,ts,z1,z2,z3,z4,z5,z6,z7,z8,λp hp=>z9 p (ybx _ hp)⟩,hR⟩
theorem SP.map {X Y:Cx} {pl pm:List (S5×Obj)} {D:Sbz} {f:Flow} {s':S7} (hI:∀σ H,Sw X pl σ H s'->Sw Y pm σ H s') (h:SP X pl D f s'):SP Y pm D f s':=by
 cases f with
 |next=>obtain ⟨σ',H',I,q⟩:=h;exact ⟨σ',H',hI _ _ I,q⟩
 |brk=>obtain ⟨σ',H',I,q⟩:=h;exact ⟨σ',H',hI _ _ I,q⟩
 |cont=>obtain ⟨σ',H',I,q⟩:=h;exact ⟨σ',H',hI _ _ I,q⟩
 |ret u=>obtain ⟨v,σ',H',I,r,q⟩:=h;exact ⟨v,σ',H',hI _ _ I,r,q⟩
theorem Jyu {M:Model} {A:Se} {E:S6->S7->Prop} {i:Nat} {n:Str} {pos:Pos} {Q:Unit->S7->Prop} (I:Sw X pins σ H s) (hN:X.N.Nodup) (hi:X.N[i]?=some n) (hk:X.env.scope.names.lookup n=some .local)
  (h:∀s',Sw X pins (σ.set i none) H s'->Q () s'):Sh M A (do bindName X.env n .none;unbindBehindTheSuite X.env n pos) Q E s:=by
 obtain ⟨m,hn,hl⟩:=id I.loc
 have hcls:(X.env.scope.kind== .class||(X.env.scope.kind== .module&&X.env.locals !=X.env.globals))=false:=by rw [I.ok.kind];rfl
 have cne:=I.cne
 refine wpAny_nameGoes_keeps hk hn hcls λh' v hn' sb=>h _ ?_
 obtain ⟨oL,_,_,hoL,_⟩:=id hn
 have lo:∀b o,X.s₀.heap.get? b=some o->b≠X.env.locals:=λb o z=>yu (yai (yj z) I.ok.above)
 refine ⟨I.ok,I.os,I.bare,⟨λb o z n hb hx=>(sb.2 b (lo b o z)).trans (I.base.keep b o z n hb hx),λb o z n hb hx=>?_,I.base.free,λb o z hx=>?_,I.base.tups,I.base.frzs,I.base.tbls⟩,⟨_,hn',λj y v' e1 e2 e3=>?_⟩,λy c z=>?_,I.free,I.freeC,λp hp=>?_,λb ob z=>?_,by simpa using I.len⟩
 ·obtain ⟨sl,z1⟩:=I.base.slot b o z n hb hx
  exact ⟨sl,(sb.2 b (lo b o z)).trans z1⟩
 ·obtain ⟨o',z1⟩:=I.base.there b o z hx
  exact ⟨o',(sb.2 b (lo b o z)).trans z1⟩
 ·have hj:j≠i:=λz=>by
   subst z
   have:j < σ.length:=by rw [I.len];exact (yz.mp hi).1
   rw [List.getElem?_set_self this] at e2
   cases e2
  rw [List.getElem?_set_ne (yh hj)] at e2
  obtain ⟨u',r',q⟩:=hl j y v' e1 e2 e3
  refine ⟨u',r',?_⟩
  rcases q with ⟨k,z⟩|⟨k,c,z,zz⟩
  ·refine .inl ⟨k,?_⟩
   have:y≠n:=λz=>hj (Js1 hN e1 (z▸hi))
   show (if y=n then v else m y)=some u'
   rw [if_neg this];exact z
  ·exact .inr ⟨k,c,z,zz.sameBut sb (cne y c z)⟩
 ·obtain ⟨w',zz⟩:=I.cell y c z
  exact ⟨w',zz.sameBut sb (cne y c z)⟩
 ·obtain ⟨z,n,ne,nf,d⟩:=I.pin p hp
  exact ⟨(sb.2 p.1 ne).trans z,n,ne,nf,d⟩
 ·refine (I.hok b ob z).stay (λc w' hc q=>(sb.2 c ?_).trans q) (λ_ q=>q) (λ_ _ q=>q) λ_ _ q=>q
  rintro rfl
  rcases hc with rfl|hc
  ·rw [I.free] at z;cases z
  ·rw [I.free] at hc;cases hc
end
abbrev TH:=Sbz->St->S6->Option S5->Hp->Prop
def PH (X:Cx) (hs:List ExceptHandler) (th:TH):Prop:=
 ∀(pins:List (S5×Obj)) (s:S7) (σ:St) (H:Hp) (D:Sbz) (e C dx:S5),Sw X pins σ H s->H e=some (XO e C (some dx) false)->Flt X pins H s.heap e .none->th D σ (.ref C) (some e) H->
  Sh (model X.prog X.w) X.A (handleBy (.ref e) X.env hs) (SP X pins D) X.xe s
def Su3:TH:=λ_ _ _ _ _=>False
theorem Slq {X:Cx}:PH X [] Su3:=λ_ _ _ _ _ _ _ _ _ _ _ h=>h.elim
def Sbz.less (D:Sbz) (i:Nat):Sbz:=⟨λσ H=>D.nx (σ.set i none) H,D.rt,λσ H=>D.bk (σ.set i none) H,λσ H=>D.ct (σ.set i none) H⟩
def hAs (K:Si) (C0:S5) (i:Nat) (ts:S5->TS) (th:TH):TH:=λD σ c eo H=>∃e C b,c= .ref C/\eo=some e/\Sl K C (.ref C0)=some b/\if b=true then ts e (D.less i) (σ.set i (some (.ref e))) H else th D σ c eo H
section
variable {X:Cx} {x n:Str} {np pos:Pos} {C0:S5} {i:Nat} {b₀:Sf} {suite:List Sf} {rest:List ExceptHandler} {ts:S5->TS} {th:TH}
theorem Soy (c0:Siq X.K C0) (hm:X.mg x=some (.ref C0)) (hN:X.N.Nodup) (hi:X.N[i]?=some n) (hl:X.env.scope.names.lookup n=some .local) (hsu:∀e,PSs (X.caught e) (b₀::suite) (ts e)) (hr:PH X rest th) (hg:Gl X x:=by rfl)
  (hdb:(x==("__debug__" :Str))=false:=by decide):PH X (.ExceptHandler (some (.Name x np)) (some n) (b₀::suite) pos::rest) (hAs X.K C0 i ts th):=by
 rintro pins s σ H D e C dx I q hfl ⟨e',C',b,hC,he,hmr,h⟩
 cases hC
 cases he
 obtain ⟨o,vs,go,gc,_⟩:=Jr5 I.hok q
 refine wpAny_handleBy_cons (codeAny_handlers_test (Jo2 (X:=X.caught e) (I.caught e) hg hm (Jwb I.kIn c0 go gc hmr ?_) hdb)) (λz=>by cases z)
 cases b with
 |false=>exact hr pins s σ H D e C dx I q hfl h
 |true=>
  refine codeAny_handlers_suite_as (Jp0 I q hfl λs1 I1 f1=>Jse (v:=.ref e) I1 hN hi (.inl hl) rfl (λs2 I2=>?_) (.inr hl))
  refine wpAny_mono (hsu e pins s2 _ H (D.less i) (I2.caught e) h) (λf s3 hf=>?_) λ_ _ z=>False.elim z
  have go:∀{f:Flow} {σ':St} {H':Hp},Sw (X.caught e) pins σ' H' s3->(∀s',Sw X pins (σ'.set i none) H' s'->SP X pins D f s')->Sh (model X.prog X.w) X.A (do bindName X.env n .none;unbindBehindTheSuite X.env n pos) (λ_ s'=>SP X pins D f s') X.xe s3:=
   λ{f σ' H'} I3 k=>Jyu (Sw.uncaught I.ok I3) hN hi hl k
  cases f with
  |next=>obtain ⟨σ',H',I3,k⟩:=hf;exact go I3 λs' I'=>⟨_,H',I',k⟩
  |brk=>obtain ⟨σ',H',I3,k⟩:=hf;exact go I3 λs' I'=>⟨_,H',I',k⟩
  |cont=>obtain ⟨σ',H',I3,k⟩:=hf;exact go I3 λs' I'=>⟨_,H',I',k⟩
  |ret u=>obtain ⟨v,σ',H',I3,r,k⟩:=hf;exact go I3 λs' I'=>⟨v,_,H',I',r,k⟩
end
def Sv5 (tb:List (S5×Obj)->(St->XK)->TS) (th:TH):TS:=λD σ H=>∀pins,tb pins (λσ' c e H'=>th D σ' c e H') D σ H
theorem Sls {X:Cx} {body:List Sf} {h₀:ExceptHandler} {hs:List ExceptHandler} {pos:Pos} {tb:List (S5×Obj)->(St->XK)->TS} {th:TH} (hst:Jwz X) (hb:∀pins R,Jod (X.tried pins R) R->PSs (X.tried pins R) body (tb pins R)) (hh:PH X (h₀::hs) th):
  PS X (.Try body (h₀::hs) [] [] pos) (Sv5 tb th):=by
 intro pins s σ H D I h
 refine wpAny_Try_except (wpAny_mono (hb pins (λσ' c e H'=>th D σ' c e H') Smv [] s σ H D (I.tried _) (h pins)) (λf s1 hf=>?_) λev s1 hx=>?_)
 ·have hf':SP X pins D f s1:=hf.map λ_ _ J=>J.untried
  cases f with
  |next=>exact wpAny_execs_nil hf'
  |brk=>exact hf'
  |cont=>exact hf'
  |ret u=>exact hf'
 ·obtain ⟨σ',H',e,C,dx,fr,rfl,I',q,hfl,hR⟩:=hx
  exact Ju8 I' hst I'.ok.frames q hfl λs2 I2 f2=>Jp0 I2 Sv f2 λs3 I3 f3=>hh pins s3 σ' _ D e C dx I3 Sv f3 hR
structure FM (K:Si) (x qual:Str) (st:Sf) (ps:List Str) (f:S5) (fd:Sc):Prop where
 fn:Fun K x qual st f fd
 bd:Sbh K fd ps []
structure Sgp (K:Si) (C:S5):Prop where
 ya:Sk K (.ref C) "__class__" =some (some (.builtin "object.__class__"))
 yb:PySem.W.specialIn K (.builtin "object.__class__") "__get__" =some (some (.builtin "getset_descriptor.__get__"))
 yc:PySem.W.takesIn K (.builtin "object.__class__")=some true
 yd:Sl K C (.type "object")=some true
theorem Sgp.ty {K:Si} {C a dx:S5} {H:Hp} {fs:List (Str×V)} (y:Sgp K C) (c:Cls K C) (e:H a=some (.ins C dx fs)):Jqn K H (.ref a) (.ref C):=.ins e c y.ya y.yb y.yc y.yd
def Joz (K:Si) (f:Str):Sp:=λvs H Q _=>∃e C W fI y,vs= [.ref e,y]/\H e=some (XO e C none true)/\Sag K C W fI/\NoAttr K C f/\∀dx,H dx=none->dx≠e->Q .non (upd (upd H dx (XD dx [(f,y)])) e (XO e C (some dx) true))
def Yb (K:Si) (f g:Str):Sp:=λvs H Q _=>∃e C W fI y z,vs= [.ref e,y,z]/\H e=some (XO e C none true)/\Sag K C W fI/\NoAttr K C f/\NoAttr K C g/\∀dx,H dx=none->dx≠e->Q .non (upd (upd H dx (XD dx (Jl8 g z [(f,y)]))) e (XO e C (some dx) true))
theorem Jy9 {K:Si} {C W fI:S5} {f:Str} {y:V} {H:Hp} {Q:VK} (c:Sag K C W fI) (n:NoAttr K C f) (k:∀e dx,H e=none->H dx=none->dx≠e->Q (.ref e) (upd (upd H dx (XD dx [(f,y)])) e (XO e C (some dx) true))):
  [y].length<=1000/\∀e,H e=none->Joz K f (.ref e:: [y]) (upd H e (XO e C none true)) (λv H2=>v= .non/\Q (.ref e) H2) E0:=by
 refine ⟨by simp,λe he=>⟨e,C,W,fI,y,rfl,Sv,c,n,λdx h1 h2=>⟨rfl,?_⟩⟩⟩
 have z:=k e dx he (by rw [Jjc h2] at h1;exact h1) h2
 have e2:upd (upd (upd H e (XO e C none true)) dx (XD dx [(f,y)])) e (XO e C (some dx) true)=upd (upd H dx (XD dx [(f,y)])) e (XO e C (some dx) true):=by
  funext b
  unfold upd
  split
  ·rfl
  ·split <;> rfl
 rw [e2]
 exact z
section
variable {X:Cx} {pins:List (S5×Obj)} {σ:St} {H:Hp} {s:S7}
theorem Sw.turnTup {ch:List S5} {T:S5} {xs:List V} {h':Sg} {t':Nat} (I:Sw X pins σ H s) (hch:∀b∈ch,Jql X pins H b) (k:∀b o,b∉ch->s.heap.get? b=some o->h'.get? b=some o) (hT:s.heap.objs.size<=T)
  (new:Saa X.prog X.w (upd H T (.tup xs)) h' T (.tup xs)):Sw X pins σ (upd H T (.tup xs)) {s with heap:=h',toks:=t'}:=by
 have hn:H T=none:=I.hok.fresh hT
 have nb:∀b o,s.heap.get? b=some o->b≠T:=λb o z w'=>absurd (yj z) (by rw [w'];exact Nat.not_lt.mpr hT)
 have nt:∀b u,H b=some u->b≠T:=λb u z=>Jjf z hn
 have nc:∀b u,H b=some u->b∉ch:=λb u z w'=>by rw [(hch b w').1] at z;cases z
 have u:Un (frs X.stack) ch H (upd H T (.tup xs)) s.heap h':=by
  refine ⟨λb o hb n hs hc=>k b o hc hb,λb o hb n _ hc=>⟨o.slots,k b o hc hb⟩,λb o hb n _=>by rw [Jjc (nb b o hb)];exact n,λb o hb hc=>⟨o,k b o hc hb⟩,λb ys z=>by rw [Jjc (nt b _ z)];exact z,λb o v z=>by rw [Jjc (nt b _ z)];exact z,λb ps z=>⟨#[],by rw [Jjc (nt b _ z),z];simp⟩⟩
 refine I.call (g':=s.gens) (d':=s.drawn) (ch:=ch) u (λb o z=>?_) I.bare λb hb=>?_
 ·by_cases w':b=T
  ·subst w'
   rw [Sv] at z;cases z
   exact new
  ·rw [Jjc w'] at z
   refine (I.hok b o z).stay (λc v hc zz=>k c v ?_ zz) (λc zz=>by rw [Jjc (nt c _ zz)];exact zz) (λc ys zz=>by rw [Jjc (nt c _ zz)];exact zz) λc ys zz=>by rw [Jjc (nt c _ zz)];exact zz
   rcases hc with rfl|hc
   ·exact nc c o z
   ·exact nc c _ hc
 ·obtain ⟨_,h1,_,h3,h4,h5⟩:=hch b hb
  exact ⟨h3,h1,h4,h5⟩
theorem Sw.turnMany {ch:List S5} {h':Sg} {t':Nat} (I:Sw X pins σ H s) (hch:∀b∈ch,Jql X pins H b) (k:∀b o,b∉ch->s.heap.get? b=some o->h'.get? b=some o):Sw X pins σ H {s with heap:=h',toks:=t'}:=by
 have nc:∀b u,H b=some u->b∉ch:=λb u z w'=>by rw [(hch b w').1] at z;cases z
 have u:Un (frs X.stack) ch H H s.heap h':=
  ⟨λb o hb n hs hc=>k b o hc hb,λb o hb n _ hc=>⟨o.slots,k b o hc hb⟩,λb o hb n _=>n,λb o hb hc=>⟨o,k b o hc hb⟩,λb ys z=>z,λb o v z=>z,λb ps z=>⟨#[],by rw [z];simp⟩⟩
 refine I.call (g':=s.gens) (d':=s.drawn) (ch:=ch) u (λb o z=>(I.hok b o z).stay (λc v hc zz=>k c v ?_ zz) (λ_ zz=>zz) (λ_ _ zz=>zz) λ_ _ zz=>zz) I.bare λb hb=>?_
 ·rcases hc with rfl|hc
  ·exact nc c o z
  ·exact nc c _ hc
 ·obtain ⟨_,h1,_,h3,h4,h5⟩:=hch b hb
  exact ⟨h3,h1,h4,h5⟩
inductive TyX (K:Si) (H:Hp):V->S6->Prop where
 |of {x:V} {t:S6}:Jqn K H x t->TyX K H x t
 |exc {e C W fI dx:S5} {fs:List (Str×V)} {fr:Bool}:H e=some (XO e C (some dx) fr)->H dx=some (XD dx fs)->Sag K C W fI->TyX K H (.ref e) (.ref C)
theorem TyX.kit {x:V} {u t:S6} (I:Sw X pins σ H s) (rx:Sa4 x u) (ty:TyX X.K H x t):u≠ .builtin "__main__.__loader__#opaque" /\∃Hh,PySem.W.KitX X.K u t Hh/\Hh s.heap:=by
 cases ty with
 |exc q qd c=>
  obtain rfl:u=Value.ref _:=rx
  obtain ⟨ox,oD,mA,J,_,_⟩:=Jy0 I.hok q qd
  exact ⟨(λz=>nomatch z),_,Sv7 c,ox,oD,J⟩
 |of ty=>
  cases ty with
  |non=>cases (show u=Value.none from rx);exact ⟨(λz=>nomatch z),_,PySem.W.kitx_none,trivial⟩
  |bl y=>cases (show u=Value.bool y from rx);exact ⟨(λz=>nomatch z),_,PySem.W.kitx_bool,trivial⟩
  |int i=>obtain ⟨t,q⟩:=(show ∃t,u=Value.int i t from rx);cases q;exact ⟨(λz=>nomatch z),_,PySem.W.kitx_int,trivial⟩
  |str y=>obtain ⟨t,q⟩:=(show ∃t,u=Value.str y t from rx);cases q;exact ⟨(λz=>nomatch z),_,PySem.W.kitx_str,trivial⟩
  |flt y=>obtain ⟨t,q⟩:=(show ∃t,u=Value.float y t from rx);cases q;exact ⟨(λz=>nomatch z),_,PySem.W.kitx_float,trivial⟩
  | @lst a xs ea=>
   cases (show u=Value.ref a from rx)
   obtain ⟨_,_,n,_,h1⟩:=(show Saa X.prog X.w H s.heap a (.lst xs) from I.hok a _ ea)
   exact ⟨(λz=>nomatch z),_,PySem.W.kitx_list,_,h1,rfl⟩
  | @frz a ob xs ea=>
   cases (show u=Value.ref a from rx)
   obtain ⟨_,_,_,n,_,h1⟩:=(show Saa X.prog X.w H s.heap a (.frz ob (.lst xs)) from I.hok a _ ea)
   exact ⟨(λz=>nomatch z),_,PySem.W.kitx_list,_,h1,rfl⟩
  | @tup a xs ea=>
   cases (show u=Value.ref a from rx)
   obtain ⟨_,_,_,o,h1,h2,_⟩:=(show Saa X.prog X.w H s.heap a (.tup xs) from I.hok a _ ea)
   exact ⟨(λz=>nomatch z),_,PySem.W.kitx_tuple,o,h1,h2⟩
  | @dK a kvs ea=>
   cases (show u=Value.ref a from rx)
   obtain ⟨_,_,vs,_,o,es,ep,h1,h2,_⟩:=(show Saa X.prog X.w H s.heap a (.dK kvs) from I.hok a _ ea)
   exact ⟨(λz=>nomatch z),_,PySem.W.kitx_dict,o,h1,h2.1⟩
  | @dT a kvs ea=>
   cases (show u=Value.ref a from rx)
   obtain ⟨_,_,xs,_,o,es,ep,h1,h2,_⟩:=(show Saa X.prog X.w H s.heap a (.dT kvs) from I.hok a _ ea)
   exact ⟨(λz=>nomatch z),_,PySem.W.kitx_dict,o,h1,h2.1⟩
  | @ins a C dx fs ea cl ha hn htk hm=>
   cases (show u=Value.ref a from rx)
   obtain ⟨mA,O,_⟩:=Jri I.hok ea
   obtain ⟨od,J,_⟩:=O.look
   exact ⟨(λz=>nomatch z),_,PySem.W.kitx_own (cl.get _) cl.hd ha hn htk hm,J⟩
def Sp0 (K:Si):List V->Hp->VK->Prop:=λxs H Q=>∃x c u t b,xs= [x,c]/\Sl8 c=some u/\TyX K H x t/\Sj K t u=some b/\Q (.bl b) H
theorem Jlw:Jmd X (.builtin "isinstance") (Sp0 X.K):=by
 rintro pins s σ H vs us Q I r ⟨x,c,u,t,b,rfl,hc,ty,ek,k⟩
 obtain ⟨v,w',rfl,r1,r2⟩:=Jxv r
 have e2:w'=u:=by
  cases c with
  |ty n=>cases hc;cases r2;rfl
  |ref a=>cases hc;cases r2;rfl
  |_=>cases hc
 subst e2
 obtain ⟨hx,Hh,Z,p⟩:=ty.kit I r1
 exact PySem.W.kia_one Z I.kIn p ek hx λtk=>⟨.bl b,H,I.tok _,rfl,k⟩
theorem Jv2:∀{cs:List V} {us ws:List S6},cs.mapM Sl8=some us->Sa2 cs ws->ws=us
 | [],us,_,e,.nil=>by cases e;rfl
 |c::cs,us,_,e,.cons r t=>by
  rw [List.mapM_cons] at e
  simp only [Option.bind_eq_bind,Option.bind_eq_some_iff,Option.pure_def,yt.injEq] at e
  obtain ⟨u,hu,us',hus,rfl⟩:=e
  rw [Jv2 hus t]
  cases c with
  |ty n=>cases hu;cases r;rfl
  |ref a=>cases hu;cases r;rfl
  |_=>cases hu
def Suj (K:Si):List V->Hp->VK->Prop:=λxs H Q=>∃x p cs us t b,xs= [x,.ref p]/\H p=some (.tup cs)/\cs.mapM Sl8=some us/\TyX K H x t/\PySem.W.kitAny K t us=some b/\Q (.bl b) H
theorem Jq0:Jmd X (.builtin "isinstance") (Suj X.K):=by
 rintro pins s σ H vs us Q I r ⟨x,p,cs,us',t,b,rfl,hp,hc,ty,ek,k⟩
 obtain ⟨v,w',rfl,r1,r2⟩:=Jxv r
 obtain rfl:w'=Value.ref p:=r2
 obtain ⟨hx,Hh,Z,q⟩:=ty.kit I r1
 obtain ⟨_,its,rv,o,h1,h2,n,h3⟩:=(show Saa X.prog X.w H s.heap p (.tup cs) from I.hok p _ hp)
 have e:=Jv2 hc rv
 subst e
 obtain ⟨oc,odi,oda,osl⟩:=o
 dsimp only at h2 h3
 subst h2 h3
 exact PySem.W.kia_tup Z I.kIn q h1 ek hx λtk=>⟨.bl b,H,I.tok _,rfl,k⟩
def Su5 (K:Si) (tl:TE):TI:=λσ H R=>tl σ H λx H1=>∃a,x= .ref a/\(((∃xs,Sx K H1 a xs)/\R (Itl K a) H1)\/((∃xs,SqT K H1 a xs)/\R (Itt K a) H1))
theorem Slr {tg l:Expr} {tl:TE} (hl:PE X l tl):PI X tg l (Su5 X.K tl):=by
 intro pins s σ H R I h
 refine thn (hl pins s σ H _ I h) λv s1 zq=>?_
 obtain ⟨x,H1,I1,r1,a,e,q1⟩:=zq
 subst e
 cases r1
 have fin:∀{J:It} {tn:Nat->Sg->Prop} {o:Obj},Jv1 X.prog X.w X.K tg J [s1.heap.objs.size] s1.heap.objs.size tn->tn 0 (s1.heap.push o)->R J H1->PIE X pins σ tg R (.ref s1.heap.objs.size) {s1 with heap:=s1.heap.push o}:=λ{J tn o} T st q=>by
  refine ⟨s1.heap.objs.size,[s1.heap.objs.size],tn,J,H1,rfl,I1.kept (t':=s1.toks) λb o e=>ym _ e,T,st,λb hb=>?_,q⟩
  have e:b=s1.heap.objs.size:=by simpa using hb
  subst e
  exact I1.fpOk (yg _) (I1.hok.fresh (yg _))
 rcases q1 with ⟨⟨xs,hq⟩,q⟩|⟨⟨xs,hq⟩,q⟩
 ·obtain ⟨its,rv,p,hz⟩:=I1.list hq
  exact wpAny_pyIter_list p.isList (fin (Jtq a _) ⟨_,yag _ rfl,rfl,rfl⟩ q)
 ·obtain ⟨its,rv,p,hz⟩:=I1.tuple hq
  exact wpAny_pyIter_tuple (show s1.heap.IsTuple a its.toArray from p) (fin (Jsf a _) ⟨_,yag _ rfl,rfl,rfl⟩ q)
def Sef (x y:V) (b:Bool):Prop:=(∃a,x= .ref a/\y= .ref a/\b=true)\/(Joa x=true/\Joa y=true/\eqV x y=b)
theorem Sef.at {A:Se} {x y:V} {b:Bool} {u v:S6} (h:Sef x y b) (rx:Sa4 x u) (ry:Sa4 y v):SeqAt.EqAt A s u v b:=by
 rcases h with ⟨a,rfl,rfl,rfl⟩|⟨f1,f2,rfl⟩
 ·cases rx;cases ry;exact SeqAt.EqAt.same _
 ·exact Jzc rx ry f1 f2
def Suh (K:Si):R2:=λx y H Q=>∃(p q:S5) (xs ys:List V) (bs:List Bool),x= .ref p/\y= .ref q/\Sx K H p xs/\Sx K H q ys/\xs.length=ys.length/\bs.length=xs.length/\
 (∀(i:Nat) x y b,xs[i]?=some x->ys[i]?=some y->bs[i]?=some b->Sef x y b)/\Q (.bl (bs.all id)) H
theorem Slk (hu:X.A.units+64 < cLine):OpR X (compareOp .Eq) (Suh X.K):=by
 rintro pins s σ H x y v u Q I rx ry ⟨p,q,xs,ys,bs,rfl,rfl,h1,h2,l1,l2,hs,k⟩
 obtain rfl:v=Value.ref p:=rx
 obtain rfl:u=Value.ref q:=ry
 obtain ⟨its,r1,p1,_⟩:=I.list h1
 obtain ⟨jts,r2,p2,_⟩:=I.list h2
 have e1:=r1.length
 have e2:=r2.length
 refine SeqAt.eq_listAt (e:=λj=>bs.getD j false) p1.isList p2.isList (by simp only [yp];omega) (by omega) (λj j1 j2=>?_) ⟨.bl _,H,I,rfl,?_⟩
 ·simp only [yp] at j1 j2
  have a1:xs[j]?=some xs[j]:=yi (by omega)
  have a2:ys[j]?=some ys[j]:=yi (by omega)
  have a3:bs[j]?=some bs[j]:=yi (by omega)
  obtain ⟨u,hu1,ru⟩:=r1.get a1
  obtain ⟨w',hw1,rw'⟩:=r2.get a2
  have b1:its.toArray[j]=u:=by simpa [yi j1] using hu1
  have b2:jts.toArray[j]=w':=by simpa [yi j2] using hw1
  have b3:bs.getD j false=bs[j]:=by simp [List.getD,a3]
  rw [b1,b2,b3]
  exact (hs j _ _ _ a1 a2 a3).at ru rw'
 ·have e:((List.range its.toArray.size).all λj=>bs.getD j false)=bs.all id:=by
   simp only [yp]
   rw [show its.length=bs.length by omega,ybe,yah,yah]
   constructor
   ·intro h b hb
    obtain ⟨j,hj,rfl⟩:=List.getElem_of_mem hb
    have:=h j (ybn.mpr hj)
    simpa [List.getD,yi hj] using this
   ·intro h j hj
    have hj':=ybn.mp hj
    have:=h bs[j] (ybu hj')
    simpa [List.getD,yi hj'] using this
  rw [e]
  exact k
end
def Smh (P:Sb) (w:Sd) (K:Si) (mg:Str->Option S6) (base:Sg) (j:Nat) (m:Str) (ta:TE) (t:TA):TE:=λσ H Q=>ta σ H λx H1=>∃a C dx fs f fd ps sp k,x= .ref a/\H1 a=some (.ins C dx fs)/\fs.lookup m=none/\Cls K C/\Jph K C m f/\Jjz P w K mg base CX0 k f fd ps sp/\k<=j/\Sbh K fd ps []/\
 t σ H1 λvs H2=>sp (x::vs) H2 Q E0
section
variable {X:Cx} {j:Nat} {m:Str} {apos pos:Pos} {e o:Expr} {es:List Expr} {ta:TE} {t:TA} {R:St->XK}
theorem Jyi {pl:Sem Bool} (he:PE X o ta) (hr:Sao j X.A)
  (ht:eval (.Call (.Attribute o m apos) [] [] pos) X.env=(do
   let ov<-eval o X.env
   standAt apos.atName
   let (f,first)<-holding [ov] (getMethod ov m pl)
   callWith pos f first (backTo pos (starEach [] X.env)) (backToKw pos (keywordEach [] X.env))):=by rfl):
  PE X (.Call (.Attribute o m apos) [] [] pos) (Smh X.prog X.w X.K X.mg X.base j m ta Jrf):=by
 intro pins s σ H Q I h
 refine PySem.W.methodCall_KW (pl:=pl) (thn (he pins s σ H _ I h) λu s1 zq=>?_) ht
 obtain ⟨x,H1,I1,rx,a,C,dx,fs,f,fd,ps,sp,k,ex,ea,l,c,hm,G,hk,hb,q⟩:=zq
 subst ex
 obtain rfl:u=Value.ref a:=rx
 refine Jo1 I1 ea c hm l ?_
 exact PySem.W.callWith_K0 (first:=[.ref a]) I1.kIn hm.kp (Jwn (us:=[.ref a]) (vs:=[.ref a]) (dvs:=[]) (ds:=[]) G (hr.mono hk) hb .nil Js6 I1 (.cons rfl .nil) q)
end
theorem Jkn {n:Nat} (h:n<=2000):n < Sa:=yay h (by decide)
theorem Jjx (n:Nat) (h:n<=2000):n<=Sa:=ybd (Jkn h)
def tpB (t:S6):Bool:=[Value.type "bool",.type "str",.type "NoneType",.type "list",.type "tuple",.type "dict"].contains t
def Tm (K:Si) (H:Hp) (x:V):Prop:=(∃i:Int,x= .int i)\/∃t,TyX K H x t/\tpB t=true
def Jkk:V->Int->Int->Bool
 | .int i,lo,hi=>decide (lo<=i)&&decide (i<=hi)
 |_,_,_=>false
theorem Smj {K:Si} {t:S6} (h:tpB t=true):Sj K t (.type "int")=some (t== .type "bool")/\Sj K t (.type "bool")=some (t== .type "bool"):=by
 unfold tpB at h
 simp only [List.contains_cons,List.contains_nil,Bool.or_false,Bool.or_eq_true,beq_iff_eq] at h
 rcases h with rfl|rfl|rfl|rfl|rfl|rfl <;> exact ⟨rfl,rfl⟩
theorem Yai {K:Si} {H:Hp} {x:V} {t:S6} (ty:TyX K H x t) (h:tpB t=true):∀lo hi,Jkk x lo hi=false:=by
 intro lo hi
 cases ty with
 |exc=>rfl
 |of ty=>
  cases ty <;> first|rfl|(exfalso;revert h;decide)
def Yba (K:Si):Sp:=λvs H Q _=>∃(x:V) (lo hi:Int),vs= [x,.int lo,.int hi]/\Tm K H x/\Q (.bl (Jkk x lo hi)) H
theorem TyX.same {K:Si} {H H':Hp} {x:V} {t:S6} (s:∀b o,x= .ref b->H b=some o->H' b=some o) (sx:∀b fs,H b=some (XD b fs)->H' b=some (XD b fs)) (ty:TyX K H x t):TyX K H' x t:=by
 cases ty with
 |exc q qd c=>exact .exc (s _ _ rfl q) (sx _ _ qd) c
 |of ty=>
  refine .of ?_
  cases ty with
  |non=>exact .non
  |bl b=>exact .bl b
  |int i=>exact .int i
  |str z=>exact .str z
  |flt z=>exact .flt z
  |lst e=>exact .lst (s _ _ rfl e)
  |frz e=>exact .frz (s _ _ rfl e)
  |tup e=>exact .tup (s _ _ rfl e)
  |dK e=>exact .dK (s _ _ rfl e)
  |dT e=>exact .dT (s _ _ rfl e)
  |ins e a b c d f=>exact .ins (s _ _ rfl e) a b c d f
theorem Tm.same {K:Si} {H H':Hp} {x:V} (s:Sn H H') (h:Tm K H x):Tm K H' x:=by
 rcases h with h|⟨t,ty,e⟩
 ·exact .inl h
 ·exact .inr ⟨t,ty.same (λb o _ q=>s b o q) (λb fs q=>s b _ q),e⟩
theorem Ya4 {K:Si} {q:S5} {xs:List V} {g:TG} {tb:TS} {D:Sbz} {σ:St} {H:Hp} (Pv:Nat->St->Hp->Prop) (h0:Pv 0 σ H) (hl:(∀i σ H,i<=xs.length->Pv i σ H->Sx K H q xs)\/(∀i σ H,i<=xs.length->Pv i σ H->SqT K H q xs))
  (hs:∀i x σ H,xs[i]?=some x->Pv i σ H->g x σ H λσ2 H2=>tb {D with nx:=Pv (i+1),ct:=Pv (i+1),bk:=D.nx} σ2 H2) (hd:∀σ H,Pv xs.length σ H->D.nx σ H):
  ((∃xs,Sx K H q xs)/\∃W:Nat->Nat->St->Hp->Prop,(∃m,W 0 m σ H)/\∀i m σ H,W i m σ H->
   ((Itl K q).stop i H/\D.nx σ H)\/((Itl K q).go i H/\∃N:St->Hp->Prop,(∀σ' H',N σ' H'->∃m',m' < m/\W (i+1) m' σ' H')/\∀x H',(Itl K q).yld i H x H'->g x σ H' λσ2 H2=>tb {D with nx:=N,ct:=N,bk:=D.nx} σ2 H2))\/
  ((∃xs,SqT K H q xs)/\∃W:Nat->Nat->St->Hp->Prop,(∃m,W 0 m σ H)/\∀i m σ H,W i m σ H->
   ((Itt K q).stop i H/\D.nx σ H)\/((Itt K q).go i H/\∃N:St->Hp->Prop,(∀σ' H',N σ' H'->∃m',m' < m/\W (i+1) m' σ' H')/\∀x H',(Itt K q).yld i H x H'->g x σ H' λσ2 H2=>tb {D with nx:=N,ct:=N,bk:=D.nx} σ2 H2)):=by
 rcases hl with hl|hl
 ·exact .inl ⟨⟨xs,hl 0 σ H (yak _) h0⟩,Jrt Pv h0 hl hs hd⟩
 ·exact .inr ⟨⟨xs,hl 0 σ H (yak _) h0⟩,Ya5 Pv h0 hl hs hd⟩
theorem Jn7 {K:Si} {R:L2.St->XK} {C W fI:S5} {f:Str} {i:Nat} {y:V} {σ:L2.St} {H:Hp} {D:Sbz} (c:Sag K C W fI) (n:NoAttr K C f) (hi:σ[i]?=some (some y))
  (k:∀e dx,H e=none->H dx=none->dx≠e->R σ (.ref C) (some e) (upd (upd (upd H dx (XD dx [(f,y)])) e (XO e C (some dx) true)) e (XO e C (some dx) false))):Y9 K R (Spn C (Joz K f) (Jjy (Smi i) Jrf)) D σ H:=by
 refine ⟨y,hi,?_⟩
 exact Jy9 (Q:=λv H1=>∃e C W fI dx,v= .ref e/\H1 e=some (XO e C (some dx) true)/\Sag K C W fI/\R σ (.ref C) (some e) (upd H1 e (XO e C (some dx) false))) c n λe dx h1 h2 h3=>⟨e,C,W,fI,dx,rfl,Sv,c,k e dx h1 h2 h3⟩
theorem Jw4 {c A B:Prop} [Decidable c] (hc:c) (h:A):if decide c=true then A else B:=by
 rw [decide_eq_true hc]
 exact Jkb h
theorem Job {c A B:Prop} [Decidable c] (hc:¬c) (h:B):if decide c=true then A else B:=by
 rw [decide_eq_false hc]
 exact Jjw h
def Jjr:Expr->Bool
 | .Starred _ _=>true
 |_=>false
theorem Jys (e:Expr) (es:List Expr) (env:Env) (h:Jjr e=false):starEach (e::es) env=(false,eval e env)::starEach es env:=by
 cases e <;> first|rfl|cases h
theorem Jko {X:Cx} {e:Expr} {es:List Expr} {te:TE} {t:TA} (ha:PE X e te) (hr:PA X es t) (hs:Jjr e=false:=by rfl):PA X (e::es) (Jjy te t):=So ha hr (Jys e es X.env hs)
theorem pa4 {X:Cx} {e0:Expr} {t0:TE} {e1:Expr} {t1:TE} {e2:Expr} {t2:TE} {e3:Expr} {t3:TE} (h0:PE X e0 t0) (h1:PE X e1 t1) (h2:PE X e2 t2) (h3:PE X e3 t3) (s0:Jjr e0=false:=by rfl) (s1:Jjr e1=false:=by rfl) (s2:Jjr e2=false:=by rfl) (s3:Jjr e3=false:=by rfl):PA X [e0,e1,e2,e3] (Jjy t0 (Jjy t1 (Jjy t2 (Jjy t3 (Jrf))))):=Jko h0 (Jko h1 (Jko h2 (Jko h3 (Ss) s3) s2) s1) s0
theorem pa5 {X:Cx} {e0:Expr} {t0:TE} {e1:Expr} {t1:TE} {e2:Expr} {t2:TE} {e3:Expr} {t3:TE} {e4:Expr} {t4:TE} (h0:PE X e0 t0) (h1:PE X e1 t1) (h2:PE X e2 t2) (h3:PE X e3 t3) (h4:PE X e4 t4) (s0:Jjr e0=false:=by rfl) (s1:Jjr e1=false:=by rfl) (s2:Jjr e2=false:=by rfl) (s3:Jjr e3=false:=by rfl) (s4:Jjr e4=false:=by rfl):PA X [e0,e1,e2,e3,e4] (Jjy t0 (Jjy t1 (Jjy t2 (Jjy t3 (Jjy t4 (Jrf)))))):=Jko h0 (Jko h1 (Jko h2 (Jko h3 (Jko h4 (Ss) s4) s3) s2) s1) s0
theorem pa6 {X:Cx} {e0:Expr} {t0:TE} {e1:Expr} {t1:TE} {e2:Expr} {t2:TE} {e3:Expr} {t3:TE} {e4:Expr} {t4:TE} {e5:Expr} {t5:TE} (h0:PE X e0 t0) (h1:PE X e1 t1) (h2:PE X e2 t2) (h3:PE X e3 t3) (h4:PE X e4 t4) (h5:PE X e5 t5) (s0:Jjr e0=false:=by rfl) (s1:Jjr e1=false:=by rfl) (s2:Jjr e2=false:=by rfl) (s3:Jjr e3=false:=by rfl) (s4:Jjr e4=false:=by rfl) (s5:Jjr e5=false:=by rfl):PA X [e0,e1,e2,e3,e4,e5] (Jjy t0 (Jjy t1 (Jjy t2 (Jjy t3 (Jjy t4 (Jjy t5 (Jrf))))))):=Jko h0 (Jko h1 (Jko h2 (Jko h3 (Jko h4 (Jko h5 (Ss) s5) s4) s3) s2) s1) s0
theorem pa7 {X:Cx} {e0:Expr} {t0:TE} {e1:Expr} {t1:TE} {e2:Expr} {t2:TE} {e3:Expr} {t3:TE} {e4:Expr} {t4:TE} {e5:Expr} {t5:TE} {e6:Expr} {t6:TE} (h0:PE X e0 t0) (h1:PE X e1 t1) (h2:PE X e2 t2) (h3:PE X e3 t3) (h4:PE X e4 t4) (h5:PE X e5 t5) (h6:PE X e6 t6) (s0:Jjr e0=false:=by rfl) (s1:Jjr e1=false:=by rfl) (s2:Jjr e2=false:=by rfl) (s3:Jjr e3=false:=by rfl) (s4:Jjr e4=false:=by rfl) (s5:Jjr e5=false:=by rfl) (s6:Jjr e6=false:=by rfl):PA X [e0,e1,e2,e3,e4,e5,e6] (Jjy t0 (Jjy t1 (Jjy t2 (Jjy t3 (Jjy t4 (Jjy t5 (Jjy t6 (Jrf)))))))):=Jko h0 (Jko h1 (Jko h2 (Jko h3 (Jko h4 (Jko h5 (Jko h6 (Ss) s6) s5) s4) s3) s2) s1) s0
theorem pa8 {X:Cx} {e0:Expr} {t0:TE} {e1:Expr} {t1:TE} {e2:Expr} {t2:TE} {e3:Expr} {t3:TE} {e4:Expr} {t4:TE} {e5:Expr} {t5:TE} {e6:Expr} {t6:TE} {e7:Expr} {t7:TE} (h0:PE X e0 t0) (h1:PE X e1 t1) (h2:PE X e2 t2) (h3:PE X e3 t3) (h4:PE X e4 t4) (h5:PE X e5 t5) (h6:PE X e6 t6) (h7:PE X e7 t7) (s0:Jjr e0=false:=by rfl) (s1:Jjr e1=false:=by rfl) (s2:Jjr e2=false:=by rfl) (s3:Jjr e3=false:=by rfl) (s4:Jjr e4=false:=by rfl) (s5:Jjr e5=false:=by rfl) (s6:Jjr e6=false:=by rfl) (s7:Jjr e7=false:=by rfl):PA X [e0,e1,e2,e3,e4,e5,e6,e7] (Jjy t0 (Jjy t1 (Jjy t2 (Jjy t3 (Jjy t4 (Jjy t5 (Jjy t6 (Jjy t7 (Jrf))))))))):=Jko h0 (Jko h1 (Jko h2 (Jko h3 (Jko h4 (Jko h5 (Jko h6 (Jko h7 (Ss) s7) s6) s5) s4) s3) s2) s1) s0
theorem Sua {X:Cx} {e0:Expr} {t0:TE} {e1:Expr} {t1:TE} {e2:Expr} {t2:TE} {e3:Expr} {t3:TE} {e4:Expr} {t4:TE} {e5:Expr} {t5:TE} {e6:Expr} {t6:TE} {e7:Expr} {t7:TE} {e8:Expr} {t8:TE} {e9:Expr} {t9:TE} {e10:Expr} {t10:TE} {e11:Expr} {t11:TE} (h0:PE X e0 t0) (h1:PE X e1 t1) (h2:PE X e2 t2) (h3:PE X e3 t3) (h4:PE X e4 t4) (h5:PE X e5 t5) (h6:PE X e6 t6) (h7:PE X e7 t7) (h8:PE X e8 t8) (h9:PE X e9 t9) (h10:PE X e10 t10) (h11:PE X e11 t11) (s0:Jjr e0=false:=by rfl) (s1:Jjr e1=false:=by rfl) (s2:Jjr e2=false:=by rfl) (s3:Jjr e3=false:=by rfl) (s4:Jjr e4=false:=by rfl) (s5:Jjr e5=false:=by rfl) (s6:Jjr e6=false:=by rfl) (s7:Jjr e7=false:=by rfl) (s8:Jjr e8=false:=by rfl) (s9:Jjr e9=false:=by rfl) (s10:Jjr e10=false:=by rfl) (s11:Jjr e11=false:=by rfl):PA X [e0,e1,e2,e3,e4,e5,e6,e7,e8,e9,e10,e11] (Jjy t0 (Jjy t1 (Jjy t2 (Jjy t3 (Jjy t4 (Jjy t5 (Jjy t6 (Jjy t7 (Jjy t8 (Jjy t9 (Jjy t10 (Jjy t11 (Jrf))))))))))))):=Jko h0 (Jko h1 (Jko h2 (Jko h3 (Jko h4 (Jko h5 (Jko h6 (Jko h7 (Jko h8 (Jko h9 (Jko h10 (Jko h11 (Ss) s11) s10) s9) s8) s7) s6) s5) s4) s3) s2) s1) s0
end L2
namespace L2
open PySem PySem.Spec PyProof.Rows PySem.W
section
variable {X:Cx}
theorem Jt9 {K:Si} (h:X.K=K):Jmd X (.builtin "isinstance") (Sp0 K):=by subst h;exact Jlw
end
section
variable {prog:Sb} {w:Sd} {A:Se} {E:S6->S7->Prop} {s:S7}
end
section
variable {X:Cx} {pos:Pos}
end
section
variable {P:Sb} {w:Sd} {K:Si} {mg:Str->Option S6} {base:Sg}
end
section
variable {X:Cx} {x:Str} {st:Sf} {ps:List Str} {f:S5} {fd:Sc} {sp:Sp} {k j:Nat} {p pos:Pos} {e:Expr} {es:List Expr} {t:TA} {er:S5}
end
def stU (acc:List Str) (z:Str):List Str:=if acc.contains z=true then acc else acc++ [z]
def uq (zs:List Str):List Str:=zs.foldl stU []
def inU (zs:List Str):Key->Bool
 | .inl _=>false
 | .inr z=>(uq zs).contains z
theorem Jxu (zs:List Str) (z:Str):uq (zs++ [z])=stU (uq zs) z:=by unfold uq;rw [List.foldl_append];rfl
theorem Smp (zs:List Str):(uq zs).length<=zs.length:=by
 have h:∀(l acc:List Str),(l.foldl stU acc).length<=acc.length+l.length:=by
  intro l
  induction l with
  |nil=>intro acc;simp
  |cons z r ih=>
   intro acc
   rw [List.foldl_cons]
   have h1:=ih (stU acc z)
   have h2:(stU acc z).length<=acc.length+1:=by unfold stU;split <;> simp
   rw [yad]
   omega
 simpa [uq] using h zs []
theorem Jvu {zs:List Str} (h:zs.Nodup):uq zs=zs:=by
 have g:∀(l acc:List Str),(acc++l).Nodup->l.foldl stU acc=acc++l:=by
  intro l
  induction l with
  |nil=>intro acc _;simp
  |cons z r ih=>
   intro acc hn
   rw [List.foldl_cons]
   have hz:acc.contains z=false:=by
    cases e:acc.contains z with
    |false=>rfl
    |true=>
     have hm:z∈acc:=List.contains_iff_mem.mp e
     exact absurd rfl ((List.nodup_append.mp hn).2.2 z hm z ybb)
   have e:stU acc z=acc++ [z]:=by unfold stU;rw [hz];rfl
   rw [e,ih (acc++ [z]) (by simpa using hn)]
   simp
 simpa [uq] using g zs [] (by simpa using h)
theorem Jzh (zs:List Str) (z:Str) (k:Key):inU (zs++ [z]) k=(inU zs k||decide (k= .inr z)):=by
 cases k with
 |inl i=>simp [inU]
 |inr y=>
  show (uq (zs++ [z])).contains y=((uq zs).contains y||decide ((.inr y:Key)= .inr z))
  have e:decide ((.inr y:Key)= .inr z)=decide (y=z):=by
   by_cases h:y=z
   ·subst h;simp
   ·rw [decide_eq_false h,decide_eq_false (λq=>h (yaq.inj q))]
  rw [Jxu,e]
  unfold stU
  split
  ·rename_i hc
   by_cases h:y=z
   ·subst h;rw [hc];simp
   ·simp [h]
  ·rw [ybe]
   simp [List.contains_iff_mem]
theorem Ybj (zs:List Str) (z:Str):(uq (zs++ [z])).length=if inU zs (.inr z)=true then (uq zs).length else (uq zs).length+1:=by
 rw [Jxu]
 show (stU (uq zs) z).length=if (uq zs).contains z=true then _ else _
 unfold stU
 split <;> simp
section
variable {prog:Sb} {w:Sd} {A:Se} {R:Result->S7->Prop} {I:S5} {fp wr:List S5} {n:Nat} {P:Nat->S6->Prop} {St:Nat->Sg->Prop}
theorem Jqf {h h':Sg} {a:S5} {S T:Key->Bool} {m m':Nat} (hS:h.SetOf (Jkc prog w) a S m) (k:∀o,h.get? a=some o->h'.get? a=some o) (e:∀x,S x=T x) (en:m=m'):h'.SetOf (Jkc prog w) a T m':=by
 obtain rfl:S=T:=funext e
 subst en
 obtain ⟨o,es,ep,t,ho,rest⟩:=hS
 exact ⟨o,es,ep,t,k o ho,rest⟩
theorem Jwu (W:Walks prog w A.in1 I fp wr n P St) (S:S5) (hSf:S∉fp) (zs:List Str) (hn:zs.length=n) (hP:∀i v,P i v->∃z t,zs[i]?=some z/\v= .str z t) (hb:n+1 < scanBound):
  ∀(k i:Nat) (s:S7),n - i=k->i<=n->St i s.heap->s.heap.SetOf (Jkc prog w) S (inU (zs.take i)) (uq (zs.take i)).length->
   (∀h' tk,(∀b o,b≠S->b∉wr->s.heap.get? b=some o->h'.get? b=some o)->h'.SetOf (Jkc prog w) S (inU zs) (uq zs).length->R (.ok (.ret .none)) {s with heap:=h',toks:=tk})->
   codeAny (model prog w) A (.builtin "set.update.loop" ⟨[.ref S,.ref I],[]⟩) R s:=by
 have hSw:S∉wr:=λh=>hSf (W.sub _ h)
 intro k
 induction k with
 |zero=>
  intro i s hk hi hst hS hR
  obtain rfl:i=n:=by omega
  refine codeAny_builtin PyProof.Rows.F.entry_set_update_loop ?_
  rw [Around.under_plainId PyProof.Rows.F.plain_set_update_loop _]
  refine S8 (W.done s _ _ hst λh' tk km=>?_)
  refine S9 (hR h' tk (λb o _ nb e=>km b o nb e) (Jqf hS (λo e=>km S o hSw e) (λx=>?_) ?_))
  ·rw [yam (by omega)]
  ·rw [yam (by omega)]
 |succ k ih=>
  intro i s hk hi hst hS hR
  have hlt:i < n:=by omega
  refine codeAny_builtin PyProof.Rows.F.entry_set_update_loop ?_
  rw [Around.under_plainId PyProof.Rows.F.plain_set_update_loop _]
  refine S8 (W.item i s _ _ hlt hst λv h1 tk hv hst1 km=>?_)
  obtain ⟨z,t,hz,rfl⟩:=hP i v hv
  have et:zs.take (i+1)=zs.take i++ [z]:=by rw [ybc,hz];rfl
  have hS1:h1.SetOf (Jkc prog w) S (inU (zs.take i)) (uq (zs.take i)).length:=Jqf hS (λo e=>km S o hSw e) (λ_=>rfl) rfl
  have room:(uq (zs.take i)).length+1 < scanBound:=by
   have h1:=Smp (zs.take i)
   rw [yk] at h1
   omega
  refine S8 (wpAny_holding ?_)
  unfold setAdd
  refine wpAny_holding (S8 ((Jkc prog w).pyHash (k:=.inr z) (Jol _ _ _ _) ?_))
  refine wpAny_setAddHashed_of (knd:=Jkc prog w) (k:=.inr z) (Jol _ _ _ _) rfl hS1 room λh2 sb hS2=>?_
  refine S9 ⟨plainId_quiet PyProof.Rows.F.plain_set_update_loop _,ih (i+1) _ (by omega) hlt (W.frame _ _ _ hst1 λb hbf o e=>?_) (Jqf hS2 (λo e=>e) (λx=>?_) ?_) λh3 tk3 k3 hS3=>?_⟩
  ·show h2.get? b=some o
   rw [sb.2 b (λq=>hSf (by rw [<-q];exact hbf))]
   exact e
  ·rw [et,Jzh]
  ·rw [et,Ybj]
  ·exact hR h3 tk3 (λb o nS nw e=>k3 b o nS nw (by show h2.get? b=some o;rw [sb.2 b nS];exact km b o nw e)) hS3
end
section
variable {prog:Sb} {w:Sd} {A:Se} {E:S6->S7->Prop} {s:S7}
set_option maxRecDepth 100000 in
set_option maxHeartbeats 3200000 in
theorem Jyo {l:S5} {items:Array S6} {zs:List Str} {Q:S6->S7->Prop} (hh:A.handled=none) (hl:s.heap.IsList l items) (hz:zs.length=items.size) (hi:∀(i:Nat) (v:S6),items[i]?=some v->∃z t,zs[i]?=some z/\v= .str z t) (hb:items.size+1 < scanBound)
  (h:∀(h':Sg) (tk:Nat),h'.SetOf (Jkc prog w) s.heap.objs.size (inU zs) (uq zs).length->(∀b o,s.heap.get? b=some o->h'.get? b=some o)->Q (.ref s.heap.objs.size) {s with heap:=h',toks:=tk}):Sh (model prog w) A (call (.type "set") [.ref l]) Q E s:=by
 obtain ⟨cc,tl,hmro⟩:=F.called_set.mro
 have hmade:=F.called_set.made
 have hsub:=F.called_set.sub
 refine wpAny_call (codeAny_of_tree ?_)
 show Sh _ _ (callAny (.type "set") _) _ _ _
 refine S9 ⟨Code.quiet_builtin _ (by decide +kernel),codeAny_builtin F.entry_type_call ?_⟩
 rw [Around.under_plain (weight_type_call_type "set" [.ref l] []) rfl]
 have g1:=F.called_set.notType
 have g2:=F.called_set.canCreate
 have g3:=F.typeCall_set_1 (.ref l)
 repeat (any_goals (first|assumption|wp_step))
 refine codeAny_mono (code_set_new_1 (.ref l) (E:=E) (Q₁:=λobj s1=>∃led:Bool,obj= .ref s.heap.objs.size/\s1={s with heap:=s.heap.push {cls:=.type "set",dict:=none,data:=.set #[] 0 (.fresh 0 0 led)}}) λled=>⟨led,rfl,rfl⟩) λr s1 hr=>?_
 cases r with
 |error e=>exact hr
 |ok fl=>
  cases fl with
  |ret obj=>
   obtain ⟨led,rfl,rfl⟩:=hr
   have hS:(s.heap.push {cls:=.type "set",dict:=none,data:=.set #[] 0 (.fresh 0 0 led)}).get? s.heap.objs.size=some {cls:=.type "set",dict:=none,data:=.set #[] 0 (.fresh 0 0 led)}:=yag _ rfl
   have hT:Shared.TypeIs {s with heap:=s.heap.push {cls:=.type "set",dict:=none,data:=.set #[] 0 (.fresh 0 0 led)}} (.ref s.heap.objs.size) "set" :=⟨_,hS,rfl⟩
   have g4:=F.called_set.init.lookup
   have g5:=F.called_set.init.bind (.ref s.heap.objs.size)
   repeat (any_goals (first|assumption|wp_step))
   refine codeAny_mono (codeAny_call_builtin (R:=wants (λr s2=>r= .none/\∃h' tk,s2={s with heap:=h',toks:=tk}/\h'.SetOf (Jkc prog w) s.heap.objs.size (inU zs) (uq zs).length/\(∀b o,s.heap.get? b=some o->h'.get? b=some o)) E) F.called_set.init.plain F.entry_set_init (check_set_init_1 hT ?_)) λr2 s2 hr2=>?_
   ·obtain ⟨⟨oc,od,oda,osl⟩,hol,hcl,nl,hdl⟩:=hl
    simp only at hcl hdl
    subst hcl hdl
    have hol':(s.heap.push {cls:=.type "set",dict:=none,data:=.set #[] 0 (.fresh 0 0 led)}).get? l=some {cls:=.type "list",dict:=od,data:=.seq items nl,slots:=osl}:=ym _ hol
    have g6:=F.sub_list_set
    have g7:=F.sub_list_frozenset
    have g8:(Value.type "list" ==Value.type "dict")=false:=by decide
    have hl1:(s.heap.push {cls:=.type "set",dict:=none,data:=.set #[] 0 (.fresh 0 0 led)}).IsList l items:=⟨_,hol',rfl,nl,rfl⟩
    unfold Builtin.«set.__init__» noKeywords Builtin.Frozenset.updateFrom
    generalize hPI:pyIter=PI
    wp_walk
    subst hPI
    refine wpAny_pyIter_list hl1 (S8 (wpAny_runValue ?_))
    have lS:l < s.heap.objs.size:=yj hol
    have h3:A.in1.in1.in1.handled=none:=by simp [hh]
    have nI:l≠(s.heap.push {cls:=.type "set",dict:=none,data:=.set #[] 0 (.fresh 0 0 led)}).objs.size:=by rw [yaz];exact yu (Nat.lt_succ_of_lt lS)
    have nS:s.heap.objs.size∉ [(s.heap.push {cls:=.type "set",dict:=none,data:=.set #[] 0 (.fresh 0 0 led)}).objs.size,l]:=by
     rw [yaz]
     simp only [yo,yae,or_false,not_or]
     exact ⟨yu (ybz _),ybo lS⟩
    refine Jwu (Walks.list h3 _ l nI items) s.heap.objs.size nS zs hz hi hb (items.size - 0) 0 _ (by omega) (yak _) ⟨⟨_,yag _ rfl,rfl,rfl⟩,hl1.push _⟩ ?S0 ?R0
    case S0=>
     have q:((s.heap.push {cls:=.type "set",dict:=none,data:=.set #[] 0 (.fresh 0 0 led)}).push {cls:=.type "list_iterator",data:=.fields #[.ref l,.int 0 0]}).get? s.heap.objs.size=some {cls:=.type "set",dict:=none,data:=.set #[] 0 (.fresh 0 0 led)}:=ym _ hS
     refine ⟨_,#[],0,_,q,⟨rfl,rfl,rfl⟩,rfl,λe he=>by simp at he,λx=>?_,by decide,by rfl,rfl⟩
     cases x <;> simp [inU,uq]
    case R0=>
    intro h' tk km hS'
    show Sh _ _ _ _ _ _
    refine S9 ?_
    show Sh _ _ (ret Value.none) _ _ _
    refine S9 ⟨rfl,h',tk,rfl,hS',λb o e=>?_⟩
    have lb:b < s.heap.objs.size:=yj e
    refine km b o (yu lb) ?_ (ym _ (ym _ e))
    rw [yaz]
    simp only [yo,yae,or_false]
    exact yu (Nat.lt_succ_of_lt lb)
   ·cases r2 with
    |error e=>exact hr2
    |ok fl2=>
     cases fl2 with
     |ret r=>
      obtain ⟨rfl,h',tk,rfl,hS',hk'⟩:=hr2
      repeat (any_goals (first|assumption|wp_step))
      exact h _ _ hS' hk'
     |_=>exact hr2.elim
  |_=>exact hr.elim
end
def TxS (P:Sb) (w:Sd) (a:S5) (zs:List Str):HO:=.ext λh=>h.SetOf (Jkc P w) a (inU zs) (uq zs).length
theorem Sml {P:Sb} {w:Sd} {H:Hp} {h:Sg} {a:S5} {zs:List Str} (hS:h.SetOf (Jkc P w) a (inU zs) (uq zs).length):Saa P w H h a (TxS P w a zs):=
 ⟨hS,(let ⟨o,_,_,_,ho,_⟩:=hS;⟨o,ho⟩),λ_ _ p k=>Jqf p k (λ_=>rfl) rfl⟩
section
variable {X:Cx}
theorem Jrq (hc:X.calm=true):Jmd X (.type "set") (λxs H Q=>∃(l:S5) (zs:List Str),xs= [.ref l]/\Sx X.K H l (zs.map V.str)/\zs.length<=2000/\∀a,H a=none->Q (.ref a) (upd H a (TxS X.prog X.w a zs))):=by
 intro pins s σ H xs us Q I r h
 obtain ⟨l,zs,rfl,hq,hz,q⟩:=h
 obtain ⟨u,rfl,ru⟩:=Jmw r
 obtain rfl:u=Value.ref l:=ru
 obtain ⟨its,rv,pl,_⟩:=I.list hq
 have hlen:=rv.length
 rw [ye] at hlen
 refine Jyo (zs:=zs) (I.ok.hd hc) pl.isList (by simpa using hlen) (λi v hv=>?_) (by simp only [yp];unfold scanBound;omega) λh' tk hS kk=>⟨.ref s.heap.objs.size,_,I.laid (a:=s.heap.objs.size) (o:=TxS X.prog X.w s.heap.objs.size zs) (t':=tk) kk (yg _) (Sml hS),rfl,q _ (I.hok.fresh (yg _))⟩
 ·have hv':its[i]?=some v:=by simpa using hv
  have hlt:i < zs.length:=by have:=(yz.mp hv').1;omega
  obtain ⟨u,hu,ru⟩:=rv.get (i:=i) (x:=V.str zs[i]) (by rw [yn,yi hlt];rfl)
  rw [hv'] at hu
  cases hu
  obtain ⟨t,rfl⟩:=ru
  exact ⟨zs[i],t,yi hlt,rfl⟩
theorem Jrp:Jmd X (.builtin "len") (λxs H Q=>∃(a:S5) (zs:List Str),xs= [.ref a]/\H a=some (TxS X.prog X.w a zs)/\Q (.int (uq zs).length) H):=by
 intro pins s σ H xs us Q I r h
 obtain ⟨a,zs,rfl,ha,q⟩:=h
 obtain ⟨u,rfl,ru⟩:=Jmw r
 obtain rfl:u=Value.ref a:=ru
 obtain ⟨o,es,ep,t,ho,hex,hd,_,_,hb,hf,hn⟩:=(I.hok a _ ha).1
 refine call_len_set ho hex hd hf (by unfold scanBound at hb;omega) ?_
 rw [hn]
 exact ⟨.int _,H,I.tok _,⟨_,rfl⟩,q⟩
end
theorem Sl5:bootBuiltins "set" =some (.type "set"):=by decide +kernel
theorem Jtw:bootBuiltins "enumerate" =some (.type "enumerate"):=by decide +kernel
section
variable {X:Cx}
end
def ItE (K:Si) (a:S5):It:=⟨λi H=>∃xs x,Sx K H a xs/\xs[i]?=some x,
 λi H x H'=>∃T u,H T=none/\x= .ref T/\(∀xs,Sx K H a xs->xs[i]?=some u)/\H'=upd H T (.tup [.int i,u]),
 λi H=>∃xs,Sx K H a xs/\i=xs.length⟩
def Sfv (e it l:S5) (i:Nat) (h:Sg):Prop:=(∃old,IsEnum h e it i old)/\h.IsListIter it l i
theorem Sfv.obj {e it l:S5} {i:Nat} {h:Sg} (st:Sfv e it l i h):∀b∈ [e,it],∃o,h.get? b=some o/\∀v,o.data≠ .cell v:=λb hb=>by
 obtain ⟨⟨old,h1⟩,⟨o4,h4,_,d4⟩⟩:=st
 simp only [yo,yae,or_false] at hb
 rcases hb with rfl|rfl
 ·exact ⟨_,h1,λv z=>by cases z⟩
 ·exact ⟨o4,h4,λv z=>by rw [d4] at z;cases z⟩
theorem Yq {P:Sb} {w:Sd} {K:Si} {elts:List Expr} {kt:Nat} {pt:Pos} (e it l:S5) (n1:e≠it) (n2:l≠e) (n3:l≠it):
  Jv1 P w K (.Tuple elts kt pt) (ItE K l) [e,it] e (Sfv e it l) where
 mem:=by simp
 obj:=λi h st=>st.obj
 keep:=λi h h' st k=>by
  obtain ⟨⟨old,h1⟩,h2⟩:=st
  exact ⟨⟨old,k e (by simp) _ h1⟩,h2.at λo q=>k it (by simp) o q⟩
 item:=by
  intro X hP hw hK hc i pins s σ H E I hf st hg
  subst hP hw hK
  obtain ⟨xs,x,q1,hx⟩:=hg
  obtain ⟨its,rv,p1,_⟩:=I.list q1
  obtain ⟨u,hu,ru⟩:=rv.get hx
  have W:=WalksT.enumerate (prog:=X.prog) (w:=X.w) (I.ok.hd hc) e it l n1 n2 n3 its.toArray
  obtain ⟨s1,s2⟩:=st
  have li:i < its.length:=(yz.mp hu).1
  refine W.item i s _ _ (by simp only [yp];omega) ⟨s1,s2,p1.isList⟩ λT vals h' tk hP fT tT mid kk=>?_
  refine ⟨_,rfl,W.go elts kt pt i T _ _ _ mid λh'' st'' kk2=>?_⟩
  obtain ⟨t,a,ha,rfl⟩:=hP
  have ea:a=u:=by simpa [hu] using ha.symm
  subst ea
  obtain ⟨t1,t2,_⟩:=st''
  have kT:h''.IsTuple T #[.int i t,a]:=by
   obtain ⟨o,q,r⟩:=tT
   exact ⟨o,kk2 T o (W.apart i T h' mid) q,r⟩
  refine ⟨.ref T,upd H T (.tup [.int i,x]),I.turnTup (ch:=[e,it]) (t':=tk) hf (λc o hc q=>kk2 c o hc (kk c o hc q)) fT ⟨(show 2<=Sa by decide),[.int i t,a],.cons ⟨t,rfl⟩ (.cons ru .nil),kT⟩,rfl,⟨T,x,I.hok.fresh fT,rfl,λxs' hq=>by rw [I.list_inj hq q1];exact hx,rfl⟩,⟨t1,t2⟩,λc hc=>?_⟩
  have hcn:=(hf c hc).1
  rw [Jjc (λw'=>?_)]
  ·exact hcn
  ·subst w'
   obtain ⟨o,q,_⟩:=Sfv.obj (show Sfv e it l i s.heap from ⟨s1,s2⟩) c hc
   exact absurd (yj q) (Nat.not_lt.mpr fT)
 done:=by
  intro X hP hw hK hc i pins s σ H E I hf st hg
  subst hP hw hK
  obtain ⟨xs,q1,hi⟩:=hg
  obtain ⟨its,rv,p1,_⟩:=I.list q1
  have W:=WalksT.enumerate (prog:=X.prog) (w:=X.w) (I.ok.hd hc) e it l n1 n2 n3 its.toArray
  obtain ⟨s1,s2⟩:=st
  have e1:=rv.length
  have ei:i=its.toArray.size:=by simp only [yp];omega
  subst ei
  refine W.done s _ _ ⟨s1,s2,p1.isList⟩ λh' tk kk=>⟨rfl,?_⟩
  exact I.turnMany (ch:=[e,it]) hf λc o hc q=>kk c o hc q
 self:=λ_ _ _ _ _ st h=>let ⟨_,q⟩:=st.1;wpAny_pyIter_enum q h
def Su4 (K:Si) (ta:TA):TI:=λσ H R=>ta σ H λvs H1=>∃a,vs= [.ref a]/\(∃xs,Sx K H1 a xs)/\R (ItE K a) H1
theorem Yan {X:Cx} {elts:List Expr} {kt:Nat} {pt:Pos} {a:Expr} {ta:TA} {p pos:Pos} (hg:Gl X "enumerate") (hm:X.mg "enumerate" =none) (ha:PA X [a] ta) (hs:starEach [a] X.env= [(false,eval a X.env)]:=by rfl):
  PI X (.Tuple elts kt pt) (.Call (.Name "enumerate" p) [a] [] pos) (Su4 X.K ta):=by
 intro pins s σ H R I h
 refine Call_ (Jqu I hg hm Jtw (PyProof.Rows.callWith_type1 (thn (ha pos pins s σ H _ I h) λus s1 zq=>?_) (by rw [hs];rfl) rfl))
 obtain ⟨vs,H1,I1,r1,q1⟩:=zq
 obtain ⟨l,rfl,⟨xs,q1⟩,q⟩:=q1
 obtain ⟨u,rfl,r2⟩:=Jmw r1
 obtain rfl:u=Value.ref l:=r2
 obtain ⟨its,rv,p1,_⟩:=I1.list q1
 have a1:l < s1.heap.objs.size:=by obtain ⟨o,n,e,_⟩:=p1;exact yj e
 refine call_enumerate_list p1.isList λh' z1 z2 z3 kk=>?_
 have I2:Sw X pins σ H1 {s1 with heap:=h'}:=I1.kept (t':=s1.toks) kk
 refine wpAny_pyIter_enum z1 ⟨_,_,_,_,H1,rfl,I2,Yq (s1.heap.objs.size+1) s1.heap.objs.size l (Nat.succ_ne_self _) (yu (Nat.lt_succ_of_lt a1)) (yu a1),⟨⟨_,z1⟩,z2⟩,λc hc=>?_,q⟩
 have hc':s1.heap.objs.size<=c:=by
  simp only [yo,yae,or_false] at hc
  rcases hc with rfl|rfl
  ·exact Nat.le_succ _
  ·exact yg _
 exact I1.fpOk hc' (I1.hok.fresh hc')
section
variable {prog:Sb} {w:Sd} {A:Se} {E:S6->S7->Prop} {s:S7}
end
section
variable {prog:Sb} {w:Sd} {A:Se} {E:S6->S7->Prop} {s:S7}
variable {z TI TO i1 i2 i3 l1 l2 l3:S5} {n k:Nat} {P1 P2 P3:Nat->S6->Prop} {S1 S2 S3:Nat->Sg->Prop} {a b c:S6}
end
section
variable {prog:Sb} {w:Sd} {z TI TO i1 i2 i3 l1 l2 l3:S5} {n:Nat} {P1 P2 P3:Nat->S6->Prop} {S1 S2 S3:Nat->Sg->Prop}
end
section
variable {prog:Sb} {w:Sd} {A:Se} {E:S6->S7->Prop} {s:S7}
end
section
variable {X:Cx} {pins:List (S5×Obj)} {σ:St} {H:Hp} {s:S7}
end
section
variable {K:Si} {g:TG} {σ:St} {H:Hp}
theorem Ya3 {a:S5} {xs:List V} {tb:TS} {D:Sbz} (Pv:Nat->St->Hp->Prop) (h0:Pv 0 σ H) (hl:∀i σ H,i<=xs.length->Pv i σ H->Sx K H a xs)
  (hs:∀i x σ H T,xs[i]?=some x->Pv i σ H->H T=none->g (.ref T) σ (upd H T (.tup [.int i,x])) λσ2 H2=>tb {D with nx:=Pv (i+1),ct:=Pv (i+1),bk:=D.nx} σ2 H2) (hd:∀σ H,Pv xs.length σ H->D.nx σ H):
  ∃W:Nat->Nat->St->Hp->Prop,(∃m,W 0 m σ H)/\∀i m σ H,W i m σ H->
   ((ItE K a).stop i H/\D.nx σ H)\/((ItE K a).go i H/\∃N:St->Hp->Prop,(∀σ' H',N σ' H'->∃m',m' < m/\W (i+1) m' σ' H')/\∀x H',(ItE K a).yld i H x H'->g x σ H' λσ2 H2=>tb {D with nx:=N,ct:=N,bk:=D.nx} σ2 H2):=by
 refine ⟨λi m σ H=>m=xs.length - i/\i<=xs.length/\Pv i σ H,⟨xs.length,by simp,yak _,h0⟩,?_⟩
 rintro i m σ H ⟨rfl,hi,p⟩
 have q:=hl i σ H hi p
 by_cases hlt:i < xs.length
 ·refine .inr ⟨⟨xs,xs[i],q,by simp [hlt]⟩,Pv (i+1),λσ' H' p'=>⟨xs.length - (i+1),by omega,rfl,hlt,p'⟩,λx H' y=>?_⟩
  obtain ⟨T,u,hT,rfl,hu,rfl⟩:=y
  exact hs i u σ _ T (hu xs q) p hT
 ·have e:i=xs.length:=by omega
  subst e
  exact .inl ⟨⟨xs,q,rfl⟩,hd σ H p⟩
end
section
variable {X:Cx}
theorem Jwg {K:Si} (h:X.K=K):OpR X (compareOp .In) (rIn K false):=by subst h;exact Jnu
theorem Jq8 {K:Si} {e:Expr} {f:Str} {ta:TE} {pos:Pos} (h:X.K=K) (he:PE X e ta) (hb:attributeBase e f X.env (eval e X.env)=eval e X.env):PE X (.Attribute e f pos) (Spo K ta f):=by subst h;exact Jkq he hb
end
section
variable {X:Cx} {pos:Pos}
end
section
variable {g:TG} {tt:TT} {te:TE} {H:Hp} {D:S5} {σ:St} {R:Hp->Prop}
theorem Jz4 {K:Si} {a:S5} {xs:List V} (Pv:Nat->St->Hp->Prop) (h0:Pv 0 σ H) (hl:∀i σ H,i<=xs.length->Pv i σ H->SqT K H a xs)
  (hs:∀i x σ H,xs[i]?=some x->Pv i σ H->g x σ H λσ3 H3=>tt σ3 H3 λb H4=>if b=true then te σ3 H4 (λv H5=>∃ys,H5 D=some (.lst ys)/\ys.length < Sa/\Pv (i+1) σ3 (upd H5 D (.lst (ys++ [v])))) else Pv (i+1) σ3 H4)
  (hd:∀σ H,Pv xs.length σ H->R H):
  ∃W:Nat->Nat->St->Hp->Prop,(∃m,W 0 m σ H)/\∀i m σ' H',W i m σ' H'->((Itt K a).stop i H'/\R H')\/((Itt K a).go i H'/\∃N:St->Hp->Prop,(∀σ2 H2,N σ2 H2->∃m',m' < m/\W (i+1) m' σ2 H2)/\
   ∀x H2,(Itt K a).yld i H' x H2->g x σ' H2 λσ3 H3=>tt σ3 H3 λb H4=>if b=true then te σ3 H4 (λv H5=>∃ys,H5 D=some (.lst ys)/\ys.length < Sa/\N σ3 (upd H5 D (.lst (ys++ [v])))) else N σ3 H4):=by
 refine ⟨λi m σ H=>m=xs.length - i/\i<=xs.length/\Pv i σ H,⟨xs.length,by simp,yak _,h0⟩,?_⟩
 rintro i m σ H ⟨rfl,hi,p⟩
 have q:=hl i σ H hi p
 by_cases hlt:i < xs.length
 ·refine .inr ⟨⟨xs,xs[i],q,by simp [hlt]⟩,Pv (i+1),λσ' H' p'=>⟨xs.length - (i+1),by omega,rfl,hlt,p'⟩,λx H' y=>?_⟩
  obtain ⟨e,y⟩:=y
  subst e
  exact hs i x σ _ (y xs q) p
 ·have e:i=xs.length:=by omega
  subst e
  exact .inl ⟨⟨xs,q,yg _⟩,hd σ H p⟩
end
theorem Jmj {K:Si} {a D:S5} {xs:List V} {te:TE} {R:Hp->Prop} {H:Hp} {o:Option V} {rest:List (Option V)} (ys:List V) (hD:H D=none) (el:ys.length=xs.length) (sz:xs.length<=2000) (hq:H a=some (.lst xs))
  (he:∀(i:Nat) (x y:V) (H':Hp) (Q:VK),xs[i]?=some x->ys[i]?=some y->Sn H H'->(∀H5,Sn H' H5->Q y H5)->te (some x::rest) H' Q) (hd:∀H',Sn H H'->H' D=some (.lst ys)->R H'):
  ∃W:Nat->Nat->St->Hp->Prop,(∃m,W 0 m (o::rest) (upd H D (.lst [])))/\∀i m σ' H',W i m σ' H'->((Itl K a).stop i H'/\R H')\/((Itl K a).go i H'/\∃N:St->Hp->Prop,(∀σ2 H2,N σ2 H2->∃m',m' < m/\W (i+1) m' σ2 H2)/\
   ∀x H2,(Itl K a).yld i H' x H2->Jnf 0 x σ' H2 λσ3 H3=>Sj5 σ3 H3 λb H4=>if b=true then te σ3 H4 (λv H5=>∃ys,H5 D=some (.lst ys)/\ys.length < Sa/\N σ3 (upd H5 D (.lst (ys++ [v])))) else N σ3 H4):=by
 refine Jmi (λi σ H'=>(∃o,σ=o::rest)/\H' D=some (.lst (ys.take i))/\Sn H H') ⟨⟨_,rfl⟩,Sv,Sn.upd hD⟩ (λi σ H' _ ⟨_,_,sm⟩=>Sx.of (sm _ _ hq)) ?_ ?_
 ·rintro i x σ H' hx ⟨⟨o,rfl⟩,hDs,sm⟩
  have hi:i < ys.length:=by rw [el];exact (yz.mp hx).1
  refine Jly (he i x ys[i] H' _ hx (yi hi) sm λH5 s5=>⟨_,s5 _ _ hDs,?_,⟨_,rfl⟩,?_,λc u z=>?_⟩)
  ·rw [yk]
   exact Jkn (by omega)
  ·rw [Sv,ybc,yi hi]
   rfl
  ·rw [Jjc (Jjf z hD)]
   exact s5 _ _ (sm _ _ z)
 ·rintro σ H' ⟨_,hDs,sm⟩
  rw [yam (by omega)] at hDs
  exact hd H' sm hDs
theorem Jqr {K:Si} {a D:S5} {xs:List V} {te:TE} {R:Hp->Prop} {H:Hp} {o:Option V} {rest:List (Option V)} (ys:List V) (hD:H D=none) (el:ys.length=xs.length) (sz:xs.length<=2000) (hq:H a=some (.tup xs))
  (he:∀(i:Nat) (x y:V) (H':Hp) (Q:VK),xs[i]?=some x->ys[i]?=some y->Sn H H'->(∀H5,Sn H' H5->Q y H5)->te (some x::rest) H' Q) (hd:∀H',Sn H H'->H' D=some (.lst ys)->R H'):
  ∃W:Nat->Nat->St->Hp->Prop,(∃m,W 0 m (o::rest) (upd H D (.lst [])))/\∀i m σ' H',W i m σ' H'->((Itt K a).stop i H'/\R H')\/((Itt K a).go i H'/\∃N:St->Hp->Prop,(∀σ2 H2,N σ2 H2->∃m',m' < m/\W (i+1) m' σ2 H2)/\
   ∀x H2,(Itt K a).yld i H' x H2->Jnf 0 x σ' H2 λσ3 H3=>Sj5 σ3 H3 λb H4=>if b=true then te σ3 H4 (λv H5=>∃ys,H5 D=some (.lst ys)/\ys.length < Sa/\N σ3 (upd H5 D (.lst (ys++ [v])))) else N σ3 H4):=by
 refine Jz4 (λi σ H'=>(∃o,σ=o::rest)/\H' D=some (.lst (ys.take i))/\Sn H H') ⟨⟨_,rfl⟩,Sv,Sn.upd hD⟩ (λi σ H' _ ⟨_,_,sm⟩=>SqT.of (sm _ _ hq)) ?_ ?_
 ·rintro i x σ H' hx ⟨⟨o,rfl⟩,hDs,sm⟩
  have hi:i < ys.length:=by rw [el];exact (yz.mp hx).1
  refine Jly (he i x ys[i] H' _ hx (yi hi) sm λH5 s5=>⟨_,s5 _ _ hDs,?_,⟨_,rfl⟩,?_,λc u z=>?_⟩)
  ·rw [yk]
   exact Jkn (by omega)
  ·rw [Sv,ybc,yi hi]
   rfl
  ·rw [Jjc (Jjf z hD)]
   exact s5 _ _ (sm _ _ z)
 ·rintro σ H' ⟨_,hDs,sm⟩
  rw [yam (by omega)] at hDs
  exact hd H' sm hDs
section
variable {X:Cx}
theorem Jzo {K:Si} (h:X.K=K):MtR X "str.join" (Sju K):=by subst h;exact Jp4
theorem Slo {K:Si} {o e:Expr} {es:List Expr} {to:TE} {t:TA} {name:Str} {apos cpos:Pos} {T id:String} {r:V->List V->Hp->VK->Prop} (h:X.K=K) (pa:PlainAttrs T) (slot:Slot T name id) (hty:typeOf (.builtin id)=pure (.type "method_descriptor")) (hm:MtR X id r) (ho:PE X o to) (ha:PA X (e::es) t)
  (hbase:attributeBase o name X.env (eval o X.env)=eval o X.env:=by rfl)
  (hfew:((backTo cpos (starEach (e::es) X.env)).all (λx=>!x.1)&&(backToKw cpos (keywordEach [] X.env)).all (λx=>x.1.isSome)
   &&decide ((e::es).length+([]:List Keyword).length+(if ([]:List Keyword).isEmpty then 0 else 1) < 30))=true:=by rfl)
  (hline:(apos.endLine==cpos.line)=true:=by rfl) (hs:starEach (e::es) X.env=(false,eval e X.env)::starEach es X.env:=by rfl) (hplain:(backTo cpos (starEach es X.env)).any (·.1)=false:=by rfl):
  PE X (.Call (.Attribute o name apos) (e::es) [] cpos) (tBM K T r to t):=by
 subst h
 exact Jll pa slot hty hm ho ha hbase hfew hline hs hplain
end
theorem But.new {p D:S5} {H H':Hp} {o:HO} (b:But p H H') (hD:H D=none) (hp:Scl H p):But p H (upd H' D o):=by
 have ne:p≠D:=λe=>by obtain ⟨_,_,_,q⟩:=hp;rw [e,hD] at q;cases q
 refine ⟨λc u n e=>?_,?_⟩
 ·rw [Jjc (λz=>by subst z;rw [hD] at e;cases e)]
  exact b.1 c u n e
 ·obtain ⟨x,y,z,q⟩:=b.2
  exact ⟨x,y,z,by rw [Jjc ne];exact q⟩
section
variable {X:Cx}
end
theorem Suc {X:Cx} {e0:Expr} {t0:TE} {e1:Expr} {t1:TE} {e2:Expr} {t2:TE} {e3:Expr} {t3:TE} {e4:Expr} {t4:TE} {e5:Expr} {t5:TE} {e6:Expr} {t6:TE} {e7:Expr} {t7:TE} {e8:Expr} {t8:TE} {e9:Expr} {t9:TE} {e10:Expr} {t10:TE} {e11:Expr} {t11:TE} {e12:Expr} {t12:TE} {e13:Expr} {t13:TE} (h0:PE X e0 t0) (h1:PE X e1 t1) (h2:PE X e2 t2) (h3:PE X e3 t3) (h4:PE X e4 t4) (h5:PE X e5 t5) (h6:PE X e6 t6) (h7:PE X e7 t7) (h8:PE X e8 t8) (h9:PE X e9 t9) (h10:PE X e10 t10) (h11:PE X e11 t11) (h12:PE X e12 t12) (h13:PE X e13 t13) (s0:Jjr e0=false:=by rfl) (s1:Jjr e1=false:=by rfl) (s2:Jjr e2=false:=by rfl) (s3:Jjr e3=false:=by rfl) (s4:Jjr e4=false:=by rfl) (s5:Jjr e5=false:=by rfl) (s6:Jjr e6=false:=by rfl) (s7:Jjr e7=false:=by rfl) (s8:Jjr e8=false:=by rfl) (s9:Jjr e9=false:=by rfl) (s10:Jjr e10=false:=by rfl) (s11:Jjr e11=false:=by rfl) (s12:Jjr e12=false:=by rfl) (s13:Jjr e13=false:=by rfl):PA X [e0,e1,e2,e3,e4,e5,e6,e7,e8,e9,e10,e11,e12,e13] (Jjy t0 (Jjy t1 (Jjy t2 (Jjy t3 (Jjy t4 (Jjy t5 (Jjy t6 (Jjy t7 (Jjy t8 (Jjy t9 (Jjy t10 (Jjy t11 (Jjy t12 (Jjy t13 (Jrf))))))))))))))):=Jko h0 (Jko h1 (Jko h2 (Jko h3 (Jko h4 (Jko h5 (Jko h6 (Jko h7 (Jko h8 (Jko h9 (Jko h10 (Jko h11 (Jko h12 (Jko h13 (Ss) s13) s12) s11) s10) s9) s8) s7) s6) s5) s4) s3) s2) s1) s0
theorem Jws {es:List Expr} {p:Pos} {t:Option Expr} {l:Nat} {env:Env}:swapsWith (.List es p) t l env=pure false:=rfl
section
variable {prog:Sb} {w:Sd} {A:Se} {E:S6->S7->Prop} {s:S7}
variable {z TI TO i1 i2 i3 i4 l1 l2 l3 l4:S5} {n k:Nat} {P1 P2 P3 P4:Nat->S6->Prop} {S1 S2 S3 S4:Nat->Sg->Prop} {a b c d0:S6}
end
section
variable {prog:Sb} {w:Sd} {z TI TO i1 i2 i3 i4 l1 l2 l3 l4:S5} {n:Nat} {P1 P2 P3 P4:Nat->S6->Prop} {S1 S2 S3 S4:Nat->Sg->Prop}
end
section
variable {prog:Sb} {w:Sd} {A:Se} {E:S6->S7->Prop} {s:S7}
end
section
variable {K:Si} {g:TG} {σ:St} {H:Hp}
end
section
variable {X:Cx}
end
theorem ft_mk {K:Si} {h:Sg} {mg:Str->Option S6} (X:K.In h) (G:h.Ns mainGlobals mg) {q:Str} {st:Sf} {ps:List Str} {f:S5} {od an:Option S5} {sl:Array (Option S6)} {oc kV dc pm cd ct:S6} (a:PySem.W.nsIn K mainGlobals q=some (some (.ref f)))
  (l:K.lookup f=some ⟨oc,od,.func (PySem.W.fnOf q q (Jmn st) (Jli st) (Jje st) .none kV dc pm an cd ct),sl⟩) (c:PySem.W.codeIn K cd q=true) (k:PySem.W.keepIn K (.ref f)=true)
  (hb:∀(kV doc pm:S6) (an:Option S5) (cdv ct:S6) (us:List S6),us.length=ps.length->bindArgs (PySem.W.fnOf q q (Jmn st) (Jli st) (Jje st) .none kV doc pm an cdv ct) ⟨us,[]⟩=pure (ps.zip us)):FT K mg q st ps f (PySem.W.fnOf q q (Jmn st) (Jli st) (Jje st) .none kV dc pm an cd ct):=
 ⟨PySem.W.mg_of X G a,Ju2 (st:=st) l c k,(Ju2 (st:=st) l c k).binds hb⟩
theorem fm_mk {K:Si} {n q:Str} {st:Sf} {ps:List Str} {f:S5} {od an:Option S5} {sl:Array (Option S6)} {oc kV dc pm cd ct:S6}
  (l:K.lookup f=some ⟨oc,od,.func (PySem.W.fnOf n q (Jmn st) (Jli st) (Jje st) .none kV dc pm an cd ct),sl⟩) (c:PySem.W.codeIn K cd q=true) (k:PySem.W.keepIn K (.ref f)=true)
  (hb:∀(kV doc pm:S6) (an:Option S5) (cdv ct:S6) (us:List S6),us.length=ps.length->bindArgs (PySem.W.fnOf n q (Jmn st) (Jli st) (Jje st) .none kV doc pm an cdv ct) ⟨us,[]⟩=pure (ps.zip us)):FM K n q st ps f (PySem.W.fnOf n q (Jmn st) (Jli st) (Jje st) .none kV dc pm an cd ct):=
 ⟨Ju2 (st:=st) l c k,(Ju2 (st:=st) l c k).binds hb⟩
theorem xc_mk {K:Si} {C W fI:S5} {nm q:Str} {N:S5} {bs:List S6} {sn:List Str} {sub:List S6} {ab:Bool} {col:Option Bool} {dd:Option S5} {u v w x y:Option S6}
  (l:K.lookup C=some (excClassObj nm q C N bs (.ref W::VEm) true sn sub ab col dd u v w x y "ValueError.__new__")) (t:PySem.W.tailIn K VEm (.ref W::VEm)=true) (a:xcB K C fI=true):Sag K C W fI:=⟨⟨_,_,_,_,_,_,_,_,_,_,_,_,_,_,l⟩,t,a⟩
theorem ec_mk {K:Si} {C:S5} {dd:Option S5} {cl:ClassData} {s:Array (Option S6)} (l:K.lookup C=some ⟨.type "type",dd,.cls cl,s⟩) (m:Sl K C (.type "BaseException")=some true):Siq K C:=⟨⟨_,_,_,l⟩,m⟩
section
variable {K:Si} {g:TG} {σ:St} {H:Hp}
end
section
variable {prog:Sb} {w:Sd} {A:Se} {E:S6->S7->Prop} {s:S7}
variable {z TI TO i1 i2 l1 l2:S5} {n k:Nat} {P1 P2:Nat->S6->Prop} {S1 S2:Nat->Sg->Prop} {a b:S6}
end
section
variable {prog:Sb} {w:Sd} {z TI TO i1 i2 l1 l2:S5} {n:Nat} {P1 P2:Nat->S6->Prop} {S1 S2:Nat->Sg->Prop}
end
section
variable {prog:Sb} {w:Sd} {A:Se} {E:S6->S7->Prop} {s:S7}
end
section
variable {K:Si} {g:TG} {σ:St} {H:Hp}
end
section
variable {X:Cx}
theorem Jyz {bs:List Bool} {n:Nat} (e:n=bs.length):((List.range n).all λj=>bs.getD j false)=bs.all id:=by
 subst e
 rw [ybe,yah,yah]
 constructor
 ·intro h b hb
  obtain ⟨j,hj,rfl⟩:=List.getElem_of_mem hb
  have:=h j (ybn.mpr hj)
  simpa [List.getD,yi hj] using this
 ·intro h j hj
  have hj':=ybn.mp hj
  have:=h bs[j] (ybu hj')
  simpa [List.getD,yi hj'] using this
theorem Yax {s:S7} {A:Se} {xs ys:List V} {bs:List Bool} {its jts:List S6} (r1:Sa2 xs its) (r2:Sa2 ys jts) (l1:xs.length=ys.length) (l2:bs.length=xs.length)
  (hs:∀(i:Nat) x y b,xs[i]?=some x->ys[i]?=some y->bs[i]?=some b->Sef x y b):∀j (h1:j < its.toArray.size) (h2:j < jts.toArray.size),SeqAt.EqAt A s its.toArray[j] jts.toArray[j] (bs.getD j false):=by
 intro j j1 j2
 have e1:=r1.length
 have e2:=r2.length
 simp only [yp] at j1 j2
 have a1:xs[j]?=some xs[j]:=yi (by omega)
 have a2:ys[j]?=some ys[j]:=yi (by omega)
 have a3:bs[j]?=some bs[j]:=yi (by omega)
 obtain ⟨u,hu1,ru⟩:=r1.get a1
 obtain ⟨w',hw1,rw'⟩:=r2.get a2
 have b1:its.toArray[j]=u:=by simpa [yi j1] using hu1
 have b2:jts.toArray[j]=w':=by simpa [yi j2] using hw1
 have b3:bs.getD j false=bs[j]:=by simp [List.getD,a3]
 rw [b1,b2,b3]
 exact (hs j _ _ _ a1 a2 a3).at ru rw'
def Sup (K:Si):R2:=λx y H Q=>∃(p q:S5) (xs ys:List V) (bs:List Bool),x= .ref p/\y= .ref q/\Sx K H p xs/\Sx K H q ys/\xs.length=ys.length/\bs.length=xs.length/\
 (∀(i:Nat) x y b,xs[i]?=some x->ys[i]?=some y->bs[i]?=some b->Sef x y b)/\Q (.bl (!bs.all id)) H
theorem Slm (hu:X.A.units+64 < cLine):OpR X (compareOp .NotEq) (Sup X.K):=by
 rintro pins s σ H x y v u Q I rx ry ⟨p,q,xs,ys,bs,rfl,rfl,h1,h2,l1,l2,hs,k⟩
 obtain rfl:v=Value.ref p:=rx
 obtain rfl:u=Value.ref q:=ry
 obtain ⟨its,r1,p1,_⟩:=I.list h1
 obtain ⟨jts,r2,p2,_⟩:=I.list h2
 have e1:=r1.length
 have e2:=r2.length
 refine SeqAt.RcNeAt.lists (e:=λj=>bs.getD j false) p1.isList p2.isList (by simp only [yp];omega) (by omega) (Yax r1 r2 l1 l2 hs) _ _ _ _ ⟨.bl _,H,I,rfl,?_⟩
 rw [Jyz (by simp only [yp];omega)]
 exact k
def Suo (K:Si):R2:=λx y H Q=>∃(p q:S5) (xs:List V),x= .ref p/\y= .ref q/\Sx K H p xs/\Sx K H q []/\Q (.bl (!xs.isEmpty)) H
theorem Jzz (hu:X.A.units+64 < cLine):OpR X (compareOp .NotEq) (Suo X.K):=by
 rintro pins s σ H x y v u Q I rx ry ⟨p,q,xs,rfl,rfl,h1,h2,k⟩
 cases xs with
 |nil=>exact Slm hu pins s σ H _ _ v u Q I rx ry ⟨p,q,[],[],[],rfl,rfl,h1,h2,rfl,rfl,λi x y b e=>by simp at e,k⟩
 |cons c r=>
  obtain rfl:v=Value.ref p:=rx
  obtain rfl:u=Value.ref q:=ry
  obtain ⟨its,r1,p1,_⟩:=I.list h1
  obtain ⟨jts,r2,p2,_⟩:=I.list h2
  have e1:=r1.length
  have e2:=r2.length
  refine SeqAt.RcNeAt.lists_lengths p1.isList p2.isList ?_ (by omega) _ _ _ _ ⟨.bl _,H,I,rfl,k⟩
  simp only [yp,bne_iff_ne]
  rw [<-e1,<-e2]
  simp
end
end L2
namespace L2
open PySem PySem.Spec PyProof.Rows
section
variable {H:Hp} {lb:Array (Nat×Nat×Str)}
theorem Scu.triples {l:List S6} (x:Scu H lb l):TriplesOk l:=by
 fun_induction Scu H lb l with
 |case1=>exact True.intro
 |case2 l _ c _ v r ih=>exact ih x.2
 |case3=>exact x.elim
theorem Scu.hit {pos:Pos} {v:S6} {l:List S6} (x:Scu H lb l) (h:codeAmong pos l=some v):∃(q:Str) (a:S5),(pos.line,pos.col,q)∈lb/\v= .ref a/\H a=some (.cod q):=by
 fun_induction Scu H lb l with
 |case1=>cases h
 |case2 l _ c _ v' r ih=>
  obtain ⟨⟨n,m,q,a,h1,h2,h3,h4,h5⟩,h6⟩:=x
  unfold codeAmong at h
  split at h
  ·rename_i hc
   cases h
   simp only [yac,beq_iff_eq] at hc
   have e1:n=pos.line:=by omega
   have e2:m=pos.col:=by omega
   rw [e1,e2] at h1
   exact ⟨q,a,h1,h4,h5⟩
  ·exact ih h6 h
 |case3=>exact x.elim
theorem Scu.snoc {pos:Pos} {q:Str} {a:S5} (hm:(pos.line,pos.col,q)∈lb) (ha:H a=some (.cod q)) {l:List S6} (x:Scu H lb l):Scu H lb (l++ [rawInt pos.line,rawInt pos.col,.ref a]):=by
 fun_induction Scu H lb l with
 |case1=>exact ⟨⟨_,_,q,a,hm,rfl,rfl,rfl,ha⟩,True.intro⟩
 |case2 l _ c _ v r ih=>exact ⟨x.1,ih x.2⟩
 |case3=>exact x.elim
end
def Sl7 (vs:Array S6) (c P:S5):Bool:=
 (match (vs[11]?:Option S6) with|some (.ref p)=>p==P|_=>false)&&(match vs.getD 11 .none with| .ref p=>p==P|_=>false)&&(match vs.getD 18 .none with| .str _ _=>true|_=>false)&&(match vs.getD 7 .none with| .int _ _=>true|_=>false)&&
 (match vs.getD 9 .none with| .bool _=>true|_=>false)&&(match vs.getD 10 .none with| .int _ _=>true|_=>false)&&!(c==P)
structure Nst (K:Si) (f c P:S5):Prop where
 fn:∃(oc:S6) (od:Option S5) (fd:Sc) (sl:Array (Option S6)),K.lookup f=some ⟨oc,od,.func fd,sl⟩/\fd.code= .ref c
 hd:∃(od:Option S5) (vs:Array S6) (sl:Array (Option S6)),K.lookup c=some ⟨.type "code",od,.fields vs,sl⟩/\Sl7 vs c P=true
theorem Nst.code {K:Si} {f c P:S5} {h:Sg} (n:Nst K f c P) (X:K.In h):PySem.W.CodeHd h c P:=by
 obtain ⟨od,vs,sl,lk,b⟩:=n.hd
 unfold Sl7 at b
 simp only [yac] at b
 obtain ⟨⟨⟨⟨⟨⟨b1,b2⟩,b3⟩,b4⟩,b5⟩,b6⟩,b7⟩:=b
 have e1:vs[11]?=some (.ref P):=by
  split at b1
  ·rename_i p e;rw [e,beq_iff_eq.mp b1]
  ·cases b1
 have e2:vs.getD 11 .none= .ref P:=by
  split at b2
  ·rename_i p e;rw [e,beq_iff_eq.mp b2]
  ·cases b2
 have e3:∃x t,vs.getD 18 .none= .str x t:=by
  split at b3
  ·rename_i x t e;exact ⟨x,t,e⟩
  ·cases b3
 have e4:∃x t,vs.getD 7 .none= .int x t:=by
  split at b4
  ·rename_i x t e;exact ⟨x,t,e⟩
  ·cases b4
 have e5:∃x,vs.getD 9 .none= .bool x:=by
  split at b5
  ·rename_i x e;exact ⟨x,e⟩
  ·cases b5
 have e6:∃x t,vs.getD 10 .none= .int x t:=by
  split at b6
  ·rename_i x t e;exact ⟨x,t,e⟩
  ·cases b6
 obtain ⟨f1,t1,e3⟩:=e3
 obtain ⟨f2,t2,e4⟩:=e4
 obtain ⟨f3,e5⟩:=e5
 obtain ⟨f4,t4,e6⟩:=e6
 exact ⟨_,vs,f1,t1,f2,t2,f3,f4,t4,X _ _ lk,rfl,rfl,e1,e2,e3,e4,e5,e6,by simpa using b7⟩
def Bmn (mg:Str->Option S6) (base:Sg):Prop:=∃bm ob,mg "__builtins__" =some (.ref bm)/\bm≠builtinsNs/\base.get? bm=some ob/\ob.cls= .type "module" /\ob.dict=some builtinsNs/\ob.data= .plain
section
variable {X:Cx} {pins:List (S5×Obj)} {σ:St} {H:Hp} {s:S7} {M:Model} {A:Se} {E:S6->S7->Prop} {name qual:Str} {st:Sf} {pos:Pos} {firstLine:Nat} {c P:S5} {lb:Array (Nat×Nat×Str)} {clos:List (Str×S5)} {Q:S6->S7->Prop}
end
def Scq (H:Hp) (c:S5) (v:V):Prop:=∃o u,H c=some (Si7 o)/\o.data= .cell (some u)/\Sa4 v u
theorem Scq.same {H H':Hp} {c:S5} {v:V} (s:Sn H H') (h:Scq H c v):Scq H' c v:=by obtain ⟨o,u,a,b,d⟩:=h;exact ⟨o,u,s _ _ a,b,d⟩
def Cx.fix (X:Cx) (cn:Str->Bool):Cx:={X with fn:=λx=>X.fn x&&!cn x}
open Classical in
noncomputable def Jrg (X:Cx) (cn:Str->Bool) (h:Sg) (H:Hp):Hp:=λb=>if ∃x,cn x=true/\X.fn x=true/\X.env.cells.lookup x=some b then (h.get? b).map Si7 else H b
section
variable {X:Cx} {pins:List (S5×Obj)} {σ:St} {H:Hp} {s:S7} {cn:Str->Bool}
theorem Juw {h:Sg} {b:S5} {o:Obj} {x:Str} (h1:cn x=true) (h2:X.fn x=true) (h3:X.env.cells.lookup x=some b) (e:h.get? b=some o):Jrg X cn h H b=some (Si7 o):=by
 unfold Jrg
 rw [if_pos ⟨x,h1,h2,h3⟩,e]
 rfl
theorem Jqi {h:Sg} {b:S5} (n:¬∃x,cn x=true/\X.fn x=true/\X.env.cells.lookup x=some b):Jrg X cn h H b=H b:=by
 unfold Jrg
 rw [if_neg n]
theorem Yp (I:Sw X pins σ H s) {b:S5} {o:HO} (e:H b=some o):Jrg X cn s.heap H b=some o:=by
 rw [Jqi]
 ·exact e
 ·rintro ⟨x,_,h2,h3⟩
  rcases I.freeC x b h3 with n|⟨f,_⟩
  ·rw [n] at e;cases e
  ·rw [h2] at f;cases f
theorem Sw.fix (I:Sw X pins σ H s) (cn:Str->Bool):Sw (X.fix cn) pins σ (Jrg X cn s.heap H) s/\Sn H (Jrg X cn s.heap H):=by
 have hS:Sn H (Jrg X cn s.heap H):=λb o e=>Yp I e
 have hn:∀b,H b=none->(∀x,cn x=true->X.fn x=true->X.env.cells.lookup x≠some b)->Jrg X cn s.heap H b=none:=λb e n=>by
  rw [Jqi]
  ·exact e
  ·rintro ⟨x,h1,h2,h3⟩;exact n x h1 h2 h3
 refine ⟨⟨⟨I.ok.mod,I.ok.kind,I.ok.glob,I.ok.blt,I.ok.above,I.ok.inj,I.ok.has,λx c hx hc=>I.ok.cab x c ?_ hc,I.ok.hd,I.ok.frames,I.ok.stk,I.ok.exf,I.ok.bs,I.ok.bsz,I.ok.noex,I.ok.exfs,I.ok.funs,I.ok.frf⟩,I.os,I.bare,
  ⟨I.base.keep,I.base.slot,λb o e n hx=>?_,I.base.there,λb xs e=>hS _ _ (I.base.tups b xs e),λb o u e=>hS _ _ (I.base.frzs b o u e),λb ps e=>?_⟩,I.loc,I.cell,?_,λx c e=>?_,λp hp=>?_,λb u e=>?_,I.len⟩,hS⟩
 ·have hx':(X.fn x&&!cn x)=true:=hx
  rw [yac] at hx'
  exact hx'.1
 ·exact hn b (I.base.free b o e n hx) λx _ h2 h3=>absurd (yai (yj e) (I.ok.cab x b h2 h3)) (yba _)
 ·obtain ⟨m,q⟩:=I.base.tbls b ps e
  exact ⟨m,hS _ _ q⟩
 ·exact hn _ I.free λx _ _ h3=>I.cne x _ h3 rfl
 ·have e':X.env.cells.lookup x=some c:=e
  by_cases hc:cn x=true/\X.fn x=true
  ·obtain ⟨v,o,ho,hd⟩:=I.cell x c e'
   refine .inr ⟨?_,o,Juw hc.1 hc.2 e' ho⟩
   show (X.fn x&&!cn x)=false
   rw [hc.1];simp
  ·have out:Jrg X cn s.heap H c=H c:=Jqi λ⟨y,h1,h2,h3⟩=>hc (by rw [I.ok.inj x y c e' h3];exact ⟨h1,h2⟩)
   rcases I.freeC x c e' with n|⟨f,o,q⟩
   ·exact .inl (out.trans n)
   ·refine .inr ⟨?_,o,out.trans q⟩
    show (X.fn x&&!cn x)=false
    rw [f];rfl
 ·obtain ⟨e,n,ne,nf,d⟩:=I.pin p hp
  refine ⟨e,hn _ n λx _ _ h3=>?_,ne,nf,d⟩
  obtain ⟨v,o,ho,hd⟩:=I.cell x _ h3
  rw [e] at ho;cases ho
  exact d v hd
 ·by_cases hb:∃x,cn x=true/\X.fn x=true/\X.env.cells.lookup x=some b
  ·obtain ⟨x,h1,h2,h3⟩:=hb
   obtain ⟨v,o,ho,hd⟩:=I.cell x b h3
   rw [Juw h1 h2 h3 ho] at e
   cases e
   exact ⟨ho,True.intro,⟨o,ho⟩,λ_ _ _ _=>True.intro⟩
  ·rw [Jqi hb] at e
   exact (I.hok b u e).stay (λ_ _ _ q=>q) (λ_ q=>hS _ _ q) (λ_ _ q=>hS _ _ q) λ_ _ q=>hS _ _ q
theorem Sw.celAt (I:Sw X pins σ H s) (J:Sw (X.fix cn) pins σ (Jrg X cn s.heap H) s) {j:Nat} {x:Str} {v:V} (h1:X.N[j]?=some x) (h2:σ[j]?=some (some v)) (hv:X.env.kindOf x=some .cell\/X.env.kindOf x=some .free) (hc:cn x=true) (hf:X.fn x=true):
  ∃b,X.env.cells.lookup x=some b/\Scq (Jrg X cn s.heap H) b v:=by
 obtain ⟨m,_,hl⟩:=I.loc
 have hvis:Vis X.env.scope x:=hv.elim (λz=>.inr (.inl z)) λz=>.inr (.inr z)
 obtain ⟨u,r,l⟩:=hl j x v h1 h2 hvis
 rcases l with ⟨k,_⟩|⟨k,b,e,o,ho,hd⟩
 ·rcases hv with z|z
  ·rw [k] at z;cases z
  ·rw [k] at z;cases z
 ·exact ⟨b,e,o,u,Juw hc hf e ho,hd,r⟩
end
def Fin (X:Cx) (H:Hp) (s:S7):Prop:=s.os=X.s₀.os/\AllBare s.gens/\Un X.fs X.ex X.H₀ H X.s₀.heap s.heap/\HOk X.prog X.w H s.heap
theorem Sw.fin {X:Cx} {pins:List (S5×Obj)} {σ:St} {H:Hp} {s:S7} (I:Sw X pins σ H s):Fin X H s:=⟨I.os,I.bare,I.base,I.hok⟩
def SB (X:Cx) (D:Sbz) (f:Flow) (s':S7):Prop:=
 match f with
 | .next=>∃σ' H',Fin X H' s'/\D.nx σ' H'
 | .brk=>∃σ' H',Fin X H' s'/\D.bk σ' H'
 | .cont=>∃σ' H',Fin X H' s'/\D.ct σ' H'
 | .ret u=>∃v H',Fin X H' s'/\Sa4 v u/\D.rt v H'
theorem SP.sb {X:Cx} {pins:List (S5×Obj)} {D:Sbz} {f:Flow} {s':S7} (h:SP X pins D f s'):SB X D f s':=by
 cases f with
 |next=>obtain ⟨σ',H',I,q⟩:=h;exact ⟨σ',H',I.fin,q⟩
 |brk=>obtain ⟨σ',H',I,q⟩:=h;exact ⟨σ',H',I.fin,q⟩
 |cont=>obtain ⟨σ',H',I,q⟩:=h;exact ⟨σ',H',I.fin,q⟩
 |ret u=>obtain ⟨v,σ',H',I,r,q⟩:=h;exact ⟨v,H',I.fin,r,q⟩
def PB (X:Cx) (st:List Sf) (t:TS):Prop:=
 ∀(pins:List (S5×Obj)) (s:S7) (σ:St) (H:Hp) (D:Sbz),Sw X pins σ H s->t D σ H->Sh (model X.prog X.w) X.A (execs st X.env) (SB X D) X.xe s
section
variable {X:Cx} {st:Sf} {rest:List Sf} {t u:TS}
theorem PSs.pb {l:List Sf} (h:PSs X l t):PB X l t:=λpins s σ H D I q=>thn (h pins s σ H D I q) λ_ _ z=>z.sb
end
theorem Jne {cells:List (Str×S5)} {x:Str} {b:S5}:∀(ns:List (Str×NameKind)) (acc:List (Str×S5)),(Jm2 cells ns acc).lookup x=some b->acc.lookup x=none->(x,NameKind.free)∈ns
 | [],_,e,n=>by unfold Jm2 at e;rw [n] at e;cases e
 | (y,k) :: r,acc,e,n=>by
  unfold Jm2 at e
  by_cases hk:(k==NameKind.free)=true
  ·rw [if_pos hk] at e
   have hk':k= .free:=by simpa using hk
   subst hk'
   by_cases hx:x=y
   ·subst hx;exact ybb
   ·cases hc:cells.lookup y with
    |none=>rw [hc] at e;exact yan _ (Jne r acc e n)
    |some d=>
     rw [hc] at e
     refine yan _ (Jne r _ e ?_)
     rw [yau,beq_eq_false_iff_ne.mpr hx]
     exact n
  ·rw [if_neg hk] at e
   exact yan _ (Jne r acc e n)
section
variable {X:Cx} {rest:List Sf} {t:TS} {st:Sf} {name qual:Str} {i:Nat} {c P:S5} {lb:Array (Nat×Nat×Str)} {caps:List (Str×Nat)}
end
theorem Fun.okN {CX:CXT} {P:Sb} {w:Sd} {K:Si} {mg:Str->Option S6} {base:Sg} {x qual:Str} {st:Sf} {f c T:S5} {fd:Sc} {N ps:List Str} {k:Nat} {sp:Sp} (F:Fun K x qual st f fd) (n:Nst K f c T) (S:Jjh N ps (Jje st)) (len:∀vs H Q E,sp vs H Q E->vs.length=ps.length)
  (hbody:∀(A:Se) (outer:List Env) (s:S7) (H:Hp) (vs:List V) (Q:VK) (E:XK),Sao k (A.deeper (envOfC qual (Jje st) s.heap.objs.size f (.ref c)))->sp vs H Q E->
   ∃t,PB (Jsi CX P w K mg base N qual (Jje st) f (.ref c) A outer s H E) (Jli st) t/\t {nx:=λ_ H'=>Q .non H',rt:=Q} (start N vs) H):Jjz P w K mg base CX (k+1) f fd ps sp:=by
 obtain ⟨oc,od,kV,doc,pm,an,cdv,ct,osl,rfl,lk,hcd⟩:=F.ex
 have ec:cdv= .ref c:=by
  obtain ⟨oc',od',fd',sl',l',e'⟩:=n.fn
  rw [lk] at l';cases l'
  exact e'
 subst ec
 refine ⟨len,λA outer s H args us vs Q E hr e0 hb r hsp=>?_⟩
 have hl:=len _ _ _ _ hsp
 have KX:K.In s.heap:=e0.mod.kin.keeps λb o e=>(e0.bs b o e).1
 have lim:s.heap.NoLimit:=e0.mod.nolimit.keeps λb o e=>(e0.bs b o e).1
 refine codeAny_call_function hr.depth (KX _ _ lk) rfl S.co S.gen rfl (PySem.W.codeRec_of KX hcd) (hb _ _ _ _ ?_)
 refine wpAny_newFunctionEnv_cells S.kind (λ⟨y,v⟩ hy=>?_) λenv he s1 z=>?_
 ·exact (S.par y (ybr hy).1).imp id λq=>⟨q,PySem.W.cellsFrom_some _ _ _ (.inl q)⟩
 subst he
 refine ⟨lim.keeps z.toInCall.keep,codeAny_func ?_⟩
 obtain ⟨t,ht,hq⟩:=hbody A outer s H vs Q E (hr.deeper _) hsp
 refine wpAny_mono (ht [] s1 (start N vs) H _ (Jth S hr.hd e0 hl r z) hq) (λfl s' hs=>?_) λe s' hs=>hs
 cases fl with
 |ret u=>
  obtain ⟨v,H',⟨a1,a2,a3,a4⟩,rv,q⟩:=hs
  exact ⟨v,H',a1,a2,a3,a4,rv,q⟩
 |next=>
  obtain ⟨σ',H',⟨a1,a2,a3,a4⟩,q⟩:=hs
  exact ⟨.non,H',a1,a2,a3,a4,rfl,q⟩
 |brk=>
  obtain ⟨_,_,_,q⟩:=hs
  exact False.elim q
 |cont=>
  obtain ⟨_,_,_,q⟩:=hs
  exact False.elim q
theorem Jmm:∀(ns:List (Str×NameKind)) (n:Nat) (acc:List (Str×S5)),cellsFrom n ns acc=cellsFrom n ns []++acc
 | [],_,_=>rfl
 | (x,k) :: r,n,acc=>by
  unfold cellsFrom
  split
  ·rw [Jmm r (n+1) ((x,n)::acc),Jmm r (n+1) [(x,n)],List.append_assoc]
   rfl
  ·exact Jmm r n acc
theorem Jnz {x:Str} {b:S5}:∀(ns:List (Str×NameKind)) (n:Nat) (acc:List (Str×S5)),(cellsFrom n ns acc).lookup x=some b->acc.lookup x=none->(x,NameKind.cell)∈ns
 | [],_,_,e,m=>by unfold cellsFrom at e;rw [m] at e;cases e
 | (y,k) :: r,n,acc,e,m=>by
  unfold cellsFrom at e
  split at e
  ·rename_i hk
   have hk':k= .cell:=by simpa using hk
   subst hk'
   by_cases hx:x=y
   ·subst hx;exact ybb
   ·refine yan _ (Jnz r _ _ e ?_)
    rw [yau,beq_eq_false_iff_ne.mpr hx]
    exact m
  ·exact yan _ (Jnz r _ _ e m)
theorem Jmk {α β:Type} [BEq α] {x:α}:∀(l m:List (α×β)),(l++m).lookup x=(l.lookup x).or (m.lookup x)
 | [],_=>rfl
 | (y,v) :: r,m=>by
  rw [List.cons_append,yau,yau]
  split
  ·rfl
  ·exact Jmk r m
section
variable {M:Model} {A:Se} {E:S6->S7->Prop} {s₀ s:S7} {m cm:Str->Option S6} {env:Env} {cs:List (Str×S5)}
theorem Jvy (f:Str×S6->PUnit->Sem (ForInStep PUnit)) (hf:∀n v u,f (n,v) u=(do storeName env n v;pure (.yield ⟨⟩))) (hk:env.scope.kind= .function) (sub:∀n c,cs.lookup n=some c->env.cells.lookup n=some c):
  ∀(bs:List (Str×S6)) (m cm:Str->Option S6) (s:S7) (Q:PUnit->S7->Prop),InCallC s₀ env.locals m cs cm s->(∀x∈bs,env.kindOf x.1=some .local\/(env.kindOf x.1=some .cell/\(cs.lookup x.1).isSome=true))->
   (∀s',InCallC s₀ env.locals (bindL env.kindOf bs m) cs (bindC env.kindOf bs cm) s'->Q ⟨⟩ s')->Sh M A (forIn bs ⟨⟩ f) Q E s
 | [],m,cm,s,Q,x,_,h=>by rw [List.forIn_nil];exact S9 (h s x)
 | (n,v) :: r,m,cm,s,Q,x,hb,h=>by
  rw [List.forIn_cons,hf]
  have hr:=λy hy=>hb y (yan (n,v) hy)
  obtain ⟨h0,t0,e0⟩:=x.toInCall.same
  rcases hb (n,v) ybb with hl|⟨hl,hc⟩
  ·refine S8 (S8 (wpAny_storeName_local hl x.toInCall.ns (λh' hn hs=>S9 (Jvy f hf hk sub r (λy=>if y=n then some v else m y) cm _ Q ⟨⟨?_,hn,λb o z=>?_,x.toInCall.fresh⟩,λk c z=>?_,x.apart,x.above⟩ hr λs'' x''=>h s'' ?_)) (by rw [hk];rfl)))
   ·rw [e0];exact ⟨h',_,rfl⟩
   ·exact hs.extBut b o (yu (yai (yj z) x.toInCall.fresh)) (x.toInCall.keep b o z)
   ·exact (x.cell k c z).sameBut hs (ybo (x.above k c (mem_of_lookup z)))
   ·unfold bindL bindC;rw [if_pos hl,if_pos hl];exact x''
  ·obtain ⟨c,hc⟩:=ybp.mp hc
   have hnl:¬env.kindOf n=some .local:=by rw [hl];decide
   have hL:=x.above n c (mem_of_lookup hc)
   refine S8 (S8 (wpAny_storeName_cell hk hl (sub n c hc) (x.cell n c hc) λh' hn hs=>S9 (Jvy f hf hk sub r m (λy=>if y=n then some v else cm y) _ Q ⟨⟨?_,x.toInCall.ns.sameBut hs (yu hL),λb o z=>?_,x.toInCall.fresh⟩,λk c' z=>?_,x.apart,x.above⟩ hr λs'' x''=>h s'' ?_)))
   ·rw [e0];exact ⟨h',_,rfl⟩
   ·exact hs.extBut b o (yu (Nat.lt_trans (yai (yj z) x.toInCall.fresh) hL)) (x.toInCall.keep b o z)
   ·by_cases w':k=n
    ·subst w'
     rw [hc] at z;cases z
     simpa using hn
    ·rw [if_neg w']
     exact (x.cell k c' z).sameBut hs λe=>w' (name_of_addr x.apart (mem_of_lookup z) (e▸mem_of_lookup hc))
   ·unfold bindL bindC;rw [if_neg hnl,if_neg hnl];exact x''
theorem Yad {scope:Scope} {globals:S5} {clos:List (Str×S5)} {bs:List (Str×S6)} {qual:Str} {func:Option S5} {code:S6} {builtins:S5} {Q:Env->S7->Prop} (hk:scope.kind= .function)
  (hb:∀x∈bs,scope.names.lookup x.1=some .local\/(scope.names.lookup x.1=some .cell/\((cellsFrom (s.heap.objs.size+1) scope.names []).lookup x.1).isSome=true))
  (hQ:∀env,env=newEnv scope s.heap.objs.size globals (cellsFrom (s.heap.objs.size+1) scope.names []++clos) qual func code none builtins->
   ∀s',InCallC s env.locals (bindL env.kindOf bs λ_=>none) (cellsFrom (s.heap.objs.size+1) scope.names []) (bindC env.kindOf bs λ_=>none) s'->Q env s'):
  Sh M A (newFunctionEnv scope globals clos bs qual func code none builtins) Q E s:=by
 simp only [newFunctionEnv,Option.isSome_none,Bool.false_eq_true,if_false]
 refine S8 (wpAny_alloc (S8 (wpAny_layCells _ (λn kd cl=>by cases h:kd==NameKind.cell <;> simp [h]) _ _ _ _ ?_)))
 have z:({s with heap:=s.heap.push {cls:=.type "frame",data:=.dict #[]}}:S7).heap.objs.size=s.heap.objs.size+1:=yaz ..
 rw [z,Jmm]
 have ok:=cellsFrom_ok scope.names (s.heap.push {cls:=.type "frame",data:=.dict #[]}) (s.heap.objs.size+1) [] ⟨λ_ _ hm=>(nomatch hm),.nil⟩ (Nat.le_of_eq z.symm)
 rw [show (s.heap.push {cls:=.type "frame",data:=.dict #[]}).objs.size=s.heap.objs.size+1 from yaz ..] at ok
 refine S8 (Jvy (s₀:=s) (cs:=cellsFrom (s.heap.objs.size+1) scope.names []) (env:=newEnv scope s.heap.objs.size globals (cellsFrom (s.heap.objs.size+1) scope.names []++clos) qual func code none builtins) _ (λ_ _ _=>rfl) hk (λn c e=>?_) bs (λ_=>none) (λ_=>none) _ _ ?_ hb λs' x=>S9 (hQ _ rfl s' x))
 ·show (cellsFrom (s.heap.objs.size+1) scope.names []++clos).lookup n=some c
  rw [Jmk,e];rfl
 ·exact ⟨⟨⟨_,_,rfl⟩,(Heap.Ns.new s.heap (.type "frame")).keeps (pushCells_keeps _ _),λb o e=>pushCells_keeps _ _ b o (ym _ e),yg _⟩,λn c hc=>(ok.empty n c (mem_of_lookup hc)).1,ok.apart,λn c hm=>(ok.empty n c hm).2⟩
end
structure Jnp (N ps fr:List Str) (sc:Scope):Prop where
 kind:sc.kind= .function
 co:sc.isCoroutine=false
 gen:sc.isGenerator=false
 nd:N.Nodup
 pre:N.take (ps.length+fr.length)=ps++fr
 par:∀x∈ps,sc.names.lookup x=some .local\/sc.names.lookup x=some .cell
 frs:∀x∈fr,sc.names.lookup x=some .free
 nof:∀y∈sc.names,y.2= .cell->sc.names.lookup y.1=some .cell
def Jx3 (CX:CXT) (P:Sb) (w:Sd) (K:Si) (mg:Str->Option S6) (base:Sg) (N:List Str) (qual:Str) (scope:Scope) (clos:List (Str×S5)) (f:S5) (cd:S6) (A:Se) (outer:List Env) (s:S7) (H:Hp) (E:XK):Cx where
 prog:=P
 w:=w
 K:=K
 mg:=mg
 base:=base
 A:=A.deeper (PySem.W.envX qual scope s.heap.objs.size f cd (cellsFrom (s.heap.objs.size+1) scope.names []++clos))
 N:=N
 s₀:=s
 H₀:=H
 env:=PySem.W.envX qual scope s.heap.objs.size f cd (cellsFrom (s.heap.objs.size+1) scope.names []++clos)
 outer:=outer
 stack:=PySem.W.envX qual scope s.heap.objs.size f cd (cellsFrom (s.heap.objs.size+1) scope.names []++clos)::outer
 ex:=[]
 calm:=true
 fn:=λx=>decide (scope.names.lookup x=some .cell)
 pn:=[]
 xe:=λe s'=>Sh (model P w) (A.deeper (PySem.W.envX qual scope s.heap.objs.size f cd (cellsFrom (s.heap.objs.size+1) scope.names []++clos))) (leaving (PySem.W.envX qual scope s.heap.objs.size f cd (cellsFrom (s.heap.objs.size+1) scope.names []++clos)) e) (λ_ s''=>CX outer H s E e s'') (λe' s''=>CX outer H s E e' s'') s'
theorem Jyt {N:List Str} {vs:List V} {i:Nat} {v:V} (h:(start N vs)[i]?=some (some v)):vs[i]?=some v:=by
 unfold start at h
 by_cases hi:i < vs.length
 ·rw [ycb (by simpa using hi),yn] at h
  cases e:vs[i]? with
  |none=>rw [e] at h;cases h
  |some a=>rw [e] at h;cases h;rfl
 ·rw [yca (by simpa using hi),List.getElem?_replicate] at h
  split at h <;> cases h
theorem Jw2 {CX:CXT} {P:Sb} {w:Sd} {K:Si} {mg:Str->Option S6} {base:Sg} {N ps fr:List Str} {qual:Str} {scope:Scope} {clos:List (Str×S5)} {f:S5} {cd:S6} {A:Se} {outer:List Env} {s s1:S7} {H:Hp} {E:XK} {us:List S6} {vs cs:List V}
  (S:Jnp N ps fr scope) (hd:A.handled=none) (e0:Sf5 P w K mg base A outer s H) (hl:vs.length=ps.length) (hlc:cs.length=fr.length) (r:Sa2 vs us)
  (inj:∀x y b,clos.lookup x=some b->clos.lookup y=some b->x=y) (has:∀y∈scope.names,y.2= .free->∃b,clos.lookup y.1=some b) (cel:∀x b,clos.lookup x=some b->∃v,Scq H b v) (cap:∀x v,(x,v)∈fr.zip cs->∃b,clos.lookup x=some b/\Scq H b v)
  (x:InCallC s s.heap.objs.size (bindL (PySem.W.envX qual scope s.heap.objs.size f cd (cellsFrom (s.heap.objs.size+1) scope.names []++clos)).kindOf (ps.zip us) λ_=>none) (cellsFrom (s.heap.objs.size+1) scope.names []) (bindC (PySem.W.envX qual scope s.heap.objs.size f cd (cellsFrom (s.heap.objs.size+1) scope.names []++clos)).kindOf (ps.zip us) λ_=>none) s1):
  Sw (Jx3 CX P w K mg base N qual scope clos f cd A outer s H E) [] (start N (vs++cs)) H s1:=by
 have hpl:ps.length+fr.length<=N.length:=by have:=congrArg List.length S.pre;rw [yk,yq] at this;omega
 obtain ⟨h1,tk,rfl,hk⟩:=x.done
 have noA:∀b:S5,b∉(Jx3 CX P w K mg base N qual scope clos f cd A outer s H E).ex:=λb z=>absurd (show b∈([]:List S5) from z) (by simp)
 have cobj:∀b v,Scq H b v->∃o u,H b=some (Si7 o)/\s.heap.get? b=some o/\o.data= .cell (some u)/\Sa4 v u:=λb v ⟨o,u,q1,q2,q3⟩=>⟨o,u,q1,(e0.hok b _ q1).1,q2,q3⟩
 have two:∀y b,(cellsFrom (s.heap.objs.size+1) scope.names []++clos).lookup y=some b->(cellsFrom (s.heap.objs.size+1) scope.names []).lookup y=some b\/((cellsFrom (s.heap.objs.size+1) scope.names []).lookup y=none/\clos.lookup y=some b):=λy b e=>by
  rw [Jmk] at e
  cases q:(cellsFrom (s.heap.objs.size+1) scope.names []).lookup y with
  |none=>rw [q] at e;exact .inr ⟨rfl,e⟩
  |some d=>rw [q] at e;exact .inl e
 have low:∀y b,clos.lookup y=some b->b < s.heap.objs.size:=λy b e=>by
  obtain ⟨v,q⟩:=cel y b e
  obtain ⟨o,u,_,q2,_⟩:=cobj b v q
  exact yj q2
 have high:∀y b,(cellsFrom (s.heap.objs.size+1) scope.names []).lookup y=some b->s.heap.objs.size < b:=λy b e=>x.above y b (PySem.mem_of_lookup e)
 refine ⟨⟨e0.mod,S.kind,rfl,rfl,yg _,λy z c h1 h2=>?_,λy hy=>?_,λy c hy h=>?_,λ_=>hd,Around.frames_deeper e0.frames,.inr ⟨rfl,rfl⟩,λb z=>absurd z (noA b),e0.bs,e0.bsz,λb _ _=>noA b,λb z=>absurd z (noA b),e0.funs,e0.frf⟩,
  rfl,e0.bare,Un.kept hk,⟨_,x.toInCall.ns,λi y v h1 h2 h3=>?_⟩,λy c h=>?_,e0.hok.fresh (yg _),λy c h=>?_,λp hp=>absurd (show p∈([]:List (S5×Obj)) from hp) (by simp),e0.hok.kept hk,?_⟩
 ·rcases two y c h1 with a|⟨_,a⟩
  ·rcases two z c h2 with b|⟨_,b⟩
   ·exact name_of_addr x.apart (PySem.mem_of_lookup a) (PySem.mem_of_lookup b)
   ·exact absurd (Nat.lt_trans (high y c a) (low z c b)) (yba _)
  ·rcases two z c h2 with b|⟨_,b⟩
   ·exact absurd (Nat.lt_trans (high z c b) (low y c a)) (yba _)
   ·exact inj y z c a b
 ·have hy:scope.names.lookup y=some .cell\/scope.names.lookup y=some .free:=hy
  show ∃c,(cellsFrom (s.heap.objs.size+1) scope.names []++clos).lookup y=some c
  rw [Jmk]
  cases q:(cellsFrom (s.heap.objs.size+1) scope.names []).lookup y with
  |some d=>exact ⟨d,rfl⟩
  |none=>
   rcases hy with hy|hy
   ·obtain ⟨c,e⟩:=Jns (n:=s.heap.objs.size+1) hy
    rw [q] at e;cases e
   ·exact has _ (PySem.mem_of_lookup hy) rfl
 ·rcases two y c h with a|⟨a,_⟩
  ·exact ybd (high y c a)
  ·have hy':decide (scope.names.lookup y=some .cell)=true:=hy
   obtain ⟨c',e⟩:=Jns (n:=s.heap.objs.size+1) (of_decide_eq_true hy')
   rw [a] at e;cases e
 ·have ha:=Jyt h2
  have h1:N[i]?=some y:=h1
  have hi:i < vs.length+cs.length:=by have:=(yz.mp ha).1;rw [yq] at this;exact this
  have hp:(ps++fr)[i]?=some y:=by rw [<-S.pre,List.getElem?_take_of_lt (by omega)];exact h1
  by_cases hv:i < vs.length
  ·rw [ycb hv] at ha
   rw [ycb (by omega)] at hp
   obtain ⟨u,hu,rv⟩:=r.get ha
   have ndP:ps.Nodup:=(List.nodup_append.mp (by rw [<-S.pre];exact S.nd.sublist (List.take_sublist _ _))).1
   refine ⟨u,rv,?_⟩
   rcases S.par y (yab hp) with k|k
   ·exact .inl ⟨k,Jqp ndP hp hu k⟩
   ·obtain ⟨c,e⟩:=Jns (n:=s.heap.objs.size+1) k
    refine .inr ⟨.inl k,c,?_,?_⟩
    ·show (cellsFrom (s.heap.objs.size+1) scope.names []++clos).lookup y=some c
     rw [Jmk,e];rfl
    ·have q:=x.cell y c e
     rw [Jqo ndP hp hu (by show scope.names.lookup y≠_;rw [k];decide)] at q
     exact q
  ·rw [yca (by omega)] at ha
   rw [yca (by omega)] at hp
   obtain ⟨b,e1,e2⟩:=cap y v (yab (i:=i - vs.length) (by rw [yce];exact ⟨by rw [hl];exact hp,ha⟩))
   have kf:=S.frs y (yab hp)
   obtain ⟨o,u,_,q2,q3,q4⟩:=cobj b v e2
   refine ⟨u,q4,.inr ⟨.inr kf,b,?_,o,hk _ _ q2,q3⟩⟩
   show (cellsFrom (s.heap.objs.size+1) scope.names []++clos).lookup y=some b
   rw [Jmk]
   cases q:(cellsFrom (s.heap.objs.size+1) scope.names []).lookup y with
   |none=>exact e1
   |some d=>
    have:=S.nof _ (Jnz scope.names _ [] q rfl) rfl
    rw [kf] at this;cases this
 ·rcases two y c h with a|⟨_,a⟩
  ·exact ⟨_,x.cell y c a⟩
  ·obtain ⟨v,q⟩:=cel y c a
   obtain ⟨o,u,_,q2,q3,_⟩:=cobj c v q
   exact ⟨_,o,hk _ _ q2,q3⟩
 ·rcases two y c h with a|⟨a1,a⟩
  ·exact .inl (e0.hok.fresh (ybd (high y c a)))
  ·obtain ⟨v,q⟩:=cel y c a
   obtain ⟨o,u,q1,_⟩:=cobj c v q
   refine .inr ⟨decide_eq_false λz=>?_,o,q1⟩
   obtain ⟨c',e⟩:=Jns (n:=s.heap.objs.size+1) z
   rw [a1] at e;cases e
 ·unfold start
  show _=N.length
  rw [yq,ye,ycc,yq]
  omega
def Smd (i:Nat) (sp:S5->Sp) (R:St->XK) (t:TA):TE:=λσ H Q=>∃f,σ[i]?=some (some (.ref f))/\t σ H λvs H1=>sp f vs H1 Q (R σ)
section
variable {X:Cx} {CX:CXT} {k j i:Nat} {sp:S5->Sp} {x:Str} {p pos:Pos} {e:Expr} {es:List Expr} {t:TA} {R:St->XK}
end
theorem nst_mk {K:Si} {f c P:S5} {oc:S6} {od od':Option S5} {fd:Sc} {sl sl':Array (Option S6)} {vs:Array S6} (l:K.lookup f=some ⟨oc,od,.func fd,sl⟩) (e:fd.code= .ref c)
  (lc:K.lookup c=some ⟨.type "code",od', .fields vs,sl'⟩) (_:vs[11]?=some (.ref P)) (hb:Sl7 vs c P=true):Nst K f c P:=⟨⟨oc,od,fd,sl,l,e⟩,⟨od',vs,sl',lc,hb⟩⟩
theorem Jtk {β:Type}:∀{l:List (S5×β)},(l.map (·.1)).Nodup->∀p∈l,l.lookup p.1=some p.2
 |q::r,h,p,hp=>by
  have h':(q.1::r.map (·.1)).Nodup:=h
  obtain ⟨h1,h2⟩:=List.nodup_cons.mp h'
  rw [yau]
  rcases yo.mp hp with rfl|hp
  ·rw [beq_self_eq_true]
  ·have ne:(p.1==q.1)=false:=beq_eq_false_iff_ne.mpr λz=>h1 (by rw [<-z];exact List.mem_map_of_mem hp)
   rw [ne]
   exact Jtk h2 p hp
theorem Js0 {β:Type}:∀{l:List (S5×β)} {a:S5} {v:β},l.lookup a=some v->(a,v)∈l
 | (b,x) :: r,a,v,e=>by
  rw [yau] at e
  cases hb:a==b with
  |true=>rw [hb] at e;cases e;rw [eq_of_beq hb];exact .head _
  |false=>rw [hb] at e;exact .tail _ (Js0 e)
theorem Jyc {P:Sb} {w:Sd} {K:Si} {mg mb:Str->Option S6} {CX:CXT} {k:Nat} {fa a:S5} {fd:Sc} {x:Str} {sp:Sp} {s₁:S7} {vs:List S6} {ns:List Int} {tabs:List (S5×Array (Nat×Nat×Str))}
  (KX:K.In s₁.heap) (hns:s₁.heap.Ns mainGlobals mg) (hb:s₁.heap.Ns builtinsNs mb) (hbb:∀x:Str,x≠"__name__" ->mb x=bootBuiltins x) (hlim:s₁.heap.NoLimit) (hg:s₁.gens= #[])
  (ha:s₁.heap.get? a=some {cls:=.type "list",data:=.seq vs.toArray}) (hi:IntsAre vs ns) (hl:ns.length<=Sa) (hr:Sao k callerA)
  (hT:∀p∈tabs,isCodeTable s₁.heap p.1/\s₁.heap.get? p.1=some (PySem.W.tabObj #[])) (hnd:(tabs.map (·.1)).Nodup) (hK:PySem.W.noTabs K=true) (hbm:Bmn mg s₁.heap)
  (F:∀base:Sg,K.In base->base.Ns mainGlobals mg->Bmn mg base->Jjz P w K mg base CX k fa fd [x] sp) (hbind:∀(s:S7) (u:S6),BindsTo s fd ⟨[u],[]⟩ [(x,u)])
  (hsp:∀H:Hp,(∀p∈tabs,H p.1=some (.tbl p.2))->Sx K H a (ns.map V.int)->sp [.ref a] H (λv _=>v= .bl true) λ_ _ _=>False)
  (hCX:∀H e s',CX [] H s₁ (λ_ _ _=>False) e s'->False):
  codeAny (model P w) callerA (.call (.ref fa) ⟨[.ref a],[]⟩) (λr s'=>r= .ok (.ret (.bool true))/\OldK s₁.heap s'.heap/\s'.os=s₁.os/\AllBare s'.gens) s₁:=by
 have rv:=Jts hi
 have lenV:=hi.length
 let so:Obj:={cls:=.type "list",data:=.seq vs.toArray}
 let H:Hp:=λb=>if b=a/\K.lookup a=none then some (.frz so (.lst (ns.map V.int))) else (tabs.lookup b).map HO.tbl
 have three:∀b,H b=none\/(b=a/\K.lookup a=none/\H b=some (.frz so (.lst (ns.map V.int))))\/∃lb,(b,lb)∈tabs/\H b=some (.tbl lb):=λb=>by
  by_cases h:b=a/\K.lookup a=none
  ·exact .inr (.inl ⟨h.1,h.2,if_pos h⟩)
  ·have e:H b=(tabs.lookup b).map HO.tbl:=if_neg h
   cases q:tabs.lookup b with
   |none=>exact .inl (by rw [e,q];rfl)
   |some lb=>exact .inr (.inr ⟨lb,Js0 q,by rw [e,q];rfl⟩)
 have hnon:∀b o,s₁.heap.get? b=some o->(∀xs n,o.data≠ .seq xs n)->(∀xs,o.data≠ .fields xs)->H b=none:=λb o e n1 n2=>by
  rcases three b with z|⟨rfl,_,_⟩|⟨lb,m,_⟩
  ·exact z
  ·rw [ha] at e;cases e;exact absurd rfl (n1 _ _)
  ·rw [(hT _ m).2] at e;cases e;exact absurd rfl (n2 _)
 have htb:∀p∈tabs,H p.1=some (.tbl p.2):=λp hp=>by
  have n:¬(p.1=a/\K.lookup a=none):=λz=>by
   have e:=(hT p hp).2
   rw [z.1,ha] at e;cases e
  show (if p.1=a/\K.lookup a=none then _ else _)=_
  rw [if_neg n,Jtk hnd p hp]
  rfl
 have hok:HOk P w H s₁.heap:=λb u z=>by
  rcases three b with e|⟨rfl,_,e⟩|⟨lb,m,e⟩
  ·rw [e] at z;cases z
  ·rw [e] at z;cases z
   exact ⟨ha,by rw [ye];exact hl,vs,_,rv,ha⟩
  ·rw [e] at z;cases z
   exact ⟨#[],(hT _ m).2,True.intro⟩
 have hS:Sx K H a (ns.map V.int):=by
  cases hk:K.lookup a with
  |some o=>
   have e:=KX a o hk
   rw [ha] at e;cases e
   exact .inr ⟨_,vs.toArray,_,hk,rfl,rfl,rfl,by rw [yp,lenV];exact hl,by simpa using rv⟩
  |none=>exact .inl (.inr ⟨so,if_pos ⟨rfl,hk⟩⟩)
 have nsK:∀{b:S5} {m:Str->Option S6},s₁.heap.Ns b m->(Ju3 s₁.heap H).Ns b m:=λ{b m} ⟨o,es,ep,e,d,r⟩=>⟨o,es,ep,Jrv e (hnon b o e (λxs n z=>by rw [d] at z;cases z) λxs z=>by rw [d] at z;cases z),d,r⟩
 have hKb:K.In (Ju3 s₁.heap H):=λb o e=>Jrv (KX b o e) (by
  rcases three b with z|⟨rfl,z,_⟩|⟨lb,m,_⟩
  ·exact z
  ·rw [z] at e;cases e
  ·exfalso
   have q:=KX b o e
   rw [(hT _ m).2] at q
   cases q
   have h2:=yah.mp hK (b,_) (PySem.W.mem_of_lookupK e)
   exact absurd (show false=true from h2) yw)
 have hBb:Bmn mg (Ju3 s₁.heap H):=by
  obtain ⟨bm,ob,b1,b2,b3,b4,b5,b6⟩:=hbm
  exact ⟨bm,ob,b1,b2,Jrv b3 (hnon bm ob b3 (λxs n z=>by rw [b6] at z;cases z) λxs z=>by rw [b6] at z;cases z),b4,b5,b6⟩
 have hM:Mod K mg (Ju3 s₁.heap H):=⟨hKb,nsK hns,⟨mb,nsK hb,hbb⟩,let ⟨mc,h1,h2⟩:=hlim;⟨mc,nsK h1,h2⟩⟩
 have e0:Sf5 P w K mg (Ju3 s₁.heap H) callerA [] s₁ H:=⟨rfl,hM,λb o e=>Yak e,Nat.le_of_eq (Jy8 _ _),trivial,λb hb=>absurd (show b∈([]:List S5) from hb) (by simp),hok,.of_eq hg⟩
 refine codeAny_mono ((F _ hKb (nsK hns) hBb).run callerA [] s₁ H ⟨[.ref a],[]⟩ [.ref a] [.ref a] _ _ hr e0 (hbind s₁ (.ref a)) (.cons rfl .nil) (hsp H htb hS)) λr s' h=>?_
 cases r with
 |error e=>exact (hCX H e s' h).elim
 |ok fl=>
  cases fl with
  |next=>exact False.elim h
  |brk=>exact False.elim h
  |cont=>exact False.elim h
  |ret u=>
   obtain ⟨v,H',os,bare,un,hok',r',q⟩:=h
   have q':v= .bl true:=q
   subst q'
   obtain rfl:u=Value.bool true:=r'
   have all:∀b o,s₁.heap.get? b=some o->s'.heap.get? b=some o\/(isCodeTable s₁.heap b/\o=PySem.W.tabObj #[]/\∃ts,s'.heap.get? b=some (PySem.W.tabObj ts)):=λb o e=>by
    rcases three b with z|⟨rfl,_,z⟩|⟨lb,m,z⟩
    ·exact .inl (un.keep b o e z (by intro y;exact absurd (show b∈([]:List S5) from y) (by simp)) (by simp))
    ·obtain ⟨e2,_⟩:=hok' _ _ (un.frzs _ _ _ z)
     rw [ha] at e;cases e
     exact .inl e2
    ·obtain ⟨more,z2⟩:=un.tbls b lb z
     obtain ⟨ts,e2,_⟩:=hok' b _ z2
     have e3:=(hT _ m).2
     rw [e] at e3;cases e3
     exact .inr ⟨(hT _ m).1,rfl,ts,e2⟩
   refine ⟨rfl,⟨λb o e=>?_,λb o e=>?_⟩,os,bare⟩
   ·rcases all b o e with z|⟨t,rfl,ts,z⟩
    ·exact .inl z
    ·exact .inr (.inl ⟨t,rfl,#[],ts,rfl,by rw [Array.empty_append];exact z⟩)
   ·rcases all b o e with z|⟨t,rfl,ts,z⟩
    ·exact ⟨o,z⟩
    ·exact ⟨_,z⟩
end L2
namespace L2
open PySem PySem.Spec PyProof.Rows PySem.W
theorem Jw6 {l c:Nat} {q:Str}:(l,c,q)∈ #[(l,c,q)]:=by simp
theorem Ju6 {l c:Nat} {q q':Str} (h:(l,c,q')∈ #[(l,c,q)]):q'=q:=by simpa using h
section
variable {X:Cx} {pins:List (S5×Obj)} {σ:St} {H:Hp} {s:S7}
end
section
variable {g:TG} {tt:TT} {te:TE} {H:Hp} {D:S5} {σ:St} {R:Hp->Prop}
end
section
variable {prog:Sb} {w:Sd} {A:Se} {E:S6->S7->Prop} {s:S7} {a:S5} {its:Array S6} {n:Nat}
end
section
variable {prog:Sb} {w:Sd} {K:Type} [DecidableEq K] {knd:KeyKind prog w K} {A:Se}
end
section
variable {prog:Sb} {w:Sd} {K:Type} [DecidableEq K] {knd:KeyKind prog w K} {A:Se} {E:S6->S7->Prop} {s:S7} {b:Bool}
end
section
variable {prog:Sb} {w:Sd} {A:Se} {R:Result->S7->Prop} {I:S5} {fp wr:List S5} {n:Nat} {P:Nat->S6->Prop} {St:Nat->Sg->Prop}
end
section
variable {prog:Sb} {w:Sd} {A:Se} {E:S6->S7->Prop} {s:S7}
end
section
variable {M:Model} {A:Se} {E:S6->S7->Prop} {s:S7}
end
section
variable {prog:Sb} {w:Sd} {A:Se} {E:S6->S7->Prop} {s:S7} {it a T:S5} {i ep slot next p m:Nat} {x:S6} {h0:Int} {tk:Tok} {o oT:Obj} {es:Array (Int×S6)} {t:SetTable} {ps:Array S6} {Q:Option S6->S7->Prop}
end
section
variable {prog:Sb} {w:Sd} {A:Se} {E:S6->S7->Prop} {s:S7} {it a:S5} {i ep slot:Nat} {o:Obj} {es:Array (Int×S6)} {t:SetTable}
end
section
variable {prog:Sb} {w:Sd} {A:Se} {E:S6->S7->Prop} {s:S7} {it a:S5}
end
section
variable {prog:Sb} {w:Sd} {A:Se} {it a T:S5} {ep m:Nat} {o oT:Obj} {es:Array (Int×S6)} {t:SetTable} {ps:Array S6}
end
section
variable {prog:Sb} {w:Sd} {A:Se} {E:S6->S7->Prop} {s:S7} {a:S5} {ep:Nat} {o:Obj} {es:Array (Int×S6)} {t:SetTable}
end
end L2
namespace L2
open PySem PySem.Spec PyProof.Rows PySem.W PySem.Calls
section
variable {prog:Sb} {w:Sd} {A:Se} {E:S6->S7->Prop} {s:S7} {a:S5} {ep:Nat} {o:Obj} {es:Array (Int×S6)} {t:SetTable}
end
end L2
namespace L2
open PySem PySem.Spec PyProof.Rows PySem.W
section
variable {X:Cx}
end
section
variable {X:Cx} {CX:CXT} {k j i:Nat} {sp:S5->Sp} {x:Str} {p pos:Pos} {e:Expr} {es:List Expr} {t:TA} {R:St->XK}
end
section
variable {X:Cx} {o i value:Expr} {pos pos':Pos} {td ty tv:TE}
theorem Jyl (hu:X.A.units+64 < cLine) (ho:PE X o td) (hi:PE X i ty) (hv:PE X value tv) (hs:swapsWith value (some (.Subscript o i pos')) pos.line X.env=pure false):
  PS X (.Assign [.Subscript o i pos'] value pos) (Sjx td ty tv):=Yao (by omega) ho hi hv hs
end
section
variable {P:Sb} {w:Sd} {H H':Hp} {h:Sg} {a:S5} {o:Obj} {kvs:List (Key×V)}
end
section
variable {X:Cx} {pins:List (S5×Obj)} {σ:St} {H:Hp} {s:S7} {a:S5} {o:Obj} {kvs:List (Key×V)}
end
section
variable {prog:Sb} {w:Sd} {A:Se} {E:S6->S7->Prop} {s:S7}
end
section
variable {X:Cx}
end
section
variable {X:Cx} {x:Str} {np pos:Pos} {C0:S5} {b₀:Sf} {suite:List Sf} {rest:List ExceptHandler} {ts:S5->TS} {th:TH}
end
end L2
namespace L2
open PySem PySem.Spec PyProof.Rows
def Jmy (e:Expr):Arguments:=match e with
 | .Lambda a _ _ _=>a
 |_=>{posonlyargs:=[],args:=[],vararg:=none,kwonlyargs:=[],kw_defaults:=[],kwarg:=none,defaults:=[]}
def Jmo (e:Expr):Expr:=match e with
 | .Lambda _ b _ _=>b
 |e=>e
def Jk1 (e:Expr):Scope:=match e with
 | .Lambda _ _ s _=>s
 |_=>{kind:=.function,names:=[],isGenerator:=false,isCoroutine:=false}
def Jn4 (e:Expr):Pos:=match e with
 | .Lambda _ _ _ p=>p
 |_=>⟨0,0,0,0⟩
def Jmf (s:Sf):Expr:=match Jli s with
 | [.Return (some (.Call _ [.Lambda a b c p] _ _)) _]=>.Lambda a b c p
 | [.Return (some (.Call _ [.Call _ [e] _ _] _ _)) _]=>e
 |_=>.Constant .none 0 ⟨0,0,0,0⟩
def Lam (f:S5) (qual:Str) (e:Expr) (clos:List (Str×S5)) (c:S5):HO:=
 .ext λh=>∃pm ct:S6,h.get? f=some {cls:=.type "function",data:=.func (PySem.W.kla_fn "<lambda>" qual (Jmy e) (Jmo e) (Jk1 e) clos pm (.ref c) ct)}
theorem Jv8 {P:Sb} {w:Sd} {H:Hp} {h:Sg} {f:S5} {qual:Str} {e:Expr} {clos:List (Str×S5)} {c:S5} {pm ct:S6}
  (q:h.get? f=some {cls:=.type "function",data:=.func (PySem.W.kla_fn "<lambda>" qual (Jmy e) (Jmo e) (Jk1 e) clos pm (.ref c) ct)}):Saa P w H h f (Lam f qual e clos c):=
 ⟨⟨pm,ct,q⟩,⟨_,q⟩,λ_ _ ⟨p,t,z⟩ k=>⟨p,t,k _ z⟩⟩
section
variable {X:Cx} {pins:List (S5×Obj)} {σ:St} {H:Hp} {s:S7} {M:Model} {A:Se} {E:S6->S7->Prop} {qual:Str} {e:Expr} {pos:Pos} {firstLine:Nat} {c P:S5} {lb:Array (Nat×Nat×Str)} {clos:List (Str×S5)} {Q:S6->S7->Prop}
theorem Jzl (I:Sw X pins σ H s) (hcd:X.env.code= .ref c) (C:PySem.W.CodeHd X.base c P) (B:Bmn X.mg X.base) (ht:H P=some (.tbl lb)) (hm:(pos.line,pos.col,qual)∈lb) (hu:∀q,(pos.line,pos.col,q)∈lb->q=qual)
  (hcl:closureFor (Jk1 e) X.env=pure clos)
  (h:∀s' f c' H',Sw X pins σ H' s'->Sn H H'->H f=none->H' f=some (Lam f qual e clos c')->H' c'=some (.cod qual)->Q (.ref f) s'):
  Sh M A (makeFunction "<lambda>" qual (Jmy e) (.expr (Jmo e)) (Jk1 e) X.env [] [] [] pos firstLine) Q E s:=by
 obtain ⟨ts,eP,tr⟩:=I.hok P _ ht
 have hg:s.heap.Ns mainGlobals X.mg:=I.mod.glob.keeps I.bk
 have CH:=C.keeps I.bk
 have hgP:mainGlobals≠P:=λz=>by
  obtain ⟨o,es,ep,e1,e2,_⟩:=hg
  rw [z,eP] at e1;cases e1;cases e2
 have BA:s.heap.BuiltinsAt X.mg P:=by
  obtain ⟨bm,ob,b1,b2,b3,b4,b5,b6⟩:=B
  have b3':=I.bk _ _ b3
  refine ⟨bm,ob,b1,b2,λz=>?_,λz=>?_,b3',b4,b5,b6⟩
  ·obtain ⟨o,es,ep,e1,e2,_⟩:=hg
   rw [<-z,b3'] at e1;cases e1;rw [b6] at e2;cases e2
  ·rw [z,eP] at b3';cases b3';cases b4
 cases hq:codeAmong pos ts.toList with
 |some v=>
  obtain ⟨q,a,m1,rfl,m2⟩:=tr.hit hq
  obtain rfl:=hu q m1
  refine PySem.W.kla_makeFunctionHit (P:=P) (ps:=ts) hcl I.ok.glob hg hcd CH eP tr.triples hq BA λctv h' tk hk hsz=>?_
  have hf:H h'.objs.size=none:=I.hok.fresh hsz
  have J:=I.laid (a:=h'.objs.size) (o:=Lam h'.objs.size q e clos a) (t':=tk) (h':=h'.push {cls:=.type "function",data:=.func (PySem.W.kla_fn "<lambda>" q (Jmy e) (Jmo e) (Jk1 e) clos ((X.mg "__name__").getD .none) (.ref a) ctv)})
   (λb u z=>ym _ (hk b u z)) hsz (Jv8 (yag _ rfl))
  exact h _ _ a _ J (Sn.upd hf) hf Sv (by rw [Jjc (Jjf m2 hf)];exact m2)
 |none=>
  refine PySem.W.kla_makeFunction (P:=P) (ps:=ts) hcl I.ok.glob hg hcd CH eP tr.triples hq hgP BA λc' ctv h' tk hx hge hlt hrec htb=>?_
  have hc':H c'=none:=I.hok.fresh hge
  have hf:H h'.objs.size=none:=I.hok.fresh (yv hge (ybd hlt))
  have nfc:h'.objs.size≠c':=ybo hlt
  have nP:∀b,H b=none->b≠P:=λb z w'=>by rw [w',ht] at z;cases z
  let H':Hp:=upd (upd H c' (.cod qual)) h'.objs.size (Lam h'.objs.size qual e clos c')
  let o':Obj:={cls:=.type "function",data:=.func (PySem.W.kla_fn "<lambda>" qual (Jmy e) (Jmo e) (Jk1 e) clos ((X.mg "__name__").getD .none) (.ref c') ctv)}
  have hS:Sn H H':=(Sn.upd hc').trans (Sn.upd (by rw [Jjc nfc];exact hf))
  have hkp:∀b o,b≠P->s.heap.get? b=some o->(h'.push o').get? b=some o:=λb o n z=>ym _ (hx b o n z)
  have hc1:H' c'=some (.cod qual):=by show upd (upd H c' _) _ _ c'=_;rw [Jjc (yh nfc),Sv]
  have bl:∀b o,s.heap.get? b=some o->b≠c'/\b≠h'.objs.size:=λb o z=>by
   have q:=yai (yj z) hge
   exact ⟨yu q,yu (Nat.lt_trans q hlt)⟩
  have J:Sw X pins σ H' {s with heap:=h'.push o',toks:=tk}:=by
   refine I.un (t':=tk) ⟨λb o z n _ _=>hkp b o (nP b n) z,λb o z n _ _=>⟨o.slots,hkp b o (nP b n) z⟩,λb o z n _=>?_,λb o z _=>?_,λb xs z=>hS _ _ z,λb o u z=>hS _ _ z,λb ps z=>⟨#[],by rw [hS _ _ z];simp⟩⟩ λb u z=>?_
   ·show upd (upd H c' _) _ _ b=none
    rw [Jjc (bl b o z).2,Jjc (bl b o z).1];exact n
   ·by_cases w':b=P
    ·exact ⟨_,by rw [w'];exact ym _ htb⟩
    ·exact ⟨o,hkp b o w' z⟩
   ·by_cases w1:b=h'.objs.size
    ·have z':H' b=some (Lam h'.objs.size qual e clos c'):=by rw [w1];exact Sv
     rw [z'] at z;cases z
     rw [w1]
     exact Jv8 (yag _ rfl)
    ·by_cases w2:b=c'
     ·rw [w2,hc1] at z;cases z
      rw [w2]
      exact hrec.keeps λ_ _ z=>ym _ z
     ·have z':H b=some u:=by
       have:H' b=H b:=by show upd (upd H c' _) _ _ b=_;rw [Jjc w1,Jjc w2]
       rw [<-this];exact z
      by_cases w3:b=P
      ·rw [w3,ht] at z';cases z'
       refine ⟨_,by rw [w3];exact ym _ htb,?_⟩
       rw [Array.toList_append]
       exact Scu.snoc hm hc1 (tr.mono λb q z=>hS _ _ z)
      ·refine (I.hok b u z').stay (λc v hc zz=>hkp c v ?_ zz) (λc zz=>hS _ _ zz) (λc xs zz=>hS _ _ zz) λc q zz=>hS _ _ zz
       rcases hc with rfl|hc
       ·exact w3
       ·intro w';rw [w',ht] at hc;cases hc
  exact h _ _ c' H' J hS hf Sv hc1
end
def Sgz (H:Hp) (f:S5) (qual:Str) (e:Expr) (caps:List (Str×V)):Prop:=
 ∃(clos:List (Str×S5)) (c:S5),H f=some (Lam f qual e clos c)/\H c=some (.cod qual)/\(∀x y b,clos.lookup x=some b->clos.lookup y=some b->x=y)/\(∀y∈(Jk1 e).names,y.2= .free->∃b,clos.lookup y.1=some b)/\
  (∀x b,clos.lookup x=some b->∃v,Scq H b v)/\∀x v,(x,v)∈caps->∃b,clos.lookup x=some b/\Scq H b v
def IsL (H:Hp) (f:S5):Prop:=∃qual e clos c,H f=some (Lam f qual e clos c)
theorem Sgz.isl {H:Hp} {f:S5} {qual:Str} {e:Expr} {caps:List (Str×V)} (h:Sgz H f qual e caps):IsL H f:=by
 obtain ⟨clos,c,a,_⟩:=h
 exact ⟨qual,e,clos,c,a⟩
def Jyy (X:Cx) (H:Hp) (caps:List Str) (vs:List V):Prop:=caps.length=vs.length/\∀y∈caps.zip vs,∃b,X.env.cells.lookup y.1=some b/\Scq H b y.2
def Sv0 (X:Cx) (P:S5) (lb:Array (Nat×Nat×Str)) (qual:Str) (e:Expr) (caps:List Str):TE:=λ_ H Q=>H P=some (.tbl lb)/\∃vs:List V,Jyy X H caps vs/\∀f H',Sn H H'->H f=none->Sgz H' f qual e (caps.zip vs)->Q (.ref f) H'
def Sux (X:Cx) (caps:List (Str×Nat)) (t:TS):TS:=λD σ H=>∃vs:List V,(∀y∈caps.zip vs,σ[y.1.2]?=some (some y.2))/\caps.length=vs.length/\∀H',Sn H H'->Jyy X H' (caps.map (·.1)) vs->t D σ H'
section
variable {X:Cx} {t:TS} {e:Expr} {l:List Sf} {qual:Str} {c P:S5} {lb:Array (Nat×Nat×Str)}
theorem Jwh {caps:List (Str×Nat)} (hcap:∀y∈caps,X.N[y.2]?=some y.1/\X.fn y.1=true/\X.env.scope.names.lookup y.1=some .cell) (h:PB (X.fix λx=>(caps.map (·.1)).contains x) l t):PB X l (Sux X caps t):=by
 intro pins s σ H D I hq
 obtain ⟨vs,hvs,hlen,hq⟩:=hq
 obtain ⟨J,sJ⟩:=I.fix (λx=>(caps.map (·.1)).contains x)
 refine h pins s σ _ D J (hq _ sJ ⟨by rw [ye];exact hlen,λz hz=>?_⟩)
 obtain ⟨k,hk⟩:=List.getElem?_of_mem hz
 rw [yce,yn] at hk
 obtain ⟨k1,k2⟩:=hk
 obtain ⟨y,hy,ey⟩:=yat.mp k1
 have my:=yab hy
 obtain ⟨c1,c2,c3⟩:=hcap y my
 have hσ:σ[y.2]?=some (some z.2):=hvs (y,z.2) (yab (i:=k) (by rw [yce];exact ⟨hy,k2⟩))
 rw [<-ey]
 exact I.celAt J c1 hσ (.inl c3) (List.contains_iff_mem.mpr (List.mem_map_of_mem my)) c2
theorem Jwi {f₀:S5} {caps:List Str} (n:Nst X.K f₀ c P) (B:Bmn X.mg X.base) (hcd:X.env.code= .ref c) (he:e= .Lambda (Jmy e) (Jmo e) (Jk1 e) (Jn4 e)) (hd:defaultsOf (Jmy e) X.env=([],[]))
  (hq:X.env.qual++"<lambda>" =qual) (hm:((Jn4 e).line,(Jn4 e).col,qual)∈lb) (hu:∀q,((Jn4 e).line,(Jn4 e).col,q)∈lb->q=qual) (hall:∀y∈(Jk1 e).names,y.2= .free->y.1∈caps)
  (hcap:∀y∈caps,(Jk1 e).names.lookup y=some .free):PE X e (Sv0 X P lb qual e caps):=by
 intro pins s σ H Q I h
 obtain ⟨ht,vs,⟨hlen,hvs⟩,h⟩:=h
 have cel:∀x∈caps,∃(b:S5) (v:V),X.env.cells.lookup x=some b/\Scq H b v:=λx hx=>by
  obtain ⟨k,hk⟩:=List.getElem?_of_mem hx
  have hk':k < vs.length:=by rw [<-hlen];exact (yz.mp hk).1
  obtain ⟨b,q⟩:=hvs (x,vs[k]) (yab (i:=k) (by rw [yce];exact ⟨hk,yi hk'⟩))
  exact ⟨b,_,q⟩
 have hfr:∀y∈(Jk1 e).names,y.2= .free->∃b,X.env.cells.lookup y.1=some b:=λy hy hyf=>by
  obtain ⟨b,v,q,_⟩:=cel y.1 (hall y hy hyf)
  exact ⟨b,q⟩
 have hcl:=Jpc (env:=X.env) hfr
 have hin:∀x b,(Jm2 X.env.cells (Jk1 e).names []).lookup x=some b->X.env.cells.lookup x=some b:=λx b e=>Jn3 (cells:=X.env.cells) _ [] (λx c e=>by simp at e) x b e
 rw [he]
 refine PySem.W.kla_eval hd ?_
 rw [hq]
 refine Jzl I hcd (n.code I.mod.kin) B ht hm hu hcl λs1 f c' H1 I1 s01 hf hlam hcod=>?_
 refine ⟨.ref f,H1,I1,rfl,h f H1 s01 hf ⟨_,c',hlam,hcod,λx y b h1 h2=>I.ok.inj x y b (hin x b h1) (hin y b h2),λy hy hyf=>?_,λx b z=>?_,λx v z=>?_⟩⟩
 ·have hh:=Jmh (cells:=X.env.cells) (x:=y.1) (Jk1 e).names [] (by rw [<-hyf];exact hy) (hfr y hy hyf)
  exact ybp.mp hh
 ·obtain ⟨b',v,e1,e2⟩:=cel x (hall (x,.free) (Jne (Jk1 e).names [] z (by simp)) rfl)
  have e3:=hin _ _ z
  rw [e1] at e3;cases e3
  exact ⟨v,e2.same s01⟩
 ·obtain ⟨b,e1,e2⟩:=hvs (x,v) z
  have hx:=hcap x (ybr z).1
  obtain ⟨b',hb'⟩:=ybp.mp (Jmh (cells:=X.env.cells) (x:=x) (Jk1 e).names [] (PySem.mem_of_lookup hx) ⟨b,e1⟩)
  have e3:=hin _ _ hb'
  rw [e1] at e3;cases e3
  exact ⟨b,hb',e2.same s01⟩
end
structure Sc1 (P:Sb) (w:Sd) (K:Si) (mg:Str->Option S6) (base:Sg) (CX:CXT) (k:Nat) (f:S5) (sp:Sp):Prop where
 isl:∀vs H Q E,sp vs H Q E->IsL H f
 run:∀(A:Se) (outer:List Env) (s:S7) (H:Hp) (us:List S6) (vs:List V) (Q:VK) (E:XK),Sao k A->Sf5 P w K mg base A outer s H->Sa2 vs us->sp vs H Q E->codeAny (model P w) A (.call (.ref f) ⟨us,[]⟩) (CR CX outer P w H s Q E) s
def Jra (qual:Str) (e:Expr) (fr:List Str) (sp:List V->Sp) (f:S5):Sp:=λvs H Q E=>∃cs,Sgz H f qual e (fr.zip cs)/\sp cs vs H Q E
theorem Slg {CX:CXT} {P:Sb} {w:Sd} {K:Si} {mg:Str->Option S6} {base:Sg} {k:Nat} {qual:Str} {e:Expr} {N ps fr:List Str} {sp:List V->Sp} (S:Jnp N ps fr (Jk1 e))
  (hb:∀(clos:List (Str×S5)) (pm:S6) (c:S5) (ct:S6) (us:List S6),us.length=ps.length->bindArgs (PySem.W.kla_fn "<lambda>" qual (Jmy e) (Jmo e) (Jk1 e) clos pm (.ref c) ct) ⟨us,[]⟩=pure (ps.zip us))
  (len:∀cs vs H Q E,sp cs vs H Q E->vs.length=ps.length/\cs.length=fr.length)
  (hbody:∀(f c:S5) (clos:List (Str×S5)) (A:Se) (outer:List Env) (s:S7) (H:Hp) (vs cs:List V) (Q:VK) (E:XK),Sao k (A.deeper (PySem.W.envX qual (Jk1 e) s.heap.objs.size f (.ref c) (cellsFrom (s.heap.objs.size+1) (Jk1 e).names []++clos)))->sp cs vs H Q E->
   ∃t,PE (Jx3 CX P w K mg base N qual (Jk1 e) clos f (.ref c) A outer s H E) (Jmo e) t/\t (start N (vs++cs)) H Q) (f:S5):
  Sc1 P w K mg base CX (k+1) f (Jra qual e fr sp f):=by
 refine ⟨λvs H Q E ⟨cs,h,_⟩=>h.isl,λA outer s H us vs Q E hr e0 r zq=>?_⟩
 obtain ⟨cs,⟨clos,c,h1,h2,h3,h4,h5,h6⟩,hsp⟩:=zq
 obtain ⟨hl,hlc⟩:=len _ _ _ _ _ hsp
 have hlu:us.length=ps.length:=by rw [<-r.length];exact hl
 have lim:s.heap.NoLimit:=e0.mod.nolimit.keeps λb o e=>(e0.bs b o e).1
 obtain ⟨⟨pm,ct,ho⟩,_⟩:=e0.hok f _ h1
 refine PySem.W.kla_callFunE hr.depth ho rfl S.co S.gen rfl (show s.heap.CodeRec (.ref c) qual from e0.hok c _ h2) ?_
 rw [hb clos pm c ct us hlu]
 refine S9 (Yad S.kind (λ⟨y,v⟩ hy=>?_) λenv he s1 z=>?_)
 ·exact (S.par y (ybr hy).1).imp id λq=>⟨q,PySem.W.cellsFrom_some _ _ _ (.inl q)⟩
 subst he
 refine ⟨lim.keeps z.toInCall.keep,PySem.W.kla_codeExpr ?_⟩
 obtain ⟨t,ht,hq⟩:=hbody f c clos A outer s H vs cs Q E (hr.deeper _) hsp
 refine wpAny_mono (ht [] s1 (start N (vs++cs)) H Q (Jw2 S hr.hd e0 hl hlc r h3 h4 h5 h6 z) hq) (λu s' hs=>?_) λe s' hs=>hs
 obtain ⟨v,H',J,rv,q⟩:=hs
 exact ⟨v,H',J.os,J.bare,J.base,J.hok,rv,q⟩
theorem Sc1.mono {P:Sb} {w:Sd} {K:Si} {mg:Str->Option S6} {base:Sg} {CX:CXT} {j k:Nat} {f:S5} {sp:Sp} (G:Sc1 P w K mg base CX j f sp) (h:j<=k):Sc1 P w K mg base CX k f sp:=⟨G.isl,λA outer s H us vs Q E hr=>G.run A outer s H us vs Q E (hr.mono h)⟩
theorem Sc1.or {P:Sb} {w:Sd} {K:Si} {mg:Str->Option S6} {base:Sg} {CX:CXT} {k:Nat} {f:S5} {sp sq:Sp} (G:Sc1 P w K mg base CX k f sp) (G':Sc1 P w K mg base CX k f sq):Sc1 P w K mg base CX k f (λvs H Q E=>sp vs H Q E\/sq vs H Q E):=
 ⟨λvs H Q E h=>h.elim (G.isl vs H Q E) (G'.isl vs H Q E),λA outer s H us vs Q E hr e0 r h=>h.elim (G.run A outer s H us vs Q E hr e0 r) (G'.run A outer s H us vs Q E hr e0 r)⟩
section
variable {X:Cx} {CX:CXT} {k j:Nat} {sp:S5->Sp} {x:Str} {p pos:Pos} {e:Expr} {es:List Expr} {t:TA}
theorem Y1 (G:∀f,Sc1 X.prog X.w X.K X.mg X.base CX0 k f (sp f)) (hr:Sao j X.A) (hk:k<=j) (i:Nat) (ha:PA X (e::es) t) (hN:X.N[i]?=some x:=by rfl) (hv:Vis X.env.scope x:=by first|exact yf rfl|exact Or.inr (yf rfl)|exact Or.inr (Or.inr rfl))
  (hd:(x==("__debug__" :Str))=false:=by decide) (hcd:(x==("__classdict__" :Str))=false:=by decide) (he:starEach (e::es) X.env=(false,eval e X.env)::starEach es X.env:=by rfl) (hpl:(backTo pos (starEach es X.env)).any (·.1)=false:=by rfl):
  PE X (.Call (.Name x p) (e::es) [] pos) (Smd i sp (λ_=>E0) t):=by
 intro pins s σ H Q I h
 obtain ⟨f,hf,h⟩:=h
 refine wpAny_Call_Name_kw (thn (Y4 hN hv hd hcd pins s σ H (λv H'=>v= .ref f/\H'=H) I ⟨_,hf,rfl,rfl⟩) λu s1 zq=>?_)
 obtain ⟨v,H',I1,r,e1,e2⟩:=zq
 subst e1 e2
 cases r
 have hat:∀{s2:S7} {H2:Hp},Sw X pins σ H2 s2->IsL H2 f->PySem.W.FnAt f s2.heap:=λJ ⟨qual,e,clos,c,z⟩=>by
  obtain ⟨⟨pm,ct,q⟩,_⟩:=J.hok f _ z
  exact ⟨_,_,_,_,q⟩
 rw [he]
 refine PySem.W.callWith_of (P:=PySem.W.FnAt f) (by show ((false||(backTo pos (starEach es X.env)).any (·.1))||false)=false;rw [hpl];rfl) PySem.W.keeps_F (Calls.evalArgs_plain ?_)
 have ha':=ha pos pins s1 σ H' _ I1 h
 rw [he] at ha'
 refine thn ha' λus s2 ⟨vs,H2,I2,r2,q2⟩=>⟨hat I2 ((G f).isl _ _ _ _ q2),?_⟩
 refine wpAny_call (codeAny_mono ((G f).run X.A X.stack s2 H2 us vs Q E0 (hr.mono hk) I2.env0 r2 q2) λr s' hq=>?_)
 cases r with
 |error e=>exact hq.elim
 |ok fl=>
  cases fl with
  |ret u=>exact I2.after hq
  |next=>exact False.elim hq
  |brk=>exact False.elim hq
  |cont=>exact False.elim hq
end
theorem Ju5 {P:Sb} {w:Sd} {K:Si} {mg:Str->Option S6} {base:Sg} {k:Nat} {qual:Str} {e:Expr} {N ps fr:List Str} {sp:List V->Sp} (S:Jnp N ps fr (Jk1 e))
  (hb:∀(clos:List (Str×S5)) (pm:S6) (c:S5) (ct:S6) (us:List S6),us.length=ps.length->bindArgs (PySem.W.kla_fn "<lambda>" qual (Jmy e) (Jmo e) (Jk1 e) clos pm (.ref c) ct) ⟨us,[]⟩=pure (ps.zip us))
  (len:∀cs vs H Q E,sp cs vs H Q E->vs.length=ps.length/\cs.length=fr.length)
  (hbody:∀(f c:S5) (clos:List (Str×S5)) (A:Se) (outer:List Env) (s:S7) (H:Hp) (vs cs:List V) (Q:VK) (E:XK),Sao k (A.deeper (PySem.W.envX qual (Jk1 e) s.heap.objs.size f (.ref c) (cellsFrom (s.heap.objs.size+1) (Jk1 e).names []++clos)))->sp cs vs H Q E->
   ∃t,PE (Jx3 CX0 P w K mg base N qual (Jk1 e) clos f (.ref c) A outer s H E).nox (Jmo e) t/\t (start N (vs++cs)) H Q) (f:S5):Sc1 P w K mg base CX0 (k+1) f (Jra qual e fr sp f):=
 Slg S hb len (λf c clos A outer s H vs cs Q E hr h=>(hbody f c clos A outer s H vs cs Q E hr h).elim λt q=>⟨t,q.1.nox,q.2⟩) f
theorem lvS {n:Nat} (u:List S6) (e:u.length=n+1):∃a r,u=a::r/\r.length=n:=by
 cases u with
 |nil=>cases e
 |cons a r=>exact ⟨a,r,rfl,Nat.succ.inj e⟩
theorem lv1 (u:List S6) (e:u.length=1):∃a,u= [a]:=by
 obtain ⟨a,r,rfl,z⟩:=lvS u e
 cases r with
 |nil=>exact ⟨a,rfl⟩
 |cons b r=>cases z
theorem lv2 (u:List S6) (e:u.length=2):∃a b,u= [a,b]:=by
 obtain ⟨a,r,rfl,z⟩:=lvS u e
 obtain ⟨b,rfl⟩:=lv1 r z
 exact ⟨a,b,rfl⟩
theorem lv3 (u:List S6) (e:u.length=3):∃a b c,u= [a,b,c]:=by
 obtain ⟨a,r,rfl,z⟩:=lvS u e
 obtain ⟨b,c,rfl⟩:=lv2 r z
 exact ⟨a,b,c,rfl⟩
theorem lv4 (u:List S6) (e:u.length=4):∃a b c d,u= [a,b,c,d]:=by
 obtain ⟨a,r,rfl,z⟩:=lvS u e
 obtain ⟨b,c,d,rfl⟩:=lv3 r z
 exact ⟨a,b,c,d,rfl⟩
theorem lv5 (u:List S6) (e:u.length=5):∃a b c d f,u= [a,b,c,d,f]:=by
 obtain ⟨a,r,rfl,z⟩:=lvS u e
 obtain ⟨b,c,d,f,rfl⟩:=lv4 r z
 exact ⟨a,b,c,d,f,rfl⟩
theorem lv6 (u:List S6) (e:u.length=6):∃a b c d f g,u= [a,b,c,d,f,g]:=by
 obtain ⟨a,r,rfl,z⟩:=lvS u e
 obtain ⟨b,c,d,f,g,rfl⟩:=lv5 r z
 exact ⟨a,b,c,d,f,g,rfl⟩
theorem lv7 (u:List S6) (e:u.length=7):∃a b c d f g i,u= [a,b,c,d,f,g,i]:=by
 obtain ⟨a,r,rfl,z⟩:=lvS u e
 obtain ⟨b,c,d,f,g,i,rfl⟩:=lv6 r z
 exact ⟨a,b,c,d,f,g,i,rfl⟩
theorem Jx1 (a b:Str):(a++b).cps.toList=a.cps.toList++b.cps.toList:=by
 show (a.cps++b.cps).toList=_
 exact Array.toList_append
theorem Ybf {a b:Str} (h:a.cps.toList=b.cps.toList):a=b:=Str.ext' (Array.toList_inj.mp h)
theorem Jof {c:Nat} (a b:Str) (r:List Str):(Str.join ⟨#[c]⟩ (a::b::r)).cps.toList=a.cps.toList++c::(Str.join ⟨#[c]⟩ (b::r)).cps.toList:=by
 show (a++(⟨#[c]⟩:Str)++Str.join ⟨#[c]⟩ (b::r)).cps.toList=_
 rw [Jx1,Jx1,List.append_assoc]
 rfl
theorem Jyv:∀l:List (Str×Tok),Sa2 ((l.map (·.1)).map V.str) (strValues l):=by
 intro l
 induction l with
 |nil=>exact .nil
 |cons q r ih=>exact .cons ⟨_,rfl⟩ ih
section
open PySem.Builtin PySem.Builtin.Str
variable {prog:Sb} {w:Sd} {A:Se} {E:S6->S7->Prop} {s:S7} {x y:Str} {t u:Tok} {Q:S6->S7->Prop}
theorem Jyr (hy:(y.length==0)=false) (hx:x.length+2<=Sa) (hq:∀(l:List (Str×Tok)) (k:Tok),l.map (·.1)=Txt.split x y->Q (.ref s.heap.objs.size) {s with heap:=s.heap.push {cls:=.type "list",data:=.seq (strValues l).toArray},toks:=k}):
  Sh (model prog w) A (call (.builtin "str.split") [.str x t,.str y u]) Q E s:=by
 cases h1:(decide (x.length < y.length)||decide (strKind x < strKind y))
 ·cases hf:(occurrences x y 0 x.length (x.length+1)).isEmpty
  ·have e:Txt.split x y=partsBetween x (occurrences x y 0 x.length (x.length+1)) y.length:=(if_neg (ne_true_of_eq_false h1)).trans (if_neg (ne_true_of_eq_false hf))
   have hn:=split_le x y
   rw [e] at hn
   refine call_meets F.slot_str_split (typeIs_str _ _ _) F.entry_str_split (F.args_str_split_2 _ _) (meets_str_split_sep x y t u h1 hy hf (by omega) (by omega)) ?_
   show wants Q E _ {s with toks:=_,heap:=s.heap.push {cls:=.type "list",data:=.seq (strsFrom s.toks (partsBetween x (occurrences x y 0 x.length (x.length+1)) y.length)).toArray}}
   rw [strsFrom_eq]
   exact hq (numbered s.toks _) _ ((numbered_texts _ _).trans e.symm)
  ·exact call_meets F.slot_str_split (typeIs_str _ _ _) F.entry_str_split (F.args_str_split_2 _ _) (meets_str_split_not_found x y t u h1 hy hf) (hq [(x,t)] _ ((if_neg (ne_true_of_eq_false h1)).trans (if_pos hf)).symm)
 ·exact call_meets F.slot_str_split (typeIs_str _ _ _) F.entry_str_split (F.args_str_split_2 _ _) (meets_str_split_cannot_occur x y t u h1) (hq [(x,t)] _ (if_pos h1).symm)
end
def Slt:V->List V->Hp->VK->Prop:=λx xs H Q=>∃(z y:Str),x= .str z/\xs= [.str y]/\(y.length==0)=false/\z.length<=100000/\∀D,H D=none->Q (.ref D) (upd H D (.lst ((Txt.split z y).map V.str)))
theorem Jq2 {X:Cx}:MtR X "str.split" Slt:=by
 intro pins s σ H x xs v us Q I rx rs h
 obtain ⟨z,y,rfl,rfl,hy,hz,q⟩:=h
 obtain ⟨t,rfl⟩:=rx
 obtain ⟨u,rfl,ru⟩:=Jmw rs
 obtain ⟨t',rfl⟩:=ru
 have hl:z.length+2<=Sa:=yv (Nat.add_le_add_right hz 2) (by decide)
 refine Jyr hy hl λl k e=>?_
 have hn:=split_le z y
 refine ⟨.ref s.heap.objs.size,_,I.laid (t':=k) (λb o e=>ym _ e) (yg _) (show Saa X.prog X.w _ _ _ (.lst ((Txt.split z y).map V.str)) from ⟨by rw [ye];omega,strValues l,_,by rw [<-e];exact Jyv l,yag _ rfl⟩),rfl,q _ (I.hok.fresh (yg _))⟩
theorem Jy3 {X:Cx}:Jmd X (.type "str") (λxs H Q=>(∃i,xs= [.int i]/\i.natAbs.log2 < 1920/\Q (.str (toString i)) H)\/∃z,xs= [.str z]/\Q (.str z) H):=by
 intro pins s σ H xs us Q I r h
 rcases h with ⟨i,rfl,hz,q⟩|⟨z,rfl,q⟩
 ·obtain ⟨u,rfl,t,rfl⟩:=Jmw r
  exact PySem.P.str_of_int hz ⟨.str _,H,I.tok _,⟨_,rfl⟩,q⟩
 ·obtain ⟨u,rfl,t,rfl⟩:=Jmw r
  exact PySem.P.str_of_str ⟨.str _,H,I,⟨_,rfl⟩,q⟩
def isS (z:Str):S6->Bool
 | .str x _=>x==z
 |_=>false
theorem Ya9 {z:Str} {v:S6} (h:isS z v=true):Sa4 (.str z) v:=by
 unfold isS at h
 split at h
 ·rename_i x t
  rw [<-beq_iff_eq.mp h]
  exact ⟨t,rfl⟩
 ·cases h
def Jxr:List S6->List Str->Bool
 | [],[]=>true
 |v::r,z::s=>isS z v&&Jxr r s
 |_,_=>false
theorem Jwq:∀(us:List S6) (zs:List Str),Jxr us zs=true->Sa2 (zs.map V.str) us:=by
 intro us
 induction us with
 |nil=>
  intro zs h
  cases zs with
  |nil=>exact .nil
  |cons z s=>cases h
 |cons v r ih=>
  intro zs h
  cases zs with
  |nil=>cases h
  |cons z s=>
   have h':(isS z v&&Jxr r s)=true:=h
   rw [yac] at h'
   exact .cons (Ya9 h'.1) (ih s h'.2)
theorem tq_mk {K:Si} {p:S5} {oc:S6} {od:Option S5} {its:Array S6} {n:Nat} {sl:Array (Option S6)} {zs:List Str} (l:K.lookup p=some ⟨oc,od,.seq its n,sl⟩) (h1:oc= .type "tuple") (h3:(decide (its.size<=100)&&Jxr its.toList zs)=true):∀H:Hp,SqT K H p (zs.map V.str):=by
 rw [yac,decide_eq_true_eq] at h3
 exact λH=>.inr ⟨_,its,n,l,h1,rfl,yv h3.1 (by decide),Jwq _ _ h3.2⟩
theorem walk_ofM {l:PySem.W.OpenLaw} {n k:Nat} {q:Sb} {loose:List Str} {XP:(Str->Option S6)->Sg->Prop} {YP:Sd->Sg->Prop} {d:DefRec} {K:Params->Si} {CX:CXT} {x:Str} {tl:List S5}
  (hn:l.most=some n) (hn2:n<=Sa) (hdf:d.params.defaults= []) (hr:Sao k callerA) (hY:∀(w:Sd) (h:Sg),YP w h->(K w.params).In h) (hTb:∀(w:Sd) (h:Sg),YP w h->∀P∈tl,h.get? P=some (PySem.W.tabObj #[])) (hK:∀w:Sd,PySem.W.noTabs (K w.params)=true)
  (F:∀(w:Sd) (mg:Str->Option S6) (fa:S5) (h:Sg),(K w.params).In h->h.Ns mainGlobals mg->(∀P∈tl,h.get? P=some (PySem.W.tabObj #[]))->mg d.name=some (.ref fa)->
   ∃(fd:Sc) (sp:Sp) (tabs:List (S5×Array (Nat×Nat×Str))),(∀(s:S7) (u:S6),BindsTo s fd ⟨[u],[]⟩ [(x,u)])/\(∀p∈tabs,isCodeTable h p.1/\h.get? p.1=some (PySem.W.tabObj #[]))/\(tabs.map (·.1)).Nodup/\
    (∀base:Sg,(K w.params).In base->base.Ns mainGlobals mg->Bmn mg base->Jjz l.prog w (K w.params) mg base CX k fa fd [x] sp)/\
    ∀(H:Hp) (a:S5) (ns:List Int),ns.length<=n->(∀p∈tabs,H p.1=some (.tbl p.2))->Sx (K w.params) H a (ns.map V.int)->sp [.ref a] H (λv _=>v= .bl true) λ_ _ _=>False)
  (hCX:∀(H:Hp) (s:S7) (e:S6) (s':S7),CX [] H s (λ_ _ _=>False) e s'->False):
  PySem.W.WalkO q loose XP YP l.row.toRowW d [] (λf vs=>PySem.call f vs):=by
 refine Att.attach_call hn hdf λw s₀ s₁ mg mb fa o pm cd doc a vs ns G Y ho hd hcd hmg hobj hints hlen hg=>?_
 have KX:=hY w _ Y
 obtain ⟨fd,sp,tabs,hb,hT,hnd,hF,hsp⟩:=F w mg fa _ KX G.T.g (hTb w _ Y) hmg
 exact Jyc KX G.T.g G.T.b G.T.builtins G.T.nolimit hg hobj hints (yv hlen hn2) hr hT hnd (hK w) G.T.bmain hF hb (λH h1 h2=>hsp H a ns hlen h1 h2) λH e s'=>hCX H s₁ e s'
theorem tab_km {K:Si} {h:Sg} {f c P:S5} (n:Nst K f c P) (X:K.In h) (e:h.get? P=some (PySem.W.tabObj #[])):isCodeTable h P/\h.get? P=some (PySem.W.tabObj #[]):=⟨((n.code X).tab e).isCodeTable,e⟩
theorem Jwy {P:Sb} {w:Sd} {K:Si} {mg:Str->Option S6} {base:Sg} {N:List Str} {qual:Str} {scope:Scope} {f:S5} {cd:S6} {A:Se} {outer:List Env} {s:S7} {H:Hp} {E:XK} {cn:Str->Bool}:
  Jod ((Jsi (CXX P w) P w K mg base N qual scope f cd A outer s H E).fix cn) (λ_=>E):=by
 intro pins σ H1 s1 e C dx fr I q hfl hE
 show Sh _ _ (leaving _ _) _ _ _
 unfold leaving
 refine S8 (Ju8 I ⟨rfl,rfl⟩ I.ok.frames q hfl λs2 I2 f2=>Jp0 I2 Sv f2 λs3 I3 f3=>?_)
 obtain ⟨oe,vs,T,oT,ts,z1,z2,z3,z4,z5,z6,z7,z8,_⟩:=f3
 exact ⟨e,C,dx,_,rfl,I3.os,I3.bare,I3.base,I3.hok,Sv,⟨oe,vs,T,oT,ts,z1,z2,z3,z4,z5,z6,z7,z8⟩,hE⟩
section
variable {X:Cx} {k j:Nat} {f C:S5} {fd:Sc} {ps:List Str} {sp:Sp} {R:St->XK} {m:Str} {pos apos:Pos} {o:Expr} {ta:TE}
theorem Jtn {pl:Sem Bool} (he:PE X o ta) (c:Cls X.K C) (hm:Jph X.K C m f) (G:Jjz X.prog X.w X.K X.mg X.base (CXX X.prog X.w) k f fd ps sp) (hw:Jod X R) (hr:Sao j X.A) (hk:k<=j) (hb:Sbh X.K fd ps [])
  (ht:eval (.Call (.Attribute o m apos) [] [] pos) X.env=(do
   let ov<-eval o X.env
   standAt apos.atName
   let (f,first)<-holding [ov] (getMethod ov m pl)
   callWith pos f first (backTo pos (starEach [] X.env)) (backToKw pos (keywordEach [] X.env))):=by rfl):
  PE X (.Call (.Attribute o m apos) [] [] pos) (Yn C m sp R ta Jrf):=by
 intro pins s σ H Q I h
 refine PySem.W.methodCall_KW (pl:=pl) (thn (he pins s σ H _ I h) λu s1 zq=>?_) ht
 obtain ⟨x,H1,I1,rx,a,dx,fs,ex,ea,l,q⟩:=zq
 subst ex
 obtain rfl:u=Value.ref a:=rx
 refine Jo1 I1 ea c hm l ?_
 exact PySem.W.callWith_K0 (first:=[.ref a]) I1.kIn hm.kp (Jup (us:=[.ref a]) (vs:=[.ref a]) G hw (hr.mono hk) hb I1 (.cons rfl .nil) q)
end
section
variable {X:Cx} {a b:Expr} {rest:List Expr} {pos:Pos} {ta tb:TE}
theorem Slp (ha:PE X a ta) (hb:PE X (.BoolOp .Or (b::rest) pos) tb):PE X (.BoolOp .Or (a::b::rest) pos) (λσ H Q=>ta σ H λx H1=>∃k,Som X.K x H1 k/\if k=true then Q x H1 else tb σ H1 Q):=by
 intro pins s σ H Q I h
 refine BoolOp_or (thn (ha pins s σ H _ I h) λv s1 zq=>?_)
 obtain ⟨x,H1,I1,r1,q1⟩:=zq
 obtain ⟨k,t,q1⟩:=q1
 refine thn (Smk pins s1 σ H1 x v (λc H2=>H2=H1/\c=k) I1 r1 ⟨k,t,rfl,rfl⟩) λc s2 zq=>?_
 obtain ⟨H2,I2,e1,e2⟩:=zq
 subst e1 e2
 cases c with
 |false=>exact hb pins s2 σ H2 Q I2 q1
 |true=>exact ⟨x,H2,I2,r1,q1⟩
end
section
variable {X:Cx}
def Sug (K:Si):R2:=λx y H Q=>∃(p q:S5) (xs:List V),x= .ref p/\y= .ref q/\Sx K H p xs/\Sx K H q []/\Q (.bl xs.isEmpty) H
theorem Jzy (hu:X.A.units+64 < cLine):OpR X (compareOp .Eq) (Sug X.K):=by
 rintro pins s σ H x y v u Q I rx ry ⟨p,q,xs,rfl,rfl,h1,h2,k⟩
 cases xs with
 |nil=>exact Slk hu pins s σ H _ _ v u Q I rx ry ⟨p,q,[],[],[],rfl,rfl,h1,h2,rfl,rfl,λi x y b e=>by simp at e,k⟩
 |cons c r=>
  obtain rfl:v=Value.ref p:=rx
  obtain rfl:u=Value.ref q:=ry
  obtain ⟨its,r1,p1,_⟩:=I.list h1
  obtain ⟨jts,r2,p2,_⟩:=I.list h2
  have e1:=r1.length
  have e2:=r2.length
  refine SeqAt.eq_list_lengthsAt p1.isList p2.isList ?_ (by omega) ⟨.bl _,H,I,rfl,k⟩
  simp only [yp,bne_iff_ne]
  rw [<-e1,<-e2]
  simp
theorem Jlq {o i:Expr} {pos:Pos} {td ty:TE} (hu:X.A.units+64 < cLine) (ho:PE X o td) (hi:PE X i ty) (hs:Skt i):PE X (.Subscript o i pos) (Sk3 td ty):=Yam (by omega) ho hi hs
end
end L2

namespace K07
open PySem L2 PyProof.Rows PySem.NumText
def top (i:Nat):Sf:=PySem.Challenge.pw_weirwatch_k07_texts_refused_at_the_word.main.body.getD i (.Pass ⟨0,0,0,0⟩)
set_option genInjectivity false in
structure Ad where
 Jel:S5
 Jem:Sc
 Jen:S5
 Jeo:Sc
 Jep:S5
 Jeq:Sc
 Jer:S5
 Jes:Sc
 Jet:S5
 Jeu:Sc
 Jev:S5
 Jew:Sc
 Jex:S5
 Jey:Sc
 Jez:S5
 Jf0:Sc
 Jf1:S5
 Jf2:Sc
 Jf3:S5
 Jf4:Sc
 Jf5:S5
 Jf6:Sc
 Jf7:S5
 Jf8:Sc
 Jf9:S5
 Jfa:Sc
 Jfb:S5
 Jfc:Sc
 Jfd:S5
 Jfe:Sc
 Jff:S5
 Jfg:Sc
 Jfh:S5
 Jfi:Sc
 Jfj:S5
 Jfk:Sc
 Jfl:S5
 Jfm:Sc
 Jfn:S5
 Jfo:Sc
 Jfp:S5
 Jfq:Sc
 Jfr:S5
 Jfs:Sc
 Jft:S5
 Jfu:Sc
 Jfv:S5
 Jfw:Sc
 Jfx:S5
 Jfy:Sc
 Jfz:S5
 Jg0:Sc
 Jg1:S5
 Jg2:Sc
 Jg3:S5
 Jg4:Sc
 Jg5:S5
 Jg6:Sc
 Jg7:S5
 Jg8:Sc
 Jg9:S5
 Jga:Sc
 Jgb:S5
 Jgc:Sc
 Jgd:S5
 Jge:Sc
 Jgf:S5
 Jgg:Sc
 Jgh:S5
 Jgi:Sc
 Jgj:S5
 Jgk:Sc
 Jgl:S5
 Jgm:Sc
 Jgn:S5
 Jgo:Sc
 Jgp:S5
 Jgq:Sc
 Jgr:S5
 Jgs:Sc
 Jgt:S5
 Jgu:Sc
 Jgv:S5
 Jgw:Sc
 Jgx:S5
 Jgy:Sc
 Jgz:S5
 Jh0:Sc
 Jh1:S5
 Jh2:Sc
 Jh3:S5
 Jh4:Sc
 Jh5:S5
 Jh6:Sc
 Jh7:S5
 Jh8:Sc
 Jh9:S5
 Jha:Sc
 Jhb:S5
 Jhc:Sc
 Jhd:S5
 Jhe:Sc
 Jhf:S5
 Jhg:Sc
 Jhh:S5
 Jhi:Sc
 Jhj:S5
 Jhk:Sc
 Jhl:S5
 Jhm:Sc
 Jhn:S5
 Jho:Sc
 Jhp:S5
 Jhq:Sc
 Jhr:S5
 Jhs:Sc
 Jht:S5
 Jhu:Sc
 Jhv:S5
 Jhw:Sc
 Jhx:S5
 Jhy:Sc
 Jhz:S5
 Ji0:Sc
 Ji1:S5
 Ji2:Sc
 Ji3:S5
 Ji4:Sc
 Ji5:S5
 Ji6:Sc
 a_law:S5
 d_law:Sc
 Ji7:Tok
 Ji8:Tok
 Ji9:Tok
 Jia:Tok
 Jib:Tok
 Jic:Tok
 Jid:Tok
 Jie:Tok
 Jif:Tok
 Jig:Tok
 Jih:Tok
 Jii:Tok
 Jij:S5
 Jik:S5
 Jil:S5
 Jim:S5
 Jin:S5
 Jio:S5
 Jip:S5
 Jiq:S5
 Jir:S5
 Jis:S5
 Jit:S5
 Jiu:S5
 Jiv:S5
 Jiw:S5
 Jix:S5
 Jiy:S5
 Jiz:S5
 Jj0:S5
 Jj1:S5
 Jj2:S5
 Jj3:S5
 Jj4:S5
 Jj5:S5
structure Tx (K:Si) (mg:Str->Option S6) (a:Ad):Prop where
 J0:FT K mg "is_whole" (top 15) ["thing","low","high"] a.Jez a.Jf0
 J7:FT K mg "is_made_of" (top 16) ["text","signs"] a.Jf1 a.Jf2
 J8:FT K mg "is_name" (top 17) ["thing"] a.Jf3 a.Jf4
 J9:FT K mg "is_plain" (top 18) ["text"] a.Jf5 a.Jf6
 Ja:FT K mg "number_in" (top 19) ["text","low","high"] a.Jf7 a.Jf8
 Jb:FT K mg "are_marks" (top 23) ["thing","lowest"] a.Jf9 a.Jfa
 Jc:FT K mg "kept_marks" (top 24) ["marks","lowest"] a.Jfb a.Jfc
 Jd:FT K mg "words_of" (top 25) ["name","marks"] a.Jfd a.Jfe
 Je:FT K mg "refuse_no_level" (top 37) ["thing","low","high"] a.Jfr a.Jfs
 Jf:FT K mg "are_unlike" (top 40) ["names"] a.Jfx a.Jfy
 Jg:FT K mg "are_basins" (top 41) ["thing"] a.Jfz a.Jg0
 Jh:FT K mg "are_towns" (top 42) ["thing","basins"] a.Jg1 a.Jg2
 Ji:FT K mg "line_of" (top 46) ["parts"] a.Jg5 a.Jg6
 Jj:FT K mg "basin_line" (top 47) ["basin"] a.Jg7 a.Jg8
 Jk:FT K mg "town_line" (top 48) ["town"] a.Jg9 a.Jga
 Jl:FT K mg "show_river" (top 49) ["river"] a.Jgb a.Jgc
 Jm:FT K mg "read_marks" (top 51) ["reader","lowest"] a.Jgr a.Jgs
 Jn:FT K mg "read_gate" (top 52) ["reader"] a.Jgt a.Jgu
 Jo:FT K mg "names_of" (top 53) ["things"] a.Jgv a.Jgw
 Jp:FT K mg "read_basin" (top 54) ["reader","basins"] a.Jgx a.Jgy
 Jq:FT K mg "read_town" (top 55) ["reader","basins","towns"] a.Jgz a.Jh0
 Jr:FT K mg "first_words" (top 56) ["basins","towns"] a.Jh1 a.Jh2
 Js:FT K mg "read_thing" (top 57) ["reader","basins","towns"] a.Jh3 a.Jh4
 Jt:FT K mg "read_cloud" (top 58) ["reader"] a.Jh5 a.Jh6
 Ju:FT K mg "read_river" (top 59) ["text"] a.Jh7 a.Jh8
 Jv:FT K mg "_law_cell" (top 61) ["_law_script","_law_k"] a.Jh9 a.Jha
 Jw:FT K mg "_law_stream" (top 62) ["_law_cell_here"] a.Jhb a.Jhc
 Jx:FT K mg "_law_take" (top 63) ["_law_stream_here","_law_many"] a.Jhd a.Jhe
 Jy:FT K mg "_law_names" (top 64) ["_law_stream_here","_law_many"] a.Jhf a.Jhg
 Jz:FT K mg "_law_marks" (top 65) ["_law_stream_here","_law_least"] a.Jhh a.Jhi
 Ja0:FT K mg "_law_called" (top 66) ["_law_stream_here","_law_many"] a.Jhj a.Jhk
 Ja1:FT K mg "_law_lines" (top 67) ["_law_stream_here"] a.Jhl a.Jhm
 Ja2:FT K mg "_law_word" (top 68) ["_law_stream_here","_law_old"] a.Jhn a.Jho
 Ja3:FT K mg "_law_word_spoilt" (top 69) ["_law_stream_here","_law_lines_here"] a.Jhp a.Jhq
 Ja4:FT K mg "_law_spoilt" (top 70) ["_law_stream_here","_law_lines_here"] a.Jhr a.Jhs
 Ja5:FT K mg "_law_number" (top 71) ["_law_word_here","_law_low","_law_high"] a.Jht a.Jhu
 Ja6:FT K mg "_law_is_name" (top 72) ["_law_word_here"] a.Jhv a.Jhw
 Ja7:FT K mg "_law_bounds" (top 73) ["_law_words","_law_at"] a.Jhx a.Jhy
 Ja8:FT K mg "_law_can_stand" (top 74) ["_law_words","_law_at","_law_known"] a.Jhz a.Ji0
 Ja9:FT K mg "_law_next" (top 75) ["_law_known","_law_number_here"] a.Ji1 a.Ji2
 Jaa:FT K mg "_law_wrong" (top 76) ["_law_text"] a.Ji3 a.Ji4
 Jab:FT K mg "_law_told" (top 77) ["_law_text"] a.Ji5 a.Ji6
 f_law:FT K mg "law" (top 78) ["_law_script"] a.a_law a.d_law
 Jac:mg "LETTERS" =some (.str "abcdefghijklmnopqrstuvwxyz" a.Ji7)
 Jad:mg "FIGURES" =some (.str "0123456789" a.Ji8)
 Jae:mg "MOST_LETTERS" =some (.int 8 a.Ji9)
 Jaf:mg "MOST_FIGURES" =some (.int 6 a.Jia)
 Jag:mg "MOST_SETTINGS" =some (.int 4 a.Jib)
 Jah:mg "HIGHEST_MARK" =some (.int 12 a.Jic)
 Jai:mg "HIGHEST" =some (.int 12 a.Jid)
 Jaj:mg "MOST_RAIN" =some (.int 6 a.Jie)
 Jak:mg "MOST_WANT" =some (.int 6 a.Jif)
 Jal:mg "MOST_CLOUD" =some (.int 12 a.Jig)
 Jam:mg "MOST_BASINS" =some (.int 16 a.Jih)
 Jan:mg "MOST_TOWNS" =some (.int 3 a.Jii)
 Jao:mg "SORTS" =some (.ref a.Jij)
 Jap:∀H:Hp,SqT K H a.Jij ((["step","flap","part"]:List Str).map V.str)
 Jaq:mg "all" =none
 Jar:mg "bool" =none
 Jas:mg "enumerate" =none
 Jat:mg "int" =none
 Jau:mg "isinstance" =none
 Jav:mg "len" =none
 Jaw:mg "list" =none
 Jax:mg "max" =none
 Jay:mg "min" =none
 Jaz:mg "range" =none
 Jb0:mg "set" =none
 Jb1:mg "str" =none
 Jb2:mg "tuple" =none
 Jb3:mg "WeirError" =some (.ref a.Jik)
 Jb4:mg "NoName" =some (.ref a.Jil)
 Jb5:mg "NoGate" =some (.ref a.Jim)
 Jb6:mg "NoBasin" =some (.ref a.Jin)
 Jb7:mg "NoTown" =some (.ref a.Jio)
 Jb8:mg "NoCloud" =some (.ref a.Jip)
 Jb9:mg "NoRiver" =some (.ref a.Jiq)
 Jba:mg "NoText" =some (.ref a.Jir)
 Jbb:mg "Gate" =some (.ref a.Jis)
 Jbc:mg "StepGate" =some (.ref a.Jit)
 Jbd:mg "FlapGate" =some (.ref a.Jiu)
 Jbe:mg "PartGate" =some (.ref a.Jiv)
 Jbf:mg "Basin" =some (.ref a.Jiw)
 Jbg:mg "Town" =some (.ref a.Jix)
 Jbh:mg "River" =some (.ref a.Jiy)
 Jbi:mg "LineReader" =some (.ref a.Jiz)
 q86:Sk K (.ref a.Jil) "__init__" =some (some (.ref a.Jel))
 q87:Sk K (.ref a.Jim) "__init__" =some (some (.ref a.Jen))
 q88:Sk K (.ref a.Jin) "__init__" =some (some (.ref a.Jep))
 q89:Sk K (.ref a.Jio) "__init__" =some (some (.ref a.Jer))
 q90:Sk K (.ref a.Jip) "__init__" =some (some (.ref a.Jet))
 q91:Sk K (.ref a.Jiq) "__init__" =some (some (.ref a.Jev))
 q92:Sk K (.ref a.Jir) "__init__" =some (some (.ref a.Jex))
 q93:Sk K (.ref a.Jit) "__init__" =some (some (.ref a.Jff))
 q94:Sk K (.ref a.Jit) "words" =some (some (.ref a.Jfh))
 q95:Sk K (.ref a.Jiu) "__init__" =some (some (.ref a.Jfj))
 q96:Sk K (.ref a.Jiu) "words" =some (some (.ref a.Jfl))
 q97:Sk K (.ref a.Jiv) "__init__" =some (some (.ref a.Jfn))
 q98:Sk K (.ref a.Jiv) "words" =some (some (.ref a.Jfp))
 q99:Sk K (.ref a.Jiw) "__init__" =some (some (.ref a.Jft))
 Jbj:Sk K (.ref a.Jix) "__init__" =some (some (.ref a.Jfv))
 Jbk:Sk K (.ref a.Jiy) "__init__" =some (some (.ref a.Jg3))
 Jbl:Sk K (.ref a.Jiz) "__init__" =some (some (.ref a.Jgd))
 Jbm:Sk K (.ref a.Jiz) "at_end" =some (some (.ref a.Jgf))
 Jbn:Sk K (.ref a.Jiz) "take" =some (some (.ref a.Jgh))
 Jbo:Sk K (.ref a.Jiz) "take_of" =some (some (.ref a.Jgj))
 Jbp:Sk K (.ref a.Jiz) "take_new_name" =some (some (.ref a.Jgl))
 Jbq:Sk K (.ref a.Jiz) "take_number" =some (some (.ref a.Jgn))
 Jbr:Sk K (.ref a.Jiz) "take_end" =some (some (.ref a.Jgp))
 Jbs:FM K "__init__" "NoName.__init__" (Jjj (top 3) 0) ["self","thing"] a.Jel a.Jem
 Jbt:FM K "__init__" "NoGate.__init__" (Jjj (top 4) 0) ["self","thing"] a.Jen a.Jeo
 Jbu:FM K "__init__" "NoBasin.__init__" (Jjj (top 5) 0) ["self","thing"] a.Jep a.Jeq
 Jbv:FM K "__init__" "NoTown.__init__" (Jjj (top 6) 0) ["self","thing"] a.Jer a.Jes
 Jbw:FM K "__init__" "NoCloud.__init__" (Jjj (top 7) 0) ["self","thing"] a.Jet a.Jeu
 Jbx:FM K "__init__" "NoRiver.__init__" (Jjj (top 8) 0) ["self","thing"] a.Jev a.Jew
 Jby:FM K "__init__" "NoText.__init__" (Jjj (top 9) 0) ["self","line","place"] a.Jex a.Jey
 Jbz:FM K "__init__" "StepGate.__init__" (Jjj (top 27) 0) ["self","marks"] a.Jff a.Jfg
 Jc0:FM K "words" "StepGate.words" (Jjj (top 27) 3) ["self"] a.Jfh a.Jfi
 Jc1:FM K "__init__" "FlapGate.__init__" (Jjj (top 28) 0) ["self","marks"] a.Jfj a.Jfk
 Jc2:FM K "words" "FlapGate.words" (Jjj (top 28) 3) ["self"] a.Jfl a.Jfm
 Jc3:FM K "__init__" "PartGate.__init__" (Jjj (top 29) 0) ["self","marks"] a.Jfn a.Jfo
 Jc4:FM K "words" "PartGate.words" (Jjj (top 29) 3) ["self"] a.Jfp a.Jfq
 Jc5:FM K "__init__" "Basin.__init__" (Jjj (top 38) 0) ["self","name","low","high","start","rain","gate"] a.Jft a.Jfu
 Jc6:FM K "__init__" "Town.__init__" (Jjj (top 39) 0) ["self","name","basin","want"] a.Jfv a.Jfw
 Jc7:FM K "__init__" "River.__init__" (Jjj (top 43) 0) ["self","cloud","gain","basins","towns"] a.Jg3 a.Jg4
 Jc8:FM K "__init__" "LineReader.__init__" (Jjj (top 50) 0) ["self","line","row"] a.Jgd a.Jge
 Jc9:FM K "at_end" "LineReader.at_end" (Jjj (top 50) 1) ["self"] a.Jgf a.Jgg
 Jca:FM K "take" "LineReader.take" (Jjj (top 50) 2) ["self","can_stand"] a.Jgh a.Jgi
 Jcb:FM K "take_of" "LineReader.take_of" (Jjj (top 50) 3) ["self","allowed"] a.Jgj a.Jgk
 Jcc:FM K "take_new_name" "LineReader.take_new_name" (Jjj (top 50) 4) ["self","names"] a.Jgl a.Jgm
 Jcd:FM K "take_number" "LineReader.take_number" (Jjj (top 50) 5) ["self","low","high"] a.Jgn a.Jgo
 Jce:FM K "take_end" "LineReader.take_end" (Jjj (top 50) 6) ["self"] a.Jgp a.Jgq
 Jcf:Sag K a.Jil a.Jik a.Jel
 Jcg:Sag K a.Jim a.Jik a.Jen
 Jch:Sag K a.Jin a.Jik a.Jep
 Jci:Sag K a.Jio a.Jik a.Jer
 Jcj:Sag K a.Jip a.Jik a.Jet
 Jck:Sag K a.Jiq a.Jik a.Jev
 Jcl:Sag K a.Jir a.Jik a.Jex
 Jcm:Siq K a.Jir
 Jcn:Cls K a.Jit
 Jco:Sgp K a.Jit
 Jcp:Mk K a.Jit a.Jff
 Jcq:Jph K a.Jit "words" a.Jfh
 Jcr:Cls K a.Jiu
 Jcs:Sgp K a.Jiu
 Jct:Mk K a.Jiu a.Jfj
 Jcu:Jph K a.Jiu "words" a.Jfl
 Jcv:Cls K a.Jiv
 Jcw:Sgp K a.Jiv
 Jcx:Mk K a.Jiv a.Jfn
 Jcy:Jph K a.Jiv "words" a.Jfp
 Jcz:Cls K a.Jiw
 Jd0:Sgp K a.Jiw
 Jd1:Mk K a.Jiw a.Jft
 Jd2:Cls K a.Jix
 Jd3:Sgp K a.Jix
 Jd4:Mk K a.Jix a.Jfv
 Jd5:Cls K a.Jiy
 Jd6:Mk K a.Jiy a.Jg3
 Jd7:Cls K a.Jiz
 Jd8:Mk K a.Jiz a.Jgd
 Jd9:Jph K a.Jiz "at_end" a.Jgf
 Jda:Jph K a.Jiz "take" a.Jgh
 Jdb:Jph K a.Jiz "take_of" a.Jgj
 Jdc:Jph K a.Jiz "take_new_name" a.Jgl
 Jdd:Jph K a.Jiz "take_number" a.Jgn
 Jde:Jph K a.Jiz "take_end" a.Jgp
 Jdf:NoAttr K a.Jil "thing"
 Jdg:NoAttr K a.Jim "thing"
 Jdh:NoAttr K a.Jin "thing"
 Jdi:NoAttr K a.Jio "thing"
 Jdj:NoAttr K a.Jir "line"
 Jdk:NoAttr K a.Jir "place"
 Jdl:NoAttr K a.Jit "marks"
 Jdm:NoAttr K a.Jiu "marks"
 Jdn:NoAttr K a.Jiv "marks"
 Jdo:NoAttr K a.Jiw "name"
 Jdp:NoAttr K a.Jiw "low"
 Jdq:NoAttr K a.Jiw "high"
 Jdr:NoAttr K a.Jiw "start"
 Jds:NoAttr K a.Jiw "rain"
 Jdt:NoAttr K a.Jiw "gate"
 Jdu:NoAttr K a.Jix "name"
 Jdv:NoAttr K a.Jix "basin"
 Jdw:NoAttr K a.Jix "want"
 Jdx:NoAttr K a.Jiy "cloud"
 Jdy:NoAttr K a.Jiy "gain"
 Jdz:NoAttr K a.Jiy "basins"
 Je0:NoAttr K a.Jiy "towns"
 Je1:NoAttr K a.Jiz "line"
 Je2:NoAttr K a.Jiz "place"
 Je3:NoAttr K a.Jiz "parts"
 Je4:Nst K a.Jgj a.Jj0 a.Jj1
 Je5:Nst K a.Jgl a.Jj2 a.Jj3
 Je6:Nst K a.Jgn a.Jj4 a.Jj5
 tnd: [a.Jj1,a.Jj3,a.Jj5].Nodup
 Je7:Sj K (.ref a.Jit) (.ref a.Jis)=some true
 Je8:Sj K (.ref a.Jiu) (.ref a.Jis)=some true
 Je9:Sj K (.ref a.Jiv) (.ref a.Jis)=some true
 Jea:Sj K (.ref a.Jiw) (.ref a.Jiw)=some true
 Jeb:Sj K (.ref a.Jix) (.ref a.Jix)=some true
 Jec:Sj K (.ref a.Jit) (.type "bool")=some false
 Jed:Sj K (.ref a.Jiu) (.type "bool")=some false
 Jee:Sj K (.ref a.Jiv) (.type "bool")=some false
 Jef:W.kitAny K (.ref a.Jit) [.ref a.Jit,.ref a.Jiu,.ref a.Jiv]=some true
 Jeg:W.kitAny K (.ref a.Jiu) [.ref a.Jit,.ref a.Jiu,.ref a.Jiv]=some true
 Jeh:W.kitAny K (.ref a.Jiv) [.ref a.Jit,.ref a.Jiu,.ref a.Jiv]=some true
 Jei:Sl K a.Jir (.ref a.Jir)=some true
 Jej:W.kitAny K (.ref a.Jir) [.ref a.Jim,.ref a.Jiq]=some false
 Jek:Sj K (.ref a.Jir) (.ref a.Jik)=some true
def Jl4:Int->List V->Bool
 |_,[]=>true
 |lo,.int i::r=>(decide (lo<=i)&&decide (i<=12))&&Jl4 (i+1) r
 |_,_::_=>false
def Jnq (lo:Int) (xs:List V):Bool:=decide (1<=xs.length/\xs.length<=4)&&Jl4 lo xs
theorem Jr7 (lo:Int) (x:V) (r:List V):Jl4 lo (x::r)=(Jkk x lo 12&&match x with| .int i=>Jl4 (i+1) r|_=>false):=by
 cases x <;> simp [Jl4,Jkk]
inductive Sq (H:Hp):V->List V->Prop where
 |lst {p:S5} {xs:List V}:H p=some (.lst xs)->Sq H (.ref p) xs
 |tup {p:S5} {xs:List V}:H p=some (.tup xs)->Sq H (.ref p) xs
theorem Sq.same {H H':Hp} {x:V} {xs:List V} (s:Sn H H') (h:Sq H x xs):Sq H' x xs:=by
 cases h with
 |lst e=>exact .lst (s _ _ e)
 |tup e=>exact .tup (s _ _ e)
theorem Sq.ty {K:Si} {H:Hp} {x:V} {xs:List V} (h:Sq H x xs):∃t,TyX K H x t/\tpB t=true/\W.kitAny K t [.type "list",.type "tuple"]=some true:=by
 cases h with
 |lst e=>exact ⟨_,.of (.lst e),rfl,rfl⟩
 |tup e=>exact ⟨_,.of (.tup e),rfl,rfl⟩
inductive Shp (K:Si) (H:Hp) (lo:Int):V->Bool->Prop where
 |seq {x:V} {xs:List V}:Sq H x xs->(∀y∈xs,Tm K H y)->Shp K H lo x (Jnq lo xs)
 |non {x:V} {t:S6}:TyX K H x t->W.kitAny K t [.type "list",.type "tuple"]=some false->Shp K H lo x false
def Sp8 (K:Si):Sp:=λvs H Q _=>∃(x:V) (lo:Int) (b:Bool),vs= [x,.int lo]/\Shp K H lo x b/\∀H',Sn H H'->Q (.bl b) H'
def Rf (a:Ad) (H H':Hp) (x:V) (c:S6) (eo:Option S5):Prop:=∃e dx,c= .ref a.Jim/\eo=some e/\Sn H H'/\H' e=some (XO e a.Jim (some dx) false)/\H' dx=some (XD dx [("thing",x)])
theorem Rf.of {a:Ad} {H H1 H':Hp} {x:V} {c:S6} {eo:Option S5} (s:Sn H H1) (h:Rf a H1 H' x c eo):Rf a H H' x c eo:=by
 obtain ⟨e,dx,h1,h2,h3,h4,h5⟩:=h
 exact ⟨e,dx,h1,h2,s.trans h3,h4,h5⟩
theorem Rf.new {a:Ad} {H:Hp} {x:V} {e dx:S5} (h1:H e=none) (h2:H dx=none) (ne:dx≠e):Rf a H (upd (upd (upd H dx (XD dx [("thing",x)])) e (XO e a.Jim (some dx) true)) e (XO e a.Jim (some dx) false)) x (.ref a.Jim) (some e):=by
 refine ⟨e,dx,rfl,rfl,?_,Sv,?_⟩
 ·rw [Jlv]
  intro b o q
  rw [Jjc (Jjf q h1),Jjc (Jjf q h2)]
  exact q
 ·rw [Jjc ne,Jjc ne,Sv]
def Sm0 (K:Si) (a:Ad):Sp:=λvs H Q E=>∃(x:V) (lo:Int),vs= [x,.int lo]/\
 ((∃xs,Sq H x xs/\(∀y∈xs,Tm K H y)/\Jnq lo xs=true/\∀t H',Sn H H'->H' t=some (.tup xs)->Q (.ref t) H')\/(Shp K H lo x false/\∀c eo H',Rf a H H' x c eo->E c eo H'))
def IsC (a:Ad) (C:S5):Prop:=C=a.Jit\/C=a.Jiu\/C=a.Jiv
def Sce (C:S5) (H:Hp) (g:S5) (xs:List V):Prop:=∃dx t,H g=some (.ins C dx [("marks",.ref t)])/\H t=some (.tup xs)
theorem Sce.same {C:S5} {H H':Hp} {g:S5} {xs:List V} (s:Sn H H') (h:Sce C H g xs):Sce C H' g xs:=by obtain ⟨dx,t,h1,h2⟩:=h;exact ⟨dx,t,s _ _ h1,s _ _ h2⟩
def Jus (K:Si) (a:Ad) (lo:Int):Sp:=λvs H Q E=>∃(p C dx:S5) (x:V),vs= [.ref p,x]/\H p=some (.ins C dx [])/\Cls K C/\NoAttr K C "marks" /\
 ((∃xs,Sq H x xs/\(∀y∈xs,Tm K H y)/\Jnq lo xs=true/\∀t H',Sn H H'->H' t=some (.tup xs)->Q .non (upd H' p (.ins C dx [("marks",.ref t)])))\/(Shp K H lo x false/\∀c eo H',Rf a H H' x c eo->E c eo H'))
inductive GS (K:Si) (a:Ad) (H:Hp):V->Nat->Prop where
 |plain {g C:S5} {xs:List V}:IsC a C->Sce C H g xs->xs.length<=4->GS K a H (.ref g) xs.length
theorem GS.same {K:Si} {a:Ad} {H H':Hp} {x:V} {n:Nat} (s:Sn H H') (h:GS K a H x n):GS K a H' x n:=by
 cases h with
 |plain i g l=>exact .plain i (g.same s) l
def Knd (z:Str):Prop:=z=("step" :Str)\/z=("flap" :Str)\/z=("part" :Str)
def Jna (z:Str):Int:=if z=("part" :Str) then 1 else 0
def cOf (a:Ad) (z:Str):S5:=if z=("step" :Str) then a.Jit else if z=("flap" :Str) then a.Jiu else a.Jiv
theorem Sl6 {a:Ad} {z:Str}:IsC a (cOf a z):=by
 unfold cOf
 split
 ·exact .inl rfl
 ·split
  ·exact .inr (.inl rfl)
  ·exact .inr (.inr rfl)
theorem Jzr:¬(("part" :Str)="step"):=by decide +kernel
theorem Jzq:¬(("part" :Str)="flap"):=by decide +kernel
theorem Jzp:¬(("flap" :Str)="step"):=by decide +kernel
theorem Sot:¬(("flap" :Str)="part"):=by decide +kernel
theorem Sou:¬(("step" :Str)="part"):=by decide +kernel
theorem Jno {x y:Str} (h:¬x=y):¬V.str x=V.str y:=λe=>h (V.str.inj e)
def LET:Str:="abcdefghijklmnopqrstuvwxyz"
def Jme (g z:Str):Bool:=z.cps.toList.all λc=>decide (c∈g.cps.toList)
def Jlj (z:Str):Bool:=decide (1<=z.length/\z.length<=8)&&Jme LET z
structure Wd (n:Nat) (z:Str):Prop where
 len:z.length<=n
 low:∀c∈z.cps.toList,c < 128
theorem Jlc (z:Str):z.cps.toList.length=z.length:=yby
theorem Wd.mono {n m:Nat} {z:Str} (h:Wd n z) (l:n<=m):Wd m z:=⟨yv h.len l,h.low⟩
theorem Wd.app {n m:Nat} {x y:Str} (a:Wd n x) (b:Wd m y):Wd (n+m) (x++y):=by
 refine ⟨by rw [Str.length_append];have:=a.len;have:=b.len;omega,λc hc=>?_⟩
 have e:(x++y).cps=x.cps++y.cps:=rfl
 rw [e,Array.toList_append,yy] at hc
 exact hc.elim (a.low c) (b.low c)
theorem Jz1 {g:Str} {r:Int} (h0:0<=r) (h1:r < g.length):∃c,c∈g.cps.toList/\atI g.cps.toList r=some c:=by
 obtain ⟨n,rfl⟩:=yas h0
 have hn:n < g.cps.toList.length:=by rw [Jlc];omega
 exact ⟨g.cps.toList[n],ybu hn,Jl7 (yi hn)⟩
theorem Jla {z:Str} {n:Nat} (h:(decide (z.length<=n)&&z.cps.toList.all (λc=>decide (c < 128)))=true):Wd n z:=by
 rw [yac] at h
 exact ⟨of_decide_eq_true h.1,λc hc=>of_decide_eq_true (yah.mp h.2 c hc)⟩
theorem Si9:Wd 26 LET:=Jla (by decide +kernel)
theorem Jqs {K:Si} {H:Hp}:∀cs:List Nat,Scr K H (cs.map sgn) (cs.map λc=>PyData.str ⟨#[c]⟩)
 | []=>.nil
 |_::r=>.cons (.str _) (Jqs r)
theorem Jqg (cs:List Nat) (h:∀c∈cs,c < 128):SeqAt.shaped (.list (cs.map λc=>PyData.str ⟨#[c]⟩))=true:=by
 have e1:∀l:List Nat,(∀c∈l,c < 128)->PyData.canLayAll0 (l.map λc=>PyData.str ⟨#[c]⟩)=true:=by
  intro l
  induction l with
  |nil=>intro _;rfl
  |cons c r ih=>
   intro hh
   have hc:=hh c ybb
   have hs:PyData.strOk (⟨#[c]⟩:Str)=true:=by
    unfold PyData.strOk
    simp
    omega
   simp only [yaj,PyData.canLayAll0,PyData.canLay0,hs,ih λd hd=>hh d (yan _ hd),Bool.and_self]
 have e2:∀l:List Nat,PyData.depthAll (l.map λc=>PyData.str ⟨#[c]⟩)=0:=by
  intro l
  induction l with
  |nil=>rfl
  |cons c r ih=>simp [PyData.depthAll,PyData.depth,ih]
 simp [SeqAt.shaped,PyData.canLay0,PyData.depth,e1 cs h,e2]
theorem Jx7 (cs:List Nat):PyData.eqv (.list (cs.map λc=>PyData.str ⟨#[c]⟩)) (.list [])=cs.isEmpty:=by
 cases cs <;> rfl
theorem Jpw (g z:Str):(z.cps.toList.filter λc=>!decide (c∈g.cps.toList)).isEmpty=Jme g z:=by
 unfold Jme
 rw [ybe,List.isEmpty_iff,List.filter_eq_nil_iff,yah]
 constructor
 ·intro h c hc
  have:=h c hc
  simpa using this
 ·intro h c hc
  have:=h c hc
  simpa using this
theorem Jte {g z:Str} {i c:Nat} (hc:z.cps[i]?=some c):(z.cps.toList.take (i+1)).filter (λc=>!decide (c∈g.cps.toList))=(z.cps.toList.take i).filter (λc=>!decide (c∈g.cps.toList))++(if decide (c∈g.cps.toList)=true then [] else [c]):=by
 have e:z.cps.toList[i]?=some c:=by simpa using hc
 rw [ybc,e,List.filter_append]
 congr 1
 show List.filter _ [c]=_
 rw [List.filter_cons,List.filter_nil]
 cases decide (c∈g.cps.toList) <;> rfl
def Jmv:V->Bool
 | .str z=>Jlj z
 |_=>false
def Nmd (K:Si) (H:Hp) (x:V):Prop:=Tm K H x/\∀z,x= .str z->Wd 2000 z
def Sm1:Sp:=λvs H Q _=>∃z g:Str,vs= [.str z,.str g]/\z.length<=2000/\∀H',Sn H H'->Q (.bl (Jme g z)) H'
def Sm2 (K:Si):Sp:=λvs H Q _=>∃x:V,vs= [x]/\Nmd K H x/\∀H',Sn H H'->Q (.bl (Jmv x)) H'
def RfC (C:S5) (H H':Hp) (x:V) (c:S6) (eo:Option S5):Prop:=∃e dx,c= .ref C/\eo=some e/\Sn H H'/\H' e=some (XO e C (some dx) false)/\H' dx=some (XD dx [("thing",x)])
theorem RfC.of {C:S5} {H H1 H':Hp} {x:V} {c:S6} {eo:Option S5} (s:Sn H H1) (h:RfC C H1 H' x c eo):RfC C H H' x c eo:=by
 obtain ⟨e,dx,h1,h2,h3,h4,h5⟩:=h
 exact ⟨e,dx,h1,h2,s.trans h3,h4,h5⟩
theorem RfC.new {C:S5} {H:Hp} {x:V} {e dx:S5} (h1:H e=none) (h2:H dx=none) (ne:dx≠e):RfC C H (upd (upd (upd H dx (XD dx [("thing",x)])) e (XO e C (some dx) true)) e (XO e C (some dx) false)) x (.ref C) (some e):=by
 refine ⟨e,dx,rfl,rfl,?_,Sv,?_⟩
 ·rw [Jlv]
  intro b o q
  rw [Jjc (Jjf q h1),Jjc (Jjf q h2)]
  exact q
 ·rw [Jjc ne,Jjc ne,Sv]
def Jyq (K:Si) (a:Ad):Sp:=λvs H Q E=>∃(x:V) (lo hi:Int),vs= [x,.int lo,.int hi]/\Tm K H x/\((Jkk x lo hi=true/\Q .non H)\/(Jkk x lo hi=false/\∀c eo H',RfC a.Jin H H' x c eo->E c eo H'))
inductive Due (n lo hi st rn g:V) (gb:Bool):Option (Nat×V)->Prop
 |name:Jmv n=false->Due n lo hi st rn g gb (some (0,n))
 |low:Jmv n=true->Jkk lo 0 12=false->Due n lo hi st rn g gb (some (1,lo))
 |high (l:Int):Jmv n=true->lo= .int l->Jkk lo 0 12=true->Jkk hi l 12=false->Due n lo hi st rn g gb (some (1,hi))
 |start (l h:Int):Jmv n=true->lo= .int l->hi= .int h->Jkk lo 0 12=true->Jkk hi l 12=true->Jkk st l h=false->Due n lo hi st rn g gb (some (1,st))
 |rain (l h:Int):Jmv n=true->lo= .int l->hi= .int h->Jkk lo 0 12=true->Jkk hi l 12=true->Jkk st l h=true->Jkk rn 0 6=false->Due n lo hi st rn g gb (some (1,rn))
 |gate (l h:Int):Jmv n=true->lo= .int l->hi= .int h->Jkk lo 0 12=true->Jkk hi l 12=true->Jkk st l h=true->Jkk rn 0 6=true->gb=false->Due n lo hi st rn g gb (some (2,g))
 |good (l h:Int):Jmv n=true->lo= .int l->hi= .int h->Jkk lo 0 12=true->Jkk hi l 12=true->Jkk st l h=true->Jkk rn 0 6=true->gb=true->Due n lo hi st rn g gb none
inductive Shv (n b wt:V):Option (Nat×V)->Prop
 |name:Jmv n=false->Shv n b wt (some (0,n))
 |basin:Jmv n=true->Jmv b=false->Shv n b wt (some (0,b))
 |want:Jmv n=true->Jmv b=true->Jkk wt 1 6=false->Shv n b wt (some (3,wt))
 |good:Jmv n=true->Jmv b=true->Jkk wt 1 6=true->Shv n b wt none
def Sty (a:Ad):Nat->S5
 |0=>a.Jil
 |1=>a.Jin
 |2=>a.Jim
 |_=>a.Jio
def GtI (K:Si) (a:Ad) (H:Hp) (g:V) (gb:Bool):Prop:=∃t,TyX K H g t/\Sj K t (.ref a.Jis)=some gb/\W.kitAny K t [.ref a.Jit,.ref a.Jiu,.ref a.Jiv]=some gb/\
 ∃b,Sj K t (.type "bool")=some b/\(gb=true->b=false)/\t≠ .type "float"
def Six (n lo hi st rn g:V):List (Str×V):=[("name",n),("low",lo),("high",hi),("start",st),("rain",rn),("gate",g)]
def twnF (n b wt:V):List (Str×V):=[("name",n),("basin",b),("want",wt)]
def Sj7 (a:Ad) (d:Option (Nat×V)) (H:Hp) (E:XK) (G:Prop):Prop:=match d with
 |none=>G
 |some (k,x)=>∀c eo H',RfC (Sty a k) H H' x c eo->E c eo H'
def Jxq (K:Si) (a:Ad):Sp:=λvs H Q E=>∃(p dx:S5) (n lo hi st rn g:V) (gb:Bool) (d:Option (Nat×V)),vs= [.ref p,n,lo,hi,st,rn,g]/\H p=some (.ins a.Jiw dx [])/\Nmd K H n/\Tm K H lo/\Tm K H hi/\Tm K H st/\Tm K H rn/\GtI K a H g gb/\Due n lo hi st rn g gb d/\
 Sj7 a d H E (∀H',Sn H H'->Q .non (upd H' p (.ins a.Jiw dx (Six n lo hi st rn g))))
def Sma (K:Si) (a:Ad):Sp:=λvs H Q E=>∃(p dx:S5) (n b wt:V) (d:Option (Nat×V)),vs= [.ref p,n,b,wt]/\H p=some (.ins a.Jix dx [])/\Nmd K H n/\Nmd K H b/\Tm K H wt/\Shv n b wt d/\
 Sj7 a d H E (∀H',Sn H H'->Q .non (upd H' p (.ins a.Jix dx (twnF n b wt))))
theorem Nmd.same {K:Si} {H H':Hp} {x:V} (s:Sn H H') (h:Nmd K H x):Nmd K H' x:=⟨h.1.same s,h.2⟩
theorem Jux {K:Si} {H H':Hp} {x:V} {t:S6} (s:Sn H H') (h:TyX K H x t):TyX K H' x t:=h.same (λb o _ q=>s b o q) (λb fs q=>s b _ q)
theorem GtI.same {K:Si} {a:Ad} {H H':Hp} {g:V} {gb:Bool} (s:Sn H H') (h:GtI K a H g gb):GtI K a H' g gb:=by obtain ⟨t,ty,r⟩:=h;exact ⟨t,Jux s ty,r⟩
theorem Smn {K:Si} {H:Hp} {x:V} {t:S6} (h:TyX K H x t) (e:t= .type "str"):∃z,x= .str z:=by
 cases h with
 |exc=>cases e
 |of ty=>
  cases ty with
  |str z=>exact ⟨z,rfl⟩
  |ins=>cases e
  |non=>exact absurd (Value.type.inj e) (by decide)
  |bl=>exact absurd (Value.type.inj e) (by decide)
  |int=>exact absurd (Value.type.inj e) (by decide)
  |flt=>exact absurd (Value.type.inj e) (by decide)
  |lst=>exact absurd (Value.type.inj e) (by decide)
  |frz=>exact absurd (Value.type.inj e) (by decide)
  |tup=>exact absurd (Value.type.inj e) (by decide)
  |dK=>exact absurd (Value.type.inj e) (by decide)
  |dT=>exact absurd (Value.type.inj e) (by decide)
structure Bsn where
 z:Str
 lo:Int
 hi:Int
 st:Int
 rn:Int
 g:V
 n:Nat
def Sfu (K:Si) (a:Ad) (H:Hp) (o:S5) (B:Bsn):Prop:=∃dx,H o=some (.ins a.Jiw dx (Six (.str B.z) (.int B.lo) (.int B.hi) (.int B.st) (.int B.rn) B.g))/\GS K a H B.g B.n
theorem Sfu.same {K:Si} {a:Ad} {H H':Hp} {o:S5} {B:Bsn} (s:Sn H H') (h:Sfu K a H o B):Sfu K a H' o B:=by obtain ⟨dx,h1,h2⟩:=h;exact ⟨dx,s _ _ h1,h2.same s⟩
structure Twn where
 z:Str
 b:Str
 wt:Int
def Sg6 (a:Ad) (H:Hp) (o:S5) (B:Twn):Prop:=∃dx,H o=some (.ins a.Jix dx (twnF (.str B.z) (.str B.b) (.int B.wt)))
theorem Sg6.same {a:Ad} {H H':Hp} {o:S5} {B:Twn} (s:Sn H H') (h:Sg6 a H o B):Sg6 a H' o B:=by obtain ⟨dx,h1⟩:=h;exact ⟨dx,s _ _ h1⟩
def Se0 (K:Si) (a:Ad) (H:Hp):List S5->List Bsn->Prop
 | [],[]=>True
 |o::os,B::Bs=>Sfu K a H o B/\Se0 K a H os Bs
 |_,_=>False
def Seg (a:Ad) (H:Hp):List S5->List Twn->Prop
 | [],[]=>True
 |o::os,B::Bs=>Sg6 a H o B/\Seg a H os Bs
 |_,_=>False
theorem Se0.same {K:Si} {a:Ad} {H H':Hp} (s:Sn H H'):∀{os:List S5} {Bs:List Bsn},Se0 K a H os Bs->Se0 K a H' os Bs:=by
 intro os
 induction os with
 |nil=>
  intro Bs h
  cases Bs with
  |nil=>exact True.intro
  |cons B Bs=>exact False.elim h
 |cons o os ih=>
  intro Bs h
  cases Bs with
  |nil=>exact False.elim h
  |cons B Bs=>exact ⟨(And.left h).same s,ih (And.right h)⟩
theorem Seg.same {a:Ad} {H H':Hp} (s:Sn H H'):∀{os:List S5} {Bs:List Twn},Seg a H os Bs->Seg a H' os Bs:=by
 intro os
 induction os with
 |nil=>
  intro Bs h
  cases Bs with
  |nil=>exact True.intro
  |cons B Bs=>exact False.elim h
 |cons o os ih=>
  intro Bs h
  cases Bs with
  |nil=>exact False.elim h
  |cons B Bs=>exact ⟨(And.left h).same s,ih (And.right h)⟩
theorem Se0.len {K:Si} {a:Ad} {H:Hp} {os:List S5}:∀{Bs:List Bsn},Se0 K a H os Bs->os.length=Bs.length:=by
 induction os with
 |nil=>
  intro Bs h
  cases Bs with
  |nil=>rfl
  |cons B Bs=>exact h.elim
 |cons o os ih=>
  intro Bs h
  cases Bs with
  |nil=>exact h.elim
  |cons B Bs=>rw [yad,yad,ih h.2]
theorem Seg.len {a:Ad} {H:Hp} {os:List S5}:∀{Bs:List Twn},Seg a H os Bs->os.length=Bs.length:=by
 induction os with
 |nil=>
  intro Bs h
  cases Bs with
  |nil=>rfl
  |cons B Bs=>exact h.elim
 |cons o os ih=>
  intro Bs h
  cases Bs with
  |nil=>exact h.elim
  |cons B Bs=>rw [yad,yad,ih h.2]
theorem Se0.get {K:Si} {a:Ad} {H:Hp}:∀{os:List S5} {Bs:List Bsn} {i:Nat} {v:V},Se0 K a H os Bs->(os.map V.ref)[i]?=some v->∃o B,v= .ref o/\Bs[i]?=some B/\Sfu K a H o B:=by
 intro os
 induction os with
 |nil=>intro Bs i v h e;simp at e
 |cons o os ih=>
  intro Bs i v h e
  cases Bs with
  |nil=>exact False.elim h
  |cons B Bs=>
   cases i with
   |zero=>exact ⟨o,B,by simpa using e.symm,rfl,And.left h⟩
   |succ i=>exact ih (Bs:=Bs) (i:=i) (And.right h) (by simpa using e)
theorem Seg.get {a:Ad} {H:Hp}:∀{os:List S5} {Bs:List Twn} {i:Nat} {v:V},Seg a H os Bs->(os.map V.ref)[i]?=some v->∃o B,v= .ref o/\Bs[i]?=some B/\Sg6 a H o B:=by
 intro os
 induction os with
 |nil=>intro Bs i v h e;simp at e
 |cons o os ih=>
  intro Bs i v h e
  cases Bs with
  |nil=>exact False.elim h
  |cons B Bs=>
   cases i with
   |zero=>exact ⟨o,B,by simpa using e.symm,rfl,And.left h⟩
   |succ i=>exact ih (Bs:=Bs) (i:=i) (And.right h) (by simpa using e)
def Yi (K:Si):Sp:=λvs H Q _=>∃(l:S5) (zs:List Str),vs= [.ref l]/\Sx K H l (zs.map V.str)/\zs.length<=2000/\∀H',Sn H H'->Q (.bl (decide ((uq zs).length=zs.length))) H'
def Ya (K:Si) (a:Ad):Sp:=λvs H Q _=>∃(l:S5) (os:List S5) (Bs:List Bsn),vs= [.ref l]/\H l=some (.lst (os.map V.ref))/\Se0 K a H os Bs/\(1<=Bs.length/\Bs.length<=16)/\(Bs.map (·.z)).Nodup/\∀H',Sn H H'->Q (.bl true) H'
def Yb9 (K:Si) (a:Ad):Sp:=λvs H Q _=>∃(l m:S5) (os ts:List S5) (Bs:List Bsn) (Ts:List Twn),vs= [.ref m,.ref l]/\H l=some (.lst (os.map V.ref))/\Se0 K a H os Bs/\Bs.length<=16/\H m=some (.lst (ts.map V.ref))/\Seg a H ts Ts/\Ts.length<=3/\(Ts.map (·.z)).Nodup/\(∀t∈Ts,t.b∈Bs.map (·.z))/\∀H',Sn H H'->Q (.bl true) H'
section
variable {P:Sb} {w:Sd} {K:Si} {mg:Str->Option S6} {base:Sg} {a:Ad}
theorem Jpr:Jjh ["self","thing"] ["self","thing"] (Jje (Jjj (top 4) 0)):=⟨rfl,rfl,rfl,by decide +kernel,rfl,by decide +kernel,by decide +kernel⟩
theorem Jom (T:Tx K mg a):Jjz P w K mg base CX0 1 a.Jen a.Jeo ["self","thing"] (Joz K "thing"):=by
 refine T.Jbt.fn.ok Jpr (λvs H Q E h=>?_) (λcdv A outer s H vs Q E hr h=>?_)
 ·obtain ⟨e,C,W,fI,y,rfl,_⟩:=h
  rfl
 ·obtain ⟨e,C,W,fI,y,rfl,q,c,n,k⟩:=h
  refine ⟨_,(Jjb (Jo5 (pv 0) (pv 1) rfl)),?_⟩
  exact ⟨_,rfl,_,rfl,e,C,W,fI,true,rfl,q,c,n,k⟩
theorem Jvl:Jjh ["thing","low","high"] ["thing","low","high"] (Jje (top 15)):=⟨rfl,rfl,rfl,by decide +kernel,rfl,by decide +kernel,by decide +kernel⟩
theorem Jnh (T:Tx K mg a):Jjz P w K mg base CX0 1 a.Jez a.Jf0 ["thing","low","high"] (Yba K):=by
 refine T.J0.fn.ok Jvl (λvs H Q E h=>?_) (λcdv A outer s H vs Q E hr h=>?_)
 ·obtain ⟨x,lo,hi,rfl,_⟩:=h
  rfl
 ·obtain ⟨x,lo,hi,rfl,tm,k⟩:=h
  refine ⟨_,(Jj9 (Jjv (PW.pt (Jot (Jkg (Jjk Jlw (by rfl) T.Jau Jk0 (So (pv 0) (So (Jlu (v:=.ty "bool") (by rfl) T.Jar Jtv rfl) Ss)))) (Jnn (Jkf (Jkg (Jjk Jlw (by rfl) T.Jau Jk0 (So (pv 0) (So (Jlu (v:=.ty "int") (by rfl) T.Jat Joe rfl) Ss)))))))) (Jjb (Jji Jn6)) Jjm)
   (Jjb (Jji (Js7 Jmg Jmg (pv 1) (pv 0) (pv 2))))),?_⟩
  rcases tm with ⟨i,rfl⟩|⟨t,ty,ht⟩
  ·refine ⟨_,rfl,_,_,_,_,_,rfl,rfl,.of (.int i),(by rfl:Sj K (.type "int") (.type "bool")=some false),_,rfl,Jjw ⟨_,rfl,_,_,_,_,_,rfl,rfl,.of (.int i),(by rfl:Sj K (.type "int") (.type "int")=some true),_,rfl,Jjw ?_⟩⟩
   refine ⟨_,rfl,_,rfl,_,_,rfl,rfl,_,rfl,?_⟩
   have k':Q (.bl (decide (lo<=i)&&decide (i<=hi))) H:=k
   by_cases h1:lo<=i
   ·rw [decide_eq_true h1] at k'⊢
    exact Jkb ⟨_,rfl,_,_,rfl,rfl,by simpa using k'⟩
   ·rw [decide_eq_false h1] at k'⊢
    exact Jjw (by simpa using k')
  ·rw [Yai ty ht] at k
   have e:=Smj (K:=K) ht
   cases eb:(t== .type "bool") with
   |true=>
    rw [eb] at e
    exact ⟨_,rfl,_,_,_,_,_,rfl,rfl,ty,e.2,_,rfl,Jkb (Jkb k)⟩
   |false=>
    rw [eb] at e
    exact ⟨_,rfl,_,_,_,_,_,rfl,rfl,ty,e.2,_,rfl,Jjw ⟨_,rfl,_,_,_,_,_,rfl,rfl,ty,e.1,_,rfl,Jkb k⟩⟩
theorem Sbt:Jjh ["thing","lowest","least","mark"] ["thing","lowest"] (Jje (top 23)):=⟨rfl,rfl,rfl,by decide +kernel,rfl,by decide +kernel,by decide +kernel⟩
theorem Jua (T:Tx K mg a):Jjz P w K mg base CX0 2 a.Jf9 a.Jfa ["thing","lowest"] (Sp8 K):=by
 have Sax:=Jnh (P:=P) (w:=w) (base:=base) T
 refine T.Jb.fn.ok Sbt (λvs H Q E h=>?_) (λcdv A outer s H vs Q E hr h=>?_)
 ·obtain ⟨x,lo,b,rfl,_⟩:=h
  rfl
 ·obtain ⟨x,lo,b,rfl,sh,k⟩:=h
  refine ⟨_,(Jj9 (Jjv (Jkf (Jkg (Jjk Jq0 (by rfl) T.Jau Jk0 (So (pv 0) (So (Jkj (So (Jlu (v:=.ty "list") (by rfl) T.Jaw Jrh rfl) (So (Jlu (v:=.ty "tuple") (by rfl) T.Jb2 Jnr rfl) Ss))) Ss))))) (Jjb (Jji Jn6)) Jjm)
   (Jj9 (Jjv (Jkf (Jnw Jmg Jmg Sy (Jjk Jjq (by rfl) T.Jav Jkh (So (pv 0) Ss)) (Jk6 (by rfl) T.Jag (v:=.int 4) ⟨_,rfl⟩))) (Jjb (Jji Jn6)) Jjm)
   (Jj9 (Jjl (i:=2) Sbt.nd rfl (yf rfl) (pv 1))
   (Jj9 (Jnm PassesOwn.never rfl (Slr (pv 0)) (Jk3 (i:=3) Sbt.nd rfl (yf rfl)) (Jj9 (Jjv (Jkf (Jkg (Jjd T.J0 Sax hr (by decide) (So (pv 3) (So (pv 2) (So (Jk6 (by rfl) T.Jah (v:=.int 12) ⟨_,rfl⟩) Ss)))))) (Jjb (Jji Jn6)) Jjm)
    (Jjb (Jjl (i:=2) Sbt.nd rfl (yf rfl) (Jjn Jk8 (pv 3) Sy)))))
   (Jjb (Jji Jn6)))))),?_⟩
  cases sh with
  | @non t ty e=>
   refine ⟨_,rfl,(show 2<=Sa by decide),λp hp=>⟨_,p,_,_,t,_,rfl,Sv,rfl,ty.same (λb o _ q=>Sn.upd hp b o q) (λb fs q=>Sn.upd hp b _ q),e,_,rfl,Jkb (k _ (Sn.upd hp))⟩⟩
  | @seq xs sq tms=>
   obtain ⟨t,ty,_,e⟩:=sq.ty (K:=K)
   refine ⟨_,rfl,(show 2<=Sa by decide),λp hp=>⟨_,p,_,_,t,_,rfl,Sv,rfl,ty.same (λb o _ q=>Sn.upd hp b o q) (λb fs q=>Sn.upd hp b _ q),e,_,rfl,Jjw ?_⟩⟩
   have s1:=Sn.upd (o:=.tup [.ty "list",.ty "tuple"]) hp
   have sq1:=sq.same s1
   obtain ⟨q,rfl⟩:∃q,x= .ref q:=by cases sq <;> exact ⟨_,rfl⟩
   have len:Sx K (upd H p (.tup [.ty "list",.ty "tuple"])) q xs\/SqT K (upd H p (.tup [.ty "list",.ty "tuple"])) q xs:=by
    cases sq1 with
    |lst e=>exact .inl (Sx.of e)
    |tup e=>exact .inr (SqT.of e)
   refine ⟨_,rfl,q,xs,rfl,len,_,_,rfl,rfl,_,rfl,?_⟩
   have no:Jnq lo xs=false->∀H',Sn H H'->Q (.bl false) H':=λz H' s'=>by
    have:=k H' s'
    rw [z] at this
    exact this
   by_cases h1:(1:Int)<=(xs.length:Int)
   ·rw [decide_eq_true h1]
    refine Jkb ⟨_,_,rfl,rfl,_,rfl,?_⟩
    by_cases h2:(xs.length:Int)<=4
    ·rw [decide_eq_true h2]
     refine Jjw ⟨_,rfl,?_⟩
     have lz:decide (1<=xs.length/\xs.length<=4)=true:=decide_eq_true (by omega)
     have ar:Jnq lo xs=Jl4 lo xs:=by unfold Jnq;rw [lz,yaw]
     refine ⟨_,rfl,q,rfl,Ya4 (xs:=xs) (λi σ H'=>∃(l:Int) (o:Option V),σ= [some (.ref q),some (.int lo),some (.int l),o]/\H'=upd H p (.tup [.ty "list",.ty "tuple"])/\Jl4 lo xs=Jl4 l (xs.drop i)) ⟨lo,_,rfl,rfl,rfl⟩ ?_ ?_ ?_⟩
     ·rcases len with z|z
      ·exact .inl λi σ H' _ ⟨_,_,_,e,_⟩=>by rw [e];exact z
      ·exact .inr λi σ H' _ ⟨_,_,_,e,_⟩=>by rw [e];exact z
     ·rintro i y σ H' hy ⟨l,o,rfl,rfl,em⟩
      have hd:xs.drop i=y::xs.drop (i+1):=by
       obtain ⟨hi,rfl⟩:=yz.mp hy
       exact List.drop_eq_getElem_cons hi
      refine ⟨_,rfl,_,rfl,y,l,12,rfl,(tms y (yab hy)).same s1,_,rfl,?_⟩
      cases z:Jkk y l 12 with
      |false=>
       refine Jkb (no ?_ _ s1)
       rw [ar,em,hd,Jr7,z,yao]
      |true=>
       rw [hd,Jr7,z,yaw] at em
       cases y with
       |int i'=>exact Jjw ⟨_,rfl,_,_,rfl,rfl,i'+1,_,rfl,rfl,em⟩
       |_=>cases z
     ·rintro σ H' ⟨l,o,rfl,rfl,em⟩
      have e:Jnq lo xs=true:=by rw [ar,em,ycg (yg _)];rfl
      have:=k _ s1
      rw [e] at this
      exact this
    ·rw [decide_eq_false h2]
     refine Jkb (no ?_ _ s1)
     unfold Jnq
     rw [decide_eq_false (by omega:¬(1<=xs.length/\xs.length<=4)),yao]
   ·rw [decide_eq_false h1]
    refine Jjw ⟨_,rfl,Jkb (no ?_ _ s1)⟩
    unfold Jnq
    rw [decide_eq_false (by omega:¬(1<=xs.length/\xs.length<=4)),yao]
theorem Jt1:Jjh ["marks","lowest"] ["marks","lowest"] (Jje (top 24)):=⟨rfl,rfl,rfl,by decide +kernel,rfl,by decide +kernel,by decide +kernel⟩
theorem Jnk (T:Tx K mg a):Jjz P w K mg base (CXX P w) 3 a.Jfb a.Jfc ["marks","lowest"] (Sm0 K a):=by
 have Sfy:=Jua (P:=P) (w:=w) (base:=base) T
 have Sbc:=Jom (P:=P) (w:=w) (base:=base) T
 refine T.Jc.fn.okX Jt1 (λvs H Q E h=>?_) (λcdv A outer s H vs Q E hr h=>?_)
 ·obtain ⟨x,lo,rfl,_⟩:=h
  rfl
 ·obtain ⟨x,lo,rfl,h⟩:=h
  refine ⟨_,(Jj9 (Jjv (Jkf (Jkg (Jjd T.Jb Sfy hr (by decide) (So (pv 0) (So (pv 1) Ss))))) (Jjb (Jkx Jjt rfl (Jm1 T.Jcg Sbc hr (by decide) T.Jbt.bd T.Jb5 (So (pv 0) Ss)))) Jjm)
   (Jjb (Jji (Jkd Jnj (by rfl) T.Jb2 Jnr (So (pv 0) Ss))))),?_⟩
  rcases h with ⟨xs,sq,tms,e,k⟩|⟨sh,k⟩
  ·have sh:=Shp.seq (lo:=lo) sq tms
   rw [e] at sh
   refine ⟨_,rfl,_,rfl,x,lo,true,rfl,sh,λH1 s1=>⟨_,rfl,Jjw ?_⟩⟩
   cases sq with
   |lst e=>exact ⟨_,rfl,_,xs,rfl,.inl ⟨Sx.of (s1 _ _ e),λl hl=>k l _ (s1.trans (Sn.upd hl)) Sv⟩⟩
   |tup e=>exact ⟨_,rfl,_,xs,rfl,.inr ⟨SqT.of (s1 _ _ e),k _ _ s1 (s1 _ _ e)⟩⟩
  ·exact ⟨_,rfl,_,rfl,x,lo,false,rfl,sh,λH1 s1=>⟨_,rfl,Jkb (Jn7 T.Jcg T.Jdg rfl λe dx h1 h2 h3=>k _ _ _ ((Rf.new h1 h2 h3).of s1))⟩⟩
theorem Joy:Jjh ["self","marks"] ["self","marks"] (Jje (Jjj (top 27) 0)):=⟨rfl,rfl,rfl,by decide +kernel,rfl,by decide +kernel,by decide +kernel⟩
theorem Jqz (T:Tx K mg a):Jjz P w K mg base (CXX P w) 4 a.Jff a.Jfg ["self","marks"] (Jus K a 0):=by
 have Sbd:=Jnk (P:=P) (w:=w) (base:=base) T
 refine T.Jbz.fn.okX Joy (λvs H Q E h=>?_) (λcdv A outer s H vs Q E hr h=>?_)
 ·obtain ⟨p,C,dx,x,rfl,_⟩:=h
  rfl
 ·obtain ⟨p,C,dx,x,rfl,hp,c,n,h⟩:=h
  refine ⟨_,(Jjb (Jle (pv 0) (Jku T.Jc Sbd Jjt hr (by decide) (So (pv 1) (So Sy Ss))) rfl)),?_⟩
  rcases h with ⟨xs,sq,tms,e,k⟩|⟨sh,k⟩
  ·exact ⟨_,rfl,x,0,rfl,.inl ⟨xs,sq,tms,e,λt H' s' ht=>⟨_,rfl,p,C,dx,[],rfl,s' _ _ hp,c,n,by simp,k t H' s' ht⟩⟩⟩
  ·exact ⟨_,rfl,x,0,rfl,.inr ⟨sh,k⟩⟩
theorem Jov:Jjh ["self","marks"] ["self","marks"] (Jje (Jjj (top 28) 0)):=⟨rfl,rfl,rfl,by decide +kernel,rfl,by decide +kernel,by decide +kernel⟩
theorem Jqx (T:Tx K mg a):Jjz P w K mg base (CXX P w) 4 a.Jfj a.Jfk ["self","marks"] (Jus K a 0):=by
 have Sbd:=Jnk (P:=P) (w:=w) (base:=base) T
 refine T.Jc1.fn.okX Jov (λvs H Q E h=>?_) (λcdv A outer s H vs Q E hr h=>?_)
 ·obtain ⟨p,C,dx,x,rfl,_⟩:=h
  rfl
 ·obtain ⟨p,C,dx,x,rfl,hp,c,n,h⟩:=h
  refine ⟨_,(Jjb (Jle (pv 0) (Jku T.Jc Sbd Jjt hr (by decide) (So (pv 1) (So Sy Ss))) rfl)),?_⟩
  rcases h with ⟨xs,sq,tms,e,k⟩|⟨sh,k⟩
  ·exact ⟨_,rfl,x,0,rfl,.inl ⟨xs,sq,tms,e,λt H' s' ht=>⟨_,rfl,p,C,dx,[],rfl,s' _ _ hp,c,n,by simp,k t H' s' ht⟩⟩⟩
  ·exact ⟨_,rfl,x,0,rfl,.inr ⟨sh,k⟩⟩
theorem Jox:Jjh ["self","marks"] ["self","marks"] (Jje (Jjj (top 29) 0)):=⟨rfl,rfl,rfl,by decide +kernel,rfl,by decide +kernel,by decide +kernel⟩
theorem Jqy (T:Tx K mg a):Jjz P w K mg base (CXX P w) 4 a.Jfn a.Jfo ["self","marks"] (Jus K a 1):=by
 have Sbd:=Jnk (P:=P) (w:=w) (base:=base) T
 refine T.Jc3.fn.okX Jox (λvs H Q E h=>?_) (λcdv A outer s H vs Q E hr h=>?_)
 ·obtain ⟨p,C,dx,x,rfl,_⟩:=h
  rfl
 ·obtain ⟨p,C,dx,x,rfl,hp,c,n,h⟩:=h
  refine ⟨_,(Jjb (Jle (pv 0) (Jku T.Jc Sbd Jjt hr (by decide) (So (pv 1) (So Sy Ss))) rfl)),?_⟩
  rcases h with ⟨xs,sq,tms,e,k⟩|⟨sh,k⟩
  ·exact ⟨_,rfl,x,1,rfl,.inl ⟨xs,sq,tms,e,λt H' s' ht=>⟨_,rfl,p,C,dx,[],rfl,s' _ _ hp,c,n,by simp,k t H' s' ht⟩⟩⟩
  ·exact ⟨_,rfl,x,1,rfl,.inr ⟨sh,k⟩⟩
theorem Jvm:Jjh ["_law_script","_law_k"] ["_law_script","_law_k"] (Jje (top 61)):=⟨rfl,rfl,rfl,by decide +kernel,rfl,by decide +kernel,by decide +kernel⟩
theorem Jve (T:Tx K mg a):Jjz P w K mg base CX0 1 a.Jh9 a.Jha ["_law_script","_law_k"] (Sly K):=by
 refine T.Jv.fn.ok Jvm (λvs H Q E h=>?_) (λcdv A outer s H vs Q E hr h=>?_)
 ·obtain ⟨x,ns,i,rfl,_⟩:=h
  rfl
 ·obtain ⟨x,ns,i,rfl,hS,k⟩:=h
  refine ⟨_,(Jj9 (Jjv (Jjo Jop (pv 1) (Jjk Jjq (by rfl) T.Jav Jkh (So (pv 0) Ss)) (Jjp _)) (Jjb (Jji (Jk5 Jjs (pv 0) (pv 1) (λ_ _=>rfl)))) Jjm)
   (Jjb (Jji (Jjn Jk8 (Jjn Jpp Sy (pv 1)) Sy)))),?_⟩
  refine ⟨_,rfl,_,rfl,x,_,rfl,.inl hS,_,_,rfl,rfl,_,rfl,Jlx (λq=>?_) (λq=>?_)⟩
  ·have hi:i < ns.length:=by
    have q':=of_decide_eq_true q
    rw [ye] at q'
    omega
   exact ⟨_,rfl,_,rfl,x,_,_,_,rfl,rfl,hS,Ya8 hi,k _⟩
  ·exact ⟨_,rfl,_,_,rfl,rfl,.inl ⟨by decide,by decide⟩,_,_,rfl,rfl,k _⟩
theorem Jt3:Jjh ["_law_cell_here"] ["_law_cell_here"] (Jje (top 62)):=⟨rfl,rfl,rfl,by decide +kernel,rfl,by decide +kernel,by decide +kernel⟩
theorem Jsq (T:Tx K mg a):Jjz P w K mg base CX0 1 a.Jhb a.Jhc ["_law_cell_here"] Yh:=by
 refine T.Jw.fn.ok Jt3 (λvs H Q E h=>?_) (λcdv A outer s H vs Q E hr h=>?_)
 ·obtain ⟨c,rfl,_⟩:=h
  rfl
 ·obtain ⟨c,rfl,k⟩:=h
  refine ⟨_,(Jjb (Jji (Jju (So (Jjk (Jta rfl) (by rfl) T.Jax Jz3 (So Sy (So (Jjn Jnl (pv 0) (Jjn Y0 Sy Sy)) Ss))) (So (Jjn Joq (pv 0) Sy) (So Sy Ss)))))),?_⟩
  refine ⟨_,rfl,_,_,rfl,rfl,⟨by decide,by decide,by decide⟩,_,_,rfl,rfl,_,_,rfl,_,rfl,_,_,rfl,rfl,(by show (0:Int) < 2147483647;decide),Jjx _ (by show 3<=2000;decide),λp hp=>?_⟩
  exact k p _ hp (Sn.upd hp) ⟨_,_,_,Sv⟩
theorem Sc2:Jjh ["_law_stream_here","_law_many","_law_digit","_law_number_here"] ["_law_stream_here","_law_many"] (Jje (top 63)):=⟨rfl,rfl,rfl,by decide +kernel,rfl,by decide +kernel,by decide +kernel⟩
theorem Jlb (T:Tx K mg a):Jjz P w K mg base CX0 1 a.Jhd a.Jhe ["_law_stream_here","_law_many"] Sm8:=by
 refine T.Jx.fn.ok Sc2 (λvs H Q E h=>?_) (λcdv A outer s H vs Q E hr h=>?_)
 ·obtain ⟨p,m,rfl,_⟩:=h
  rfl
 ·obtain ⟨p,m,rfl,⟨a0,b0,c0,hp⟩,hm,hl,k⟩:=h
  refine ⟨_,(Jj9 (Juo (Jjn Jk8 (Jk5 Jjs (pv 0) Sy (λ_ _=>rfl)) Sy) (Jwj (pv 0) Sy Jsb))
   (Jj9 (Jjv (Jjo Jxk (Jk5 Jjs (pv 0) Sy (λ_ _=>rfl)) Sy (Jjp _)) (Jj9 (Jjl (i:=2) Sc2.nd rfl (yf rfl) (Jjn Joq (Jk5 Jjs (pv 0) Sy (λ_ _=>rfl)) (pv 1)))
    (Jj9 (Juo (Jjn Jvi (Jk5 Jjs (pv 0) Sy (λ_ _=>rfl)) (pv 1)) (Jwj (pv 0) Sy Jsb))
    (Jjb (Jji (pv 2))))) Jjm)
   (Jj9 (Jjl (i:=3) Sc2.nd rfl (yf rfl) (Jjn Joq (Jjn Jpp (Jjn Jk8 (Jk5 Jjs (pv 0) Sy (λ_ _=>rfl)) (Jjn Jpp Sy (Jk5 Jjs (pv 0) Sy (λ_ _=>rfl)))) Sy) Sy))
   (Jj9 (Jjl (i:=3) Sc2.nd rfl (yf rfl) (Jjn Joq (Jjn Jpp (pv 3) (pv 3)) Sy))
   (Jjb (Jji (Jjn Joq (Jjn Jvi (Jjn Joq (Jjn Jk8 (Jjn Jpp (pv 3) (Jjn Jk8 (pv 3) Sy)) (Jjn Jpp Sy (Jk5 Jjs (pv 0) Sy (λ_ _=>rfl)))) Sy) Sy) (pv 1)))))))),?_⟩
  refine ⟨_,rfl,p,_,_,_,rfl,rfl,Sx.of hp,rfl,_,_,rfl,rfl,_,rfl,p,_,_,_,rfl,rfl,hp,rfl,?_⟩
  refine ⟨_,rfl,p,_,_,_,rfl,rfl,Sx.of Sv,rfl,_,_,rfl,rfl,_,rfl,Jlx (λ_=>?_) (λ_=>?_)⟩
  ·refine ⟨_,rfl,p,_,_,_,rfl,rfl,Sx.of Sv,rfl,_,rfl,_,_,rfl,rfl,hm,?_⟩
   refine ⟨_,rfl,p,_,_,_,rfl,rfl,Sx.of Sv,rfl,_,rfl,_,_,rfl,rfl,⟨hm,hl⟩,_,rfl,p,_,_,_,rfl,rfl,Sv,rfl,?_⟩
   refine ⟨_,rfl,k _ _ (Int.emod_nonneg _ (by omega)) (ych _ hm) ⟨λb o ne e=>?_,_,_,_,Sv⟩⟩
   rw [Jjc ne,Jjc ne]
   exact e
  ·refine ⟨_,rfl,p,_,_,_,rfl,rfl,Sx.of Sv,rfl,_,rfl,p,_,_,_,rfl,rfl,Sx.of Sv,rfl,_,_,rfl,rfl,.inl ⟨by decide,by decide⟩,_,_,rfl,rfl,_,_,rfl,rfl,.inr ⟨by decide,by decide⟩,_,_,rfl,rfl,(by show (0:Int) < 2147483629;decide),?_⟩
   have n1:∀x:Int,-(2^64) < x%2147483629/\x%2147483629 < 2^64:=λx=>by
    have h1:=Int.emod_nonneg x (show (2147483629:Int)≠0 by decide)
    have h2:=ych x (show (0:Int) < 2147483629 by decide)
    constructor <;> omega
   have n2:∀x:Int,-(2^64) < x%2147483587/\x%2147483587 < 2^64:=λx=>by
    have h1:=Int.emod_nonneg x (show (2147483587:Int)≠0 by decide)
    have h2:=ych x (show (0:Int) < 2147483587 by decide)
    constructor <;> omega
   refine ⟨_,rfl,_,rfl,_,_,rfl,rfl,.inl (n1 _),_,_,rfl,rfl,(by show (0:Int) < 2147483587;decide),?_⟩
   refine ⟨_,rfl,_,rfl,_,_,rfl,rfl,_,_,rfl,rfl,.inl (n2 _),_,rfl,p,_,_,_,rfl,rfl,Sx.of Sv,rfl,_,_,rfl,rfl,.inl ⟨by decide,by decide⟩,_,_,rfl,rfl,_,_,rfl,rfl,(by show (0:Int) < 2147483647;decide),_,_,rfl,rfl,⟨by decide,by decide⟩,_,rfl,_,_,rfl,rfl,hm,?_⟩
   refine k _ _ (Int.emod_nonneg _ (by omega)) (ych _ hm) ⟨λb o ne e=>?_,_,_,_,Sv⟩
   rw [Jjc ne]
   exact e
theorem Jps:Jjh ["self","thing"] ["self","thing"] (Jje (Jjj (top 3) 0)):=⟨rfl,rfl,rfl,by decide +kernel,rfl,by decide +kernel,by decide +kernel⟩
theorem Jon (T:Tx K mg a):Jjz P w K mg base CX0 1 a.Jel a.Jem ["self","thing"] (Joz K "thing"):=by
 refine T.Jbs.fn.ok Jps (λvs H Q E h=>?_) (λcdv A outer s H vs Q E hr h=>?_)
 ·obtain ⟨e,C,W,fI,y,rfl,_⟩:=h
  rfl
 ·obtain ⟨e,C,W,fI,y,rfl,q,c,n,k⟩:=h
  refine ⟨_,(Jjb (Jo5 (pv 0) (pv 1) rfl)),?_⟩
  exact ⟨_,rfl,_,rfl,e,C,W,fI,true,rfl,q,c,n,k⟩
theorem Jp9:Jjh ["self","thing"] ["self","thing"] (Jje (Jjj (top 5) 0)):=⟨rfl,rfl,rfl,by decide +kernel,rfl,by decide +kernel,by decide +kernel⟩
theorem Jrc (T:Tx K mg a):Jjz P w K mg base CX0 1 a.Jep a.Jeq ["self","thing"] (Joz K "thing"):=by
 refine T.Jbu.fn.ok Jp9 (λvs H Q E h=>?_) (λcdv A outer s H vs Q E hr h=>?_)
 ·obtain ⟨e,C,W,fI,y,rfl,_⟩:=h
  rfl
 ·obtain ⟨e,C,W,fI,y,rfl,q,c,n,k⟩:=h
  refine ⟨_,(Jjb (Jo5 (pv 0) (pv 1) rfl)),?_⟩
  exact ⟨_,rfl,_,rfl,e,C,W,fI,true,rfl,q,c,n,k⟩
theorem Jpu:Jjh ["self","thing"] ["self","thing"] (Jje (Jjj (top 6) 0)):=⟨rfl,rfl,rfl,by decide +kernel,rfl,by decide +kernel,by decide +kernel⟩
theorem Js3 (T:Tx K mg a):Jjz P w K mg base CX0 1 a.Jer a.Jes ["self","thing"] (Joz K "thing"):=by
 refine T.Jbv.fn.ok Jpu (λvs H Q E h=>?_) (λcdv A outer s H vs Q E hr h=>?_)
 ·obtain ⟨e,C,W,fI,y,rfl,_⟩:=h
  rfl
 ·obtain ⟨e,C,W,fI,y,rfl,q,c,n,k⟩:=h
  refine ⟨_,(Jjb (Jo5 (pv 0) (pv 1) rfl)),?_⟩
  exact ⟨_,rfl,_,rfl,e,C,W,fI,true,rfl,q,c,n,k⟩
theorem Jt0:Jjh ["text","signs"] ["text","signs"] (Jje (top 16)):=⟨rfl,rfl,rfl,by decide +kernel,rfl,by decide +kernel,by decide +kernel⟩
theorem Jpf (T:Tx K mg a):Jjz P w K mg base CX0 1 a.Jf1 a.Jf2 ["text","signs"] Sm1:=by
 refine T.J7.fn.ok Jt0 (λvs H Q E h=>?_) (λcdv A outer s H vs Q E hr h=>?_)
 ·obtain ⟨z,g,rfl,_⟩:=h
  rfl
 ·obtain ⟨z,g,rfl,hz,k⟩:=h
  refine ⟨_,(Jjb (Jji (Jjk (Jpz rfl) (by rfl) T.Jaq Jtu (So (Jkz (N:=(["sign","signs"]:List Str)) (ini:=[none,some 1]) rfl (Jwk (pv 0)) (λ_ _ _ _ _=>(Jk3 (i:=0) (by decide +kernel:(["sign","signs"]:List Str).Nodup) rfl (yf rfl))) (λ_ _ _ _ _=>Jl3) (λ_ _ _ _ _=>(Jkt Jyh (pv 0) (pv 1) (by with_unfolding_all rfl)))) Ss)))),?_⟩
  refine ⟨_,rfl,z,rfl,λD hD=>?_⟩
  refine Jrs (z:=z) (D:=D) (λi σ H'=>∃o,σ= [o,some (.str g)]/\H'=upd H D (.lst ((z.cps.toList.take i).map λc=>V.bl (decide (c∈g.cps.toList))))) ?_ ?_ ?_
  ·exact ⟨none,rfl,rfl⟩
  ·rintro i c σ H' hc ⟨o,rfl,rfl⟩
   refine Jly ⟨_,rfl,_,rfl,⟨#[c]⟩,g,rfl,rfl,_,Sv,?_,_,rfl,?_⟩
   ·rw [ye,yk,Jlc]
    exact Jkn (by omega)
   ·rw [Jlv,StrLaws.found_one]
    have e:z.cps.toList[i]?=some c:=by simpa using hc
    rw [ybc,e]
    simp
  ·rintro σ H' ⟨o,rfl,rfl⟩
   have e:z.cps.toList.take z.cps.size=z.cps.toList:=yam (by simp)
   refine ⟨D,z.cps.toList.map λc=>decide (c∈g.cps.toList),rfl,Sx.of (by rw [Sv,e,List.map_map];rfl),?_⟩
   have e2:(z.cps.toList.map λc=>decide (c∈g.cps.toList)).all id=Jme g z:=by
    unfold Jme
    rw [List.all_map]
    rfl
   rw [e2]
   exact k _ (Sn.upd hD)
theorem Yaj {H:Hp} {x:V} (h:Tm K H x) (n:∀z,x≠ .str z):∃t,TyX K H x t/\Sj K t (.type "str")=some false:=by
 rcases h with ⟨i,rfl⟩|⟨t,ty,ht⟩
 ·exact ⟨_,.of (.int i),rfl⟩
 ·refine ⟨t,ty,?_⟩
  unfold tpB at ht
  simp only [List.contains_cons,List.contains_nil,Bool.or_false,Bool.or_eq_true,beq_iff_eq] at ht
  rcases ht with rfl|rfl|rfl|rfl|rfl|rfl
  ·rfl
  ·obtain ⟨z,e⟩:=Smn ty rfl
   exact absurd e (n z)
  ·rfl
  ·rfl
  ·rfl
  ·rfl
theorem Jwo:Jjh ["thing"] ["thing"] (Jje (top 17)):=⟨rfl,rfl,rfl,by decide +kernel,rfl,by decide +kernel,by decide +kernel⟩
theorem Jpl (T:Tx K mg a):Jjz P w K mg base CX0 2 a.Jf3 a.Jf4 ["thing"] (Sm2 K):=by
 have Scb:=Jpf (P:=P) (w:=w) (base:=base) T
 refine T.J8.fn.ok Jwo (λvs H Q E h=>?_) (λcdv A outer s H vs Q E hr h=>?_)
 ·obtain ⟨x,rfl,_⟩:=h
  rfl
 ·obtain ⟨x,rfl,nm,k⟩:=h
  refine ⟨_,(Jj9 (Jjv (Jkf (Jkg (Jjk Jlw (by rfl) T.Jau Jk0 (So (pv 0) (So (Jlu (v:=.ty "str") (by rfl) T.Jb1 Jni rfl) Ss))))) (Jjb (Jji Jn6)) Jjm)
   (Jjb (Jji (Jr1 (Js7 Jmg Jmg Sy (Jjk Jm5 (by rfl) T.Jav Jkh (So (pv 0) Ss)) (Jk6 (by rfl) T.Jae (v:=.int 8) ⟨_,rfl⟩)) (Jor (Jjd T.J7 Scb hr (by decide) (So (pv 0) (So (Jk6 (by rfl) T.Jac (v:=.str "abcdefghijklmnopqrstuvwxyz") ⟨_,rfl⟩) Ss)))))))),?_⟩
  by_cases hx:∃z,x= .str z
  ·obtain ⟨z,rfl⟩:=hx
   have k:∀H',Sn H H'->Q (.bl (Jlj z)) H':=k
   have hz:z.length<=2000:=by have:=(nm.2 z rfl).len;omega
   refine ⟨_,rfl,_,_,_,_,_,rfl,rfl,.of (.str z),(by rfl:Sj K (.type "str") (.type "str")=some true),_,rfl,Jjw ?_⟩
   refine ⟨_,rfl,z,rfl,Jjx _ hz,_,_,rfl,rfl,_,rfl,?_⟩
   have no:¬(1<=z.length/\z.length<=8)->Q (.bl false) H:=λq=>by
    have k':=k H (Sn.refl H)
    unfold Jlj at k'
    rw [decide_eq_false q,yao] at k'
    exact k'
   by_cases h1:(1:Int)<=(z.length:Int)
   ·rw [decide_eq_true h1]
    refine Jkb ⟨_,_,rfl,rfl,_,rfl,?_⟩
    by_cases h2:(z.length:Int)<=8
    ·rw [decide_eq_true h2]
     refine Jkb ⟨_,rfl,z,_,rfl,hz,λH' s'=>?_⟩
     have e:Jlj z=Jme LET z:=by
      unfold Jlj
      rw [decide_eq_true (by omega:1<=z.length/\z.length<=8),yaw]
     have k':=k H' s'
     rw [e] at k'
     exact k'
    ·rw [decide_eq_false h2]
     exact Jjw (no (by omega))
   ·rw [decide_eq_false h1]
    exact Jjw ⟨_,rfl,Jjw (no (by omega))⟩
  ·obtain ⟨t,ty,e1⟩:=Yaj nm.1 λz e=>hx ⟨z,e⟩
   have k':=k H (Sn.refl H)
   have e:Jmv x=false:=by
    cases x with
    |str z=>exact absurd ⟨z,rfl⟩ hx
    |_=>rfl
   rw [e] at k'
   exact ⟨_,rfl,_,_,_,_,_,rfl,rfl,ty,e1,_,rfl,Jkb k'⟩
theorem Jpv:Jjh ["thing","low","high"] ["thing","low","high"] (Jje (top 37)):=⟨rfl,rfl,rfl,by decide +kernel,rfl,by decide +kernel,by decide +kernel⟩
theorem Jpo (T:Tx K mg a):Jjz P w K mg base (CXX P w) 3 a.Jfr a.Jfs ["thing","low","high"] (Jyq K a):=by
 have Sax:=Jnh (P:=P) (w:=w) (base:=base) T
 have Sdb:=Jrc (P:=P) (w:=w) (base:=base) T
 refine T.Je.fn.okX Jpv (λvs H Q E h=>?_) (λcdv A outer s H vs Q E hr h=>?_)
 ·obtain ⟨x,lo,hi,rfl,_⟩:=h
  rfl
 ·obtain ⟨x,lo,hi,rfl,tm,h⟩:=h
  refine ⟨_,(Jjb (Jjv (Jkf (Jkg (Jjd T.J0 Sax hr (by decide) (So (pv 0) (So (pv 1) (So (pv 2) Ss)))))) (Jjb (Jkx Jjt rfl (Jm1 T.Jch Sdb hr (by decide) T.Jbu.bd T.Jb6 (So (pv 0) Ss)))) Jjm)),?_⟩
  refine ⟨_,rfl,_,rfl,_,rfl,x,lo,hi,rfl,tm,_,rfl,?_⟩
  rcases h with ⟨e,k⟩|⟨e,k⟩
  ·rw [e]
   exact Jjw k
  ·rw [e]
   exact Jkb (Jn7 T.Jch T.Jdh rfl λe dx h1 h2 h3=>k _ _ _ (RfC.new h1 h2 h3))
theorem Jl9 {f:Str} {v:V}:∀{fs:List (Str×V)},(fs.map (·.1)).contains f=false->Jl8 f v fs=fs++ [(f,v)]
 | [],_=>rfl
 | (g,x) :: r,h=>by
  rw [yaj,List.contains_cons,Bool.or_eq_false_iff] at h
  have ne:¬g=f:=λe=>by
   have:=h.1
   rw [e] at this
   simp at this
  show (if g=f then (g,v)::r else (g,x)::Jl8 f v r)=_
  rw [if_neg ne,Jl9 h.2]
  rfl
theorem Jqa:Jjh ["self","name","low","high","start","rain","gate"] ["self","name","low","high","start","rain","gate"] (Jje (Jjj (top 38) 0)):=⟨rfl,rfl,rfl,by decide +kernel,rfl,by decide +kernel,by decide +kernel⟩
theorem Jsj (T:Tx K mg a):Jjz P w K mg base (CXX P w) 4 a.Jft a.Jfu ["self","name","low","high","start","rain","gate"] (Jxq K a):=by
 have Sbu:=Jpl (P:=P) (w:=w) (base:=base) T
 have Sav:=Jpo (P:=P) (w:=w) (base:=base) T
 have Sau:=Jon (P:=P) (w:=w) (base:=base) T
 have Sbc:=Jom (P:=P) (w:=w) (base:=base) T
 refine T.Jc5.fn.okX Jqa (λvs H Q E h=>?_) (λcdv A outer s H vs Q E hr h=>?_)
 ·obtain ⟨p,dx,n,lo,hi,st,rn,g,gb,d,rfl,_⟩:=h
  rfl
 ·obtain ⟨p,dx,n,lo,hi,st,rn,g,gb,d,rfl,hp,nm,tlo,thi,tst,trn,gt,du,k⟩:=h
  refine ⟨?t,?B,?C⟩
  case B=>
   refine' Jj9 (Jjv (Jkf (Jkg (Jjd T.J8 Sbu hr (by decide) (So (pv 1) Ss)))) (Jjb (Jkx Jjt rfl (Jm1 T.Jcf Sau hr (by decide) T.Jbs.bd T.Jb4 (So (pv 1) Ss)))) Jjm) ?_
   rotate_left
   refine' Jj9 (Jkm (Jku T.Je Sav Jjt hr (by decide) (So (pv 2) (So Sy (So (Jk6 (by rfl) T.Jai (v:=.int 12) ⟨_,rfl⟩) Ss))))) ?_
   rotate_left
   refine' Jj9 (Jkm (Jku T.Je Sav Jjt hr (by decide) (So (pv 3) (So (pv 2) (So (Jk6 (by rfl) T.Jai (v:=.int 12) ⟨_,rfl⟩) Ss))))) ?_
   rotate_left
   refine' Jj9 (Jkm (Jku T.Je Sav Jjt hr (by decide) (So (pv 4) (So (pv 2) (So (pv 3) Ss))))) ?_
   rotate_left
   refine' Jj9 (Jkm (Jku T.Je Sav Jjt hr (by decide) (So (pv 5) (So Sy (So (Jk6 (by rfl) T.Jaj (v:=.int 6) ⟨_,rfl⟩) Ss))))) ?_
   rotate_left
   refine' Jj9 (Jjv (Jkf (Jkg (Jjk Jlw (by rfl) T.Jau Jk0 (So (pv 6) (So (Jk6 (by rfl) T.Jbb (v:=.ref _) rfl) Ss))))) (Jjb (Jkx Jjt rfl (Jm1 T.Jcg Sbc hr (by decide) T.Jbt.bd T.Jb5 (So (pv 6) Ss)))) Jjm) ?_
   rotate_left
   refine' Jj9 (Jle (pv 0) (pv 1) rfl) ?_
   rotate_left
   refine' Jj9 (Jle (pv 0) (pv 2) rfl) ?_
   rotate_left
   refine' Jj9 (Jle (pv 0) (pv 3) rfl) ?_
   rotate_left
   refine' Jj9 (Jle (pv 0) (pv 4) rfl) ?_
   rotate_left
   refine' Jj9 (Jle (pv 0) (pv 5) rfl) ?_
   rotate_left
   exact (Jjb (Jle (pv 0) (pv 6) rfl))
  refine ⟨_,rfl,n,rfl,nm,λH1 s1=>⟨_,rfl,?_⟩⟩
  cases du with
  |name e=>
   rw [e]
   exact Jkb (Jn7 T.Jcf T.Jdf rfl λe dx h1 h2 h3=>k _ _ _ ((RfC.new h1 h2 h3).of s1))
  |low e1 e2=>
   rw [e1]
   exact Jjw ⟨_,rfl,lo,0,12,rfl,tlo.same s1,.inr ⟨e2,λc eo H' rf=>k c eo H' (rf.of s1)⟩⟩
  |high l e1 e2 e3 e4=>
   subst e2
   rw [e1]
   refine Jjw ⟨_,rfl,_,0,12,rfl,tlo.same s1,.inl ⟨e3,?_⟩⟩
   exact ⟨_,rfl,_,rfl,hi,l,12,rfl,thi.same s1,.inr ⟨e4,λc eo H' rf=>k c eo H' (rf.of s1)⟩⟩
  |start l h e1 e2 e3 e4 e5 e6=>
   subst e2 e3
   rw [e1]
   refine Jjw ⟨_,rfl,_,0,12,rfl,tlo.same s1,.inl ⟨e4,?_⟩⟩
   refine ⟨_,rfl,_,rfl,_,l,12,rfl,thi.same s1,.inl ⟨e5,?_⟩⟩
   exact ⟨_,rfl,_,rfl,_,rfl,st,l,h,rfl,tst.same s1,.inr ⟨e6,λc eo H' rf=>k c eo H' (rf.of s1)⟩⟩
  |rain l h e1 e2 e3 e4 e5 e6 e7=>
   subst e2 e3
   rw [e1]
   refine Jjw ⟨_,rfl,_,0,12,rfl,tlo.same s1,.inl ⟨e4,?_⟩⟩
   refine ⟨_,rfl,_,rfl,_,l,12,rfl,thi.same s1,.inl ⟨e5,?_⟩⟩
   refine ⟨_,rfl,_,rfl,_,rfl,st,l,h,rfl,tst.same s1,.inl ⟨e6,?_⟩⟩
   exact ⟨_,rfl,rn,0,6,rfl,trn.same s1,.inr ⟨e7,λc eo H' rf=>k c eo H' (rf.of s1)⟩⟩
  |gate l h e1 e2 e3 e4 e5 e6 e7 e8=>
   subst e2 e3 e8
   obtain ⟨t,ty,g1,g2,g3⟩:=gt
   rw [e1]
   refine Jjw ⟨_,rfl,_,0,12,rfl,tlo.same s1,.inl ⟨e4,?_⟩⟩
   refine ⟨_,rfl,_,rfl,_,l,12,rfl,thi.same s1,.inl ⟨e5,?_⟩⟩
   refine ⟨_,rfl,_,rfl,_,rfl,st,l,h,rfl,tst.same s1,.inl ⟨e6,?_⟩⟩
   refine ⟨_,rfl,rn,0,6,rfl,trn.same s1,.inl ⟨e7,?_⟩⟩
   exact ⟨_,rfl,g,_,_,t,_,rfl,rfl,Jux s1 ty,g1,_,rfl,Jkb (Jn7 T.Jcg T.Jdg rfl λe dx h1 h2 h3=>k _ _ _ ((RfC.new h1 h2 h3).of s1))⟩
  |good l h e1 e2 e3 e4 e5 e6 e7 e8=>
   subst e2 e3 e8
   obtain ⟨t,ty,g1,g2,g3⟩:=gt
   rw [e1]
   refine Jjw ⟨_,rfl,_,0,12,rfl,tlo.same s1,.inl ⟨e4,?_⟩⟩
   refine ⟨_,rfl,_,rfl,_,l,12,rfl,thi.same s1,.inl ⟨e5,?_⟩⟩
   refine ⟨_,rfl,_,rfl,_,rfl,st,l,h,rfl,tst.same s1,.inl ⟨e6,?_⟩⟩
   refine ⟨_,rfl,rn,0,6,rfl,trn.same s1,.inl ⟨e7,?_⟩⟩
   refine ⟨_,rfl,g,_,_,t,_,rfl,rfl,Jux s1 ty,g1,_,rfl,Jjw ?_⟩
   refine ⟨_,rfl,_,rfl,p,_,dx,[],rfl,s1 _ _ hp,T.Jcz,T.Jdo,by simp,?_⟩
   rw [show Jl8 "name" n []=([("name",n)]:List (Str×V)) from rfl]
   refine ⟨_,rfl,_,rfl,p,_,dx,_,rfl,Sv,T.Jcz,T.Jdp,by simp,?_⟩
   rw [show Jl8 "low" (.int l) [("name",n)]=([("name",n),("low",(.int l))]:List (Str×V)) from Jl9 (fs:=[("name",n)]) (show (["name"]:List Str).contains "low" =false by decide +kernel)]
   refine ⟨_,rfl,_,rfl,p,_,dx,_,rfl,Sv,T.Jcz,T.Jdq,by simp,?_⟩
   rw [show Jl8 "high" (.int h) [("name",n),("low",.int l)]=([("name",n),("low",.int l),("high",(.int h))]:List (Str×V)) from Jl9 (fs:=[("name",n),("low",.int l)]) (show (["name","low"]:List Str).contains "high" =false by decide +kernel)]
   refine ⟨_,rfl,_,rfl,p,_,dx,_,rfl,Sv,T.Jcz,T.Jdr,by simp,?_⟩
   rw [show Jl8 "start" st [("name",n),("low",.int l),("high",.int h)]=([("name",n),("low",.int l),("high",.int h),("start",st)]:List (Str×V)) from Jl9 (fs:=[("name",n),("low",.int l),("high",.int h)]) (show (["name","low","high"]:List Str).contains "start" =false by decide +kernel)]
   refine ⟨_,rfl,_,rfl,p,_,dx,_,rfl,Sv,T.Jcz,T.Jds,by simp,?_⟩
   rw [show Jl8 "rain" rn [("name",n),("low",.int l),("high",.int h),("start",st)]=([("name",n),("low",.int l),("high",.int h),("start",st),("rain",rn)]:List (Str×V)) from Jl9 (fs:=[("name",n),("low",.int l),("high",.int h),("start",st)]) (show (["name","low","high","start"]:List Str).contains "rain" =false by decide +kernel)]
   refine ⟨_,rfl,_,rfl,p,_,dx,_,rfl,Sv,T.Jcz,T.Jdt,by simp,?_⟩
   rw [show Jl8 "gate" g [("name",n),("low",.int l),("high",.int h),("start",st),("rain",rn)]=([("name",n),("low",.int l),("high",.int h),("start",st),("rain",rn),("gate",g)]:List (Str×V)) from Jl9 (fs:=[("name",n),("low",.int l),("high",.int h),("start",st),("rain",rn)]) (show (["name","low","high","start","rain"]:List Str).contains "gate" =false by decide +kernel)]
   show Q .non _
   simp only [Jlv]
   exact k _ s1
theorem Jr2:Jjh ["self","name","basin","want"] ["self","name","basin","want"] (Jje (Jjj (top 39) 0)):=⟨rfl,rfl,rfl,by decide +kernel,rfl,by decide +kernel,by decide +kernel⟩
theorem Ju9 (T:Tx K mg a):Jjz P w K mg base (CXX P w) 4 a.Jfv a.Jfw ["self","name","basin","want"] (Sma K a):=by
 have Sbu:=Jpl (P:=P) (w:=w) (base:=base) T
 have Sax:=Jnh (P:=P) (w:=w) (base:=base) T
 have Sau:=Jon (P:=P) (w:=w) (base:=base) T
 have Sdh:=Js3 (P:=P) (w:=w) (base:=base) T
 refine T.Jc6.fn.okX Jr2 (λvs H Q E h=>?_) (λcdv A outer s H vs Q E hr h=>?_)
 ·obtain ⟨p,dx,n,b,wt,d,rfl,_⟩:=h
  rfl
 ·obtain ⟨p,dx,n,b,wt,d,rfl,hp,nm,nb,tw,du,k⟩:=h
  refine ⟨?t,?B,?C⟩
  case B=>
   refine' Jj9 (Jjv (Jkf (Jkg (Jjd T.J8 Sbu hr (by decide) (So (pv 1) Ss)))) (Jjb (Jkx Jjt rfl (Jm1 T.Jcf Sau hr (by decide) T.Jbs.bd T.Jb4 (So (pv 1) Ss)))) Jjm) ?_
   rotate_left
   refine' Jj9 (Jjv (Jkf (Jkg (Jjd T.J8 Sbu hr (by decide) (So (pv 2) Ss)))) (Jjb (Jkx Jjt rfl (Jm1 T.Jcf Sau hr (by decide) T.Jbs.bd T.Jb4 (So (pv 2) Ss)))) Jjm) ?_
   rotate_left
   refine' Jj9 (Jjv (Jkf (Jkg (Jjd T.J0 Sax hr (by decide) (So (pv 3) (So Sy (So (Jk6 (by rfl) T.Jak (v:=.int 6) ⟨_,rfl⟩) Ss)))))) (Jjb (Jkx Jjt rfl (Jm1 T.Jci Sdh hr (by decide) T.Jbv.bd T.Jb7 (So (pv 3) Ss)))) Jjm) ?_
   rotate_left
   refine' Jj9 (Jle (pv 0) (pv 1) rfl) ?_
   rotate_left
   refine' Jj9 (Jle (pv 0) (pv 2) rfl) ?_
   rotate_left
   exact (Jjb (Jle (pv 0) (pv 3) rfl))
  refine ⟨_,rfl,n,rfl,nm,λH1 s1=>⟨_,rfl,?_⟩⟩
  cases du with
  |name e=>
   rw [e]
   exact Jkb (Jn7 T.Jcf T.Jdf rfl λe dx h1 h2 h3=>k _ _ _ ((RfC.new h1 h2 h3).of s1))
  |basin e1 e2=>
   rw [e1]
   refine Jjw ⟨_,rfl,b,rfl,nb.same s1,λH2 s2=>⟨_,rfl,?_⟩⟩
   rw [e2]
   exact Jkb (Jn7 T.Jcf T.Jdf rfl λe dx h1 h2 h3=>k _ _ _ ((RfC.new h1 h2 h3).of (s1.trans s2)))
  |want e1 e2 e3=>
   rw [e1]
   refine Jjw ⟨_,rfl,b,rfl,nb.same s1,λH2 s2=>⟨_,rfl,?_⟩⟩
   rw [e2]
   refine Jjw ⟨_,rfl,wt,1,6,rfl,tw.same (s1.trans s2),_,rfl,?_⟩
   rw [e3]
   exact Jkb (Jn7 T.Jci T.Jdi rfl λe dx h1 h2 h3=>k _ _ _ ((RfC.new h1 h2 h3).of (s1.trans s2)))
  |good e1 e2 e3=>
   rw [e1]
   refine Jjw ⟨_,rfl,b,rfl,nb.same s1,λH2 s2=>⟨_,rfl,?_⟩⟩
   rw [e2]
   refine Jjw ⟨_,rfl,wt,1,6,rfl,tw.same (s1.trans s2),_,rfl,?_⟩
   rw [e3]
   refine Jjw ⟨_,rfl,_,rfl,p,_,dx,[],rfl,s2 _ _ (s1 _ _ hp),T.Jd2,T.Jdu,by simp,?_⟩
   rw [show Jl8 "name" n []=([("name",n)]:List (Str×V)) from rfl]
   refine ⟨_,rfl,_,rfl,p,_,dx,_,rfl,Sv,T.Jd2,T.Jdv,by simp,?_⟩
   rw [show Jl8 "basin" b [("name",n)]=([("name",n),("basin",b)]:List (Str×V)) from Jl9 (fs:=[("name",n)]) (show (["name"]:List Str).contains "basin" =false by decide +kernel)]
   refine ⟨_,rfl,_,rfl,p,_,dx,_,rfl,Sv,T.Jd2,T.Jdw,by simp,?_⟩
   rw [show Jl8 "want" wt [("name",n),("basin",b)]=([("name",n),("basin",b),("want",wt)]:List (Str×V)) from Jl9 (fs:=[("name",n),("basin",b)]) (show (["name","basin"]:List Str).contains "want" =false by decide +kernel)]
   show Q .non _
   simp only [Jlv]
   exact k _ (s1.trans s2)
theorem Joj:∀(ns:List Int) (lo m n:Int),Jl4 lo (ns.map V.int)=true->ns.getLast?=some m->m+1<=n->n<=12->Jl4 lo ((ns++ [n]).map V.int)=true
 | [],_,_,_,_,h,_,_=>by simp at h
 | [x],lo,m,n,h,hl,h1,h2=>by
  have e:x=m:=by simpa using hl
  subst e
  simp [Jl4] at h⊢
  omega
 |x::y::r,lo,m,n,h,hl,h1,h2=>by
  have hl':(y::r).getLast?=some m:=by simpa using hl
  have h':((decide (lo<=x)&&decide (x<=12))&&Jl4 (x+1) ((y::r).map V.int))=true:=h
  rw [yac] at h'
  have ih:=Joj (y::r) (x+1) m n h'.2 hl' h1 h2
  show ((decide (lo<=x)&&decide (x<=12))&&Jl4 (x+1) (((y::r)++ [n]).map V.int))=true
  rw [h'.1,ih]
  rfl
theorem Jr8:∀(ns:List Int) (lo m:Int),Jl4 lo (ns.map V.int)=true->ns.getLast?=some m->lo<=m/\m<=12
 | [],_,_,_,h=>by simp at h
 | [x],lo,m,h,hl=>by
  have e:x=m:=by simpa using hl
  subst e
  simpa [Jl4] using h
 |x::y::r,lo,m,h,hl=>by
  have hl':(y::r).getLast?=some m:=by simpa using hl
  have h':((decide (lo<=x)&&decide (x<=12))&&Jl4 (x+1) ((y::r).map V.int))=true:=h
  rw [yac,yac,decide_eq_true_eq,decide_eq_true_eq] at h'
  have ih:=Jr8 (y::r) (x+1) m h'.2 hl'
  omega
theorem Jpy {ns:List Int} {m:Int} (h:ns.getLast?=some m):atI (ns.map V.int) (-1)=some (.int m):=by
 have hl:1<=ns.length:=by cases ns <;> simp at h⊢
 have e:ixN (ns.map V.int).length (-1)=some (ns.length - 1):=by
  unfold ixN
  rw [ye,if_neg (by decide),if_pos (by omega)]
  congr 1
  omega
 unfold atI
 rw [e]
 show (ns.map V.int)[ns.length - 1]?=some (.int m)
 rw [yn,<-List.getLast?_eq_getElem?,h]
 rfl
def Yb3:Sp:=λvs H Q _=>∃(p:S5) (lo:Int),vs= [.ref p,.int lo]/\Scl H p/\(lo=0\/lo=1)/\∀(l:S5) (ns:List Int) (H':Hp),H l=none->But p H H'->H' l=some (.lst (ns.map V.int))->Jnq lo (ns.map V.int)=true->Q (.ref l) H'
theorem Scg:Jjh ["_law_stream_here","_law_least","_law_marks_here","_law_k"] ["_law_stream_here","_law_least"] (Jje (top 65)):=⟨rfl,rfl,rfl,by decide +kernel,rfl,by decide +kernel,by decide +kernel⟩
theorem Jud (T:Tx K mg a):Jjz P w K mg base CX0 2 a.Jhh a.Jhi ["_law_stream_here","_law_least"] Yb3:=by
 have Sr:=Jlb (P:=P) (w:=w) (base:=base) T
 refine T.Jz.fn.ok Scg (λvs H Q E h=>?_) (λcdv A outer s H vs Q E hr h=>?_)
 ·obtain ⟨p,lo,rfl,_⟩:=h
  rfl
 ·obtain ⟨p,lo,rfl,st,hlo,k⟩:=h
  refine ⟨_,(Jj9 (Jjl (i:=2) Scg.nd rfl (yf rfl) (Jju (So (Jjn Jk8 (pv 1) (Jjd T.Jx Sr hr (by decide) (So (pv 0) (So (Jjn Jnl Sy (pv 1)) Ss)))) Ss)))
   (Jj9 (Jnm PassesOwn.never rfl (Jn2 (by rfl) T.Jaz (So (Jjd T.Jx Sr hr (by decide) (So (pv 0) (So Sy Ss))) Ss)) (Jk3 (i:=3) Scg.nd rfl (yf rfl)) (Jjb (Jjv (Jjo Jop (Jk5 Jjs (pv 2) (Jxm Juy Sy) (λ_ _=>rfl)) Sy (Jjp _)) (Jjb (Jkm (Jll F.plainAttrs_list F.slot_list_append F.type_list_append Jkw (pv 2) (So (Jjn Jk8 (Jjn Jk8 (Jk5 Jjs (pv 2) (Jxm Juy Sy) (λ_ _=>rfl)) Sy) (Jjd T.Jx Sr hr (by decide) (So (pv 0) (So (Jjn Jnl Sy (Jk5 Jjs (pv 2) (Jxm Juy Sy) (λ_ _=>rfl))) Ss)))) Ss)))) Jjm)))
   (Jjb (Jji (pv 2))))),?_⟩
  have hm:(0:Int) < 13 - lo/\(13 - lo).natAbs.log2 < 9000:=by rcases hlo with rfl|rfl <;> decide
  refine ⟨_,rfl,_,rfl,_,rfl,_,_,rfl,rfl,p,13 - lo,rfl,st,hm.1,hm.2,λr H1 r0 r1 b1=>⟨_,_,rfl,rfl,(show 1<=Sa by decide),λl hl=>?_⟩⟩
  have hl0:H l=none:=But.free st b1 hl
  have nlp:l≠p:=st.ne hl0
  have b1':But p H (upd H1 l (.lst [.int (lo+r)])):=b1.updD hl0 nlp
  refine ⟨_,rfl,p,4,rfl,b1'.2,by decide,by decide,λj H2 j0 j1 b2=>⟨j,rfl,by omega,by omega,?_⟩⟩
  refine Jn1 (λi σ H'=>∃(o:Option V) (ns:List Int) (m:Int),σ= [some (.ref p),some (.int lo),some (.ref l),o]/\But p H H'/\H' l=some (.lst (ns.map V.int))/\Jl4 lo (ns.map V.int)=true/\ns.getLast?=some m/\ns.length<=i+1)
   ⟨_,[lo+r],lo+r,rfl,b1'.trans b2,b2.1 _ _ nlp Sv,?_,rfl,by simp⟩ ?_ ?_
  ·simp [Jl4]
   omega
  ·rintro i σ H3 hi ⟨o,ns,m,rfl,b3,h3,hmk,hla,hle⟩
   have hb:=Jr8 ns lo m hmk hla
   refine ⟨_,rfl,_,rfl,l,_,-1,_,rfl,rfl,Sx.of h3,Jpy hla,_,_,rfl,rfl,_,rfl,Jlx (λq=>?_) (λq=>?_)⟩
   ·have q':m < 12:=of_decide_eq_true q
    refine ⟨_,rfl,.inl ⟨rfl,_,Sx.of h3⟩,_,rfl,_,rfl,l,_,-1,_,rfl,rfl,Sx.of h3,Jpy hla,_,_,rfl,rfl,_,rfl,_,rfl,_,rfl,l,_,-1,_,rfl,rfl,Sx.of h3,Jpy hla,_,_,rfl,rfl,p,12 - m,rfl,b3.2,by omega,?_,λr' H4 s0 s1 b4=>?_⟩
    ·have:(12 - m).natAbs<=12:=by rcases hlo with rfl|rfl <;> omega
     exact yay (yci _) (by omega)
    ·have h4:=b4.1 _ _ nlp h3
     refine ⟨_,_,rfl,rfl,l,_,_,rfl,rfl,h4,by rw [ye];exact Jkn (by omega),?_⟩
     refine ⟨_,ns++ [m+1+r'],m+1+r',rfl,?_,?_,Joj ns lo m _ hmk hla (by omega) (by omega),by simp,by simp;omega⟩
     ·refine ⟨λb o nb e=>?_,?_⟩
      ·rw [Jjc (Jjf e hl0)]
       exact b4.1 _ _ nb (b3.1 _ _ nb e)
      ·obtain ⟨x,y,z,q⟩:=b4.2
       exact ⟨x,y,z,by rw [Jjc (yh nlp)];exact q⟩
     ·rw [Sv]
      simp
   ·exact ⟨_,ns,m,rfl,b3,h3,hmk,hla,by omega⟩
  ·rintro σ H3 ⟨o,ns,m,rfl,b3,h3,hmk,hla,hle⟩
   refine ⟨_,rfl,k l ns H3 hl0 b3 h3 ?_⟩
   have hn:1<=ns.length:=by cases ns <;> simp at hla⊢
   unfold Jnq
   rw [hmk,Bool.and_true,ye]
   exact decide_eq_true (by omega)
structure Jo9 where
 kd:Str
 ns:List Int
 sv:Option Int
structure Sey (G:Jo9):Prop where
 kd:Knd G.kd
 ns:Jnq (Jna G.kd) (G.ns.map V.int)=true
 sv:∀i,G.sv=some i->0<=i/\i < G.ns.length
theorem Sey.len {G:Jo9} (h:Sey G):1<=G.ns.length/\G.ns.length<=4:=by
 have q:=h.ns
 unfold Jnq at q
 rw [yac,decide_eq_true_eq,ye] at q
 exact q.1
def nOf (G:Jo9):Nat:=match G.sv with
 |some _=>1
 |none=>G.ns.length
def GX (a:Ad) (H:Hp) (x:V) (G:Jo9):Prop:=∃(g:S5),Sce (cOf a G.kd) H g (G.ns.map V.int)/\match G.sv with
 |none=>x= .ref g
 |some _=>False
theorem GX.same {a:Ad} {H H':Hp} {x:V} {G:Jo9} (s:Sn H H') (h:GX a H x G):GX a H' x G:=by
 obtain ⟨g,ga,r⟩:=h
 refine ⟨g,ga.same s,?_⟩
 cases e:G.sv with
 |none=>rw [e] at r;exact r
 |some j=>
  rw [e] at r
  exact r.elim
theorem GX.gs {K:Si} {a:Ad} {H:Hp} {x:V} {G:Jo9} (gg:Sey G) (h:GX a H x G):GS K a H x (nOf G):=by
 obtain ⟨g,ga,r⟩:=h
 unfold nOf
 cases e:G.sv with
 |none=>
  rw [e] at r
  subst r
  have q:=GS.plain (K:=K) Sl6 ga (by rw [ye];exact gg.len.2)
  rw [ye] at q
  exact q
 |some j=>
  rw [e] at r
  exact r.elim
theorem Sjq {i:Int} (h:i.natAbs<=1000):i.natAbs.log2 < 9000:=yay (yci _) (by omega)
theorem ifF {b:Bool} {A B:Prop} (h:b=false) (k:B):if b=true then A else B:=by rw [h];exact Jjw k
theorem ifT {b:Bool} {A B:Prop} (h:b=true) (k:A):if b=true then A else B:=by rw [h];exact Jkb k
theorem Juv {H:Hp} {ns:List Int} {y:V} (h:y∈ns.map V.int):Tm K H y:=by
 obtain ⟨i,_,rfl⟩:=yal.mp h
 exact .inl ⟨i,rfl⟩
theorem Jrw {C:S5} {lo:Int} {x:V} {H:Hp} {Q1:Hp->Prop} {E:XK} {g dx:S5} (c:Cls K C) (n:NoAttr K C "marks") (hg:H g=none) (hd:H dx=none) (ne:dx≠g)
  (h:∃xs,Sq H x xs/\(∀y∈xs,Tm K H y)/\Jnq lo xs=true/\∀H',Sn H H'->Sce C H' g xs->Q1 H'):
  Jus K a lo [.ref g,x] (upd (upd H dx (.own g)) g (.ins C dx [])) (λv H2=>v= .non/\Q1 H2) E:=by
 have s1:Sn H (upd (upd H dx (.own g)) g (.ins C dx [])):=λb o e=>by rw [Jjc (Jjf e hg),Jjc (Jjf e hd)];exact e
 refine ⟨g,C,dx,x,rfl,Sv,c,n,?_⟩
 obtain ⟨xs,sq,tms,e,k⟩:=h
 refine .inl ⟨xs,sq.same s1,λy hy=>(tms y hy).same s1,e,λt H' s' ht=>⟨rfl,?_⟩⟩
 have ng:t≠g:=Sjr ht (s' _ _ Sv) (by intro z;cases z)
 exact k _ (λb o e=>by rw [Jjc (Jjf e hg)];exact s' _ _ (s1 _ _ e)) ⟨dx,t,Sv,by rw [Jjc ng];exact ht⟩
theorem Jsy:Jjh ["names"] ["names"] (Jje (top 40)):=⟨rfl,rfl,rfl,by decide +kernel,rfl,by decide +kernel,by decide +kernel⟩
theorem Jpe (T:Tx K mg a):Jjz P w K mg base CX0 1 a.Jfx a.Jfy ["names"] (Yi K):=by
 refine T.Jf.fn.ok Jsy (λvs H Q E h=>?_) (λcdv A outer s H vs Q E hr h=>?_)
 ·obtain ⟨l,zs,rfl,_⟩:=h
  rfl
 ·obtain ⟨l,zs,rfl,hq,hz,k⟩:=h
  refine ⟨_,(Jjb (Jji (Jkt Jkv (Jjk Jrp (by rfl) T.Jav Jkh (So (Jkd (Jrq rfl) (by rfl) T.Jb0 Sl5 (So (pv 0) Ss)) Ss)) (Jjk Jjq (by rfl) T.Jav Jkh (So (pv 0) Ss)) (Jjp _)))),?_⟩
  refine ⟨_,rfl,l,zs,rfl,hq,hz,λt ht=>⟨t,zs,rfl,Sv,?_⟩⟩
  have s1:=Sn.upd (o:=TxS P w t zs) ht
  refine ⟨_,rfl,l,_,rfl,.inl (s1.seq hq),rfl,?_⟩
  have e:decide (V.int ((uq zs).length:Nat)=V.int ((zs.map V.str).length:Nat))=decide ((uq zs).length=zs.length):=by
   rw [ye]
   by_cases h:(uq zs).length=zs.length
   ·rw [decide_eq_true h,decide_eq_true (by rw [h])]
   ·rw [decide_eq_false h,decide_eq_false (λq=>h (by have:=V.int.inj q;omega))]
  rw [e]
  exact k _ s1
theorem Jsx:Jjh ["thing"] ["thing"] (Jje (top 41)):=⟨rfl,rfl,rfl,by decide +kernel,rfl,by decide +kernel,by decide +kernel⟩
theorem Jsl (T:Tx K mg a):Jjz P w K mg base CX0 2 a.Jfz a.Jg0 ["thing"] (Ya K a):=by
 have Sca:=Jpe (P:=P) (w:=w) (base:=base) T
 refine T.Jg.fn.ok Jsx (λvs H Q E h=>?_) (λcdv A outer s H vs Q E hr h=>?_)
 ·obtain ⟨l,os,Bs,rfl,_⟩:=h
  rfl
 ·obtain ⟨l,os,Bs,rfl,hl,bl,hn,nd,k⟩:=h
  have len:=bl.len
  refine ⟨?t,?B,?C⟩
  case B=>
   refine' Jj9 ?O0 ?O1
   case O0=>
    refine' Jjv ?O2 ?O3 ?O4
    case O2=>exact (PW.pt (Jot (Jkf (Jkg (Jjk Jq0 (by rfl) T.Jau Jk0 (So (pv 0) (So (Jkj (So (Jlu (v:=.ty "list") (by rfl) T.Jaw Jrh rfl) (So (Jlu (v:=.ty "tuple") (by rfl) T.Jb2 Jnr rfl) Ss))) Ss))))) (Jnn (Jkf (Jnw Jmg Jmg Sy (Jjk Jjq (by rfl) T.Jav Jkh (So (pv 0) Ss)) (Jk6 (by rfl) T.Jam (v:=.int 16) ⟨_,rfl⟩))))))
    case O3=>
     refine' Jjb ?O5
     case O5=>exact (Jji Jn6)
    case O4=>exact Jjm
   case O1=>
   refine' Jj9 ?O6 ?O7
   case O6=>
    refine' Jjv ?O8 ?O9 ?Oa
    case O8=>exact (Jkf (Jkg (Jjk (Jpz rfl) (by rfl) T.Jaq Jtu (So (Jkz (N:=(["basin"]:List Str)) (ini:=[none]) rfl (Jlm (pv 0)) (λ_ _ _ _ _=>(Jk3 (i:=0) (by decide +kernel:(["basin"]:List Str).Nodup) rfl (yf rfl))) (λ_ _ _ _ _=>Jl3) (λ_ _ _ _ _=>(Jjk (Jt9 (K:=K) rfl) (by rfl) T.Jau Jk0 (So (pv 0) (So (Jk6 (by rfl) T.Jbf (v:=.ref _) rfl) Ss))))) Ss))))
    case O9=>
     refine' Jjb ?Ob
     case Ob=>exact (Jji Jn6)
    case Oa=>exact Jjm
   case O7=>
   refine' Jjb ?Oc
   case Oc=>exact (Jji (Jjd T.Jf Sca hr (by decide) (So (Jkz (N:=(["basin"]:List Str)) (ini:=[none]) rfl (Jlm (pv 0)) (λ_ _ _ _ _=>(Jk3 (i:=0) (by decide +kernel:(["basin"]:List Str).Nodup) rfl (yf rfl))) (λ_ _ _ _ _=>Jl3) (λ_ _ _ _ _=>(Jq8 (K:=K) rfl (pv 0) (by rfl)))) Ss)))
  refine ⟨_,rfl,(show 2<=Sa by decide),λp hp=>⟨_,p,_,_,.type "list",true,rfl,Sv,rfl,.of (.lst (Sn.upd hp _ _ hl)),rfl,_,rfl,Jjw ?_⟩⟩
  have s1:=Sn.upd (o:=.tup [.ty "list",.ty "tuple"]) hp
  refine ⟨_,rfl,l,_,rfl,.inl (Sx.of (s1 _ _ hl)),_,_,rfl,rfl,_,rfl,ifT (by rw [ye];simp;omega) ⟨_,_,rfl,rfl,_,rfl,ifF (by rw [ye];simp;omega) ?_⟩⟩
  refine ⟨_,rfl,l,rfl,⟨_,Sx.of (s1 _ _ hl)⟩,λD hD=>?_⟩
  refine Jmi (K:=K) (a:=l) (xs:=os.map V.ref) (D:=D) (λi σ H'=>∃o,σ= [o]/\H' D=some (.lst ((yaa i true).map V.bl))/\Sn (upd H p (.tup [.ty "list",.ty "tuple"])) H') ⟨_,rfl,Sv,Sn.upd hD⟩ (λi σ H' _ ⟨o,_,_,sm⟩=>Sx.of (sm _ _ (s1 _ _ hl))) ?_ ?_
  ·rintro i v σ H' hv ⟨o,rfl,hDs,sm⟩
   obtain ⟨ob,B,rfl,hB,dx,hb,gs⟩:=(bl.same (s1.trans sm)).get hv
   have hi:i < os.length:=by have:=(yz.mp hv).1;rwa [ye] at this
   refine Jly ⟨_,rfl,_,_,_,_,true,rfl,rfl,.of (T.Jd0.ty T.Jcz hb),T.Jea,_,hDs,?_,_,rfl,?_,λc o z=>?_⟩
   ·rw [ye,ycc]
    exact Jkn (by omega)
   ·rw [Sv,List.replicate_succ',yr]
    rfl
   ·rw [Jjc (Jjf z hD)]
    exact sm _ _ z
  rintro σ H1 ⟨o,rfl,hDs,sm⟩
  refine ⟨D,_,rfl,Sx.of hDs,_,rfl,ifF (by simp) ?_⟩
  have s2:=s1.trans sm
  refine ⟨_,rfl,l,rfl,⟨_,Sx.of (s2 _ _ hl)⟩,λD2 hD2=>?_⟩
  refine Jmi (K:=K) (a:=l) (xs:=os.map V.ref) (D:=D2) (λi σ H'=>∃o,σ= [o]/\H' D2=some (.lst (((Bs.take i).map (·.z)).map V.str))/\Sn H1 H') ⟨_,rfl,Sv,Sn.upd hD2⟩ (λi σ H' _ ⟨o,_,_,sm⟩=>Sx.of (sm _ _ (s2 _ _ hl))) ?_ ?_
  ·rintro i v σ H' hv ⟨o,rfl,hDs,sm3⟩
   obtain ⟨ob,B,rfl,hB,dx,hb,gs⟩:=(bl.same (s2.trans sm3)).get hv
   refine Jly ⟨_,rfl,ob,_,dx,_,_,rfl,hb,T.Jcz,T.Jdo,rfl,_,hDs,?_,_,rfl,?_,λc o z=>?_⟩
   ·rw [ye,ye,yk]
    exact Jkn (by omega)
   ·rw [Sv,ybc,hB]
    simp
   ·rw [Jjc (Jjf z hD2)]
    exact sm3 _ _ z
  rintro σ H2 ⟨o,rfl,hDs,sm3⟩
  rw [ye,yam (by omega)] at hDs
  refine ⟨D2,Bs.map (·.z),rfl,Sx.of hDs,by rw [ye];omega,λH3 s3=>?_⟩
  rw [Jvu nd,decide_eq_true rfl]
  exact k _ ((s2.trans sm3).trans s3)
theorem Sdk:Jjh ["thing","basins","names"] ["thing","basins"] (Jje (top 42)):=⟨rfl,rfl,rfl,by decide +kernel,rfl,by decide +kernel,by decide +kernel⟩
theorem Jub (T:Tx K mg a):Jjz P w K mg base CX0 2 a.Jg1 a.Jg2 ["thing","basins"] (Yb9 K a):=by
 have Sca:=Jpe (P:=P) (w:=w) (base:=base) T
 refine T.Jh.fn.ok Sdk (λvs H Q E h=>?_) (λcdv A outer s H vs Q E hr h=>?_)
 ·obtain ⟨l,m,os,ts,Bs,Ts,rfl,_⟩:=h
  rfl
 ·obtain ⟨l,m,os,ts,Bs,Ts,rfl,hl,bl,hn,hm,tl,tn,nd,inn,k⟩:=h
  have len:=bl.len
  have tlen:=tl.len
  refine ⟨?t,?B,?C⟩
  case B=>
   refine' Jj9 ?O0 ?O1
   case O0=>
    refine' Jjv ?O2 ?O3 ?O4
    case O2=>exact (PW.pt (Jot (Jkf (Jkg (Jjk Jq0 (by rfl) T.Jau Jk0 (So (pv 0) (So (Jkj (So (Jlu (v:=.ty "list") (by rfl) T.Jaw Jrh rfl) (So (Jlu (v:=.ty "tuple") (by rfl) T.Jb2 Jnr rfl) Ss))) Ss))))) (Jnn (Jjo Jxk (Jjk Jjq (by rfl) T.Jav Jkh (So (pv 0) Ss)) (Jk6 (by rfl) T.Jan (v:=.int 3) ⟨_,rfl⟩) (Jjp _)))))
    case O3=>
     refine' Jjb ?O5
     case O5=>exact (Jji Jn6)
    case O4=>exact Jjm
   case O1=>
   refine' Jj9 ?O6 ?O7
   case O6=>
    refine' Jjv ?O8 ?O9 ?Oa
    case O8=>exact (Jkf (Jkg (Jjk (Jpz rfl) (by rfl) T.Jaq Jtu (So (Jkz (N:=(["town"]:List Str)) (ini:=[none]) rfl (Jlm (pv 0)) (λ_ _ _ _ _=>(Jk3 (i:=0) (by decide +kernel:(["town"]:List Str).Nodup) rfl (yf rfl))) (λ_ _ _ _ _=>Jl3) (λ_ _ _ _ _=>(Jjk (Jt9 (K:=K) rfl) (by rfl) T.Jau Jk0 (So (pv 0) (So (Jk6 (by rfl) T.Jbg (v:=.ref _) rfl) Ss))))) Ss))))
    case O9=>
     refine' Jjb ?Ob
     case Ob=>exact (Jji Jn6)
    case Oa=>exact Jjm
   case O7=>
   refine' Jj9 ?Oc ?Od
   case Oc=>exact (Jjl (i:=2) Sdk.nd rfl (Or.inr rfl) (Jkz (N:=(["basin"]:List Str)) (ini:=[none]) rfl (Jlm (pv 1)) (λ_ _ _ _ _=>(Jk3 (i:=0) (by decide +kernel:(["basin"]:List Str).Nodup) rfl (yf rfl))) (λ_ _ _ _ _=>Jl3) (λ_ _ _ _ _=>(Jq8 (K:=K) rfl (pv 0) (by rfl)))))
   case Od=>
   refine' Jjb ?Oe
   case Oe=>exact (Jji (Jr1 (Jjd T.Jf Sca hr (by decide) (So (Jkz (N:=(["town"]:List Str)) (ini:=[none]) rfl (Jlm (pv 0)) (λ_ _ _ _ _=>(Jk3 (i:=0) (by decide +kernel:(["town"]:List Str).Nodup) rfl (yf rfl))) (λ_ _ _ _ _=>Jl3) (λ_ _ _ _ _=>(Jq8 (K:=K) rfl (pv 0) (by rfl)))) Ss)) (Jor (Jjk (Jpz rfl) (by rfl) T.Jaq Jtu (So (Jkz (N:=(["town","names"]:List Str)) (ini:=[none,some 2]) rfl (Jlm (pv 0)) (λ_ _ _ _ _=>(Jk3 (i:=0) (by decide +kernel:(["town","names"]:List Str).Nodup) rfl (yf rfl))) (λ_ _ _ _ _=>Jl3) (λ_ _ _ _ _=>(Jkt (Jwg (K:=K) rfl) (Jq8 (K:=K) rfl (pv 0) (by rfl)) (pv 1) (by with_unfolding_all rfl)))) Ss)))))
  refine ⟨_,rfl,(show 2<=Sa by decide),λp hp=>⟨_,p,_,_,.type "list",true,rfl,Sv,rfl,.of (.lst (Sn.upd hp _ _ hm)),rfl,_,rfl,Jjw ?_⟩⟩
  have s1:=Sn.upd (o:=.tup [.ty "list",.ty "tuple"]) hp
  refine ⟨_,rfl,m,_,rfl,.inl (Sx.of (s1 _ _ hm)),_,_,rfl,rfl,_,rfl,ifF (by rw [ye];simp;omega) ?_⟩
  refine ⟨_,rfl,m,rfl,⟨_,Sx.of (s1 _ _ hm)⟩,λD hD=>?_⟩
  refine Jmi (K:=K) (a:=m) (xs:=ts.map V.ref) (D:=D) (λi σ H'=>∃o,σ= [o]/\H' D=some (.lst ((yaa i true).map V.bl))/\Sn (upd H p (.tup [.ty "list",.ty "tuple"])) H') ⟨_,rfl,Sv,Sn.upd hD⟩ (λi σ H' _ ⟨o,_,_,sm⟩=>Sx.of (sm _ _ (s1 _ _ hm))) ?_ ?_
  ·rintro i v σ H' hv ⟨o,rfl,hDs,sm⟩
   obtain ⟨ob,B,rfl,hB,dx,hb⟩:=(tl.same (s1.trans sm)).get hv
   have hi:i < ts.length:=by have:=(yz.mp hv).1;rwa [ye] at this
   refine Jly ⟨_,rfl,_,_,_,_,true,rfl,rfl,.of (T.Jd3.ty T.Jd2 hb),T.Jeb,_,hDs,?_,_,rfl,?_,λc o z=>?_⟩
   ·rw [ye,ycc]
    exact Jkn (by omega)
   ·rw [Sv,List.replicate_succ',yr]
    rfl
   ·rw [Jjc (Jjf z hD)]
    exact sm _ _ z
  rintro σ H1 ⟨o,rfl,hDs,sm⟩
  refine ⟨D,_,rfl,Sx.of hDs,_,rfl,ifF (by simp) ?_⟩
  have s2:=s1.trans sm
  refine ⟨_,rfl,l,rfl,⟨_,Sx.of (s2 _ _ hl)⟩,λD2 hD2=>?_⟩
  refine Jmi (K:=K) (a:=l) (xs:=os.map V.ref) (D:=D2) (λi σ H'=>∃o,σ= [o]/\H' D2=some (.lst (((Bs.take i).map (·.z)).map V.str))/\Sn H1 H') ⟨_,rfl,Sv,Sn.upd hD2⟩ (λi σ H' _ ⟨o,_,_,sm⟩=>Sx.of (sm _ _ (s2 _ _ hl))) ?_ ?_
  ·rintro i v σ H' hv ⟨o,rfl,hDs,sm3⟩
   obtain ⟨ob,B,rfl,hB,dx,hb,gs⟩:=(bl.same (s2.trans sm3)).get hv
   refine Jly ⟨_,rfl,ob,_,dx,_,_,rfl,hb,T.Jcz,T.Jdo,rfl,_,hDs,?_,_,rfl,?_,λc o z=>?_⟩
   ·rw [ye,ye,yk]
    exact Jkn (by omega)
   ·rw [Sv,ybc,hB]
    simp
   ·rw [Jjc (Jjf z hD2)]
    exact sm3 _ _ z
  rintro σ H2 ⟨o,rfl,hD2s,sm3⟩
  rw [ye,yam (by omega)] at hD2s
  have s3:=s2.trans sm3
  refine ⟨_,rfl,m,rfl,⟨_,Sx.of (s3 _ _ hm)⟩,λD3 hD3=>?_⟩
  refine Jmi (K:=K) (a:=m) (xs:=ts.map V.ref) (D:=D3) (λi σ H'=>∃o,σ= [o]/\H' D3=some (.lst (((Ts.take i).map (·.z)).map V.str))/\Sn H2 H') ⟨_,rfl,Sv,Sn.upd hD3⟩ (λi σ H' _ ⟨o,_,_,sm⟩=>Sx.of (sm _ _ (s3 _ _ hm))) ?_ ?_
  ·rintro i v σ H' hv ⟨o,rfl,hDs,sm4⟩
   obtain ⟨ob,B,rfl,hB,dx,hb⟩:=(tl.same (s3.trans sm4)).get hv
   refine Jly ⟨_,rfl,ob,_,dx,_,_,rfl,hb,T.Jd2,T.Jdu,rfl,_,hDs,?_,_,rfl,?_,λc o z=>?_⟩
   ·rw [ye,ye,yk]
    exact Jkn (by omega)
   ·rw [Sv,ybc,hB]
    simp
   ·rw [Jjc (Jjf z hD3)]
    exact sm4 _ _ z
  rintro σ H3 ⟨o,rfl,hD3s,sm4⟩
  rw [ye,yam (by omega)] at hD3s
  refine ⟨D3,Ts.map (·.z),rfl,Sx.of hD3s,by rw [ye];omega,λH4 s4=>⟨_,rfl,ifT (by rw [Jvu nd,decide_eq_true rfl]) ?_⟩⟩
  have s5:=(s3.trans sm4).trans s4
  have hD24:=s4 _ _ (sm4 _ _ hD2s)
  refine ⟨_,rfl,m,rfl,⟨_,Sx.of (s5 _ _ hm)⟩,λD4 hD4=>?_⟩
  refine Jmi (K:=K) (a:=m) (xs:=ts.map V.ref) (D:=D4) (λi σ H'=>∃o,σ= [o,some (.ref D2)]/\H' D4=some (.lst ((yaa i true).map V.bl))/\Sn H4 H') ⟨_,rfl,Sv,Sn.upd hD4⟩ (λi σ H' _ ⟨o,_,_,sm⟩=>Sx.of (sm _ _ (s5 _ _ hm))) ?_ ?_
  ·rintro i v σ H' hv ⟨o,rfl,hDs,sm6⟩
   obtain ⟨ob,B,rfl,hB,dx,hb⟩:=(tl.same (s5.trans sm6)).get hv
   have hi:i < ts.length:=by have:=(yz.mp hv).1;rwa [ye] at this
   refine Jly ⟨_,rfl,ob,_,dx,_,_,rfl,hb,T.Jd2,T.Jdv,rfl,_,rfl,D2,_,rfl,.inl (Sx.of (sm6 _ _ hD24)),rfl,by simp [Joa],?_⟩
   have e:inV (V.str B.b) ((Bs.map (·.z)).map V.str)=true:=by
    obtain ⟨z,hz,ez⟩:=yal.mp (inn B (yab hB))
    unfold inV
    refine List.any_eq_true.mpr ⟨V.str z.z,yal.mpr ⟨z.z,yal.mpr ⟨z,hz,rfl⟩,rfl⟩,?_⟩
    simp [eqV,ez]
   show ∃ys,_
   rw [if_neg yw,e]
   refine ⟨_,hDs,?_,_,rfl,?_,λc o z=>?_⟩
   ·rw [ye,ycc]
    exact Jkn (by omega)
   ·rw [Sv,List.replicate_succ',yr]
    rfl
   ·rw [Jjc (Jjf z hD4)]
    exact sm6 _ _ z
  rintro σ H5 ⟨o,rfl,hD4s,sm6⟩
  refine ⟨D4,_,rfl,Sx.of hD4s,?_⟩
  rw [show (yaa (ts.map V.ref).length true).all id=true by simp]
  exact k _ (s5.trans sm6)
theorem Jpa:Jjh ["self","thing"] ["self","thing"] (Jje (Jjj (top 7) 0)):=⟨rfl,rfl,rfl,by decide +kernel,rfl,by decide +kernel,by decide +kernel⟩
theorem Jrd (T:Tx K mg a):Jjz P w K mg base CX0 1 a.Jet a.Jeu ["self","thing"] (Joz K "thing"):=by
 refine T.Jbw.fn.ok Jpa (λvs H Q E h=>?_) (λcdv A outer s H vs Q E hr h=>?_)
 ·obtain ⟨e,C,W,fI,y,rfl,_⟩:=h
  rfl
 ·obtain ⟨e,C,W,fI,y,rfl,q,c,n,k⟩:=h
  refine ⟨_,(Jjb (Jo5 (pv 0) (pv 1) rfl)),?_⟩
  exact ⟨_,rfl,_,rfl,e,C,W,fI,true,rfl,q,c,n,k⟩
theorem Jpb:Jjh ["self","thing"] ["self","thing"] (Jje (Jjj (top 8) 0)):=⟨rfl,rfl,rfl,by decide +kernel,rfl,by decide +kernel,by decide +kernel⟩
theorem Jre (T:Tx K mg a):Jjz P w K mg base CX0 1 a.Jev a.Jew ["self","thing"] (Joz K "thing"):=by
 refine T.Jbx.fn.ok Jpb (λvs H Q E h=>?_) (λcdv A outer s H vs Q E hr h=>?_)
 ·obtain ⟨e,C,W,fI,y,rfl,_⟩:=h
  rfl
 ·obtain ⟨e,C,W,fI,y,rfl,q,c,n,k⟩:=h
  refine ⟨_,(Jjb (Jo5 (pv 0) (pv 1) rfl)),?_⟩
  exact ⟨_,rfl,_,rfl,e,C,W,fI,true,rfl,q,c,n,k⟩
theorem Jvt {H:Hp} {p q:S5} {o u:HO} (h:p≠q):upd (upd H p o) q u=upd (upd H q u) p o:=by
 funext c
 by_cases h1:c=p
 ·subst h1
  rw [Sv,Jjc h,Sv]
 ·rw [Jjc h1]
  by_cases h2:c=q
  ·subst h2
   rw [Sv,Sv]
  ·rw [Jjc h2,Jjc h2,Jjc h1]
def Sj3 (c g b t:V):List (Str×V):=[("cloud",c),("gain",g),("basins",b),("towns",t)]
def Yb6 (K:Si) (a:Ad):Sp:=λvs H Q _=>∃(p dx l m:S5) (c g:Int) (os ts:List S5) (Bs:List Bsn) (Ts:List Twn),vs= [.ref p,.int c,.int g,.ref l,.ref m]/\H p=some (.ins a.Jiy dx [])/\(0<=c/\c<=12)/\(0<=g/\g<=c)/\H l=some (.lst (os.map V.ref))/\Se0 K a H os Bs/\(1<=Bs.length/\Bs.length<=16)/\(Bs.map (·.z)).Nodup/\H m=some (.lst (ts.map V.ref))/\Seg a H ts Ts/\Ts.length<=3/\(Ts.map (·.z)).Nodup/\(∀t∈Ts,t.b∈Bs.map (·.z))/\∀H' b t,Sn H H'->H' b=some (.tup (os.map V.ref))->H' t=some (.tup (ts.map V.ref))->b≠p->t≠p->Q .non (upd H' p (.ins a.Jiy dx (Sj3 (.int c) (.int g) (.ref b) (.ref t))))
theorem Jn9 {i lo hi:Int} (h1:lo<=i) (h2:i<=hi):Jkk (.int i) lo hi=true:=by
 show (decide (lo<=i)&&decide (i<=hi))=true
 rw [decide_eq_true h1,decide_eq_true h2]
 rfl
theorem Jqd:Jjh ["self","cloud","gain","basins","towns"] ["self","cloud","gain","basins","towns"] (Jje (Jjj (top 43) 0)):=⟨rfl,rfl,rfl,by decide +kernel,rfl,by decide +kernel,by decide +kernel⟩
theorem Jsk (T:Tx K mg a):Jjz P w K mg base (CXX P w) 4 a.Jg3 a.Jg4 ["self","cloud","gain","basins","towns"] (Yb6 K a):=by
 have Sax:=Jnh (P:=P) (w:=w) (base:=base) T
 have Sfa:=Jsl (P:=P) (w:=w) (base:=base) T
 have Sfz:=Jub (P:=P) (w:=w) (base:=base) T
 have Sbv:=Jrd (P:=P) (w:=w) (base:=base) T
 have Sbw:=Jre (P:=P) (w:=w) (base:=base) T
 refine T.Jc7.fn.okX Jqd (λvs H Q E h=>?_) (λcdv A outer s H vs Q E hr h=>?_)
 ·obtain ⟨p,dx,l,m,c,g,os,ts,Bs,Ts,rfl,_⟩:=h
  rfl
 ·obtain ⟨p,dx,l,m,c,g,os,ts,Bs,Ts,rfl,hp,hc,hg,hl,bl,hn,nd,hm,tl,tn,tnd,inn,k⟩:=h
  refine ⟨?t,?B,?C⟩
  case B=>
   refine' Jj9 ?O0 ?O1
   case O0=>
    refine' Jjv ?O2 ?O3 ?O4
    case O2=>exact (Jkf (Jkg (Jjd T.J0 Sax hr (by decide) (So (pv 1) (So Sy (So (Jk6 (by rfl) T.Jal (v:=.int 12) ⟨_,rfl⟩) Ss))))))
    case O3=>
     refine' Jjb ?O5
     case O5=>exact (Jkx Jjt rfl (Jm1 T.Jcj Sbv hr (by decide) T.Jbw.bd T.Jb8 (So (pv 1) Ss)))
    case O4=>exact Jjm
   case O1=>
   refine' Jj9 ?O6 ?O7
   case O6=>
    refine' Jjv ?O8 ?O9 ?Oa
    case O8=>exact (Jkf (Jkg (Jjd T.J0 Sax hr (by decide) (So (pv 2) (So Sy (So (pv 1) Ss))))))
    case O9=>
     refine' Jjb ?Ob
     case Ob=>exact (Jkx Jjt rfl (Jm1 T.Jcj Sbv hr (by decide) T.Jbw.bd T.Jb8 (So (pv 2) Ss)))
    case Oa=>exact Jjm
   case O7=>
   refine' Jj9 ?Oc ?Od
   case Oc=>
    refine' Jjv ?Oe ?Of ?Og
    case Oe=>exact (Jkf (Jkg (Jjd T.Jg Sfa hr (by decide) (So (pv 3) Ss))))
    case Of=>
     refine' Jjb ?Oh
     case Oh=>exact (Jkx Jjt rfl (Jm1 T.Jck Sbw hr (by decide) T.Jbx.bd T.Jb9 (So (pv 3) Ss)))
    case Og=>exact Jjm
   case Od=>
   refine' Jj9 ?Oi ?Oj
   case Oi=>
    refine' Jjv ?Ok ?Ol ?Om
    case Ok=>exact (Jkf (Jkg (Jjd T.Jh Sfz hr (by decide) (So (pv 4) (So (pv 3) Ss)))))
    case Ol=>
     refine' Jjb ?On
     case On=>exact (Jkx Jjt rfl (Jm1 T.Jck Sbw hr (by decide) T.Jbx.bd T.Jb9 (So (pv 4) Ss)))
    case Om=>exact Jjm
   case Oj=>
   refine' Jj9 ?Oo ?Op
   case Oo=>exact (Jle (pv 0) (pv 1) rfl)
   case Op=>
   refine' Jj9 ?Oq ?Or
   case Oq=>exact (Jle (pv 0) (pv 2) rfl)
   case Or=>
   refine' Jj9 ?Os ?Ot
   case Os=>exact (Jle (pv 0) (Jkd Jnj (by rfl) T.Jb2 Jnr (So (pv 3) Ss)) rfl)
   case Ot=>
   refine' Jjb ?Ou
   case Ou=>exact (Jle (pv 0) (Jkd Jnj (by rfl) T.Jb2 Jnr (So (pv 4) Ss)) rfl)
  refine ⟨_,rfl,_,0,12,rfl,.inl ⟨_,rfl⟩,_,rfl,ifF (by rw [Jn9 hc.1 hc.2];rfl) ?_⟩
  refine ⟨_,rfl,_,rfl,_,0,c,rfl,.inl ⟨_,rfl⟩,_,rfl,ifF (by rw [Jn9 hg.1 hg.2];rfl) ?_⟩
  refine ⟨_,rfl,l,os,Bs,rfl,hl,bl,hn,nd,λH1 s1=>⟨_,rfl,Jjw ?_⟩⟩
  refine ⟨_,rfl,_,rfl,l,m,os,ts,Bs,Ts,rfl,s1 _ _ hl,bl.same s1,hn.2,s1 _ _ hm,tl.same s1,tn,tnd,inn,λH2 s2=>⟨_,rfl,Jjw ?_⟩⟩
  have s3:=s1.trans s2
  have hp2:=s3 _ _ hp
  refine ⟨_,rfl,_,rfl,p,_,dx,[],rfl,hp2,T.Jd5,T.Jdx,by simp,?_⟩
  rw [show Jl8 "cloud" (.int c) []=([("cloud",.int c)]:List (Str×V)) from rfl]
  refine ⟨_,rfl,_,rfl,p,_,dx,_,rfl,Sv,T.Jd5,T.Jdy,by simp,?_⟩
  rw [show Jl8 "gain" (.int g) [("cloud",.int c)]=([("cloud",.int c),("gain",.int g)]:List (Str×V)) from Jl9 (fs:=[("cloud",.int c)]) (show (["cloud"]:List Str).contains "gain" =false by decide +kernel),Jlv]
  have nl:l≠p:=λe=>by subst e;rw [hl] at hp;cases hp
  have nm:m≠p:=λe=>by subst e;rw [hm] at hp;cases hp
  refine ⟨_,rfl,l,_,rfl,.inl ⟨Sx.of (by rw [Jjc nl];exact s3 _ _ hl),λb hb=>?_⟩⟩
  have nb:b≠p:=λe=>by subst e;rw [Sv] at hb;cases hb
  rw [Jjc nb] at hb
  rw [Jvt nb.symm]
  refine ⟨_,rfl,p,_,dx,_,rfl,Sv,T.Jd5,T.Jdz,by simp,?_⟩
  rw [show Jl8 "basins" (.ref b) [("cloud",.int c),("gain",.int g)]=([("cloud",.int c),("gain",.int g),("basins",.ref b)]:List (Str×V)) from Jl9 (fs:=[("cloud",.int c),("gain",.int g)]) (show (["cloud","gain"]:List Str).contains "basins" =false by decide +kernel),Jlv]
  have s4:=s3.trans (Sn.upd (o:=.tup (os.map V.ref)) hb)
  refine ⟨_,rfl,m,_,rfl,.inl ⟨Sx.of (by rw [Jjc nm];exact s4 _ _ hm),λt ht=>?_⟩⟩
  have nt:t≠p:=λe=>by subst e;rw [Sv] at ht;cases ht
  rw [Jjc nt] at ht
  rw [Jvt nt.symm]
  refine ⟨_,rfl,p,_,dx,_,rfl,Sv,T.Jd5,T.Je0,by simp,?_⟩
  rw [show Jl8 "towns" (.ref t) [("cloud",.int c),("gain",.int g),("basins",.ref b)]=(Sj3 (.int c) (.int g) (.ref b) (.ref t)) from Jl9 (fs:=[("cloud",.int c),("gain",.int g),("basins",.ref b)]) (show (["cloud","gain","basins"]:List Str).contains "towns" =false by decide +kernel),Jlv]
  have s5:=Sn.upd (o:=.tup (ts.map V.ref)) ht
  exact k _ b t (s4.trans s5) (s5 _ _ Sv) Sv nb nt
def FIG:Str:="0123456789"
def Jl6 (z:Str):Bool:=decide (1<=z.length/\z.length<=6)&&Jme FIG z&&(decide (z=("0" :Str))||!decide (z.cps.toList[0]?=some 48))
def Jk9 (z:Str):Int:=(digitsVal z.cps.toList:Nat)
theorem Jy7 {c:Nat} (h:c∈FIG.cps.toList):48<=c/\c<=57:=by
 have e:FIG.cps.toList= [48,49,50,51,52,53,54,55,56,57]:=by decide +kernel
 rw [e] at h
 simp at h
 omega
theorem Jos {z:Str} (h:Jl6 z=true):1<=z.length/\z.length<=6/\Jme FIG z=true:=by
 unfold Jl6 at h
 simp only [yac,decide_eq_true_eq] at h
 exact ⟨h.1.1.1,h.1.1.2,h.1.2⟩
theorem Jr6 {z:Str} (h:Jme FIG z=true):AllDigits z.cps.toList:=λc hc=>Jy7 (by
 have:=yah.mp h c hc
 exact of_decide_eq_true this)
theorem Jw1 {z:Str} (h1:1<=z.length) (h2:z.length<=6) (h:Jme FIG z=true):PySem.intText? z=some (Jk9 z):=by
 refine intText_digits (Jr6 h) (λe=>?_) (by omega)
 have:z.length=z.cps.toList.length:=(yby).symm
 rw [e] at this
 simp at this
 omega
def nmS (i:Int):Str:=toString i
theorem Yae:∀n:Nat,n < 10->nmS n=⟨#[48+n]⟩:=by decide +kernel
theorem Yaf:∀n:Nat,n < 13->9 < n->nmS n=⟨#[48+n/10,48+n%10]⟩:=by decide +kernel
theorem Jze:∀(cs:List Nat) (b:Nat),b*10^cs.length<=cs.foldl (λacc c=>acc*10+(c - 48)) b:=by
 intro cs
 induction cs with
 |nil=>intro b;simp
 |cons c r ih=>
  intro b
  rw [List.foldl_cons,yad]
  refine yv ?_ (ih _)
  rw [Nat.pow_succ,Nat.mul_comm (10^r.length) 10,<-Nat.mul_assoc]
  exact Nat.mul_le_mul_right _ (Nat.le_add_right _ _)
theorem Jm3 {z:Str} (h:Jl6 z=true) (hn:Jk9 z<=12):z=nmS (Jk9 z):=by
 obtain ⟨h1,h2,h3⟩:=Jos h
 have dg:=Jr6 h3
 have hz:(decide (z=("0" :Str))||!decide (z.cps.toList[0]?=some 48))=true:=by
  unfold Jl6 at h
  rw [yac] at h
  exact h.2
 have lz:z.cps.toList.length=z.length:=yby
 have e0:("0" :Str)=⟨#[48]⟩:=by decide +kernel
 have ex:∀l:List Nat,z.cps.toList=l->z=⟨l.toArray⟩:=λl e=>Ybf (by rw [e])
 obtain ⟨n,en⟩:∃n:Nat,Jk9 z=n:=⟨_,rfl⟩
 have hv:digitsVal z.cps.toList=n:=Int.ofNat.inj en
 rw [en] at hn⊢
 have nz:∀c d r,z.cps.toList=c::d::r->c≠48:=λc d r hl e=>by
  rw [hl,e,decide_eq_false (λq=>by
   have:=congrArg (λs:Str=>s.cps.toList.length) q
   rw [hl,e0] at this
   simp at this)] at hz
  simp at hz
 unfold digitsVal at hv
 match hl:z.cps.toList with
 | []=>rw [hl] at lz;simp at lz;omega
 | [c]=>
  rw [hl] at hv
  have d:=dg c (by rw [hl];simp)
  have en:0*10+(c - 48)=n:=hv
  rw [ex _ hl,Yae n (by omega),show 48+n=c by omega]
 | [c,d]=>
  rw [hl] at hv
  have dc:=dg c (by rw [hl];simp)
  have dd:=dg d (by rw [hl];simp)
  have en:(0*10+(c - 48))*10+(d - 48)=n:=hv
  have c0:=nz c d [] hl
  rw [ex _ hl,Yaf n (by omega) (by omega),show 48+n/10=c by omega,show 48+n%10=d by omega]
 |c::d::e::r=>
  exfalso
  rw [hl] at hv
  have dc:=dg c (by rw [hl];simp)
  have c0:=nz c d _ hl
  have q:=Jze (e::r) ((0*10+(c - 48))*10+(d - 48))
  have p1:10<=10^(e::r).length:=by
   rw [yad,Nat.pow_succ]
   have:0 < 10^r.length:=Nat.pow_pos (by decide)
   omega
  have q2:10*10<=((0*10+(c - 48))*10+(d - 48))*10^(e::r).length:=Nat.mul_le_mul (by omega) p1
  have en:(e::r).foldl (λacc c=>acc*10+(c - 48)) ((0*10+(c - 48))*10+(d - 48))=n:=hv
  omega
def Jl2 (lo hi:Int) (z:Str):Bool:=Jl6 z&&(decide (lo<=Jk9 z)&&decide (Jk9 z<=hi))
theorem Jld {lo hi:Int} {z:Str} (h:Jl2 lo hi z=true):Jl6 z=true/\lo<=Jk9 z/\Jk9 z<=hi:=by
 unfold Jl2 at h
 simp only [yac,decide_eq_true_eq] at h
 exact h
def Yb4:Sp:=λvs H Q _=>∃z:Str,vs= [.str z]/\z.length<=2000/\∀H',Sn H H'->Q (.bl (Jl6 z)) H'
def Ye:Sp:=λvs H Q _=>∃(z:Str) (lo hi:Int),vs= [.str z,.int lo,.int hi]/\z.length<=2000/\∀H',Sn H H'->Q (if Jl2 lo hi z=true then .int (Jk9 z) else .non) H'
theorem Jvk:Jjh ["text"] ["text"] (Jje (top 18)):=⟨rfl,rfl,rfl,by decide +kernel,rfl,by decide +kernel,by decide +kernel⟩
theorem Jvd (T:Tx K mg a):Jjz P w K mg base CX0 2 a.Jf5 a.Jf6 ["text"] Yb4:=by
 have Scb:=Jpf (P:=P) (w:=w) (base:=base) T
 refine T.J9.fn.ok Jvk (λvs H Q E h=>?_) (λcdv A outer s H vs Q E hr h=>?_)
 ·obtain ⟨z,rfl,_⟩:=h
  rfl
 ·obtain ⟨z,rfl,hz,k⟩:=h
  refine ⟨_,(Jj9 (Jjv (PW.pt (Jot (Jkf (Jnw Jmg Jmg Sy (Jjk Jm5 (by rfl) T.Jav Jkh (So (pv 0) Ss)) (Jk6 (by rfl) T.Jaf (v:=.int 6) ⟨_,rfl⟩))) (Jnn (Jkf (Jkg (Jjd T.J7 Scb hr (by decide) (So (pv 0) (So (Jk6 (by rfl) T.Jad (v:=.str "0123456789") ⟨_,rfl⟩) Ss)))))))) (Jjb (Jji Jn6)) Jjm)
   (Jjb (Jji (Sox (Jkt Jkv (pv 0) Jjg (Jjp _)) (Jor (Jkt Sjs (Jk5 Ju4 (pv 0) Sy (λ_ _=>rfl)) Jjg (Jjp _))))))),?_⟩
  refine ⟨_,rfl,z,rfl,Jjx _ hz,_,_,rfl,rfl,_,rfl,?_⟩
  have no:∀{H':Hp},Sn H H'->Jl6 z=false->Q (.bl false) H':=λ{H'} s' e=>by
   have k':=k H' s'
   rw [e] at k'
   exact k'
  by_cases h1:(1:Int)<=(z.length:Int)
  ·rw [decide_eq_true h1]
   refine Jkb ⟨_,_,rfl,rfl,_,rfl,?_⟩
   by_cases h2:(z.length:Int)<=6
   ·rw [decide_eq_true h2]
    refine Jjw ⟨_,rfl,z,_,rfl,hz,λH' s'=>⟨_,rfl,?_⟩⟩
    have eb:decide (1<=z.length/\z.length<=6)=true:=decide_eq_true (by omega)
    cases e:Jme FIG z with
    |false=>
     have e':Jme "0123456789" z=false:=e
     rw [e']
     refine Jkb (no s' ?_)
     unfold Jl6
     rw [e,Bool.and_false,yao]
    |true=>
     have e':Jme "0123456789" z=true:=e
     rw [e']
     refine Jjw ⟨_,rfl,rfl,_,rfl,?_⟩
     have ep:Jl6 z=(decide (z=("0" :Str))||!decide (z.cps.toList[0]?=some 48)):=by
      unfold Jl6
      rw [eb,e,Bool.and_true,yaw]
     have k':=k H' s'
     by_cases hz0:z=("0" :Str)
     ·rw [decide_eq_true (congrArg V.str hz0:V.str z=V.str "0")]
      refine Jkb ?_
      rw [ep,decide_eq_true hz0,Bool.true_or] at k'
      exact k'
     ·rw [decide_eq_false (λq=>hz0 (V.str.inj q):¬V.str z=V.str "0")]
      have hl:0 < z.cps.toList.length:=by rw [Jlc];omega
      refine Jjw ⟨_,rfl,z,0,z.cps.toList[0],rfl,rfl,Jjx _ hz,Jl7 (j:=0) (yi hl),rfl,?_⟩
      rw [ep,decide_eq_false hz0,Bool.false_or] at k'
      have e1:decide (V.str (⟨#[z.cps.toList[0]]⟩:Str)=V.str "0")=decide (z.cps.toList[0]?=some 48):=by
       rw [yi hl]
       have e0:("0" :Str)=⟨#[48]⟩:=by decide +kernel
       rw [e0]
       by_cases q:z.cps.toList[0]=48
       ·rw [q];simp
       ·rw [decide_eq_false (λr=>q (by simpa using r)),decide_eq_false (λr=>q (by simpa using r))]
      rw [e1]
      exact k'
   ·rw [decide_eq_false h2]
    refine Jkb (no (Sn.refl H) ?_)
    unfold Jl6
    rw [decide_eq_false (by omega:¬(1<=z.length/\z.length<=6)),yao,yao]
  ·rw [decide_eq_false h1]
   refine Jjw ⟨_,rfl,Jkb (no (Sn.refl H) ?_)⟩
   unfold Jl6
   rw [decide_eq_false (by omega:¬(1<=z.length/\z.length<=6)),yao,yao]
theorem Sdl:Jjh ["text","low","high","number"] ["text","low","high"] (Jje (top 19)):=⟨rfl,rfl,rfl,by decide +kernel,rfl,by decide +kernel,by decide +kernel⟩
theorem Jug (T:Tx K mg a):Jjz P w K mg base CX0 3 a.Jf7 a.Jf8 ["text","low","high"] Ye:=by
 have Sgd:=Jvd (P:=P) (w:=w) (base:=base) T
 refine T.Ja.fn.ok Sdl (λvs H Q E h=>?_) (λcdv A outer s H vs Q E hr h=>?_)
 ·obtain ⟨z,lo,hi,rfl,_⟩:=h
  rfl
 ·obtain ⟨z,lo,hi,rfl,hz,k⟩:=h
  refine ⟨_,(Jj9 (Jjv (PW.pt (Jot (Jkf (Jkg (Jjk Jlw (by rfl) T.Jau Jk0 (So (pv 0) (So (Jlu (v:=.ty "str") (by rfl) T.Jb1 Jni rfl) Ss))))) (Jnn (Jkf (Jkg (Jjd T.J9 Sgd hr (by decide) (So (pv 0) Ss))))))) (Jjb (Jji Jm7)) Jjm)
   (Jj9 (Jjl (i:=3) Sdl.nd rfl (yf rfl) (Jkd Jmx (by rfl) T.Jat Joe (So (pv 0) Ss)))
   (Jjb (Jji (Y3 (Jnw Jmg Jmg (pv 1) (pv 3) (pv 2)) (pv 3) Jm7))))),?_⟩
  refine ⟨_,rfl,_,_,_,_,_,rfl,rfl,.of (.str _),rfl,_,rfl,Jjw ⟨_,rfl,z,rfl,hz,λH' s'=>⟨_,rfl,?_⟩⟩⟩
  have k':=k H' s'
  unfold Jl2 at k'
  cases e:Jl6 z with
  |false=>
   rw [e] at k'
   exact Jkb k'
  |true=>
   rw [e,yaw] at k'
   obtain ⟨p1,p2,p3⟩:=Jos e
   refine Jjw ⟨_,rfl,z,Jk9 z,rfl,Jw1 p1 p2 p3,by omega,?_⟩
   refine ⟨_,rfl,_,rfl,_,_,rfl,rfl,_,rfl,?_⟩
   by_cases h1:lo<=Jk9 z
   ·rw [decide_eq_true h1] at k'⊢
    refine Jkb ⟨_,rfl,_,_,rfl,rfl,_,rfl,?_⟩
    by_cases h2:Jk9 z<=hi
    ·rw [decide_eq_true h2] at k'⊢
     exact Jkb ⟨_,rfl,k'⟩
    ·rw [decide_eq_false h2] at k'⊢
     exact Jjw k'
   ·rw [decide_eq_false h1] at k'⊢
    exact Jjw ⟨_,rfl,Jjw k'⟩
def CLD:Str:="cloud"
def BAS:Str:="basin"
def TWN:Str:="town"
def SRT:List Str:=["step","flap","part"]
def nms (x:Str) (wss:List (List Str)):List Str:=wss.filterMap λws=>if ws[0]?=some x then ws[1]? else none
def firsts (bn tn:List Str):List Str:=(if bn.length < 16/\tn.length=0 then [BAS] else [])++(if 0 < bn.length/\tn.length < 3 then [TWN] else [])
def vw (ws:List Str) (k:Nat):Int:=Jk9 (ws.getD k "")
def Sph (bn ws:List Str) (z:Str):Nat->Bool
 |1=>Jlj z&&decide (z∉bn)
 |2=>Jl2 0 12 z
 |3=>Jl2 (vw ws 2) 12 z
 |4=>Jl2 (vw ws 2) (vw ws 3) z
 |5=>Jl2 0 6 z
 |6=>decide (z∈SRT)
 |7=>Jl2 (Jna (ws.getD 6 "")) 12 z
 |8=>Jl2 (vw ws 7+1) 12 z
 |9=>Jl2 (vw ws 8+1) 12 z
 |10=>Jl2 (vw ws 9+1) 12 z
 |_=>false
def Spi (bn tn:List Str) (z:Str):Nat->Bool
 |1=>Jlj z&&decide (z∉tn)
 |2=>decide (z∈bn)
 |3=>Jl2 1 6 z
 |_=>false
def Smb (ws:List Str) (z:Str):Nat->Bool
 |1=>Jl2 0 12 z
 |2=>Jl2 0 (vw ws 1) z
 |_=>false
def Jnd (nx bn tn ws:List Str) (k:Nat):Bool:=
 match ws[k]? with
 |none=>false
 |some z=>if k=0 then decide (z∈nx) else if ws[0]?=some CLD then Smb ws z k else if ws[0]?=some TWN then Spi bn tn z k else Sph bn ws z k
def Jp8 (ws:List Str):Nat:=if ws[0]?=some CLD then 3 else if ws[0]?=some TWN then 4 else 8
def Srm (std:Nat->Bool) (ws:List Str) (e:Nat):Prop:=(e < ws.length/\std e=false)\/(e=ws.length/\e < Jp8 ws)
def Jvx (std:Nat->Bool) (ws:List Str) (e:Nat):Prop:=(∀j,j < e->std j=true)/\Srm std ws e
def Jt6 (std:Nat->Bool) (ws:List Str):Prop:=(∀j,j < ws.length->std j=true)/\Jp8 ws<=ws.length
theorem Jx8 {std:Nat->Bool} {ws:List Str} {e e':Nat} (h:Jvx std ws e) (h':Jvx std ws e'):¬e < e':=λl=>by
 have t:=h'.1 e l
 rcases h.2 with ⟨_,q⟩|⟨q,_⟩
 ·rw [q] at t;cases t
 ·rcases h'.2 with ⟨q',_⟩|⟨q',_⟩ <;> omega
theorem Jzf {std:Nat->Bool} {ws:List Str} {e:Nat} (h:Jvx std ws e) (g:Jt6 std ws):False:=by
 rcases h.2 with ⟨l,q⟩|⟨q,l⟩
 ·rw [g.1 e l] at q;cases q
 ·have:=g.2;omega
def nxt (wss:List (List Str)) (i:Nat):List Str:=if i=0 then [CLD] else firsts (nms BAS (wss.take i)) (nms TWN (wss.take i))
def Jr4 (wss:List (List Str)) (i:Nat) (ws:List Str):Nat->Bool:=Jnd (nxt wss i) (nms BAS (wss.take i)) (nms TWN (wss.take i)) ws
def gdL (wss:List (List Str)) (i:Nat):Prop:=∃ws,wss[i]?=some ws/\Jt6 (Jr4 wss i ws) ws
def Res (wss:List (List Str)):Option (Nat×Nat)->Prop
 |none=>(∀i,i < wss.length->gdL wss i)/\nms BAS wss≠ []
 |some (i,e)=>(∀j,j < i->gdL wss j)/\((i=wss.length/\e=0/\nms BAS wss= [])\/∃ws,wss[i]?=some ws/\Jvx (Jr4 wss i ws) ws e)
theorem Jwm {wss:List (List Str)} {i e:Nat} (h:Res wss (some (i,e))) (g:gdL wss i):False:=by
 obtain ⟨ws,hw,g⟩:=g
 rcases h.2 with ⟨q,_⟩|⟨ws',hw',f⟩
 ·rw [q,yck (yg _)] at hw;cases hw
 ·rw [hw] at hw'
  cases hw'
  exact Jzf f g
theorem Jrm {wss:List (List Str)} {r r':Option (Nat×Nat)} (h:Res wss r) (h':Res wss r'):r=r':=by
 have no:∀{i e:Nat},Res wss (some (i,e))->Res wss none->False:=λ{i e} h h'=>by
  rcases ybh i wss.length with l|l
  ·exact Jwm h (h'.1 i l)
  ·rcases h.2 with ⟨_,_,q⟩|⟨ws',hw',f⟩
   ·exact h'.2 q
   ·have:=(yz.mp hw').1;omega
 match r,r',h,h' with
 |none,none,_,_=>rfl
 |none,some (i,e),h,h'=>exact (no h' h).elim
 |some (i,e),none,h,h'=>exact (no h h').elim
 |some (i,e),some (i',e'),h,h'=>
  have hi:i=i':=by
   rcases Nat.lt_trichotomy i i' with l|l|l
   ·exact (Jwm h (h'.1 i l)).elim
   ·exact l
   ·exact (Jwm h' (h.1 i' l)).elim
  subst hi
  have he:e=e':=by
   rcases h.2 with ⟨q,e0,_⟩|⟨ws,hw,f⟩
   ·rcases h'.2 with ⟨_,e0',_⟩|⟨ws',hw',_⟩
    ·omega
    ·have:=(yz.mp hw').1;omega
   ·rcases h'.2 with ⟨q,_⟩|⟨ws',hw',f'⟩
    ·have:=(yz.mp hw).1;omega
    ·rw [hw] at hw'
     cases hw'
     have:=Jx8 f f'
     have:=Jx8 f' f
     omega
  rw [he]
theorem Jvb (x:Str) (wss:List (List Str)) (ws:List Str):nms x (wss++ [ws])=nms x wss++(if ws[0]?=some x then ws[1]?.toList else []):=by
 unfold nms
 rw [List.filterMap_append]
 congr 1
 by_cases h:ws[0]?=some x
 ·rw [if_pos h]
  simp only [ybk,List.filterMap_nil]
  rw [if_pos h]
  cases ws[1]? <;> rfl
 ·rw [if_neg h]
  simp only [ybk,List.filterMap_nil]
  rw [if_neg h]
def Btr (r:S5) (H H':Hp):Prop:=∀b o,b≠r->H b=some o->H' b=some o
theorem Btr.of {r:S5} {H H':Hp} (s:Sn H H'):Btr r H H':=λ_ _ _ e=>s _ _ e
theorem Btr.trans {r:S5} {H H' H'':Hp} (s:Btr r H H') (s':Btr r H' H''):Btr r H H'':=λb o n e=>s' b o n (s b o n e)
theorem Btr.put {r:S5} {H H':Hp} {o:HO} (s:Btr r H H'):Btr r H (upd H' r o):=λb o' n e=>by rw [Jjc n];exact s b o' n e
theorem Btr.rest {H H':Hp} {r:S5} (hr:H r=none) (c:Btr r H H'):Sn H H':=λb o e=>c b o (λz=>by rw [z,hr] at e;cases e) e
def rdF (l:Int) (k:Int) (P:S5):List (Str×V):=[("line",.int l),("place",.int k),("parts",.ref P)]
def WdL (ws:List Str):Prop:=ws≠ []/\ws.length<=2000/\∀z∈ws,Wd 1990 z
def Saz (a:Ad) (H:Hp) (r:S5) (l k:Nat) (ws:List Str):Prop:=∃(dx P:S5),H r=some (.ins a.Jiz dx (rdF l k P))/\H P=some (.lst (ws.map V.str))/\WdL ws/\k<=ws.length
theorem Saz.same {a:Ad} {H H':Hp} {r:S5} {l k:Nat} {ws:List Str} (s:Sn H H') (h:Saz a H r l k ws):Saz a H' r l k ws:=by
 obtain ⟨dx,P,h1,h2,h3⟩:=h
 exact ⟨dx,P,s _ _ h1,s _ _ h2,h3⟩
def NTx (a:Ad) (H:Hp) (e:S5) (l k:Nat):Prop:=∃dx,H e=some (XO e a.Jir (some dx) false)/\H dx=some (XD dx [("line",.int l),("place",.int k)])
def TkR (a:Ad) (r:S5) (l k:Nat) (ws:List Str) (g:Str->Bool) (mk:Str->V) (H:Hp) (Q:VK) (E:XK):Prop:=
 (∀z H',ws[k]?=some z->g z=true->Btr r H H'->Saz a H' r l (k+1) ws->Q (mk z) H')/\((∀z,ws[k]?=some z->g z=false)->∀e H',Btr r H H'->NTx a H' e l k->E (.ref a.Jir) (some e) H')
def NoE (a:Ad) (r:S5) (l:Nat) (ws:List Str) (std:Nat->Bool) (H:Hp) (E:XK):Prop:=∀k e H',Jvx std ws k->Btr r H H'->NTx a H' e l k->E (.ref a.Jir) (some e) H'
theorem NoE.on {a:Ad} {r:S5} {l:Nat} {ws:List Str} {std:Nat->Bool} {H H1:Hp} {E:XK} (h:NoE a r l ws std H E) (c:Btr r H H1):NoE a r l ws std H1 E:=λk e H' f c' n=>h k e H' f (c.trans c') n
theorem Jma {a:Ad} {r:S5} {l k:Nat} {ws:List Str} {g:Str->Bool} {mk:Str->V} {H:Hp} {Q:VK} {E:XK} {std:Nat->Bool} (hs:∀z,ws[k]?=some z->std k=g z) (prev:∀j,j < k->std j=true) (hk:k < Jp8 ws) (hl:k<=ws.length) (no:NoE a r l ws std H E)
  (ok:∀z H',ws[k]?=some z->g z=true->(∀j,j < k+1->std j=true)->Btr r H H'->Saz a H' r l (k+1) ws->Q (mk z) H'):TkR a r l k ws g mk H Q E:=by
 refine ⟨λz H' hz hg c rd=>ok z H' hz hg (λj hj=>?_) c rd,λhn e H' c n=>no k e H' ⟨prev,?_⟩ c n⟩
 ·rcases ybh j k with q|q
  ·exact prev j q
  ·rw [show j=k by omega,hs z hz,hg]
 ·rcases ybh k ws.length with q|q
  ·have hz:=yi q
   exact .inl ⟨q,by rw [hs _ hz];exact hn _ hz⟩
  ·exact .inr ⟨by omega,hk⟩
def SPC:Str:=" "
theorem Jr3:SPC=⟨#[32]⟩:=by decide +kernel
def NLN:Str:="\n"
theorem Jpj:NLN=⟨#[10]⟩:=by decide +kernel
theorem Jng (s:Str) (ws:List Str):Txt.join s ws=Str.join s ws:=StrLaws.glued_eq_join _ _
theorem Ya7 {c x:Nat}:∀(ws:List Str) (w:Str),w∈ws->x∈w.cps.toList->x∈(Str.join ⟨#[c]⟩ ws).cps.toList:=by
 intro ws
 induction ws with
 |nil=>intro w h;cases h
 |cons b ws ih=>
  intro w hw hx
  cases ws with
  |nil=>
   cases hw with
   |head=>exact hx
   |tail _ h=>cases h
  |cons d ws=>
   rw [Jof]
   cases hw with
   |head=>exact ybx _ hx
   |tail _ h=>exact yax _ (yan _ (ih w h hx))
theorem Jzm {c:Nat}:∀(ws:List Str) (w:Str),w∈ws->w.length<=(Str.join ⟨#[c]⟩ ws).length:=by
 intro ws
 induction ws with
 |nil=>intro w h;cases h
 |cons b ws ih=>
  intro w hw
  cases ws with
  |nil=>
   cases hw with
   |head=>exact yg _
   |tail _ h=>cases h
  |cons d ws=>
   rw [<-Jlc (Str.join _ _),Jof,yq,yad,Jlc,Jlc]
   cases hw with
   |head=>omega
   |tail _ h=>have:=ih w h;omega
theorem Jn8 {z:Str} {c:Nat} (h:Wd 1990 z):WdL (Txt.split z ⟨#[c]⟩):=by
 have e:Str.join ⟨#[c]⟩ (Txt.split z ⟨#[c]⟩)=z:=StrLaws.join_split ..
 refine ⟨λq=>?_,?_,λw hw=>⟨?_,λx hx=>h.low x ?_⟩⟩
 ·have:=split_pos z ⟨#[c]⟩
  rw [q] at this
  cases this
 ·have:=split_le z ⟨#[c]⟩
  have:=h.len
  omega
 ·have q:=Jzm (c:=c) _ w hw
  rw [e] at q
  have:=h.len
  omega
 ·have q:=Ya7 (c:=c) _ w hw hx
  rw [e] at q
  exact q
def Spa (a:Ad):Sp:=λvs H Q _=>∃(r:S5) (l k:Nat) (ws:List Str),vs= [.ref r]/\Saz a H r l k ws/\Q (.bl (decide (k=ws.length))) H
def Jvp (a:Ad):Sp:=λvs H Q _=>∃(r dx:S5) (l:Nat) (z:Str),vs= [.ref r,.int l,.str z]/\H r=some (.ins a.Jiz dx [])/\Wd 1990 z/\∀H',Btr r H H'->Saz a H' r l 0 (Txt.split z SPC)->Q .non H'
theorem Jpt:Jjh ["self","line","place"] ["self","line","place"] (Jje (Jjj (top 9) 0)):=⟨rfl,rfl,rfl,by decide +kernel,rfl,by decide +kernel,by decide +kernel⟩
theorem Jn5 (T:Tx K mg a):Jjz P w K mg base CX0 1 a.Jex a.Jey ["self","line","place"] (Yb K "line" "place"):=by
 refine T.Jby.fn.ok Jpt (λvs H Q E h=>?_) (λcdv A outer s H vs Q E hr h=>?_)
 ·obtain ⟨e,C,W,fI,y,z,rfl,_⟩:=h
  rfl
 ·obtain ⟨e,C,W,fI,y,z,rfl,q,c,n1,n2,k⟩:=h
  refine ⟨_,(Jj9 (Jo5 (pv 0) (pv 1) rfl)
   (Jjb (Yap (pv 0) (pv 2) rfl))),?_⟩
  refine ⟨_,rfl,_,rfl,e,C,W,fI,true,rfl,q,c,n1,λdx h1 h2=>?_⟩
  refine ⟨_,rfl,_,rfl,e,C,W,fI,dx,_,true,rfl,Sv,by rw [Jjc h2,Sv],c,n2,by simp,?_⟩
  have zz:=k dx h1 h2
  have e2:upd (upd (upd H dx (XD dx [("line",y)])) e (XO e C (some dx) true)) dx (XD dx (Jl8 "place" z [("line",y)]))=upd (upd H dx (XD dx (Jl8 "place" z [("line",y)]))) e (XO e C (some dx) true):=by
   funext b
   unfold upd
   by_cases h3:b=dx
   ·subst h3
    simp [h2]
   ·simp [h3]
  show Q .non _
  rw [e2]
  exact zz
theorem Jou (T:Tx K mg a) {H:Hp} {l k:Int} {R:XK} (h:∀e dx H',Sn H H'->H' e=some (XO e a.Jir (some dx) false)->H' dx=some (XD dx [("line",.int l),("place",.int k)])->R (.ref a.Jir) (some e) H'):
  [V.int l,.int k].length<=1000/\∀e,H e=none->Yb K "line" "place" (.ref e:: [.int l,.int k]) (upd H e (XO e a.Jir none true)) (λv H2=>v= .non/\∃e' C W fI dx,V.ref e= .ref e'/\H2 e'=some (XO e' C (some dx) true)/\Sag K C W fI/\R (.ref C) (some e') (upd H2 e' (XO e' C (some dx) false))) E0:=by
 refine ⟨(show 2<=1000 by decide),λe he=>⟨e,_,_,_,_,_,rfl,Sv,T.Jcl,T.Jdj,T.Jdk,λdx h1 h2=>⟨rfl,e,_,_,_,dx,rfl,Sv,T.Jcl,?_⟩⟩⟩
 have hd:H dx=none:=by rw [Jjc h2] at h1;exact h1
 refine h e dx _ (λb o z=>?_) Sv (by rw [Jjc h2,Jjc h2,Sv];rfl)
 have nb:b≠e:=Jjf z he
 rw [Jjc nb,Jjc nb,Jjc (Jjf z hd),Jjc nb]
 exact z
theorem Jow:Jjh ["self"] ["self"] (Jje (Jjj (top 50) 1)):=⟨rfl,rfl,rfl,by decide +kernel,rfl,by decide +kernel,by decide +kernel⟩
theorem Jln (T:Tx K mg a):Jjz P w K mg base CX0 1 a.Jgf a.Jgg ["self"] (Spa a):=by
 refine T.Jc9.fn.ok Jow (λvs H Q E h=>?_) (λcdv A outer s H vs Q E hr h=>?_)
 ·obtain ⟨r,l,k,ws,rfl,_⟩:=h
  rfl
 ·obtain ⟨r,l,k,ws,rfl,⟨dx,P,h1,h2,h3⟩,q⟩:=h
  refine ⟨_,(Jjb (Jji (Jkt Jkv (Jkq (pv 0) (by rfl)) (Jjk Jjq (by rfl) T.Jav Jkh (So (Jkq (pv 0) (by rfl)) Ss)) (Jjp _)))),?_⟩
  refine ⟨_,rfl,r,_,dx,_,_,rfl,h1,T.Jd7,T.Je2,rfl,_,rfl,r,_,dx,_,_,rfl,h1,T.Jd7,T.Je3,rfl,P,_,rfl,.inl (Sx.of h2),rfl,?_⟩
  have e:decide (V.int (k:Int)=V.int (((ws.map V.str).length:Nat):Int))=decide (k=ws.length):=by
   rw [ye]
   by_cases c:k=ws.length
   ·rw [c];simp
   ·rw [decide_eq_false c,decide_eq_false (λz=>c (by have:=V.int.inj z;omega))]
  rw [e]
  exact q
theorem Jo6:Jjh ["self","line","row"] ["self","line","row"] (Jje (Jjj (top 50) 0)):=⟨rfl,rfl,rfl,by decide +kernel,rfl,by decide +kernel,by decide +kernel⟩
theorem Jpk (T:Tx K mg a):Jjz P w K mg base CX0 1 a.Jgd a.Jge ["self","line","row"] (Jvp a):=by
 refine T.Jc8.fn.ok Jo6 (λvs H Q E h=>?_) (λcdv A outer s H vs Q E hr h=>?_)
 ·obtain ⟨r,dx,l,z,rfl,_⟩:=h
  rfl
 ·obtain ⟨r,dx,l,z,rfl,hr0,hz,k⟩:=h
  have wd:WdL (Txt.split z SPC):=by rw [Jr3];exact Jn8 hz
  refine ⟨_,(Jj9 (Jle (pv 0) (pv 1) rfl)
   (Jj9 (Jle (pv 0) Sy rfl)
   (Jjb (Jle (pv 0) (Jll F.plainAttrs_str F.slot_str_split F.type_str_split Jq2 (pv 2) (So Jjg Ss)) rfl)))),?_⟩
  refine ⟨_,rfl,_,rfl,r,_,dx,[],rfl,hr0,T.Jd7,T.Je1,by simp,?_⟩
  rw [show Jl8 "line" (V.int l) []=([("line",V.int l)]:List (Str×V)) from rfl]
  refine ⟨_,rfl,r,_,dx,_,rfl,Sv,T.Jd7,T.Je2,by simp,?_⟩
  rw [show Jl8 "place" (V.int 0) [("line",V.int l)]=([("line",V.int l),("place",V.int 0)]:List (Str×V)) from Jl9 (fs:=[("line",V.int l)]) (show (["line"]:List Str).contains "place" =false by decide +kernel),Jlv]
  refine ⟨_,rfl,rfl,_,SPC,rfl,rfl,by decide +kernel,yv hz.len (by decide),λD hD=>?_⟩
  have nD:D≠r:=λz=>by rw [z,Sv] at hD;cases hD
  refine ⟨_,rfl,r,_,dx,_,rfl,(by rw [Jjc (yh nD)];exact Sv),T.Jd7,T.Je3,by simp,?_⟩
  rw [show Jl8 "parts" (V.ref D) [("line",V.int l),("place",V.int 0)]=rdF l (0:Nat) D from Jl9 (fs:=[("line",V.int l),("place",V.int 0)]) (show (["line","place"]:List Str).contains "parts" =false by decide +kernel)]
  refine k _ (λb o n e=>?_) ⟨dx,D,Sv,by rw [Jjc nD];exact Sv,wd,yak _⟩
  have nb:b≠D:=λz=>by rw [z] at e;rw [Jjc nD] at hD;rw [e] at hD;cases hD
  rw [Jjc n,Jjc nb,Jjc n]
  exact e
abbrev lb_LineReader_take_of:Array (Nat×Nat×Str):=#[((Jn4 (Jmf (Jjj (top 50) 3))).line,(Jn4 (Jmf (Jjj (top 50) 3))).col,"LineReader.take_of.<locals>.<lambda>")]
abbrev lb_LineReader_take_new_name:Array (Nat×Nat×Str):=#[((Jn4 (Jmf (Jjj (top 50) 4))).line,(Jn4 (Jmf (Jjj (top 50) 4))).col,"LineReader.take_new_name.<locals>.<lambda>")]
abbrev lb_LineReader_take_number:Array (Nat×Nat×Str):=#[((Jn4 (Jmf (Jjj (top 50) 5))).line,(Jn4 (Jmf (Jjj (top 50) 5))).col,"LineReader.take_number.<locals>.<lambda>")]
theorem Jp2 (z:Str) (zs:List Str):inV (.str z) (zs.map V.str)=decide (z∈zs):=by
 unfold inV
 by_cases h:z∈zs
 ·rw [decide_eq_true h,List.any_eq_true]
  exact ⟨_,List.mem_map_of_mem h,by simp [eqV]⟩
 ·rw [decide_eq_false h,List.any_eq_false]
  intro x hx
  obtain ⟨y,hy,rfl⟩:=yal.mp hx
  simp only [eqV,beq_iff_eq]
  exact λe=>h (e▸hy)
theorem Jn0 (zs:List Str):(zs.map V.str).all Joa=true:=by
 rw [yah]
 intro x hx
 obtain ⟨y,_,rfl⟩:=yal.mp hx
 rfl
theorem Yay {K:Si} {H H':Hp} {A:S5} {xs:List V} (s:Sn H H') (h:SqT K H A xs):SqT K H' A xs:=by
 rcases h with (h|⟨o,h⟩)|h
 ·exact .inl (.inl (s _ _ h))
 ·exact .inl (.inr ⟨o,s _ _ h⟩)
 ·exact .inr h
def Jwd (zs:List Str) (z:Str):Bool:=Jlj z&&decide (z∉zs)
def Spb (K:Si):List V->Sp:=λcs vs H Q _=>∃(A:S5) (zs:List Str) (z:Str),cs= [.ref A]/\vs= [.str z]/\(Sx K H A (zs.map V.str)\/SqT K H A (zs.map V.str))/\∀H',Sn H H'->Q (.bl (decide (z∈zs))) H'
def Spc (K:Si):List V->Sp:=λcs vs H Q _=>∃(A:S5) (zs:List Str) (z:Str),cs= [.ref A]/\vs= [.str z]/\Sx K H A (zs.map V.str)/\Wd 2000 z/\∀H',Sn H H'->Q (.bl (Jwd zs z)) H'
def Spd:List V->Sp:=λcs vs H Q _=>∃(lo hi:Int) (z:Str),cs= [.int lo,.int hi]/\vs= [.str z]/\z.length<=2000/\∀H',Sn H H'->Q (.bl (Jl2 lo hi z)) H'
def Sjz (K:Si) (f:S5):Sp:=λvs H Q E=>Jra "LineReader.take_of.<locals>.<lambda>" (Jmf (Jjj (top 50) 3)) ["allowed"] (Spb K) f vs H Q E\/(Jra "LineReader.take_new_name.<locals>.<lambda>" (Jmf (Jjj (top 50) 4)) ["names"] (Spc K) f vs H Q E\/Jra "LineReader.take_number.<locals>.<lambda>" (Jmf (Jjj (top 50) 5)) ["low","high"] Spd f vs H Q E)
def Suv (K:Si) (a:Ad):Sp:=λvs H Q E=>∃(r f:S5) (l k:Nat) (ws:List Str) (g:Str->Bool),vs= [.ref r,.ref f]/\Saz a H r l k ws/\(∀z,ws[k]?=some z->∀Q',(∀H',Sn H H'->Q' (.bl (g z)) H')->Sjz K f [.str z] H Q' E0)/\TkR a r l k ws g V.str H Q E
theorem Jnc:Jnp ["part","allowed"] ["part"] ["allowed"] (Jk1 (Jmf (Jjj (top 50) 3))):=⟨rfl,rfl,rfl,by decide +kernel,rfl,by decide +kernel,by decide +kernel,by decide +kernel⟩
theorem Jzv (T:Tx K mg a) (f:S5):Sc1 P w K mg base CX0 3 f (Jra "LineReader.take_of.<locals>.<lambda>" (Jmf (Jjj (top 50) 3)) ["allowed"] (Spb K) f):=by
 refine Ju5 Jnc (λ_ _ _ _ us hl=>by obtain ⟨_,rfl⟩:=lv1 us hl;rfl) (λcs vs H Q E h=>?_) (λf c clos A outer s H vs cs Q E hr h=>?_) f
 ·obtain ⟨A,zs,z,rfl,rfl,_⟩:=h
  exact ⟨rfl,rfl⟩
 ·obtain ⟨A,zs,z,rfl,rfl,hA,k⟩:=h
  refine ⟨_,(Jkt Jnu (pv 0) (pv 1) (by with_unfolding_all rfl)),?_⟩
  refine ⟨_,rfl,_,rfl,A,_,rfl,hA,rfl,Jn0 zs,?_⟩
  rw [if_neg yw,Jp2]
  exact k H (Sn.refl H)
theorem Jmc:Jnp ["part","names"] ["part"] ["names"] (Jk1 (Jmf (Jjj (top 50) 4))):=⟨rfl,rfl,rfl,by decide +kernel,rfl,by decide +kernel,by decide +kernel,by decide +kernel⟩
theorem Jzw (T:Tx K mg a) (f:S5):Sc1 P w K mg base CX0 3 f (Jra "LineReader.take_new_name.<locals>.<lambda>" (Jmf (Jjj (top 50) 4)) ["names"] (Spc K) f):=by
 have Sbu:=Jpl (P:=P) (w:=w) (base:=base) T
 refine Ju5 Jmc (λ_ _ _ _ us hl=>by obtain ⟨_,rfl⟩:=lv1 us hl;rfl) (λcs vs H Q E h=>?_) (λf c clos A outer s H vs cs Q E hr h=>?_) f
 ·obtain ⟨A,zs,z,rfl,rfl,_⟩:=h
  exact ⟨rfl,rfl⟩
 ·obtain ⟨A,zs,z,rfl,rfl,hA,wd,k⟩:=h
  refine ⟨_,(Jr1 (Jjd T.J8 Sbu hr (by decide) (So (pv 0) Ss)) (Jor (Jkt Jq6 (pv 0) (pv 1) (by with_unfolding_all rfl)))),?_⟩
  unfold Jwd at k
  refine ⟨_,rfl,.str z,rfl,⟨.inr ⟨_,.of (.str z),rfl⟩,λy e=>by cases e;exact wd⟩,λH1 s1=>?_⟩
  have k1:=k H1 s1
  refine ⟨_,rfl,Jlx (λc=>?_) (λc=>?_)⟩
  ·have nz:Jlj z=true:=c
   rw [nz,yaw] at k1
   refine ⟨_,rfl,_,rfl,A,_,rfl,.inl (s1.seq hA),rfl,Jn0 zs,?_⟩
   rw [if_pos rfl,Jp2]
   simpa using k1
  ·have nz:Jlj z=false:=Bool.eq_false_iff.mpr c
   rw [nz,yao] at k1
   exact k1
theorem Jmp:Jnp ["part","low","high"] ["part"] ["low","high"] (Jk1 (Jmf (Jjj (top 50) 5))):=⟨rfl,rfl,rfl,by decide +kernel,rfl,by decide +kernel,by decide +kernel,by decide +kernel⟩
theorem Jzx (T:Tx K mg a) (f:S5):Sc1 P w K mg base CX0 4 f (Jra "LineReader.take_number.<locals>.<lambda>" (Jmf (Jjj (top 50) 5)) ["low","high"] Spd f):=by
 have Sg1:=Jug (P:=P) (w:=w) (base:=base) T
 refine Ju5 Jmp (λ_ _ _ _ us hl=>by obtain ⟨_,rfl⟩:=lv1 us hl;rfl) (λcs vs H Q E h=>?_) (λf c clos A outer s H vs cs Q E hr h=>?_) f
 ·obtain ⟨lo,hi,z,rfl,rfl,_⟩:=h
  exact ⟨rfl,rfl⟩
 ·obtain ⟨lo,hi,z,rfl,rfl,hz,k⟩:=h
  refine ⟨_,(Jkt Jul (Jjd T.Ja Sg1 hr (by decide) (So (pv 0) (So (pv 1) (So (pv 2) Ss)))) Jm7 (Jjp _)),?_⟩
  refine ⟨_,rfl,_,rfl,_,rfl,z,lo,hi,rfl,hz,λH1 s1=>⟨rfl,?_⟩⟩
  have k1:=k H1 s1
  cases e:Jl2 lo hi z with
  |true=>rw [e] at k1;exact k1
  |false=>rw [e] at k1;exact k1
theorem Slj (T:Tx K mg a) (f:S5):Sc1 P w K mg base CX0 4 f (Sjz K f):=((Jzv T f).mono (by decide)).or (((Jzw T f).mono (by decide)).or (Jzx T f))
theorem Jpq:Jjh ["self","can_stand"] ["self","can_stand"] (Jje (Jjj (top 50) 2)):=⟨rfl,rfl,rfl,by decide +kernel,rfl,by decide +kernel,by decide +kernel⟩
theorem Jm0 (T:Tx K mg a):Jjz P w K mg base (CXX P w) 5 a.Jgh a.Jgi ["self","can_stand"] (Suv K a):=by
 have Sad:=Jln (P:=P) (w:=w) (base:=base) T
 have Sg0:=λf=>Slj (P:=P) (w:=w) (base:=base) T f
 have Sac:=Jn5 (P:=P) (w:=w) (base:=base) T
 refine T.Jca.fn.okX Jpq (λvs H Q E h=>?_) (λcdv A outer s H vs Q E hr h=>?_)
 ·obtain ⟨r,f,l,k,ws,g,rfl,_⟩:=h
  rfl
 ·obtain ⟨r,f,l,k,ws,g,rfl,rd,can,ok,no⟩:=h
  refine ⟨?t,?B,?C⟩
  case B=>
   refine' Jj9 ?O0 ?O1
   case O0=>
    refine' Jjv ?O2 ?O3 ?O4
    case O2=>exact (PW.pt (Jot (Jkg (Js8 (pv 0) T.Jd7 T.Jd9 Sad (hr.mono (by decide)) T.Jc9.bd .nil Js6)) (Jnn (Jkf (Jkg (Y1 Sg0 hr (by decide) 1 (So (Jk5 Jjs (Jkq (pv 0) (by rfl)) (Jkq (pv 0) (by rfl)) (λ_ _=>rfl)) Ss)))))))
    case O3=>
     refine' Jjb ?O5
     case O5=>exact (Jkx Jjt rfl (Jm1 T.Jcl Sac hr (by decide) T.Jby.bd T.Jba (So (Jkq (pv 0) (by rfl)) (So (Jkq (pv 0) (by rfl)) Ss))))
    case O4=>exact Jjm
   case O1=>
   refine' Jj9 ?O6 ?O7
   case O6=>exact (Jym (pv 0) Sy Sla)
   case O7=>
   refine' Jjb ?O8
   case O8=>exact (Jji (Jk5 Jjs (Jkq (pv 0) (by rfl)) (Jjn Jnl (Jkq (pv 0) (by rfl)) Sy) (λ_ _=>rfl)))
  obtain ⟨dx,P,h1,h2,wd,hk⟩:=id rd
  have fly:∀{H1:Hp},Sn H H1->(∀z,ws[k]?=some z->g z=false)->∀e dx H',Sn H1 H'->H' e=some (XO e a.Jir (some dx) false)->H' dx=some (XD dx [("line",.int (l:Int)),("place",.int (k:Int))])->E (.ref a.Jir) (some e) H':=λs1 hn e dx H' s' x1 x2=>no hn e H' (Btr.of (s1.trans s')) ⟨dx,x1,x2⟩
  refine ⟨_,rfl,r,dx,_,rfl,h1,by rfl,r,l,k,ws,rfl,rd,_,rfl,Jlx (λc=>?_) (λc=>?_)⟩
  ·have hkl:k=ws.length:=of_decide_eq_true c
   refine Jkb ⟨_,rfl,r,_,dx,_,_,rfl,h1,T.Jd7,T.Je1,rfl,_,rfl,r,_,dx,_,_,rfl,h1,T.Jd7,T.Je2,rfl,?_⟩
   exact Jou T (fly (Sn.refl H) λz hz=>by rw [hkl,yck (yg _)] at hz;cases hz)
  ·have kl:k < ws.length:=by
    have:¬k=ws.length:=λq=>c (decide_eq_true q)
    omega
   have hz:=yi kl
   generalize ws[k]=z at hz
   have az:atI (ws.map V.str) (k:Int)=some (.str z):=Jl7 (by rw [yn,hz];rfl)
   refine ⟨f,rfl,_,rfl,r,_,dx,_,_,rfl,h1,T.Jd7,T.Je3,rfl,_,rfl,r,_,dx,_,_,rfl,h1,T.Jd7,T.Je2,rfl,P,_,(k:Int),_,rfl,rfl,Sx.of h2,az,?_⟩
   refine can z hz _ λH1 s1=>?_
   refine ⟨_,rfl,?_⟩
   cases gz:g z with
   |false=>
    refine Jkb ⟨_,rfl,r,_,dx,_,_,rfl,s1 _ _ h1,T.Jd7,T.Je1,rfl,_,rfl,r,_,dx,_,_,rfl,s1 _ _ h1,T.Jd7,T.Je2,rfl,?_⟩
    exact Jou T (fly s1 λz' hz'=>by rw [hz] at hz';cases hz';exact gz)
   |true=>
    refine Jjw ?_
    have nP:P≠r:=λe=>by rw [e,h1] at h2;cases h2
    refine ⟨_,rfl,r,_,dx,_,_,rfl,s1 _ _ h1,T.Jd7,T.Je2,rfl,_,_,rfl,rfl,dx,_,s1 _ _ h1,by simp [rdF],?_⟩
    have ep:Jl8 "place" (V.int ((k:Int)+1)) (rdF l k P)=rdF l ((k+1:Nat):Int) P:=by
     rw [show ((k+1:Nat):Int)=(k:Int)+1 by omega]
     rfl
    rw [ep]
    have h1':(upd H1 r (.ins a.Jiz dx (rdF l ((k+1:Nat):Int) P))) r=some (.ins a.Jiz dx (rdF l ((k+1:Nat):Int) P)):=Sv
    have h2':(upd H1 r (.ins a.Jiz dx (rdF l ((k+1:Nat):Int) P))) P=some (.lst (ws.map V.str)):=by rw [Jjc nP];exact s1 _ _ h2
    refine ⟨_,rfl,r,_,dx,_,_,rfl,h1',T.Jd7,T.Je3,rfl,_,rfl,r,_,dx,_,_,rfl,h1',T.Jd7,T.Je2,rfl,_,_,rfl,rfl,P,_,(k:Int),_,rfl,(congrArg V.int (show (((k+1:Nat):Int) - 1)=(k:Int) by omega)),Sx.of h2',az,?_⟩
    exact ok z _ hz gz (Btr.put (Btr.of s1)) ⟨dx,P,h1',h2',wd,kl⟩
def Suu (K:Si) (a:Ad):Sp:=λvs H Q E=>∃(r A:S5) (l k:Nat) (ws zs:List Str),vs= [.ref r,.ref A]/\H a.Jj1=some (.tbl lb_LineReader_take_of)/\Saz a H r l k ws/\(Sx K H A (zs.map V.str)\/SqT K H A (zs.map V.str))/\TkR a r l k ws (λz=>decide (z∈zs)) V.str H Q E
def Spf (K:Si) (a:Ad):Sp:=λvs H Q E=>∃(r A:S5) (l k:Nat) (ws zs:List Str),vs= [.ref r,.ref A]/\H a.Jj3=some (.tbl lb_LineReader_take_new_name)/\Saz a H r l k ws/\Sx K H A (zs.map V.str)/\TkR a r l k ws (Jwd zs) V.str H Q E
def Spg (a:Ad):Sp:=λvs H Q E=>∃(r:S5) (lo hi:Int) (l k:Nat) (ws:List Str),vs= [.ref r,.int lo,.int hi]/\H a.Jj5=some (.tbl lb_LineReader_take_number)/\Saz a H r l k ws/\TkR a r l k ws (Jl2 lo hi) (λz=>.int (Jk9 z)) H Q E
def Slz (a:Ad):Sp:=λvs H Q E=>∃(r:S5) (l k:Nat) (ws:List Str),vs= [.ref r]/\Saz a H r l k ws/\(k=ws.length->Q .non H)/\(k < ws.length->∀e H',Sn H H'->NTx a H' e l k->E (.ref a.Jir) (some e) H')
theorem TkR.on {a:Ad} {r:S5} {l k:Nat} {ws:List Str} {g:Str->Bool} {mk:Str->V} {H H1:Hp} {Q:VK} {E:XK} (s:Btr r H H1) (h:TkR a r l k ws g mk H Q E):TkR a r l k ws g mk H1 Q E:=
 ⟨λz H' hz hg c rd=>h.1 z H' hz hg (s.trans c) rd,λhn e H' c n=>h.2 hn e H' (s.trans c) n⟩
theorem Jo7:Jjh ["self"] ["self"] (Jje (Jjj (top 50) 6)):=⟨rfl,rfl,rfl,by decide +kernel,rfl,by decide +kernel,by decide +kernel⟩
theorem Jm6 (T:Tx K mg a):Jjz P w K mg base (CXX P w) 3 a.Jgp a.Jgq ["self"] (Slz a):=by
 have Sad:=Jln (P:=P) (w:=w) (base:=base) T
 have Sac:=Jn5 (P:=P) (w:=w) (base:=base) T
 refine T.Jce.fn.okX Jo7 (λvs H Q E h=>?_) (λcdv A outer s H vs Q E hr h=>?_)
 ·obtain ⟨r,l,k,ws,rfl,_⟩:=h
  rfl
 ·obtain ⟨r,l,k,ws,rfl,rd,ok,no⟩:=h
  refine ⟨?t,?B,?C⟩
  case B=>
   refine' Jjb ?O0
   case O0=>
   refine' Jjv ?O1 ?O2 ?O3
   case O1=>exact (Jkf (Jkg (Js8 (pv 0) T.Jd7 T.Jd9 Sad (hr.mono (by decide)) T.Jc9.bd .nil Js6)))
   case O2=>
    refine' Jjb ?O4
    case O4=>exact (Jkx Jjt rfl (Jm1 T.Jcl Sac hr (by decide) T.Jby.bd T.Jba (So (Jkq (pv 0) (by rfl)) (So (Jkq (pv 0) (by rfl)) Ss))))
   case O3=>exact Jjm
  obtain ⟨dx,P,h1,h2,wd,hk⟩:=id rd
  refine ⟨_,rfl,r,dx,_,rfl,h1,by rfl,r,l,k,ws,rfl,rd,_,rfl,?_⟩
  by_cases c:k=ws.length
  ·rw [decide_eq_true c]
   exact Jjw (ok c)
  ·rw [decide_eq_false c]
   refine Jkb ⟨_,rfl,r,_,dx,_,_,rfl,h1,T.Jd7,T.Je1,rfl,_,rfl,r,_,dx,_,_,rfl,h1,T.Jd7,T.Je2,rfl,?_⟩
   exact Jou T λe dx H' s' x1 x2=>no (by omega) e H' s' ⟨dx,x1,x2⟩
theorem Joc:Jjh ["self","allowed"] ["self","allowed"] (Jje (Jjj (top 50) 3)):=⟨rfl,rfl,rfl,by decide +kernel,rfl,by decide +kernel,by decide +kernel⟩
theorem Jky (T:Tx K mg a) (B:Bmn mg base):Jjz P w K mg base (CXX P w) 6 a.Jgj a.Jgk ["self","allowed"] (Suu K a):=by
 have Saj:=Jm0 (P:=P) (w:=w) (base:=base) T
 refine T.Jcb.fn.okN T.Je4 Joc (λvs H Q E h=>?_) (λA outer s H vs Q E hr h=>?_)
 ·obtain ⟨r,A,l,k,ws,zs,rfl,_⟩:=h
  rfl
 ·obtain ⟨r,A,l,k,ws,zs,rfl,ht,rd,hA,q⟩:=h
  refine ⟨_,(Jwh (caps:=[("allowed",1)]) (by intro y hy;simp only [yo,yae,or_false] at hy;rcases hy with rfl <;> exact ⟨rfl,rfl,rfl⟩) (PSs.pb (Jjb (Jji (Jkp (pv 0) T.Jd7 T.Jda Saj Jwy hr (by decide) T.Jca.bd (So (Jwi (e:=Jmf (Jjj (top 50) 3)) (qual:="LineReader.take_of.<locals>.<lambda>") (lb:=lb_LineReader_take_of) (caps:=["allowed"]) T.Je4 B rfl rfl rfl rfl Jw6 (λ_=>Ju6) (by decide +kernel) (by decide +kernel)) Ss)))))),?_⟩
  refine ⟨[.ref A],?_,rfl,λH1 s1 ce=>?_⟩
  ·intro y hy
   simp only [List.zip_cons_cons,List.zip_nil_right,yo,yae,or_false] at hy
   subst hy
   rfl
  obtain ⟨dx,P,h1,_⟩:=rd.same s1
  refine ⟨_,rfl,r,dx,_,rfl,h1,by rfl,s1 _ _ ht,[.ref A],ce,λf H2 s2 hf la=>?_⟩
  have s12:=s1.trans s2
  refine ⟨r,f,l,k,ws,_,rfl,rd.same s12,λz hz Q' kq=>.inl ⟨[.ref A],la,A,zs,z,rfl,rfl,?_,kq⟩,q.on (Btr.of s12)⟩
  rcases hA with h|h
  ·exact .inl (s12.seq h)
  ·exact .inr (Yay s12 h)
theorem Jmz:Jjh ["self","names"] ["self","names"] (Jje (Jjj (top 50) 4)):=⟨rfl,rfl,rfl,by decide +kernel,rfl,by decide +kernel,by decide +kernel⟩
theorem Jlk (T:Tx K mg a) (B:Bmn mg base):Jjz P w K mg base (CXX P w) 6 a.Jgl a.Jgm ["self","names"] (Spf K a):=by
 have Saj:=Jm0 (P:=P) (w:=w) (base:=base) T
 refine T.Jcc.fn.okN T.Je5 Jmz (λvs H Q E h=>?_) (λA outer s H vs Q E hr h=>?_)
 ·obtain ⟨r,A,l,k,ws,zs,rfl,_⟩:=h
  rfl
 ·obtain ⟨r,A,l,k,ws,zs,rfl,ht,rd,hA,q⟩:=h
  refine ⟨_,(Jwh (caps:=[("names",1)]) (by intro y hy;simp only [yo,yae,or_false] at hy;rcases hy with rfl <;> exact ⟨rfl,rfl,rfl⟩) (PSs.pb (Jjb (Jji (Jkp (pv 0) T.Jd7 T.Jda Saj Jwy hr (by decide) T.Jca.bd (So (Jwi (e:=Jmf (Jjj (top 50) 4)) (qual:="LineReader.take_new_name.<locals>.<lambda>") (lb:=lb_LineReader_take_new_name) (caps:=["names"]) T.Je5 B rfl rfl rfl rfl Jw6 (λ_=>Ju6) (by decide +kernel) (by decide +kernel)) Ss)))))),?_⟩
  refine ⟨[.ref A],?_,rfl,λH1 s1 ce=>?_⟩
  ·intro y hy
   simp only [List.zip_cons_cons,List.zip_nil_right,yo,yae,or_false] at hy
   subst hy
   rfl
  obtain ⟨dx,P,h1,_,wd,_⟩:=rd.same s1
  refine ⟨_,rfl,r,dx,_,rfl,h1,by rfl,s1 _ _ ht,[.ref A],ce,λf H2 s2 hf la=>?_⟩
  have s12:=s1.trans s2
  exact ⟨r,f,l,k,ws,_,rfl,rd.same s12,λz hz Q' kq=>.inr (.inl ⟨[.ref A],la,A,zs,z,rfl,rfl,s12.seq hA,(wd.2.2 z (yab hz)).mono (by decide),kq⟩),q.on (Btr.of s12)⟩
theorem Jnb:Jjh ["self","low","high"] ["self","low","high"] (Jje (Jjj (top 50) 5)):=⟨rfl,rfl,rfl,by decide +kernel,rfl,by decide +kernel,by decide +kernel⟩
theorem Jkl (T:Tx K mg a) (B:Bmn mg base):Jjz P w K mg base (CXX P w) 6 a.Jgn a.Jgo ["self","low","high"] (Spg a):=by
 have Saj:=Jm0 (P:=P) (w:=w) (base:=base) T
 refine T.Jcd.fn.okN T.Je6 Jnb (λvs H Q E h=>?_) (λA outer s H vs Q E hr h=>?_)
 ·obtain ⟨r,lo,hi,l,k,ws,rfl,_⟩:=h
  rfl
 ·obtain ⟨r,lo,hi,l,k,ws,rfl,ht,rd,ok,no⟩:=h
  refine ⟨_,(Jwh (caps:=[("low",1),("high",2)]) (by intro y hy;simp only [yo,yae,or_false] at hy;rcases hy with rfl|rfl <;> exact ⟨rfl,rfl,rfl⟩) (PSs.pb (Jjb (Jji (Jkd Jmx (by rfl) T.Jat Joe (So (Jkp (pv 0) T.Jd7 T.Jda Saj Jwy hr (by decide) T.Jca.bd (So (Jwi (e:=Jmf (Jjj (top 50) 5)) (qual:="LineReader.take_number.<locals>.<lambda>") (lb:=lb_LineReader_take_number) (caps:=["low","high"]) T.Je6 B rfl rfl rfl rfl Jw6 (λ_=>Ju6) (by decide +kernel) (by decide +kernel)) Ss)) Ss)))))),?_⟩
  refine ⟨[.int lo,.int hi],?_,rfl,λH1 s1 ce=>?_⟩
  ·intro y hy
   simp only [List.zip_cons_cons,List.zip_nil_right,yo,yae,or_false] at hy
   rcases hy with rfl|rfl <;> rfl
  obtain ⟨dx,P,h1,_,wd,_⟩:=rd.same s1
  refine ⟨_,rfl,r,dx,_,rfl,h1,by rfl,s1 _ _ ht,[.int lo,.int hi],ce,λf H2 s2 hf la=>?_⟩
  have s12:=s1.trans s2
  refine ⟨r,f,l,k,ws,Jl2 lo hi,rfl,rd.same s12,λz hz Q' kq=>.inr (.inr ⟨[.int lo,.int hi],la,lo,hi,z,rfl,rfl,yv (wd.2.2 z (yab hz)).len (by decide),kq⟩),λz H3 hz hg b3 rd3=>?_,λhn e H3 b3 n=>no hn e H3 ((Btr.of s12).trans b3) n⟩
  obtain ⟨hp,hb⟩:=Jld hg
  obtain ⟨p1,p2,p3⟩:=Jos hp
  exact ⟨z,Jk9 z,rfl,Jw1 p1 p2 p3,by omega,ok z H3 hz hg ((Btr.of s12).trans b3) rd3⟩
theorem Jzi {ws:List Str} {n:Nat} {ns:List Int} {z:Str} {i:Nat} (e:(ws.drop i).take n=ns.map nmS) (hz:ws[i+n]?=some z) (hw:z=nmS (Jk9 z)):(ws.drop i).take (n+1)=(ns++ [Jk9 z]).map nmS:=by
 rw [ybc,e,List.getElem?_drop,hz,yr]
 show _++ [z]=_++ [nmS (Jk9 z)]
 rw [<-hw]
theorem Jzt {lo:Int} {z:Str} (h:Jl2 lo 12 z=true):z=nmS (Jk9 z):=Jm3 (Jld h).1 (Jld h).2.2
theorem Jny {ws:List Str} {k:Nat} {z:Str} (h:ws[k]?=some z):vw ws k=Jk9 z:=by
 unfold vw
 rw [ycf,h]
 rfl
def Spe (a:Ad):Sp:=λvs H Q E=>∃(r:S5) (lo:Int) (l:Nat) (ws:List Str) (std:Nat->Bool),vs= [.ref r,.int lo]/\H a.Jj5=some (.tbl lb_LineReader_take_number)/\Saz a H r l 7 ws/\0<=lo/\(∀z,ws[7]?=some z->std 7=Jl2 lo 12 z)/\(∀j z,7<=j->j < 10->ws[j+1]?=some z->std (j+1)=Jl2 (vw ws j+1) 12 z)/\(∀j,j < 7->std j=true)/\Jp8 ws=8/\NoE a r l ws std H E/\
 ∀(M:S5) (k:Nat) (ns:List Int) (H':Hp),Btr r H H'->H M=none->Saz a H' r l k ws->H' M=some (.lst (ns.map V.int))->Jnq lo (ns.map V.int)=true->(ws.drop 7).take ns.length=ns.map nmS->k=7+ns.length->(∀j,j < k->std j=true)->(k=ws.length\/k=11)->Q (.ref M) H'
theorem Sd9:Jjh ["reader","lowest","marks"] ["reader","lowest"] (Jje (top 51)):=⟨rfl,rfl,rfl,by decide +kernel,rfl,by decide +kernel,by decide +kernel⟩
theorem Jst (T:Tx K mg a) (B:Bmn mg base):Jjz P w K mg base (CXX P w) 7 a.Jgr a.Jgs ["reader","lowest"] (Spe a):=by
 have Su:=Jkl (P:=P) (w:=w) T B
 have Sad:=Jln (P:=P) (w:=w) (base:=base) T
 refine T.Jm.fn.okX Sd9 (λvs H Q E h=>?_) (λcdv A outer s H vs Q E hr h=>?_)
 ·obtain ⟨r,lo,l,ws,std,rfl,_⟩:=h
  rfl
 ·obtain ⟨r,lo,l,ws,std,rfl,ht,rd,hlo,h7,h8,prev,nd,no,q⟩:=h
  have npr:a.Jj5≠r:=λe=>by
   obtain ⟨dx,P,h1,_⟩:=rd
   rw [e,h1] at ht
   cases ht
  refine ⟨?t,?B,?C⟩
  case B=>
   refine' Jj9 ?O0 ?O1
   case O0=>exact (Jjl (i:=2) Sd9.nd rfl (yf rfl) (Jju (So (Jkp (pv 0) T.Jd7 T.Jdd Su Jjt hr (by decide) T.Jcd.bd (So (pv 1) (So (Jk6 (by rfl) T.Jah (v:=.int 12) ⟨_,rfl⟩) Ss))) Ss)))
   case O1=>
   refine' Jj9 ?O2 ?O3
   case O2=>exact (Y7 PassesOwn.leaving (PW.pt (Jmt (Jjo Jop (Jjk Jjq (by rfl) T.Jav Jkh (So (pv 2) Ss)) (Jk6 (by rfl) T.Jag (v:=.int 4) ⟨_,rfl⟩) (Jjp _)) (Jlz (Jkf (Jkg (Js8 (pv 0) T.Jd7 T.Jd9 Sad (hr.mono (by decide)) T.Jc9.bd .nil Js6)))))) (Jjb (Jkm (Jll F.plainAttrs_list F.slot_list_append F.type_list_append Jkw (pv 2) (So (Jkp (pv 0) T.Jd7 T.Jdd Su Jjt hr (by decide) T.Jcd.bd (So (Jjn Jk8 (Jk5 Jjs (pv 2) (Jxm Juy Sy) (λ_ _=>rfl)) Sy) (So (Jk6 (by rfl) T.Jah (v:=.int 12) ⟨_,rfl⟩) Ss))) Ss)))))
   case O3=>
   refine' Jjb ?O4
   case O4=>exact (Jji (pv 2))
  obtain ⟨dx,P,h1,h2,wd,hk⟩:=id rd
  refine ⟨_,rfl,r,dx,_,rfl,h1,by rfl,_,rfl,r,lo,12,l,7,ws,rfl,ht,rd,Jma h7 prev (by omega) hk no λz H1 hz hg prev1 c1 rd1=>?_⟩
  have bz:=Jld hg
  refine ⟨(show 1<=Sa by decide),λM hM=>?_⟩
  have hM0:H M=none:=by
   cases hc:H M with
   |none=>rfl
   |some o=>
    by_cases e:M=r
    ·obtain ⟨_,_,z,_⟩:=rd1
     rw [e,z] at hM
     cases hM
    ·rw [c1 _ _ e hc] at hM
     cases hM
  have nM:M≠r:=λe=>by
   obtain ⟨_,_,z,_⟩:=rd1
   rw [e,z] at hM
   cases hM
  refine Yr (λσ H'=>∃(ns:List Int) (m:Int),σ= [some (.ref r),some (.int lo),some (.ref M)]/\Btr r H H'/\H' M=some (.lst (ns.map V.int))/\Saz a H' r l (7+ns.length) ws/\Jl4 lo (ns.map V.int)=true/\ns.getLast?=some m/\m=vw ws (6+ns.length)/\ns.length<=4/\(ws.drop 7).take ns.length=ns.map nmS/\∀j,j < 7+ns.length->std j=true) (λσ H'=>match H' M with|some (.lst xs)=>5 - xs.length|_=>0) ⟨[Jk9 z],Jk9 z,rfl,λb o n e=>by rw [Jjc (λz=>by rw [z,hM0] at e;cases e)];exact c1 b o n e,Sv,rd1.same (Sn.upd hM),?_,rfl,(Jny hz).symm,by simp,Jzi (n:=0) (ns:=[]) rfl hz (Jzt hg),prev1⟩ ?_ ?_
  ·show ((decide (lo<=Jk9 z)&&decide (Jk9 z<=12))&&true)=true
   rw [decide_eq_true bz.2.1,decide_eq_true bz.2.2]
   rfl
  ·rintro σ H' ⟨ns,m,rfl,c,hMj,rdj,mk,lst,em,l4,ew,pv⟩
   have n1:1<=ns.length:=by cases ns <;> simp at lst⊢
   obtain ⟨dx',P',g1,g2,g3,g4⟩:=id rdj
   refine ⟨_,rfl,M,_,rfl,.inl (Sx.of hMj),_,_,rfl,rfl,_,rfl,?_⟩
   rw [ye]
   have fin:(7+ns.length=ws.length\/7+ns.length=11)->Q (.ref M) H':=λe=>q M _ ns H' c hM0 rdj hMj (by unfold Jnq;rw [mk,Bool.and_true,ye];exact decide_eq_true ⟨n1,l4⟩) ew rfl pv e
   by_cases jn:ns.length=4
   ·rw [decide_eq_false (by omega:¬((ns.length:Nat):Int) < 4)]
    exact Jjw ⟨_,rfl,fin (.inr (by omega))⟩
   ·rw [decide_eq_true (by omega:((ns.length:Nat):Int) < 4)]
    refine Jkb ?_
    refine ⟨_,rfl,r,dx',_,rfl,g1,by rfl,r,l,_,ws,rfl,rdj,_,rfl,?_⟩
    by_cases je:7+ns.length=ws.length
    ·rw [decide_eq_true je]
     exact Jjw ⟨_,rfl,fin (.inl je)⟩
    rw [decide_eq_false je]
    refine Jkb ?_
    refine ⟨_,rfl,.inl ⟨rfl,_,Sx.of hMj⟩,_,rfl,r,dx',_,rfl,g1,by rfl,_,rfl,_,rfl,M,_,_,_,rfl,rfl,Sx.of hMj,Jpy lst,_,_,rfl,rfl,r,m+1,12,l,_,ws,rfl,c _ _ npr ht,rdj,?_⟩
    refine ⟨λz H2 hz hg c2 rd2=>?_,λhn e H2 c2 n=>no _ e H2 ⟨pv,.inl ⟨by omega,?_⟩⟩ (c.trans c2) n⟩
    ·have bz:=Jld hg
     have hM2:=c2 _ _ nM hMj
     have hst:std (7+ns.length)=true:=by
      rw [show 7+ns.length=(6+ns.length)+1 by omega] at hz⊢
      rw [h8 (6+ns.length) z (by omega) (by omega) hz,<-em]
      exact hg
     have ll:(ns++ [Jk9 z]).length=ns.length+1:=by simp
     refine ⟨M,_,_,rfl,rfl,hM2,by rw [ye];exact Jkn (by omega),⟨ns++ [Jk9 z],Jk9 z,rfl,λb o n e=>?_,?_,?_,Joj ns lo m (Jk9 z) mk lst bz.2.1 bz.2.2,by simp,?_,by omega,?_,?_⟩,?_⟩
     ·rw [Jjc (λz=>by rw [z,hM0] at e;cases e)]
      exact c2 _ _ n (c _ _ n e)
     ·rw [Sv,yr]
      rfl
     ·obtain ⟨dx2,P2,f1,f2,f3⟩:=rd2
      have nP:P2≠M:=λz=>by
       rw [z,hM2] at f2
       have e:=HO.lst.inj (yt.inj f2)
       cases ns with
       |nil=>simp at n1
       |cons m0 ms=>
        cases ws with
        |nil=>exact wd.1 rfl
        |cons w0 ws=>cases e
      refine ⟨dx2,P2,by rw [Jjc (yh nM),ll];exact f1,by rw [Jjc nP];exact f2,f3.1,?_⟩
      rw [ll]
      exact f3.2
     ·rw [ll,<-Jny hz]
      congr 1
      omega
     ·rw [ll]
      exact Jzi ew hz (Jzt hg)
     ·intro j hj
      rw [ll] at hj
      rcases ybh j (7+ns.length) with h|h
      ·exact pv j h
      ·rw [show j=7+ns.length by omega]
       exact hst
     ·show (match (upd H2 M (.lst (ns.map V.int++ [.int (Jk9 z)]))) M with|some (.lst xs)=>5 - xs.length|_=>0) < (match H' M with|some (.lst xs)=>5 - xs.length|_=>0)
      rw [Sv,hMj]
      show 5 - (ns.map V.int++ [V.int (Jk9 z)]).length < 5 - (ns.map V.int).length
      rw [yq,ye]
      simp
      omega
    ·have hz:=yi (show 7+ns.length < ws.length by omega)
     generalize ws[7+ns.length]=z at hz
     have gz:=hn z hz
     rw [show 7+ns.length=(6+ns.length)+1 by omega] at hz⊢
     rw [h8 (6+ns.length) z (by omega) (by omega) hz,<-em]
     exact gz
  ·intro σ H Q Q' hq h
   obtain ⟨v,hv,p,ys,e1,hs,i,j,e2,e3,c,e4,h⟩:=h
   refine ⟨v,hv,p,ys,e1,hs,i,j,e2,e3,c,e4,?_⟩
   split at h
   ·rename_i hc
    rw [if_pos hc]
    obtain ⟨v',hv',a',dx,fs,e5,e6,e7,r,l,k,ws,e8,rd,c',e9,h⟩:=h
    exact ⟨v',hv',a',dx,fs,e5,e6,e7,r,l,k,ws,e8,rd,c',e9,hq _ _ h⟩
   ·rename_i hc
    rw [if_neg hc]
    exact hq _ _ h
structure BTd where
 z:Str
 lo:Int
 hi:Int
 st:Int
 rn:Int
 G:Jo9
structure BGd (B:BTd):Prop where
 lo:0<=B.lo/\B.lo<=B.hi
 hi:B.hi<=12
 rn:0<=B.rn/\B.rn<=6
 G:Sey B.G
 sv:B.G.sv=none
structure TGd (B:BTd):Prop where
 b:BGd B
 st:B.lo<=B.st/\B.st<=B.hi
 nm:Jlj B.z=true
 wd:Wd 50 B.z
def BX (a:Ad) (H:Hp) (o:S5) (B:BTd):Prop:=∃dx g,H o=some (.ins a.Jiw dx (Six (.str B.z) (.int B.lo) (.int B.hi) (.int B.st) (.int B.rn) g))/\GX a H g B.G
theorem BX.same {a:Ad} {H H':Hp} {o:S5} {B:BTd} (s:Sn H H') (h:BX a H o B):BX a H' o B:=by
 obtain ⟨dx,g,h1,h2⟩:=h
 exact ⟨dx,g,s _ _ h1,h2.same s⟩
theorem Jnx {a:Ad} {H:Hp} {r b:S5} {l k:Nat} {ws:List Str} {o:HO} (rd:Saz a H r l k ws) (h:H b=some o) (hn:∀C dx l k P,o≠ .ins C dx (rdF l k P)):b≠r:=λe=>by
 obtain ⟨dx,P,z,_⟩:=rd
 rw [e,z] at h
 exact hn _ _ _ _ _ (yt.inj h).symm
theorem GX.btr {a:Ad} {H H':Hp} {r:S5} {l k:Nat} {ws:List Str} {x:V} {G:Jo9} (rd:Saz a H r l k ws) (c:Btr r H H') (h:GX a H x G):GX a H' x G:=by
 obtain ⟨g,⟨dy,t,h3,h4⟩,h5⟩:=h
 exact ⟨g,⟨dy,t,c _ _ (Jnx rd h3 λC dx l k P e=>by cases e) h3,c _ _ (Jnx rd h4 λC dx l k P e=>by cases e) h4⟩,h5⟩
theorem BX.btr {a:Ad} {H H':Hp} {r o:S5} {l k:Nat} {ws:List Str} {B:BTd} (rd:Saz a H r l k ws) (c:Btr r H H') (h:BX a H o B):BX a H' o B:=by
 obtain ⟨dx,g,h1,h2⟩:=h
 exact ⟨dx,g,c _ _ (Jnx rd h1 λC dx l k P e=>by cases e) h1,h2.btr rd c⟩
def gws (G:Jo9):List Str:=G.kd::G.ns.map nmS
def bws (B:BTd):List Str:=[B.z,nmS B.lo,nmS B.hi,nmS B.st,nmS B.rn]++gws B.G
def Tbs (a:Ad) (H:Hp):Prop:=H a.Jj1=some (.tbl lb_LineReader_take_of)/\H a.Jj3=some (.tbl lb_LineReader_take_new_name)/\H a.Jj5=some (.tbl lb_LineReader_take_number)
theorem Tbs.same {a:Ad} {H H':Hp} (s:Sn H H') (h:Tbs a H):Tbs a H':=⟨s _ _ h.1,s _ _ h.2.1,s _ _ h.2.2⟩
theorem Tbs.btr {a:Ad} {H H':Hp} {r:S5} {l k:Nat} {ws:List Str} (rd:Saz a H r l k ws) (c:Btr r H H') (h:Tbs a H):Tbs a H':=
 ⟨c _ _ (Jnx rd h.1 λC dx l k P e=>by cases e) h.1,c _ _ (Jnx rd h.2.1 λC dx l k P e=>by cases e) h.2.1,c _ _ (Jnx rd h.2.2 λC dx l k P e=>by cases e) h.2.2⟩
def Sip (bn ws:List Str) (std:Nat->Bool):Prop:=Jp8 ws=8/\∀j z,0 < j->ws[j]?=some z->std j=Sph bn ws z j
theorem Jx9 {ws:List Str} {k:Nat} {z:Str} (h:ws[k]?=some z):ws.getD k "" =z:=by
 rw [ycf,h]
 rfl
def Yb5 (a:Ad):Sp:=λvs H Q E=>∃(r:S5) (l:Nat) (bn ws:List Str) (std:Nat->Bool),vs= [.ref r]/\Tbs a H/\Saz a H r l 6 ws/\Sip bn ws std/\(∀j,j < 6->std j=true)/\NoE a r l ws std H E/\
 ∀(g:S5) (G:Jo9) (k:Nat) (H':Hp),Btr r H H'->Saz a H' r l k ws->Sce (cOf a G.kd) H' g (G.ns.map V.int)->Sey G->G.sv=none->ws[6]?=some G.kd->(ws.drop 7).take G.ns.length=G.ns.map nmS->k=7+G.ns.length->(∀j,j < k->std j=true)->(k=ws.length\/k=11)->Q (.ref g) H'
theorem Sdm:Jjh ["reader","sort"] ["reader"] (Jje (top 52)):=⟨rfl,rfl,rfl,by decide +kernel,rfl,by decide +kernel,by decide +kernel⟩
theorem Juh (T:Tx K mg a) (B:Bmn mg base):Jjz P w K mg base (CXX P w) 8 a.Jgt a.Jgu ["reader"] (Yb5 a):=by
 have Sa5:=Jky (P:=P) (w:=w) T B
 have Scd:=Jst (P:=P) (w:=w) T B
 have Sd0:=Jqz (P:=P) (w:=w) (base:=base) T
 have Scy:=Jqx (P:=P) (w:=w) (base:=base) T
 have Scz:=Jqy (P:=P) (w:=w) (base:=base) T
 refine T.Jn.fn.okX Sdm (λvs H Q E h=>?_) (λcdv A outer s H vs Q E hr h=>?_)
 ·obtain ⟨r,l,bn,ws,std,rfl,_⟩:=h
  rfl
 ·obtain ⟨r,l,bn,ws,std,rfl,tb,rd,⟨nd,hb⟩,prev,no,q⟩:=h
  refine ⟨?t,?B,?C⟩
  case B=>
   refine' Jj9 ?O0 ?O1
   case O0=>exact (Jjl (i:=1) Sdm.nd rfl (yf rfl) (Jkp (pv 0) T.Jd7 T.Jdb Sa5 Jjt hr (by decide) T.Jcb.bd (So (Jk6 (by rfl) T.Jao (v:=.ref _) rfl) Ss)))
   case O1=>
   refine' Jj9 ?O2 ?O3
   case O2=>
    refine' Jjv ?O4 ?O5 ?O6
    case O4=>exact (Jjo Jkv (pv 1) Jjg (Jjp _))
    case O5=>
     refine' Jjb ?O7
     case O7=>exact (Jji (Jnv T.Jcp Sd0 Jjt hr (by decide) T.Jbz.bd T.Jbc (So (Jku T.Jm Scd Jjt hr (by decide) (So (pv 0) (So Sy Ss))) Ss)))
    case O6=>exact Jjm
   case O3=>
   refine' Jj9 ?O8 ?O9
   case O8=>
    refine' Jjv ?Oa ?Ob ?Oc
    case Oa=>exact (Jjo Jkv (pv 1) Jjg (Jjp _))
    case Ob=>
     refine' Jjb ?Od
     case Od=>exact (Jji (Jnv T.Jct Scy Jjt hr (by decide) T.Jc1.bd T.Jbd (So (Jku T.Jm Scd Jjt hr (by decide) (So (pv 0) (So Sy Ss))) Ss)))
    case Oc=>exact Jjm
   case O9=>
   refine' Jjb ?Oe
   case Oe=>exact (Jji (Jnv T.Jcx Scz Jjt hr (by decide) T.Jc3.bd T.Jbe (So (Jku T.Jm Scd Jjt hr (by decide) (So (pv 0) (So Sy Ss))) Ss)))
  obtain ⟨dx,P,h1,h2,wd,hk⟩:=id rd
  refine ⟨_,rfl,r,dx,_,rfl,h1,by rfl,r,a.Jij,l,6,ws,SRT,rfl,tb.1,rd,.inr (T.Jap H),Jma (λz hz=>hb 6 z (by decide) hz) prev (by omega) hk no λkd H1 hz hg prev1 c1 rd1=>?_⟩
  have tb1:=tb.btr rd c1
  have no1:=no.on c1
  have hkd:Knd kd:=by
   have m:=of_decide_eq_true hg
   unfold SRT at m
   simp only [yo,yae,or_false] at m
   exact m
  have h7:∀lo:Int,lo=Jna kd->∀z,ws[7]?=some z->std 7=Jl2 lo 12 z:=λlo e z hz7=>by
   rw [hb 7 z (by decide) hz7,e]
   show Jl2 (Jna (ws.getD 6 "")) 12 z=_
   rw [Jx9 hz]
  have h8:∀j z,7<=j->j < 10->ws[j+1]?=some z->std (j+1)=Jl2 (vw ws j+1) 12 z:=λj z j1 j2 hz8=>by
   rw [hb (j+1) z (by omega) hz8]
   rcases (show j=7\/j=8\/j=9 by omega) with rfl|rfl|rfl <;> rfl
  have fin:∀(g M:S5) (k:Nat) (ns:List Int) (H2 H3:Hp),Btr r H1 H2->Saz a H2 r l k ws->Jnq (Jna kd) (ns.map V.int)=true->(ws.drop 7).take ns.length=ns.map nmS->k=7+ns.length->(∀j,j < k->std j=true)->(k=ws.length\/k=11)->Sn H2 H3->Sce (cOf a kd) H3 g (ns.map V.int)->Q (.ref g) H3:=λg M k ns H2 H3 c2 rd2 ar ew ek pv en s3 ga=>
   q g ⟨kd,ns,none⟩ k H3 ((c1.trans c2).trans (Btr.of s3)) (rd2.same s3) ga ⟨hkd,ar,λi e=>by cases e⟩ rfl hz ew ek pv en
  rcases hkd with rfl|rfl|rfl
  ·have e1:Jna "step" =0:=if_neg Sou
   have e2:cOf a "step" =a.Jit:=if_pos rfl
   refine ⟨_,rfl,rfl,_,rfl,Jw4 rfl ⟨_,rfl,r,0,l,ws,std,rfl,tb1.2.2,rd1,by decide,h7 0 e1.symm,h8,prev1,nd,no1,λM k ns H2 c2 hM0 rd2 hM ar ew ek pv en=>λg dg hg hd ne=>Jrw T.Jcn T.Jdl hg hd ne ⟨ns.map V.int,.lst hM,λy hy=>Juv hy,ar,λH3 s3 ga=>?_⟩⟩⟩
   exact fin g M k ns H2 H3 c2 rd2 (by rw [e1];exact ar) ew ek pv en s3 (by rw [e2];exact ga)
  ·have e1:Jna "flap" =0:=if_neg Sot
   have e2:cOf a "flap" =a.Jiu:=by unfold cOf;rw [if_neg Jzp,if_pos rfl]
   refine ⟨_,rfl,rfl,_,rfl,Job (Jno Jzp) ⟨_,rfl,rfl,_,rfl,Jw4 rfl ⟨_,rfl,r,0,l,ws,std,rfl,tb1.2.2,rd1,by decide,h7 0 e1.symm,h8,prev1,nd,no1,λM k ns H2 c2 hM0 rd2 hM ar ew ek pv en=>λg dg hg hd ne=>Jrw T.Jcr T.Jdm hg hd ne ⟨ns.map V.int,.lst hM,λy hy=>Juv hy,ar,λH3 s3 ga=>?_⟩⟩⟩⟩
   exact fin g M k ns H2 H3 c2 rd2 (by rw [e1];exact ar) ew ek pv en s3 (by rw [e2];exact ga)
  ·have e1:Jna "part" =1:=if_pos rfl
   have e2:cOf a "part" =a.Jiv:=by unfold cOf;rw [if_neg Jzr,if_neg Jzq]
   refine ⟨_,rfl,rfl,_,rfl,Job (Jno Jzr) ⟨_,rfl,rfl,_,rfl,Job (Jno Jzq) ⟨_,rfl,r,1,l,ws,std,rfl,tb1.2.2,rd1,by decide,h7 1 e1.symm,h8,prev1,nd,no1,λM k ns H2 c2 hM0 rd2 hM ar ew ek pv en=>λg dg hg hd ne=>Jrw T.Jcv T.Jdn hg hd ne ⟨ns.map V.int,.lst hM,λy hy=>Juv hy,ar,λH3 s3 ga=>?_⟩⟩⟩⟩
   exact fin g M k ns H2 H3 c2 rd2 (by rw [e1];exact ar) ew ek pv en s3 (by rw [e2];exact ga)
theorem Jml {α β:Type} {F:α->β->Prop} {l₁:List α} {l₂:List β} (r:Paired F l₁ l₂):∀{i:Nat} {x:α},l₁[i]?=some x->∃y,l₂[i]?=some y/\F x y:=by
 induction r with
 |nil=>intro i y h;simp at h
 |cons h t ih=>
  intro i y e
  cases i with
  |zero=>simp at e;subst e;exact ⟨_,rfl,h⟩
  |succ j=>exact ih (by simpa using e)
def NmL (K:Si) (H:Hp) (os:List S5) (zs:List Str):Prop:=Paired (λo z=>∃C dx fs,H o=some (.ins C dx fs)/\Cls K C/\NoAttr K C "name" /\fs.lookup ("name" :Str)=some (V.str z)) os zs
theorem NmL.same {K:Si} {H H':Hp} {os:List S5} {zs:List Str} (s:Sn H H') (h:NmL K H os zs):NmL K H' os zs:=Paired.mapP h λ_ _ ⟨C,dx,fs,h1,h2⟩=>⟨C,dx,fs,s _ _ h1,h2⟩
def Sm4 (K:Si):Sp:=λvs H Q _=>∃(L:S5) (os:List S5) (zs:List Str),vs= [.ref L]/\H L=some (.lst (os.map V.ref))/\NmL K H os zs/\os.length<=100/\∀(D:S5) (H':Hp),Sn H H'->H D=none->H' D=some (.lst (zs.map V.str))->Q (.ref D) H'
theorem Jqk {z:Str} (h:Jlj z=true):Wd 50 z:=by
 unfold Jlj Jme at h
 rw [yac,decide_eq_true_eq,yah] at h
 exact ⟨by omega,λc hc=>Si9.low c (of_decide_eq_true (h.2 c hc))⟩
theorem Jxg {zs:List Str} {z:Str} (h:Jwd zs z=true):Jlj z=true/\z∉zs:=by
 unfold Jwd at h
 rw [yac,decide_eq_true_eq] at h
 exact h
theorem Sp7 {ws:List Str} {a b c d e f g:Str} (h0:ws[0]?=some a) (h1:ws[1]?=some b) (h2:ws[2]?=some c) (h3:ws[3]?=some d) (h4:ws[4]?=some e) (h5:ws[5]?=some f) (h6:ws[6]?=some g):ws=a::b::c::d::e::f::g::ws.drop 7:=by
 refine List.ext_getElem? λi=>?_
 rcases i with _|_|_|_|_|_|_|i
 ·exact h0
 ·exact h1
 ·exact h2
 ·exact h3
 ·exact h4
 ·exact h5
 ·exact h6
 ·show _=(ws.drop 7)[i]?
  rw [List.getElem?_drop]
  congr 1
  omega
def Sm5 (K:Si) (a:Ad):Sp:=λvs H Q E=>∃(r L:S5) (l:Nat) (ws bn:List Str) (std:Nat->Bool) (os:List S5),vs= [.ref r,.ref L]/\Tbs a H/\Saz a H r l 1 ws/\Sip bn ws std/\ws[0]?=some BAS/\std 0=true/\H L=some (.lst (os.map V.ref))/\NmL K H os bn/\os.length<=100/\NoE a r l ws std H E/\
 ∀(o:S5) (B:BTd) (k:Nat) (H':Hp),Btr r H H'->Saz a H' r l k ws->BX a H' o B->TGd B->B.z∉bn->ws[1]?=some B.z->(∀j,j < k->std j=true)->8<=k->(k=ws.length\/k=11)->(k=ws.length->ws=BAS::bws B)->Q (.ref o) H'
def Sde (a:Ad) (H:Hp) (o:S5) (B:Twn):Prop:=∃dx,H o=some (.ins a.Jix dx (twnF (.str B.z) (.str B.b) (.int B.wt)))
structure WGd (B:Twn):Prop where
 nm:Jlj B.z=true
 nb:Jlj B.b=true
 wd:Wd 50 B.z
 wb:Wd 50 B.b
 wt:1<=B.wt/\B.wt<=6
def tws (B:Twn):List Str:=[B.z,B.b,nmS B.wt]
def Skx (bn tn ws:List Str) (std:Nat->Bool):Prop:=Jp8 ws=4/\∀j z,0 < j->ws[j]?=some z->std j=Spi bn tn z j
def Sm6 (K:Si) (a:Ad):Sp:=λvs H Q E=>∃(r L M:S5) (l:Nat) (ws bn tn:List Str) (std:Nat->Bool) (os ps:List S5),vs= [.ref r,.ref L,.ref M]/\Tbs a H/\Saz a H r l 1 ws/\Skx bn tn ws std/\ws[0]?=some TWN/\std 0=true/\H L=some (.lst (os.map V.ref))/\NmL K H os bn/\os.length<=100/\H M=some (.lst (ps.map V.ref))/\NmL K H ps tn/\ps.length<=100/\(∀z∈bn,Jlj z=true)/\NoE a r l ws std H E/\
 ∀(o:S5) (W:Twn) (H':Hp),Btr r H H'->Saz a H' r l 4 ws->Sde a H' o W->WGd W->W.z∉tn->W.b∈bn->ws[1]?=some W.z->(∀j,j < 4->std j=true)->(4=ws.length->ws=TWN::tws W)->Q (.ref o) H'
theorem NmL.btr {K:Si} {a:Ad} {H H':Hp} {r:S5} {l k:Nat} {ws:List Str} {os:List S5} {zs:List Str} (rd:Saz a H r l k ws) (c:Btr r H H') (h:NmL K H os zs):NmL K H' os zs:=Paired.mapP h λo z ⟨C,dx,fs,h1,h2,h3,h4⟩=>⟨C,dx,fs,c _ _ (Jnx rd h1 λC' dx' l k P e=>by
 cases e
 cases h4) h1,h2,h3,h4⟩
theorem GS.gti {H:Hp} {x:V} {n:Nat} (T:Tx K mg a) (g:GS K a H x n):GtI K a H x true:=by
 cases g with
 |plain i ga l=>
  obtain ⟨dx,t,h1,h2⟩:=ga
  rcases i with rfl|rfl|rfl
  ·exact ⟨_,.of (T.Jco.ty T.Jcn h1),T.Je7,T.Jef,_,T.Jec,λ_=>rfl,by intro w';cases w'⟩
  ·exact ⟨_,.of (T.Jcs.ty T.Jcr h1),T.Je8,T.Jeg,_,T.Jed,λ_=>rfl,by intro w';cases w'⟩
  ·exact ⟨_,.of (T.Jcw.ty T.Jcv h1),T.Je9,T.Jeh,_,T.Jee,λ_=>rfl,by intro w';cases w'⟩
theorem Sl0 (T:Tx K mg a) {H1:Hp} {x dx g:S5} {C:BTd} {Q1:Hp->Prop} {E:XK} (tg:TGd C) (gx:GX a H1 (.ref g) C.G) (hx1:H1 x=none) (hd1:H1 dx=none)
  (k:∀H2,Sn H1 H2->BX a H2 x C->Q1 H2):Jxq K a [.ref x,.str C.z,.int C.lo,.int C.hi,.int C.st,.int C.rn,.ref g] (upd (upd H1 dx (.own x)) x (.ins a.Jiw dx [])) (λv H2=>v= .non/\Q1 H2) E:=by
 have bg:=tg.b
 have gs:GS K a H1 (.ref g) (nOf C.G):=gx.gs bg.G
 have sn:Sn H1 (upd (upd H1 dx (.own x)) x (.ins a.Jiw dx [])):=λb o e=>by rw [Jjc (Jjf e hx1),Jjc (Jjf e hd1)];exact e
 have b1:=bg.lo
 have b2:=bg.hi
 have b3:=bg.rn
 have b4:=tg.st
 refine ⟨x,dx,.str C.z,.int C.lo,.int C.hi,.int C.st,.int C.rn,.ref g,true,none,rfl,Sv,⟨.inr ⟨_,.of (.str C.z),rfl⟩,λy e=>by cases e;exact tg.wd.mono (by decide)⟩,.inl ⟨_,rfl⟩,.inl ⟨_,rfl⟩,.inl ⟨_,rfl⟩,.inl ⟨_,rfl⟩,(gs.gti T).same sn,.good C.lo C.hi tg.nm rfl rfl (Jn9 (by omega) (by omega)) (Jn9 (by omega) (by omega)) (Jn9 b4.1 b4.2) (Jn9 (by omega) (by omega)) rfl,λH2 s2=>⟨rfl,?_⟩⟩
 have s3:Sn H1 (upd H2 x (.ins a.Jiw dx (Six (.str C.z) (.int C.lo) (.int C.hi) (.int C.st) (.int C.rn) (.ref g)))):=λb o e=>by rw [Jjc (Jjf e hx1)];exact s2 _ _ (sn _ _ e)
 exact k _ s3 ⟨dx,_,Sv,gx.same s3⟩
theorem Jvn:Jjh ["things"] ["things"] (Jje (top 53)):=⟨rfl,rfl,rfl,by decide +kernel,rfl,by decide +kernel,by decide +kernel⟩
theorem Jr9 (T:Tx K mg a):Jjz P w K mg base CX0 1 a.Jgv a.Jgw ["things"] (Sm4 K):=by
 refine T.Jo.fn.ok Jvn (λvs H Q E h=>?_) (λcdv A outer s H vs Q E hr h=>?_)
 ·obtain ⟨L,os,zs,rfl,_⟩:=h
  rfl
 ·obtain ⟨L,os,zs,rfl,hL,nm,hl,q⟩:=h
  have len:=Paired.length nm
  refine ⟨_,(Jjb (Jji (Jkz (N:=(["thing"]:List Str)) (ini:=[none]) rfl (Jlm (pv 0)) (λ_ _ _ _ _=>(Jk3 (i:=0) (by decide +kernel:(["thing"]:List Str).Nodup) rfl (yf rfl))) (λ_ _ _ _ _=>Jl3) (λ_ _ _ _ _=>(Jq8 (K:=K) rfl (pv 0) (by rfl)))))),?_⟩
  refine ⟨_,rfl,L,rfl,⟨_,Sx.of hL⟩,λD hD=>?_⟩
  refine Jmj (zs.map V.str) hD (by simp;omega) (by simp;omega) hL ?_ ?_
  ·rintro j x y H' Q' hx hy sm kk
   rw [yn] at hx hy
   obtain ⟨o,ho,rfl⟩:=yat.mp hx
   obtain ⟨z,hz,rfl⟩:=yat.mp hy
   obtain ⟨z',hz',C,dx,fs,h1,h2,h3,h4⟩:=Jml nm ho
   rw [hz] at hz'
   cases hz'
   exact ⟨_,rfl,o,C,dx,fs,_,rfl,sm _ _ h1,h2,h3,h4,kk _ (Sn.refl _)⟩
  ·intro H' s' hD'
   exact q D H' s' hD hD'
theorem Sar:Jjh ["reader","basins","name","low","high","start","rain"] ["reader","basins"] (Jje (top 54)):=⟨rfl,rfl,rfl,by decide +kernel,rfl,by decide +kernel,by decide +kernel⟩
theorem Jsr (T:Tx K mg a) (B:Bmn mg base):Jjz P w K mg base (CXX P w) 9 a.Jgx a.Jgy ["reader","basins"] (Sm5 K a):=by
 have Saf:=Jlk (P:=P) (w:=w) T B
 have Su:=Jkl (P:=P) (w:=w) T B
 have Scc:=Jr9 (P:=P) (w:=w) (base:=base) T
 have Sg2:=Juh (P:=P) (w:=w) T B
 have Sdr:=Jsj (P:=P) (w:=w) (base:=base) T
 refine T.Jp.fn.okX Sar (λvs H Q E h=>?_) (λcdv A outer s H vs Q E hr h=>?_)
 ·obtain ⟨r,L,l,ws,bn,std,os,rfl,_⟩:=h
  rfl
 ·obtain ⟨r,L,l,ws,bn,std,os,rfl,tb,rd,bs,w0,st0,hL,nm,hl,no,q⟩:=h
  obtain ⟨nd,hb⟩:=id bs
  refine ⟨?t,?B,?C⟩
  case B=>
   refine' Jj9 ?O0 ?O1
   case O0=>exact (Jjl (i:=2) Sar.nd rfl (yf rfl) (Jkp (pv 0) T.Jd7 T.Jdc Saf Jjt hr (by decide) T.Jcc.bd (So (Jjd T.Jo Scc hr (by decide) (So (pv 1) Ss)) Ss)))
   case O1=>
   refine' Jj9 ?O2 ?O3
   case O2=>exact (Jjl (i:=3) Sar.nd rfl (yf rfl) (Jkp (pv 0) T.Jd7 T.Jdd Su Jjt hr (by decide) T.Jcd.bd (So Sy (So (Jk6 (by rfl) T.Jai (v:=.int 12) ⟨_,rfl⟩) Ss))))
   case O3=>
   refine' Jj9 ?O4 ?O5
   case O4=>exact (Jjl (i:=4) Sar.nd rfl (yf rfl) (Jkp (pv 0) T.Jd7 T.Jdd Su Jjt hr (by decide) T.Jcd.bd (So (pv 3) (So (Jk6 (by rfl) T.Jai (v:=.int 12) ⟨_,rfl⟩) Ss))))
   case O5=>
   refine' Jj9 ?O6 ?O7
   case O6=>exact (Jjl (i:=5) Sar.nd rfl (yf rfl) (Jkp (pv 0) T.Jd7 T.Jdd Su Jjt hr (by decide) T.Jcd.bd (So (pv 3) (So (pv 4) Ss))))
   case O7=>
   refine' Jj9 ?O8 ?O9
   case O8=>exact (Jjl (i:=6) Sar.nd rfl (yf rfl) (Jkp (pv 0) T.Jd7 T.Jdd Su Jjt hr (by decide) T.Jcd.bd (So Sy (So (Jk6 (by rfl) T.Jaj (v:=.int 6) ⟨_,rfl⟩) Ss))))
   case O9=>
   refine' Jjb ?Oa
   case Oa=>
   refine' Jji ?Ob
   case Ob=>exact (Jnv T.Jd1 Sdr Jjt hr (by decide) T.Jc5.bd T.Jbf (pa6 (pv 2) (pv 3) (pv 4) (pv 5) (pv 6) (Jku T.Jn Sg2 Jjt hr (by decide) (So (pv 0) Ss))))
  obtain ⟨dx,P,h1,h2,wd,hk⟩:=id rd
  refine ⟨_,rfl,r,dx,_,rfl,h1,by rfl,_,rfl,L,os,bn,rfl,hL,nm,hl,λD H1 s1 hD0 hD=>?_⟩
  refine ⟨r,D,l,1,ws,bn,rfl,(tb.same s1).2.1,rd.same s1,Sx.of hD,Jma (λz hz=>hb 1 z (by decide) hz) (λj hj=>by rw [show j=0 by omega];exact st0) (by omega) hk (no.on (Btr.of s1)) λz H2 z1 g1 pv2 c2 rd2=>?_⟩
  have tb2:=(tb.same s1).btr (rd.same s1) c2
  have d2:=(Btr.of s1).trans c2
  obtain ⟨nz,mz⟩:=Jxg g1
  obtain ⟨_,_,x2,_,_,k2⟩:=id rd2
  refine ⟨_,rfl,r,_,_,rfl,x2,by rfl,r,0,12,l,2,ws,rfl,tb2.2.2,rd2,Jma (λz hz=>hb 2 z (by decide) hz) pv2 (by omega) k2 (no.on d2) λy2 H3 z2 g2 pv3 c3 rd3=>?_⟩
  have tb3:=tb2.btr rd2 c3
  have d3:=d2.trans c3
  obtain ⟨p2,b2⟩:=Jld g2
  obtain ⟨_,_,x3,_,_,k3⟩:=id rd3
  refine ⟨_,rfl,r,_,_,rfl,x3,by rfl,_,rfl,r,Jk9 y2,12,l,3,ws,rfl,tb3.2.2,rd3,Jma (λz hz=>by rw [hb 3 z (by decide) hz,<-Jny z2];rfl) pv3 (by omega) k3 (no.on d3) λy3 H4 z3 g3 pv4 c4 rd4=>?_⟩
  have tb4:=tb3.btr rd3 c4
  have d4:=d3.trans c4
  obtain ⟨p3,b3⟩:=Jld g3
  obtain ⟨_,_,x4,_,_,k4⟩:=id rd4
  refine ⟨_,rfl,r,_,_,rfl,x4,by rfl,_,rfl,_,rfl,r,Jk9 y2,Jk9 y3,l,4,ws,rfl,tb4.2.2,rd4,Jma (λz hz=>by rw [hb 4 z (by decide) hz,<-Jny z2,<-Jny z3];rfl) pv4 (by omega) k4 (no.on d4) λy4 H5 z4 g4 pv5 c5 rd5=>?_⟩
  have tb5:=tb4.btr rd4 c5
  have d5:=d4.trans c5
  obtain ⟨p4,b4⟩:=Jld g4
  obtain ⟨_,_,x5,_,_,k5⟩:=id rd5
  refine ⟨_,rfl,r,_,_,rfl,x5,by rfl,r,0,6,l,5,ws,rfl,tb5.2.2,rd5,Jma (λz hz=>hb 5 z (by decide) hz) pv5 (by omega) k5 (no.on d5) λy5 H6 z5 g5 pv6 c6 rd6=>?_⟩
  have tb6:=tb5.btr rd5 c6
  have d6:=d5.trans c6
  obtain ⟨p5,b5⟩:=Jld g5
  refine ⟨_,rfl,_,rfl,_,rfl,_,rfl,_,rfl,_,rfl,r,l,bn,ws,std,rfl,tb6,rd6,bs,pv6,no.on d6,λg G k H7 c7 rd7 ga gg sv0 z6 ew ek pv7 en=>?_⟩
  have gx:GX a H7 (.ref g) G:=⟨g,ga,by rw [sv0]⟩
  have tg:TGd ⟨z,Jk9 y2,Jk9 y3,Jk9 y4,Jk9 y5,G⟩:=⟨⟨⟨b2.1,b3.1⟩,b3.2,b5,gg,sv0⟩,b4,nz,Jqk nz⟩
  intro x dx' hx1 hd1 ne
  refine Sl0 (C:=⟨z,Jk9 y2,Jk9 y3,Jk9 y4,Jk9 y5,G⟩) T tg gx hx1 hd1 λH8 s8 bx=>?_
  have gl:=gg.len
  refine q x _ k H8 ((d6.trans c7).trans (Btr.of s8)) (rd7.same s8) bx tg mz z1 pv7 (by omega) en λe=>?_
  have e7:ws.drop 7=G.ns.map nmS:=by
   rw [<-ew,yam]
   rw [yx]
   omega
  rw [Sp7 w0 z1 z2 z3 z4 z5 z6,e7]
  show _=BAS::z::nmS (Jk9 y2)::nmS (Jk9 y3)::nmS (Jk9 y4)::nmS (Jk9 y5)::G.kd::G.ns.map nmS
  rw [<-Jm3 p2 b2.2,<-Jm3 p3 b3.2,<-Jm3 p4 (by omega),<-Jm3 p5 (by omega)]
theorem Sch:Jjh ["reader","basins","towns","name","basin"] ["reader","basins","towns"] (Jje (top 55)):=⟨rfl,rfl,rfl,by decide +kernel,rfl,by decide +kernel,by decide +kernel⟩
theorem Jui (T:Tx K mg a) (B:Bmn mg base):Jjz P w K mg base (CXX P w) 9 a.Jgz a.Jh0 ["reader","basins","towns"] (Sm6 K a):=by
 have Saf:=Jlk (P:=P) (w:=w) T B
 have Sa5:=Jky (P:=P) (w:=w) T B
 have Su:=Jkl (P:=P) (w:=w) T B
 have Scc:=Jr9 (P:=P) (w:=w) (base:=base) T
 have Se3:=Ju9 (P:=P) (w:=w) (base:=base) T
 refine T.Jq.fn.okX Sch (λvs H Q E h=>?_) (λcdv A outer s H vs Q E hr h=>?_)
 ·obtain ⟨r,L,M,l,ws,bn,tn,std,os,ps,rfl,_⟩:=h
  rfl
 ·obtain ⟨r,L,M,l,ws,bn,tn,std,os,ps,rfl,tb,rd,⟨nd,hb⟩,w0,st0,hL,nm,hl,hM,nm',hl',bnm,no,q⟩:=h
  refine ⟨?t,?B,?C⟩
  case B=>
   refine' Jj9 ?O0 ?O1
   case O0=>exact (Jjl (i:=3) Sch.nd rfl (yf rfl) (Jkp (pv 0) T.Jd7 T.Jdc Saf Jjt hr (by decide) T.Jcc.bd (So (Jjd T.Jo Scc hr (by decide) (So (pv 2) Ss)) Ss)))
   case O1=>
   refine' Jj9 ?O2 ?O3
   case O2=>exact (Jjl (i:=4) Sch.nd rfl (yf rfl) (Jkp (pv 0) T.Jd7 T.Jdb Sa5 Jjt hr (by decide) T.Jcb.bd (So (Jjd T.Jo Scc hr (by decide) (So (pv 1) Ss)) Ss)))
   case O3=>
   refine' Jjb ?O4
   case O4=>exact (Jji (Jnv T.Jd4 Se3 Jjt hr (by decide) T.Jc6.bd T.Jbg (So (pv 3) (So (pv 4) (So (Jkp (pv 0) T.Jd7 T.Jdd Su Jjt hr (by decide) T.Jcd.bd (So Sy (So (Jk6 (by rfl) T.Jak (v:=.int 6) ⟨_,rfl⟩) Ss))) Ss)))))
  obtain ⟨dx,P,h1,h2,wd,hk⟩:=id rd
  refine ⟨_,rfl,r,dx,_,rfl,h1,by rfl,_,rfl,M,ps,tn,rfl,hM,nm',hl',λD H1 s1 hD0 hD=>?_⟩
  have rd1:=rd.same s1
  have tb1:=tb.same s1
  have nL:L≠r:=Jnx rd hL λC dx l k P e=>by cases e
  refine ⟨r,D,l,1,ws,tn,rfl,tb1.2.1,rd1,Sx.of hD,Jma (λz hz=>hb 1 z (by decide) hz) (λj hj=>by rw [show j=0 by omega];exact st0) (by omega) hk (no.on (Btr.of s1)) λz H2 z1 g1 pv2 c2 rd2=>?_⟩
  have tb2:=tb1.btr rd1 c2
  have d2:=(Btr.of s1).trans c2
  obtain ⟨nz,mz⟩:=Jxg g1
  obtain ⟨_,_,x2,_,_,k2⟩:=id rd2
  refine ⟨_,rfl,r,_,_,rfl,x2,by rfl,_,rfl,L,os,bn,rfl,c2 _ _ nL (s1 _ _ hL),(nm.same s1).btr rd1 c2,hl,λD3 H3 s3 hD30 hD3=>?_⟩
  have d3:=d2.trans (Btr.of s3)
  refine ⟨r,D3,l,2,ws,bn,rfl,(tb2.same s3).1,rd2.same s3,.inl (Sx.of hD3),Jma (λz hz=>hb 2 z (by decide) hz) pv2 (by omega) k2 (no.on d3) λy2 H4 z2 g2 pv4 c4 rd4=>?_⟩
  have tb4:=(tb2.same s3).btr (rd2.same s3) c4
  have d4:=d3.trans c4
  have mb:y2∈bn:=of_decide_eq_true g2
  have nb:=bnm y2 mb
  obtain ⟨_,_,x4,_,_,k4⟩:=id rd4
  refine ⟨_,rfl,_,rfl,_,rfl,r,_,_,rfl,x4,by rfl,r,1,6,l,3,ws,rfl,tb4.2.2,rd4,Jma (λz hz=>hb 3 z (by decide) hz) pv4 (by omega) k4 (no.on d4) λy3 H5 z3 g3 pv5 c5 rd5=>?_⟩
  obtain ⟨p3,b3⟩:=Jld g3
  have d5:=d4.trans c5
  intro x dx' hx1 hd1 ne
  have sn:Sn H5 (upd (upd H5 dx' (.own x)) x (.ins a.Jix dx' [])):=λb o e=>by rw [Jjc (Jjf e hx1),Jjc (Jjf e hd1)];exact e
  refine ⟨x,dx', .str z,.str y2,.int (Jk9 y3),none,rfl,Sv,⟨.inr ⟨_,.of (.str z),rfl⟩,λy e=>by cases e;exact (Jqk nz).mono (by decide)⟩,⟨.inr ⟨_,.of (.str y2),rfl⟩,λy e=>by cases e;exact (Jqk nb).mono (by decide)⟩,.inl ⟨_,rfl⟩,.good nz nb (Jn9 (by omega) (by omega)),λH6 s6=>⟨rfl,?_⟩⟩
  have s7:Sn H5 (upd H6 x (.ins a.Jix dx' (twnF (.str z) (.str y2) (.int (Jk9 y3))))):=λb o e=>by rw [Jjc (Jjf e hx1)];exact s6 _ _ (sn _ _ e)
  refine q x ⟨z,y2,Jk9 y3⟩ _ (d5.trans (Btr.of s7)) (rd5.same s7) ⟨dx',Sv⟩ ⟨nz,nb,Jqk nz,Jqk nb,b3⟩ mz mb z1 pv5 λe=>?_
  show ws= [TWN,z,y2,nmS (Jk9 y3)]
  rw [<-Jm3 p3 (by omega)]
  refine List.ext_getElem? λi=>?_
  rcases i with _|_|_|_|i
  ·exact w0
  ·exact z1
  ·exact z2
  ·exact z3
  ·rw [yck (by omega)]
   rfl
theorem GX.put {a:Ad} {H:Hp} {D:S5} {x:V} {G:Jo9} {xs:List V} {u:HO} (hD:H D=some (.lst xs)) (h:GX a H x G):GX a (upd H D u) x G:=by
 obtain ⟨g,⟨dy,t,h3,h4⟩,h5⟩:=h
 have n:∀{b:S5} {v:HO},H b=some v->(∀ys,v≠ .lst ys)->(upd H D u) b=some v:=λe ne=>by
  rw [Jjc λz=>?_]
  ·exact e
  ·rw [z,hD] at e
   exact ne _ (yt.inj e).symm
 exact ⟨g,⟨dy,t,n h3 (λ_ z=>by cases z),n h4 (λ_ z=>by cases z)⟩,h5⟩
theorem BX.put {a:Ad} {H:Hp} {o D:S5} {B:BTd} {xs:List V} {u:HO} (hD:H D=some (.lst xs)) (h:BX a H o B):BX a (upd H D u) o B:=by
 obtain ⟨dx,g,h1,h2⟩:=h
 refine ⟨dx,g,?_,h2.put hD⟩
 rw [Jjc λz=>?_]
 ·exact h1
 ·rw [z,hD] at h1
  cases h1
theorem Sde.put {a:Ad} {H:Hp} {o D:S5} {B:Twn} {xs:List V} {u:HO} (hD:H D=some (.lst xs)) (h:Sde a H o B):Sde a (upd H D u) o B:=by
 obtain ⟨dx,h1⟩:=h
 refine ⟨dx,?_⟩
 rw [Jjc λz=>?_]
 ·exact h1
 ·rw [z,hD] at h1
  cases h1
theorem Sde.same {a:Ad} {H H':Hp} {o:S5} {B:Twn} (s:Sn H H') (h:Sde a H o B):Sde a H' o B:=h.elim λdx e=>⟨dx,s _ _ e⟩
theorem Sde.btr {a:Ad} {H H':Hp} {r o:S5} {l k:Nat} {ws:List Str} {B:Twn} (rd:Saz a H r l k ws) (c:Btr r H H') (h:Sde a H o B):Sde a H' o B:=by
 obtain ⟨dx,h1⟩:=h
 exact ⟨dx,c _ _ (Jnx rd h1 λC dx l k P e=>by cases e) h1⟩
theorem Saz.put {a:Ad} {H:Hp} {r D:S5} {l k:Nat} {ws:List Str} {os:List S5} {u:HO} (hD:H D=some (.lst (os.map V.ref))) (h:Saz a H r l k ws):Saz a (upd H D u) r l k ws:=by
 obtain ⟨dx,P,h1,h2,h3⟩:=h
 refine ⟨dx,P,?_,?_,h3⟩
 ·rw [Jjc λz=>?_]
  ·exact h1
  ·rw [z,hD] at h1
   cases h1
 ·rw [Jjc λz=>?_]
  ·exact h2
  ·rw [z,hD] at h2
   have e:=HO.lst.inj (yt.inj h2)
   cases ws with
   |nil=>exact h3.1.1 rfl
   |cons w0 ws=>
    cases os with
    |nil=>cases e
    |cons o os=>cases e
structure RvS (a:Ad) (H:Hp) (L M:S5) (os:List S5) (Bs:List BTd) (ps:List S5) (Ts:List Twn):Prop where
 hL:H L=some (.lst (os.map V.ref))
 hB:Paired (λo B=>BX a H o B) os Bs
 hM:H M=some (.lst (ps.map V.ref))
 hT:Paired (λo B=>Sde a H o B) ps Ts
 ne:L≠M
theorem RvS.same {a:Ad} {H H':Hp} {L M:S5} {os:List S5} {Bs:List BTd} {ps:List S5} {Ts:List Twn} (s:Sn H H') (h:RvS a H L M os Bs ps Ts):RvS a H' L M os Bs ps Ts:=
 ⟨s _ _ h.hL,Paired.mapP h.hB λ_ _ q=>q.same s,s _ _ h.hM,Paired.mapP h.hT λ_ _ q=>q.same s,h.ne⟩
theorem RvS.btr {a:Ad} {H H':Hp} {r L M:S5} {l k:Nat} {ws:List Str} {os:List S5} {Bs:List BTd} {ps:List S5} {Ts:List Twn} (rd:Saz a H r l k ws) (c:Btr r H H') (h:RvS a H L M os Bs ps Ts):RvS a H' L M os Bs ps Ts:=
 ⟨c _ _ (Jnx rd h.hL λC dx l k P e=>by cases e) h.hL,Paired.mapP h.hB λ_ _ q=>q.btr rd c,c _ _ (Jnx rd h.hM λC dx l k P e=>by cases e) h.hM,Paired.mapP h.hT λ_ _ q=>q.btr rd c,h.ne⟩
theorem Jm9 {t1 t2:TS} {D:Sbz} {σ:L2.St} {H:Hp} (Mid:L2.St->Hp->Prop) (h1:∀R,(∀σ H,Mid σ H->R σ H)->t1 {D with nx:=R} σ H) (h2:∀σ H,Mid σ H->t2 D σ H):Sj4 t1 t2 D σ H:=h1 _ h2
def Jv6 (m n:Nat):List Str:=(if m < 16/\n=0 then [BAS] else [])++(if 0 < m/\n < 3 then [TWN] else [])
theorem nTB:TWN≠BAS:=by decide +kernel
theorem nCB:CLD≠BAS:=by decide +kernel
theorem nCT:CLD≠TWN:=by decide +kernel
theorem Jp5 {nx bn tn ws:List Str} (h:ws[0]?=some BAS):Sip bn ws (Jnd nx bn tn ws):=by
 refine ⟨?_,λj z hj hz=>?_⟩
 ·unfold Jp8
  rw [h,if_neg (λe=>nCB (yt.inj e).symm),if_neg (λe=>nTB (yt.inj e).symm)]
 ·unfold Jnd
  rw [hz]
  dsimp only
  rw [if_neg (by omega),h,if_neg (λe=>nCB (yt.inj e).symm),if_neg (λe=>nTB (yt.inj e).symm)]
theorem Jp6 {nx bn tn ws:List Str} (h:ws[0]?=some TWN):Skx bn tn ws (Jnd nx bn tn ws):=by
 refine ⟨?_,λj z hj hz=>?_⟩
 ·unfold Jp8
  rw [h,if_neg (λe=>nCT (yt.inj e).symm),if_pos rfl]
 ·unfold Jnd
  rw [hz]
  dsimp only
  rw [if_neg (by omega),h,if_neg (λe=>nCT (yt.inj e).symm),if_pos rfl]
theorem Jro {nx bn tn ws:List Str} (h:ws[0]?=some CLD):Jp8 ws=3/\∀j z,0 < j->ws[j]?=some z->Jnd nx bn tn ws j=Smb ws z j:=by
 refine ⟨?_,λj z hj hz=>?_⟩
 ·unfold Jp8
  rw [h,if_pos rfl]
 ·unfold Jnd
  rw [hz]
  dsimp only
  rw [if_neg (by omega),h,if_pos rfl]
theorem Jvr {nx bn tn ws:List Str} {z:Str} (h:ws[0]?=some z):Jnd nx bn tn ws 0=decide (z∈nx):=by
 unfold Jnd
 rw [h]
 rfl
theorem Jwc (ws:List Str):3<=Jp8 ws:=by
 unfold Jp8
 split
 ·omega
 ·split <;> omega
def Yb1:Sp:=λvs H Q _=>∃(L M:S5) (os ps:List S5),vs= [.ref L,.ref M]/\H L=some (.lst (os.map V.ref))/\H M=some (.lst (ps.map V.ref))/\∀(D:S5) (H':Hp),Sn H H'->H D=none->H' D=some (.lst ((Jv6 os.length ps.length).map V.str))->Q (.ref D) H'
def FrX (r L M:S5) (H H':Hp):Prop:=∀b u,b≠r->b≠L->b≠M->H b=some u->H' b=some u
def Yb8 (a:Ad):Sp:=λvs H Q E=>∃(r L M:S5) (l:Nat) (ws:List Str) (os ps:List S5) (Bs:List BTd) (Ts:List Twn),vs= [.ref r,.ref L,.ref M]/\Tbs a H/\Saz a H r l 0 ws/\RvS a H L M os Bs ps Ts/\Bs.length<=16/\Ts.length<=3/\(∀B∈Bs,TGd B)/\∃std:Nat->Bool,std=Jnd (Jv6 Bs.length Ts.length) (Bs.map (·.z)) (Ts.map (·.z)) ws/\
 (∀k e H',Jvx std ws k->FrX r L M H H'->NTx a H' e l k->E (.ref a.Jir) (some e) H')/\
 (∀o B H',FrX r L M H H'->RvS a H' L M (os++ [o]) (Bs++ [B]) ps Ts->TGd B->B.z∉Bs.map (·.z)->Bs.length < 16->Ts.length=0->ws=BAS::bws B->Jt6 std ws->Q .non H')/\
 (∀o W H',FrX r L M H H'->RvS a H' L M os Bs (ps++ [o]) (Ts++ [W])->WGd W->W.z∉Ts.map (·.z)->W.b∈Bs.map (·.z)->Ts.length < 3->ws=TWN::tws W->Jt6 std ws->Q .non H')
def Yf (a:Ad):Sp:=λvs H Q E=>∃(r:S5) (l:Nat) (ws:List Str) (std:Nat->Bool),vs= [.ref r]/\Tbs a H/\Saz a H r l 0 ws/\std=Jnd [CLD] [] [] ws/\NoE a r l ws std H E/\∀(t:S5) (c g:Nat) (H':Hp),Btr r H H'->H' t=some (.tup [.int c,.int g])->g<=c->c < 13->ws= [CLD,nmS c,nmS g]->Jt6 std ws->Q (.ref t) H'
theorem Jz2 (T:Tx K mg a) {H:Hp} {os:List S5} {Bs:List BTd} (h:Paired (λo B=>BX a H o B) os Bs):NmL K H os (Bs.map (·.z)):=by
 induction h with
 |nil=>exact .nil
 |cons h t ih=>
  obtain ⟨dx,g,h1,_⟩:=h
  exact .cons ⟨_,dx,_,h1,T.Jcz,T.Jdo,rfl⟩ ih
theorem twn_nm (T:Tx K mg a) {H:Hp} {os:List S5} {Bs:List Twn} (h:Paired (λo B=>Sde a H o B) os Bs):NmL K H os (Bs.map (·.z)):=by
 induction h with
 |nil=>exact .nil
 |cons h t ih=>
  obtain ⟨dx,h1⟩:=h
  exact .cons ⟨_,dx,_,h1,T.Jd2,T.Jdu,rfl⟩ ih
theorem Scw:Jjh ["basins","towns","firsts"] ["basins","towns"] (Jje (top 56)):=⟨rfl,rfl,rfl,by decide +kernel,rfl,by decide +kernel,by decide +kernel⟩
theorem Js4 (T:Tx K mg a):Jjz P w K mg base CX0 1 a.Jh1 a.Jh2 ["basins","towns"] Yb1:=by
 refine T.Jr.fn.ok Scw (λvs H Q E h=>?_) (λcdv A outer s H vs Q E hr h=>?_)
 ·obtain ⟨L,M,os,ps,rfl,_⟩:=h
  rfl
 ·obtain ⟨L,M,os,ps,rfl,hL,hM,q⟩:=h
  refine ⟨?t,?B,?C⟩
  case B=>
   refine' Jj9 ?O0 ?O1
   case O0=>exact (Jjl (i:=2) Scw.nd rfl (yf rfl) (Jju Ss))
   case O1=>
   refine' Jj9 ?O2 ?O3
   case O2=>
    refine' Jjv ?O4 ?O5 ?O6
    case O4=>exact (PW.pt (Jmt (Jjo Jop (Jjk Jjq (by rfl) T.Jav Jkh (So (pv 0) Ss)) (Jk6 (by rfl) T.Jam (v:=.int 16) ⟨_,rfl⟩) (Jjp _)) (Jlz (Jjo Jkv (Jjk Jjq (by rfl) T.Jav Jkh (So (pv 1) Ss)) Sy (Jjp _)))))
    case O5=>
     refine' Jjb ?O7
     case O7=>exact (Jkm (Jll F.plainAttrs_list F.slot_list_append F.type_list_append Jkw (pv 2) (So Jjg Ss)))
    case O6=>exact Jjm
   case O3=>
   refine' Jj9 ?O8 ?O9
   case O8=>
    refine' Jjv ?Oa ?Ob ?Oc
    case Oa=>exact (PW.pt (Jmt (Jjo Jxk (Jjk Jjq (by rfl) T.Jav Jkh (So (pv 0) Ss)) Sy (Jjp _)) (Jlz (Jjo Jop (Jjk Jjq (by rfl) T.Jav Jkh (So (pv 1) Ss)) (Jk6 (by rfl) T.Jan (v:=.int 3) ⟨_,rfl⟩) (Jjp _)))))
    case Ob=>
     refine' Jjb ?Od
     case Od=>exact (Jkm (Jll F.plainAttrs_list F.slot_list_append F.type_list_append Jkw (pv 2) (So Jjg Ss)))
    case Oc=>exact Jjm
   case O9=>
   refine' Jjb ?Oe
   case Oe=>exact (Jji (pv 2))
  refine ⟨(show 0<=Sa by decide),λD hD=>?_⟩
  have keep:∀{H':Hp} {o:HO},Sn H H'->Sn H (upd H' D o):=λs b u z=>by rw [Jjc (Jjf z hD)];exact s _ _ z
  have q1:=keep (o:=.lst []) (Sn.refl H)
  have hD1:(upd H D (.lst [])) D=some (.lst (([]:List Str).map V.str)):=Sv
  generalize upd H D (.lst [])=H1 at q1 hD1⊢
  unfold Jxt
  dsimp only
  refine Jm9 (λσ H2=>σ= [some (.ref L),some (.ref M),some (.ref D)]/\Sn H H2/\H2 D=some (.lst ((if os.length < 16/\ps.length=0 then [BAS] else []).map V.str))) (λR hR=>?_) ?_
  ·have hL1:=q1 _ _ hL
   have hM1:=q1 _ _ hM
   refine ⟨_,rfl,L,_,rfl,.inl (Sx.of hL1),_,_,rfl,rfl,_,rfl,Jlx (λc1=>?_) (λc1=>?_)⟩
   ·have c1:=of_decide_eq_true c1
    rw [ye] at c1
    refine ⟨_,rfl,M,_,rfl,.inl (Sx.of hM1),rfl,_,rfl,Jlx (λc2=>?_) (λc2=>?_)⟩
    ·have c2:=V.int.inj (of_decide_eq_true c2)
     rw [ye] at c2
     exact ⟨_,rfl,.inl ⟨rfl,_,Sx.of hD1⟩,D,_,_,rfl,rfl,hD1,(show 0 < Sa by decide),hR _ _ ⟨rfl,keep q1,by rw [Sv,if_pos ⟨by omega,by omega⟩];rfl⟩⟩
    ·exact hR _ _ ⟨rfl,q1,by rw [hD1,if_neg (λh=>c2 (decide_eq_true (by rw [ye,h.2];rfl)))]⟩
   ·exact Jjw (hR _ _ ⟨rfl,q1,by rw [hD1,if_neg (λh=>c1 (decide_eq_true (by rw [ye];omega)))]⟩)
  ·rintro σ2 H2 ⟨rfl,s2,hD2⟩
   have hL2:=s2 _ _ hL
   have hM2:=s2 _ _ hM
   have l1:(if os.length < 16/\ps.length=0 then [BAS] else []).length<=1:=by split <;> simp
   unfold Jv6 at q
   generalize (if os.length < 16/\ps.length=0 then [BAS] else [])=zs at hD2 l1 q
   refine Jm9 (λσ H3=>σ= [some (.ref L),some (.ref M),some (.ref D)]/\Sn H H3/\H3 D=some (.lst ((zs++(if 0 < os.length/\ps.length < 3 then [TWN] else [])).map V.str))) (λR hR=>?_) ?_
   ·have no:¬(0 < os.length/\ps.length < 3)->R [some (.ref L),some (.ref M),some (.ref D)] H2:=λh=>hR _ _ ⟨rfl,s2,by rw [hD2,if_neg h,yar]⟩
    refine ⟨_,rfl,L,_,rfl,.inl (Sx.of hL2),_,_,rfl,rfl,_,rfl,Jlx (λc1=>?_) (λc1=>?_)⟩
    ·have c1:=of_decide_eq_true c1
     rw [ye] at c1
     refine ⟨_,rfl,M,_,rfl,.inl (Sx.of hM2),_,_,rfl,rfl,_,rfl,Jlx (λc2=>?_) (λc2=>?_)⟩
     ·have c2:=of_decide_eq_true c2
      rw [ye] at c2
      exact ⟨_,rfl,.inl ⟨rfl,_,Sx.of hD2⟩,D,_,_,rfl,rfl,hD2,by rw [ye];exact Jkn (by omega),hR _ _ ⟨rfl,keep s2,by rw [Sv,if_pos ⟨by omega,by omega⟩,yr];rfl⟩⟩
     ·exact no λh=>c2 (decide_eq_true (by rw [ye];omega))
    ·exact Jjw (no λh=>c1 (decide_eq_true (by rw [ye];omega)))
   ·rintro σ3 H3 ⟨rfl,s3,hD3⟩
    exact ⟨_,rfl,q D H3 s3 hD hD3⟩
theorem Jt4:Jjh ["reader","basins","towns"] ["reader","basins","towns"] (Jje (top 57)):=⟨rfl,rfl,rfl,by decide +kernel,rfl,by decide +kernel,by decide +kernel⟩
theorem Jsv (T:Tx K mg a) (B:Bmn mg base):Jjz P w K mg base (CXX P w) 10 a.Jh3 a.Jh4 ["reader","basins","towns"] (Yb8 a):=by
 have Sa5:=Jky (P:=P) (w:=w) T B
 have Ses:=Js4 (P:=P) (w:=w) (base:=base) T
 have Sfc:=Jsr (P:=P) (w:=w) T B
 have Sg3:=Jui (P:=P) (w:=w) T B
 have Sat:=Jm6 (P:=P) (w:=w) (base:=base) T
 refine T.Js.fn.okX Jt4 (λvs H Q E h=>?_) (λcdv A outer s H vs Q E hr h=>?_)
 ·obtain ⟨r,L,M,l,ws,os,ps,Bs,Ts,rfl,_⟩:=h
  rfl
 ·obtain ⟨r,L,M,l,ws,os,ps,Bs,Ts,rfl,tb,rd,rv,hB16,hT3,tgs,std,es,no,qB,qT⟩:=h
  have lo:=Paired.length rv.hB
  have lp:=Paired.length rv.hT
  have nL:L≠r:=Jnx rd rv.hL λC dx l k P e=>by cases e
  have nM:M≠r:=Jnx rd rv.hM λC dx l k P e=>by cases e
  have noE:NoE a r l ws std H E:=λk e H' f c n=>no k e H' f (λb u n1 _ _ z=>c b u n1 z) n
  refine ⟨?t,?B,?C⟩
  case B=>
   refine' Jj9 ?O0 ?O1
   case O0=>
    refine' Jjv ?O2 ?O3 ?O4
    case O2=>exact (Jjo Jkv (Jkp (pv 0) T.Jd7 T.Jdb Sa5 Jjt hr (by decide) T.Jcb.bd (So (Jjd T.Jr Ses hr (by decide) (So (pv 1) (So (pv 2) Ss))) Ss)) Jjg (Jjp _))
    case O3=>
     refine' Jjb ?O5
     case O5=>exact (Jkm (Jll F.plainAttrs_list F.slot_list_append F.type_list_append Jkw (pv 1) (So (Jku T.Jp Sfc Jjt hr (by decide) (So (pv 0) (So (pv 1) Ss))) Ss)))
    case O4=>
    refine' Jjb ?O6
    case O6=>exact (Jkm (Jll F.plainAttrs_list F.slot_list_append F.type_list_append Jkw (pv 2) (So (Jku T.Jq Sg3 Jjt hr (by decide) (So (pv 0) (So (pv 1) (So (pv 2) Ss)))) Ss)))
   case O1=>
   refine' Jjb ?O7
   case O7=>exact (Jkm (Jtn (pv 0) T.Jd7 T.Jde Sat Jjt hr (by decide) T.Jce.bd))
  obtain ⟨dx,P,h1,h2,wd,hk⟩:=id rd
  refine ⟨_,rfl,r,dx,_,rfl,h1,by rfl,_,rfl,_,rfl,L,M,os,ps,rfl,rv.hL,rv.hM,λD H1 s1 hD0 hD=>?_⟩
  rw [lo,lp] at hD
  have rd1:=rd.same s1
  have tb1:=tb.same s1
  have rv1:=rv.same s1
  refine ⟨r,D,l,0,ws,_,rfl,tb1.1,rd1,.inl (Sx.of hD),Jma (λz hz=>by rw [es];exact Jvr hz) (λj hj=>absurd hj (ybq _)) (by have:=Jwc ws;omega) hk (noE.on (Btr.of s1)) λz H2 z0 g0 pv c2 rd2=>?_⟩
  have d2:=(Btr.of s1).trans c2
  have tb2:=tb1.btr rd1 c2
  have rv2:=rv1.btr rd1 c2
  have st0:std 0=true:=pv 0 (by decide)
  have m0:z∈Jv6 Bs.length Ts.length:=of_decide_eq_true g0
  by_cases zb:z=BAS
  ·subst zb
   have hc:Bs.length < 16/\Ts.length=0:=by
    unfold Jv6 at m0
    rcases yy.mp m0 with h|h
    ·split at h
     ·assumption
     ·cases h
    ·split at h
     ·exact absurd (yaf.mp h).symm nTB
     ·cases h
   have bs:Sip (Bs.map (·.z)) ws std:=by rw [es];exact Jp5 z0
   refine ⟨rfl,_,rfl,Jw4 rfl ?_⟩
   refine ⟨_,rfl,.inl ⟨rfl,_,Sx.of rv2.hL⟩,_,rfl,_,rfl,r,L,l,ws,_,std,os,rfl,tb2,rd2,bs,z0,st0,rv2.hL,Jz2 T rv2.hB,by omega,noE.on d2,λo B k H3 c3 rd3 bx tg hz hz1 pv3 k8 en ew=>?_⟩
   have rv3:=rv2.btr rd2 c3
   refine ⟨L,_,_,rfl,rfl,rv3.hL,by rw [ye];exact Jkn (by omega),?_⟩
   have rd4:=rd3.put (u:=.lst (os.map V.ref++ [.ref o])) rv3.hL
   obtain ⟨dx4,P4,g4,_,_,hk4⟩:=id rd4
   have fr:FrX r L M H (upd H3 L (.lst (os.map V.ref++ [.ref o]))):=λb u n1 n2 _ e=>by
    rw [Jjc n2]
    exact c3 _ _ n1 (d2 _ _ n1 e)
   refine ⟨_,rfl,r,dx4,_,rfl,g4,by rfl,r,l,k,ws,rfl,rd4,λe=>?_,λlt e H' s' n=>?_⟩
   ·refine qB o B _ fr ⟨by rw [Sv,yr];rfl,Paired.snoc (Paired.mapP rv3.hB λ_ _ q=>q.put rv3.hL) (bx.put rv3.hL),by rw [Jjc (yh rv.ne)];exact rv3.hM,Paired.mapP rv3.hT λ_ _ q=>q.put rv3.hL,rv.ne⟩ tg hz hc.1 hc.2 (ew e) ⟨λj hj=>pv3 j (by omega),by rw [bs.1];omega⟩
   ·refine no k e H' ⟨pv3,.inl ⟨lt,?_⟩⟩ (λb u n1 n2 n3 z=>s' _ _ (fr b u n1 n2 n3 z)) n
    obtain rfl:k=11:=by omega
    rw [bs.2 11 _ (by omega) (yi lt)]
    rfl
  ·have zt:z=TWN/\0 < Bs.length/\Ts.length < 3:=by
    unfold Jv6 at m0
    rcases yy.mp m0 with h|h
    ·split at h
     ·exact absurd (yaf.mp h) zb
     ·cases h
    ·split at h
     ·rename_i hc
      exact ⟨yaf.mp h,hc⟩
     ·cases h
   obtain ⟨rfl,hc⟩:=zt
   have ts:Skx (Bs.map (·.z)) (Ts.map (·.z)) ws std:=by rw [es];exact Jp6 z0
   refine ⟨rfl,_,rfl,Job (Jno (by decide +kernel)) ?_⟩
   refine ⟨_,rfl,.inl ⟨rfl,_,Sx.of rv2.hM⟩,_,rfl,_,rfl,_,rfl,r,L,M,l,ws,_,_,std,os,ps,rfl,tb2,rd2,ts,z0,st0,rv2.hL,Jz2 T rv2.hB,by omega,rv2.hM,twn_nm T rv2.hT,by omega,λz hz=>?_,noE.on d2,λo W H3 c3 rd3 bx tg hz hb hz1 pv3 ew=>?_⟩
   ·obtain ⟨B,hB,rfl⟩:=yal.mp hz
    exact (tgs B hB).nm
   have rv3:=rv2.btr rd2 c3
   refine ⟨M,_,_,rfl,rfl,rv3.hM,by rw [ye];exact Jkn (by omega),?_⟩
   have rd4:=rd3.put (u:=.lst (ps.map V.ref++ [.ref o])) rv3.hM
   obtain ⟨dx4,P4,g4,_,_,hk4⟩:=id rd4
   have fr:FrX r L M H (upd H3 M (.lst (ps.map V.ref++ [.ref o]))):=λb u n1 _ n2 e=>by
    rw [Jjc n2]
    exact c3 _ _ n1 (d2 _ _ n1 e)
   refine ⟨_,rfl,r,dx4,_,rfl,g4,by rfl,r,l,4,ws,rfl,rd4,λe=>?_,λlt e H' s' n=>?_⟩
   ·exact qT o W _ fr ⟨by rw [Jjc rv.ne];exact rv3.hL,Paired.mapP rv3.hB λ_ _ q=>q.put rv3.hM,by rw [Sv,yr];rfl,Paired.snoc (Paired.mapP rv3.hT λ_ _ q=>q.put rv3.hM) (bx.put rv3.hM),rv.ne⟩ tg hz hb hc.2 (ew e) ⟨λj hj=>pv3 j (by omega),by rw [ts.1];omega⟩
   ·refine no 4 e H' ⟨pv3,.inl ⟨lt,?_⟩⟩ (λb u n1 n2 n3 z=>s' _ _ (fr b u n1 n2 n3 z)) n
    have z4:=yi lt
    rw [ts.2 4 _ (by omega) z4]
    rfl
theorem Sc6:Jjh ["reader","cloud","gain"] ["reader"] (Jje (top 58)):=⟨rfl,rfl,rfl,by decide +kernel,rfl,by decide +kernel,by decide +kernel⟩
theorem Jss (T:Tx K mg a) (B:Bmn mg base):Jjz P w K mg base (CXX P w) 7 a.Jh5 a.Jh6 ["reader"] (Yf a):=by
 have Sa5:=Jky (P:=P) (w:=w) T B
 have Su:=Jkl (P:=P) (w:=w) T B
 have Sat:=Jm6 (P:=P) (w:=w) (base:=base) T
 refine T.Jt.fn.okX Sc6 (λvs H Q E h=>?_) (λcdv A outer s H vs Q E hr h=>?_)
 ·obtain ⟨r,l,ws,std,rfl,_⟩:=h
  rfl
 ·obtain ⟨r,l,ws,std,rfl,tb,rd,es,no,q⟩:=h
  refine ⟨?t,?B,?C⟩
  case B=>
   refine' Jj9 ?O0 ?O1
   case O0=>exact (Jkm (Jkp (pv 0) T.Jd7 T.Jdb Sa5 Jjt hr (by decide) T.Jcb.bd (So (Jju (So Jjg Ss)) Ss)))
   case O1=>
   refine' Jj9 ?O2 ?O3
   case O2=>exact (Jjl (i:=1) Sc6.nd rfl (yf rfl) (Jkp (pv 0) T.Jd7 T.Jdd Su Jjt hr (by decide) T.Jcd.bd (So Sy (So (Jk6 (by rfl) T.Jal (v:=.int 12) ⟨_,rfl⟩) Ss))))
   case O3=>
   refine' Jj9 ?O4 ?O5
   case O4=>exact (Jjl (i:=2) Sc6.nd rfl (yf rfl) (Jkp (pv 0) T.Jd7 T.Jdd Su Jjt hr (by decide) T.Jcd.bd (So Sy (So (pv 1) Ss))))
   case O5=>
   refine' Jj9 ?O6 ?O7
   case O6=>exact (Jkm (Jtn (pv 0) T.Jd7 T.Jde Sat Jjt hr (by decide) T.Jce.bd))
   case O7=>
   refine' Jjb ?O8
   case O8=>exact (Jji (Jkj (So (pv 1) (So (pv 2) Ss))))
  obtain ⟨dx,P,h1,h2,wd,hk⟩:=id rd
  refine ⟨_,rfl,r,dx,_,rfl,h1,by rfl,(show 1<=Sa by decide),λD hD=>?_⟩
  have s1:=Sn.upd (o:=.lst [.str CLD]) hD
  refine ⟨r,D,l,0,ws,[CLD],rfl,(tb.same s1).1,rd.same s1,.inl (Sx.of Sv),Jma (λz hz=>by rw [es];exact Jvr hz) (λj hj=>absurd hj (ybq _)) (by have:=Jwc ws;omega) hk (no.on (Btr.of s1)) λz H2 z0 g0 pv2 c2 rd2=>?_⟩
  have z0:ws[0]?=some CLD:=by rw [z0,yaf.mp (of_decide_eq_true g0)]
  obtain ⟨nd,hb⟩:Jp8 ws=3/\∀j z,0 < j->ws[j]?=some z->std j=Smb ws z j:=by rw [es];exact Jro z0
  have d2:=(Btr.of s1).trans c2
  have tb2:=(tb.same s1).btr (rd.same s1) c2
  obtain ⟨_,_,g2,_,_,k2⟩:=id rd2
  refine ⟨_,rfl,r,_,_,rfl,g2,by rfl,r,0,12,l,1,ws,rfl,tb2.2.2,rd2,Jma (λz hz=>hb 1 z (by decide) hz) pv2 (by omega) k2 (no.on d2) λy1 H3 z1 g1 pv3 c3 rd3=>?_⟩
  have d3:=d2.trans c3
  obtain ⟨p1,b1⟩:=Jld g1
  have tb3:=tb2.btr rd2 c3
  obtain ⟨_,_,g3,_,_,k3⟩:=id rd3
  refine ⟨_,rfl,r,_,_,rfl,g3,by rfl,_,rfl,r,0,Jk9 y1,l,2,ws,rfl,tb3.2.2,rd3,Jma (λz hz=>by rw [hb 2 z (by decide) hz,<-Jny z1];rfl) pv3 (by omega) k3 (no.on d3) λy2 H4 z2 g2 pv4 c4 rd4=>?_⟩
  have d4:=d3.trans c4
  obtain ⟨p2,b2⟩:=Jld g2
  obtain ⟨_,_,g4,_,_,k4⟩:=id rd4
  refine ⟨_,rfl,r,_,_,rfl,g4,by rfl,r,l,3,ws,rfl,rd4,λe=>?_,λlt e H' s' n=>?_⟩
  ·obtain ⟨c,ec⟩:=yas b1.1
   obtain ⟨g,eg⟩:=yas b2.1
   refine ⟨_,rfl,_,rfl,(show 2<=Sa by decide),λt ht=>?_⟩
   refine q t c g _ (d4.trans (Btr.of (Sn.upd ht))) (by rw [Sv,ec,eg]) (by omega) (by omega) ?_ ⟨λj hj=>pv4 j (by omega),by omega⟩
   have e1:nmS (c:Int)=y1:=by rw [show ((c:Nat):Int)=Jk9 y1 from ec.symm];exact (Jm3 p1 (by omega)).symm
   have e2:nmS (g:Int)=y2:=by rw [show ((g:Nat):Int)=Jk9 y2 from eg.symm];exact (Jm3 p2 (by omega)).symm
   rw [e1,e2]
   refine List.ext_getElem? λi=>?_
   rcases i with _|_|_|i
   ·exact z0
   ·exact z1
   ·exact z2
   ·rw [yck (by omega)]
    rfl
  ·refine no 3 e H' ⟨pv4,.inl ⟨lt,?_⟩⟩ (d4.trans (Btr.of s')) n
   have z3:=yi lt
   rw [hb 3 _ (by omega) z3]
   rfl
def noC (c:Nat) (z:Str):Prop:=c∉z.cps.toList
theorem Jqw:∀(ns:List Int) (lo:Int),Jl4 lo (ns.map V.int)=true->∀(j:Nat) (x:Int),ns[j]?=some x->(j=0->lo<=x)/\(∀y,j≠0->ns[j - 1]?=some y->y+1<=x)/\lo<=x/\x<=12:=by
 intro ns
 induction ns with
 |nil=>intro lo _ j x h;simp at h
 |cons m ns ih=>
  intro lo h j x hx
  have h':((decide (lo<=m)&&decide (m<=12))&&Jl4 (m+1) (ns.map V.int))=true:=h
  simp only [yac,decide_eq_true_eq] at h'
  obtain ⟨⟨h1,h2⟩,h3⟩:=h'
  cases j with
  |zero=>
   cases hx
   exact ⟨λ_=>h1,λy n=>absurd rfl n,h1,h2⟩
  |succ j=>
   have hx':ns[j]?=some x:=hx
   obtain ⟨g1,g2,g3,g4⟩:=ih (m+1) h3 j x hx'
   refine ⟨λz=>absurd z (Nat.succ_ne_zero j),λy _ hy=>?_,by omega,g4⟩
   cases j with
   |zero=>cases hy;exact g1 rfl
   |succ j=>exact g2 y (by simp) hy
theorem Jry {c x:Nat}:∀(ws:List Str),x∈(Str.join ⟨#[c]⟩ ws).cps.toList->x=c\/∃w∈ws,x∈w.cps.toList:=by
 intro ws
 induction ws with
 |nil=>
  intro h
  have h':x∈([]:List Nat):=h
  cases h'
 |cons a ws ih=>
  intro h
  cases ws with
  |nil=>exact .inr ⟨a,.head _,h⟩
  |cons b ws=>
   rw [Jof] at h
   rcases yy.mp h with h|h
   ·exact .inr ⟨a,.head _,h⟩
   ·rcases yo.mp h with h|h
    ·exact .inl h
    ·rcases ih h with h|⟨w,hw,h⟩
     ·exact .inl h
     ·exact .inr ⟨w,.tail _ hw,h⟩
theorem Jv7 {c m:Nat}:∀(ws:List Str),(∀w∈ws,w.length<=m)->(Str.join ⟨#[c]⟩ ws).length<=ws.length*(m+1):=by
 intro ws
 induction ws with
 |nil=>intro _;exact yak _
 |cons a ws ih=>
  intro h
  have ha:=h a (.head _)
  cases ws with
  |nil=>
   show a.length<=_
   simp
   omega
  |cons b ws=>
   have q:=ih λw hw=>h w (.tail _ hw)
   rw [<-Jlc,Jof,yq,yad,Jlc,Jlc]
   rw [yad,Nat.succ_mul]
   omega
structure Wrd (z:Str):Prop where
 sp:noC 32 z
 nl:noC 10 z
 len:z.length<=10
theorem Jsh {z:Str} (h:(decide (z.length<=10)&&z.cps.toList.all (λc=>decide (c≠32/\c≠10)))=true):Wrd z:=by
 rw [yac,decide_eq_true_eq,yah] at h
 exact ⟨λm=>(of_decide_eq_true (h.2 _ m)).1 rfl,λm=>(of_decide_eq_true (h.2 _ m)).2 rfl,h.1⟩
theorem Yag:∀n:Nat,n < 13->(decide ((nmS n).length<=10)&&(nmS n).cps.toList.all (λc=>decide (c≠32/\c≠10)))=true:=by decide +kernel
theorem Juz {n:Nat} (h:n < 13):Wrd (nmS n):=Jsh (Yag n h)
theorem Jsg {z:Str} (h:Jlj z=true):Wrd z:=by
 unfold Jlj at h
 rw [yac,decide_eq_true_eq] at h
 obtain ⟨h1,h2⟩:=h
 unfold Jme at h2
 rw [yah] at h2
 have n32:¬(32∈LET.cps.toList):=by decide +kernel
 have n10:¬(10∈LET.cps.toList):=by decide +kernel
 exact ⟨λm=>n32 (of_decide_eq_true (h2 _ m)),λm=>n10 (of_decide_eq_true (h2 _ m)),by omega⟩
theorem Jmr {x:Int} (h0:0<=x) (h1:x<=12):Wrd (nmS x):=by
 obtain ⟨n,rfl⟩:=yas h0
 exact Juz (by omega)
theorem Jxy {B:BTd} (tg:TGd B):∀z∈BAS::bws B,Wrd z:=by
 have b1:=tg.b.lo
 have b2:=tg.b.hi
 have b3:=tg.b.rn
 have b4:=tg.st
 intro z hz
 simp only [bws,gws,List.cons_append,List.nil_append,yo] at hz
 rcases hz with rfl|rfl|rfl|rfl|rfl|rfl|rfl|hz
 ·exact Jsh (by decide +kernel)
 ·exact Jsg tg.nm
 ·exact Jmr (by omega) (by omega)
 ·exact Jmr (by omega) (by omega)
 ·exact Jmr (by omega) (by omega)
 ·exact Jmr (by omega) (by omega)
 ·rcases tg.b.G.kd with e|e|e <;> rw [e] <;> exact Jsh (by decide +kernel)
 ·obtain ⟨x,hx,rfl⟩:=yal.mp hz
  obtain ⟨i,hi,rfl⟩:=List.mem_iff_getElem.mp hx
  have q:=tg.b.G.ns
  unfold Jnq at q
  rw [yac] at q
  have g:=Jqw _ _ q.2 i _ (yi hi)
  have l0:0<=Jna B.G.kd:=by
   unfold Jna
   split <;> omega
  exact Jmr (by omega) g.2.2.2
theorem Ybo {W:Twn} (tg:WGd W):∀z∈TWN::tws W,Wrd z:=by
 have b1:=tg.wt
 intro z hz
 simp only [tws,yo,yae,or_false] at hz
 rcases hz with rfl|rfl|rfl|rfl
 ·exact Jsh (by decide +kernel)
 ·exact Jsg tg.nm
 ·exact Jsg tg.nb
 ·exact Jmr (by omega) (by omega)
theorem Ybn {c g:Nat} (hc:c < 13) (hg:g<=c):∀z∈ [CLD,nmS c,nmS g],Wrd z:=by
 intro z hz
 simp only [yo,yae,or_false] at hz
 rcases hz with rfl|rfl|rfl
 ·exact Jsh (by decide +kernel)
 ·exact Juz hc
 ·exact Juz (by omega)
theorem Jxd {ws:List Str} (h:∀z∈ws,Wrd z) (hl:ws.length<=12):noC 10 (Txt.join SPC ws)/\(Txt.join SPC ws).length<=132:=by
 rw [Jng,Jr3]
 refine ⟨λm=>?_,yv (Jv7 (m:=10) ws λw hw=>(h w hw).len) (by omega)⟩
 rcases Jry ws m with e|⟨w,hw,e⟩
 ·cases e
 ·exact (h w hw).nl e
def rws (c g:Nat) (Bs:List BTd) (Ts:List Twn):List (List Str):=[CLD,nmS c,nmS g]::(Bs.map (λB=>BAS::bws B)++Ts.map λW=>TWN::tws W)
def rtx (c g:Nat) (Bs:List BTd) (Ts:List Twn):Str:=Txt.join NLN ((rws c g Bs Ts).map (Txt.join SPC))
structure RGd (c g:Nat) (Bs:List BTd) (Ts:List Twn):Prop where
 cc:c < 13
 gc:g<=c
 len:1<=Bs.length/\Bs.length<=16
 bas:∀B∈Bs,TGd B
 bn:(Bs.map (·.z)).Nodup
 tl:Ts.length<=3
 twn:∀W∈Ts,WGd W
 tn:(Ts.map (·.z)).Nodup
 tb:∀W∈Ts,W.b∈Bs.map (·.z)
theorem Slw {c g:Nat} {Bs:List BTd} {Ts:List Twn} (h:RGd c g Bs Ts):∀ws∈rws c g Bs Ts,(∀z∈ws,Wrd z)/\ws.length<=12/\ws≠ []:=by
 intro ws hws
 rcases yo.mp hws with rfl|hws
 ·exact ⟨Ybn h.cc h.gc,by simp,by simp⟩
 ·rcases yy.mp hws with hw|hw
  ·obtain ⟨B,hB,rfl⟩:=yal.mp hw
   have l:=(h.bas B hB).b.G.len
   exact ⟨Jxy (h.bas B hB),by simp [bws,gws];omega,by simp⟩
  ·obtain ⟨W,hW,rfl⟩:=yal.mp hw
   exact ⟨Ybo (h.twn W hW),by simp [tws],by simp⟩
theorem Yav (c g:Nat) (Bs:List BTd) (Ts:List Twn):(rws c g Bs Ts).length=1+(Bs.length+Ts.length):=by
 simp [rws]
 omega
theorem Yah (x:Str) (l r:List (List Str)):nms x (l++r)=nms x l++nms x r:=List.filterMap_append ..
theorem Jxh (x:Str) (Bs:List BTd):nms x (Bs.map λB=>BAS::bws B)=if x=BAS then Bs.map (·.z) else []:=by
 unfold nms
 rw [List.filterMap_map]
 by_cases h:x=BAS
 ·rw [if_pos h]
  induction Bs with
  |nil=>rfl
  |cons B r ih=>
   rw [ybk,yaj,ih]
   simp [h,bws]
 ·rw [if_neg h]
  refine List.filterMap_eq_nil_iff.mpr λB _=>?_
  simp [yh h]
theorem Jxj (x:Str) (Ts:List Twn):nms x (Ts.map λW=>TWN::tws W)=if x=TWN then Ts.map (·.z) else []:=by
 unfold nms
 rw [List.filterMap_map]
 by_cases h:x=TWN
 ·rw [if_pos h]
  induction Ts with
  |nil=>rfl
  |cons B r ih=>
   rw [ybk,yaj,ih]
   simp [h,tws]
 ·rw [if_neg h]
  refine List.filterMap_eq_nil_iff.mpr λB _=>?_
  simp [yh h]
theorem Jrk (c g:Nat) (Bs:List BTd) (Ts:List Twn):nms BAS (rws c g Bs Ts)=Bs.map (·.z)/\nms TWN (rws c g Bs Ts)=Ts.map (·.z):=by
 have e:∀x,x≠CLD->nms x (rws c g Bs Ts)=nms x (Bs.map λB=>BAS::bws B)++nms x (Ts.map λW=>TWN::tws W):=λx hx=>by
  rw [<-Yah]
  unfold rws nms
  rw [ybk]
  simp [yh hx]
 constructor
 ·rw [e BAS (yh nCB),Jxh,Jxj,if_pos rfl,if_neg (yh nTB),yar]
 ·rw [e TWN (yh nCT),Jxh,Jxj,if_neg nTB,if_pos rfl,List.nil_append]
def Sol (a:Ad) (H:Hp) (y:S5) (c g:Int) (Bs:List BTd) (Ts:List Twn):Prop:=∃(dx b t:S5) (os ps:List S5),H y=some (.ins a.Jiy dx (Sj3 (.int c) (.int g) (.ref b) (.ref t)))/\H b=some (.tup (os.map V.ref))/\H t=some (.tup (ps.map V.ref))/\Paired (λo B=>BX a H o B) os Bs/\Paired (λo B=>Sde a H o B) ps Ts
theorem Sl1 {K:Si} {a:Ad} {H:Hp} {os:List S5} {Bs:List BTd} (h:Paired (λo B=>BX a H o B) os Bs):(∀B∈Bs,TGd B)->∃Cs:List Bsn,Se0 K a H os Cs/\Cs.map (·.z)=Bs.map (·.z)/\Cs.length=Bs.length:=by
 induction h with
 |nil=>intro _;exact ⟨[],trivial,rfl,rfl⟩
 | @cons o B os Bs h t ih=>
  intro tg
  obtain ⟨Cs,c1,c2,c3⟩:=ih λB' hB'=>tg B' (yan _ hB')
  obtain ⟨dx,g,h1,gx⟩:=h
  exact ⟨⟨B.z,B.lo,B.hi,B.st,B.rn,g,nOf B.G⟩::Cs,⟨⟨dx,h1,gx.gs (tg B (ybb ..)).b.G⟩,c1⟩,by simp [c2],by simp [c3]⟩
theorem twn_of {a:Ad} {H:Hp} {os:List S5} {Bs:List Twn} (h:Paired (λo B=>Sde a H o B) os Bs):Seg a H os Bs:=by
 induction h with
 |nil=>exact trivial
 |cons h t ih=>exact ⟨h,ih⟩
def Jmb (z:Str):List (List Str):=(Txt.split z NLN).map λr=>Txt.split r SPC
theorem Ybe {wss:List (List Str)} {c g i:Nat} {Bs:List BTd} {Ts:List Twn} (h:wss.take (i+1)=rws c g Bs Ts) (ws:List Str):Jr4 wss (i+1) ws=Jnd (Jv6 Bs.length Ts.length) (Bs.map (·.z)) (Ts.map (·.z)) ws:=by
 unfold Jr4 nxt
 rw [if_neg (by omega),h,(Jrk c g Bs Ts).1,(Jrk c g Bs Ts).2]
 unfold firsts Jv6
 rw [ye,ye]
theorem Yj (wss:List (List Str)) (ws:List Str):Jr4 wss 0 ws=Jnd [CLD] [] [] ws:=by
 unfold Jr4 nxt
 rw [if_pos rfl]
 rfl
structure PGd (Bs:List BTd) (Ts:List Twn):Prop where
 len:Bs.length<=16
 bas:∀B∈Bs,TGd B
 bn:(Bs.map (·.z)).Nodup
 tl:Ts.length<=3
 twn:∀W∈Ts,WGd W
 tn:(Ts.map (·.z)).Nodup
 tb:∀W∈Ts,W.b∈Bs.map (·.z)
theorem Jxe {zs:List Str} {z:Str} (h:zs.Nodup) (n:z∉zs):(zs++ [z]).Nodup:=by
 rw [List.nodup_append]
 exact ⟨h,by simp,λx hx y hy e=>n (by rw [<-yaf.mp hy,<-e];exact hx)⟩
theorem PGd.addB {Bs:List BTd} {Ts:List Twn} {B:BTd} (h:PGd Bs Ts) (tg:TGd B) (n:B.z∉Bs.map (·.z)) (l:Bs.length < 16) (t:Ts.length=0):PGd (Bs++ [B]) Ts:=by
 have e:Ts= []:=ybi t
 subst e
 refine ⟨by simp;omega,λC hC=>?_,by rw [yr];exact Jxe h.bn n,by simp,(λ_ h=>nomatch h),by simp,(λ_ h=>nomatch h)⟩
 rcases yy.mp hC with q|q
 ·exact h.bas C q
 ·rw [yaf.mp q];exact tg
theorem PGd.addT {Bs:List BTd} {Ts:List Twn} {W:Twn} (h:PGd Bs Ts) (tg:WGd W) (n:W.z∉Ts.map (·.z)) (b:W.b∈Bs.map (·.z)) (l:Ts.length < 3):PGd Bs (Ts++ [W]):=by
 refine ⟨h.len,h.bas,h.bn,by simp;omega,λC hC=>?_,by rw [yr];exact Jxe h.tn n,λC hC=>?_⟩
 ·rcases yy.mp hC with q|q
  ·exact h.twn C q
  ·rw [yaf.mp q];exact tg
 ·rcases yy.mp hC with q|q
  ·exact h.tb C q
  ·rw [yaf.mp q];exact b
theorem Jp7 {α:Type} {l:List α} {i:Nat} {x:α} {r:List α} (h:l.take i=r) (hx:l[i]?=some x):l.take (i+1)=r++ [x]:=by
 rw [ybc,h,hx]
 rfl
def Yg (K:Si) (a:Ad):Sp:=λvs H Q E=>∃x:V,vs= [x]/\Tbs a H/\
 ((∃t,TyX K H x t/\Sj K t (.type "str")=some false/\∀e H',Sn H H'->NTx a H' e 0 0->E (.ref a.Jir) (some e) H')\/
  (∃z:Str,x= .str z/\Wd 1990 z/\(∀i k e H',Sn H H'->NTx a H' e i k->Res (Jmb z) (some (i,k))->E (.ref a.Jir) (some e) H')/\
   ∀(y:S5) (c g:Nat) (Bs:List BTd) (Ts:List Twn) (H':Hp),Sn H H'->Sol a H' y c g Bs Ts->RGd c g Bs Ts->Jmb z=rws c g Bs Ts->Res (Jmb z) none->Q (.ref y) H'))
theorem Sjv {H1:Hp} {x dx:S5} {l:Nat} {li:Int} {z:Str} {Q1:Hp->Prop} {E:XK} (hl:li=l) (hw:Wd 1990 z) (hx1:H1 x=none) (hd1:H1 dx=none)
  (k:∀H2,Sn H1 H2->Saz a H2 x l 0 (Txt.split z SPC)->Q1 H2):Jvp a [.ref x,.int li,.str z] (upd (upd H1 dx (.own x)) x (.ins a.Jiz dx [])) (λv H2=>v= .non/\Q1 H2) E:=by
 have sn:Sn H1 (upd (upd H1 dx (.own x)) x (.ins a.Jiz dx [])):=λb o e=>by rw [Jjc (Jjf e hx1),Jjc (Jjf e hd1)];exact e
 subst hl
 exact ⟨x,dx,l,z,rfl,Sv,hw,λH2 c2 rd2=>⟨rfl,k H2 (λb o e=>c2 b o (Jjf e hx1) (sn b o e)) rd2⟩⟩
theorem Sas:Jjh ["text","rows","cloud","basins","towns","line"] ["text"] (Jje (top 59)):=⟨rfl,rfl,rfl,by decide +kernel,rfl,by decide +kernel,by decide +kernel⟩
theorem Jsu (T:Tx K mg a) (B:Bmn mg base):Jjz P w K mg base (CXX P w) 11 a.Jh7 a.Jh8 ["text"] (Yg K a):=by
 have Sac:=Jn5 (P:=P) (w:=w) (base:=base) T
 have Sbj:=Jpk (P:=P) (w:=w) (base:=base) T
 have Sfd:=Jss (P:=P) (w:=w) T B
 have Sff:=Jsv (P:=P) (w:=w) T B
 have Sds:=Jsk (P:=P) (w:=w) (base:=base) T
 refine T.Ju.fn.okX Sas (λvs H Q E h=>?_) (λcdv A outer s H vs Q E hr h=>?_)
 ·obtain ⟨x,rfl,_⟩:=h
  rfl
 ·obtain ⟨x,rfl,tb,h⟩:=h
  refine ⟨?t,?B,?C⟩
  case B=>
   refine' Jj9 ?O0 ?O1
   case O0=>
    refine' Jjv ?O2 ?O3 ?O4
    case O2=>exact (Jkf (Jkg (Jjk Jlw (by rfl) T.Jau Jk0 (So (pv 0) (So (Jlu (v:=.ty "str") (by rfl) T.Jb1 Jni rfl) Ss)))))
    case O3=>
     refine' Jjb ?O5
     case O5=>exact (Jkx Jjt rfl (Jm1 T.Jcl Sac hr (by decide) T.Jby.bd T.Jba (So Sy (So Sy Ss))))
    case O4=>exact Jjm
   case O1=>
   refine' Jj9 ?O6 ?O7
   case O6=>exact (Jjl (i:=1) Sas.nd rfl (yf rfl) (Jll F.plainAttrs_str F.slot_str_split F.type_str_split Jq2 (pv 0) (So Jjg Ss)))
   case O7=>
   refine' Jj9 ?O8 ?O9
   case O8=>exact (Jjl (i:=2) Sas.nd rfl (yf rfl) (Jku T.Jt Sfd Jjt hr (by decide) (So (Jxl T.Jd8 Sbj (hr.mono (by decide)) (by rfl) T.Jbi T.Jc8.bd .nil Js6 (So Sy (So (Jk5 Jjs (pv 1) Sy (λ_ _=>rfl)) Ss))) Ss)))
   case O9=>
   refine' Jj9 ?Oa ?Ob
   case Oa=>exact (Jjl (i:=3) Sas.nd rfl (yf rfl) (Jju Ss))
   case Ob=>
   refine' Jj9 ?Oc ?Od
   case Oc=>exact (Jjl (i:=4) Sas.nd rfl (yf rfl) (Jju Ss))
   case Od=>
   refine' Jj9 ?Oe ?Of
   case Oe=>
    refine' Jnm ?Og ?Oh ?Oi ?Oj ?Ok
    case Og=>exact PassesOwn.leaving
    case Oh=>exact rfl
    case Oi=>exact (Jyj (by rfl) T.Jaz (So Sy (So (Jjk Jjq (by rfl) T.Jav Jkh (So (pv 1) Ss)) Ss)))
    case Oj=>exact (Jk3 (i:=5) Sas.nd rfl (yf rfl))
    case Ok=>
    refine' Jjb ?Ol
    case Ol=>exact (Jkm (Jku T.Js Sff Jjt hr (by decide) (So (Jxl T.Jd8 Sbj (hr.mono (by decide)) (by rfl) T.Jbi T.Jc8.bd .nil Js6 (So (pv 5) (So (Jk5 Jjs (pv 1) (pv 5) (λ_ _=>rfl)) Ss))) (So (pv 3) (So (pv 4) Ss)))))
   case Of=>
   refine' Jj9 ?Om ?On
   case Om=>
    refine' Jjv ?Oo ?Op ?Oq
    case Oo=>exact (Jjo Jkv (Jjk Jjq (by rfl) T.Jav Jkh (So (pv 3) Ss)) Sy (Jjp _))
    case Op=>
     refine' Jjb ?Or
     case Or=>exact (Jkx Jjt rfl (Jm1 T.Jcl Sac hr (by decide) T.Jby.bd T.Jba (So (Jjk Jjq (by rfl) T.Jav Jkh (So (pv 1) Ss)) (So Sy Ss))))
    case Oq=>exact Jjm
   case On=>
   refine' Jjb ?Os
   case Os=>
   refine' Jji ?Ot
   case Ot=>exact (Jnv T.Jd6 Sds Jjt hr (by decide) T.Jc7.bd T.Jbh (pa4 (Jk5 Jzj (pv 2) Sy (λ_ _=>rfl)) (Jk5 Jzj (pv 2) Sy (λ_ _=>rfl)) (pv 3) (pv 4)))
  rcases h with ⟨t,ty,e1,no⟩|⟨z,rfl,wz,no,q⟩
  ·refine ⟨_,rfl,_,_,_,_,_,rfl,rfl,ty,e1,_,rfl,Jkb ?_⟩
   exact Jou (l:=0) (k:=0) T λe dx H' s' x1 x2=>no e H' s' ⟨dx,x1,x2⟩
  have rsW:∀r∈Txt.split z NLN,Wd 1990 r:=λr hr=>by
   rw [Jpj] at hr
   exact (Jn8 wz).2.2 r hr
  have rs0:Txt.split z NLN≠ []:=by rw [Jpj];exact (Jn8 wz).1
  have rsl:(Txt.split z NLN).length<=2000:=by rw [Jpj];exact (Jn8 wz).2.1
  have ew:∀i r,(Txt.split z NLN)[i]?=some r->(Jmb z)[i]?=some (Txt.split r SPC):=λi r hr=>by
   unfold Jmb
   rw [yn,hr]
   rfl
  have wl:(Jmb z).length=(Txt.split z NLN).length:=ye ..
  refine ⟨_,rfl,_,_,_,_,_,rfl,rfl,.of (.str _),rfl,_,rfl,Jjw ?_⟩
  refine ⟨_,rfl,rfl,_,NLN,rfl,rfl,by decide +kernel,yv wz.len (by decide),λD hD=>?_⟩
  generalize hrs:Txt.split z NLN=rs at rsW rs0 rsl ew wl
  generalize hwss:Jmb z=wss at no q ew wl
  have s1:=Sn.upd (o:=.lst (rs.map V.str)) hD
  have hD1:(upd H D (.lst (rs.map V.str))) D=some (.lst (rs.map V.str)):=Sv
  generalize upd H D (.lst (rs.map V.str))=H1 at s1 hD1⊢
  obtain ⟨r0,hr0⟩:∃r,rs[0]?=some r:=by
   cases rs with
   |nil=>exact absurd rfl rs0
   |cons r _=>exact ⟨r,rfl⟩
  refine ⟨_,rfl,D,_,0,_,rfl,rfl,Sx.of hD1,Jl7 (j:=0) (by rw [yn,hr0];rfl),?_⟩
  intro x0 dx0 hx0 hd0 ne0
  refine Sjv (l:=0) rfl (rsW r0 (yab hr0)) hx0 hd0 λH2 s2 rd2=>?_
  refine ⟨x0,0,_,_,rfl,(tb.same s1).same s2,rd2,rfl,λk e H' f c n=>?_,λt c g H3 c3 ht gc cc ewc gd=>?_⟩
  ·refine no 0 k e H' (s1.trans (Btr.rest hx0 ((Btr.of s2).trans c))) n ⟨λj hj=>absurd hj (ybq _),.inr ⟨_,ew 0 r0 hr0,?_⟩⟩
   rw [Yj]
   exact f
  have s3:Sn H1 H3:=Btr.rest hx0 ((Btr.of s2).trans c3)
  have gd0:gdL wss 0:=⟨_,ew 0 r0 hr0,by rw [Yj];exact gd⟩
  have hD3:=s3 _ _ hD1
  have s13:=s1.trans s3
  refine ⟨(show 0<=Sa by decide),λL hL=>?_⟩
  have u4:=Sn.upd (o:=.lst []) hL
  refine ⟨(show 0<=Sa by decide),λM hM=>?_⟩
  have u5:=Sn.upd (o:=.lst []) hM
  have hL0:H L=none:=by
   cases hc:H L with
   |none=>rfl
   |some o=>rw [s13 _ _ hc] at hL;cases hL
  have hM0:H M=none:=by
   cases hc:H M with
   |none=>rfl
   |some o=>rw [u4 _ _ (s13 _ _ hc)] at hM;cases hM
  have nLM:L≠M:=λe=>by rw [<-e,Sv] at hM;cases hM
  have rv5:RvS a (upd (upd H3 L (.lst [])) M (.lst [])) L M [] [] [] []:=⟨u5 _ _ Sv,.nil,Sv,.nil,nLM⟩
  have s5:=s13.trans (u4.trans u5)
  have hD5:=u5 _ _ (u4 _ _ hD3)
  have ht5:=u5 _ _ (u4 _ _ ht)
  have nDL:D≠L:=λe=>by rw [<-e,hD3] at hL;cases hL
  have nDM:D≠M:=λe=>by rw [<-e,u4 _ _ hD3] at hM;cases hM
  generalize upd (upd H3 L (.lst [])) M (.lst [])=H5 at rv5 s5 hD5 ht5⊢
  have l1:1<=rs.length:=(yz.mp hr0).1
  refine ⟨_,rfl,D,_,rfl,.inl (Sx.of hD5),?_⟩
  refine ⟨1,_,rfl,⟨by decide,by decide,by omega,by simp only [ye];omega⟩,?_⟩
  have en:((((rs.map V.str).length:Nat):Int) - 1).toNat=rs.length - 1:=by
   simp only [ye]
   omega
  rw [en]
  refine Jn1 (lo:=1) (λi σ H'=>∃(os ps:List S5) (Bs:List BTd) (Ts:List Twn) (o5:Option V),σ= [some (.str z),some (.ref D),some (.ref t),some (.ref L),some (.ref M),o5]/\Sn H H'/\H' D=some (.lst (rs.map V.str))/\H' t=some (.tup [.int c,.int g])/\RvS a H' L M os Bs ps Ts/\wss.take (i+1)=rws c g Bs Ts/\(∀j,j < i+1->gdL wss j)/\PGd Bs Ts) ⟨[],[],[],[],_,rfl,s5,hD5,ht5,rv5,Jp7 rfl ((ew 0 r0 hr0).trans (by rw [ewc])),λj hj=>by rw [show j=0 by omega];exact gd0,⟨by simp,(λ_ h=>nomatch h),by simp,by simp,(λ_ h=>nomatch h),by simp,(λ_ h=>nomatch h)⟩⟩ ?_ ?_
  ·rintro i σ H' hi ⟨os,ps,Bs,Ts,o5,rfl,sm,hD',ht',rv,et,gds,pg⟩
   obtain ⟨ri,hri⟩:∃r,rs[i+1]?=some r:=⟨_,yi (by omega)⟩
   have ntL:t≠L:=λe=>by rw [e,rv.hL] at ht';cases ht'
   have ntM:t≠M:=λe=>by rw [e,rv.hM] at ht';cases ht'
   refine ⟨_,rfl,_,rfl,_,rfl,D,_,_,_,rfl,rfl,Sx.of hD',(show atI (rs.map V.str) (1+(i:Int))=some (.str ri) by rw [show (1:Int)+(i:Int)=((i+1:Nat):Int) by omega];exact Jl7 (by rw [yn,hri];rfl)),?_⟩
   intro r dr hr' hdr ner
   refine Sjv (l:=i+1) (by omega) (rsW ri (yab hri)) hr' hdr λH2 s2 rd2=>?_
   have rv2:=rv.same s2
   have hw:=ew _ _ hri
   generalize Txt.split ri SPC=ws at rd2 hw
   have es:=Ybe et ws
   have keep:∀{H3:Hp},FrX r L M H2 H3->Sn H H3:=λfr b u e=>fr b u (Jjf (sm _ _ e) hr') (λz=>by rw [z,hL0] at e;cases e) (λz=>by rw [z,hM0] at e;cases e) (s2 _ _ (sm _ _ e))
   have gdn:Jt6 (Jr4 wss (i+1) ws) ws->∀j,j < i+1+1->gdL wss j:=λg j hj=>by
    rcases ybh j (i+1) with h|h
    ·exact gds j h
    ·rw [show j=i+1 by omega]
     exact ⟨ws,hw,g⟩
   refine ⟨_,rfl,_,rfl,r,L,M,i+1,ws,os,ps,Bs,Ts,rfl,(tb.same sm).same s2,rd2,rv2,pg.len,pg.tl,pg.bas,_,es,λk e H3 f fr n=>?_,λo B H3 fr rv3 tg hz hb ht ewb gd'=>?_,λo W H3 fr rv3 tg hz hb ht ewb gd'=>?_⟩
   ·exact no (i+1) k e H3 (keep fr) n ⟨gds,.inr ⟨ws,hw,f⟩⟩
   ·refine ⟨os++ [o],ps,Bs++ [B],Ts,_,rfl,keep fr,fr _ _ (Jjf hD' hr') nDL nDM (s2 _ _ hD'),fr _ _ (Jjf ht' hr') ntL ntM (s2 _ _ ht'),rv3,?_,gdn gd',pg.addB tg hz hb ht⟩
    rw [Jp7 et hw,ybi ht,ewb]
    simp [rws]
   ·refine ⟨os,ps++ [o],Bs,Ts++ [W],_,rfl,keep fr,fr _ _ (Jjf hD' hr') nDL nDM (s2 _ _ hD'),fr _ _ (Jjf ht' hr') ntL ntM (s2 _ _ ht'),rv3,?_,gdn gd',pg.addT tg hz hb ht⟩
    rw [Jp7 et hw,ewb]
    simp [rws]
  ·rintro σ H' ⟨os,ps,Bs,Ts,o5,rfl,sm,hD',ht',rv,et,gds,pg⟩
   have lo:=Paired.length rv.hB
   have lp:=Paired.length rv.hT
   rw [yam (by omega)] at et
   have gdA:∀j,j < wss.length->gdL wss j:=λj hj=>gds j (by omega)
   have nb:=(Jrk c g Bs Ts).1
   rw [<-et] at nb
   have b16:=pg.len
   have t3:=pg.tl
   refine ⟨_,rfl,L,_,rfl,.inl (Sx.of rv.hL),rfl,_,rfl,Jlx (λce=>?_) (λce=>?_)⟩
   ·have ce:=V.int.inj (of_decide_eq_true ce)
    rw [ye] at ce
    have bz:Bs= []:=ybi (by omega)
    refine ⟨_,rfl,D,_,rfl,.inl (Sx.of hD'),?_⟩
    rw [ye]
    exact Jou (l:=(rs.length:Nat)) (k:=(0:Nat)) T λe dx H3 s' x1 x2=>no rs.length 0 e H3 (sm.trans s') ⟨dx,x1,x2⟩ ⟨λj hj=>gdA j (by omega),.inl ⟨wl.symm,rfl,by rw [nb,bz];rfl⟩⟩
   ·have b0:1<=Bs.length:=by
     rcases ybv Bs.length with h|h
     ·exact absurd (decide_eq_true (by rw [ye,lo,h];rfl)) ce
     ·exact h
    have rg:RGd c g Bs Ts:=⟨cc,gc,⟨b0,b16⟩,pg.bas,pg.bn,t3,pg.twn,pg.tn,pg.tb⟩
    refine ⟨_,rfl,t,_,0,_,rfl,rfl,SqT.of ht',rfl,_,rfl,t,_,1,_,rfl,rfl,SqT.of ht',rfl,_,rfl,_,rfl,?_⟩
    intro y dy hy hdy ne
    have sn:Sn H' (upd (upd H' dy (.own y)) y (.ins a.Jiy dy [])):=λb o e=>by rw [Jjc (Jjf e hy),Jjc (Jjf e hdy)];exact e
    obtain ⟨Cs,bl,cz,cl'⟩:=Sl1 (K:=K) (Paired.mapP rv.hB λ_ _ q=>q.same sn) rg.bas
    refine ⟨y,dy,L,M,c,g,os,ps,Cs,Ts,rfl,Sv,⟨by omega,by omega⟩,⟨by omega,by omega⟩,sn _ _ rv.hL,bl,by omega,by rw [cz];exact rg.bn,sn _ _ rv.hM,twn_of (Paired.mapP rv.hT λ_ _ q=>q.same sn),t3,rg.tn,λW hW=>by rw [cz];exact rg.tb W hW,λH8 b t s8 hb ht nb nt=>⟨rfl,?_⟩⟩
    have s9:Sn H' (upd H8 y (.ins a.Jiy dy (Sj3 (.int c) (.int g) (.ref b) (.ref t)))):=λd o e=>by
     rw [Jjc (Jjf e hy)]
     exact s8 _ _ (sn _ _ e)
    refine q y c g Bs Ts _ (sm.trans s9) ⟨dy,b,t,os,ps,Sv,by rw [Jjc nb];exact hb,by rw [Jjc nt];exact ht,Paired.mapP rv.hB λ_ _ q=>q.same s9,Paired.mapP rv.hT λ_ _ q=>q.same s9⟩ rg et ⟨gdA,?_⟩
    intro e
    rw [et,(Jrk c g Bs Ts).1] at e
    have:=congrArg List.length e
    rw [ye,ybt] at this
    omega
theorem Jzk {c:Nat} (ys:List Str) (h:ys≠ []):∀xs:List Str,Str.join ⟨#[c]⟩ (xs++ [Str.join ⟨#[c]⟩ ys])=Str.join ⟨#[c]⟩ (xs++ys):=by
 intro xs
 induction xs with
 |nil=>rfl
 |cons a xs ih=>
  obtain ⟨y,r,rfl⟩:=List.exists_cons_of_ne_nil h
  cases xs with
  |nil=>rfl
  |cons b xs=>
   show a++(⟨#[c]⟩:Str)++Str.join ⟨#[c]⟩ (b::xs++ [_])=a++(⟨#[c]⟩:Str)++Str.join ⟨#[c]⟩ (b::xs++(y::r))
   rw [ih]
def wOf:V->Str
 | .str z=>z
 | .int i=>nmS i
 |_=>SPC
def Prt (v:V):Prop:=(∃z:Str,v= .str z/\z.length<=200)\/∃i:Int,v= .int i/\0<=i/\i<=12
def Ybc:Sp:=λvs H Q _=>∃(z:Str) (t:S5) (ns:List Int),vs= [.str z,.ref t]/\H t=some (.tup (ns.map V.int))/\(1<=ns.length/\ns.length<=4)/\(∀x∈ns,0<=x/\x<=12)/\z.length<=10/\∀H',Sn H H'->Q (.str (Txt.join SPC (z::ns.map nmS))) H'
def Yd:Sp:=λvs H Q _=>∃(L:S5) (xs:List V),vs= [.ref L]/\H L=some (.lst xs)/\(∀x∈xs,Prt x)/\xs.length<=10/\∀H',Sn H H'->Q (.str (Txt.join SPC (xs.map wOf))) H'
theorem Ybk {x:V} (h:Prt x):(wOf x).length<=200:=by
 rcases h with ⟨z,rfl,hz⟩|⟨i,rfl,h0,h1⟩
 ·exact hz
 ·exact yv (Jmr h0 h1).len (by decide)
theorem Jwr {m:Nat}:∀ys:List Str,(∀y∈ys,y.length<=m)->(ys.map (·.length)).sum<=ys.length*m:=by
 intro ys
 induction ys with
 |nil=>intro _;simp
 |cons y ys ih=>
  intro h
  have h1:=h y (.head _)
  have h2:=ih λz hz=>h z (.tail _ hz)
  rw [yaj,List.sum_cons,yad,Nat.succ_mul]
  omega
theorem Jvo:Jjh ["name","marks"] ["name","marks"] (Jje (top 25)):=⟨rfl,rfl,rfl,by decide +kernel,rfl,by decide +kernel,by decide +kernel⟩
theorem Joo (T:Tx K mg a):Jjz P w K mg base CX0 1 a.Jfd a.Jfe ["name","marks"] Ybc:=by
 refine T.Jd.fn.ok Jvo (λvs H Q E h=>?_) (λcdv A outer s H vs Q E hr h=>?_)
 ·obtain ⟨z,t,ns,rfl,_⟩:=h
  rfl
 ·obtain ⟨z,t,ns,rfl,ht,hn,hb,hz,q⟩:=h
  refine ⟨?t,?B,?C⟩
  case B=>
   refine' Jjb ?O0
   case O0=>exact (Jji (Jll F.plainAttrs_str F.slot_str_join F.type_str_join Jp4 Jjg (So (Jjn Jks (Jju (So (pv 0) Ss)) (Jkz (N:=(["mark"]:List Str)) (ini:=[none]) rfl (Jwl (pv 1)) (λ_ _ _ _ _=>(Jk3 (i:=0) (by decide +kernel:(["mark"]:List Str).Nodup) rfl (yf rfl))) (λ_ _ _ _ _=>Jl3) (λ_ _ _ _ _=>(Jkd Jlt (by rfl) T.Jb1 Jni (So (pv 0) Ss))))) Ss)))
  refine ⟨rfl,_,rfl,(show 1<=Sa by decide),λz1 hz1=>?_⟩
  have q1:=Sn.upd (o:=.lst [.str z]) hz1
  refine ⟨_,rfl,t,rfl,⟨_,SqT.of (q1 _ _ ht)⟩,λD hD=>?_⟩
  refine Jqr ((ns.map nmS).map V.str) hD (by simp) (by simp;omega) (q1 _ _ ht) ?_ ?_
  ·rintro j x y H' Q' hx hy sm kk
   rw [yn] at hx hy
   obtain ⟨i,hi,rfl⟩:=yat.mp hx
   rw [yn,hi] at hy
   cases hy
   have bi:=hb i (yab hi)
   refine ⟨_,rfl,i,rfl,?_,kk _ (Sn.refl _)⟩
   exact yay (yci _) (by omega)
  ·intro H2 s2 hD2
   have hz2:=s2 _ _ (Sv (H:=H) (a:=z1) (o:=.lst [.str z]))
   refine ⟨z1,D,_,_,rfl,rfl,hz2,hD2,?_,λW hW=>?_⟩
   ·simp
    exact Jjx _ (by omega)
   refine ⟨SPC,W,z::ns.map nmS,rfl,rfl,Sx.of (by rw [Sv];rfl),?_,q _ ((q1.trans s2).trans (Sn.upd hW))⟩
   have l:=Jwr (m:=10) (z::ns.map nmS) (λy hy=>by
    rcases yo.mp hy with rfl|hy
    ·exact hz
    ·obtain ⟨x,hx,rfl⟩:=yal.mp hy
     exact (Jmr (hb x hx).1 (hb x hx).2).len)
   have e:SPC.length=1:=by decide +kernel
   have ll:(z::ns.map nmS).length=ns.length+1:=by rw [yad,ye]
   rw [e]
   omega
theorem Jwp:Jjh ["parts"] ["parts"] (Jje (top 46)):=⟨rfl,rfl,rfl,by decide +kernel,rfl,by decide +kernel,by decide +kernel⟩
theorem Jpn (T:Tx K mg a):Jjz P w K mg base CX0 1 a.Jg5 a.Jg6 ["parts"] Yd:=by
 refine T.Ji.fn.ok Jwp (λvs H Q E h=>?_) (λcdv A outer s H vs Q E hr h=>?_)
 ·obtain ⟨L,xs,rfl,_⟩:=h
  rfl
 ·obtain ⟨L,xs,rfl,hL,hp,hl,q⟩:=h
  refine ⟨?t,?B,?C⟩
  case B=>
   refine' Jjb ?O0
   case O0=>exact (Jji (Jll F.plainAttrs_str F.slot_str_join F.type_str_join Jp4 Jjg (So (Jkz (N:=(["part"]:List Str)) (ini:=[none]) rfl (Jlm (pv 0)) (λ_ _ _ _ _=>(Jk3 (i:=0) (by decide +kernel:(["part"]:List Str).Nodup) rfl (yf rfl))) (λ_ _ _ _ _=>Jl3) (λ_ _ _ _ _=>(Jkd Jy3 (by rfl) T.Jb1 Jni (So (pv 0) Ss)))) Ss)))
  refine ⟨rfl,_,rfl,L,rfl,⟨_,Sx.of hL⟩,λD hD=>?_⟩
  refine Jmj ((xs.map wOf).map V.str) hD (by simp) (by omega) hL ?_ ?_
  ·rintro j x y H' Q' hx hy sm kk
   rw [yn,yn,hx] at hy
   cases hy
   rcases hp x (yab hx) with ⟨z,rfl,hz⟩|⟨i,rfl,h0,h1⟩
   ·exact ⟨_,rfl,.inr ⟨z,rfl,kk _ (Sn.refl _)⟩⟩
   ·exact ⟨_,rfl,.inl ⟨i,rfl,yay (yci _) (by omega),kk _ (Sn.refl _)⟩⟩
  ·intro H2 s2 hD2
   refine ⟨SPC,D,xs.map wOf,rfl,rfl,Sx.of hD2,?_,q _ s2⟩
   have l:=Jwr (m:=200) (xs.map wOf) (λy hy=>by
    obtain ⟨x,hx,rfl⟩:=yal.mp hy
    exact Ybk (hp x hx))
   have e:SPC.length=1:=by decide +kernel
   have ll:(xs.map wOf).length=xs.length:=ye ..
   rw [e]
   omega
theorem Ybl {B:BTd} (tg:TGd B):∀x∈B.G.ns,0<=x/\x<=12:=λx hx=>by
 obtain ⟨i,hi,rfl⟩:=List.mem_iff_getElem.mp hx
 have q:=tg.b.G.ns
 unfold Jnq at q
 rw [yac] at q
 have g:=Jqw _ _ q.2 i _ (yi hi)
 have l0:0<=Jna B.G.kd:=by
  unfold Jna
  split <;> omega
 exact ⟨by omega,g.2.2.2⟩
def Jsd (C:S5) (kd:Str):Sp:=λvs H Q _=>∃(g:S5) (ns:List Int),vs= [.ref g]/\Sce C H g (ns.map V.int)/\(1<=ns.length/\ns.length<=4)/\(∀x∈ns,0<=x/\x<=12)/\∀H',Sn H H'->Q (.str (Txt.join SPC (kd::ns.map nmS))) H'
def Yb0 (a:Ad):Sp:=λvs H Q _=>∃(o:S5) (B:BTd),vs= [.ref o]/\BX a H o B/\TGd B/\∀H',Sn H H'->Q (.str (Txt.join SPC (BAS::bws B))) H'
def Yb7 (a:Ad):Sp:=λvs H Q _=>∃(o:S5) (W:Twn),vs= [.ref o]/\Sde a H o W/\WGd W/\∀H',Sn H H'->Q (.str (Txt.join SPC (TWN::tws W))) H'
def Sm7 (a:Ad):Sp:=λvs H Q _=>∃(y:S5) (c g:Nat) (Bs:List BTd) (Ts:List Twn),vs= [.ref y]/\Sol a H y c g Bs Ts/\RGd c g Bs Ts/\∀H',Sn H H'->Q (.str (rtx c g Bs Ts)) H'
theorem Jqe:Jjh ["self"] ["self"] (Jje (Jjj (top 27) 3)):=⟨rfl,rfl,rfl,by decide +kernel,rfl,by decide +kernel,by decide +kernel⟩
theorem Jq5 (T:Tx K mg a):Jjz P w K mg base CX0 2 a.Jfh a.Jfi ["self"] (Jsd a.Jit "step"):=by
 have Sbx:=Joo (P:=P) (w:=w) (base:=base) T
 refine T.Jc0.fn.ok Jqe (λvs H Q E h=>?_) (λcdv A outer s H vs Q E hr h=>?_)
 ·obtain ⟨g,ns,rfl,_⟩:=h
  rfl
 ·obtain ⟨g,ns,rfl,⟨dx,t,h1,h2⟩,hn,hb,q⟩:=h
  refine ⟨_,(Jjb (Jji (Jjd T.Jd Sbx hr (by decide) (So Jjg (So (Jkq (pv 0) (by rfl)) Ss))))),?_⟩
  exact ⟨_,rfl,g,_,dx,_,_,rfl,h1,T.Jcn,T.Jdl,rfl,_,t,ns,rfl,h2,hn,hb,by decide +kernel,q⟩
theorem Jqb:Jjh ["self"] ["self"] (Jje (Jjj (top 28) 3)):=⟨rfl,rfl,rfl,by decide +kernel,rfl,by decide +kernel,by decide +kernel⟩
theorem Jq3 (T:Tx K mg a):Jjz P w K mg base CX0 2 a.Jfl a.Jfm ["self"] (Jsd a.Jiu "flap"):=by
 have Sbx:=Joo (P:=P) (w:=w) (base:=base) T
 refine T.Jc2.fn.ok Jqb (λvs H Q E h=>?_) (λcdv A outer s H vs Q E hr h=>?_)
 ·obtain ⟨g,ns,rfl,_⟩:=h
  rfl
 ·obtain ⟨g,ns,rfl,⟨dx,t,h1,h2⟩,hn,hb,q⟩:=h
  refine ⟨_,(Jjb (Jji (Jjd T.Jd Sbx hr (by decide) (So Jjg (So (Jkq (pv 0) (by rfl)) Ss))))),?_⟩
  exact ⟨_,rfl,g,_,dx,_,_,rfl,h1,T.Jcr,T.Jdm,rfl,_,t,ns,rfl,h2,hn,hb,by decide +kernel,q⟩
theorem Jqc:Jjh ["self"] ["self"] (Jje (Jjj (top 29) 3)):=⟨rfl,rfl,rfl,by decide +kernel,rfl,by decide +kernel,by decide +kernel⟩
theorem Jq4 (T:Tx K mg a):Jjz P w K mg base CX0 2 a.Jfp a.Jfq ["self"] (Jsd a.Jiv "part"):=by
 have Sbx:=Joo (P:=P) (w:=w) (base:=base) T
 refine T.Jc4.fn.ok Jqc (λvs H Q E h=>?_) (λcdv A outer s H vs Q E hr h=>?_)
 ·obtain ⟨g,ns,rfl,_⟩:=h
  rfl
 ·obtain ⟨g,ns,rfl,⟨dx,t,h1,h2⟩,hn,hb,q⟩:=h
  refine ⟨_,(Jjb (Jji (Jjd T.Jd Sbx hr (by decide) (So Jjg (So (Jkq (pv 0) (by rfl)) Ss))))),?_⟩
  exact ⟨_,rfl,g,_,dx,_,_,rfl,h1,T.Jcv,T.Jdn,rfl,_,t,ns,rfl,h2,hn,hb,by decide +kernel,q⟩
theorem GX.words {H:Hp} {x:V} {G:Jo9} (T:Tx K mg a) (gg:Sey G) (hb:∀x∈G.ns,0<=x/\x<=12) (gx:GX a H x G):
  ∃o C dx fs f fd ps sp k',x= .ref o/\H o=some (.ins C dx fs)/\fs.lookup ("words" :Str)=none/\Cls K C/\Jph K C "words" f/\Jjz P w K mg base CX0 k' f fd ps sp/\k'<=2/\Sbh K fd ps []/\∀Q:VK,(∀H',Sn H H'->Q (.str (Txt.join SPC (gws G))) H')->sp [x] H Q E0:=by
 obtain ⟨g,ga,r⟩:=gx
 obtain ⟨dx,t,h1,h2⟩:=id ga
 cases e:G.sv with
 |none=>
  rw [e] at r
  subst r
  unfold gws
  rcases gg.kd with q|q|q
  ·rw [q,show cOf a "step" =a.Jit from if_pos rfl] at h1 ga
   rw [q]
   exact ⟨g,_,dx,_,_,_,_,_,2,rfl,h1,rfl,T.Jcn,T.Jcq,Jq5 T,by decide,T.Jc0.bd,λQ k=>⟨g,G.ns,rfl,ga,gg.len,hb,k⟩⟩
  ·rw [q,show cOf a "flap" =a.Jiu by unfold cOf;rw [if_neg Jzp,if_pos rfl]] at h1 ga
   rw [q]
   exact ⟨g,_,dx,_,_,_,_,_,2,rfl,h1,rfl,T.Jcr,T.Jcu,Jq3 T,by decide,T.Jc2.bd,λQ k=>⟨g,G.ns,rfl,ga,gg.len,hb,k⟩⟩
  ·rw [q,show cOf a "part" =a.Jiv by unfold cOf;rw [if_neg Jzr,if_neg Jzq]] at h1 ga
   rw [q]
   exact ⟨g,_,dx,_,_,_,_,_,2,rfl,h1,rfl,T.Jcv,T.Jcy,Jq4 T,by decide,T.Jc4.bd,λQ k=>⟨g,G.ns,rfl,ga,gg.len,hb,k⟩⟩
 |some j=>
  rw [e] at r
  exact r.elim
theorem Jsz:Jjh ["basin"] ["basin"] (Jje (top 47)):=⟨rfl,rfl,rfl,by decide +kernel,rfl,by decide +kernel,by decide +kernel⟩
theorem Jsm (T:Tx K mg a):Jjz P w K mg base CX0 3 a.Jg7 a.Jg8 ["basin"] (Yb0 a):=by
 have Sc7:=Jpn (P:=P) (w:=w) (base:=base) T
 refine T.Jj.fn.ok Jsz (λvs H Q E h=>?_) (λcdv A outer s H vs Q E hr h=>?_)
 ·obtain ⟨o,B,rfl,_⟩:=h
  rfl
 ·obtain ⟨o,B,rfl,⟨dx,g,ho,gx⟩,tg,q⟩:=h
  have b1:=tg.b.lo
  have b2:=tg.b.hi
  have b3:=tg.b.rn
  have b4:=tg.st
  obtain ⟨og,C,dg,fs,f,fd,ps,sp,k',e1,h1,h2,h3,h4,h5,h6,h7,h8⟩:=gx.words (P:=P) (w:=w) (base:=base) T tg.b.G (Ybl tg)
  refine ⟨?t,?B,?C⟩
  case B=>
   refine' Jjb ?O0
   case O0=>
   refine' Jji ?O1
   case O1=>exact (Jjd T.Ji Sc7 hr (by decide) (So (Jju (pa7 Jjg (Jkq (pv 0) (by rfl)) (Jkq (pv 0) (by rfl)) (Jkq (pv 0) (by rfl)) (Jkq (pv 0) (by rfl)) (Jkq (pv 0) (by rfl)) (Jyi (Jkq (pv 0) (by rfl)) hr))) Ss))
  refine ⟨_,rfl,o,_,dx,_,_,rfl,ho,T.Jcz,T.Jdo,rfl,_,rfl,o,_,dx,_,_,rfl,ho,T.Jcz,T.Jdp,rfl,_,rfl,o,_,dx,_,_,rfl,ho,T.Jcz,T.Jdq,rfl,_,rfl,o,_,dx,_,_,rfl,ho,T.Jcz,T.Jdr,rfl,_,rfl,o,_,dx,_,_,rfl,ho,T.Jcz,T.Jds,rfl,?_⟩
  refine ⟨_,rfl,o,_,dx,_,_,rfl,ho,T.Jcz,T.Jdt,rfl,og,_,dg,fs,f,fd,ps,sp,k',e1,h1,h2,h3,h4,h5,h6,h7,h8 _ λH1 s1=>?_⟩
  refine ⟨(show 7<=Sa by decide),λL hL=>?_⟩
  have gl:(Txt.join SPC (gws B.G)).length<=132:=(Jxd (λz hz=>Jxy tg z (.tail _ (yax _ hz))) (by have:=tg.b.G.len;simp [gws];omega)).2
  refine ⟨L,_,rfl,Sv,λx hx=>?_,(show 7<=10 by decide),λH2 s2=>?_⟩
  ·simp only [yo,yae,or_false] at hx
   rcases hx with rfl|rfl|rfl|rfl|rfl|rfl|rfl
   ·exact .inl ⟨_,rfl,by decide +kernel⟩
   ·exact .inl ⟨_,rfl,yv tg.wd.len (by decide)⟩
   ·exact .inr ⟨_,rfl,by omega,by omega⟩
   ·exact .inr ⟨_,rfl,by omega,by omega⟩
   ·exact .inr ⟨_,rfl,by omega,by omega⟩
   ·exact .inr ⟨_,rfl,by omega,by omega⟩
   ·exact .inl ⟨_,rfl,by omega⟩
  ·have e0:([V.str "basin",.str B.z,.int B.lo,.int B.hi,.int B.st,.int B.rn,.str (Txt.join SPC (gws B.G))]:List V).map wOf= [BAS,B.z,nmS B.lo,nmS B.hi,nmS B.st,nmS B.rn]++ [Txt.join SPC (gws B.G)]:=rfl
   have e1:Txt.join SPC ([BAS,B.z,nmS B.lo,nmS B.hi,nmS B.st,nmS B.rn]++ [Txt.join SPC (gws B.G)])=Txt.join SPC (BAS::bws B):=by
    rw [Jng SPC (gws B.G),Jng SPC (_++_),Jng SPC (BAS::bws B),Jr3,Jzk _ (by simp [gws])]
    rfl
   have z:=q H2 ((s1.trans (Sn.upd hL)).trans s2)
   rw [<-e1,<-e0] at z
   exact z
theorem Juq:Jjh ["town"] ["town"] (Jje (top 48)):=⟨rfl,rfl,rfl,by decide +kernel,rfl,by decide +kernel,by decide +kernel⟩
theorem Juj (T:Tx K mg a):Jjz P w K mg base CX0 3 a.Jg9 a.Jga ["town"] (Yb7 a):=by
 have Sc7:=Jpn (P:=P) (w:=w) (base:=base) T
 refine T.Jk.fn.ok Juq (λvs H Q E h=>?_) (λcdv A outer s H vs Q E hr h=>?_)
 ·obtain ⟨o,W,rfl,_⟩:=h
  rfl
 ·obtain ⟨o,W,rfl,⟨dx,ho⟩,tg,q⟩:=h
  have b1:=tg.wt
  refine ⟨?t,?B,?C⟩
  case B=>
   refine' Jjb ?O0
   case O0=>
   refine' Jji ?O1
   case O1=>exact (Jjd T.Ji Sc7 hr (by decide) (So (Jju (pa4 Jjg (Jkq (pv 0) (by rfl)) (Jkq (pv 0) (by rfl)) (Jkq (pv 0) (by rfl)))) Ss))
  refine ⟨_,rfl,o,_,dx,_,_,rfl,ho,T.Jd2,T.Jdu,rfl,_,rfl,o,_,dx,_,_,rfl,ho,T.Jd2,T.Jdv,rfl,_,rfl,o,_,dx,_,_,rfl,ho,T.Jd2,T.Jdw,rfl,(show 4<=Sa by decide),λL hL=>?_⟩
  refine ⟨L,_,rfl,Sv,λx hx=>?_,(show 4<=10 by decide),λH2 s2=>q H2 ((Sn.upd hL).trans s2)⟩
  simp only [yo,yae,or_false] at hx
  rcases hx with rfl|rfl|rfl|rfl
  ·exact .inl ⟨_,rfl,by decide +kernel⟩
  ·exact .inl ⟨_,rfl,yv tg.wd.len (by decide)⟩
  ·exact .inl ⟨_,rfl,yv tg.wb.len (by decide)⟩
  ·exact .inr ⟨_,rfl,by omega,by omega⟩
theorem Sda:Jjh ["river","lines"] ["river"] (Jje (top 49)):=⟨rfl,rfl,rfl,by decide +kernel,rfl,by decide +kernel,by decide +kernel⟩
theorem Jsw (T:Tx K mg a):Jjz P w K mg base CX0 4 a.Jgb a.Jgc ["river"] (Sm7 a):=by
 have Sc7:=Jpn (P:=P) (w:=w) (base:=base) T
 have Sfb:=Jsm (P:=P) (w:=w) (base:=base) T
 have Sg4:=Juj (P:=P) (w:=w) (base:=base) T
 refine T.Jl.fn.ok Sda (λvs H Q E h=>?_) (λcdv A outer s H vs Q E hr h=>?_)
 ·obtain ⟨y,c,g,Bs,Ts,rfl,_⟩:=h
  rfl
 ·obtain ⟨y,c,g,Bs,Ts,rfl,⟨dx,b,t,os,ps,hy,hb,ht,hB,hT⟩,rg,q⟩:=h
  have lo:=Paired.length hB
  have lp:=Paired.length hT
  have b16:=rg.len
  have t3:=rg.tl
  have hc:=rg.cc
  have hg:=rg.gc
  refine ⟨?t,?B,?C⟩
  case B=>
   refine' Jj9 ?O0 ?O1
   case O0=>exact (Jjl (i:=1) Sda.nd rfl (yf rfl) (Jju (So (Jjd T.Ji Sc7 hr (by decide) (So (Jju (So Jjg (So (Jkq (pv 0) (by rfl)) (So (Jkq (pv 0) (by rfl)) Ss)))) Ss)) Ss)))
   case O1=>
   refine' Jj9 ?O2 ?O3
   case O2=>exact (Jkm (Jll F.plainAttrs_list F.slot_list_extend F.type_list_extend Jtl (pv 1) (So (Jkz (N:=(["basin"]:List Str)) (ini:=[none]) rfl (Jwl (Jkq (pv 0) (by rfl))) (λ_ _ _ _ _=>(Jk3 (i:=0) (by decide +kernel:(["basin"]:List Str).Nodup) rfl (yf rfl))) (λ_ _ _ _ _=>Jl3) (λ_ _ _ _ _=>(Jjd T.Jj Sfb hr (by decide) (So (pv 0) Ss)))) Ss)))
   case O3=>
   refine' Jj9 ?O4 ?O5
   case O4=>exact (Jkm (Jll F.plainAttrs_list F.slot_list_extend F.type_list_extend Jtl (pv 1) (So (Jkz (N:=(["town"]:List Str)) (ini:=[none]) rfl (Jwl (Jkq (pv 0) (by rfl))) (λ_ _ _ _ _=>(Jk3 (i:=0) (by decide +kernel:(["town"]:List Str).Nodup) rfl (yf rfl))) (λ_ _ _ _ _=>Jl3) (λ_ _ _ _ _=>(Jjd T.Jk Sg4 hr (by decide) (So (pv 0) Ss)))) Ss)))
   case O5=>
   refine' Jjb ?O6
   case O6=>exact (Jji (Jll F.plainAttrs_str F.slot_str_join F.type_str_join Jp4 Jjg (So (pv 1) Ss)))
  refine ⟨_,rfl,y,_,dx,_,_,rfl,hy,T.Jd5,T.Jdx,rfl,_,rfl,y,_,dx,_,_,rfl,hy,T.Jd5,T.Jdy,rfl,(show 3<=Sa by decide),λZ hZ=>?_⟩
  have s1:=Sn.upd (o:=.lst [.str CLD,.int c,.int g]) hZ
  refine ⟨Z,_,rfl,Sv,λx hx=>?_,(show 3<=10 by decide),λH2 s2=>?_⟩
  ·simp only [yo,yae,or_false] at hx
   rcases hx with rfl|rfl|rfl
   ·exact .inl ⟨_,rfl,by decide +kernel⟩
   ·exact .inr ⟨_,rfl,by omega,by omega⟩
   ·exact .inr ⟨_,rfl,by omega,by omega⟩
  refine ⟨(show 1<=Sa by decide),λL hL=>?_⟩
  have s3:=(s1.trans s2).trans (Sn.upd (o:=.lst [.str (Txt.join SPC [CLD,nmS c,nmS g])]) hL)
  have hL0:H L=none:=by
   cases hc:H L with
   |none=>rfl
   |some o=>rw [s2 _ _ (s1 _ _ hc)] at hL;cases hL
  have hL3:(upd H2 L (.lst [.str (Txt.join SPC [CLD,nmS c,nmS g])])) L=some (.lst [.str (Txt.join SPC [CLD,nmS c,nmS g])]):=Sv
  show Sj4 _ _ _ _ (upd H2 L (.lst [.str (Txt.join SPC [CLD,nmS c,nmS g])]))
  generalize upd H2 L (.lst [.str (Txt.join SPC [CLD,nmS c,nmS g])])=H3 at s3 hL3⊢
  have keep:∀{H':Hp} {o:HO},Sn H H'->Sn H (upd H' L o):=λs b u z=>by rw [Jjc (Jjf z hL0)];exact s _ _ z
  refine ⟨_,rfl,.inl ⟨rfl,_,Sx.of hL3⟩,_,rfl,y,_,dx,_,_,rfl,s3 _ _ hy,T.Jd5,T.Jdz,rfl,b,rfl,⟨_,SqT.of (s3 _ _ hb)⟩,λD hD=>?_⟩
  refine Jqr (Bs.map λB=>V.str (Txt.join SPC (BAS::bws B))) hD (by simp;omega) (by simp;omega) (s3 _ _ hb) ?_ ?_
  ·rintro j x y H' Q' hx hy sm kk
   rw [yn] at hx hy
   obtain ⟨o,ho,rfl⟩:=yat.mp hx
   obtain ⟨B,hBj,bx⟩:=Jml hB ho
   rw [hBj] at hy
   cases hy
   exact ⟨_,rfl,o,B,rfl,bx.same (s3.trans sm),rg.bas B (yab hBj),λH5 s5=>kk _ s5⟩
  intro H4 s4 hD4
  have hL4:=s4 _ _ hL3
  have s34:=s3.trans s4
  refine ⟨L,D,_,_,rfl,rfl,hL4,hD4,?_,?_⟩
  ·simp
   exact Jjx _ (by omega)
  have s5:=keep (o:=.lst ([.str (Txt.join SPC [CLD,nmS c,nmS g])]++Bs.map λB=>V.str (Txt.join SPC (BAS::bws B)))) s34
  have hL5:(upd H4 L (.lst ([.str (Txt.join SPC [CLD,nmS c,nmS g])]++Bs.map λB=>V.str (Txt.join SPC (BAS::bws B))))) L=some (.lst ([.str (Txt.join SPC [CLD,nmS c,nmS g])]++Bs.map λB=>V.str (Txt.join SPC (BAS::bws B)))):=Sv
  generalize upd H4 L (.lst ([.str (Txt.join SPC [CLD,nmS c,nmS g])]++Bs.map λB=>V.str (Txt.join SPC (BAS::bws B))))=H5 at s5 hL5⊢
  refine ⟨_,rfl,.inl ⟨rfl,_,Sx.of hL5⟩,_,rfl,y,_,dx,_,_,rfl,s5 _ _ hy,T.Jd5,T.Je0,rfl,t,rfl,⟨_,SqT.of (s5 _ _ ht)⟩,λD' hD'=>?_⟩
  refine Jqr (Ts.map λW=>V.str (Txt.join SPC (TWN::tws W))) hD' (by simp;omega) (by simp;omega) (s5 _ _ ht) ?_ ?_
  ·rintro j x y H' Q' hx hy sm kk
   rw [yn] at hx hy
   obtain ⟨o,ho,rfl⟩:=yat.mp hx
   obtain ⟨W,hWj,bx⟩:=Jml hT ho
   rw [hWj] at hy
   cases hy
   exact ⟨_,rfl,o,W,rfl,bx.same (s5.trans sm),rg.twn W (yab hWj),λH5 s5=>kk _ s5⟩
  intro H6 s6 hD6
  have hL6:=s6 _ _ hL5
  have s56:=s5.trans s6
  refine ⟨L,D',_,_,rfl,rfl,hL6,hD6,?_,?_⟩
  ·simp
   exact Jjx _ (by omega)
  have ev: [V.str (Txt.join SPC [CLD,nmS c,nmS g])]++Bs.map (λB=>V.str (Txt.join SPC (BAS::bws B)))++Ts.map (λW=>V.str (Txt.join SPC (TWN::tws W)))=((rws c g Bs Ts).map (Txt.join SPC)).map V.str:=by
   simp [rws,List.map_map,Function.comp_def]
  refine ⟨rfl,_,rfl,NLN,L,(rws c g Bs Ts).map (Txt.join SPC),rfl,rfl,Sx.of (by rw [Sv,ev]),?_,q _ (keep s56)⟩
  have ok:=Slw rg
  have ln:=Yav c g Bs Ts
  have l:=Jwr (m:=132) ((rws c g Bs Ts).map (Txt.join SPC)) (λp hp=>by
   obtain ⟨ws,hw,rfl⟩:=yal.mp hp
   exact (Jxd (ok ws hw).1 (ok ws hw).2.1).2)
  have e:NLN.length=1:=by decide +kernel
  have ll:((rws c g Bs Ts).map (Txt.join SPC)).length=(rws c g Bs Ts).length:=ye ..
  rw [e]
  omega
def Jyp:Sp:=λvs H Q _=>∃z:Str,vs= [.str z]/\Wd 1990 z/\∀H',Sn H H'->Q (.bl (Jlj z)) H'
def Yc:Sp:=λvs H Q _=>∃(z:Str) (lo hi:Int),vs= [.str z,.int lo,.int hi]/\Wd 1990 z/\∀H',Sn H H'->Q (if Jl2 lo hi z=true then .int (Jk9 z) else .non) H'
theorem Jsa:Jjh ["_law_word_here"] ["_law_word_here"] (Jje (top 72)):=⟨rfl,rfl,rfl,by decide +kernel,rfl,by decide +kernel,by decide +kernel⟩
theorem Js5 (T:Tx K mg a):Jjz P w K mg base CX0 2 a.Jhv a.Jhw ["_law_word_here"] Jyp:=by
 refine T.Ja6.fn.ok Jsa (λvs H Q E h=>?_) (λcdv A outer s H vs Q E hr h=>?_)
 ·obtain ⟨z,rfl,_⟩:=h
  rfl
 ·obtain ⟨z,rfl,wz,k⟩:=h
  have hu64:=Jp1 hr
  have hz:z.length<=Sa:=Jjx _ (by have:=wz.len;omega)
  refine ⟨_,(Jjb (Jji (Jr1 (Js7 Jmg Jmg Sy (Jjk Jm5 (by rfl) T.Jav Jkh (So (pv 0) Ss)) Sy) (Jor (Jkt (Jwf hu64) (Jkz (N:=(["_law_sign"]:List Str)) (ini:=[none]) rfl (Jwk (pv 0)) (λ_ _ _ _ _=>(Jk3 (i:=0) (by decide +kernel:(["_law_sign"]:List Str).Nodup) rfl (yf rfl))) (λ_ _ _ _ _=>(Jxo (Jjo Jq7 (pv 0) Jjg (by with_unfolding_all rfl)))) (λ_ _ _ _ _=>(pv 0))) (Jju Ss) (Jjp _)))))),?_⟩
  refine ⟨_,rfl,z,rfl,hz,_,_,rfl,rfl,_,rfl,?_⟩
  have no:¬(1<=z.length/\z.length<=8)->Q (.bl false) H:=λq=>by
   have k':=k H (Sn.refl H)
   unfold Jlj at k'
   rw [decide_eq_false q,yao] at k'
   exact k'
  by_cases h1:(1:Int)<=(z.length:Int)
  ·rw [decide_eq_true h1]
   refine Jkb ⟨_,_,rfl,rfl,_,rfl,?_⟩
   by_cases h2:(z.length:Int)<=8
   ·rw [decide_eq_true h2]
    refine Jkb ⟨_,rfl,z,rfl,λD hD=>?_⟩
    refine Jrs (z:=z) (D:=D) (λi σ H'=>∃o,σ= [o]/\H'=upd H D (.lst (((z.cps.toList.take i).filter λc=>!decide (c∈LET.cps.toList)).map sgn))) ?_ ?_ ?_
    ·exact ⟨none,rfl,rfl⟩
    ·rintro i c σ H' hc ⟨o,rfl,rfl⟩
     refine ⟨_,rfl,⟨#[c]⟩,LET,rfl,rfl,_,rfl,?_⟩
     rw [StrLaws.found_one]
     have fn:=Jte (g:=LET) hc
     cases e:decide (c∈LET.cps.toList) with
     |true=>
      rw [e] at fn
      refine Jjw ⟨_,rfl,?_⟩
      rw [fn]
      simp
     |false=>
      rw [e] at fn
      refine Jkb ⟨_,rfl,_,Sv,?_,_,rfl,?_⟩
      ·rw [ye]
       refine yay (List.length_filter_le _ _) (yay (List.length_take_le _ _) ?_)
       exact Jkn (by have:=wz.len;have:i < z.cps.size:=(ybl.mp hc).1;have:z.cps.size=z.length:=rfl;omega)
      ·rw [Jlv,fn]
       simp
    ·rintro σ H' ⟨o,rfl,rfl⟩
     have e:z.cps.toList.take z.cps.size=z.cps.toList:=yam (by simp)
     rw [e]
     refine ⟨Jjx _ (by show 0<=2000;decide),λp hp=>⟨_,_,.lst (Sx.of (by rw [Jjc (λq=>by rw [q,Sv] at hp;cases hp)];exact Sv)) (Jqs _),.lst (Sx.of Sv) .nil,Jqg _ (λc hc=>wz.low c (List.mem_filter.mp hc).1),rfl,?_⟩⟩
     rw [Jx7,Jpw]
     have k':=k _ ((Sn.upd (o:=.lst ((z.cps.toList.filter λc=>!decide (c∈LET.cps.toList)).map sgn)) hD).trans (Sn.upd (o:=.lst []) hp))
     unfold Jlj at k'
     rw [decide_eq_true (by omega:1<=z.length/\z.length<=8),yaw] at k'
     exact k'
   ·rw [decide_eq_false h2]
    exact Jjw (no (by omega))
  ·rw [decide_eq_false h1]
   exact Jjw ⟨_,rfl,Jjw (no (by omega))⟩
theorem Y6 {z:Str} (h1:1<=z.length) (h2:z.length<=6) (hl:0 < z.cps.toList.length):Jl6 z=(Jme FIG z&&!(decide (1 < z.length)&&decide (z.cps.toList[0]=48))):=by
 unfold Jl6
 rw [decide_eq_true (⟨h1,h2⟩:1<=z.length/\z.length<=6),yaw]
 congr 1
 have e0:("0" :Str)=⟨#[48]⟩:=by decide +kernel
 rw [yi hl]
 by_cases q:z.cps.toList[0]=48
 ·rw [decide_eq_true q,q]
  by_cases l:1 < z.length
  ·rw [decide_eq_true l]
   have:¬z=("0" :Str):=λe=>by
    have:z.length=1:=by rw [e];decide +kernel
    omega
   rw [decide_eq_false this]
   rfl
  ·rw [decide_eq_false l]
   have:z=("0" :Str):=by
    rw [e0]
    have hl1:z.cps.toList.length=1:=by rw [Jlc];omega
    obtain ⟨c,hc⟩:=List.length_eq_one_iff.mp hl1
    have hq:c=48:=by
     have:=q
     simp only [hc,List.getElem_cons_zero] at this
     exact this
    cases z with
    |mk cps=>
     have:cps= #[c]:=by
      have:=congrArg List.toArray hc
      simpa using this
     rw [this,hq]
   rw [decide_eq_true this]
   rfl
 ·rw [decide_eq_false q,Bool.and_false]
  have:¬some z.cps.toList[0]=some 48:=λe=>q (yt.inj e)
  rw [decide_eq_false this]
  simp
theorem Jt2:Jjh ["_law_word_here","_law_low","_law_high"] ["_law_word_here","_law_low","_law_high"] (Jje (top 71)):=⟨rfl,rfl,rfl,by decide +kernel,rfl,by decide +kernel,by decide +kernel⟩
theorem Jpg (T:Tx K mg a):Jjz P w K mg base CX0 2 a.Jht a.Jhu ["_law_word_here","_law_low","_law_high"] Yc:=by
 refine T.Ja5.fn.ok Jt2 (λvs H Q E h=>?_) (λcdv A outer s H vs Q E hr h=>?_)
 ·obtain ⟨z,lo,hi,rfl,_⟩:=h
  rfl
 ·obtain ⟨z,lo,hi,rfl,wz,k⟩:=h
  have hu64:=Jp1 hr
  have hz:z.length<=Sa:=Jjx _ (by have:=wz.len;omega)
  refine ⟨_,(Jj9 (Jjv (PW.pt (Jot (Jkf (Jnw Jmg Jmg Sy (Jjk Jm5 (by rfl) T.Jav Jkh (So (pv 0) Ss)) Sy)) (Jnn (Jjo (Juk hu64) (Jkz (N:=(["_law_sign"]:List Str)) (ini:=[none]) rfl (Jwk (pv 0)) (λ_ _ _ _ _=>(Jk3 (i:=0) (by decide +kernel:(["_law_sign"]:List Str).Nodup) rfl (yf rfl))) (λ_ _ _ _ _=>(Jxo (Jjo Jq7 (pv 0) Jjg (by with_unfolding_all rfl)))) (λ_ _ _ _ _=>(pv 0))) (Jju Ss) (Jjp _))))) (Jjb (Jji Jm7)) Jjm)
   (Jj9 (Jjv (PW.pt (Jot (PW.pt (Jmt (Jjo Jxk (Jjk Jm5 (by rfl) T.Jav Jkh (So (pv 0) Ss)) Sy (Jjp _)) (Jlz (Jjo Jkv (Jk5 Ju4 (pv 0) Sy (λ_ _=>rfl)) Jjg (Jjp _))))) (Jnn (Jkf (Jnw Jmg Jmg (pv 1) (Jkd Jmx (by rfl) T.Jat Joe (So (pv 0) Ss)) (pv 2)))))) (Jjb (Jji Jm7)) Jjm)
   (Jjb (Jji (Jkd Jmx (by rfl) T.Jat Joe (So (pv 0) Ss)))))),?_⟩
  refine ⟨_,rfl,z,rfl,hz,_,_,rfl,rfl,_,rfl,?_⟩
  have no:∀{H':Hp},Sn H H'->Jl6 z=false->Q .non H':=λ{H'} s' q=>by
   have k':=k H' s'
   unfold Jl2 at k'
   rw [q] at k'
   exact k'
  have no1:¬(1<=z.length/\z.length<=6)->Jl6 z=false:=λq=>by
   unfold Jl6
   rw [decide_eq_false q,yao,yao]
  by_cases h1:(1:Int)<=(z.length:Int)
  ·rw [decide_eq_true h1]
   refine Jkb ⟨_,_,rfl,rfl,_,rfl,?_⟩
   by_cases h2:(z.length:Int)<=6
   ·rw [decide_eq_true h2]
    have hl:0 < z.cps.toList.length:=by rw [Jlc];omega
    have pa:=Y6 (z:=z) (by omega) (by omega) hl
    refine Jjw ⟨_,rfl,z,rfl,λD hD=>?_⟩
    refine Jrs (z:=z) (D:=D) (λi σ H'=>∃o,σ= [o]/\H'=upd H D (.lst (((z.cps.toList.take i).filter λc=>!decide (c∈FIG.cps.toList)).map sgn))) ?_ ?_ ?_
    ·exact ⟨none,rfl,rfl⟩
    ·rintro i c σ H' hc ⟨o,rfl,rfl⟩
     refine ⟨_,rfl,⟨#[c]⟩,FIG,rfl,rfl,_,rfl,?_⟩
     rw [StrLaws.found_one]
     have fn:=Jte (g:=FIG) hc
     cases e:decide (c∈FIG.cps.toList) with
     |true=>
      rw [e] at fn
      refine Jjw ⟨_,rfl,?_⟩
      rw [fn]
      simp
     |false=>
      rw [e] at fn
      refine Jkb ⟨_,rfl,_,Sv,?_,_,rfl,?_⟩
      ·rw [ye]
       refine yay (List.length_filter_le _ _) (yay (List.length_take_le _ _) ?_)
       exact Jkn (by have:=wz.len;have:i < z.cps.size:=(ybl.mp hc).1;have:z.cps.size=z.length:=rfl;omega)
      ·rw [Jlv,fn]
       simp
    ·rintro σ H' ⟨o,rfl,rfl⟩
     have e:z.cps.toList.take z.cps.size=z.cps.toList:=yam (by simp)
     rw [e]
     refine ⟨Jjx _ (by show 0<=2000;decide),λp hp=>⟨_,_,.lst (Sx.of (by rw [Jjc (λq=>by rw [q,Sv] at hp;cases hp)];exact Sv)) (Jqs _),.lst (Sx.of Sv) .nil,Jqg _ (λc hc=>wz.low c (List.mem_filter.mp hc).1),rfl,_,rfl,?_⟩⟩
     have sm:=(Sn.upd (o:=.lst ((z.cps.toList.filter λc=>!decide (c∈FIG.cps.toList)).map sgn)) hD).trans (Sn.upd (o:=.lst []) hp)
     rw [Jx7,Jpw]
     cases ea:Jme FIG z with
     |false=>
      rw [ea,yao] at pa
      exact Jkb (no sm pa)
     |true=>
      rw [ea,yaw] at pa
      refine Jjw ⟨_,rfl,z,rfl,hz,_,_,rfl,rfl,_,rfl,?_⟩
      have it:=Jw1 (z:=z) (by omega) (by omega) ea
      have k':=k _ sm
      unfold Jl2 at k'
      by_cases l:1 < z.length
      ·rw [decide_eq_true l,yaw] at pa
       rw [decide_eq_true (by omega:(1:Int) < (z.length:Int))]
       refine Jkb ⟨_,rfl,z,0,z.cps.toList[0],rfl,rfl,hz,Jl7 (j:=0) (yi hl),rfl,_,rfl,?_⟩
       have e0:("0" :Str)=⟨#[48]⟩:=by decide +kernel
       by_cases q:z.cps.toList[0]=48
       ·rw [decide_eq_true q] at pa
        rw [decide_eq_true (by rw [e0,q]:V.str (⟨#[z.cps.toList[0]]⟩:Str)=V.str "0")]
        exact Jkb (no sm pa)
       ·rw [decide_eq_false q] at pa
        rw [decide_eq_false (λr=>q (by rw [e0] at r;simpa using r):¬V.str (⟨#[z.cps.toList[0]]⟩:Str)=V.str "0")]
        refine Jjw ?_
        refine ⟨_,rfl,_,rfl,z,Jk9 z,rfl,it,by omega,_,_,rfl,rfl,_,rfl,?_⟩
        rw [show Jl6 z=true from pa,yaw] at k'
        by_cases b1:lo<=Jk9 z
        ·rw [decide_eq_true b1] at k'⊢
         refine Jkb ⟨_,rfl,_,_,rfl,rfl,_,rfl,?_⟩
         by_cases b2:Jk9 z<=hi
         ·rw [decide_eq_true b2] at k'⊢
          exact Jjw ⟨_,rfl,z,_,rfl,it,by omega,k'⟩
         ·rw [decide_eq_false b2] at k'⊢
          exact Jkb k'
        ·rw [decide_eq_false b1] at k'⊢
         exact Jjw ⟨_,rfl,Jkb k'⟩
      ·rw [decide_eq_false l,yao] at pa
       rw [decide_eq_false (by omega:¬(1:Int) < (z.length:Int))]
       refine Jjw (Jjw ?_)
       refine ⟨_,rfl,_,rfl,z,Jk9 z,rfl,it,by omega,_,_,rfl,rfl,_,rfl,?_⟩
       rw [show Jl6 z=true from pa,yaw] at k'
       by_cases b1:lo<=Jk9 z
       ·rw [decide_eq_true b1] at k'⊢
        refine Jkb ⟨_,rfl,_,_,rfl,rfl,_,rfl,?_⟩
        by_cases b2:Jk9 z<=hi
        ·rw [decide_eq_true b2] at k'⊢
         exact Jjw ⟨_,rfl,z,_,rfl,it,by omega,k'⟩
        ·rw [decide_eq_false b2] at k'⊢
         exact Jkb k'
       ·rw [decide_eq_false b1] at k'⊢
        exact Jjw ⟨_,rfl,Jkb k'⟩
   ·rw [decide_eq_false h2]
    exact Jkb (no (Sn.refl H) (no1 (by omega)))
  ·rw [decide_eq_false h1]
   exact Jjw ⟨_,rfl,Jkb (no (Sn.refl H) (no1 (by omega)))⟩
def nW (z:Str):V:=if Jl2 0 999 z=true then .int (Jk9 z) else .non
inductive Jo8 (ws:List Str):Nat->Int->Int->Prop where
 |c1:ws[0]?=some CLD->Jo8 ws 1 0 12
 |c2 {z:Str}:ws[0]?=some CLD->ws[1]?=some z->Jl2 0 999 z=true->Jo8 ws 2 0 (Jk9 z)
 |t {k:Nat}:ws[0]?=some TWN->Jo8 ws k 1 6
 |b2:ws[0]?=some BAS->Jo8 ws 2 0 12
 |b3 {z:Str}:ws[0]?=some BAS->ws[2]?=some z->Jl2 0 999 z=true->Jo8 ws 3 (Jk9 z) 12
 |b4 {z y:Str}:ws[0]?=some BAS->ws[2]?=some z->Jl2 0 999 z=true->ws[3]?=some y->Jl2 0 999 y=true->Jo8 ws 4 (Jk9 z) (Jk9 y)
 |b5:ws[0]?=some BAS->Jo8 ws 5 0 6
 |b7 {z:Str}:ws[0]?=some BAS->ws[6]?=some z->Jo8 ws 7 (Jna z) 12
 |b8 {k:Nat} {z:Str}:ws[0]?=some BAS->7<=k->ws[k]?=some z->Jl2 0 999 z=true->Jo8 ws (k+1) (Jk9 z+1) 12
def Sp9:Sp:=λvs H Q _=>∃(A:S5) (ws:List Str) (k:Nat) (lo hi:Int),vs= [.ref A,.int k]/\H A=some (.lst (ws.map V.str))/\WdL ws/\k < ws.length/\Jo8 ws k lo hi/\∀(t:S5) (H':Hp),Sn H H'->H' t=some (.tup [.int lo,.int hi])->Q (.ref t) H'
theorem Sjp (z:Str):(if decide (V.str z=V.str ("part" :Str))=true then (1:Int) else 0)=Jna z:=by
 unfold Jna
 by_cases h:z=("part" :Str)
 ·rw [if_pos h,if_pos (decide_eq_true (by rw [h]))]
 ·rw [if_neg h,if_neg (by rw [decide_eq_false (Jno h)];decide)]
theorem Sd8:Jjh ["_law_words","_law_at","_law_numbers"] ["_law_words","_law_at"] (Jje (top 73)):=⟨rfl,rfl,rfl,by decide +kernel,rfl,by decide +kernel,by decide +kernel⟩
theorem Jsn (T:Tx K mg a):Jjz P w K mg base CX0 3 a.Jhx a.Jhy ["_law_words","_law_at"] Sp9:=by
 have Sc3:=Jpg (P:=P) (w:=w) (base:=base) T
 refine T.Ja7.fn.ok Sd8 (λvs H Q E h=>?_) (λcdv A outer s H vs Q E hr h=>?_)
 ·obtain ⟨A,ws,k,lo,hi,rfl,_⟩:=h
  rfl
 ·obtain ⟨A,ws,k,lo,hi,rfl,hA,wd,kl,bi,q⟩:=h
  refine ⟨?t,?B,?C⟩
  case B=>
   refine' Jj9 ?O0 ?O1
   case O0=>exact (Jjl (i:=2) Sd8.nd rfl (yf rfl) (Jjn Jks (Jkz (N:=(["_law_word_here"]:List Str)) (ini:=[none]) rfl (Jlm (pv 0)) (λ_ _ _ _ _=>(Jk3 (i:=0) (by decide +kernel:(["_law_word_here"]:List Str).Nodup) rfl (yf rfl))) (λ_ _ _ _ _=>Jl3) (λ_ _ _ _ _=>(Jjd T.Ja5 Sc3 hr (by decide) (So (pv 0) (So Sy (So Sy Ss)))))) (Jjn Sln (Jju (So Jm7 Ss)) Sy)))
   case O1=>
   refine' Jj9 ?O2 ?O3
   case O2=>
    refine' Jjv ?O4 ?O5 ?O6
    case O4=>exact (Jjo Jkv (Jk5 Jjs (pv 0) Sy (λ_ _=>rfl)) Jjg (Jjp _))
    case O5=>
     refine' Jjb ?O7
     case O7=>exact (Jji (Jk5 Jjs (Jju (So (Jkj (So Sy (So Sy Ss))) (So (Jkj (So Sy (So (Jk5 Jjs (pv 2) Sy (λ_ _=>rfl)) Ss))) Ss))) (Jjn Jnl (pv 1) Sy) (λ_ _=>rfl)))
    case O6=>exact Jjm
   case O3=>
   refine' Jj9 ?O8 ?O9
   case O8=>
    refine' Jjv ?Oa ?Ob ?Oc
    case Oa=>exact (Jjo Jkv (Jk5 Jjs (pv 0) Sy (λ_ _=>rfl)) Jjg (Jjp _))
    case Ob=>
     refine' Jjb ?Od
     case Od=>exact (Jji (Jkj (So Sy (So Sy Ss))))
    case Oc=>exact Jjm
   case O9=>
   refine' Jj9 ?Oe ?Of
   case Oe=>
    refine' Jjv ?Og ?Oh ?Oi
    case Og=>exact (Jjo Jop (pv 1) Sy (Jjp _))
    case Oh=>
     refine' Jjb ?Oj
     case Oj=>
     refine' Jji ?Ok
     case Ok=>
     refine' Jk5 ?Ol ?Om ?On ?Oo
     case Ol=>exact Jjs
     case Om=>
      refine' Jju ?Op
      case Op=>
      refine' pa4 ?Oq ?Or ?Os ?Ot
      case Oq=>exact (Jkj (So Sy (So Sy Ss)))
      case Or=>exact (Jkj (So (Jk5 Jjs (pv 2) Sy (λ_ _=>rfl)) (So Sy Ss)))
      case Os=>exact (Jkj (So (Jk5 Jjs (pv 2) Sy (λ_ _=>rfl)) (So (Jk5 Jjs (pv 2) Sy (λ_ _=>rfl)) Ss)))
      case Ot=>exact (Jkj (So Sy (So Sy Ss)))
     case On=>exact (Jjn Jnl (pv 1) Sy)
     case Oo=>exact (λ_ _=>rfl)
    case Oi=>exact Jjm
   case Of=>
   refine' Jj9 ?Ou ?Ov
   case Ou=>
    refine' Jjv ?Ow ?Ox ?Oy
    case Ow=>exact (Jjo Jkv (pv 1) Sy (Jjp _))
    case Ox=>
     refine' Jjb ?Oz
     case Oz=>exact (Jji (Jkj (So (Jkd Jqq (by rfl) T.Jat Joe (So (Jkt Jkv (Jk5 Jjs (pv 0) Sy (λ_ _=>rfl)) Jjg (Jjp _)) Ss)) (So Sy Ss))))
    case Oy=>exact Jjm
   case Ov=>
   refine' Jjb ?U0
   case U0=>exact (Jji (Jkj (So (Jjn Jk8 (Jk5 Jjs (pv 2) (Jjn Jnl (pv 1) Sy) (λ_ _=>rfl)) Sy) (So Sy Ss))))
  refine ⟨_,rfl,A,rfl,⟨_,Sx.of hA⟩,λD hD=>?_⟩
  refine Jmj (ws.map nW) hD (by simp) (by rw [ye];exact wd.2.1) hA ?_ ?_
  ·rintro j x y H' Q' hx hy sm kk
   rw [yn] at hx hy
   obtain ⟨z,hz,rfl⟩:=yat.mp hx
   rw [hz] at hy
   cases hy
   exact ⟨_,rfl,z,0,999,rfl,wd.2.2 z (yab hz),λH5 s5=>kk _ s5⟩
  intro H1 s1 hD1
  refine ⟨(show 1<=Sa by decide),λe1 he1=>?_⟩
  have u1:=Sn.upd (o:=.lst [.non]) he1
  refine ⟨e1,4,_,rfl,rfl,Sv,by decide,by decide,(show 1*4<=Sa by decide),λe2 he2=>?_⟩
  have u2:=Sn.upd (o:=.lst (yaa (4:Int).toNat [V.non]).flatten) he2
  refine ⟨D,e2,_,_,rfl,rfl,(u1.trans u2) _ _ hD1,Sv,?_,λN hN=>?_⟩
  ·rw [ye]
   exact yv (show ws.length+4<=3000 by have:=wd.2.1;omega) (by decide)
  have u3:=((s1.trans u1).trans u2).trans (Sn.upd (o:=.lst (ws.map nW++(yaa (4:Int).toNat [V.non]).flatten)) hN)
  have hN3:(upd (upd (upd H1 e1 (.lst [.non])) e2 (.lst (yaa (4:Int).toNat [V.non]).flatten)) N (.lst (ws.map nW++(yaa (4:Int).toNat [V.non]).flatten))) N=some (.lst (ws.map nW++(yaa (4:Int).toNat [V.non]).flatten)):=Sv
  generalize upd (upd (upd H1 e1 (.lst [.non])) e2 (.lst (yaa (4:Int).toNat [V.non]).flatten)) N (.lst (ws.map nW++(yaa (4:Int).toNat [V.non]).flatten))=H3 at u3 hN3⊢
  have num:∀j z,ws[j]?=some z->Jl2 0 999 z=true->atI (ws.map nW++(yaa (4:Int).toNat [V.non]).flatten) ((j:Nat):Int)=some (.int (Jk9 z)):=λj z hz nz=>by
   refine Jl7 ?_
   rw [ycb (by rw [ye];exact (yz.mp hz).1),yn,hz]
   show some (nW z)=_
   unfold nW
   rw [if_pos nz]
  have any:∀j:Nat,j < 4->∃v,atI (ws.map nW++(yaa (4:Int).toNat [V.non]).flatten) (j:Int)=some v:=λj hj=>by
   have l:j < (ws.map nW++(yaa (4:Int).toNat [V.non]).flatten).length:=by
    rw [yq]
    show j < _+4
    omega
   exact ⟨_,Jl7 (yi l)⟩
  generalize ws.map nW++(yaa (4:Int).toNat [V.non]).flatten=nums at hN3 num any
  have hA3:=u3 _ _ hA
  have at':∀j z,ws[j]?=some z->atI (ws.map V.str) ((j:Nat):Int)=some (.str z):=λj z hz=>Jl7 (by rw [yn,hz];rfl)
  unfold Jnf
  dsimp only
  cases bi with
  |c1 h0=>
   obtain ⟨v,hv⟩:=any 1 (by decide)
   refine ⟨_,rfl,A,_,0,_,rfl,rfl,Sx.of hA3,at' 0 _ h0,rfl,_,rfl,Jw4 rfl ?_⟩
   refine ⟨(show 2<=Sa by decide),λt1 ht1=>?_⟩
   have w1:=Sn.upd (o:=.tup [.int 0,.int 12]) ht1
   refine ⟨_,rfl,N,_,1,_,rfl,rfl,Sx.of (w1 _ _ hN3),hv,(show 2<=Sa by decide),λt2 ht2=>?_⟩
   have w2:=Sn.upd (o:=.tup [.int 0,v]) ht2
   refine ⟨(show 2<=Sa by decide),λl hl=>?_⟩
   have w3:=Sn.upd (o:=.lst [.ref t1,.ref t2]) hl
   refine ⟨_,rfl,_,_,rfl,rfl,l,_,_,_,rfl,rfl,Sx.of Sv,rfl,q t1 _ (((u3.trans w1).trans w2).trans w3) (w3 _ _ (w2 _ _ Sv))⟩
  |c2 h0 h1 n1=>
   refine ⟨_,rfl,A,_,0,_,rfl,rfl,Sx.of hA3,at' 0 _ h0,rfl,_,rfl,Jw4 rfl ?_⟩
   refine ⟨(show 2<=Sa by decide),λt1 ht1=>?_⟩
   have w1:=Sn.upd (o:=.tup [.int 0,.int 12]) ht1
   refine ⟨_,rfl,N,_,1,_,rfl,rfl,Sx.of (w1 _ _ hN3),num 1 _ h1 n1,(show 2<=Sa by decide),λt2 ht2=>?_⟩
   refine ⟨(show 2<=Sa by decide),λl hl=>?_⟩
   have w3:=Sn.upd (o:=.lst [.ref t1,.ref t2]) hl
   exact ⟨_,rfl,_,_,rfl,rfl,l,_,_,_,rfl,rfl,Sx.of Sv,rfl,q t2 _ (((u3.trans w1).trans (Sn.upd ht2)).trans w3) (w3 _ _ Sv)⟩
  |t h0=>
   refine ⟨_,rfl,A,_,0,_,rfl,rfl,Sx.of hA3,at' 0 _ h0,rfl,_,rfl,Job (Jno (yh nCT)) ?_⟩
   refine ⟨_,rfl,A,_,0,_,rfl,rfl,Sx.of hA3,at' 0 _ h0,rfl,_,rfl,Jw4 rfl ?_⟩
   exact ⟨(show 2<=Sa by decide),λt1 ht1=>q t1 _ (u3.trans (Sn.upd ht1)) Sv⟩
  |b7 h0 h6=>
   refine ⟨_,rfl,A,_,0,_,rfl,rfl,Sx.of hA3,at' 0 _ h0,rfl,_,rfl,Job (Jno (yh nCB)) ?_⟩
   refine ⟨_,rfl,A,_,0,_,rfl,rfl,Sx.of hA3,at' 0 _ h0,rfl,_,rfl,Job (Jno (yh nTB)) ?_⟩
   refine ⟨_,rfl,_,_,rfl,rfl,_,rfl,Jjw ⟨_,rfl,rfl,_,rfl,Jkb ?_⟩⟩
   refine ⟨_,rfl,A,_,6,_,rfl,rfl,Sx.of hA3,at' 6 _ h6,rfl,.inr ⟨_,rfl,?_⟩⟩
   rw [Sjp]
   exact ⟨(show 2<=Sa by decide),λt1 ht1=>q t1 _ (u3.trans (Sn.upd ht1)) Sv⟩
  |b8 h0 h7 hk nk=>
   rename_i k z
   refine ⟨_,rfl,A,_,0,_,rfl,rfl,Sx.of hA3,at' 0 _ h0,rfl,_,rfl,Job (Jno (yh nCB)) ?_⟩
   refine ⟨_,rfl,A,_,0,_,rfl,rfl,Sx.of hA3,at' 0 _ h0,rfl,_,rfl,Job (Jno (yh nTB)) ?_⟩
   refine ⟨_,rfl,_,_,rfl,rfl,_,rfl,?_⟩
   rw [decide_eq_false (by omega:¬(((k+1:Nat):Int) < 6))]
   refine Jjw ⟨_,rfl,rfl,_,rfl,?_⟩
   rw [decide_eq_false (λe=>by have:=V.int.inj e;omega:¬V.int ((k+1:Nat):Int)=V.int 7)]
   refine Jjw ⟨_,rfl,_,rfl,_,_,rfl,rfl,N,_,(k:Int),_,rfl,congrArg V.int (by omega),Sx.of hN3,num k _ hk nk,_,_,rfl,rfl,?_⟩
   exact ⟨(show 2<=Sa by decide),λt1 ht1=>q t1 _ (u3.trans (Sn.upd ht1)) Sv⟩
  |b2 h0=>
   obtain ⟨v2,a2⟩:=any 2 (by decide)
   obtain ⟨v3,a3⟩:=any 3 (by decide)
   refine ⟨_,rfl,A,_,0,_,rfl,rfl,Sx.of hA3,at' 0 _ h0,rfl,_,rfl,Job (Jno (yh nCB)) ?_⟩
   refine ⟨_,rfl,A,_,0,_,rfl,rfl,Sx.of hA3,at' 0 _ h0,rfl,_,rfl,Job (Jno (yh nTB)) ?_⟩
   refine ⟨_,rfl,_,_,rfl,rfl,_,rfl,Jkb ⟨(show 2<=Sa by decide),λt1 ht1=>?_⟩⟩
   have w1:=Sn.upd (o:=.tup [.int 0,.int 12]) ht1
   refine ⟨_,rfl,N,_,2,_,rfl,rfl,Sx.of (w1 _ _ hN3),a2,(show 2<=Sa by decide),λt2 ht2=>?_⟩
   have w2:=Sn.upd (o:=.tup [v2,.int 12]) ht2
   have hN5:=w2 _ _ (w1 _ _ hN3)
   refine ⟨_,rfl,N,_,2,_,rfl,rfl,Sx.of hN5,a2,_,rfl,N,_,3,_,rfl,rfl,Sx.of hN5,a3,(show 2<=Sa by decide),λt3 ht3=>?_⟩
   have w3:=Sn.upd (o:=.tup [v2,v3]) ht3
   refine ⟨(show 2<=Sa by decide),λt4 ht4=>?_⟩
   have w4:=Sn.upd (o:=.tup [.int 0,.int 6]) ht4
   refine ⟨(show 4<=Sa by decide),λl hl=>?_⟩
   have w5:=Sn.upd (o:=.lst [.ref t1,.ref t2,.ref t3,.ref t4]) hl
   exact ⟨_,rfl,_,_,rfl,rfl,l,_,_,_,rfl,rfl,Sx.of Sv,rfl,q t1 _ (((((u3.trans w1).trans w2).trans w3).trans w4).trans w5) (w5 _ _ (w4 _ _ (w3 _ _ (w2 _ _ Sv))))⟩
  |b3 h0 h2 n2=>
   rename_i z
   have a2:=num 2 _ h2 n2
   obtain ⟨v3,a3⟩:=any 3 (by decide)
   refine ⟨_,rfl,A,_,0,_,rfl,rfl,Sx.of hA3,at' 0 _ h0,rfl,_,rfl,Job (Jno (yh nCB)) ?_⟩
   refine ⟨_,rfl,A,_,0,_,rfl,rfl,Sx.of hA3,at' 0 _ h0,rfl,_,rfl,Job (Jno (yh nTB)) ?_⟩
   refine ⟨_,rfl,_,_,rfl,rfl,_,rfl,Jkb ⟨(show 2<=Sa by decide),λt1 ht1=>?_⟩⟩
   have w1:=Sn.upd (o:=.tup [.int 0,.int 12]) ht1
   refine ⟨_,rfl,N,_,2,_,rfl,rfl,Sx.of (w1 _ _ hN3),a2,(show 2<=Sa by decide),λt2 ht2=>?_⟩
   have w2:=Sn.upd (o:=.tup [.int (Jk9 z),.int 12]) ht2
   have hN5:=w2 _ _ (w1 _ _ hN3)
   refine ⟨_,rfl,N,_,2,_,rfl,rfl,Sx.of hN5,a2,_,rfl,N,_,3,_,rfl,rfl,Sx.of hN5,a3,(show 2<=Sa by decide),λt3 ht3=>?_⟩
   have w3:=Sn.upd (o:=.tup [.int (Jk9 z),v3]) ht3
   refine ⟨(show 2<=Sa by decide),λt4 ht4=>?_⟩
   have w4:=Sn.upd (o:=.tup [.int 0,.int 6]) ht4
   refine ⟨(show 4<=Sa by decide),λl hl=>?_⟩
   have w5:=Sn.upd (o:=.lst [.ref t1,.ref t2,.ref t3,.ref t4]) hl
   exact ⟨_,rfl,_,_,rfl,rfl,l,_,_,_,rfl,rfl,Sx.of Sv,rfl,q t2 _ (((((u3.trans w1).trans w2).trans w3).trans w4).trans w5) (w5 _ _ (w4 _ _ (w3 _ _ Sv)))⟩
  |b4 h0 h2 n2 h3 n3=>
   rename_i z y
   have a2:=num 2 _ h2 n2
   have a3:=num 3 _ h3 n3
   refine ⟨_,rfl,A,_,0,_,rfl,rfl,Sx.of hA3,at' 0 _ h0,rfl,_,rfl,Job (Jno (yh nCB)) ?_⟩
   refine ⟨_,rfl,A,_,0,_,rfl,rfl,Sx.of hA3,at' 0 _ h0,rfl,_,rfl,Job (Jno (yh nTB)) ?_⟩
   refine ⟨_,rfl,_,_,rfl,rfl,_,rfl,Jkb ⟨(show 2<=Sa by decide),λt1 ht1=>?_⟩⟩
   have w1:=Sn.upd (o:=.tup [.int 0,.int 12]) ht1
   refine ⟨_,rfl,N,_,2,_,rfl,rfl,Sx.of (w1 _ _ hN3),a2,(show 2<=Sa by decide),λt2 ht2=>?_⟩
   have w2:=Sn.upd (o:=.tup [.int (Jk9 z),.int 12]) ht2
   have hN5:=w2 _ _ (w1 _ _ hN3)
   refine ⟨_,rfl,N,_,2,_,rfl,rfl,Sx.of hN5,a2,_,rfl,N,_,3,_,rfl,rfl,Sx.of hN5,a3,(show 2<=Sa by decide),λt3 ht3=>?_⟩
   have w3:=Sn.upd (o:=.tup [.int (Jk9 z),.int (Jk9 y)]) ht3
   refine ⟨(show 2<=Sa by decide),λt4 ht4=>?_⟩
   have w4:=Sn.upd (o:=.tup [.int 0,.int 6]) ht4
   refine ⟨(show 4<=Sa by decide),λl hl=>?_⟩
   have w5:=Sn.upd (o:=.lst [.ref t1,.ref t2,.ref t3,.ref t4]) hl
   exact ⟨_,rfl,_,_,rfl,rfl,l,_,_,_,rfl,rfl,Sx.of Sv,rfl,q t3 _ (((((u3.trans w1).trans w2).trans w3).trans w4).trans w5) (w5 _ _ (w4 _ _ Sv))⟩
  |b5 h0=>
   obtain ⟨v2,a2⟩:=any 2 (by decide)
   obtain ⟨v3,a3⟩:=any 3 (by decide)
   refine ⟨_,rfl,A,_,0,_,rfl,rfl,Sx.of hA3,at' 0 _ h0,rfl,_,rfl,Job (Jno (yh nCB)) ?_⟩
   refine ⟨_,rfl,A,_,0,_,rfl,rfl,Sx.of hA3,at' 0 _ h0,rfl,_,rfl,Job (Jno (yh nTB)) ?_⟩
   refine ⟨_,rfl,_,_,rfl,rfl,_,rfl,Jkb ⟨(show 2<=Sa by decide),λt1 ht1=>?_⟩⟩
   have w1:=Sn.upd (o:=.tup [.int 0,.int 12]) ht1
   refine ⟨_,rfl,N,_,2,_,rfl,rfl,Sx.of (w1 _ _ hN3),a2,(show 2<=Sa by decide),λt2 ht2=>?_⟩
   have w2:=Sn.upd (o:=.tup [v2,.int 12]) ht2
   have hN5:=w2 _ _ (w1 _ _ hN3)
   refine ⟨_,rfl,N,_,2,_,rfl,rfl,Sx.of hN5,a2,_,rfl,N,_,3,_,rfl,rfl,Sx.of hN5,a3,(show 2<=Sa by decide),λt3 ht3=>?_⟩
   have w3:=Sn.upd (o:=.tup [v2,v3]) ht3
   refine ⟨(show 2<=Sa by decide),λt4 ht4=>?_⟩
   have w4:=Sn.upd (o:=.tup [.int 0,.int 6]) ht4
   refine ⟨(show 4<=Sa by decide),λl hl=>?_⟩
   have w5:=Sn.upd (o:=.lst [.ref t1,.ref t2,.ref t3,.ref t4]) hl
   exact ⟨_,rfl,_,_,rfl,rfl,l,_,_,_,rfl,rfl,Sx.of Sv,rfl,q t4 _ (((((u3.trans w1).trans w2).trans w3).trans w4).trans w5) (w5 _ _ Sv)⟩
def NXT:Str:="next"
theorem nNB:NXT≠BAS:=by decide +kernel
theorem nNT:NXT≠TWN:=by decide +kernel
theorem nNC:NXT≠CLD:=by decide +kernel
structure See (H:Hp) (d:S5) (n:Nat) (bn tn:List Str) (Lb Lt Lc:S5):Prop where
 ex:∃kvs:List (Key×V),H d=some (.dK kvs)/\kvs.length<=n/\Jmq kvs (.inr BAS)=some (.ref Lb)/\Jmq kvs (.inr TWN)=some (.ref Lt)/\Jmq kvs (.inr CLD)=some (.ref Lc)
 hb:H Lb=some (.lst (bn.map V.str))
 ht:H Lt=some (.lst (tn.map V.str))
 hc:∃cn:List Str,H Lc=some (.lst (cn.map V.str))/\cn.length<=n
theorem See.same {H H':Hp} {d:S5} {n:Nat} {bn tn:List Str} {Lb Lt Lc:S5} (s:Sn H H') (h:See H d n bn tn Lb Lt Lc):See H' d n bn tn Lb Lt Lc:=by
 obtain ⟨⟨kvs,h1,h2⟩,h3,h4,cn,h5,h6⟩:=h
 exact ⟨⟨kvs,s _ _ h1,h2⟩,s _ _ h3,s _ _ h4,cn,s _ _ h5,h6⟩
theorem Jms {H:Hp} {d:S5} {kvs:List (Key×V)} {x:Str} {v:V} (h:H d=some (.dK kvs)) (e:Jmq kvs (.inr x)=some v):Jv0 H d (.str x) (some v):=.inl ⟨kvs,.inr x,.inl h,rfl,e.symm⟩
def Sm3:Sp:=λvs H Q _=>∃(d:S5) (i n:Nat) (bn tn:List Str) (Lb Lt Lc:S5),vs= [.ref d,.int i]/\See H d n bn tn Lb Lt Lc/\∀(L:S5) (H':Hp),Sn H H'->H L=none->H' L=some (.lst ((if i=0 then [CLD] else firsts bn tn).map V.str))->Q (.ref L) H'
theorem Jqt {zs:List Str}:(zs.map V.str).isEmpty=decide (zs.length=0):=by cases zs <;> rfl
theorem Sdz:Jjh ["_law_known","_law_number_here","_law_found"] ["_law_known","_law_number_here"] (Jje (top 75)):=⟨rfl,rfl,rfl,by decide +kernel,rfl,by decide +kernel,by decide +kernel⟩
theorem Jvf (T:Tx K mg a):Jjz P w K mg base CX0 1 a.Ji1 a.Ji2 ["_law_known","_law_number_here"] Sm3:=by
 refine T.Ja9.fn.ok Sdz (λvs H Q E h=>?_) (λcdv A outer s H vs Q E hr h=>?_)
 ·obtain ⟨d,i,n,bn,tn,Lb,Lt,Lc,rfl,_⟩:=h
  rfl
 ·obtain ⟨d,i,n,bn,tn,Lb,Lt,Lc,rfl,kn,q⟩:=h
  have hu64:=Jp1 hr
  refine ⟨?t,?B,?C⟩
  case B=>
   refine' Jj9 ?O0 ?O1
   case O0=>
    refine' Jjv ?O2 ?O3 ?O4
    case O2=>exact (Jjo Jkv (pv 1) Sy (Jjp _))
    case O3=>
     refine' Jjb ?O5
     case O5=>exact (Jji (Jju (So Jjg Ss)))
    case O4=>exact Jjm
   case O1=>
   refine' Jj9 ?O6 ?O7
   case O6=>exact (Jjl (i:=2) Sdz.nd rfl (yf rfl) (Jju Ss))
   case O7=>
   refine' Jj9 ?O8 ?O9
   case O8=>
    refine' Jjv ?Oa ?Ob ?Oc
    case Oa=>exact (PW.pt (Jmt (Jjo (Jzy hu64) (Jlq hu64 (pv 0) Jjg (λ_ _=>rfl)) (Jju Ss) (Jjp _)) (Jlz (Jjo Jop (Jjk Jjq (by rfl) T.Jav Jkh (So (Jlq hu64 (pv 0) Jjg (λ_ _=>rfl)) Ss)) Sy (Jjp _)))))
    case Ob=>
     refine' Jjb ?Od
     case Od=>exact (Jkm (Jll F.plainAttrs_list F.slot_list_append F.type_list_append Jkw (pv 2) (So Jjg Ss)))
    case Oc=>exact Jjm
   case O9=>
   refine' Jj9 ?Oe ?Of
   case Oe=>
    refine' Jjv ?Og ?Oh ?Oi
    case Og=>exact (PW.pt (Jmt (Jjo (Jzz hu64) (Jlq hu64 (pv 0) Jjg (λ_ _=>rfl)) (Jju Ss) (Jjp _)) (Jlz (Jjo Jop (Jjk Jjq (by rfl) T.Jav Jkh (So (Jlq hu64 (pv 0) Jjg (λ_ _=>rfl)) Ss)) Sy (Jjp _)))))
    case Oh=>
     refine' Jjb ?Oj
     case Oj=>exact (Jkm (Jll F.plainAttrs_list F.slot_list_append F.type_list_append Jkw (pv 2) (So Jjg Ss)))
    case Oi=>exact Jjm
   case Of=>
   refine' Jjb ?Ok
   case Ok=>exact (Jji (pv 2))
  obtain ⟨⟨kvs,hd,hn,eb,et,ec⟩,hb,ht,_⟩:=id kn
  refine ⟨_,rfl,rfl,_,rfl,Jlx (λc=>?_) (λc=>?_)⟩
  ·have i0:i=0:=by have:=V.int.inj (of_decide_eq_true c);omega
   subst i0
   exact ⟨(show 1<=Sa by decide),λD hD=>q D _ (Sn.upd hD) hD Sv⟩
  have i0:i≠0:=λe=>c (decide_eq_true (by rw [e];rfl))
  rw [if_neg i0] at q
  refine ⟨(show 0<=Sa by decide),λD hD=>?_⟩
  have keep:∀{H':Hp} {o:HO},Sn H H'->Sn H (upd H' D o):=λs b u z=>by rw [Jjc (Jjf z hD)];exact s _ _ z
  have q1:=keep (o:=.lst []) (Sn.refl H)
  have hD1:(upd H D (.lst [])) D=some (.lst (([]:List Str).map V.str)):=Sv
  generalize upd H D (.lst [])=H1 at q1 hD1⊢
  unfold Jxt
  dsimp only
  unfold firsts at q
  refine Jm9 (λσ H2=>σ= [some (.ref d),some (.int i),some (.ref D)]/\Sn H H2/\H2 D=some (.lst ((if bn.length < 16/\tn.length=0 then [BAS] else []).map V.str))) (λR hR=>?_) ?_
  ·have no:¬(bn.length < 16/\tn.length=0)->∀{H2:Hp},Sn H H2->H2 D=some (.lst [])->R [some (.ref d),some (.int i),some (.ref D)] H2:=λh H2 s2 e=>hR _ _ ⟨rfl,s2,by rw [e,if_neg h];rfl⟩
   refine ⟨_,rfl,d,.ref Lt,rfl,Jms (q1 _ _ hd) et,(show 0<=Sa by decide),λe1 he1=>?_⟩
   have n1:D≠e1:=λe=>by rw [e] at hD1;rw [hD1] at he1;cases he1
   have w1:=Sn.upd (o:=.lst []) he1
   have hD2:=w1 _ _ hD1
   have q2:=q1.trans w1
   refine ⟨Lt,e1,_,rfl,rfl,Sx.of (q2 _ _ ht),Sx.of Sv,_,rfl,?_⟩
   rw [Jqt]
   by_cases c1:tn.length=0
   ·rw [decide_eq_true c1]
    refine Jkb ⟨_,rfl,d,.ref Lb,rfl,Jms (q2 _ _ hd) eb,Lb,_,rfl,.inl (Sx.of (q2 _ _ hb)),_,_,rfl,rfl,_,rfl,Jlx (λc2=>?_) (λc2=>?_)⟩
    ·have c2:=of_decide_eq_true c2
     rw [ye] at c2
     exact ⟨_,rfl,.inl ⟨rfl,_,Sx.of hD2⟩,D,_,_,rfl,rfl,hD2,(show 0 < Sa by decide),hR _ _ ⟨rfl,keep q2,by rw [Sv,if_pos ⟨by omega,c1⟩];rfl⟩⟩
    ·exact no (λh=>c2 (decide_eq_true (by rw [ye];omega))) q2 hD2
   ·rw [decide_eq_false c1]
    exact Jjw (no (λh=>c1 h.2) q2 hD2)
  ·rintro σ2 H2 ⟨rfl,s2,hD2⟩
   have l1:(if bn.length < 16/\tn.length=0 then [BAS] else []).length<=1:=by split <;> simp
   generalize (if bn.length < 16/\tn.length=0 then [BAS] else [])=zs at hD2 l1 q
   refine Jm9 (λσ H3=>σ= [some (.ref d),some (.int i),some (.ref D)]/\Sn H H3/\H3 D=some (.lst ((zs++(if 0 < bn.length/\tn.length < 3 then [TWN] else [])).map V.str))) (λR hR=>?_) ?_
   ·have no:¬(0 < bn.length/\tn.length < 3)->∀{H3:Hp},Sn H H3->H3 D=some (.lst (zs.map V.str))->R [some (.ref d),some (.int i),some (.ref D)] H3:=λh H3 s3 e=>hR _ _ ⟨rfl,s3,by rw [e,if_neg h,yar]⟩
    refine ⟨_,rfl,d,.ref Lb,rfl,Jms (s2 _ _ hd) eb,(show 0<=Sa by decide),λe1 he1=>?_⟩
    have w1:=Sn.upd (o:=.lst []) he1
    have hD3:=w1 _ _ hD2
    have q2:=s2.trans w1
    refine ⟨Lb,e1,_,rfl,rfl,Sx.of (q2 _ _ hb),Sx.of Sv,_,rfl,?_⟩
    rw [Jqt]
    by_cases c1:bn.length=0
    ·rw [decide_eq_true c1]
     exact Jjw (no (λh=>by omega) q2 hD3)
    ·rw [decide_eq_false c1]
     refine Jkb ⟨_,rfl,d,.ref Lt,rfl,Jms (q2 _ _ hd) et,Lt,_,rfl,.inl (Sx.of (q2 _ _ ht)),_,_,rfl,rfl,_,rfl,Jlx (λc2=>?_) (λc2=>?_)⟩
     ·have c2:=of_decide_eq_true c2
      rw [ye] at c2
      exact ⟨_,rfl,.inl ⟨rfl,_,Sx.of hD3⟩,D,_,_,rfl,rfl,hD3,by rw [ye];exact Jkn (by omega),hR _ _ ⟨rfl,keep q2,by rw [Sv,if_pos ⟨by omega,by omega⟩,yr];rfl⟩⟩
     ·exact no (λh=>c2 (decide_eq_true (by rw [ye];omega))) q2 hD3
   ·rintro σ3 H3 ⟨rfl,s3,hD3⟩
    exact ⟨_,rfl,q D H3 s3 hD hD3⟩
theorem Js2 {lo hi:Int} {z:Str} (h:Jl2 lo hi z=true) (h0:0<=lo) (h1:hi<=999):Jl2 0 999 z=true:=by
 obtain ⟨p,b1,b2⟩:=Jld h
 unfold Jl2
 rw [p,decide_eq_true (by omega:0<=Jk9 z),decide_eq_true (by omega:Jk9 z<=999)]
 rfl
theorem Jvz {nx bn tn ws:List Str} {k:Nat} {z:Str} (hz:ws[k]?=some z) (k0:0 < k) (prev:∀j,j < k->Jnd nx bn tn ws j=true)
  (h:(ws[0]?=some CLD/\k < 3)\/(ws[0]?=some TWN/\k=3)\/(ws[0]?=some BAS/\2<=k/\k≠6/\k < 11)):∃lo hi,Jo8 ws k lo hi/\Jnd nx bn tn ws k=Jl2 lo hi z:=by
 have kl:k < ws.length:=(yz.mp hz).1
 have get:∀j,j < k->∃y,ws[j]?=some y:=λj hj=>⟨_,yi (by omega)⟩
 rcases h with ⟨h0,hk⟩|⟨h0,rfl⟩|⟨h0,k2,k6,k11⟩
 ·have sc:=(Jro (nx:=nx) (bn:=bn) (tn:=tn) h0).2
  rcases (show k=1\/k=2 by omega) with rfl|rfl
  ·exact ⟨_,_,.c1 h0,sc 1 z k0 hz⟩
  ·obtain ⟨y,hy⟩:=get 1 (by decide)
   have p:=prev 1 (by decide)
   rw [sc 1 y (by decide) hy] at p
   refine ⟨_,_,.c2 h0 hy (Js2 p (by decide) (by decide)),?_⟩
   rw [sc 2 z k0 hz,<-Jny hy]
   rfl
 ·exact ⟨_,_,.t h0,(Jp6 h0).2 3 z k0 hz⟩
 ·have sb:=(Jp5 (nx:=nx) (bn:=bn) (tn:=tn) h0).2
  have low:∀j y,2<=j->j < 4->j < k->ws[j]?=some y->Jl2 0 999 y=true:=λj y j2 j4 jk hy=>by
   have p2:=prev 2 (by omega)
   obtain ⟨y2,hy2⟩:=get 2 (by omega)
   rw [sb 2 y2 (by decide) hy2] at p2
   have b2:=(Jld p2).2
   rcases (show j=2\/j=3 by omega) with rfl|rfl
   ·rw [hy2] at hy
    cases hy
    exact Js2 p2 (by decide) (by decide)
   ·have p3:=prev 3 jk
    rw [sb 3 y (by decide) hy] at p3
    exact Js2 p3 (by rw [Jny hy2];exact b2.1) (by decide)
  have mark:∀j y,7<=j->j < 11->j < k->ws[j]?=some y->Jl2 0 999 y=true:=by
   intro j
   induction j with
   |zero=>intro y h;omega
   |succ j ih=>
    intro y j7 j11 jk hy
    have p:=prev (j+1) jk
    rw [sb (j+1) y (by omega) hy] at p
    obtain ⟨x,hx⟩:=get j (by omega)
    rcases (show j=6\/j=7\/j=8\/j=9 by omega) with rfl|rfl|rfl|rfl
    ·exact Js2 p (by show 0<=Jna _;unfold Jna;split <;> decide) (by decide)
    all_goals
     have b:=(Jld (ih x (by omega) (by omega) (by omega) hx)).2
     refine Js2 p ?_ (by decide)
     rw [Jny hx]
     omega
  rcases (show k=2\/k=3\/k=4\/k=5\/k=7\/8<=k by omega) with rfl|rfl|rfl|rfl|rfl|k8
  ·exact ⟨_,_,.b2 h0,sb 2 z k0 hz⟩
  ·obtain ⟨y,hy⟩:=get 2 (by decide)
   exact ⟨_,_,.b3 h0 hy (low 2 y (by decide) (by decide) (by decide) hy),by rw [sb 3 z k0 hz,<-Jny hy];rfl⟩
  ·obtain ⟨y,hy⟩:=get 2 (by decide)
   obtain ⟨x,hx⟩:=get 3 (by decide)
   exact ⟨_,_,.b4 h0 hy (low 2 y (by decide) (by decide) (by decide) hy) hx (low 3 x (by decide) (by decide) (by decide) hx),by rw [sb 4 z k0 hz,<-Jny hy,<-Jny hx];rfl⟩
  ·exact ⟨_,_,.b5 h0,sb 5 z k0 hz⟩
  ·obtain ⟨y,hy⟩:=get 6 (by decide)
   refine ⟨_,_,.b7 h0 hy,?_⟩
   rw [sb 7 z k0 hz]
   show Jl2 (Jna (ws.getD 6 "")) 12 z=_
   rw [Jx9 hy]
  ·obtain ⟨j,rfl⟩:∃j,k=j+1:=⟨k - 1,by omega⟩
   obtain ⟨y,hy⟩:=get j (by omega)
   refine ⟨_,_,.b8 h0 (by omega) hy (mark j y (by omega) (by omega) (by omega) hy),?_⟩
   rw [sb (j+1) z k0 hz,<-Jny hy]
   rcases (show j=7\/j=8\/j=9 by omega) with rfl|rfl|rfl <;> rfl
def Slx:Sp:=λvs H Q _=>∃(A d Ln:S5) (k n:Nat) (ws nx bn tn:List Str) (Lb Lt Lc:S5),vs= [.ref A,.int k,.ref d]/\H A=some (.lst (ws.map V.str))/\WdL ws/\k < ws.length/\See H d n bn tn Lb Lt Lc/\Jv0 H d (.str NXT) (some (.ref Ln))/\H Ln=some (.lst (nx.map V.str))/\(∀z∈nx,z=CLD\/z=TWN\/z=BAS)/\(∀j,j < k->Jnd nx bn tn ws j=true)/\∀H',Sn H H'->Q (.bl (Jnd nx bn tn ws k)) H'
theorem Sb4:Jjh ["_law_words","_law_at","_law_known","_law_word_here","_law_low","_law_high"] ["_law_words","_law_at","_law_known"] (Jje (top 74)):=⟨rfl,rfl,rfl,by decide +kernel,rfl,by decide +kernel,by decide +kernel⟩
theorem Jr0 (T:Tx K mg a):Jjz P w K mg base CX0 4 a.Jhz a.Ji0 ["_law_words","_law_at","_law_known"] Slx:=by
 have Sc3:=Jpg (P:=P) (w:=w) (base:=base) T
 have Sed:=Js5 (P:=P) (w:=w) (base:=base) T
 have Sep:=Jsn (P:=P) (w:=w) (base:=base) T
 refine T.Ja8.fn.ok Sb4 (λvs H Q E h=>?_) (λcdv A outer s H vs Q E hr h=>?_)
 ·obtain ⟨A,d,Ln,k,n,ws,nx,bn,tn,Lb,Lt,Lc,rfl,_⟩:=h
  rfl
 ·obtain ⟨A,d,Ln,k,n,ws,nx,bn,tn,Lb,Lt,Lc,rfl,hA,wd,kl,kn,gn,hn,ns,prev,q⟩:=h
  have hu64:=Jp1 hr
  refine ⟨?t,?B,?C⟩
  case B=>
   refine' Jj9 ?O0 ?O1
   case O0=>exact (Jjl (i:=3) Sb4.nd rfl (yf rfl) (Jk5 Jjs (pv 0) (pv 1) (λ_ _=>rfl)))
   case O1=>
   refine' Jj9 ?O2 ?O3
   case O2=>
    refine' Jjv ?O4 ?O5 ?O6
    case O4=>exact (Jjo Jkv (pv 1) Sy (Jjp _))
    case O5=>
     refine' Jjb ?O7
     case O7=>exact (Jji (Jkt Jnu (pv 3) (Jlq hu64 (pv 2) Jjg (λ_ _=>rfl)) (by with_unfolding_all rfl)))
    case O6=>exact Jjm
   case O3=>
   refine' Jj9 ?O8 ?O9
   case O8=>
    refine' Jjv ?Oa ?Ob ?Oc
    case Oa=>exact (PW.pt (Jmt (Jjo Sjs (Jk5 Jjs (pv 0) Sy (λ_ _=>rfl)) Jjg (Jjp _)) (Jlz (Jjo Jkv (pv 1) Sy (Jjp _)))))
    case Ob=>
     refine' Jjb ?Od
     case Od=>exact (Jji (Jr1 (Jjd T.Ja6 Sed hr (by decide) (So (pv 3) Ss)) (Jor (Jkt Jq6 (pv 3) (Jlq hu64 (pv 2) (Jk5 Jjs (pv 0) Sy (λ_ _=>rfl)) (λ_ _=>rfl)) (by with_unfolding_all rfl)))))
    case Oc=>exact Jjm
   case O9=>
   refine' Jj9 ?Oe ?Of
   case Oe=>
    refine' Jjv ?Og ?Oh ?Oi
    case Og=>exact (PW.pt (Jmt (Jjo Jkv (Jk5 Jjs (pv 0) Sy (λ_ _=>rfl)) Jjg (Jjp _)) (Jlz (Jjo Jkv (pv 1) Sy (Jjp _)))))
    case Oh=>
     refine' Jjb ?Oj
     case Oj=>exact (Jji (Jkt Jnu (pv 3) (Jlq hu64 (pv 2) Jjg (λ_ _=>rfl)) (by with_unfolding_all rfl)))
    case Oi=>exact Jjm
   case Of=>
   refine' Jj9 ?Ok ?Ol
   case Ok=>
    refine' Jjv ?Om ?On ?Oo
    case Om=>exact (PW.pt (Jmt (Jjo Jkv (Jk5 Jjs (pv 0) Sy (λ_ _=>rfl)) Jjg (Jjp _)) (Jlz (Jjo Jkv (pv 1) Sy (Jjp _)))))
    case On=>
     refine' Jjb ?Op
     case Op=>exact (Jji (Jkt Jnu (pv 3) (Jju (So Jjg (So Jjg (So Jjg Ss)))) (by with_unfolding_all rfl)))
    case Oo=>exact Jjm
   case Ol=>
   refine' Jj9 ?Oq ?Or
   case Oq=>
    refine' Jjv ?Os ?Ot ?Ou
    case Os=>exact (Jjo Sow (pv 1) (Jlq hu64 (Jum (Jm8 Jjg Sy (Jm8 Jjg Sy (Jm8 Jjg Sy Jun))) rfl rfl (by simp) (by simp)) (Jk5 Jjs (pv 0) Sy (λ_ _=>rfl)) (λ_ _=>rfl)) (Jjp _))
    case Ot=>
     refine' Jjb ?Ov
     case Ov=>exact (Jji Jn6)
    case Ou=>exact Jjm
   case Or=>
   refine' Jj9 ?Ow ?Ox
   case Ow=>exact (Juo (Jjd T.Ja7 Sep hr (by decide) (So (pv 0) (So (pv 1) Ss))) (Y5 rfl (Jq9 (Jk3 (i:=4) Sb4.nd rfl (yf rfl)) (Jq9 (Jk3 (i:=5) Sb4.nd rfl (yf rfl)) Jxn))))
   case Ox=>
   refine' Jjb ?Oy
   case Oy=>exact (Jji (Jkt Jul (Jjd T.Ja5 Sc3 hr (by decide) (So (pv 3) (So (pv 4) (So (pv 5) Ss)))) Jm7 (Jjp _)))
  obtain ⟨⟨kvs,hd,hl,eb,et,ec⟩,hb,ht,_⟩:=id kn
  have hz:=yi kl
  generalize ws[k]=z at hz
  have at':∀j z,ws[j]?=some z->atI (ws.map V.str) ((j:Nat):Int)=some (.str z):=λj z hz=>Jl7 (by rw [yn,hz];rfl)
  have q0:=q H (Sn.refl H)
  refine ⟨_,rfl,_,rfl,A,_,_,_,rfl,rfl,Sx.of hA,at' k z hz,?_⟩
  refine ⟨_,rfl,rfl,_,rfl,Jlx (λc=>?_) (λc=>?_)⟩
  ·have i0:k=0:=by have:=V.int.inj (of_decide_eq_true c);omega
   subst i0
   rw [Jvr hz] at q0
   refine ⟨_,rfl,_,rfl,d,.ref Ln,rfl,gn,Ln,_,rfl,.inl (Sx.of hn),rfl,Jn0 nx,?_⟩
   rw [if_neg yw,Jp2]
   exact q0
  have k0:0 < k:=by
   rcases ybv k with e|e
   ·exact absurd (decide_eq_true (by rw [e];rfl)) c
   ·exact e
  have h0:=yi (show 0 < ws.length by omega)
  generalize ws[0]=w0 at h0
  have m0:w0∈nx:=by
   have:=prev 0 k0
   rw [Jvr h0] at this
   exact of_decide_eq_true this
  have w3:=ns w0 m0
  have wz:=wd.2.2 z (yab hz)
  unfold Jxt
  dsimp only
  refine Jm9 (λσ H2=>σ= [some (.ref A),some (.int k),some (.ref d),some (.str z),none,none]/\H2=H/\¬(w0≠CLD/\k=1)) (λR hR=>?_) ?_
  ·refine ⟨_,rfl,A,_,0,_,rfl,rfl,Sx.of hA,at' 0 _ h0,rfl,_,rfl,?_⟩
   by_cases c0:w0=CLD
   ·rw [decide_eq_true (congrArg V.str c0:V.str w0=V.str "cloud")]
    exact Jjw (hR _ _ ⟨rfl,rfl,λh=>h.1 c0⟩)
   rw [decide_eq_false (Jno c0:¬V.str w0=V.str "cloud")]
   refine Jkb ⟨_,rfl,rfl,_,rfl,Jlx (λc1=>?_) (λc1=>hR _ _ ⟨rfl,rfl,λh=>c1 (decide_eq_true (by rw [h.2];rfl))⟩)⟩
   have k1:k=1:=by have:=V.int.inj (of_decide_eq_true c1);omega
   subst k1
   obtain ⟨L,zs,gl,hL,es⟩:∃L zs,Jv0 H d (.str w0) (some (.ref L))/\H L=some (.lst (zs.map V.str))/\Jnd nx bn tn ws 1=Jwd zs z:=by
    rcases w3 with rfl|rfl|rfl
    ·exact absurd rfl c0
    ·exact ⟨Lt,tn,Jms hd et,ht,(Jp6 h0).2 1 z (by decide) hz⟩
    ·exact ⟨Lb,bn,Jms hd eb,hb,(Jp5 h0).2 1 z (by decide) hz⟩
   rw [es] at q
   unfold Jwd at q
   refine ⟨_,rfl,z,rfl,wz,λH1 s1=>⟨_,rfl,Jlx (λc=>?_) (λc=>?_)⟩⟩
   ·have q1:=q H1 s1
    rw [show Jlj z=true from c,yaw] at q1
    have gl1:Jv0 H1 d (.str w0) (some (.ref L)):=by
     rcases gl with ⟨kvs,k,e|⟨o,e⟩,r⟩|⟨kvs,k,b,e|⟨o,e⟩,r1,r2,r3⟩
     ·exact .inl ⟨kvs,k,.inl (s1 _ _ e),r⟩
     ·exact .inl ⟨kvs,k,.inr ⟨o,s1 _ _ e⟩,r⟩
     ·exact .inr ⟨kvs,k,b,.inl (s1 _ _ e),r1,s1 _ _ r2,r3⟩
     ·exact .inr ⟨kvs,k,b,.inr ⟨o,s1 _ _ e⟩,r1,s1 _ _ r2,r3⟩
    refine ⟨_,rfl,_,rfl,_,rfl,A,_,0,_,rfl,rfl,Sx.of (s1 _ _ hA),at' 0 _ h0,d,.ref L,rfl,gl1,L,_,rfl,.inl (Sx.of (s1 _ _ hL)),rfl,Jn0 zs,?_⟩
    rw [if_pos rfl,Jp2]
    simpa using q1
   ·have q1:=q H1 s1
    rw [show Jlj z=false from Bool.eq_false_iff.mpr c,yao] at q1
    exact q1
  rintro σ2 H2 ⟨rfl,rfl,n2⟩
  refine Jm9 (λσ H3=>σ= [some (.ref A),some (.int k),some (.ref d),some (.str z),none,none]/\H3=H2/\¬(w0=TWN/\k=2)) (λR hR=>?_) ?_
  ·refine ⟨_,rfl,A,_,0,_,rfl,rfl,Sx.of hA,at' 0 _ h0,rfl,_,rfl,?_⟩
   by_cases c0:w0=TWN
   ·rw [decide_eq_true (congrArg V.str c0:V.str w0=V.str "town")]
    refine Jkb ⟨_,rfl,rfl,_,rfl,Jlx (λc1=>?_) (λc1=>hR _ _ ⟨rfl,rfl,λh=>c1 (decide_eq_true (by rw [h.2];rfl))⟩)⟩
    have k1:k=2:=by have:=V.int.inj (of_decide_eq_true c1);omega
    subst k1 c0
    refine ⟨_,rfl,_,rfl,d,.ref Lb,rfl,Jms hd eb,Lb,_,rfl,.inl (Sx.of hb),rfl,Jn0 bn,?_⟩
    rw [if_neg yw,Jp2]
    rw [(Jp6 h0).2 2 z (by decide) hz] at q0
    exact q0
   ·rw [decide_eq_false (Jno c0:¬V.str w0=V.str "town")]
    exact Jjw (hR _ _ ⟨rfl,rfl,λh=>c0 h.1⟩)
  rintro σ3 H3 ⟨rfl,rfl,n3⟩
  refine Jm9 (λσ H4=>σ= [some (.ref A),some (.int k),some (.ref d),some (.str z),none,none]/\H4=H3/\¬(w0=BAS/\k=6)) (λR hR=>?_) ?_
  ·refine ⟨_,rfl,A,_,0,_,rfl,rfl,Sx.of hA,at' 0 _ h0,rfl,_,rfl,?_⟩
   by_cases c0:w0=BAS
   ·rw [decide_eq_true (congrArg V.str c0:V.str w0=V.str "basin")]
    refine Jkb ⟨_,rfl,rfl,_,rfl,Jlx (λc1=>?_) (λc1=>hR _ _ ⟨rfl,rfl,λh=>c1 (decide_eq_true (by rw [h.2];rfl))⟩)⟩
    have k1:k=6:=by have:=V.int.inj (of_decide_eq_true c1);omega
    subst k1 c0
    refine ⟨_,rfl,(show 3<=Sa by decide),λL hL=>?_⟩
    have s1:=Sn.upd (o:=.lst (SRT.map V.str)) hL
    refine ⟨L,SRT.map V.str,rfl,.inl (Sx.of Sv),rfl,Jn0 SRT,?_⟩
    rw [if_neg yw,Jp2]
    have q1:=q _ s1
    rw [(Jp5 h0).2 6 z (by decide) hz] at q1
    exact q1
   ·rw [decide_eq_false (Jno c0:¬V.str w0=V.str "basin")]
    exact Jjw (hR _ _ ⟨rfl,rfl,λh=>c0 h.1⟩)
  rintro σ4 H4 ⟨rfl,rfl,n4⟩
  obtain ⟨m,em,km,nm⟩:∃m:Nat,Jmq (Jlg [] [(.inr CLD,.int 3),(.inr TWN,.int 4),(.inr BAS,.int 11)]) (.inr w0)=some (.int m)/\(m<=k->Jnd nx bn tn ws k=false)/\(k < m->∃lo hi,Jo8 ws k lo hi/\Jnd nx bn tn ws k=Jl2 lo hi z):=by
   have e:Jlg [] [(.inr CLD,.int 3),(.inr TWN,.int 4),(.inr BAS,.int 11)]=Jlh (Jlh (Jlh [] (.inr CLD) (.int 3)) (.inr TWN) (.int 4)) (.inr BAS) (.int 11):=rfl
   have ne:∀{x y:Str},x≠y->¬(yaq x:Key)=yaq y:=λh e=>h (yaq.inj e)
   rcases w3 with rfl|rfl|rfl
   ·refine ⟨3,by rw [e,Jke,if_neg (ne nCB),Jke,if_neg (ne nCT),Jke,if_pos rfl];rfl,λh=>?_,λh=>Jvz hz k0 prev (.inl ⟨h0,h⟩)⟩
    obtain ⟨j,rfl⟩:∃j,k=j+3:=⟨k - 3,by omega⟩
    rw [(Jro h0).2 _ z k0 hz]
    rfl
   ·refine ⟨4,by rw [e,Jke,if_neg (ne nTB),Jke,if_pos rfl];rfl,λh=>?_,λh=>Jvz hz k0 prev (.inr (.inl ⟨h0,?_⟩))⟩
    ·obtain ⟨j,rfl⟩:∃j,k=j+4:=⟨k - 4,by omega⟩
     rw [(Jp6 h0).2 _ z k0 hz]
     rfl
    ·have:k≠1:=λe=>n2 ⟨yh nCT,e⟩
     have:k≠2:=λe=>n3 ⟨rfl,e⟩
     omega
   ·refine ⟨11,by rw [e,Jke,if_pos rfl];rfl,λh=>?_,λh=>Jvz hz k0 prev (.inr (.inr ⟨h0,?_,λe=>n4 ⟨rfl,e⟩,h⟩))⟩
    ·obtain ⟨j,rfl⟩:∃j,k=j+11:=⟨k - 11,by omega⟩
     rw [(Jp5 h0).2 _ z k0 hz]
     rfl
    ·have:k≠1:=λe=>n2 ⟨yh nCB,e⟩
     omega
  refine ⟨_,rfl,λp hp=>⟨Sv,[(.inr CLD,.int 3),(.inr TWN,.int 4),(.inr BAS,.int 11)],rfl,by decide,?_⟩⟩
  rw [Jlv]
  have s1:=Sn.upd (o:=.dK (Jlg [] [(.inr CLD,.int 3),(.inr TWN,.int 4),(.inr BAS,.int 11)])) hp
  refine ⟨_,rfl,A,_,0,_,rfl,rfl,Sx.of (s1 _ _ hA),at' 0 _ h0,p,_,rfl,Jms Sv em,_,_,rfl,rfl,_,rfl,Jlx (λc=>?_) (λc=>?_)⟩
  ·have q1:=q _ s1
   rw [km (by have:=of_decide_eq_true c;omega)] at q1
   exact q1
  obtain ⟨lo,hi,bi,es⟩:=nm (by
   rcases ybh k m with h|h
   ·exact h
   ·exact absurd (decide_eq_true (by omega)) c)
  rw [es] at q
  refine ⟨_,rfl,_,rfl,A,ws,k,lo,hi,rfl,s1 _ _ hA,wd,kl,bi,λt H5 s5 ht=>?_⟩
  refine ⟨t,_,rfl,SqT.of ht,rfl,_,_,rfl,_,_,rfl,rfl,?_⟩
  refine ⟨_,rfl,_,rfl,_,rfl,z,lo,hi,rfl,wz,λH6 s6=>⟨rfl,?_⟩⟩
  have q1:=q H6 ((s1.trans s5).trans s6)
  cases e:Jl2 lo hi z with
  |true=>rw [e] at q1;exact q1
  |false=>rw [e] at q1;exact q1
theorem Jrj {kvs:List (Key×V)} {k:Key} {v:V}:(Jlh kvs k v).length<=kvs.length+1:=by
 unfold Jlh
 split
 ·rw [ye];omega
 ·simp
theorem neK {x y:Str} (h:x≠y):¬(yaq x:Key)=yaq y:=λe=>h (yaq.inj e)
theorem See.put {H:Hp} {d:S5} {n:Nat} {bn tn:List Str} {Lb Lt Lc:S5} {v:V} {kvs:List (Key×V)} (hd:H d=some (.dK kvs)) (h:See H d n bn tn Lb Lt Lc):See (upd H d (.dK (Jlh kvs (.inr NXT) v))) d (n+1) bn tn Lb Lt Lc:=by
 obtain ⟨⟨kvs',h1,h2,e1,e2,e3⟩,h3,h4,cn,h5,h6⟩:=h
 rw [hd] at h1
 cases h1
 have ne:∀{b:S5} {xs:List V},H b=some (.lst xs)->b≠d:=λe z=>by rw [z,hd] at e;cases e
 have l:=Jrj (kvs:=kvs) (k:=.inr NXT) (v:=v)
 refine ⟨⟨_,Sv,by omega,?_,?_,?_⟩,by rw [Jjc (ne h3)];exact h3,by rw [Jjc (ne h4)];exact h4,cn,by rw [Jjc (ne h5)];exact h5,by omega⟩
 ·rw [Jke,if_neg (neK (yh nNB))];exact e1
 ·rw [Jke,if_neg (neK (yh nNT))];exact e2
 ·rw [Jke,if_neg (neK (yh nNC))];exact e3
theorem Jzu {wss:List (List Str)} {i:Nat}:∀z∈nxt wss i,z=CLD\/z=TWN\/z=BAS:=by
 intro z hz
 unfold nxt at hz
 split at hz
 ·exact .inl (yaf.mp hz)
 ·unfold firsts at hz
  rcases yy.mp hz with h|h
  ·split at h
   ·exact .inr (.inr (yaf.mp h))
   ·cases h
  ·split at h
   ·exact .inr (.inl (yaf.mp h))
   ·cases h
theorem Jzs {ws:List Str} {w0:Str} (h0:ws[0]?=some w0) (hw:w0=CLD\/w0=TWN\/w0=BAS):Jmq (Jlg [] [(.inr CLD,.int 3),(.inr TWN,.int 4),(.inr BAS,.int 8)]) (.inr w0)=some (.int (Jp8 ws:Nat)):=by
 have e:Jlg [] [(.inr CLD,.int 3),(.inr TWN,.int 4),(.inr BAS,.int 8)]=Jlh (Jlh (Jlh [] (.inr CLD) (.int 3)) (.inr TWN) (.int 4)) (.inr BAS) (.int 8):=rfl
 rcases hw with rfl|rfl|rfl
 ·rw [(Jro (nx:=[]) (bn:=[]) (tn:=[]) h0).1,e,Jke,if_neg (neK nCB),Jke,if_neg (neK nCT),Jke,if_pos rfl];rfl
 ·rw [(Jp6 (nx:=[]) (bn:=[]) (tn:=[]) h0).1,e,Jke,if_neg (neK nTB),Jke,if_pos rfl];rfl
 ·rw [(Jp5 (nx:=[]) (bn:=[]) (tn:=[]) h0).1,e,Jke,if_pos rfl];rfl
def RtV (H:Hp):Option (Nat×Nat)->V->Prop
 |none,v=>v= .non
 |some (i,e),v=>∃t,v= .ref t/\H t=some (.tup [.int i,.int e])
theorem Jxi (x:Str) (l:List (List Str)):(nms x l).length<=l.length:=List.length_filterMap_le ..
def Ybd:Sp:=λvs H Q _=>∃z:Str,vs= [.str z]/\Wd 1990 z/\∀r v H',Sn H H'->Res (Jmb z) r->RtV H' r v->Q v H'
theorem Sap:Jjh ["_law_text","_law_lines_here","_law_known","_law_number_here","_law_line","_law_words","_law_at"] ["_law_text"] (Jje (top 76)):=⟨rfl,rfl,rfl,by decide +kernel,rfl,by decide +kernel,by decide +kernel⟩
theorem Juf (T:Tx K mg a):Jjz P w K mg base CX0 5 a.Ji3 a.Ji4 ["_law_text"] Ybd:=by
 have Sfx:=Jvf (P:=P) (w:=w) (base:=base) T
 have Sdt:=Jr0 (P:=P) (w:=w) (base:=base) T
 refine T.Jaa.fn.ok Sap (λvs H Q E h=>?_) (λcdv A outer s H vs Q E hr h=>?_)
 ·obtain ⟨z,rfl,_⟩:=h
  rfl
 ·obtain ⟨z,rfl,wz,q⟩:=h
  have hu64:=Jp1 hr
  refine ⟨?t,?B,?C⟩
  case B=>
   refine' Jj9 ?O0 ?O1
   case O0=>exact (Jjl (i:=1) Sap.nd rfl (yf rfl) (Jll F.plainAttrs_str F.slot_str_split F.type_str_split Jq2 (pv 0) (So Jjg Ss)))
   case O1=>
   refine' Jj9 ?O2 ?O3
   case O2=>
    refine' Jjl (i:=2) ?O4 ?O5 ?O6 ?O7 ?O8 ?O9
    case O4=>exact Sap.nd
    case O5=>exact rfl
    case O6=>exact (yf rfl)
    case O8=>rfl
    case O9=>first|exact .inl rfl|exact .inr rfl
    case O7=>
    refine' Jum ?Oa ?Ob ?Oc ?Od ?Oe
    case Ob=>rfl
    case Oc=>rfl
    case Od=>simp
    case Oe=>simp
    case Oa=>
    refine' Jm8 ?Of ?Og ?Oh
    case Of=>exact Jjg
    case Og=>exact (Jju Ss)
    case Oh=>
    refine' Jm8 ?Oi ?Oj ?Ok
    case Oi=>exact Jjg
    case Oj=>exact (Jju Ss)
    case Ok=>
    refine' Jm8 ?Ol ?Om ?On
    case Ol=>exact Jjg
    case Om=>exact (Jju Ss)
    case On=>exact Jun
   case O3=>
   refine' Jj9 ?Oo ?Op
   case Oo=>
    refine' Jnm ?Oq ?Or ?Os ?Ot ?Ou
    case Oq=>exact PassesOwn.never
    case Or=>exact rfl
    case Os=>exact (Yan (by rfl) T.Jas (So (pv 1) Ss))
    case Ot=>exact (Y5 rfl (Jq9 (Jk3 (i:=3) Sap.nd rfl (yf rfl)) (Jq9 (Jk3 (i:=4) Sap.nd rfl (yf rfl)) Jxn)))
    case Ou=>
    refine' Jj9 ?Ov ?Ow
    case Ov=>exact (Jjl (i:=5) Sap.nd rfl (yf rfl) (Jll F.plainAttrs_str F.slot_str_split F.type_str_split Jq2 (pv 4) (So Jjg Ss)))
    case Ow=>
    refine' Jj9 ?Ox ?Oy
    case Ox=>exact (Jyl hu64 (pv 2) Jjg (Jjd T.Ja9 Sfx hr (by decide) (So (pv 2) (So (pv 3) Ss))) rfl)
    case Oy=>
    refine' Jj9 ?Oz ?U0
    case Oz=>
     refine' Jnm ?U1 ?U2 ?U3 ?U4 ?U5
     case U1=>exact PassesOwn.never
     case U2=>exact rfl
     case U3=>exact (Jn2 (by rfl) T.Jaz (So (Jjk Jjq (by rfl) T.Jav Jkh (So (pv 5) Ss)) Ss))
     case U4=>exact (Jk3 (i:=6) Sap.nd rfl (yf rfl))
     case U5=>
     refine' Jjb ?U6
     case U6=>
     refine' Jjv ?U7 ?U8 ?U9
     case U7=>exact (Jkf (Jkg (Jjd T.Ja8 Sdt hr (by decide) (So (pv 5) (So (pv 6) (So (pv 2) Ss))))))
     case U8=>
      refine' Jjb ?Ua
      case Ua=>exact (Jji (Jkj (So (pv 3) (So (pv 6) Ss))))
     case U9=>exact Jjm
    case U0=>
    refine' Jj9 ?Ub ?Uc
    case Ub=>
     refine' Jjv ?Ud ?Ue ?Uf
     case Ud=>exact (Jjo Jop (Jjk Jjq (by rfl) T.Jav Jkh (So (pv 5) Ss)) (Jlq hu64 (Jum (Jm8 Jjg Sy (Jm8 Jjg Sy (Jm8 Jjg Sy Jun))) rfl rfl (by simp) (by simp)) (Jk5 Jjs (pv 5) Sy (λ_ _=>rfl)) (λ_ _=>rfl)) (Jjp _))
     case Ue=>
      refine' Jjb ?Ug
      case Ug=>exact (Jji (Jkj (So (pv 3) (So (Jjk Jjq (by rfl) T.Jav Jkh (So (pv 5) Ss)) Ss))))
     case Uf=>exact Jjm
    case Uc=>
    refine' Jjb ?Uh
    case Uh=>exact (Jkm (Jll F.plainAttrs_list F.slot_list_append F.type_list_append Jkw (Jlq hu64 (pv 2) (Jk5 Jjs (pv 5) Sy (λ_ _=>rfl)) (λ_ _=>rfl)) (So (Jk5 Jjs (pv 5) Sy (λ_ _=>rfl)) Ss)))
   case Op=>
   refine' Jj9 ?Ui ?Uj
   case Ui=>
    refine' Jjv ?Uk ?Ul ?Um
    case Uk=>exact (Jjo (Jzy hu64) (Jlq hu64 (pv 2) Jjg (λ_ _=>rfl)) (Jju Ss) (Jjp _))
    case Ul=>
     refine' Jjb ?Un
     case Un=>exact (Jji (Jkj (So (Jjk Jjq (by rfl) T.Jav Jkh (So (pv 1) Ss)) (So Sy Ss))))
    case Um=>exact Jjm
   case Uj=>
   refine' Jjb ?Uo
   case Uo=>exact (Jji Jm7)
  have rsW:∀r∈Txt.split z NLN,Wd 1990 r:=λr hr=>by
   rw [Jpj] at hr
   exact (Jn8 wz).2.2 r hr
  have rsl:(Txt.split z NLN).length<=2000:=by rw [Jpj];exact (Jn8 wz).2.1
  have ew:∀i r,(Txt.split z NLN)[i]?=some r->(Jmb z)[i]?=some (Txt.split r SPC):=λi r hr=>by
   unfold Jmb
   rw [yn,hr]
   rfl
  have wl:(Jmb z).length=(Txt.split z NLN).length:=ye ..
  refine ⟨_,rfl,rfl,_,NLN,rfl,rfl,by decide +kernel,yv wz.len (by decide),λD hD=>?_⟩
  generalize hrs:Txt.split z NLN=rs at rsW rsl ew wl
  generalize hwss:Jmb z=wss at q ew wl
  have s1:=Sn.upd (o:=.lst (rs.map V.str)) hD
  have hD1:(upd H D (.lst (rs.map V.str))) D=some (.lst (rs.map V.str)):=Sv
  generalize upd H D (.lst (rs.map V.str))=H1 at s1 hD1⊢
  refine λd hd=>?_
  have sd:=Sn.upd (o:=.dK []) hd
  refine ⟨(show 0<=Sa by decide),λLb hLb=>?_⟩
  have sb:=Sn.upd (o:=.lst []) hLb
  refine ⟨(show 0<=Sa by decide),λLt hLt=>?_⟩
  have st:=Sn.upd (o:=.lst []) hLt
  refine ⟨(show 0<=Sa by decide),λLc hLc=>?_⟩
  have sc:=Sn.upd (o:=.lst []) hLc
  refine ⟨sc _ _ (st _ _ (sb _ _ Sv)),[(.inr BAS,.ref Lb),(.inr TWN,.ref Lt),(.inr CLD,.ref Lc)],rfl,(show 3<=15 by decide),?_⟩
  have hS:Sn H1 (upd (upd (upd (upd (upd H1 d (.dK [])) Lb (.lst [])) Lt (.lst [])) Lc (.lst [])) d (.dK (Jlg [] [(.inr BAS,.ref Lb),(.inr TWN,.ref Lt),(.inr CLD,.ref Lc)]))):=λb o e=>by
   rw [Jjc (Jjf e hd)]
   exact sc _ _ (st _ _ (sb _ _ (sd _ _ e)))
  have nbd:Lb≠d:=λe=>by rw [e,Sv] at hLb;cases hLb
  have ntd:Lt≠d:=λe=>by rw [e,sb _ _ Sv] at hLt;cases hLt
  have ncd:Lc≠d:=λe=>by rw [e,st _ _ (sb _ _ Sv)] at hLc;cases hLc
  have ntb:Lt≠Lb:=λe=>by rw [e,Sv] at hLt;cases hLt
  have ncb:Lc≠Lb:=λe=>by rw [e,st _ _ Sv] at hLc;cases hLc
  have nct:Lc≠Lt:=λe=>by rw [e,Sv] at hLc;cases hLc
  have kn0:See (upd (upd (upd (upd (upd H1 d (.dK [])) Lb (.lst [])) Lt (.lst [])) Lc (.lst [])) d (.dK (Jlg [] [(.inr BAS,.ref Lb),(.inr TWN,.ref Lt),(.inr CLD,.ref Lc)]))) d 3 [] [] Lb Lt Lc:=by
   have e:Jlg [] [(.inr BAS,.ref Lb),(.inr TWN,.ref Lt),(.inr CLD,.ref Lc)]=Jlh (Jlh (Jlh [] (.inr BAS) (.ref Lb)) (.inr TWN) (.ref Lt)) (.inr CLD) (.ref Lc):=rfl
   refine ⟨⟨_,Sv,?_,?_,?_,?_⟩,by rw [Jjc nbd];exact sc _ _ (st _ _ Sv),by rw [Jjc ntd];exact sc _ _ Sv,[],by rw [Jjc ncd];exact Sv,by simp⟩
   ·rw [e]
    have l1:=Jrj (kvs:=[]) (k:=.inr BAS) (v:=.ref Lb)
    have l2:=Jrj (kvs:=Jlh [] (.inr BAS) (.ref Lb)) (k:=.inr TWN) (v:=.ref Lt)
    have l3:=Jrj (kvs:=Jlh (Jlh [] (.inr BAS) (.ref Lb)) (.inr TWN) (.ref Lt)) (k:=.inr CLD) (v:=.ref Lc)
    simp only [ybt] at l1
    omega
   ·rw [e,Jke,if_neg (neK (yh nCB)),Jke,if_neg (neK (yh nTB)),Jke,if_pos rfl]
   ·rw [e,Jke,if_neg (neK (yh nCT)),Jke,if_pos rfl]
   ·rw [e,Jke,if_pos rfl]
  have fresh:∀{b:S5} {H2:Hp},Sn H1 H2->H2 b=none->H b=none:=λ{b H2} ss h=>by
   cases hc:H b with
   |none=>rfl
   |some o=>rw [ss _ _ (s1 _ _ hc)] at h;cases h
  have d0:H d=none:=fresh (Sn.refl _) hd
  have b0:H Lb=none:=fresh sd hLb
  have t0:H Lt=none:=fresh (sd.trans sb) hLt
  have c0:H Lc=none:=fresh ((sd.trans sb).trans st) hLc
  have nD:D≠d:=Jjf hD1 hd
  have nDb:D≠Lb:=Jjf (sd _ _ hD1) hLb
  have nDt:D≠Lt:=Jjf (sb _ _ (sd _ _ hD1)) hLt
  have nDc:D≠Lc:=Jjf (st _ _ (sb _ _ (sd _ _ hD1))) hLc
  have hD5:=hS _ _ hD1
  have s5:=s1.trans hS
  dsimp only [Jnf]
  generalize upd (upd (upd (upd (upd H1 d (.dK [])) Lb (.lst [])) Lt (.lst [])) Lc (.lst [])) d (.dK (Jlg [] [(.inr BAS,.ref Lb),(.inr TWN,.ref Lt),(.inr CLD,.ref Lc)]))=H5 at kn0 hD5 s5⊢
  refine ⟨_,rfl,D,rfl,⟨_,Sx.of hD5⟩,?_⟩
  refine Ya3 (K:=K) (a:=D) (xs:=rs.map V.str) (λi σ H'=>∃(o3 o4 o5 o6:Option V),σ= [some (.str z),some (.ref D),some (.ref d),o3,o4,o5,o6]/\Sn H H'/\H' D=some (.lst (rs.map V.str))/\See H' d (3+2*i) (nms BAS (wss.take i)) (nms TWN (wss.take i)) Lb Lt Lc/\∀j,j < i->gdL wss j) ⟨_,_,_,_,rfl,s5,hD5,kn0,λj hj=>absurd hj (ybq _)⟩ (λi σ H' _ ⟨_,_,_,_,_,_,h,_⟩=>Sx.of h) ?_ ?_
  ·rintro i x σ H' T1 hx ⟨o3,o4,o5,o6,rfl,sm,hD',kn,gds⟩ hT
   rw [yn] at hx
   obtain ⟨r,hr',rfl⟩:=yat.mp hx
   have il:i < rs.length:=(yz.mp hr').1
   have hw:=ew _ _ hr'
   have wr:=rsW r (yab hr')
   have wdl:WdL (Txt.split r SPC):=by rw [Jr3];exact Jn8 wr
   have sT:=Sn.upd (o:=.tup [.int i,.str r]) hT
   refine ⟨T1,_,rfl,SqT.of Sv,rfl,_,_,rfl,_,_,rfl,rfl,?_⟩
   have kn1:=kn.same sT
   have sm1:=sm.trans sT
   have hD1':=sT _ _ hD'
   generalize upd H' T1 (.tup [.int i,.str r])=I1 at kn1 sm1 hD1'⊢
   refine ⟨_,rfl,rfl,_,SPC,rfl,rfl,by decide +kernel,yv wr.len (by decide),λW hW=>?_⟩
   generalize Txt.split r SPC=ws at hw wdl
   have sW:=Sn.upd (o:=.lst (ws.map V.str)) hW
   have hW2:(upd I1 W (.lst (ws.map V.str))) W=some (.lst (ws.map V.str)):=Sv
   have kn2:=kn1.same sW
   have sm2:=sm1.trans sW
   have hD2:=sW _ _ hD1'
   generalize upd I1 W (.lst (ws.map V.str))=I2 at kn2 sm2 hD2 hW2⊢
   refine ⟨_,rfl,_,rfl,d,i,_,_,_,Lb,Lt,Lc,rfl,kn2,λLn I3 s3 hLn0 hLn=>?_⟩
   have kn3:=kn2.same s3
   obtain ⟨⟨kvs,hd3,hl3,_⟩,_⟩:=id kn3
   refine ⟨_,rfl,d,_,rfl,.inl ⟨kvs,.inr NXT,hd3,rfl,yay (show kvs.length<=5000 by omega) (by decide),rfl⟩,?_⟩
   have kn4:=kn3.put (v:=.ref Ln) hd3
   have nLd:Ln≠d:=λe=>by rw [e,hd3] at hLn;cases hLn
   have nWd:W≠d:=λe=>by rw [e] at hW2;rw [s3 _ _ hW2] at hd3;cases hd3
   have g4:Jv0 (upd I3 d (.dK (Jlh kvs (.inr NXT) (.ref Ln)))) d (.str NXT) (some (.ref Ln)):=Jms Sv (by rw [Jke,if_pos rfl])
   have hLn4:(upd I3 d (.dK (Jlh kvs (.inr NXT) (.ref Ln)))) Ln=some (.lst ((nxt wss i).map V.str)):=by rw [Jjc nLd];exact hLn
   have hW4:(upd I3 d (.dK (Jlh kvs (.inr NXT) (.ref Ln)))) W=some (.lst (ws.map V.str)):=by rw [Jjc nWd];exact s3 _ _ hW2
   have hD4:(upd I3 d (.dK (Jlh kvs (.inr NXT) (.ref Ln)))) D=some (.lst (rs.map V.str)):=by rw [Jjc nD];exact s3 _ _ hD2
   have sm4:Sn H (upd I3 d (.dK (Jlh kvs (.inr NXT) (.ref Ln)))):=λb o e=>by rw [Jjc (Jjf e d0)];exact s3 _ _ (sm2 _ _ e)
   generalize upd I3 d (.dK (Jlh kvs (.inr NXT) (.ref Ln)))=I4 at kn4 g4 hLn4 hW4 hD4 sm4⊢
   have wsl:=wdl.2.1
   have ret:∀{k:Nat} {I5:Hp} {t:S5},Sn I4 I5->Jvx (Jr4 wss i ws) ws k->I5 t=some (.tup [.int i,.int k])->Q (.ref t) I5:=λ{k I5 t} s5 f ht=>q (some (i,k)) _ I5 (sm4.trans s5) ⟨gds,.inr ⟨ws,hw,f⟩⟩ ⟨t,rfl,ht⟩
   refine ⟨_,rfl,W,_,rfl,.inl (Sx.of hW4),_,rfl,by omega,by rw [ye];omega,?_⟩
   refine Jn1 (lo:=0) (λk σ I5=>∃o6:Option V,σ= [some (.str z),some (.ref D),some (.ref d),some (.int i),some (.str r),some (.ref W),o6]/\Sn I4 I5/\∀j,j < k->Jr4 wss i ws j=true) ⟨_,rfl,Sn.refl _,λj hj=>absurd hj (ybq _)⟩ ?_ ?_
   ·rintro k σ I5 hk ⟨o6',rfl,s5',prev⟩
    rw [ye] at hk
    have hk':k < ws.length:=by omega
    refine ⟨_,rfl,_,rfl,_,rfl,W,d,Ln,k,_,ws,nxt wss i,_,_,Lb,Lt,Lc,by simp,s5' _ _ hW4,wdl,hk',kn4.same s5',?_,s5' _ _ hLn4,Jzu,prev,λI6 s6=>⟨_,rfl,?_⟩⟩
    ·obtain ⟨⟨kvs',hd',_⟩,_⟩:=id kn4
     rcases g4 with ⟨kv,ky,e|⟨o,e⟩,r⟩|⟨kv,ky,b,e|⟨o,e⟩,r1,r2,r3⟩
     ·exact .inl ⟨kv,ky,.inl (s5' _ _ e),r⟩
     ·exact .inl ⟨kv,ky,.inr ⟨o,s5' _ _ e⟩,r⟩
     ·exact .inr ⟨kv,ky,b,.inl (s5' _ _ e),r1,s5' _ _ r2,r3⟩
     ·exact .inr ⟨kv,ky,b,.inr ⟨o,s5' _ _ e⟩,r1,s5' _ _ r2,r3⟩
    cases e:Jr4 wss i ws k with
    |false=>
     rw [show Jnd (nxt wss i) (nms BAS (wss.take i)) (nms TWN (wss.take i)) ws k=false from e]
     refine Jkb ⟨_,rfl,_,rfl,(show 2<=Sa by decide),λt ht=>?_⟩
     refine ret ((s5'.trans s6).trans (Sn.upd ht)) ⟨prev,.inl ⟨hk',e⟩⟩ ?_
     rw [Sv,Int.zero_add]
    |true=>
     rw [show Jnd (nxt wss i) (nms BAS (wss.take i)) (nms TWN (wss.take i)) ws k=true from e]
     refine Jjw ⟨_,rfl,s5'.trans s6,λj hj=>?_⟩
     rcases ybh j k with h|h
     ·exact prev j h
     ·rw [show j=k by omega];exact e
   ·rintro σ I5 ⟨o6',rfl,s5',prev⟩
    have prev:∀j,j < ws.length->Jr4 wss i ws j=true:=λj hj=>prev j (by rw [ye];omega)
    have l0:0 < ws.length:=by
     rcases ybv ws.length with h|h
     ·exact absurd (ybi h) wdl.1
     ·exact h
    have h0:=yi l0
    generalize ws[0]=w0 at h0
    have m0:w0∈nxt wss i:=by
     have:=prev 0 l0
     unfold Jr4 at this
     rw [Jvr h0] at this
     exact of_decide_eq_true this
    have w3:=Jzu w0 m0
    have nv:=Jzs h0 w3
    have at':∀j z,ws[j]?=some z->atI (ws.map V.str) ((j:Nat):Int)=some (.str z):=λj z hz=>Jl7 (by rw [yn,hz];rfl)
    have hW5:=s5' _ _ hW4
    refine ⟨_,rfl,W,_,rfl,.inl (Sx.of hW5),λp hp=>⟨Sv,[(.inr CLD,.int 3),(.inr TWN,.int 4),(.inr BAS,.int 8)],rfl,by decide,?_⟩⟩
    rw [Jlv]
    have sp:=Sn.upd (o:=.dK (Jlg [] [(.inr CLD,.int 3),(.inr TWN,.int 4),(.inr BAS,.int 8)])) hp
    have hp6:(upd I5 p (.dK (Jlg [] [(.inr CLD,.int 3),(.inr TWN,.int 4),(.inr BAS,.int 8)]))) p=some (.dK (Jlg [] [(.inr CLD,.int 3),(.inr TWN,.int 4),(.inr BAS,.int 8)])):=Sv
    have hW6:=sp _ _ hW5
    have s46:=s5'.trans sp
    generalize upd I5 p (.dK (Jlg [] [(.inr CLD,.int 3),(.inr TWN,.int 4),(.inr BAS,.int 8)]))=I6 at hp6 hW6 s46⊢
    refine ⟨_,rfl,W,_,0,_,rfl,rfl,Sx.of hW6,at' 0 _ h0,p,_,rfl,Jms hp6 nv,_,_,rfl,rfl,_,rfl,Jlx (λc=>?_) (λc=>?_)⟩
    ·have c:=of_decide_eq_true c
     rw [ye] at c
     refine ⟨_,rfl,_,rfl,W,_,rfl,.inl (Sx.of hW6),(show 2<=Sa by decide),λt ht=>?_⟩
     refine ret (s46.trans (Sn.upd ht)) ⟨prev,.inr ⟨rfl,by omega⟩⟩ ?_
     rw [Sv,ye]
    have hn:Jp8 ws<=ws.length:=by
     rcases ybh ws.length (Jp8 ws) with h|h
     ·exact absurd (decide_eq_true (by rw [ye];omega)) c
     ·exact h
    have n3:=Jwc ws
    have h1:=yi (show 1 < ws.length by omega)
    generalize ws[1]=w1 at h1
    have gdn:∀j,j < i+1->gdL wss j:=λj hj=>by
     rcases ybh j i with h|h
     ·exact gds j h
     ·rw [show j=i by omega]
      exact ⟨ws,hw,prev,hn⟩
    have tk:wss.take (i+1)=wss.take i++ [ws]:=Jp7 rfl hw
    have kn6:=kn4.same s46
    obtain ⟨⟨kvs6,hd6,hl6,e1,e2,e3⟩,hb6,ht6,cn,hc6,hcl⟩:=id kn6
    have hD6:=s46 _ _ hD4
    have sm6:=sm4.trans s46
    have bl:=Jxi BAS (wss.take i)
    have tl:=Jxi TWN (wss.take i)
    rw [yk] at bl tl
    have fin:∃(L:S5) (zs:List Str),Jmq kvs6 (.inr w0)=some (.ref L)/\I6 L=some (.lst (zs.map V.str))/\zs.length<=5000/\H L=none/\D≠L/\See (upd I6 L (.lst (zs.map V.str++ [.str w1]))) d (3+2*(i+1)) (nms BAS (wss.take (i+1))) (nms TWN (wss.take (i+1))) Lb Lt Lc:=by
     rw [tk,Jvb,Jvb,h0,h1]
     have ms:∀{L:S5} {zs:List Str},(upd I6 L (.lst (zs.map V.str++ [.str w1]))) L=some (.lst ((zs++ [w1]).map V.str)):=λ{L zs}=>by rw [Sv,yr];rfl
     rcases w3 with rfl|rfl|rfl
     ·refine ⟨Lc,cn,e3,hc6,by omega,c0,nDc,⟨⟨kvs6,by rw [Jjc (yh ncd)];exact hd6,by omega,e1,e2,e3⟩,?_,?_,cn++ [w1],ms,by simp;omega⟩⟩
      ·rw [if_neg (λe=>nCB (yt.inj e)),yar,Jjc (yh ncb)];exact hb6
      ·rw [if_neg (λe=>nCT (yt.inj e)),yar,Jjc (yh nct)];exact ht6
     ·refine ⟨Lt,_,e2,ht6,by omega,t0,nDt,⟨⟨kvs6,by rw [Jjc (yh ntd)];exact hd6,by omega,e1,e2,e3⟩,?_,?_,cn,by rw [Jjc nct];exact hc6,by omega⟩⟩
      ·rw [if_neg (λe=>nTB (yt.inj e)),yar,Jjc (yh ntb)];exact hb6
      ·rw [if_pos rfl];exact ms
     ·refine ⟨Lb,_,e1,hb6,by omega,b0,nDb,⟨⟨kvs6,by rw [Jjc (yh nbd)];exact hd6,by omega,e1,e2,e3⟩,?_,?_,cn,by rw [Jjc ncb];exact hc6,by omega⟩⟩
      ·rw [if_pos rfl];exact ms
      ·rw [if_neg (λe=>nTB (yt.inj e).symm),yar,Jjc ntb];exact ht6
    obtain ⟨L,zs,gL,hL,lz,L0,nDL,kn7⟩:=fin
    refine ⟨_,rfl,_,rfl,W,_,0,_,rfl,rfl,Sx.of hW6,at' 0 _ h0,d,.ref L,rfl,Jms hd6 gL,.inl ⟨rfl,_,Sx.of hL⟩,_,rfl,W,_,1,_,rfl,rfl,Sx.of hW6,at' 1 _ h1,L,_,_,rfl,rfl,hL,yay (show (zs.map V.str).length<=5000 by rw [ye];exact lz) (by decide),?_⟩
    exact ⟨_,_,_,_,rfl,λb o e=>by rw [Jjc (Jjf e L0)];exact sm6 _ _ e,by rw [Jjc nDL];exact hD6,kn7,gdn⟩
  ·rintro σ H' ⟨o3,o4,o5,o6,rfl,sm,hD',kn,gds⟩
   rw [ye] at gds
   rw [ye,yam (by omega)] at kn
   obtain ⟨⟨kvs6,hd6,hl6,e1,e2,e3⟩,hb6,_⟩:=id kn
   refine ⟨_,rfl,d,.ref Lb,rfl,Jms hd6 e1,(show 0<=Sa by decide),λe1 he1=>?_⟩
   have w1:=Sn.upd (o:=.lst []) he1
   refine ⟨Lb,e1,_,rfl,rfl,Sx.of (w1 _ _ hb6),Sx.of Sv,_,rfl,?_⟩
   rw [Jqt]
   have sm1:=sm.trans w1
   by_cases c:(nms BAS wss).length=0
   ·rw [decide_eq_true c]
    refine Jkb ⟨_,rfl,D,_,rfl,.inl (Sx.of (w1 _ _ hD')),(show 2<=Sa by decide),λt ht=>?_⟩
    refine q (some (rs.length,0)) _ _ (sm1.trans (Sn.upd ht)) ⟨gds,.inl ⟨wl.symm,rfl,ybi c⟩⟩ ⟨t,rfl,?_⟩
    rw [Sv,ye]
    rfl
   ·rw [decide_eq_false c]
    exact Jjw (q none _ _ sm1 ⟨λj hj=>gds j (by omega),λe=>c (by rw [e];rfl)⟩ rfl)
theorem Jz7 (xs:List V) (k:Nat) (h:k<=xs.length):Jlf xs none (some (k:Int))=xs.take k:=by
 unfold Jlf
 rw [HT.sIx_none,HT.sIx_nat]
 simp [ybj h]
theorem Jz5 (xs:List V) (k:Nat) (h:k<=xs.length):Jlf xs (some (k:Int)) none=xs.drop k:=by
 unfold Jlf
 rw [HT.sIx_none,HT.sIx_nat,ybj h]
 exact yam (by rw [yx];exact yg _)
theorem Jz0 {xs:List V} {r:Int} (h0:0<=r) (h1:r < xs.length):∃v,v∈xs/\atI xs r=some v:=by
 obtain ⟨n,rfl⟩:=yas h0
 have hn:n < xs.length:=by omega
 exact ⟨xs[n],ybu hn,Jl7 (yi hn)⟩
def one (c:Nat):Str:=⟨#[c]⟩
theorem Jp3 (cs:List Nat):(Txt.join ("" :Str) (cs.map one)).cps.toList=cs:=by
 have e1:Txt.join ("" :Str) (cs.map one)=Str.join ("" :Str) (cs.map one):=beq_iff_eq.mp (join_plain_closes ("" :Str) _)
 rw [e1]
 induction cs with
 |nil=>rfl
 |cons c r ih=>
  cases r with
  |nil=>rfl
  |cons d r'=>
   have e:Str.join ("" :Str) ((c::d::r').map one)=one c++("" :Str)++Str.join ("" :Str) ((d::r').map one):=rfl
   rw [e]
   have a:∀x y:Str,(x++y).cps.toList=x.cps.toList++y.cps.toList:=λx y=>by
    show (x.cps++y.cps).toList=_
    exact Array.toList_append
   rw [a,a,ih (beq_iff_eq.mp (join_plain_closes ("" :Str) _))]
   have z:("" :Str).cps.toList= []:=by decide +kernel
   rw [z]
   rfl
theorem Yk (cs:List Nat):((cs.map one).map (·.length)).sum=cs.length:=by
 induction cs with
 |nil=>rfl
 |cons c r ih=>
  rw [yaj,yaj,List.sum_cons,ih,yad]
  show 1+_=_
  omega
def Nms (zs:List Str):Prop:=∀z∈zs,Wd 8 z
def Stp (s:Int):Prop:=s=1\/s=3\/s=5\/s=7\/s=9\/s=11\/s=15\/s=17
def NmK (f s:Int) (n:Nat) (k:Nat) (z:Str):Prop:=1<=z.cps.toList.length/\z.cps.toList.length<=8/\(∀c∈z.cps.toList,c∈LET.cps.toList)/\∃c,atI LET.cps.toList ((f+s*(k:Int))%26)=some c/\z.cps.toList[n]?=some c
theorem Sli {f s:Int} {n:Nat} {zs:List Str} (h:∀(k:Nat) z,zs[k]?=some z->NmK f s n k z):Nms zs:=λz hz=>by
 obtain ⟨k,hk,rfl⟩:=List.getElem_of_mem hz
 obtain ⟨_,h2,h3,_⟩:=h k _ (yi hk)
 exact ⟨by rw [<-Jlc];exact h2,λc hc=>Si9.low c (h3 c hc)⟩
def Jut:Sp:=λvs H Q _=>∃(p:S5) (m:Nat),vs= [.ref p,.int m]/\Scl H p/\m<=18/\∀(l:S5) (zs:List Str) (H':Hp),H l=none->But p H H'->H' l=some (.lst (zs.map V.str))->zs.length=m->Nms zs->Q (.ref l) H'
theorem Sa7:Jjh ["_law_stream_here","_law_many","_law_letters","_law_size","_law_at","_law_base","_law_first","_law_step","_law_shorter","_law_names_here","_law_k","_law_sign","_law_word_here"] ["_law_stream_here","_law_many"] (Jje (top 64)):=⟨rfl,rfl,rfl,by decide +kernel,rfl,by decide +kernel,by decide +kernel⟩
theorem Jue (T:Tx K mg a):Jjz P w K mg base CX0 2 a.Jhf a.Jhg ["_law_stream_here","_law_many"] Jut:=by
 have Sr:=Jlb (P:=P) (w:=w) (base:=base) T
 refine T.Jy.fn.ok Sa7 (λvs H Q E h=>?_) (λcdv A outer s H vs Q E hr h=>?_)
 ·obtain ⟨p,m,rfl,_⟩:=h
  rfl
 ·obtain ⟨p,m,rfl,st,hm,k⟩:=h
  refine ⟨?t,?B,?C⟩
  case B=>
   refine' Jj9 ?O0 ?O1
   case O0=>exact (Jjl (i:=2) Sa7.nd rfl (Or.inr rfl) Jjg)
   case O1=>
   refine' Jj9 ?O2 ?O3
   case O2=>exact (Jjl (i:=3) Sa7.nd rfl (yf rfl) (Jjn Jk8 Sy (Jjd T.Jx Sr hr (by decide) (So (pv 0) (So Sy Ss)))))
   case O3=>
   refine' Jj9 ?O4 ?O5
   case O4=>exact (Jjl (i:=4) Sa7.nd rfl (yf rfl) (Jjd T.Jx Sr hr (by decide) (So (pv 0) (So (pv 3) Ss))))
   case O5=>
   refine' Jj9 ?O6 ?O7
   case O6=>exact (Yaq (i:=5) (N:=(["_law_k","_law_letters","_law_stream_here"]:List Str)) (ini:=[none,some 2,some 0]) Sa7.nd rfl (yf rfl) rfl (Jn2 (by rfl) T.Jaz (So (pv 3) Ss)) (λ_ _ _ _ _=>(Jk3 (i:=0) (by decide +kernel:(["_law_k","_law_letters","_law_stream_here"]:List Str).Nodup) rfl (yf rfl))) (λ_ _ _ _ _=>Jl3) (λ_ _ _ _ _=>(Jk5 Ju4 (pv 1) (Jjd T.Jx Sr hr (by decide) (So (pv 2) (So Sy Ss))) (λ_ _=>rfl))))
   case O7=>
   refine' Jj9 ?O8 ?O9
   case O8=>exact (Jjl (i:=6) Sa7.nd rfl (yf rfl) (Jjd T.Jx Sr hr (by decide) (So (pv 0) (So Sy Ss))))
   case O9=>
   refine' Jj9 ?Oa ?Ob
   case Oa=>exact (Jjl (i:=7) Sa7.nd rfl (yf rfl) (Jk5 Jjs (Jju (pa8 Sy Sy Sy Sy Sy Sy Sy Sy)) (Jjd T.Jx Sr hr (by decide) (So (pv 0) (So Sy Ss))) (λ_ _=>rfl)))
   case Ob=>
   refine' Jj9 ?Oc ?Od
   case Oc=>exact (Jjl (i:=8) Sa7.nd rfl (yf rfl) (Jjd T.Jx Sr hr (by decide) (So (pv 0) (So Sy Ss))))
   case Od=>
   refine' Jj9 ?Oe ?Of
   case Oe=>exact (Jjl (i:=9) Sa7.nd rfl (yf rfl) (Jju Ss))
   case Of=>
   refine' Jj9 ?Og ?Oh
   case Og=>
    refine' Jnm ?Oi ?Oj ?Ok ?Ol ?Om
    case Oi=>exact PassesOwn.never
    case Oj=>exact rfl
    case Ok=>exact (Jn2 (by rfl) T.Jaz (So (pv 1) Ss))
    case Ol=>exact (Jk3 (i:=10) Sa7.nd rfl (yf rfl))
    case Om=>
    refine' Jj9 ?On ?Oo
    case On=>exact (Jjl (i:=11) Sa7.nd rfl (yf rfl) (Jk5 Ju4 (pv 2) (Jjn Joq (Jjn Jk8 (pv 6) (Jjn Jpp (pv 7) (pv 10))) Sy) (λ_ _=>rfl)))
    case Oo=>
    refine' Jj9 ?Op ?Oq
    case Op=>exact (Jjl (i:=12) Sa7.nd rfl (yf rfl) (Jjn Jks (Jjn Jks (Jk2 Jka (pv 5) Jki (Jk4 (pv 4))) (Jju (So (pv 11) Ss))) (Jk2 Jka (pv 5) (Jk4 (Jjn Jk8 (pv 4) Sy)) Jki)))
    case Oq=>
    refine' Jj9 ?Or ?Os
    case Or=>
     refine' Jjv ?Ot ?Ou ?Ov
     case Ot=>exact (Jjo Jkv (pv 8) Sy (Jjp _))
     case Ou=>
      refine' Jjb ?Ow
      case Ow=>exact (Jjl (i:=12) Sa7.nd rfl (yf rfl) (Jk2 Jka (pv 12) Jki (Jk4 (Jjn Jk8 (Jjn Jk8 (pv 4) Sy) (Jjn Joq (pv 10) (Jjn Jnl (pv 3) (pv 4)))))))
     case Ov=>exact Jjm
    case Os=>
    refine' Jjb ?Ox
    case Ox=>exact (Jkm (Jll F.plainAttrs_list F.slot_list_append F.type_list_append Jkw (pv 9) (So (Jll F.plainAttrs_str F.slot_str_join F.type_str_join Jp4 Jjg (So (pv 12) Ss)) Ss)))
   case Oh=>
   refine' Jjb ?Oy
   case Oy=>exact (Jji (pv 9))
  refine ⟨_,rfl,p,8,rfl,st,by decide,by decide,λsz H1 z0 z1 b1=>⟨_,_,rfl,rfl,?_⟩⟩
  refine ⟨_,rfl,_,rfl,p,_,rfl,b1.2,by omega,Sjq (by omega),λat_ H2 a0 a1 b2=>?_⟩
  have b12:=b1.trans b2
  refine ⟨_,rfl,_,rfl,by omega,by omega,λD hD=>?_⟩
  have neD:D≠p:=b12.2.ne hD
  refine Jw0 (D:=D) (λi σ H'=>∃(o:Option V) (cs:List Nat),σ= [o,some (.str LET),some (.ref p)]/\H' D=some (.lst (cs.map sgn))/\cs.length=i/\(∀c∈cs,c∈LET.cps.toList)/\But p H2 H')
   ?_ ?_ ?_
  ·exact ⟨none,[],rfl,Sv,rfl,(λy hy=>absurd hy (by simp)),But.of b12.2 (Sn.upd hD)⟩
  ·rintro i σ H' hi ⟨o,cs,rfl,hDs,hl,hw,b⟩
   refine Jly ⟨_,rfl,_,rfl,p,26,rfl,b.2,by decide,by decide,λr H3 r0 r1 b3=>?_⟩
   obtain ⟨c,hc,hat⟩:=Jz1 (g:=LET) r0 (by
    have:LET.length=26:=by decide +kernel
    omega)
   refine ⟨LET,r,c,rfl,rfl,Jjx _ (by decide +kernel),hat,cs.map sgn,b3.1 D _ neD hDs,?_,_,cs++ [c],rfl,?_,?_,?_,(b.trans b3).new hD b12.2⟩
   ·rw [ye]
    exact Jkn (by omega)
   ·rw [Sv,yr]
    rfl
   ·rw [yq]
    show cs.length+1=i+1
    omega
   ·intro y hy
    rcases yy.mp hy with hy|hy
    ·exact hw y hy
    ·rw [yaf.mp hy]
     exact hc
  rintro σ H3 ⟨o,cs,rfl,hDs,hl,hw,b3⟩
  have hl':cs.length=(1+sz).toNat:=hl
  have b13:=b12.trans b3
  refine ⟨_,rfl,p,26,rfl,b13.2,by decide,by decide,λf H4 f0 f1 b4=>?_⟩
  refine ⟨(show 8<=Sa by decide),λL1 hL1=>?_⟩
  have t5:=Sn.upd (o:=.lst [.int 1,.int 3,.int 5,.int 7,.int 9,.int 11,.int 15,.int 17]) hL1
  have g5:=Sv (H:=H4) (a:=L1) (o:=.lst [.int 1,.int 3,.int 5,.int 7,.int 9,.int 11,.int 15,.int 17])
  generalize upd H4 L1 (.lst [.int 1,.int 3,.int 5,.int 7,.int 9,.int 11,.int 15,.int 17])=H5 at*
  have b5:=b4.same t5
  refine ⟨_,rfl,p,8,rfl,b5.2,by decide,by decide,λr H6 r0 r1 b6=>?_⟩
  obtain ⟨sv,ms,as⟩:=Jz0 (xs:=[.int 1,.int 3,.int 5,.int 7,.int 9,.int 11,.int 15,.int 17]) r0 r1
  obtain ⟨sp,rfl,hsp⟩:∃sp:Int,sv= .int sp/\Stp sp:=by
   simp only [yo,yae,or_false] at ms
   unfold Stp
   rcases ms with rfl|rfl|rfl|rfl|rfl|rfl|rfl|rfl <;> exact ⟨_,rfl,by decide⟩
  refine ⟨L1,_,_,_,rfl,rfl,Sx.of (b6.1 _ _ (Jxf b5.2 g5 (λ_ _ _ z=>by cases z)) g5),as,?_⟩
  refine ⟨_,rfl,p,3,rfl,b6.2,by decide,by decide,λsh H7 s0 s1 b7=>?_⟩
  refine ⟨Jjx _ (by show 0<=2000;decide),λL hL=>?_⟩
  have b37:=(b5.trans b6).trans b7
  have hD7:=b37.1 _ _ neD hDs
  have nLD:D≠L:=Jjf hD7 hL
  have hsb: -(2^64) < sp/\sp < 2^64:=by
   rcases hsp with rfl|rfl|rfl|rfl|rfl|rfl|rfl|rfl <;> decide
  obtain ⟨n,rfl⟩:=yas a0
  obtain ⟨z,rfl⟩:=yas z0
  have hn:n < cs.length:=by omega
  refine ⟨_,rfl,_,rfl,by omega,by omega,?_⟩
  refine Jn1 (λi σ H'=>(∃o1 o2 o3,σ= [some (.ref p),some (.int m),some (.str LET),some (.int (1+z)),some (.int n),some (.ref D),some (.int f),some (.int sp),some (.int sh),some (.ref L),o1,o2,o3])/\(∃zs:List Str,H' L=some (.lst (zs.map V.str))/\zs.length=i/\∀(k:Nat) z,zs[k]?=some z->NmK f sp n k z)/\∀b o,b≠L->H7 b=some o->H' b=some o) ⟨⟨_,_,_,rfl⟩,⟨[],Sv,rfl,λk z e=>by simp at e⟩,λb o nb e=>by rw [Jjc nb];exact e⟩ ?_ ?_
  ·rintro i σ H' hi ⟨⟨o1,o2,o3,rfl⟩,⟨zs,hLs,hzl,hz⟩,sm⟩
   obtain ⟨c,hc,hat⟩:=Jz1 (g:=LET) (r:=(f+sp*(0+(i:Int)))%26) (by omega) (by
    have:LET.length=26:=by decide +kernel
    omega)
   refine ⟨_,rfl,_,rfl,_,rfl,_,rfl,_,_,rfl,rfl,.inl hsb,_,_,rfl,rfl,_,_,rfl,rfl,(show (0:Int) < 26 by decide),LET,_,c,rfl,rfl,Jjx _ (by decide +kernel),hat,?_⟩
   have hD':=sm D _ nLD hD7
   have e1:Jlf (cs.map sgn) none (some (n:Int))=(cs.take n).map sgn:=by rw [Jz7 _ n (by rw [ye];omega),ybm]
   have e2:Jlf (cs.map sgn) (some ((n:Int)+1)) none=(cs.drop (n+1)).map sgn:=by rw [show ((n:Int)+1)=((n+1:Nat):Int) from rfl,Jz5 _ (n+1) (by rw [ye];omega),List.map_drop]
   refine ⟨_,rfl,_,rfl,_,rfl,D,_,rfl,Sx.of hD',λq1 hq1=>?_⟩
   rw [e1]
   have t1:=Sn.upd (o:=.lst ((cs.take n).map sgn)) hq1
   have g1:=Sv (H:=H') (a:=q1) (o:=.lst ((cs.take n).map sgn))
   generalize upd H' q1 (.lst ((cs.take n).map sgn))=K1 at*
   refine ⟨_,rfl,(show 1<=Sa by decide),λq2 hq2=>?_⟩
   have t2:=Sn.upd (o:=.lst [.str ⟨#[c]⟩]) hq2
   have g2:=Sv (H:=K1) (a:=q2) (o:=.lst [.str ⟨#[c]⟩])
   generalize upd K1 q2 (.lst [.str ⟨#[c]⟩])=K2 at*
   have hl3:((cs.take n).map sgn).length+ [V.str ⟨#[c]⟩].length<=Sa:=Jjx _ (by rw [ye,yk];show _+1<=2000;omega)
   refine ⟨q1,q2,_,_,rfl,rfl,t2 _ _ g1,g2,hl3,λq3 hq3=>?_⟩
   have t3:=Sn.upd (o:=.lst ((cs.take n).map sgn++ [.str ⟨#[c]⟩])) hq3
   have g3:=Sv (H:=K2) (a:=q3) (o:=.lst ((cs.take n).map sgn++ [.str ⟨#[c]⟩]))
   generalize upd K2 q3 (.lst ((cs.take n).map sgn++ [.str ⟨#[c]⟩]))=K3 at*
   have t13:=(t1.trans t2).trans t3
   refine ⟨_,rfl,_,rfl,_,_,rfl,rfl,_,rfl,D,_,rfl,Sx.of (t13 _ _ hD'),λq4 hq4=>?_⟩
   rw [e2]
   have t4:=Sn.upd (o:=.lst ((cs.drop (n+1)).map sgn)) hq4
   have g4:=Sv (H:=K3) (a:=q4) (o:=.lst ((cs.drop (n+1)).map sgn))
   generalize upd K3 q4 (.lst ((cs.drop (n+1)).map sgn))=K4 at*
   have hl5:((cs.take n).map sgn++ [V.str ⟨#[c]⟩]).length+((cs.drop (n+1)).map sgn).length<=Sa:=Jjx _ (by rw [yq,ye,ye,yk,yx];show _+1+_<=2000;omega)
   refine ⟨q3,q4,_,_,rfl,rfl,t4 _ _ g3,g4,hl5,λq5 hq5=>?_⟩
   obtain ⟨ws,ew,wl,wn,wi⟩:∃ws:List Nat,(cs.take n).map sgn++ [.str ⟨#[c]⟩]++(cs.drop (n+1)).map sgn=ws.map sgn/\ws.length=cs.length/\ws[n]?=some c/\∀d∈ws,d∈LET.cps.toList:=by
    refine ⟨cs.take n++ [c]++cs.drop (n+1),by simp [sgn],by simp;omega,?_,λd hd=>?_⟩
    ·rw [List.append_assoc,yca (by simp;omega)]
     simp [ybj (ybd hn)]
    ·rcases yy.mp hd with hd|hd
     ·rcases yy.mp hd with hd|hd
      ·exact hw d (yap hd)
      ·rw [yaf.mp hd];exact hc
     ·exact hw d (yav hd)
   rw [ew]
   have t5':=Sn.upd (o:=.lst (ws.map sgn)) hq5
   have g5':=Sv (H:=K4) (a:=q5) (o:=.lst (ws.map sgn))
   generalize upd K4 q5 (.lst (ws.map sgn))=K5 at*
   have t15:=(t13.trans t4).trans t5'
   unfold Jnf
   dsimp only
   refine Jm9 (λσ K6=>(∃q6,σ= [some (.ref p),some (.int m),some (.str LET),some (.int (1+z)),some (.int n),some (.ref D),some (.int f),some (.int sp),some (.int sh),some (.ref L),some (.int (0+(i:Int))),some (.str ⟨#[c]⟩),some (.ref q6)]/\∃us:List Nat,K6 q6=some (.lst (us.map sgn))/\us.length<=8/\us[n]?=some c/\∀d∈us,d∈LET.cps.toList)/\Sn H' K6) (λR hR=>?_) ?_
   ·refine ⟨_,rfl,rfl,_,rfl,Jlx (λ_=>?_) (λ_=>?_)⟩
    ·have hsz:(0:Int) < 1+z - n:=by omega
     have hmd:=Int.emod_nonneg ((i:Int)) (show (1+(z:Int) - n)≠0 by omega)
     have hmd2:=ych ((i:Int)) hsz
     refine ⟨_,rfl,_,rfl,_,_,rfl,rfl,_,rfl,_,rfl,_,rfl,_,_,rfl,rfl,_,_,rfl,rfl,hsz,_,_,rfl,rfl,_,rfl,q5,_,rfl,Sx.of g5',λq6 hq6=>?_⟩
     obtain ⟨u,hu⟩:=yas (show 0<=(n:Int)+1+(0+(i:Int))%(1+z - n) by rw [Int.zero_add];omega)
     have hu2:n+1<=u/\u<=ws.length:=by rw [Int.zero_add] at hu;omega
     have eu:Jlf (ws.map sgn) none (some ((n:Int)+1+(0+(i:Int))%(1+z - n)))=(ws.take u).map sgn:=by rw [hu,Jz7 _ u (by rw [ye];omega),ybm]
     refine hR _ _ ⟨⟨q6,rfl,ws.take u,by rw [eu];exact Sv,by rw [yk];omega,by rw [List.getElem?_take_of_lt (by omega)];exact wn,λd hd=>wi d (yap hd)⟩,t15.trans (Sn.upd hq6)⟩
    ·exact hR _ _ ⟨⟨q5,rfl,ws,g5',by omega,wn,wi⟩,t15⟩
   ·rintro σ K6 ⟨⟨q6,rfl,us,g6,ul,un,ui⟩,t6⟩
    have hL6:=t6 _ _ hLs
    have hsg:us.map sgn=(us.map one).map V.str:=by rw [List.map_map];rfl
    refine ⟨_,rfl,.inl ⟨rfl,_,Sx.of hL6⟩,rfl,_,rfl,"",q6,us.map one,rfl,rfl,Sx.of (by rw [<-hsg];exact g6),?_,L,_,_,rfl,rfl,hL6,?_,⟨_,_,_,rfl⟩,⟨zs++ [Txt.join ("" :Str) (us.map one)],by rw [Sv,yr];rfl,by rw [yq,hzl];rfl,λk z e=>?_⟩,λb o nb e=>?_⟩
    ·have:("" :Str).length=0:=by decide +kernel
     rw [this,Yk]
     omega
    ·rw [ye]
     exact Jkn (by omega)
    ·rw [List.getElem?_append] at e
     split at e
     ·exact hz k z e
     ·have hk:k=i:=by
       have:=(yz.mp e).1
       simp at this
       omega
      subst hk
      rw [hzl,Nat.sub_self] at e
      cases e
      rw [Int.zero_add] at hat
      refine ⟨?_,?_,?_,c,hat,?_⟩
      ·rw [Jp3]
       have:=(yz.mp un).1
       omega
      ·rw [Jp3];exact ul
      ·rw [Jp3];exact ui
      ·rw [Jp3];exact un
    ·rw [Jjc nb]
     exact t6 _ _ (sm b o nb e)
  ·rintro σ H' ⟨⟨o1,o2,o3,rfl⟩,⟨zs,hLs,hzl,hz⟩,sm⟩
   have nLp:L≠p:=b7.2.ne hL
   have b07:=b13.trans b37
   refine ⟨_,rfl,k L zs H' (b07.free st hL) ⟨λb o nb e=>sm b o ?_ (b07.1 _ _ nb e),?_⟩ hLs (by simpa using hzl) (Sli hz)⟩
   ·exact Jjf (b07.1 _ _ nb e) hL
   ·obtain ⟨x,y,z',e⟩:=b07.2
    exact ⟨x,y,z',sm p _ nLp.symm e⟩
theorem Jtz (xs:List V) (i:Nat) (h:i<=xs.length):Jlf xs none (some (i:Int))=xs.take i:=by
 unfold Jlf
 rw [HT.sIx_none,HT.sIx_nat,ybj h,List.drop_zero,Nat.sub_zero]
theorem Jtc (xs:List V) (i:Nat) (h:i<=xs.length):Jlf xs (some (i:Int)) none=xs.drop i:=by
 unfold Jlf
 rw [HT.sIx_nat,ybj h]
 show List.take (xs.length - i) (xs.drop i)=_
 exact yam (by rw [yx];exact yg _)
def SOM:List Str:=["basin","town","cloud","step","flap","part","a","basins"]
def rot (r:Nat):List Str:=SOM.drop r++SOM.take r
theorem Slu:∀r,r < 8->(rot r).all (λz=>decide (z.length<=8)&&z.cps.toList.all (λc=>decide (c < 128)))=true:=by decide +kernel
theorem Yat {r m:Nat} (h:r < 8):Nms ((rot r).take m):=λz hz=>Jla (yah.mp (Slu r h) z (yap hz))
theorem Sc5:Jjh ["_law_stream_here","_law_many","_law_some","_law_first"] ["_law_stream_here","_law_many"] (Jje (top 66)):=⟨rfl,rfl,rfl,by decide +kernel,rfl,by decide +kernel,by decide +kernel⟩
theorem Jso (T:Tx K mg a):Jjz P w K mg base CX0 3 a.Jhj a.Jhk ["_law_stream_here","_law_many"] Jut:=by
 have Sr:=Jlb (P:=P) (w:=w) (base:=base) T
 have Sf8:=Jue (P:=P) (w:=w) (base:=base) T
 refine T.Ja0.fn.ok Sc5 (λvs H Q E h=>?_) (λcdv A outer s H vs Q E hr h=>?_)
 ·obtain ⟨p,m,rfl,_⟩:=h
  rfl
 ·obtain ⟨p,m,rfl,st,hm,k⟩:=h
  refine ⟨?t,?B,?C⟩
  case B=>
   refine' Jj9 ?O0 ?O1
   case O0=>
    refine' Jjv ?O2 ?O3 ?O4
    case O2=>exact (PW.pt (Jmt (Jjo Jkv (Jjd T.Jx Sr hr (by decide) (So (pv 0) (So Sy Ss))) Sy (Jjp _)) (Jlz (Jjo Jop (pv 1) Sy (Jjp _)))))
    case O3=>
     refine' Jj9 ?O5 ?O6
     case O5=>exact (Jjl (i:=2) Sc5.nd rfl (yf rfl) (Jju (pa8 Jjg Jjg Jjg Jjg Jjg Jjg Jjg Jjg)))
     case O6=>
     refine' Jj9 ?O7 ?O8
     case O7=>exact (Jjl (i:=3) Sc5.nd rfl (yf rfl) (Jjd T.Jx Sr hr (by decide) (So (pv 0) (So Sy Ss))))
     case O8=>
     refine' Jjb ?O9
     case O9=>exact (Jji (Jk2 Jka (Jjn Jks (Jk2 Jka (pv 2) (Jk4 (pv 3)) Jki) (Jk2 Jka (pv 2) Jki (Jk4 (pv 3)))) Jki (Jk4 (pv 1))))
    case O4=>exact Jjm
   case O1=>
   refine' Jjb ?Oa
   case Oa=>exact (Jji (Jjd T.Jy Sf8 hr (by decide) (So (pv 0) (So (pv 1) Ss))))
  refine ⟨_,rfl,p,4,rfl,st,by decide,by decide,λr1 H1 r10 r11 b1=>?_⟩
  have rest:∀H2,But p H H2->Jut [.ref p,.int m] H2 Q E0:=λH2 b2=>⟨p,m,rfl,b2.2,hm,λl zs H3 hl0 b3 hl ln nm=>k l zs H3 (But.free st b2 hl0) (b2.trans b3) hl ln nm⟩
  refine ⟨rfl,_,rfl,Jlx (λ_=>?_) (λ_=>?_)⟩
  ·refine ⟨_,rfl,_,_,rfl,rfl,_,rfl,Jlx (λc2=>?_) (λ_=>⟨_,rfl,_,rfl,rest H1 b1⟩)⟩
   refine ⟨(show 8<=Sa by decide),λF hF=>?_⟩
   have s2:=Sn.upd (o:=.lst (SOM.map V.str)) hF
   have hF2:(upd H1 F (.lst (SOM.map V.str))) F=some (.lst (SOM.map V.str)):=Sv
   have b2:=b1.same s2
   have nF:F≠p:=b1.2.ne hF
   refine ⟨_,rfl,p,8,rfl,b2.2,by decide,by decide,λr2 H3 r20 r21 b3=>?_⟩
   have hF3:=b3.1 _ _ nF hF2
   have b13:=b2.trans b3
   obtain ⟨i,rfl⟩:=yas r20
   have ls:(SOM.map V.str).length=8:=rfl
   refine ⟨_,rfl,_,rfl,_,rfl,F,_,rfl,Sx.of hF3,λy1 hy1=>?_⟩
   have w1:=Sn.upd (o:=.lst (Jlf (SOM.map V.str) (some (i:Int)) none)) hy1
   refine ⟨_,rfl,_,rfl,_,rfl,F,_,rfl,Sx.of (w1 _ _ hF3),λy2 hy2=>?_⟩
   have w2:=Sn.upd (o:=.lst (Jlf (SOM.map V.str) none (some (i:Int)))) hy2
   refine ⟨y1,y2,_,_,rfl,rfl,w2 _ _ Sv,Sv,?_,λy3 hy3=>?_⟩
   ·rw [Jtc _ _ (by omega),Jtz _ _ (by omega),yx,yk,ls]
    exact Jjx _ (by omega)
   have w3:=Sn.upd (o:=.lst (Jlf (SOM.map V.str) (some (i:Int)) none++Jlf (SOM.map V.str) none (some (i:Int)))) hy3
   refine ⟨_,rfl,_,rfl,y3,_,rfl,Sx.of Sv,λy4 hy4=>?_⟩
   have w4:=Sn.upd (o:=.lst (Jlf (Jlf (SOM.map V.str) (some (i:Int)) none++Jlf (SOM.map V.str) none (some (i:Int))) none (some (m:Int)))) hy4
   have ev:Jlf (Jlf (SOM.map V.str) (some (i:Int)) none++Jlf (SOM.map V.str) none (some (i:Int))) none (some (m:Int))=((rot i).take m).map V.str:=by
    have c2':=of_decide_eq_true c2
    rw [Jtc _ _ (by omega),Jtz _ i (by omega),Jtz _ m (by rw [yq,yx,yk,ls];omega),<-List.map_drop,<-ybm,<-yr,<-ybm]
    rfl
   have b4:=b13.same (((w1.trans w2).trans w3).trans w4)
   refine k y4 ((rot i).take m) _ (But.free st (b13.same ((w1.trans w2).trans w3)) hy4) b4 (by rw [Sv,ev]) ?_ (Yat (by omega))
   have c2':=of_decide_eq_true c2
   have l8:(rot i).length=8:=by
    unfold rot
    rw [yq,yx,yk,show SOM.length=8 from rfl]
    omega
   rw [yk,l8]
   omega
  ·exact Jjw ⟨_,rfl,_,rfl,rest H1 b1⟩
def wl (ws:List Str):Nat:=(ws.map λw=>w.length+1).sum
theorem Jmu (a b:List Str):wl (a++b)=wl a+wl b:=by unfold wl;rw [yr,List.sum_append]
theorem Jkr (w:Str) (r:List Str):wl (w::r)=w.length+1+wl r:=by unfold wl;rw [yaj,List.sum_cons]
theorem Ys {m:Nat}:∀ws:List Str,(∀w∈ws,w.length<=m)->wl ws<=ws.length*(m+1):=by
 intro ws
 induction ws with
 |nil=>intro _;exact yak _
 |cons w r ih=>
  intro h
  have h1:=h w (.head _)
  have h2:=ih λx hx=>h x (.tail _ hx)
  rw [Jkr,yad,Nat.succ_mul]
  omega
def Se6 (p:S5) (H:Hp) (t:S5) (ws:List Str):Prop:=t≠p/\H t=some (.lst (ws.map V.str))
theorem Se6.same {p:S5} {H H':Hp} {t:S5} {ws:List Str} (s:Sn H H') (h:Se6 p H t ws):Se6 p H' t ws:=⟨h.1,s _ _ h.2⟩
theorem Se6.but {p:S5} {H H':Hp} {t:S5} {ws:List Str} (b:But p H H') (h:Se6 p H t ws):Se6 p H' t ws:=⟨h.1,b.1 _ _ h.1 h.2⟩
structure LOk (t:Nat) (ws:List Str):Prop where
 wd:∀w∈ws,Wd (9+t) w
 len:wl ws<=44+13*t
structure Sdj (t:Nat) (lss:List (List Str)):Prop where
 len:lss.length<=23+t
 ok:∀ws∈lss,LOk t ws
structure Sct (p:S5) (H:Hp) (L:S5) (lss:List (List Str)):Prop where
 ne:L≠p
 ex:∃ts:List S5,H L=some (.lst (ts.map V.ref))/\Paired (Se6 p H) ts lss
theorem Sct.same {p:S5} {H H':Hp} {L:S5} {lss:List (List Str)} (s:Sn H H') (h:Sct p H L lss):Sct p H' L lss:=by
 obtain ⟨n,ts,h1,h2⟩:=h
 exact ⟨n,ts,s _ _ h1,Paired.mapP h2 λ_ _ q=>q.same s⟩
theorem Sct.but {p:S5} {H H':Hp} {L:S5} {lss:List (List Str)} (b:But p H H') (h:Sct p H L lss):Sct p H' L lss:=by
 obtain ⟨n,ts,h1,h2⟩:=h
 exact ⟨n,ts,b.1 _ _ n h1,Paired.mapP h2 λ_ _ q=>q.but b⟩
theorem Sms:∀n:Nat,n < 13->(decide ((nmS n).length<=2)&&(nmS n).cps.toList.all (λc=>decide (c < 128)))=true:=by decide +kernel
theorem Jxw {x:Int} (h0:0<=x) (h1:x<=12):Wd 2 (nmS x):=by
 obtain ⟨n,rfl⟩:=yas h0
 exact Jla (Sms n (by omega))
theorem Jq1 {i:Int} (h0:0<=i) (h1:i<=12):i.natAbs.log2 < 1920:=yay (yci _) (by omega)
theorem Jrz {i:Int} (h0:0<=i) (h:i<=1000):i.natAbs.log2 < 9000:=Sjq (by omega)
theorem Juu {zs:List Str} {s:Int} (h:0<=s/\s < zs.length):∃z,atI (zs.map V.str) s=some (.str z)/\z∈zs:=by
 obtain ⟨i,rfl⟩:=yas h.1
 have hi:i < zs.length:=by omega
 exact ⟨zs[i],Jl7 (by rw [yn,yi hi];rfl),ybu hi⟩
theorem Spv {p:S5} {H:Hp} {L:S5} {ts:List S5} {lss:List (List Str)} (hL:H L=some (.lst (ts.map V.ref))) (hp:Paired (Se6 p H) ts lss):∀x∈ts,x≠L:=λx hx e=>by
 obtain ⟨i,hi⟩:=List.getElem?_of_mem hx
 obtain ⟨ws,_,h⟩:=Jml hp hi
 have h2:=h.2
 rw [e,hL] at h2
 have q:=HO.lst.inj (yt.inj h2)
 cases ts with
 |nil=>cases hx
 |cons a b=>
  cases ws with
  |nil=>cases q
  |cons c d=>cases q
theorem Smt {p:S5} {H:Hp} {L:S5} {o:HO} {ts:List S5} {lss:List (List Str)} (hp:Paired (Se6 p H) ts lss) (ns:∀x∈ts,x≠L):Paired (Se6 p (upd H L o)) ts lss:=by
 induction hp with
 |nil=>exact .nil
 |cons h _ ih=>exact .cons ⟨h.1,by rw [Jjc (ns _ (.head _))];exact h.2⟩ (ih λx hx=>ns x (.tail _ hx))
theorem Sct.snoc {p:S5} {H:Hp} {L t:S5} {lss:List (List Str)} {ws:List Str} {ts:List S5} (n:L≠p) (hL:H L=some (.lst (ts.map V.ref))) (hp:Paired (Se6 p H) ts lss) (ht:t≠p) (htL:H t=some (.lst (ws.map V.str))) (tn:t≠L):Sct p (upd H L (.lst (ts.map V.ref++ [.ref t]))) L (lss++ [ws]):=
 ⟨n,ts++ [t],by rw [Sv,yr];rfl,Paired.snoc (Smt hp (Spv hL hp)) ⟨ht,by rw [Jjc tn];exact htL⟩⟩
def Yb2:Sp:=λvs H Q _=>∃p:S5,vs= [.ref p]/\Scl H p/\∀(L:S5) (lss:List (List Str)) (H':Hp),But p H H'->Sct p H' L lss->Sdj 0 lss->Q (.ref L) H'
theorem Jye {c g:Int} (c0:0<=c) (c1:c<=12) (g0:0<=g) (g1:g<=12):LOk 0 [CLD,nmS c,nmS g]:=by
 have w1:=Jxw c0 c1
 have w2:=Jxw g0 g1
 have w0:Wd 5 CLD:=Jla (by decide +kernel)
 have l0:=w0.len
 have l1:=w1.len
 have l2:=w2.len
 refine ⟨λw hw=>?_,?_⟩
 ·simp only [yo,yae,or_false] at hw
  rcases hw with rfl|rfl|rfl
  ·exact w0.mono (by decide)
  ·exact w1.mono (by decide)
  ·exact w2.mono (by decide)
 ·rw [Jkr,Jkr,Jkr]
  show _+(_+(_+0))<=_
  omega
theorem Jyd {z kd:Str} {ns ms:List Int} (wz:Wd 8 z) (hk:Knd kd) (hn:∀x∈ns,0<=x/\x<=12) (hm:∀x∈ms,0<=x/\x<=12) (ln:ns.length<=4) (lm:ms.length<=4):LOk 0 ([BAS,z]++ns.map nmS++ [kd]++ms.map nmS):=by
 have w0:Wd 5 BAS:=Jla (by decide +kernel)
 have wk:Wd 4 kd:=by rcases hk with rfl|rfl|rfl <;> exact Jla (by decide +kernel)
 have wm:∀l:List Int,(∀x∈l,0<=x/\x<=12)->∀w∈l.map nmS,Wd 2 w:=λl h w hw=>by
  obtain ⟨x,hx,rfl⟩:=yal.mp hw
  exact Jxw (h x hx).1 (h x hx).2
 have a1:=Ys (m:=2) (ns.map nmS) λw hw=>(wm ns hn w hw).len
 have a2:=Ys (m:=2) (ms.map nmS) λw hw=>(wm ms hm w hw).len
 rw [ye] at a1 a2
 have l0:=w0.len
 have l1:=wz.len
 have l2:=wk.len
 refine ⟨λw hw=>?_,?_⟩
 ·simp only [yy,yo,yae,or_false] at hw
  rcases hw with (((rfl|rfl)|hw)|rfl)|hw
  ·exact w0.mono (by decide)
  ·exact wz.mono (by decide)
  ·exact (wm ns hn w hw).mono (by decide)
  ·exact wk.mono (by decide)
  ·exact (wm ms hm w hw).mono (by decide)
 ·rw [Jmu,Jmu,Jmu,Jkr,Jkr,Jkr]
  show _+(_+0)+_+(_+0)+_<=_
  omega
theorem Jzn {z b:Str} {n:Int} (wz:Wd 8 z) (wb:Wd 8 b) (n0:0<=n) (n1:n<=12):LOk 0 [TWN,z,b,nmS n]:=by
 have w0:Wd 4 TWN:=Jla (by decide +kernel)
 have w3:=Jxw n0 n1
 have l0:=w0.len
 have l1:=wz.len
 have l2:=wb.len
 have l3:=w3.len
 refine ⟨λw hw=>?_,?_⟩
 ·simp only [yo,yae,or_false] at hw
  rcases hw with rfl|rfl|rfl|rfl
  ·exact w0.mono (by decide)
  ·exact wz.mono (by decide)
  ·exact wb.mono (by decide)
  ·exact w3.mono (by decide)
 ·rw [Jkr,Jkr,Jkr,Jkr]
  show _+(_+(_+(_+0)))<=_
  omega
theorem Sjo (z:Str):Jna z=0\/Jna z=1:=by
 unfold Jna
 split
 ·exact .inr rfl
 ·exact .inl rfl
theorem Sa6:Jjh ["_law_stream_here","_law_cloud","_law_many","_law_lines_here","_law_names_here","_law_name","_law_low","_law_high","_law_start","_law_kind","_law_numbers","_law_marks_here"] ["_law_stream_here"] (Jje (top 67)):=⟨rfl,rfl,rfl,by decide +kernel,rfl,by decide +kernel,by decide +kernel⟩
theorem Juc (T:Tx K mg a):Jjz P w K mg base CX0 4 a.Jhl a.Jhm ["_law_stream_here"] Yb2:=by
 have Sr:=Jlb (P:=P) (w:=w) (base:=base) T
 have Sd3:=Jso (P:=P) (w:=w) (base:=base) T
 have Sf7:=Jud (P:=P) (w:=w) (base:=base) T
 refine T.Ja1.fn.ok Sa6 (λvs H Q E h=>?_) (λcdv A outer s H vs Q E hr h=>?_)
 ·obtain ⟨p,rfl,_⟩:=h
  rfl
 ·obtain ⟨p,rfl,st,k⟩:=h
  refine ⟨?t,?B,?C⟩
  case B=>
   refine' Jj9 ?O0 ?O1
   case O0=>exact (Jjl (i:=1) Sa6.nd rfl (yf rfl) (Jjd T.Jx Sr hr (by decide) (So (pv 0) (So Sy Ss))))
   case O1=>
   refine' Jj9 ?O2 ?O3
   case O2=>exact (Jjl (i:=2) Sa6.nd rfl (yf rfl) (Jk5 Jjs (Jju (So (Jjn Jk8 Sy (Jjd T.Jx Sr hr (by decide) (So (pv 0) (So Sy Ss)))) (So (Jjn Jk8 Sy (Jjd T.Jx Sr hr (by decide) (So (pv 0) (So Sy Ss)))) Ss))) (Jkd Jqq (by rfl) T.Jat Joe (So (Jkt Jkv (Jjd T.Jx Sr hr (by decide) (So (pv 0) (So Sy Ss))) Sy (Jjp _)) Ss)) (λ_ _=>rfl)))
   case O3=>
   refine' Jj9 ?O4 ?O5
   case O4=>exact (Jjl (i:=3) Sa6.nd rfl (yf rfl) (Jju (So (Jju (So Jjg (So (Jkd Jlt (by rfl) T.Jb1 Jni (So (pv 1) Ss)) (So (Jkd Jlt (by rfl) T.Jb1 Jni (So (Jjd T.Jx Sr hr (by decide) (So (pv 0) (So (Jjn Jk8 (pv 1) Sy) Ss))) Ss)) Ss)))) Ss)))
   case O5=>
   refine' Jj9 ?O6 ?O7
   case O6=>exact (Jjl (i:=4) Sa6.nd rfl (yf rfl) (Jjd T.Ja0 Sd3 hr (by decide) (So (pv 0) (So (pv 2) Ss))))
   case O7=>
   refine' Jj9 ?O8 ?O9
   case O8=>
    refine' Jnm ?Oa ?Ob ?Oc ?Od ?Oe
    case Oa=>exact PassesOwn.never
    case Ob=>exact rfl
    case Oc=>exact (Jlm (pv 4))
    case Od=>exact (Jk3 (i:=5) Sa6.nd rfl (yf rfl))
    case Oe=>
    refine' Jj9 ?Of ?Og
    case Of=>exact (Jjl (i:=6) Sa6.nd rfl (yf rfl) (Jjd T.Jx Sr hr (by decide) (So (pv 0) (So Sy Ss))))
    case Og=>
    refine' Jj9 ?Oh ?Oi
    case Oh=>exact (Jjl (i:=7) Sa6.nd rfl (yf rfl) (Jjn Jk8 (pv 6) (Jjd T.Jx Sr hr (by decide) (So (pv 0) (So (Jjn Jnl Sy (pv 6)) Ss)))))
    case Oi=>
    refine' Jj9 ?Oj ?Ok
    case Oj=>exact (Jjl (i:=8) Sa6.nd rfl (yf rfl) (Jjn Jk8 (pv 6) (Jjd T.Jx Sr hr (by decide) (So (pv 0) (So (Jjn Jk8 (Jjn Jnl (pv 7) (pv 6)) Sy) Ss)))))
    case Ok=>
    refine' Jj9 ?Ol ?Om
    case Ol=>exact (Jjl (i:=9) Sa6.nd rfl (yf rfl) (Jk5 Jjs (Jju (So Jjg (So Jjg (So Jjg Ss)))) (Jjd T.Jx Sr hr (by decide) (So (pv 0) (So Sy Ss))) (λ_ _=>rfl)))
    case Om=>
    refine' Jj9 ?On ?Oo
    case On=>exact (Jjl (i:=10) Sa6.nd rfl (yf rfl) (Jju (pa4 (pv 6) (pv 7) (pv 8) (Jjd T.Jx Sr hr (by decide) (So (pv 0) (So Sy Ss))))))
    case Oo=>
    refine' Jj9 ?Op ?Oq
    case Op=>exact (Jjl (i:=11) Sa6.nd rfl (yf rfl) (Jjd T.Jz Sf7 hr (by decide) (So (pv 0) (So (Jkd Jqq (by rfl) T.Jat Joe (So (Jkt Jkv (pv 9) Jjg (Jjp _)) Ss)) Ss))))
    case Oq=>
    refine' Jjb ?Or
    case Or=>exact (Jkm (Jll F.plainAttrs_list F.slot_list_append F.type_list_append Jkw (pv 3) (So (Jjn Jks (Jjn Jks (Jjn Jks (Jju (So Jjg (So (pv 5) Ss))) (Jkz (N:=(["_law_number_here"]:List Str)) (ini:=[none]) rfl (Jlm (pv 10)) (λ_ _ _ _ _=>(Jk3 (i:=0) (by decide +kernel:(["_law_number_here"]:List Str).Nodup) rfl (yf rfl))) (λ_ _ _ _ _=>Jl3) (λ_ _ _ _ _=>(Jkd Jlt (by rfl) T.Jb1 Jni (So (pv 0) Ss))))) (Jju (So (pv 9) Ss))) (Jkz (N:=(["_law_mark"]:List Str)) (ini:=[none]) rfl (Jlm (pv 11)) (λ_ _ _ _ _=>(Jk3 (i:=0) (by decide +kernel:(["_law_mark"]:List Str).Nodup) rfl (yf rfl))) (λ_ _ _ _ _=>Jl3) (λ_ _ _ _ _=>(Jkd Jlt (by rfl) T.Jb1 Jni (So (pv 0) Ss))))) Ss)))
   case O9=>
   refine' Jj9 ?Os ?Ot
   case Os=>
    refine' Jnm ?Ou ?Ov ?Ow ?Ox ?Oy
    case Ou=>exact PassesOwn.never
    case Ov=>exact rfl
    case Ow=>exact (Jlm (Jjd T.Ja0 Sd3 hr (by decide) (So (pv 0) (So (Jk5 Jjs (Jju (pa5 Sy Sy Sy Sy Sy)) (Jjd T.Jx Sr hr (by decide) (So (pv 0) (So Sy Ss))) (λ_ _=>rfl)) Ss))))
    case Ox=>exact (Jk3 (i:=5) Sa6.nd rfl (yf rfl))
    case Oy=>
    refine' Jjb ?Oz
    case Oz=>exact (Jkm (Jll F.plainAttrs_list F.slot_list_append F.type_list_append Jkw (pv 3) (So (Jju (pa4 Jjg (pv 5) (Jk5 Jjs (pv 4) (Jjd T.Jx Sr hr (by decide) (So (pv 0) (So (pv 2) Ss))) (λ_ _=>rfl)) (Jkd Jlt (by rfl) T.Jb1 Jni (So (Jjn Jk8 Sy (Jjd T.Jx Sr hr (by decide) (So (pv 0) (So Sy Ss)))) Ss)))) Ss)))
   case Ot=>
   refine' Jjb ?U0
   case U0=>exact (Jji (pv 3))
  refine ⟨_,rfl,p,13,rfl,st,by decide,by decide,λc H1 c0 c1 b1=>?_⟩
  refine ⟨_,rfl,p,4,rfl,b1.2,by decide,by decide,λr1 H2 r10 r11 b2=>⟨_,_,rfl,rfl,?_⟩⟩
  refine ⟨_,rfl,p,18,rfl,b2.2,by decide,by decide,λr2 H3 r20 r21 b3=>⟨_,_,rfl,rfl,(show 2<=Sa by decide),λl0 h0=>?_⟩⟩
  have c3:=(b1.trans b2).trans b3
  have s0:=Sn.upd (o:=.lst [.int (1+r1),.int (1+r2)]) h0
  have n0:=c3.2.ne h0
  refine ⟨_,rfl,p,4,rfl,c3.2.same s0,by decide,by decide,λr3 H4 r30 r31 b4=>⟨rfl,.inr ⟨_,rfl,?_⟩⟩⟩
  have c4:=(c3.same s0).trans b4
  have hl4:=b4.1 _ _ n0 (Sv (H:=H3) (a:=l0) (o:=.lst [.int (1+r1),.int (1+r2)]))
  have pick:∃n:Nat,atI [V.int (1+r1),.int (1+r2)] (if decide (V.int r3=V.int 0)=true then (1:Int) else 0)=some (.int (n:Int))/\1<=n/\n<=18:=by
   by_cases c:decide (V.int r3=V.int 0)=true
   ·rw [if_pos c]
    exact ⟨(1+r2).toNat,by rw [show (((1+r2).toNat:Nat):Int)=1+r2 by omega];rfl,by omega,by omega⟩
   ·rw [if_neg c]
    exact ⟨(1+r1).toNat,by rw [show (((1+r1).toNat:Nat):Int)=1+r1 by omega];rfl,by omega,by omega⟩
  obtain ⟨n,an,n1,n18⟩:=pick
  refine ⟨l0,_,_,_,rfl,rfl,Sx.of hl4,an,?_⟩
  dsimp only [Jnf]
  refine ⟨_,rfl,c,rfl,Jq1 c0 (by omega),_,rfl,_,rfl,_,_,rfl,rfl,p,c+1,rfl,c4.2,by omega,Jrz (by omega) (by omega),λg H5 g0 g1 b5=>⟨g,rfl,Jq1 g0 (by omega),(show 3<=Sa by decide),λl1 h1=>?_⟩⟩
  have c5:=c4.trans b5
  have s1:=Sn.upd (o:=.lst ([CLD,nmS c,nmS g].map V.str)) h1
  refine ⟨(show 1<=Sa by decide),λL hL=>?_⟩
  have c6:=c5.same s1
  have hL0:H L=none:=But.free st c6 hL
  have nL:L≠p:=st.ne hL0
  have s2:=Sn.upd (o:=.lst [.ref l1]) hL
  have c7:But p H (upd (upd H5 l1 (.lst ([CLD,nmS c,nmS g].map V.str))) L (.lst [.ref l1])):=c6.same s2
  have n1:l1≠p:=c5.2.ne h1
  have ln7:Sct p (upd (upd H5 l1 (.lst ([CLD,nmS c,nmS g].map V.str))) L (.lst [.ref l1])) L [[CLD,nmS c,nmS g]]:=⟨nL,[l1],Sv,.cons ⟨n1,s2 _ _ Sv⟩ .nil⟩
  have ok7:Sdj 0 [[CLD,nmS c,nmS g]]:=⟨by simp,λws hw=>by rw [yaf.mp hw];exact Jye c0 (by omega) g0 (by omega)⟩
  dsimp only [Jnf]
  show Sj4 _ _ _ _ (upd (upd H5 l1 (.lst ([CLD,nmS c,nmS g].map V.str))) L (.lst [.ref l1]))
  generalize upd (upd H5 l1 (.lst ([CLD,nmS c,nmS g].map V.str))) L (.lst [.ref l1])=H7 at ln7 c7⊢
  refine ⟨_,rfl,_,rfl,p,n,rfl,c7.2,n18,λZ zs H8 hZ0 b8 hZ zl nms=>?_⟩
  have c8:=c7.trans b8
  have nZ:Z≠p:=c7.2.ne hZ0
  have nZL:Z≠L:=λe=>by
   obtain ⟨_,ts,h1,_⟩:=ln7
   rw [e,h1] at hZ0
   cases hZ0
  have ln8:=ln7.but b8
  refine ⟨_,rfl,Z,rfl,⟨_,Sx.of hZ⟩,?_⟩
  refine Jrt (K:=K) (a:=Z) (xs:=zs.map V.str) (λj σ H'=>∃(lss:List (List Str)) (o5 o6 o7 o8 o9 o10 o11:Option V),σ= [some (.ref p),some (.int c),some (.int (n:Int)),some (.ref L),some (.ref Z),o5,o6,o7,o8,o9,o10,o11]/\But p H H'/\H' Z=some (.lst (zs.map V.str))/\Sct p H' L lss/\Sdj 0 lss/\lss.length=1+j) ⟨_,_,_,_,_,_,_,_,rfl,c8,hZ,ln8,ok7,rfl⟩ (λj σ H' _ ⟨_,_,_,_,_,_,_,_,_,_,hz,_⟩=>Sx.of hz) ?_ ?_
  ·rintro j x σ H' hx ⟨lss,o5,o6,o7,o8,o9,o10,o11,rfl,cc,hZ',ln,ok,ll⟩
   rw [yn] at hx
   obtain ⟨z,hz,rfl⟩:=yat.mp hx
   have zn:=nms z (yab hz)
   have jl:j < zs.length:=(yz.mp hz).1
   refine ⟨_,rfl,p,13,rfl,cc.2,by decide,by decide,λlo I1 lo0 lo1 d1=>?_⟩
   refine ⟨_,rfl,_,rfl,_,rfl,_,_,rfl,rfl,p,13 - lo,rfl,d1.2,by omega,Jrz (by omega) (by omega),λrh I2 rh0 rh1 d2=>⟨_,_,rfl,rfl,?_⟩⟩
   refine ⟨_,rfl,_,rfl,_,rfl,_,rfl,_,_,rfl,rfl,_,_,rfl,rfl,p,lo+rh - lo+1,rfl,d2.2,by omega,Jrz (by omega) (by omega),λrs I3 rs0 rs1 d3=>⟨_,_,rfl,rfl,?_⟩⟩
   refine ⟨(show 3<=Sa by decide),λl2 h2=>?_⟩
   have e2:=Sn.upd (o:=.lst [.str "step",.str "flap",.str "part"]) h2
   have n2:=d3.2.ne h2
   refine ⟨_,rfl,p,3,rfl,d3.2.same e2,by decide,by decide,λrk I4 rk0 rk1 d4=>?_⟩
   obtain ⟨kd,a2,m2⟩:=Juu (zs:=["step","flap","part"]) ⟨rk0,rk1⟩
   refine ⟨l2,_,rk,_,rfl,rfl,Sx.of (d4.1 _ _ n2 Sv),a2,?_⟩
   have kn:Knd kd:=by
    simp at m2
    exact m2
   have f4:But p H' I4:=(((d1.trans d2).trans d3).same e2).trans d4
   refine ⟨_,rfl,_,rfl,_,rfl,_,rfl,p,7,rfl,f4.2,by decide,by decide,λrn I5 rn0 rn1 d5=>⟨(show 4<=Sa by decide),λN hN=>?_⟩⟩
   have f5:=f4.trans d5
   have sN:=Sn.upd (o:=.lst ([lo,lo+rh,lo+rs,rn].map V.int)) hN
   have nN:N≠p:=f5.2.ne hN
   have f6:=f5.same sN
   refine ⟨_,rfl,_,rfl,rfl,.inr ⟨_,rfl,?_⟩⟩
   refine ⟨p,Jna kd,congrArg (λz=>[V.ref p,V.int z]) (Sjp kd),f6.2,Sjo kd,λm ns I6 hm0 d6 hm6 ar=>?_⟩
   have f7:=f6.trans d6
   have nm6:m≠p:=f6.2.ne hm0
   have hN7:I6 N=some (.lst ([lo,lo+rh,lo+rs,rn].map V.int)):=d6.1 _ _ nN Sv
   have hZ7:=f7.1 _ _ nZ hZ'
   have ln7':=ln.but f7
   unfold Jnq at ar
   rw [yac,decide_eq_true_eq,ye] at ar
   have b4:∀x∈ [lo,lo+rh,lo+rs,rn],0<=x/\x<=12:=λx hx=>by
    simp only [yo,yae,or_false] at hx
    rcases hx with rfl|rfl|rfl|rfl <;> omega
   have bm:∀x∈ns,0<=x/\x<=12:=λx hx=>by
    obtain ⟨i,hi,rfl⟩:=List.mem_iff_getElem.mp hx
    have g:=Jqw _ _ ar.2 i _ (yi hi)
    have l0:=Sjo kd
    omega
   generalize hq: [lo,lo+rh,lo+rs,rn]=qs at hN7 b4
   have ql:qs.length=4:=by rw [<-hq];rfl
   obtain ⟨nLp,ts,hLs,pr⟩:=id ln7'
   have lt:=Paired.length pr
   refine ⟨_,rfl,.inl ⟨rfl,_,Sx.of hLs⟩,_,rfl,(show 2<=Sa by decide),λx1 hx1=>?_⟩
   have w1:=Sn.upd (o:=.lst [.str BAS,.str z]) hx1
   refine ⟨_,rfl,N,rfl,⟨_,Sx.of (w1 _ _ hN7)⟩,λD1 hD1=>?_⟩
   refine Jmj ((qs.map nmS).map V.str) hD1 (by simp) (by simp;omega) (w1 _ _ hN7) ?_ ?_
   ·rintro i x y H' Q' hx hy sm kk
    rw [yn] at hx
    obtain ⟨v,hv,rfl⟩:=yat.mp hx
    rw [yn,yn,hv] at hy
    cases hy
    have bv:=b4 v (yab hv)
    exact ⟨_,rfl,v,rfl,Jq1 bv.1 bv.2,kk _ (Sn.refl _)⟩
   intro J1 t1 hD1'
   have u1:=w1.trans t1
   refine ⟨x1,D1,_,_,rfl,rfl,t1 _ _ Sv,hD1',?_,λx2 hx2=>?_⟩
   ·rw [ye,ye]
    exact Jjx _ (by show 2+_<=2000;omega)
   have w2:=u1.trans (Sn.upd (o:=.lst ([.str BAS,.str z]++(qs.map nmS).map V.str)) hx2)
   refine ⟨_,rfl,(show 1<=Sa by decide),λx3 hx3=>?_⟩
   have w3:=Sn.upd (o:=.lst [.str kd]) hx3
   refine ⟨x2,x3,_,_,rfl,rfl,w3 _ _ Sv,Sv,?_,λx4 hx4=>?_⟩
   ·simp only [yq,ye]
    exact Jjx _ (by show 2+_+1<=2000;omega)
   have w4:=(w2.trans w3).trans (Sn.upd (o:=.lst ([.str BAS,.str z]++(qs.map nmS).map V.str++ [.str kd])) hx4)
   have hx4':(upd (upd (upd J1 x2 (.lst ([.str BAS,.str z]++(qs.map nmS).map V.str))) x3 (.lst [.str kd])) x4 (.lst ([.str BAS,.str z]++(qs.map nmS).map V.str++ [.str kd]))) x4=some (.lst ([.str BAS,.str z]++(qs.map nmS).map V.str++ [.str kd])):=Sv
   refine ⟨_,rfl,m,rfl,⟨_,Sx.of (w4 _ _ hm6)⟩,λD2 hD2=>?_⟩
   refine Jmj ((ns.map nmS).map V.str) hD2 (by simp) (by simp;omega) (w4 _ _ hm6) ?_ ?_
   ·rintro i x y H' Q' hx hy sm kk
    rw [yn] at hx
    obtain ⟨v,hv,rfl⟩:=yat.mp hx
    rw [yn,yn,hv] at hy
    cases hy
    have bv:=bm v (yab hv)
    exact ⟨_,rfl,v,rfl,Jq1 bv.1 bv.2,kk _ (Sn.refl _)⟩
   intro J2 t2 hD2'
   have u2:=w4.trans t2
   refine ⟨x4,D2,_,_,rfl,rfl,t2 _ _ hx4',hD2',?_,λt ht=>?_⟩
   ·simp only [yq,ye]
    exact Jjx _ (by show 2+_+1+_<=2000;omega)
   have w5:=Sn.upd (o:=.lst ([.str BAS,.str z]++(qs.map nmS).map V.str++ [.str kd]++(ns.map nmS).map V.str)) ht
   have u3:=u2.trans w5
   have ht':(upd J2 t (.lst ([.str BAS,.str z]++(qs.map nmS).map V.str++ [.str kd]++(ns.map nmS).map V.str))) t=some (.lst (([BAS,z]++qs.map nmS++ [kd]++ns.map nmS).map V.str)):=by
    rw [Sv]
    simp only [yr]
    rfl
   have nt:t≠p:=(f7.same u2).2.ne ht
   have ntL:t≠L:=λe=>by rw [e,u2 _ _ hLs] at ht;cases ht
   have f8:=f7.same u3
   have hLs8:=u3 _ _ hLs
   have pr8:=Paired.mapP pr λ_ _ q=>q.same u3
   have hZ8:=u3 _ _ hZ7
   generalize upd J2 t (.lst ([.str BAS,.str z]++(qs.map nmS).map V.str++ [.str kd]++(ns.map nmS).map V.str))=J3 at ht' f8 hLs8 pr8 hZ8⊢
   refine ⟨L,_,_,rfl,rfl,hLs8,by rw [ye];exact Jkn (by omega),lss++ [[BAS,z]++qs.map nmS++ [kd]++ns.map nmS],_,_,_,_,_,_,_,rfl,(cc.trans f8).updD hL0 nL,by rw [Jjc nZL];exact hZ8,Sct.snoc nL hLs8 pr8 nt ht' ntL,⟨by simp;omega,λws hw=>?_⟩,by simp;omega⟩
   rcases yy.mp hw with h|h
   ·exact ok.ok ws h
   ·rw [yaf.mp h]
    exact Jyd zn kn b4 bm (by omega) ar.1.2
  ·rintro σ H' ⟨lss,o5,o6,o7,o8,o9,o10,o11,rfl,cc,hZ',ln,ok,ll⟩
   rw [ye,zl] at ll
   refine ⟨_,rfl,(show 5<=Sa by decide),λl2 h2=>?_⟩
   have e2:=Sn.upd (o:=.lst [.int 0,.int 1,.int 2,.int 3,.int 4]) h2
   have n2:=cc.2.ne h2
   refine ⟨_,rfl,p,5,rfl,cc.2.same e2,by decide,by decide,λra J2 ra0 ra1 f2=>?_⟩
   obtain ⟨q4,rfl⟩:=yas ra0
   have aq:atI [V.int 0,.int 1,.int 2,.int 3,.int 4] (q4:Int)=some (.int (q4:Int)):=by
    rcases (show q4=0\/q4=1\/q4=2\/q4=3\/q4=4 by omega) with rfl|rfl|rfl|rfl|rfl <;> rfl
   refine ⟨l2,_,_,_,rfl,rfl,Sx.of (f2.1 _ _ n2 Sv),aq,?_⟩
   have d2:=(cc.same e2).trans f2
   have f02:But p H' J2:=(But.of cc.2 e2).trans f2
   refine ⟨p,q4,rfl,d2.2,by omega,λY ys J3 hY0 f3 hY yl nms2=>?_⟩
   have f03:=f02.trans f3
   have d3:=d2.trans f3
   have nY:Y≠p:=d2.2.ne hY0
   have nYL:Y≠L:=λe=>by
    obtain ⟨_,ts,h1,_⟩:=ln.but f02
    rw [e,h1] at hY0
    cases hY0
   refine ⟨Y,rfl,⟨_,Sx.of hY⟩,?_⟩
   refine Jrt (K:=K) (a:=Y) (xs:=ys.map V.str) (λj σ H'=>∃(lss:List (List Str)) (o5:Option V),σ= [some (.ref p),some (.int c),some (.int (n:Int)),some (.ref L),some (.ref Z),o5,o6,o7,o8,o9,o10,o11]/\But p H H'/\H' Y=some (.lst (ys.map V.str))/\H' Z=some (.lst (zs.map V.str))/\Sct p H' L lss/\Sdj 0 lss/\lss.length=1+n+j) ⟨lss,_,rfl,d3,hY,f03.1 _ _ nZ hZ',ln.but f03,ok,ll⟩ (λj σ H' _ ⟨_,_,_,_,hz,_⟩=>Sx.of hz) ?_ ?_
   ·rintro j x σ J4 hx ⟨lss,o5,rfl,d4,hY4,hZ4,ln4,ok4,ll4⟩
    rw [yn] at hx
    obtain ⟨z,hz,rfl⟩:=yat.mp hx
    have zn:=nms2 z (yab hz)
    have jl:j < ys.length:=(yz.mp hz).1
    obtain ⟨_,ts,hLs,pr⟩:=id ln4
    have lt:=Paired.length pr
    refine ⟨_,rfl,.inl ⟨rfl,_,Sx.of hLs⟩,_,rfl,_,rfl,_,rfl,_,rfl,p,n,rfl,d4.2,by omega,Jrz (by omega) (by omega),λrb J5 rb0 rb1 f5=>?_⟩
    obtain ⟨b,ab,mb⟩:=Juu (zs:=zs) ⟨rb0,by omega⟩
    refine ⟨Z,_,_,_,rfl,rfl,Sx.of (f5.1 _ _ nZ hZ4),ab,?_⟩
    have d5:=d4.trans f5
    refine ⟨_,rfl,p,6,rfl,d5.2,by decide,by decide,λrw' J6 rw0 rw1 f6=>⟨_,_,rfl,rfl,1+rw',rfl,Jq1 (by omega) (by omega),(show 4<=Sa by decide),λt ht=>?_⟩⟩
    have f56:=f5.trans f6
    have e7:=Sn.upd (o:=.lst ([TWN,z,b,nmS (1+rw')].map V.str)) ht
    have f7:But p J4 (upd J6 t (.lst ([TWN,z,b,nmS (1+rw')].map V.str))):=f56.same e7
    have nt:t≠p:=f56.2.ne ht
    have ntL:t≠L:=λe=>by rw [e,f56.1 _ _ nL hLs] at ht;cases ht
    have ht':(upd J6 t (.lst ([TWN,z,b,nmS (1+rw')].map V.str))) t=some (.lst ([TWN,z,b,nmS (1+rw')].map V.str)):=Sv
    have hLs7:=f7.1 _ _ nL hLs
    refine ⟨L,_,_,rfl,rfl,hLs7,by rw [ye];exact Jkn (by omega),lss++ [[TWN,z,b,nmS (1+rw')]],_,rfl,(d4.trans f7).updD hL0 nL,by rw [Jjc nYL];exact f7.1 _ _ nY hY4,by rw [Jjc nZL];exact f7.1 _ _ nZ hZ4,Sct.snoc nL hLs7 (Paired.mapP pr λ_ _ q=>q.but f7) nt ht' ntL,⟨by simp;omega,λws hw=>?_⟩,by simp;omega⟩
    rcases yy.mp hw with h|h
    ·exact ok4.ok ws h
    ·rw [yaf.mp h]
     exact Jzn zn (nms b mb) (by omega) (by omega)
   ·rintro σ J4 ⟨lss,o5,rfl,d4,hY4,hZ4,ln4,ok4,ll4⟩
    exact ⟨_,rfl,k L lss J4 d4 ln4 ok4⟩
theorem Jx2 (xs:List V) (j:Nat):Jlf xs none (some (j:Int))=xs.take j:=by
 unfold Jlf
 rw [HT.sIx_none,HT.sIx_nat,List.drop_zero,Nat.sub_zero]
 rcases Nat.le_total j xs.length with h|h
 ·rw [ybj h]
 ·rw [Nat.min_eq_right h,List.take_length,yam h]
theorem Jz6 (xs:List V) (i j:Nat):Jlf xs (some (i:Int)) (some (j:Int))=(xs.drop i).take (j - i):=by
 unfold Jlf
 rw [HT.sIx_nat,HT.sIx_nat]
 rcases Nat.le_total i xs.length with h|h
 ·rw [ybj h]
  rcases Nat.le_total j xs.length with h'|h'
  ·rw [ybj h']
  ·rw [Nat.min_eq_right h',yam (by rw [yx];exact yg _),yam (by rw [yx];omega)]
 ·rw [Nat.min_eq_right h,ycg (yg _),ycg h,List.take_nil,List.take_nil]
theorem Jtd (xs:List V) (i:Nat):Jlf xs (some (i:Int)) none=xs.drop i:=by
 unfold Jlf
 rw [HT.sIx_none,HT.sIx_nat]
 rcases Nat.le_total i xs.length with h|h
 ·rw [ybj h]
  exact yam (by rw [yx];exact yg _)
 ·rw [Nat.min_eq_right h,ycg (yg _),ycg h,List.take_nil]
def WA:List Str:=["","basin","town","cloud","step","flap","part","stuck","-1","01","+1","1000000","13","Basin"]
def WB (z:Str):List Str:=[z++"x",z++"0","0" ++z,"abcdefghi","12","0","1",z++"A","a","7","z9","6"]
theorem Spu:WA.all (λz=>decide (z.length<=9)&&z.cps.toList.all (λc=>decide (c < 128)))=true:=by decide +kernel
theorem Smr {z:Str} {t:Nat} (wz:Wd (9+t) z):∀y∈WA++WB z,Wd (10+t) y:=by
 have l:∀x:Str,(decide (x.length<=1)&&x.cps.toList.all (λc=>decide (c < 128)))=true->Wd (10+t) (z++x)/\Wd (10+t) (x++z):=λx hx=>⟨(wz.app (Jla hx)).mono (by omega),((Jla hx).app wz).mono (by omega)⟩
 intro y hy
 rcases yy.mp hy with h|h
 ·exact (Jla (yah.mp Spu y h)).mono (by omega)
 ·unfold WB at h
  simp only [yo,yae,or_false] at h
  rcases h with rfl|rfl|rfl|rfl|rfl|rfl|rfl|rfl|rfl|rfl|rfl|rfl
  ·exact (l "x" (by decide +kernel)).1
  ·exact (l "0" (by decide +kernel)).1
  ·exact (l "0" (by decide +kernel)).2
  ·exact (Jla (n:=9) (by decide +kernel)).mono (by omega)
  ·exact (Jla (n:=9) (by decide +kernel)).mono (by omega)
  ·exact (Jla (n:=9) (by decide +kernel)).mono (by omega)
  ·exact (Jla (n:=9) (by decide +kernel)).mono (by omega)
  ·exact (l "A" (by decide +kernel)).1
  all_goals exact (Jla (n:=9) (by decide +kernel)).mono (by omega)
def Ybb:Sp:=λvs H Q _=>∃(p:S5) (z:Str) (t:Nat),vs= [.ref p,.str z]/\Scl H p/\Wd (9+t) z/\t<=10/\∀(y:Str) (H':Hp),But p H H'->Wd (10+t) y->Q (.str y) H'
theorem Scx:Jjh ["_law_stream_here","_law_old","_law_some"] ["_law_stream_here","_law_old"] (Jje (top 68)):=⟨rfl,rfl,rfl,by decide +kernel,rfl,by decide +kernel,by decide +kernel⟩
theorem Jvh (T:Tx K mg a):Jjz P w K mg base CX0 2 a.Jhn a.Jho ["_law_stream_here","_law_old"] Ybb:=by
 have Sr:=Jlb (P:=P) (w:=w) (base:=base) T
 refine T.Ja2.fn.ok Scx (λvs H Q E h=>?_) (λcdv A outer s H vs Q E hr h=>?_)
 ·obtain ⟨p,z,t,rfl,_⟩:=h
  rfl
 ·obtain ⟨p,z,t,rfl,st,wz,ht,k⟩:=h
  refine ⟨?t,?B,?C⟩
  case B=>
   refine' Jj9 ?O0 ?O1
   case O0=>
    refine' Jjl (i:=2) ?O2 ?O3 ?O4 ?O5 ?O6 ?O7
    case O2=>exact Scx.nd
    case O3=>exact rfl
    case O4=>exact (yf rfl)
    case O6=>exact Jws
    case O7=>first|exact .inl rfl|exact .inr rfl
    case O5=>
    refine' Jju ?O8
    case O8=>
    refine' Suc ?O9 ?Oa ?Ob ?Oc ?Od ?Oe ?Of ?Og ?Oh ?Oi ?Oj ?Ok ?Ol ?Om
    case O9=>exact Jjg
    case Oa=>exact Jjg
    case Ob=>exact Jjg
    case Oc=>exact Jjg
    case Od=>exact Jjg
    case Oe=>exact Jjg
    case Of=>exact Jjg
    case Og=>exact Jjg
    case Oh=>exact Jjg
    case Oi=>exact Jjg
    case Oj=>exact Jjg
    case Ok=>exact Jjg
    case Ol=>exact Jjg
    case Om=>exact Jjg
   case O1=>
   refine' Jj9 ?On ?Oo
   case On=>exact (Jjl (i:=2) Scx.nd rfl (yf rfl) (Jjn Jks (pv 2) (Jju (Sua (Jjn Jo4 (pv 1) Jjg) (Jjn Jo4 (pv 1) Jjg) (Jjn Jo4 Jjg (pv 1)) Jjg Jjg Jjg Jjg (Jjn Jo4 (pv 1) Jjg) Jjg Jjg Jjg Jjg))))
   case Oo=>
   refine' Jjb ?Op
   case Op=>exact (Jji (Jk5 Jjs (pv 2) (Jjd T.Jx Sr hr (by decide) (So (pv 0) (So (Jjk Jjq (by rfl) T.Jav Jkh (So (pv 2) Ss)) Ss))) (λ_ _=>rfl)))
  have lz:=wz.len
  have sm:∀x:Str,x.length<=1->z.length+x.length<=Sa/\x.length+z.length<=Sa:=λx hx=>⟨Jjx _ (by omega),Jjx _ (by omega)⟩
  refine ⟨(show 14<=Sa by decide),λL1 h1=>?_⟩
  have w1:=Sn.upd (o:=.lst (WA.map V.str)) h1
  refine ⟨_,rfl,_,rfl,z,"x",rfl,rfl,(sm "x" (by decide +kernel)).1,_,rfl,z,"0",rfl,rfl,(sm "0" (by decide +kernel)).1,_,rfl,"0",z,rfl,rfl,(sm "0" (by decide +kernel)).2,_,rfl,z,"A",rfl,rfl,(sm "A" (by decide +kernel)).1,(show 12<=Sa by decide),λL2 h2=>?_⟩
  have w2:=w1.trans (Sn.upd (o:=.lst ((WB z).map V.str)) h2)
  have g1:(upd (upd H L1 (.lst (WA.map V.str))) L2 (.lst ((WB z).map V.str))) L1=some (.lst (WA.map V.str)):=(Sn.upd h2) _ _ Sv
  have g2:(upd (upd H L1 (.lst (WA.map V.str))) L2 (.lst ((WB z).map V.str))) L2=some (.lst ((WB z).map V.str)):=Sv
  refine ⟨L1,L2,_,_,rfl,rfl,g1,g2,(show 14+12<=Sa by decide),λL3 h3=>?_⟩
  have w3:=w2.trans (Sn.upd (o:=.lst ((WA++WB z).map V.str)) h3)
  have g3:(upd (upd (upd H L1 (.lst (WA.map V.str))) L2 (.lst ((WB z).map V.str))) L3 (.lst ((WA++WB z).map V.str))) L3=some (.lst ((WA++WB z).map V.str)):=Sv
  have b3:=(But.refl st).same w3
  have n3:L3≠p:=Jxf b3.2 g3 λx y v e=>by cases e
  have l26:((WA++WB z).map V.str).length=26:=rfl
  refine ⟨_,rfl,_,rfl,_,rfl,L3,_,rfl,.inl (Sx.of g3),p,26,rfl,b3.2,by decide,by decide,λr H4 r0 r1 b4=>?_⟩
  obtain ⟨y,ay,my⟩:=Juu (zs:=WA++WB z) ⟨r0,r1⟩
  exact ⟨L3,_,_,_,rfl,rfl,Sx.of (b4.1 _ _ n3 g3),ay,k y H4 (b3.trans b4) (Smr wz y my)⟩
theorem Jlp {α β:Type} {F:α->β->Prop} {l₁:List α} {l₂:List β} (r:Paired F l₁ l₂):∀n,Paired F (l₁.take n) (l₂.take n):=by
 induction r with
 |nil=>intro n;rw [List.take_nil,List.take_nil];exact .nil
 |cons h t ih=>
  intro n
  cases n with
  |zero=>exact .nil
  |succ n=>exact .cons h (ih n)
theorem Jlo {α β:Type} {F:α->β->Prop} {l₁:List α} {l₂:List β} (r:Paired F l₁ l₂):∀n,Paired F (l₁.drop n) (l₂.drop n):=by
 induction r with
 |nil=>intro n;rw [List.drop_nil,List.drop_nil];exact .nil
 |cons h t ih=>
  intro n
  cases n with
  |zero=>exact .cons h t
  |succ n=>exact ih n
theorem Jl5 {α β:Type} {F:α->β->Prop} {l₁:List α} {l₂:List β} {m₁:List α} {m₂:List β} (r:Paired F l₁ l₂) (s:Paired F m₁ m₂):Paired F (l₁++m₁) (l₂++m₂):=by
 induction r with
 |nil=>exact s
 |cons h t ih=>exact .cons h ih
theorem Jxx (ws:List Str) (k:Nat):wl (ws.take k)+wl (ws.drop k)=wl ws:=by rw [<-Jmu,List.take_append_drop]
theorem Ybm (ws:List Str) (k:Nat) (w:Str) (h:ws[k]?=some w):wl (ws.drop k)=w.length+1+wl (ws.drop (k+1)):=by
 rw [List.drop_eq_getElem_cons (yz.mp h).1,Jkr]
 obtain ⟨_,e⟩:=yz.mp h
 rw [e]
theorem LOk.mono {t u:Nat} {ws:List Str} (h:LOk t ws) (l:t<=u):LOk u ws:=⟨λw hw=>(h.wd w hw).mono (by omega),yv h.len (by omega)⟩
theorem Jw7 {t:Nat} {ws vs:List Str} (h:LOk t ws) (ht:t<=2) (hv:∀v∈vs,v∈ws\/Wd (10+t) v) (hl:wl vs<=wl ws+11+t):LOk (t+1) vs:=by
 refine ⟨λv hv'=>?_,by have:=h.len;omega⟩
 rcases hv v hv' with q|q
 ·exact (h.wd v q).mono (by omega)
 ·exact q.mono (by omega)
def Sk0:Sp:=λvs H Q _=>∃(p L:S5) (t:Nat) (lss:List (List Str)),vs= [.ref p,.ref L]/\Scl H p/\Sct p H L lss/\Sdj t lss/\lss≠ []/\t<=2/\∀(L':S5) (lss':List (List Str)) (H':Hp),But p H H'->Sct p H' L' lss'->Sdj (t+1) lss'->Q (.ref L') H'
theorem Jxp (vs:List Str) (j:Nat):Jlf (vs.map V.str) none (some (j:Int))=(vs.take j).map V.str:=by rw [Jx2,ybm]
theorem Jrn (vs:List Str) (j:Nat):Jlf (vs.map V.str) (some (j:Int)) none=(vs.drop j).map V.str:=by rw [Jtd,List.map_drop]
theorem Sjy (vs:List Str) (i j:Nat):Jlf (vs.map V.str) (some (i:Int)) (some (j:Int))=((vs.drop i).take (j - i)).map V.str:=by rw [Jz6,ybm,List.map_drop]
theorem Jvq (vs:List S5) (j:Nat):Jlf (vs.map V.ref) none (some (j:Int))=(vs.take j).map V.ref:=by rw [Jx2,ybm]
theorem Jqh (vs:List S5) (j:Nat):Jlf (vs.map V.ref) (some (j:Int)) none=(vs.drop j).map V.ref:=by rw [Jtd,List.map_drop]
theorem Sk1 (vs:List S5) (i j:Nat):Jlf (vs.map V.ref) (some (i:Int)) (some (j:Int))=((vs.drop i).take (j - i)).map V.ref:=by rw [Jz6,ybm,List.map_drop]
theorem Sdj.of {t:Nat} {lss mss:List (List Str)} (h:Sdj t lss) (hm:∀m∈mss,m∈lss\/LOk (t+1) m) (hl:mss.length<=lss.length+1):Sdj (t+1) mss:=⟨by have:=h.len;omega,λm hm'=>(hm m hm').elim (λq=>(h.ok m q).mono (by omega)) id⟩
theorem Yaa {n j:Nat} (h:j < n):ixN n (j:Int)=some j:=by
 unfold ixN
 rw [if_pos (by omega),if_pos (by omega)]
 rfl
theorem Sz:Jjh ["_law_stream_here","_law_lines_here","_law_line","_law_words","_law_at","_law_way","_law_ahead"] ["_law_stream_here","_law_lines_here"] (Jje (top 69)):=⟨rfl,rfl,rfl,by decide +kernel,rfl,by decide +kernel,by decide +kernel⟩
theorem Jpm (T:Tx K mg a):Jjz P w K mg base CX0 3 a.Jhp a.Jhq ["_law_stream_here","_law_lines_here"] Sk0:=by
 have Sr:=Jlb (P:=P) (w:=w) (base:=base) T
 have Sdw:=Jvh (P:=P) (w:=w) (base:=base) T
 refine T.Ja3.fn.ok Sz (λvs H Q E h=>?_) (λcdv A outer s H vs Q E hr h=>?_)
 ·obtain ⟨p,L,t,lss,rfl,_⟩:=h
  rfl
 ·obtain ⟨p,L,t,lss,rfl,st,ln,ok,ne,ht,k⟩:=h
  refine ⟨?t,?B,?C⟩
  case B=>
   refine' Jj9 ?O0 ?O1
   case O0=>exact (Jjl (i:=2) Sz.nd rfl (yf rfl) (Jjd T.Jx Sr hr (by decide) (So (pv 0) (So (Jjk Jjq (by rfl) T.Jav Jkh (So (pv 1) Ss)) Ss))))
   case O1=>
   refine' Jj9 ?O2 ?O3
   case O2=>exact (Jjl (i:=3) Sz.nd rfl (yf rfl) (Slp (Jkd Jtx (by rfl) T.Jaw Jrh (So (Jk5 Jjs (pv 1) (pv 2) (λ_ _=>rfl)) Ss)) (Jor (Jju (So Jjg Ss)))))
   case O3=>
   refine' Jj9 ?O4 ?O5
   case O4=>exact (Jjl (i:=4) Sz.nd rfl (yf rfl) (Jjd T.Jx Sr hr (by decide) (So (pv 0) (So (Jjk Jjq (by rfl) T.Jav Jkh (So (pv 3) Ss)) Ss))))
   case O5=>
   refine' Jj9 ?O6 ?O7
   case O6=>exact (Jjl (i:=5) Sz.nd rfl (yf rfl) (Jjd T.Jx Sr hr (by decide) (So (pv 0) (So Sy Ss))))
   case O7=>
   refine' Jj9 ?O8 ?O9
   case O8=>
    refine' Jjv ?Oa ?Ob ?Oc
    case Oa=>exact (Jjo Jop (pv 5) Sy (Jjp _))
    case Ob=>
     refine' Jjb ?Od
     case Od=>exact (Juo (Jjd T.Ja2 Sdw hr (by decide) (So (pv 0) (So (Jk5 Jjs (pv 3) (pv 4) (λ_ _=>rfl)) Ss))) (Jwj (pv 3) (pv 4) Jsb))
    case Oc=>
    refine' Jjb ?Oe
    case Oe=>
    refine' Jjv ?Of ?Og ?Oh
    case Of=>exact (Jjo Jkv (pv 5) Sy (Jjp _))
    case Og=>
     refine' Jjb ?Oi
     case Oi=>exact (Jjl (i:=3) Sz.nd rfl (yf rfl) (Jjn Jks (Jk2 Jka (pv 3) Jki (Jk4 (pv 4))) (Jk2 Jka (pv 3) (Jk4 (Jjn Jk8 (pv 4) Sy)) Jki)))
    case Oh=>
    refine' Jjb ?Oj
    case Oj=>
    refine' Jjv ?Ok ?Ol ?Om
    case Ok=>exact (Jjo Jkv (pv 5) Sy (Jjp _))
    case Ol=>
     refine' Jjb ?On
     case On=>exact (Jjl (i:=3) Sz.nd rfl (yf rfl) (Jjn Jks (Jjn Jks (Jk2 Jka (pv 3) Jki (Jk4 (pv 4))) (Jju (So (Jjd T.Ja2 Sdw hr (by decide) (So (pv 0) (So (Jk5 Jjs (pv 3) (pv 4) (λ_ _=>rfl)) Ss))) Ss))) (Jk2 Jka (pv 3) (Jk4 (pv 4)) Jki)))
    case Om=>
    refine' Jjb ?Oo
    case Oo=>
    refine' Jjv ?Op ?Oq ?Or
    case Op=>exact (Jjo Jkv (pv 5) Sy (Jjp _))
    case Oq=>
     refine' Jjb ?Os
     case Os=>exact (Jjl (i:=3) Sz.nd rfl (yf rfl) (Jjn Jks (Jk2 Jka (pv 3) Jki (Jk4 (Jjn Jk8 (pv 4) Sy))) (Jk2 Jka (pv 3) (Jk4 (pv 4)) Jki)))
    case Or=>
    refine' Jj9 ?Ot ?Ou
    case Ot=>exact (Jjl (i:=6) Sz.nd rfl (yf rfl) (Jjn Jks (Jk2 Jka (pv 3) Jki (Jk4 (pv 4))) (Jk2 Jka (pv 3) (Jk4 (Jjn Jk8 (pv 4) Sy)) (Jk4 (Jjn Jk8 (pv 4) Sy)))))
    case Ou=>
    refine' Jjb ?Ov
    case Ov=>exact (Jjl (i:=3) Sz.nd rfl (yf rfl) (Jjn Jks (Jjn Jks (pv 6) (Jk2 Jka (pv 3) (Jk4 (pv 4)) (Jk4 (Jjn Jk8 (pv 4) Sy)))) (Jk2 Jka (pv 3) (Jk4 (Jjn Jk8 (pv 4) Sy)) Jki)))
   case O9=>
   refine' Jjb ?Ow
   case Ow=>exact (Jji (Jjn Jks (Jjn Jks (Jk2 Jka (pv 1) Jki (Jk4 (pv 2))) (Jju (So (pv 3) Ss))) (Jk2 Jka (pv 1) (Jk4 (Jjn Jk8 (pv 2) Sy)) Jki)))
  obtain ⟨nL,ts,hL,pr⟩:=id ln
  have lt:=Paired.length pr
  have l0:0 < lss.length:=by
   rcases ybv lss.length with h|h
   ·exact absurd (ybi h) ne
   ·exact h
  have l25:=ok.len
  refine ⟨_,rfl,_,rfl,L,_,rfl,.inl (Sx.of hL),p,_,rfl,st,by rw [ye];omega,by rw [ye];exact Jrz (by omega) (by omega),λr1 H1 r10 r11 b1=>?_⟩
  rw [ye] at r11
  obtain ⟨i,rfl⟩:=yas r10
  obtain ⟨x,hx⟩:∃x,ts[i]?=some x:=⟨_,yi (by omega)⟩
  obtain ⟨ws,hws,nx,hxs⟩:=Jml pr hx
  have lok:=ok.ok ws (yab hws)
  have hL1:=b1.1 _ _ nL hL
  dsimp only [Jnf]
  refine Jm9 (λσ H2=>∃(W:S5) (vs:List Str),σ= [some (.ref p),some (.ref L),some (.int i),some (.ref W),none,none,none]/\But p H H2/\W≠p/\H W=none/\H2 W=some (.lst (vs.map V.str))/\vs≠ []/\LOk t vs) (λR hR=>?_) ?_
  ·refine ⟨_,rfl,_,rfl,L,_,_,_,rfl,rfl,Sx.of hL1,Jl7 (by rw [yn,hx];rfl),x,_,rfl,.inl (Sx.of (b1.1 _ _ nx hxs)),λW hW=>?_⟩
   have nW:W≠p:=b1.2.ne hW
   have b2:=b1.same (Sn.upd (o:=.lst (ws.map V.str)) hW)
   refine ⟨_,.inl ⟨_,Sx.of Sv,rfl⟩,?_⟩
   cases hc:ws with
   |nil=>
    rw [hc] at b2
    refine Jjw ⟨(show 1<=Sa by decide),λV hV=>?_⟩
    exact hR _ _ ⟨V,[""],rfl,b2.same (Sn.upd hV),b2.2.ne hV,But.free st b2 hV,Sv,by simp,⟨λv hv=>by rw [yaf.mp hv];exact (Jla (n:=0) (by decide +kernel)).mono (by omega),by rw [Jkr];show ("" :Str).length+1+0<=_;rw [show ("" :Str).length=0 by decide +kernel];omega⟩⟩
   |cons v r=>
    rw [hc] at b2 lok
    exact Jkb (hR _ _ ⟨W,v::r,rfl,b2,nW,But.free st b1 hW,Sv,by simp,lok⟩)
  rintro σ2 H2 ⟨W,vs,rfl,b2,nW,W0,hW,vn,lv⟩
  have v0:0 < vs.length:=by
   rcases ybv vs.length with h|h
   ·exact absurd (ybi h) vn
   ·exact h
  have v60:vs.length<=100:=by
   have h1:∀l:List Str,l.length<=wl l:=by
    intro l
    induction l with
    |nil=>exact yak _
    |cons a b ih=>rw [Jkr,yad];omega
   have:=h1 vs
   have:=lv.len
   omega
  refine ⟨_,rfl,_,rfl,W,_,rfl,.inl (Sx.of hW),p,_,rfl,b2.2,by rw [ye];omega,by rw [ye];exact Jrz (by omega) (by omega),λr2 H3 r20 r21 b3=>?_⟩
  rw [ye] at r21
  obtain ⟨j,rfl⟩:=yas r20
  have hW3:=b3.1 _ _ nW hW
  obtain ⟨y,hy⟩:∃y,vs[j]?=some y:=⟨_,yi (by omega)⟩
  have ay:atI (vs.map V.str) (j:Int)=some (.str y):=Jl7 (by rw [yn,hy];rfl)
  have wy:=lv.wd y (yab hy)
  have e1:=Jxx vs j
  have e2:=Ybm vs j y hy
  have ly:=wy.len
  refine ⟨_,rfl,p,6,rfl,b3.2,by decide,by decide,λr3 H4 r30 r31 b4=>?_⟩
  have hW4:=b4.1 _ _ nW hW3
  have c4:=(b2.trans b3).trans b4
  dsimp only [Jnf]
  refine Jm9 (λσ H5=>∃(W':S5) (us:List Str) (o6:Option V),σ= [some (.ref p),some (.ref L),some (.int i),some (.ref W'),some (.int j),some (.int r3),o6]/\But p H H5/\W'≠p/\H5 W'=some (.lst (us.map V.str))/\LOk (t+1) us) (λR hR=>?_) ?_
  ·refine ⟨_,rfl,_,_,rfl,rfl,_,rfl,Jlx (λc=>?_) (λc=>?_)⟩
   ·refine ⟨_,rfl,_,rfl,_,rfl,W,_,_,_,rfl,rfl,Sx.of hW4,ay,p,y,t,rfl,c4.2,wy,by omega,λu H5 b5 wu=>?_⟩
    have hW5:=b5.1 _ _ nW hW4
    refine ⟨_,rfl,_,rfl,W,_,_,j,rfl,rfl,hW5,Yaa (by rw [ye];omega),hR _ _ ⟨W,vs.set j u,_,rfl,(c4.trans b5).updD W0 nW,nW,by rw [Sv,List.map_set],Jw7 lv ht (λv hv=>?_) ?_⟩⟩
    ·rcases List.mem_or_eq_of_mem_set hv with h|rfl
     ·exact .inl h
     ·exact .inr wu
    ·have lu:=wu.len
     rw [List.set_eq_take_append_cons_drop,if_pos (by omega),Jmu,Jkr]
     omega
   have fin:∀{W':S5} {us:List Str} {o6:Option V} {J:Hp},Sn H4 J->J W'=some (.lst (us.map V.str))->W'≠p->(∀v∈us,v∈vs\/Wd (10+t) v)->wl us<=wl vs+11+t->R [some (.ref p),some (.ref L),some (.int i),some (.ref W'),some (.int j),some (.int r3),o6] J:=λ{W' us o6 J} sJ hW' nW' h1 h2=>hR _ _ ⟨W',us,o6,rfl,c4.same sJ,nW',hW',Jw7 lv ht h1 h2⟩
   have small:∀{a b:List Str},a.length<=500->b.length<=500->(a.map V.str).length+(b.map V.str).length<=Sa:=λh1 h2=>by rw [ye,ye];exact Jjx _ (by omega)
   refine ⟨_,rfl,rfl,_,rfl,Jlx (λc2=>?_) (λc2=>?_)⟩
   ·refine ⟨_,rfl,_,rfl,_,rfl,W,_,rfl,Sx.of hW4,λq1 hq1=>?_⟩
    rw [Jxp]
    have u1:=Sn.upd (o:=.lst ((vs.take j).map V.str)) hq1
    refine ⟨_,rfl,_,rfl,_,_,rfl,rfl,_,rfl,W,_,rfl,Sx.of (u1 _ _ hW4),λq2 hq2=>?_⟩
    rw [show ((j:Int)+1)=((j+1:Nat):Int) from rfl,Jrn]
    have u2:=Sn.upd (o:=.lst ((vs.drop (j+1)).map V.str)) hq2
    refine ⟨q1,q2,_,_,rfl,rfl,u2 _ _ Sv,Sv,small (by rw [yk];omega) (by rw [yx];omega),λq3 hq3=>?_⟩
    rw [<-yr]
    refine fin ((u1.trans u2).trans (Sn.upd hq3)) Sv ((c4.same (u1.trans u2)).2.ne hq3) (λv hv=>.inl ?_) ?_
    ·rcases yy.mp hv with h|h
     ·exact yap h
     ·exact yav h
    ·rw [Jmu]
     omega
   refine ⟨_,rfl,rfl,_,rfl,Jlx (λc3=>?_) (λc3=>?_)⟩
   ·refine ⟨_,rfl,_,rfl,_,rfl,W,_,rfl,Sx.of hW4,λq1 hq1=>?_⟩
    rw [Jxp]
    have u1:=Sn.upd (o:=.lst ((vs.take j).map V.str)) hq1
    have n1:q1≠p:=c4.2.ne hq1
    have c5:=c4.same u1
    refine ⟨_,rfl,_,rfl,_,rfl,W,_,_,_,rfl,rfl,Sx.of (u1 _ _ hW4),ay,p,y,t,rfl,c5.2,wy,by omega,λu H5 b5 wu=>⟨(show 1<=Sa by decide),λq2 hq2=>?_⟩⟩
    have h15:=b5.1 _ _ n1 (Sv (H:=H4) (a:=q1) (o:=.lst ((vs.take j).map V.str)))
    have hW5:=b5.1 _ _ nW (u1 _ _ hW4)
    have c6:=c5.trans b5
    have u2:=Sn.upd (o:=.lst ([u].map V.str)) hq2
    refine ⟨q1,q2,_,_,rfl,rfl,u2 _ _ h15,Sv,small (b:=[u]) (by rw [yk];omega) (by simp),λq3 hq3=>?_⟩
    have u3:=u2.trans (Sn.upd (o:=.lst ((vs.take j).map V.str++ [u].map V.str)) hq3)
    have g3:(upd (upd H5 q2 (.lst ([u].map V.str))) q3 (.lst ((vs.take j).map V.str++ [u].map V.str))) q3=some (.lst ((vs.take j++ [u]).map V.str)):=by rw [Sv,yr]
    refine ⟨_,rfl,_,rfl,_,rfl,W,_,rfl,Sx.of (u3 _ _ hW5),λq4 hq4=>?_⟩
    rw [Jrn]
    have u4:=Sn.upd (o:=.lst ((vs.drop j).map V.str)) hq4
    refine ⟨q3,q4,_,_,rfl,rfl,u4 _ _ g3,Sv,small (by rw [yq,yk];simp;omega) (by rw [yx];omega),λq5 hq5=>?_⟩
    rw [<-yr]
    have u5:=(u3.trans u4).trans (Sn.upd (o:=.lst ((vs.take j++ [u]++vs.drop j).map V.str)) hq5)
    refine hR _ _ ⟨q5,vs.take j++ [u]++vs.drop j,_,rfl,c6.same u5,(c6.same (u3.trans u4)).2.ne hq5,Sv,Jw7 lv ht (λv hv=>?_) ?_⟩
    ·rcases yy.mp hv with h|h
     ·rcases yy.mp h with h|h
      ·exact .inl (yap h)
      ·rw [yaf.mp h];exact .inr wu
     ·exact .inl (yav h)
    ·have lu:=wu.len
     rw [Jmu,Jmu,Jkr]
     show _+(_+0)+_<=_
     omega
   refine ⟨_,rfl,rfl,_,rfl,Jlx (λc4'=>?_) (λc4'=>?_)⟩
   ·refine ⟨_,rfl,_,rfl,_,_,rfl,rfl,_,rfl,W,_,rfl,Sx.of hW4,λq1 hq1=>?_⟩
    rw [show ((j:Int)+1)=((j+1:Nat):Int) from rfl,Jxp]
    have u1:=Sn.upd (o:=.lst ((vs.take (j+1)).map V.str)) hq1
    refine ⟨_,rfl,_,rfl,_,rfl,W,_,rfl,Sx.of (u1 _ _ hW4),λq2 hq2=>?_⟩
    rw [Jrn]
    have u2:=Sn.upd (o:=.lst ((vs.drop j).map V.str)) hq2
    refine ⟨q1,q2,_,_,rfl,rfl,u2 _ _ Sv,Sv,small (by rw [yk];omega) (by rw [yx];omega),λq3 hq3=>?_⟩
    rw [<-yr]
    refine fin ((u1.trans u2).trans (Sn.upd hq3)) Sv ((c4.same (u1.trans u2)).2.ne hq3) (λv hv=>.inl ?_) ?_
    ·rcases yy.mp hv with h|h
     ·exact yap h
     ·exact yav h
    ·have e3:=Jxx vs (j+1)
     rw [Jmu]
     omega
   ·refine ⟨_,rfl,_,rfl,_,rfl,W,_,rfl,Sx.of hW4,λq1 hq1=>?_⟩
    rw [Jxp]
    have u1:=Sn.upd (o:=.lst ((vs.take j).map V.str)) hq1
    refine ⟨_,rfl,_,rfl,_,_,rfl,rfl,_,rfl,_,rfl,_,_,rfl,rfl,_,rfl,W,_,rfl,Sx.of (u1 _ _ hW4),λq2 hq2=>?_⟩
    rw [show ((j:Int)+1)=((j+1:Nat):Int) from rfl,show ((j:Int)+2)=((j+2:Nat):Int) from rfl,Sjy]
    have u2:=Sn.upd (o:=.lst (((vs.drop (j+1)).take (j+2 - (j+1))).map V.str)) hq2
    refine ⟨q1,q2,_,_,rfl,rfl,u2 _ _ Sv,Sv,small (by rw [yk];omega) (by rw [yk,yx];omega),λq3 hq3=>?_⟩
    rw [<-yr]
    have u3:=(u1.trans u2).trans (Sn.upd (o:=.lst ((vs.take j++(vs.drop (j+1)).take (j+2 - (j+1))).map V.str)) hq3)
    refine ⟨_,rfl,_,rfl,_,rfl,_,rfl,_,rfl,_,_,rfl,rfl,_,rfl,W,_,rfl,Sx.of (u3 _ _ hW4),λq4 hq4=>?_⟩
    rw [show ((j:Int)+1)=((j+1:Nat):Int) from rfl,Sjy]
    have u4:=Sn.upd (o:=.lst (((vs.drop j).take (j+1 - j)).map V.str)) hq4
    refine ⟨q3,q4,_,_,rfl,rfl,u4 _ _ Sv,Sv,small (by simp only [yq,yk,yx];omega) (by rw [yk,yx];omega),λq5 hq5=>?_⟩
    rw [<-yr]
    have u5:=(u3.trans u4).trans (Sn.upd (o:=.lst ((vs.take j++(vs.drop (j+1)).take (j+2 - (j+1))++(vs.drop j).take (j+1 - j)).map V.str)) hq5)
    refine ⟨_,rfl,_,rfl,_,_,rfl,rfl,_,rfl,W,_,rfl,Sx.of (u5 _ _ hW4),λq6 hq6=>?_⟩
    rw [show ((j:Int)+2)=((j+2:Nat):Int) from rfl,Jrn]
    have u6:=Sn.upd (o:=.lst ((vs.drop (j+2)).map V.str)) hq6
    refine ⟨q5,q6,_,_,rfl,rfl,u6 _ _ Sv,Sv,small (by simp only [yq,yk,yx];omega) (by rw [yx];omega),λq7 hq7=>?_⟩
    rw [<-yr]
    refine fin ((u5.trans u6).trans (Sn.upd hq7)) Sv ((c4.same (u5.trans u6)).2.ne hq7) (λv hv=>.inl ?_) ?_
    ·simp only [yy] at hv
     rcases hv with ((h|h)|h)|h
     ·exact yap h
     ·exact yav (yap h)
     ·exact yav (yap h)
     ·exact yav h
    ·have f1:=Jxx (vs.drop (j+1)) (j+2 - (j+1))
     have f2:=Jxx (vs.drop j) (j+1 - j)
     rw [List.drop_drop] at f1 f2
     rw [show j+1+(j+2 - (j+1))=j+2 by omega] at f1
     rw [show j+(j+1 - j)=j+1 by omega] at f2
     rw [Jmu,Jmu,Jmu]
     omega
  rintro σ5 H5 ⟨W',us,o6,rfl,b5,nW',hW',lu⟩
  have hL5:=b5.1 _ _ nL hL
  have pr5:=Paired.mapP pr λ_ _ q=>q.but b5
  have small:∀{a b:List S5},a.length<=500->b.length<=500->(a.map V.ref).length+(b.map V.ref).length<=Sa:=λh1 h2=>by rw [ye,ye];exact Jjx _ (by omega)
  refine ⟨_,rfl,_,rfl,_,rfl,L,_,rfl,Sx.of hL5,λq1 hq1=>?_⟩
  rw [Jvq]
  have u1:=Sn.upd (o:=.lst ((ts.take i).map V.ref)) hq1
  refine ⟨_,rfl,(show 1<=Sa by decide),λq2 hq2=>?_⟩
  have u2:=Sn.upd (o:=.lst ([W'].map V.ref)) hq2
  refine ⟨q1,q2,_,_,rfl,rfl,u2 _ _ Sv,Sv,small (b:=[W']) (by rw [yk];omega) (by simp),λq3 hq3=>?_⟩
  have u3:=(u1.trans u2).trans (Sn.upd (o:=.lst ((ts.take i).map V.ref++ [W'].map V.ref)) hq3)
  have g3:(upd (upd (upd H5 q1 (.lst ((ts.take i).map V.ref))) q2 (.lst ([W'].map V.ref))) q3 (.lst ((ts.take i).map V.ref++ [W'].map V.ref))) q3=some (.lst ((ts.take i++ [W']).map V.ref)):=by rw [Sv,yr]
  refine ⟨_,rfl,_,rfl,_,_,rfl,rfl,_,rfl,L,_,rfl,Sx.of (u3 _ _ hL5),λq4 hq4=>?_⟩
  rw [show ((i:Int)+1)=((i+1:Nat):Int) from rfl,Jqh]
  have u4:=Sn.upd (o:=.lst ((ts.drop (i+1)).map V.ref)) hq4
  refine ⟨q3,q4,_,_,rfl,rfl,u4 _ _ g3,Sv,small (by rw [yq,yk];simp;omega) (by rw [yx];omega),λq5 hq5=>?_⟩
  rw [<-yr]
  have u5:=(u3.trans u4).trans (Sn.upd (o:=.lst ((ts.take i++ [W']++ts.drop (i+1)).map V.ref)) hq5)
  have pr6:=Paired.mapP pr5 λ_ _ q=>q.same u5
  refine k q5 (lss.take i++ [us]++lss.drop (i+1)) _ (b5.same u5) ⟨(b5.same (u3.trans u4)).2.ne hq5,_,Sv,Jl5 (Jl5 (Jlp pr6 i) (.cons ⟨nW',u5 _ _ hW'⟩ .nil)) (Jlo pr6 (i+1))⟩ (ok.of (λm hm=>?_) ?_)
  ·rcases yy.mp hm with h|h
   ·rcases yy.mp h with h|h
    ·exact .inl (yap h)
    ·rw [yaf.mp h];exact .inr lu
   ·exact .inl (yav h)
  ·simp only [yq,yk,yx,yad,ybt]
   omega
theorem Sbn:Jjh ["_law_stream_here","_law_lines_here","_law_way","_law_at","_law_ahead"] ["_law_stream_here","_law_lines_here"] (Jje (top 70)):=⟨rfl,rfl,rfl,by decide +kernel,rfl,by decide +kernel,by decide +kernel⟩
theorem Jsp (T:Tx K mg a):Jjz P w K mg base CX0 4 a.Jhr a.Jhs ["_law_stream_here","_law_lines_here"] Sk0:=by
 have Sr:=Jlb (P:=P) (w:=w) (base:=base) T
 have Sdc:=Jpm (P:=P) (w:=w) (base:=base) T
 refine T.Ja4.fn.ok Sbn (λvs H Q E h=>?_) (λcdv A outer s H vs Q E hr h=>?_)
 ·obtain ⟨p,L,t,lss,rfl,_⟩:=h
  rfl
 ·obtain ⟨p,L,t,lss,rfl,st,ln,ok,ne,ht,k⟩:=h
  refine ⟨?t,?B,?C⟩
  case B=>
   refine' Jj9 ?O0 ?O1
   case O0=>exact (Jjl (i:=2) Sbn.nd rfl (yf rfl) (Jjd T.Jx Sr hr (by decide) (So (pv 0) (So Sy Ss))))
   case O1=>
   refine' Jj9 ?O2 ?O3
   case O2=>exact (Jjl (i:=3) Sbn.nd rfl (yf rfl) (Jjd T.Jx Sr hr (by decide) (So (pv 0) (So (Jjk Jjq (by rfl) T.Jav Jkh (So (pv 1) Ss)) Ss))))
   case O3=>
   refine' Jj9 ?O4 ?O5
   case O4=>
    refine' Jjv ?O6 ?O7 ?O8
    case O6=>exact (Jjo Jkv (pv 2) Sy (Jjp _))
    case O7=>
     refine' Jjb ?O9
     case O9=>exact (Jji (Jjn Jks (Jk2 Jka (pv 1) Jki (Jk4 (pv 3))) (Jk2 Jka (pv 1) (Jk4 (Jjn Jk8 (pv 3) Sy)) Jki)))
    case O8=>exact Jjm
   case O5=>
   refine' Jj9 ?Oa ?Ob
   case Oa=>
    refine' Jjv ?Oc ?Od ?Oe
    case Oc=>exact (Jjo Jkv (pv 2) Sy (Jjp _))
    case Od=>
     refine' Jjb ?Of
     case Of=>exact (Jji (Jjn Jks (Jk2 Jka (pv 1) Jki (Jk4 (Jjn Jk8 (pv 3) Sy))) (Jk2 Jka (pv 1) (Jk4 (pv 3)) Jki)))
    case Oe=>exact Jjm
   case Ob=>
   refine' Jj9 ?Og ?Oh
   case Og=>
    refine' Jjv ?Oi ?Oj ?Ok
    case Oi=>exact (Jjo Jkv (pv 2) Sy (Jjp _))
    case Oj=>
     refine' Jj9 ?Ol ?Om
     case Ol=>exact (Jjl (i:=4) Sbn.nd rfl (yf rfl) (Jjn Jks (Jk2 Jka (pv 1) Jki (Jk4 (pv 3))) (Jk2 Jka (pv 1) (Jk4 (Jjn Jk8 (pv 3) Sy)) (Jk4 (Jjn Jk8 (pv 3) Sy)))))
     case Om=>
     refine' Jjb ?On
     case On=>exact (Jji (Jjn Jks (Jjn Jks (pv 4) (Jk2 Jka (pv 1) (Jk4 (pv 3)) (Jk4 (Jjn Jk8 (pv 3) Sy)))) (Jk2 Jka (pv 1) (Jk4 (Jjn Jk8 (pv 3) Sy)) Jki)))
    case Ok=>exact Jjm
   case Oh=>
   refine' Jj9 ?Oo ?Op
   case Oo=>
    refine' Jjv ?Oq ?Or ?Os
    case Oq=>exact (Jjo Jkv (pv 2) Sy (Jjp _))
    case Or=>
     refine' Jjb ?Ot
     case Ot=>
     refine' Jji ?Ou
     case Ou=>exact (Jjn Jks (Jjn Jks (Jk2 Jka (pv 1) Jki (Jk4 (pv 3))) (Jju (So (Jju (So (Jk5 Jjs (Jju (pa4 Jjg Jjg Jjg Jjg)) (Jjd T.Jx Sr hr (by decide) (So (pv 0) (So Sy Ss))) (λ_ _=>rfl)) Ss)) Ss))) (Jk2 Jka (pv 1) (Jk4 (pv 3)) Jki))
    case Os=>exact Jjm
   case Op=>
   refine' Jj9 ?Ov ?Ow
   case Ov=>
    refine' Jjv ?Ox ?Oy ?Oz
    case Ox=>exact (Jjo Jkv (pv 2) Sy (Jjp _))
    case Oy=>
     refine' Jjb ?U0
     case U0=>exact (Jji (Jjn Jks (pv 1) (Jju (So (Jju (So Jjg Ss)) Ss))))
    case Oz=>exact Jjm
   case Ow=>
   refine' Jjb ?U1
   case U1=>exact (Jji (Jjd T.Ja3 Sdc hr (by decide) (So (pv 0) (So (pv 1) Ss))))
  obtain ⟨nL,ts,hL,pr⟩:=id ln
  have lt:=Paired.length pr
  have l0:0 < lss.length:=by
   rcases ybv lss.length with h|h
   ·exact absurd (ybi h) ne
   ·exact h
  have l25:=ok.len
  refine ⟨_,rfl,p,12,rfl,st,by decide,by decide,λr0 H0 r00 r01 b0=>?_⟩
  have hL0:=b0.1 _ _ nL hL
  refine ⟨_,rfl,_,rfl,L,_,rfl,.inl (Sx.of hL0),p,_,rfl,b0.2,by rw [ye];omega,by rw [ye];exact Jrz (by omega) (by omega),λr1 H1 r10 r11 b1'=>?_⟩
  rw [ye] at r11
  obtain ⟨i,rfl⟩:=yas r10
  have b1:=b0.trans b1'
  have hL1:=b1'.1 _ _ nL hL0
  have pr1:=Paired.mapP pr λ_ _ q=>q.but b1
  have small:∀{a b:List S5},a.length<=500->b.length<=500->(a.map V.ref).length+(b.map V.ref).length<=Sa:=λh1 h2=>by rw [ye,ye];exact Jjx _ (by omega)
  have fin:∀{q:S5} {us:List S5} {mss:List (List Str)} {J:Hp},But p H J->J q=some (.lst (us.map V.ref))->q≠p->Paired (Se6 p J) us mss->(∀m∈mss,m∈lss\/LOk (t+1) m)->mss.length<=lss.length+1->Q (.ref q) J:=λ{q us mss J} bJ hq nq pq h1 h2=>k q mss J bJ ⟨nq,us,hq,pq⟩ (ok.of h1 h2)
  refine ⟨_,rfl,rfl,_,rfl,Jlx (λc=>?_) (λc=>?_)⟩
  ·refine ⟨_,rfl,_,rfl,_,rfl,L,_,rfl,Sx.of hL1,λq1 hq1=>?_⟩
   rw [Jvq]
   have u1:=Sn.upd (o:=.lst ((ts.take i).map V.ref)) hq1
   refine ⟨_,rfl,_,rfl,_,_,rfl,rfl,_,rfl,L,_,rfl,Sx.of (u1 _ _ hL1),λq2 hq2=>?_⟩
   rw [show ((i:Int)+1)=((i+1:Nat):Int) from rfl,Jqh]
   have u2:=Sn.upd (o:=.lst ((ts.drop (i+1)).map V.ref)) hq2
   refine ⟨q1,q2,_,_,rfl,rfl,u2 _ _ Sv,Sv,small (by rw [yk];omega) (by rw [yx];omega),λq3 hq3=>?_⟩
   rw [<-yr]
   have u3:=(u1.trans u2).trans (Sn.upd (o:=.lst ((ts.take i++ts.drop (i+1)).map V.ref)) hq3)
   have pr6:=Paired.mapP pr1 λ_ _ q=>q.same u3
   refine fin (b1.same u3) Sv ((b1.same (u1.trans u2)).2.ne hq3) (Jl5 (Jlp pr6 i) (Jlo pr6 (i+1))) (λm hm=>.inl ?_) ?_
   ·rcases yy.mp hm with h|h
    ·exact yap h
    ·exact yav h
   ·simp only [yq,yk,yx]
    omega
  refine ⟨_,rfl,rfl,_,rfl,Jlx (λc=>?_) (λc=>?_)⟩
  ·refine ⟨_,rfl,_,rfl,_,_,rfl,rfl,_,rfl,L,_,rfl,Sx.of hL1,λq1 hq1=>?_⟩
   rw [show ((i:Int)+1)=((i+1:Nat):Int) from rfl,Jvq]
   have u1:=Sn.upd (o:=.lst ((ts.take (i+1)).map V.ref)) hq1
   refine ⟨_,rfl,_,rfl,_,rfl,L,_,rfl,Sx.of (u1 _ _ hL1),λq2 hq2=>?_⟩
   rw [Jqh]
   have u2:=Sn.upd (o:=.lst ((ts.drop i).map V.ref)) hq2
   refine ⟨q1,q2,_,_,rfl,rfl,u2 _ _ Sv,Sv,small (by rw [yk];omega) (by rw [yx];omega),λq3 hq3=>?_⟩
   rw [<-yr]
   have u3:=(u1.trans u2).trans (Sn.upd (o:=.lst ((ts.take (i+1)++ts.drop i).map V.ref)) hq3)
   have pr6:=Paired.mapP pr1 λ_ _ q=>q.same u3
   refine fin (b1.same u3) Sv ((b1.same (u1.trans u2)).2.ne hq3) (Jl5 (Jlp pr6 (i+1)) (Jlo pr6 i)) (λm hm=>.inl ?_) ?_
   ·rcases yy.mp hm with h|h
    ·exact yap h
    ·exact yav h
   ·simp only [yq,yk,yx]
    omega
  refine ⟨_,rfl,rfl,_,rfl,Jlx (λc=>?_) (λc=>?_)⟩
  ·refine ⟨_,rfl,_,rfl,_,rfl,L,_,rfl,Sx.of hL1,λq1 hq1=>?_⟩
   rw [Jvq]
   have u1:=Sn.upd (o:=.lst ((ts.take i).map V.ref)) hq1
   refine ⟨_,rfl,_,rfl,_,_,rfl,rfl,_,rfl,_,rfl,_,_,rfl,rfl,_,rfl,L,_,rfl,Sx.of (u1 _ _ hL1),λq2 hq2=>?_⟩
   rw [show ((i:Int)+1)=((i+1:Nat):Int) from rfl,show ((i:Int)+2)=((i+2:Nat):Int) from rfl,Sk1]
   have u2:=Sn.upd (o:=.lst (((ts.drop (i+1)).take (i+2 - (i+1))).map V.ref)) hq2
   refine ⟨q1,q2,_,_,rfl,rfl,u2 _ _ Sv,Sv,small (by rw [yk];omega) (by rw [yk,yx];omega),λq3 hq3=>?_⟩
   rw [<-yr]
   have u3:=(u1.trans u2).trans (Sn.upd (o:=.lst ((ts.take i++(ts.drop (i+1)).take (i+2 - (i+1))).map V.ref)) hq3)
   refine ⟨_,rfl,_,rfl,_,rfl,_,rfl,_,rfl,_,_,rfl,rfl,_,rfl,L,_,rfl,Sx.of (u3 _ _ hL1),λq4 hq4=>?_⟩
   rw [show ((i:Int)+1)=((i+1:Nat):Int) from rfl,Sk1]
   have u4:=Sn.upd (o:=.lst (((ts.drop i).take (i+1 - i)).map V.ref)) hq4
   refine ⟨q3,q4,_,_,rfl,rfl,u4 _ _ Sv,Sv,small (by simp only [yq,yk,yx];omega) (by rw [yk,yx];omega),λq5 hq5=>?_⟩
   rw [<-yr]
   have u5:=(u3.trans u4).trans (Sn.upd (o:=.lst ((ts.take i++(ts.drop (i+1)).take (i+2 - (i+1))++(ts.drop i).take (i+1 - i)).map V.ref)) hq5)
   refine ⟨_,rfl,_,rfl,_,_,rfl,rfl,_,rfl,L,_,rfl,Sx.of (u5 _ _ hL1),λq6 hq6=>?_⟩
   rw [show ((i:Int)+2)=((i+2:Nat):Int) from rfl,Jqh]
   have u6:=Sn.upd (o:=.lst ((ts.drop (i+2)).map V.ref)) hq6
   refine ⟨q5,q6,_,_,rfl,rfl,u6 _ _ Sv,Sv,small (by simp only [yq,yk,yx];omega) (by rw [yx];omega),λq7 hq7=>?_⟩
   rw [<-yr]
   have u7:=(u5.trans u6).trans (Sn.upd (o:=.lst ((ts.take i++(ts.drop (i+1)).take (i+2 - (i+1))++(ts.drop i).take (i+1 - i)++ts.drop (i+2)).map V.ref)) hq7)
   have pr6:=Paired.mapP pr1 λ_ _ q=>q.same u7
   refine fin (b1.same u7) Sv ((b1.same (u5.trans u6)).2.ne hq7) (Jl5 (Jl5 (Jl5 (Jlp pr6 i) (Jlp (Jlo pr6 (i+1)) (i+2 - (i+1)))) (Jlp (Jlo pr6 i) (i+1 - i))) (Jlo pr6 (i+2))) (λm hm=>.inl ?_) ?_
   ·simp only [yy] at hm
    rcases hm with ((h|h)|h)|h
    ·exact yap h
    ·exact yav (yap h)
    ·exact yav (yap h)
    ·exact yav h
   ·simp only [yq,yk,yx]
    omega
  refine ⟨_,rfl,rfl,_,rfl,Jlx (λc=>?_) (λc=>?_)⟩
  ·refine ⟨_,rfl,_,rfl,_,rfl,L,_,rfl,Sx.of hL1,λq1 hq1=>?_⟩
   rw [Jvq]
   have u1:=Sn.upd (o:=.lst ((ts.take i).map V.ref)) hq1
   have n1:q1≠p:=b1.2.ne hq1
   have c2:=b1.same u1
   refine ⟨(show 4<=Sa by decide),λl2 h2=>?_⟩
   have e2:=Sn.upd (o:=.lst ((["","x","basin","town a"]:List Str).map V.str)) h2
   have n2:=c2.2.ne h2
   refine ⟨_,rfl,p,4,rfl,(c2.same e2).2,by decide,by decide,λr2 H3 r20 r21 b3=>?_⟩
   obtain ⟨y,ay,my⟩:=Juu (zs:=["","x","basin","town a"]) ⟨r20,r21⟩
   have c3:=(c2.same e2).trans b3
   have f3:=(But.of c2.2 e2).trans b3
   refine ⟨l2,_,_,_,rfl,rfl,Sx.of (b3.1 _ _ n2 Sv),ay,?_⟩
   refine ⟨(show 1<=Sa by decide),λW hW=>⟨(show 1<=Sa by decide),λq2 hq2=>?_⟩⟩
   have nW:W≠p:=c3.2.ne hW
   have v1:=Sn.upd (o:=.lst ([y].map V.str)) hW
   have v2:=v1.trans (Sn.upd (o:=.lst ([W].map V.ref)) hq2)
   have g1:(upd (upd H3 W (.lst ([y].map V.str))) q2 (.lst ([W].map V.ref))) q1=some (.lst ((ts.take i).map V.ref)):=v2 _ _ (f3.1 _ _ n1 Sv)
   have hL3:=v2 _ _ (f3.1 _ _ nL (u1 _ _ hL1))
   refine ⟨q1,q2,_,_,rfl,rfl,g1,Sv,small (b:=[W]) (by rw [yk];omega) (by simp),λq3 hq3=>?_⟩
   have v3:=v2.trans (Sn.upd (o:=.lst ((ts.take i).map V.ref++ [W].map V.ref)) hq3)
   have g3:(upd (upd (upd H3 W (.lst ([y].map V.str))) q2 (.lst ([W].map V.ref))) q3 (.lst ((ts.take i).map V.ref++ [W].map V.ref))) q3=some (.lst ((ts.take i++ [W]).map V.ref)):=by rw [Sv,yr]
   refine ⟨_,rfl,_,rfl,_,rfl,L,_,rfl,Sx.of ((Sn.upd hq3) _ _ hL3),λq4 hq4=>?_⟩
   rw [Jqh]
   have u4:=Sn.upd (o:=.lst ((ts.drop i).map V.ref)) hq4
   refine ⟨q3,q4,_,_,rfl,rfl,u4 _ _ g3,Sv,small (by rw [yq,yk];simp;omega) (by rw [yx];omega),λq5 hq5=>?_⟩
   rw [<-yr]
   have v5:=(v3.trans u4).trans (Sn.upd (o:=.lst ((ts.take i++ [W]++ts.drop i).map V.ref)) hq5)
   have pr6:=Paired.mapP pr λ_ _ q=>(q.but c3).same v5
   have hW6:=((((Sn.upd hq2).trans (Sn.upd (o:=.lst ((ts.take i).map V.ref++ [W].map V.ref)) hq3)).trans u4).trans (Sn.upd (o:=.lst ((ts.take i++ [W]++ts.drop i).map V.ref)) hq5)) _ _ (Sv (H:=H3) (a:=W) (o:=.lst ([y].map V.str)))
   refine fin (c3.same v5) Sv ((c3.same (v3.trans u4)).2.ne hq5) (Jl5 (Jl5 (Jlp pr6 i) (.cons ⟨nW,hW6⟩ .nil)) (Jlo pr6 i)) (λm hm=>?_) ?_
   ·rcases yy.mp hm with h|h
    ·rcases yy.mp h with h|h
     ·exact .inl (yap h)
     ·rw [yaf.mp h]
      have wy:Wd 6 y:=by
       have a4:(["","x","basin","town a"]:List Str).all (λz=>decide (z.length<=6)&&z.cps.toList.all (λc=>decide (c < 128)))=true:=by decide +kernel
       exact Jla (yah.mp a4 y my)
      have ly:=wy.len
      refine .inr ⟨λv hv=>by rw [yaf.mp hv];exact wy.mono (by omega),?_⟩
      rw [Jkr]
      show _+0<=_
      omega
    ·exact .inl (yav h)
   ·simp only [yq,yk,yx,yad,ybt]
    omega
  refine ⟨_,rfl,rfl,_,rfl,Jlx (λc=>?_) (λc=>?_)⟩
  ·refine ⟨_,rfl,(show 1<=Sa by decide),λW hW=>⟨(show 1<=Sa by decide),λq2 hq2=>?_⟩⟩
   have nW:W≠p:=b1.2.ne hW
   have v1:=Sn.upd (o:=.lst (([""]:List Str).map V.str)) hW
   have v2:=v1.trans (Sn.upd (o:=.lst ([W].map V.ref)) hq2)
   refine ⟨L,q2,_,_,rfl,rfl,v2 _ _ hL1,Sv,small (b:=[W]) (by omega) (by simp),λq3 hq3=>?_⟩
   rw [show ts.map V.ref++ [V.ref W]=(ts++ [W]).map V.ref by rw [yr];rfl]
   have v3:=v2.trans (Sn.upd (o:=.lst ((ts++ [W]).map V.ref)) hq3)
   have pr6:=Paired.mapP pr1 λ_ _ q=>q.same v3
   have hW6:=((Sn.upd hq2).trans (Sn.upd (o:=.lst ((ts++ [W]).map V.ref)) hq3)) _ _ (Sv (H:=H1) (a:=W) (o:=.lst (([""]:List Str).map V.str)))
   refine fin (b1.same v3) Sv ((b1.same v2).2.ne hq3) (Jl5 pr6 (.cons ⟨nW,hW6⟩ .nil)) (λm hm=>?_) ?_
   ·rcases yy.mp hm with h|h
    ·exact .inl h
    ·rw [yaf.mp h]
     refine .inr ⟨λv hv=>by rw [yaf.mp hv];exact (Jla (n:=0) (by decide +kernel)).mono (by omega),?_⟩
     rw [Jkr,show ("" :Str).length=0 by decide +kernel]
     show _+0<=_
     omega
   ·rw [yq]
    exact yg _
  ·exact ⟨_,rfl,_,rfl,p,L,t,lss,rfl,b1.2,ln.but b1,ok,ne,ht,λL' lss' H' b' ln' ok'=>k L' lss' H' (b1.trans b') ln' ok'⟩
def TdV (H:Hp) (z:Str):Option (Nat×Nat)->V->Prop
 |none,v=>∃u,v= .ref u/\H u=some (.tup [.str "read",.str z])
 |some (i,e),v=>∃u t,v= .ref u/\H u=some (.tup [.str "wrong",.ref t])/\H t=some (.tup [.int i,.int e])
def Sm9 (K:Si) (a:Ad):Sp:=λvs H Q _=>∃x:V,vs= [x]/\Tbs a H/\
 ((∃t,TyX K H x t/\Sj K t (.type "str")=some false/\∀v H',Sn H H'->TdV H' "" (some (0,0)) v->Q v H')\/
  (∃z:Str,x= .str z/\Wd 1990 z/\∀r v H',Sn H H'->Res (Jmb z) r->TdV H' z r v->Q v H'))
theorem Slv {c g:Nat} {Bs:List BTd} {Ts:List Twn} {z:Str} (h:Jmb z=rws c g Bs Ts):rtx c g Bs Ts=z:=by
 unfold rtx
 rw [<-h]
 unfold Jmb
 rw [List.map_map]
 have e:(Txt.split z NLN).map (Txt.join SPC∘λr=>Txt.split r SPC)=Txt.split z NLN:=by
  have:∀r,(Txt.join SPC∘λr=>Txt.split r SPC) r=r:=λr=>by
   show Txt.join SPC (Txt.split r SPC)=r
   rw [Jng,Jr3]
   exact StrLaws.join_split ..
  exact (List.map_congr_left λr _=>this r).trans (List.map_id _)
 rw [e,Jng,Jpj]
 exact StrLaws.join_split ..
theorem Sb1:Jjh ["_law_text","_law_found","e"] ["_law_text"] (Jje (top 77)):=⟨rfl,rfl,rfl,by decide +kernel,rfl,by decide +kernel,by decide +kernel⟩
theorem Jvg (T:Tx K mg a) (B:Bmn mg base):Jjz P w K mg base CX0 12 a.Ji5 a.Ji6 ["_law_text"] (Sm9 K a):=by
 have Sfe:=Jsu (P:=P) (w:=w) T B
 have Sfg:=Jsw (P:=P) (w:=w) (base:=base) T
 refine T.Jab.fn.ok Sb1 (λvs H Q E h=>?_) (λcdv A outer s H vs Q E hr h=>?_)
 ·obtain ⟨x,rfl,_⟩:=h
  rfl
 ·obtain ⟨x,rfl,tb,h⟩:=h
  refine ⟨?t,?B,?C⟩
  case B=>
   refine' Jj9 ?O0 ?O1
   case O0=>exact (Jjl (i:=1) Sb1.nd rfl (yf rfl) Jm7)
   case O1=>
   refine' Jj9 ?O2 ?O3
   case O2=>exact (Sls ⟨rfl,rfl⟩ (λ_ _ hw=>(Jjb (Jjl (i:=1) Sb1.nd rfl (yf rfl) (Jkj (So Jjg (So (Jjd T.Jl Sfg hr (by decide) (So (Jku T.Ju Sfe hw hr (by decide) (So (pv 0) Ss)) Ss)) Ss)))))) (by exact Soy T.Jcm T.Jba Sb1.nd (i:=2) rfl rfl (λ_=>(Jj9 (Jjl (i:=1) Sb1.nd rfl (yf rfl) (Jkj (So Jjg (So (Jkj (So (Jrl (pv 2) (by rfl)) (So (Jrl (pv 2) (by rfl)) Ss))) Ss)))) (Jj9 (Jjv (PW.pt (Jot (Jkg (Jjk Jlw (by rfl) T.Jau Jk0 (So (Jrl (pv 2) (by rfl)) (So (Jlu (v:=.ty "bool") (by rfl) T.Jar Jtv rfl) Ss)))) (Jot (Jkg (Jjk Jlw (by rfl) T.Jau Jk0 (So (Jrl (pv 2) (by rfl)) (So (Jlu (v:=.ty "bool") (by rfl) T.Jar Jtv rfl) Ss)))) (Jnn (Jkf (Jkg (Jjk Jlw (by rfl) T.Jau Jk0 (So (pv 2) (So (Jk6 (by rfl) T.Jb3 (v:=.ref _) rfl) Ss))))))))) (Jjb (Jjl (i:=1) Sb1.nd rfl (yf rfl) Jm7)) Jjm) (Jjb (Jjv (Jkg (Jjk Jq0 (by rfl) T.Jau Jk0 (So (pv 2) (So (Jkj (So (Jk6 (by rfl) T.Jb5 (v:=.ref _) rfl) (So (Jk6 (by rfl) T.Jb9 (v:=.ref _) rfl) Ss))) Ss)))) (Jjb (Jjl (i:=1) Sb1.nd rfl (yf rfl) Jm7)) Jjm))))) Slq))
   case O3=>
   refine' Jjb ?O4
   case O4=>exact (Jji (pv 1))
  refine λpins=>⟨_,rfl,x,rfl,tb,?_⟩
  rcases h with ⟨t,ty,e1,k⟩|⟨z,rfl,wz,k⟩
  ·refine .inl ⟨t,ty,e1,λe H1 s1 n=>?_⟩
   obtain ⟨dx,x1,x2⟩:=n
   have ty:∀{H'},Sn H1 H'->TyX K H' (.ref e) (.ref a.Jir):=λs=>.exc (s _ _ x1) (s _ _ x2) T.Jcl
   refine ⟨e,_,true,rfl,rfl,T.Jei,Jkb ?_⟩
   refine ⟨_,rfl,e,_,_,_,dx,_,_,_,rfl,x1,x2,T.Jcl,T.Jdj,rfl,_,rfl,e,_,_,_,dx,_,_,_,rfl,x1,x2,T.Jcl,T.Jdk,rfl,(show 2<=Sa by decide),λt ht=>⟨(show 2<=Sa by decide),λu hu=>?_⟩⟩
   have u1:=Sn.upd (o:=.tup [.int ((0:Nat):Int),.int ((0:Nat):Int)]) ht
   have u2:=u1.trans (Sn.upd (o:=.tup [.str "wrong",.ref t]) hu)
   refine ⟨_,rfl,e,_,_,_,dx,_,_,_,rfl,u2 _ _ x1,u2 _ _ x2,T.Jcl,T.Jdj,rfl,_,_,_,.type "int",false,rfl,rfl,.of (.int _),rfl,_,rfl,Jjw ?_⟩
   refine ⟨_,rfl,e,_,_,_,dx,_,_,_,rfl,u2 _ _ x1,u2 _ _ x2,T.Jcl,T.Jdk,rfl,_,_,_,.type "int",false,rfl,rfl,.of (.int _),rfl,_,rfl,Jjw ?_⟩
   refine ⟨_,rfl,_,_,_,_,_,rfl,rfl,ty u2,T.Jek,_,rfl,Jjw ?_⟩
   refine ⟨_,rfl,(show 2<=Sa by decide),λtp etp=>?_⟩
   have u3:=u2.trans (Sn.upd (o:=.tup [.ref a.Jim,.ref a.Jiq]) etp)
   refine ⟨_,tp,_,_,_,false,rfl,Sv,rfl,ty u3,T.Jej,_,rfl,Jjw ?_⟩
   exact ⟨_,rfl,k _ _ (s1.trans u3) ⟨u,t,rfl,(Sn.upd etp) _ _ Sv,(Sn.upd etp) _ _ ((Sn.upd hu) _ _ Sv)⟩⟩
  ·refine .inr ⟨z,rfl,wz,λi j e H1 s1 n rs=>?_,λy c g Bs Ts H1 s1 rv rg ew rs=>?_⟩
   ·obtain ⟨dx,x1,x2⟩:=n
    have ty:∀{H'},Sn H1 H'->TyX K H' (.ref e) (.ref a.Jir):=λs=>.exc (s _ _ x1) (s _ _ x2) T.Jcl
    refine ⟨e,_,true,rfl,rfl,T.Jei,Jkb ?_⟩
    refine ⟨_,rfl,e,_,_,_,dx,_,_,_,rfl,x1,x2,T.Jcl,T.Jdj,rfl,_,rfl,e,_,_,_,dx,_,_,_,rfl,x1,x2,T.Jcl,T.Jdk,rfl,(show 2<=Sa by decide),λt ht=>⟨(show 2<=Sa by decide),λu hu=>?_⟩⟩
    have u1:=Sn.upd (o:=.tup [.int (i:Int),.int (j:Int)]) ht
    have u2:=u1.trans (Sn.upd (o:=.tup [.str "wrong",.ref t]) hu)
    refine ⟨_,rfl,e,_,_,_,dx,_,_,_,rfl,u2 _ _ x1,u2 _ _ x2,T.Jcl,T.Jdj,rfl,_,_,_,.type "int",false,rfl,rfl,.of (.int _),rfl,_,rfl,Jjw ?_⟩
    refine ⟨_,rfl,e,_,_,_,dx,_,_,_,rfl,u2 _ _ x1,u2 _ _ x2,T.Jcl,T.Jdk,rfl,_,_,_,.type "int",false,rfl,rfl,.of (.int _),rfl,_,rfl,Jjw ?_⟩
    refine ⟨_,rfl,_,_,_,_,_,rfl,rfl,ty u2,T.Jek,_,rfl,Jjw ?_⟩
    refine ⟨_,rfl,(show 2<=Sa by decide),λtp etp=>?_⟩
    have u3:=u2.trans (Sn.upd (o:=.tup [.ref a.Jim,.ref a.Jiq]) etp)
    refine ⟨_,tp,_,_,_,false,rfl,Sv,rfl,ty u3,T.Jej,_,rfl,Jjw ?_⟩
    exact ⟨_,rfl,k (some (i,j)) _ _ (s1.trans u3) rs ⟨u,t,rfl,(Sn.upd etp) _ _ Sv,(Sn.upd etp) _ _ ((Sn.upd hu) _ _ Sv)⟩⟩
   ·refine ⟨y,c,g,Bs,Ts,rfl,rv,rg,λH2 s2=>⟨(show 2<=Sa by decide),λu hu=>?_⟩⟩
    have e2:=Slv ew
    exact ⟨_,rfl,k none _ _ ((s1.trans s2).trans (Sn.upd hu)) rs ⟨u,rfl,by rw [Sv,e2]⟩⟩
theorem Yab {c:Nat}:∀ws:List Str,(Str.join ⟨#[c]⟩ ws).length<=wl ws:=by
 intro ws
 induction ws with
 |nil=>exact yak _
 |cons b ws ih=>
  cases ws with
  |nil=>
   rw [Jkr]
   show b.length<=_
   omega
  |cons d ws=>
   rw [<-Jlc,Jof,yq,yad,Jlc,Jlc,Jkr]
   omega
theorem Ju7 {t:Nat} {ws:List Str} (h:LOk t ws):Wd (44+13*t) (Txt.join SPC ws):=by
 rw [Jng,Jr3]
 refine ⟨yv (Yab ws) h.len,λx hx=>?_⟩
 rcases Jry ws hx with rfl|⟨w,hw,hx⟩
 ·decide
 ·exact (h.wd w hw).low x hx
theorem Ybi {t:Nat} {lss:List (List Str)} (h:Sdj t lss) (ht:t<=2):Wd 1990 (Txt.join NLN (lss.map (Txt.join SPC))):=by
 rw [Jng,Jpj]
 refine ⟨?_,λx hx=>?_⟩
 ·refine yv (Jv7 (m:=70) _ λw hw=>?_) ?_
  ·obtain ⟨ws,hws,rfl⟩:=yal.mp hw
   have:=(Ju7 (h.ok ws hws)).len
   omega
  ·rw [ye]
   have:=h.len
   omega
 ·rcases Jry _ hx with rfl|⟨w,hw,hx⟩
  ·decide
  ·obtain ⟨ws,hws,rfl⟩:=yal.mp hw
   exact (Ju7 (h.ok ws hws)).low x hx
theorem Smc {n:Nat} {z:Str} (h:Wd n z):PyData.strOk z=true:=by
 unfold PyData.strOk
 rw [Array.all_eq_true_iff_forall_mem]
 intro c hc
 have:=h.low c (Array.mem_toList_iff.mpr hc)
 exact decide_eq_true (by omega)
theorem Sl9 (z y:Str):PyData.eqv (.tuple [.str z,.str y]) (.tuple [.str z,.str y])=true:=by simp [PyData.eqv,PyData.eqvAll]
theorem Jto {z y:Str} (hz:PyData.strOk z=true) (hy:PyData.strOk y=true):SeqAt.shaped (.tuple [.str z,.str y])=true:=by simp [SeqAt.shaped,PyData.canLay0,PyData.canLayAll0,PyData.depth,PyData.depthAll,hz,hy]
theorem Ju1 (z:Str) (i j:Int):PyData.eqv (.tuple [.str z,.tuple [.int i,.int j]]) (.tuple [.str z,.tuple [.int i,.int j]])=true:=by simp [PyData.eqv,PyData.eqvAll]
theorem Jm4 {z:Str} (hz:PyData.strOk z=true) (i j:Int):SeqAt.shaped (.tuple [.str z,.tuple [.int i,.int j]])=true:=by simp [SeqAt.shaped,PyData.canLay0,PyData.canLayAll0,PyData.depth,PyData.depthAll,hz]
theorem Yt (ws:List Str):(ws.map (·.length)).sum+ws.length*1=wl ws:=by
 induction ws with
 |nil=>rfl
 |cons a b ih=>
  rw [Jkr,yaj,List.sum_cons,yad]
  omega
theorem Sdj.up {t:Nat} {lss:List (List Str)} (h:Sdj t lss):Sdj (t+1) lss:=h.of (λ_ hm=>.inl hm) (by omega)
theorem Sp3:Res (Jmb "") (some (0,0)):=by
 have e:Jmb "" =([[""]]:List (List Str)):=by decide +kernel
 rw [e]
 exact ⟨λj hj=>absurd hj (ybq _),.inr ⟨[""],rfl,λj hj=>absurd hj (ybq _),.inl ⟨by decide,by decide +kernel⟩⟩⟩
theorem Sp2:Res (Jmb "cloud 3 1") (some (1,0)):=by
 have e:Jmb "cloud 3 1" =([["cloud","3","1"]]:List (List Str)):=by decide +kernel
 rw [e]
 have g:∀j,j < 3->Jr4 [["cloud","3","1"]] 0 ["cloud","3","1"] j=true:=by decide +kernel
 refine ⟨λj hj=>?_,.inl ⟨rfl,rfl,by decide +kernel⟩⟩
 rw [show j=0 by omega]
 exact ⟨_,rfl,g,by decide +kernel⟩
def spLaw (K:Si) (a:Ad):Sp:=λvs H Q _=>∃(x:S5) (ns:List Int),vs= [.ref x]/\Sx K H x (ns.map V.int)/\ns.length<=63/\Tbs a H/\∀H',Q (.bl true) H'
theorem Scf:Jjh ["_law_script","_law_k","_law_stream_here","_law_lines_here","_law_turn","_law_text","_law_due","_law_thing"] ["_law_script"] (Jje (top 78)):=⟨rfl,rfl,rfl,by decide +kernel,rfl,by decide +kernel,by decide +kernel⟩
theorem ok_law (T:Tx K mg a) (B:Bmn mg base):Jjz P w K mg base CX0 13 a.a_law a.d_law ["_law_script"] (spLaw K a):=by
 have Sfw:=Jve (P:=P) (w:=w) (base:=base) T
 have Ser:=Jsq (P:=P) (w:=w) (base:=base) T
 have Sr:=Jlb (P:=P) (w:=w) (base:=base) T
 have Sf6:=Juc (P:=P) (w:=w) (base:=base) T
 have Seq:=Jsp (P:=P) (w:=w) (base:=base) T
 have Sf9:=Juf (P:=P) (w:=w) (base:=base) T
 have Sbo:=Jvg (P:=P) (w:=w) T B
 refine T.f_law.fn.ok Scf (λvs H Q E h=>?_) (λcdv A outer s H vs Q E hr h=>?_)
 ·obtain ⟨x,ns,rfl,_⟩:=h
  rfl
 ·obtain ⟨x,ns,rfl,hS,hl,tb,k⟩:=h
  have hu64:=Jp1 hr
  refine ⟨?t,?B,?C⟩
  case B=>
   refine' Jj9 ?O0 ?O1
   case O0=>
    refine' Jnm ?O2 ?O3 ?O4 ?O5 ?O6
    case O2=>exact PassesOwn.never
    case O3=>exact rfl
    case O4=>exact (Jn2 (by rfl) T.Jaz (So (Jjk (Jta rfl) (by rfl) T.Jax Jz3 (So Sy (So (Jjk (Jy2 rfl) (by rfl) T.Jay Sl4 (So Sy (So (Jjk Jjq (by rfl) T.Jav Jkh (So (pv 0) Ss)) Ss))) Ss))) Ss))
    case O5=>exact (Jk3 (i:=1) Scf.nd rfl (yf rfl))
    case O6=>
    refine' Jj9 ?O7 ?O8
    case O7=>exact (Jjl (i:=2) Scf.nd rfl (yf rfl) (Jjd T.Jw Ser hr (by decide) (So (Jjd T.Jv Sfw hr (by decide) (So (pv 0) (So (pv 1) Ss))) Ss)))
    case O8=>
    refine' Jj9 ?O9 ?Oa
    case O9=>exact (Jjl (i:=3) Scf.nd rfl (yf rfl) (Jjd T.Ja1 Sf6 hr (by decide) (So (pv 2) Ss)))
    case Oa=>
    refine' Jj9 ?Ob ?Oc
    case Ob=>
     refine' Jnm ?Od ?Oe ?Of ?Og ?Oh
     case Od=>exact PassesOwn.never
     case Oe=>exact rfl
     case Of=>exact (Jn2 (by rfl) T.Jaz (So (Jjd T.Jx Sr hr (by decide) (So (pv 2) (So Sy Ss))) Ss))
     case Og=>exact (Jk3 (i:=4) Scf.nd rfl (yf rfl))
     case Oh=>
     refine' Jjb ?Oi
     case Oi=>
     refine' Jjv ?Oj ?Ok ?Ol
     case Oj=>exact (Jjo (Jzz hu64) (pv 3) (Jju Ss) (Jjp _))
     case Ok=>
      refine' Jjb ?Om
      case Om=>exact (Jjl (i:=3) Scf.nd rfl (yf rfl) (Jjd T.Ja4 Seq hr (by decide) (So (pv 2) (So (pv 3) Ss))))
     case Ol=>exact Jjm
    case Oc=>
    refine' Jj9 ?On ?Oo
    case On=>exact (Jjl (i:=5) Scf.nd rfl (yf rfl) (Jll F.plainAttrs_str F.slot_str_join F.type_str_join Jp4 Jjg (So (Jkz (N:=(["_law_words"]:List Str)) (ini:=[none]) rfl (Jlm (pv 3)) (λ_ _ _ _ _=>(Jk3 (i:=0) (by decide +kernel:(["_law_words"]:List Str).Nodup) rfl (yf rfl))) (λ_ _ _ _ _=>Jl3) (λ_ _ _ _ _=>(Slo (K:=K) rfl F.plainAttrs_str F.slot_str_join F.type_str_join (Jzo (K:=K) rfl) Jjg (So (pv 0) Ss)))) Ss)))
    case Oo=>
    refine' Jj9 ?Op ?Oq
    case Op=>exact (Jjl (i:=6) Scf.nd rfl (yf rfl) (Jjd T.Jaa Sf9 hr (by decide) (So (pv 5) Ss)))
    case Oq=>
    refine' Jj9 ?Or ?Os
    case Or=>
     refine' Jjv ?Ot ?Ou ?Ov
     case Ot=>exact (PW.pt (Jot (PW.pt (Jmt (Jjo Sll (pv 6) Jm7 (Jjp _)) (Jlz (Jjo (Juk hu64) (Jjd T.Jab Sbo hr (by decide) (So (pv 5) Ss)) (Jkj (So Jjg (So (pv 5) Ss))) (Jjp _))))) (Jnn (PW.pt (Jmt (Jjo Jul (pv 6) Jm7 (Jjp _)) (Jlz (Jjo (Juk hu64) (Jjd T.Jab Sbo hr (by decide) (So (pv 5) Ss)) (Jkj (So Jjg (So (pv 6) Ss))) (Jjp _))))))))
     case Ou=>
      refine' Jjb ?Ow
      case Ow=>exact (Jji Jn6)
     case Ov=>exact Jjm
    case Os=>
    refine' Jj9 ?Ox ?Oy
    case Ox=>exact (Jjl (i:=7) Scf.nd rfl (yf rfl) (Jk5 Jjs (Jju (pa7 Jm7 Sy Jn6 (Jju (So (pv 5) Ss)) (Jkj (So (pv 5) Ss)) Y2 (Jjn Y0 Sy Sy))) (Jjd T.Jx Sr hr (by decide) (So (pv 2) (So Sy Ss))) (λ_ _=>rfl)))
    case Oy=>
    refine' Jjb ?Oz
    case Oz=>
    refine' Jjv ?U0 ?U1 ?U2
    case U0=>exact (Jjo (Juk hu64) (Jjd T.Jab Sbo hr (by decide) (So (pv 7) Ss)) (Jkj (So Jjg (So (Jkj (So Sy (So Sy Ss))) Ss))) (Jjp _))
    case U1=>
     refine' Jjb ?U3
     case U3=>exact (Jji Jn6)
    case U2=>exact Jjm
   case O1=>
   refine' Jjb ?U4
   case U4=>exact (Jji (Jr1 (Jkt (Jwf hu64) (Jjd T.Jab Sbo hr (by decide) (So Jjg Ss)) (Jkj (So Jjg (So (Jkj (So Sy (So Sy Ss))) Ss))) (Jjp _)) (Jor (Jkt (Jwf hu64) (Jjd T.Jab Sbo hr (by decide) (So Jjg Ss)) (Jkj (So Jjg (So (Jkj (So Sy (So Sy Ss))) Ss))) (Jjp _)))))
  refine ⟨_,rfl,x,_,rfl,.inl hS,_,_,rfl,_,_,rfl,_,rfl,?_,?_,?_⟩
  ·split <;> split <;> omega
  ·rw [ye]
   split <;> split <;> omega
  refine Jn1 (lo:=0) (λi σ H'=>(∃o1 o2 o3 o4 o5 o6 o7,σ= [some (.ref x),o1,o2,o3,o4,o5,o6,o7])/\Sn H H') ⟨⟨_,_,_,_,_,_,_,rfl⟩,Sn.refl _⟩ ?_ ?_
  ·rintro i σ H0 _ ⟨⟨o1,o2,o3,o4,o5,o6,o7,rfl⟩,s0⟩
   refine ⟨_,rfl,_,rfl,x,ns,0+i,by simp,s0.seq hS,λcl=>⟨cl,rfl,λp H1 hp s1 st=>?_⟩⟩
   have hp0:H p=none:=by
    cases hc:H p with
    |none=>rfl
    |some u=>rw [s0 _ _ hc] at hp;cases hp
   have done:∀{H':Hp},But p H1 H'->Sn H H':=λb c o z=>b.1 _ _ (Jjf z hp0) (s1 _ _ (s0 _ _ z))
   refine ⟨_,rfl,p,rfl,st,λL lss H2 b2 ln ok=>?_⟩
   dsimp only [Jnf]
   refine ⟨_,rfl,p,3,rfl,b2.2,by decide,by decide,λr H3 r0 r1 b3=>⟨r,rfl,by omega,by omega,?_⟩⟩
   refine Jn1 (lo:=0) (λt σ H'=>∃(L:S5) (lss:List (List Str)) (o4:Option V),σ= [some (.ref x),some (.int (0+(i:Int))),some (.ref p),some (.ref L),o4,o5,o6,o7]/\But p H1 H'/\Sct p H' L lss/\Sdj t lss) ⟨L,lss,_,rfl,b2.trans b3,ln.but b3,ok⟩ ?_ ?_
   ·rintro t σ H4 ht ⟨L,lss,o4,rfl,b4,ln,ok⟩
    obtain ⟨nL,ts,hL,pr⟩:=id ln
    have lt:=Paired.length pr
    refine ⟨_,rfl,(show 0<=Sa by decide),λe he=>?_⟩
    have u1:=Sn.upd (o:=.lst []) he
    refine ⟨L,e,_,rfl,rfl,Sx.of (u1 _ _ hL),Sx.of Sv,_,rfl,?_⟩
    have b5:=b4.same u1
    cases lss with
    |nil=>
     have e0:ts= []:=ybi lt
     subst e0
     exact Jjw ⟨L,[],_,rfl,b5,ln.same u1,ok.up⟩
    |cons m ms=>
     cases ts with
     |nil=>simp at lt
     |cons t0 ts0=>
      refine Jkb ⟨_,rfl,_,rfl,p,L,t,_,rfl,b5.2,ln.same u1,ok,by simp,by omega,λL' lss' H' b' ln' ok'=>⟨L',lss',_,rfl,b5.trans b',ln',ok'⟩⟩
   ·rintro σ H4 ⟨L,lss,o4,rfl,b4,ln,ok⟩
    have t2:r.toNat<=2:=by omega
    obtain ⟨nL,ts,hL,pr⟩:=id ln
    have lt:=Paired.length pr
    have l25:=ok.len
    have wz:=Ybi ok t2
    refine ⟨rfl,_,rfl,L,rfl,⟨_,Sx.of hL⟩,λD hD=>?_⟩
    refine Jmj ((lss.map (Txt.join SPC)).map V.str) hD (by simp;omega) (by simp;omega) hL ?_ ?_
    ·rintro j v y H' Q' hx hy sm kk
     rw [yn] at hx
     obtain ⟨t,ht,rfl⟩:=yat.mp hx
     obtain ⟨ws,hws,nt,hts⟩:=Jml pr ht
     rw [yn,yn,hws] at hy
     cases hy
     refine ⟨rfl,_,rfl,SPC,t,ws,rfl,rfl,Sx.of (sm _ _ hts),?_,kk _ (Sn.refl _)⟩
     have:=(ok.ok ws (yab hws)).len
     rw [show SPC.length=1 by decide +kernel,Yt]
     omega
    intro H5 s5 hD5
    have b5:=b4.same s5
    refine ⟨NLN,D,lss.map (Txt.join SPC),rfl,rfl,Sx.of hD5,?_,?_⟩
    ·have l:=Ys (m:=70) (lss.map (Txt.join SPC)) λw hw=>by
      obtain ⟨ws,hws,rfl⟩:=yal.mp hw
      have:=(Ju7 (ok.ok ws hws)).len
      omega
     rw [show NLN.length=1 by decide +kernel,Yt]
     rw [ye] at l
     omega
    generalize Txt.join NLN (lss.map (Txt.join SPC))=z at wz
    refine ⟨_,rfl,z,rfl,wz,λrs v H6 s6 hrs rt=>?_⟩
    have b6:=b5.same s6
    have oz:=Smc wz
    unfold Jnf
    dsimp only
    refine Jm9 (λσ H7=>σ= [some (.ref x),some (.int (0+(i:Int))),some (.ref p),some (.ref L),o4,some (.str z),some v,o7]/\But p H1 H7) (λR hR=>?_) ?_
    ·match rs,hrs,rt with
     |none,hrs,rt=>
      obtain rfl:v= .non:=rt
      refine ⟨_,rfl,rfl,_,rfl,Jw4 rfl ?_⟩
      refine ⟨_,rfl,.str z,rfl,tb.same (done b6),.inr ⟨z,rfl,wz,λr' v' H7 s7 hrs' td=>?_⟩⟩
      obtain rfl:=Jrm hrs hrs'
      obtain ⟨u,rfl,hu⟩:=td
      refine ⟨_,rfl,(show 2<=Sa by decide),λy hy=>?_⟩
      have u8:=Sn.upd (o:=.tup [.str "read",.str z]) hy
      refine ⟨_,_,.tup (SqT.of (u8 _ _ hu)) (.cons (.str _) (.cons (.str _) .nil)),.tup (SqT.of Sv) (.cons (.str _) (.cons (.str _) .nil)),Jto (by decide +kernel) oz,Jto (by decide +kernel) oz,_,rfl,?_⟩
      rw [if_pos rfl,Sl9]
      refine Jjw ⟨_,rfl,rfl,_,rfl,Jjw (Jjw ?_)⟩
      exact hR _ _ ⟨rfl,(b6.same s7).same u8⟩
     |some (i',j'),hrs,rt=>
      obtain ⟨t',rfl,ht'⟩:=rt
      refine ⟨_,rfl,rfl,_,rfl,Job (λe=>nomatch e) (Jjw ?_)⟩
      refine ⟨_,rfl,rfl,_,rfl,Jkb ?_⟩
      refine ⟨_,rfl,.str z,rfl,tb.same (done b6),.inr ⟨z,rfl,wz,λr' v' H7 s7 hrs' td=>?_⟩⟩
      obtain rfl:=Jrm hrs hrs'
      obtain ⟨u,t2',rfl,hu,ht2⟩:=td
      refine ⟨_,rfl,(show 2<=Sa by decide),λy hy=>?_⟩
      have u8:=Sn.upd (o:=.tup [.str "wrong",.ref t']) hy
      refine ⟨_,_,.tup (SqT.of (u8 _ _ hu)) (.cons (.str _) (.cons (.tup (SqT.of (u8 _ _ ht2)) (.cons (.int _) (.cons (.int _) .nil))) .nil)),.tup (SqT.of Sv) (.cons (.str _) (.cons (.tup (SqT.of (u8 _ _ (s7 _ _ ht'))) (.cons (.int _) (.cons (.int _) .nil))) .nil)),Jm4 (by decide +kernel) _ _,Jm4 (by decide +kernel) _ _,_,rfl,?_⟩
      rw [if_pos rfl,Ju1]
      exact Jjw (hR _ _ ⟨rfl,(b6.same s7).same u8⟩)
    rintro σ7 H7 ⟨rfl,b7⟩
    refine ⟨_,rfl,(show 1<=Sa by decide),λa1 h1=>?_⟩
    have w1:=Sn.upd (o:=.lst [.str z]) h1
    refine ⟨_,rfl,(show 1<=Sa by decide),λa2 h2=>?_⟩
    have w2:=Sn.upd (o:=.tup [.str z]) h2
    refine λa3 h3=>?_
    have w3:=Sn.upd (o:=.dK []) h3
    refine ⟨_,_,rfl,rfl,⟨by decide,by decide,by decide⟩,(show 7<=Sa by decide),λa4 h4=>?_⟩
    have b8:=b7.same ((w1.trans w2).trans w3)
    have n4:=b8.2.ne h4
    have w4:=Sn.upd (o:=.lst [.non,.int 5,.bl true,.ref a1,.ref a2,.ref a3,.int (10^(30:Int).toNat)]) h4
    have b9:=b8.same w4
    refine ⟨_,rfl,p,7,rfl,b9.2,by decide,by decide,λr7 H8 r70 r71 b10=>?_⟩
    obtain ⟨v7,m7,a7⟩:=Jz0 (xs:=[.non,.int 5,.bl true,.ref a1,.ref a2,.ref a3,.int (10^(30:Int).toNat)]) r70 r71
    refine ⟨a4,_,_,_,rfl,rfl,Sx.of (b10.1 _ _ n4 Sv),a7,?_⟩
    have b11:=b9.trans b10
    have tyv:∃t,TyX K H8 v7 t/\Sj K t (.type "str")=some false:=by
     have q1:H8 a1=some (.lst [.str z]):=b10.1 _ _ (b7.2.ne h1) (w4 _ _ (w3 _ _ (w2 _ _ Sv)))
     have q2:H8 a2=some (.tup [.str z]):=b10.1 _ _ ((b7.same w1).2.ne h2) (w4 _ _ (w3 _ _ Sv))
     have q3:H8 a3=some (.dK []):=b10.1 _ _ ((b7.same (w1.trans w2)).2.ne h3) (w4 _ _ Sv)
     simp only [yo,yae,or_false] at m7
     rcases m7 with rfl|rfl|rfl|rfl|rfl|rfl|rfl
     ·exact ⟨_,.of .non,rfl⟩
     ·exact ⟨_,.of (.int _),rfl⟩
     ·exact ⟨_,.of (.bl _),rfl⟩
     ·exact ⟨_,.of (.lst q1),rfl⟩
     ·exact ⟨_,.of (.tup q2),rfl⟩
     ·exact ⟨_,.of (.dK q3),rfl⟩
     ·exact ⟨_,.of (.int _),rfl⟩
    obtain ⟨tt,ty,ets⟩:=tyv
    refine ⟨_,rfl,v7,rfl,tb.same (done b11),.inl ⟨tt,ty,ets,λv' H9 s9 td=>?_⟩⟩
    obtain ⟨u,t',rfl,hu,ht'⟩:=td
    refine ⟨(show 2<=Sa by decide),λy1 hy1=>⟨(show 2<=Sa by decide),λy2 hy2=>?_⟩⟩
    have v1:=Sn.upd (o:=.tup [.int 0,.int 0]) hy1
    have v2:=Sn.upd (o:=.tup [.str "wrong",.ref y1]) hy2
    have v3:=v1.trans v2
    refine ⟨_,_,.tup (SqT.of (v3 _ _ hu)) (.cons (.str _) (.cons (.tup (SqT.of (v3 _ _ ht')) (.cons (.int _) (.cons (.int _) .nil))) .nil)),.tup (SqT.of Sv) (.cons (.str _) (.cons (.tup (SqT.of (v2 _ _ Sv)) (.cons (.int _) (.cons (.int _) .nil))) .nil)),Jm4 (by decide +kernel) _ _,Jm4 (by decide +kernel) _ _,_,rfl,?_⟩
    rw [if_pos rfl,show ((0:Nat):Int)=0 from rfl,Ju1]
    exact Jjw ⟨⟨_,_,_,_,_,_,_,rfl⟩,(done b11).trans (s9.trans v3)⟩
  ·rintro σ H' ⟨⟨o1,o2,o3,o4,o5,o6,o7,rfl⟩,s0⟩
   refine ⟨.str "",rfl,tb.same s0,.inr ⟨"",rfl,(Jla (n:=0) (by decide +kernel)).mono (by decide),λr v H1 s1 hrs td=>?_⟩⟩
   obtain rfl:=Jrm Sp3 hrs
   obtain ⟨u,t',rfl,hu,ht'⟩:=td
   refine ⟨(show 2<=Sa by decide),λy1 hy1=>⟨(show 2<=Sa by decide),λy2 hy2=>?_⟩⟩
   have v1:=Sn.upd (o:=.tup [.int 0,.int 0]) hy1
   have v2:=Sn.upd (o:=.tup [.str "wrong",.ref y1]) hy2
   have v3:=v1.trans v2
   refine ⟨_,_,.tup (SqT.of (v3 _ _ hu)) (.cons (.str _) (.cons (.tup (SqT.of (v3 _ _ ht')) (.cons (.int _) (.cons (.int _) .nil))) .nil)),.tup (SqT.of Sv) (.cons (.str _) (.cons (.tup (SqT.of (v2 _ _ Sv)) (.cons (.int _) (.cons (.int _) .nil))) .nil)),Jm4 (by decide +kernel) _ _,Jm4 (by decide +kernel) _ _,?_⟩
   rw [if_neg yw,show ((0:Nat):Int)=0 from rfl,Ju1]
   refine ⟨_,rfl,Jkb ?_⟩
   have s4:=(s0.trans s1).trans v3
   refine ⟨.str "cloud 3 1",rfl,tb.same s4,.inr ⟨"cloud 3 1",rfl,(Jla (n:=9) (by decide +kernel)).mono (by decide),λr v H5 s5 hrs' td=>?_⟩⟩
   obtain rfl:=Jrm Sp2 hrs'
   obtain ⟨u,t',rfl,hu,ht'⟩:=td
   refine ⟨(show 2<=Sa by decide),λy1 hy1=>⟨(show 2<=Sa by decide),λy2 hy2=>?_⟩⟩
   have v1:=Sn.upd (o:=.tup [.int 1,.int 0]) hy1
   have v2:=Sn.upd (o:=.tup [.str "wrong",.ref y1]) hy2
   have v3:=v1.trans v2
   refine ⟨_,_,.tup (SqT.of (v3 _ _ hu)) (.cons (.str _) (.cons (.tup (SqT.of (v3 _ _ ht')) (.cons (.int _) (.cons (.int _) .nil))) .nil)),.tup (SqT.of Sv) (.cons (.str _) (.cons (.tup (SqT.of (v2 _ _ Sv)) (.cons (.int _) (.cons (.int _) .nil))) .nil)),Jm4 (by decide +kernel) _ _,Jm4 (by decide +kernel) _ _,?_⟩
   rw [if_neg yw,show ((0:Nat):Int)=0 from rfl,show ((1:Nat):Int)=1 from rfl,Ju1]
   exact k _
end
end K07
namespace PySem.W.Fast
def tw14768360268035636597:=()
def tw201652181032158608:=()
def tw10397928464812334445:=()
def tw9857901562883719866:=()
def tw16816855656421297207:=()
def tw6229911838944543613:=()
def tw16947821183820062681:=()
def tw6634398527954362113:=()
def tw2109798836359299035:=()
def tw2832132081594061409:=()
def tw12239642329166476139:=()
def tw14681070797793066879:=()
def tw8908776573054015029:=()
def tw13151792825859279298:=()
def tw5555404783852039805:=()
def tw14707927706489392489:=()
def tw7193150249879665500:=()
def tw15522376976955856086:=()
def tw5416714174324456479:=()
def tw12417202527239242723:=()
def tw13240241232407501536:=()
def tw1455152806814221067:=()
def tw16337005840027523698:=()
def tw7687238105904563765:=()
def tw17839288716884677893:=()
def tw17884815515630896661:=()
def tw9735264691847063893:=()
def tw2062106518820507032:=()
def tw11423488275651996018:=()
def tw11703536943321034962:=()
def tw13377948321357820444:=()
def tw15569196976668465027:=()
def tw1331252774796436375:=()
def tw2801377997100603629:=()
def tw14326961128282627542:=()
def tw6061181099683038738:=()
def tw8205892269704992623:=()
def tw16323030276940505634:=()
def tw16975420065288395017:=()
def tw11871160425074135536:=()
def tw4765852808279400437:=()
def tw283639405893569897:=()
def tw9372171839062342150:=()
def tw18236681859734321268:=()
def tw14910392801979959423:=()
def tw10806028283733083013:=()
def tw4659762685927415494:=()
def tw7141735635756992861:=()
def tw3485827339209875665:=()
def tw13437949505596698957:=()
def tw11357589846214807978:=()
def tw677374358453942213:=()
def tw1011507505629594103:=()
def tw951636922970967223:=()
def tw14596789875115831410:=()
def tw14681950410394966375:=()
def tw125493534261961962:=()
def tw11599220149762249803:=()
def tw8178080714353723053:=()
def tw4424996221320892574:=()
def tw251472886083819495:=()
def tw8827628352484508196:=()
def tw1151549058572090734:=()
def tw3562973655635726255:=()
def tw15982494998412329065:=()
def tw9361584457896875068:=()
def tw6262464363212027534:=()
def tw2343277234386390700:=()
def tw857777059959081043:=()
def tw1470489862723806904:=()
def tw5982620684454776672:=()
def tw17603246502407887435:=()
def tw17236809607158485536:=()
def tw15084776401598981546:=()
def tw1930449104117957123:=()
def tw11556275334954679189:=()
def tw2753261612379139295:=()
def tw1611750920835460318:=()
def tw3014981565385645455:=()
def tw5767030559993827605:=()
def tw10139985474727742299:=()
def tw4252421146185846693:=()
def tw11926084777816099361:=()
def tw8972537883878421417:=()
def tw10970865731397510240:=()
def tw4918439830447700655:=()
def tw14711256345760731377:=()
def tw4504486933106341211:=()
def tw14080981315889336226:=()
def tw2272616669498415915:=()
def tw16121456420517443353:=()
def tw9123627364149356688:=()
def tw4965191961614530023:=()
def tw12916006824202209965:=()
def tw1853591681856517577:=()
def tw11726802012664244501:=()
def tw16109971776683178734:=()
def tw12474265986557952491:=()
def tw10520220157476674755:=()
def tw12260994627797548775:=()
def tw3716362420089081489:=()
def tw11451670320226427128:=()
def tw9518499281328836349:=()
def tw6862890199222312744:=()
def tw16046231596538347751:=()
def tw7990669621806317121:=()
def tw16066878713650476807:=()
def tw17014585034430232618:=()
def tw11927319117583912329:=()
def tw7411009817996944619:=()
def tw11589963342290515604:=()
def tw11115489030450266170:=()
def tw1396865906099146991:=()
def tw6736474311154992637:=()
def tw2431311453860951883:=()
def tw8071054992157060796:=()
def tw1457214471377092308:=()
def tw1518670938310872572:=()
def tw8906503943318729522:=()
def tw3575302130156492899:=()
def tw7837028879085474718:=()
def tw9120101207845085934:=()
def tw3890952575803053075:=()
def tw5668929686354549153:=()
def tw7105500662632488891:=()
def tw681240207770679503:=()
def tw13497213816263737221:=()
def tw14307871813136398069:=()
def tw8257710219564827690:=()
def tw658308031684785064:=()
def tw15216445727160557131:=()
def tw101977875238627084:=()
def tw11521836391081139410:=()
def tw11276729717564527586:=()
def tw16798782290605812643:=()
def tw7654222815847400820:=()
def tw125713428093604782:=()
def tw6009469569083073558:=()
def tw10080377625996740323:=()
def tw12381933970323553125:=()
def tw8599324914530009873:=()
def tw2540388936935398235:=()
def tw16999532137543145715:=()
def tw16397976940726285800:=()
def tw1852879566555188346:=()
def tw11486458922730413022:=()
def tw10901282559196423044:=()
def tw4320738358514241829:=()
def tw6287108787874739576:=()
def tw12207434810907826219:=()
def tw10094503501665488213:=()
def tw12157435290781622696:=()
def tw12820135565330877313:=()
def tw9442464195943986875:=()
def tw3235464240778406398:=()
def tw9905147472391778166:=()
def tw6693029942086242293:=()
def tw5838865938452841907:=()
def tw4927489466989916846:=()
def tw275466519894377313:=()
def tw15028273347417690731:=()
def tw18298759367634258917:=()
def tw10318749637785268842:=()
def tw2784957263696651909:=()
def tw16131920171762875045:=()
def tw6067910638733171943:=()
def tw6941132615355106561:=()
def tw12812350860654790891:=()
def tw14433767758614911189:=()
def tw7438974175972841:=()
def tw5926377814326131495:=()
def tw17061702474766859367:=()
def tw12610945813957838507:=()
def tw16599493958685375270:=()
def tw18194741825191669048:=()
def tw5092800239046420330:=()
def tw10051506165700923102:=()
def tw4349114286584394406:=()
def tw4871498660851457568:=()
def tw4318042399627597024:=()
def tw10566852646924316118:=()
def tw16801245743697744254:=()
def tw6161665908651629116:=()
def tw2204284434759504437:=()
def tw2565910759435588404:=()
def tw16809323418111595569:=()
def tw4742440953678773760:=()
def tw12992195352353980904:=()
def tw2150652016429059340:=()
def tw2568597379739128460:=()
def tw16629672633422351366:=()
def tw10434131599631029464:=()
def tw5423896422579180035:=()
def tw8044954917946562713:=()
def tw5692669201376583724:=()
def tw10487225383612513202:=()
def tw5529421783902292771:=()
def tw12271961593412109951:=()
def tw10768545844248023799:=()
def tw394719746559988965:=()
def tw15115146584279811214:=()
def tw15222322873883568672:=()
def tw12333684611918940510:=()
def tw14146401411474736377:=()
def tw7275987979970244704:=()
def tw12955124938354220239:=()
def tw15626556657194883572:=()
def tw5061813959284744160:=()
def tw15005782381786678580:=()
def tw8210188644256465118:=()
def tw7619324435978040454:=()
def tw15925417562829591421:=()
def tw6055428863560272056:=()
def tw3454530641128321773:=()
def tw12963529102626117634:=()
def tw10706401629838938190:=()
def tw9776299293439449288:=()
def tw2300112898030520397:=()
def tw18248270274380433858:=()
def tw3159139745406935683:=()
def tw6040715684094829266:=()
def tw2186857429568774549:=()
def tw6514726685135104445:=()
def tw304829669471032905:=()
def tw7013135032700397431:=()
def tw13100511309656324630:=()
def tw6475642649914668021:=()
def tw7094194256885049007:=()
def tw14418890853672894852:=()
def tw1929919330330216216:=()
def tw5697402934815493434:=()
def tw6551838478858427297:=()
def tw2166608210474352426:=()
def tw5930834210548037462:=()
def tw3345669219770591632:=()
def tw12515279137087882291:=()
def tw3804799017613639690:=()
def tw10533626587625509839:=()
def tw9434992847317117440:=()
def tw1912001599012248105:=()
def tw6972993351624700381:=()
def tw17487047279310354185:=()
def tw17366585967359405707:=()
def tw2198014683157916611:=()
def tw16501991903636083871:=()
def tw2975573327624109397:=()
def tw4102250053663773309:=()
def tw14015510708090591308:=()
def tw145326045753970376:=()
def tw6038634687922024437:=()
def tw17604993630922560653:=()
def tw281497046391009648:=()
def tw7809540031345925080:=()
def tw1249547855032092312:=()
def tw17110554974980034775:=()
def tw2014121175379454529:=()
def tw7957130785088486027:=()
def tw12395003965025806784:=()
def tw6066126366453995602:=()
def tw5306843557570507630:=()
def tw16851801124464247852:=()
def tw8794681478786415123:=()
def tw6604432094185650366:=()
def tw8193618763224459095:=()
def tw7548736524244926106:=()
def tw7982586816204977069:=()
def tw5570121524851174016:=()
def tw837474134761043392:=()
def tw15562297148864856974:=()
def tw6652918964776740845:=()
def tw10606282735789473465:=()
def tw10026083547754271688:=()
def tw3796388075789751791:=()
def tw16379312055538523084:=()
def tw17192214278839211024:=()
def tw12859179099986100306:=()
def tw2283090410355906807:=()
def tw15690278355384013817:=()
def tw17378100726577663916:=()
def tw17403369505482984342:=()
def tw15256269321334834503:=()
def tw17605855255076170911:=()
def tw9516299304619983104:=()
def tw226172196670449154:=()
def tw11404504696251307625:=()
def tw4538367501462855029:=()
def tw5100626003510630276:=()
def tw15658769172864231683:=()
def tw16039782436101687391:=()
def tw4523003514962945632:=()
def tw3787587333127452065:=()
def tw17130982795267960386:=()
def tw6980609638385940745:=()
def tw11634676050871875786:=()
def tw4039783519022389622:=()
def tw2094755535063037089:=()
def tw253305394292880491:=()
def tw12806630146222309740:=()
def tw11302091383227164880:=()
def tw10432576598086020836:=()
def tw1140582098099780614:=()
def tw13167988025597853900:=()
def tw637865400620454811:=()
def tw1268494926348870882:=()
def tw13013238477510404576:=()
def tw16168523250255042016:=()
def tw5886879983748642469:=()
def tw11894634865324660972:=()
def tw12053420821525335729:=()
def tw4744162427050203478:=()
def tw15728862067544974991:=()
def tw15679783768601743624:=()
def tw5580542200511604569:=()
def tw12433178127564113705:=()
def tw3184954942410253132:=()
def tw2919029348125841775:=()
def tw7714369660103489959:=()
def tw15843381752200811313:=()
def tw11917341292868007865:=()
def tw16185550337459697728:=()
def tw1491754596675850746:=()
def tw14513168347318650877:=()
def tw108481606658410217:=()
def tw14744113005881454212:=()
def tw6786192860725460592:=()
def tw16390999169141475836:=()
def tw14345456907443957061:=()
def tw16422455526969133990:=()
def tw18322909610066979551:=()
def tw11922740968656534044:=()
def tw11992852671405869341:=()
def tw5671762864262799793:=()
def tw15911940594848449895:=()
def tw8122627409413398437:=()
def tw3934194398000393518:=()
def tw4093751604955266352:=()
def tw1281002987802995919:=()
def tw2651494253612176701:=()
def tw3503120212897362085:=()
def tw17717696081440398963:=()
def tw15792922018280330907:=()
def tw4016324819126796499:=()
def tw10650055584801317691:=()
def tw17311097799176721783:=()
def tw12443552128847050414:=()
def tw3549461277282681710:=()
def tw6033222063931192623:=()
def tw15166081963849254151:=()
def tw8688063083888385909:=()
def tw17025579745922950139:=()
def tw10811568220891408610:=()
def tw8396785167610394699:=()
def tw11351479329577719401:=()
def tw17947315190670557678:=()
def tw5104937740064752200:=()
def tw5953855258864533721:=()
def tw10118677134621886165:=()
def tw9992828683745958206:=()
def tw8624821111115559878:=()
def tw1621105004384275109:=()
def tw10686039334901041278:=()
def tw10888484864806738011:=()
def tw18198112053597514797:=()
def tw10441886334466839326:=()
def tw8721813808618926321:=()
def tw10948776386374124807:=()
def tw641799068135428648:=()
def tw6734658340177021396:=()
def tw14927186355106208054:=()
def tw11480235973671796536:=()
def tw6290316388353970184:=()
def tw13058330681276577350:=()
def tw5587113673007145634:=()
def tw12761915918378076766:=()
def tw4625951282635791209:=()
def tw7803706018654556555:=()
def tw14500147123849531485:=()
def tw8797451721529518128:=()
def tw11917233272548642673:=()
def tw4269542974237361295:=()
def tw609096651270360473:=()
def tw5245969658187436961:=()
def tw16417087375904135781:=()
def tw11359002069378171912:=()
def tw3618212730170391879:=()
def tw14069526651871007874:=()
def tw2853602971890165210:=()
def tw16731197765855248153:=()
def tw10245326719918964776:=()
def tw16560495148210682076:=()
def tw2542889186231539040:=()
def tw10700780628351079827:=()
def tw10075532110790889098:=()
def tw11373224414382850251:=()
def tw3205629701388664812:=()
def tw6061071376248751587:=()
def tw13478447730490206608:=()
def tw9837864363983465554:=()
def tw17112228819774278762:=()
def tw13397107247415438031:=()
def tw14472496199575703723:=()
def tw312724727199506239:=()
def tw18068516637181744305:=()
def tw6541742355469519086:=()
def tw12939464640405830397:=()
def tw5532811520543700056:=()
def tw11625161479100928998:=()
def tw9406498311709074891:=()
def tw2465387258336992884:=()
def tw15731887976297163643:=()
def tw8236387314518818528:=()
def tw7343504470863136974:=()
def tw10050016555984924332:=()
def tw11177814334931365642:=()
def tw18434785663905469484:=()
def tw11095853837444152189:=()
def tw9958164869434494168:=()
def tw441704395411949649:=()
def tw1077390396856478666:=()
def tw14716548009140124254:=()
def tw6175953073644340977:=()
def tw9215817087350467831:=()
def tw3228321602345968837:=()
def tw3595163793982642187:=()
def tw10232379785963989824:=()
def tw2973614425406886787:=()
def tw715493846822161269:=()
def tw12820862639434073116:=()
def tw4432046223765987618:=()
def tw1622467952901401011:=()
def tw6686777205938723788:=()
def tw11081996915177410307:=()
def tw16939347138614000986:=()
def tw12106248844986136796:=()
def tw10867708414960515730:=()
def tw3822058283788100658:=()
def tw1203572347987935412:=()
def tw7187945447568416120:=()
def tw12083244432282483233:=()
def tw5223745734218860807:=()
def tw1203044540993208250:=()
def tw12008727364156981112:=()
def tw14438483204589140025:=()
def tw6330570899651043273:=()
def tw6480201997704752282:=()
def tw1102224176141604887:=()
def tw7709876263645807093:=()
def tw293264497524590590:=()
def tw12149350384225729301:=()
def tw5392946326091322798:=()
def tw6019084076195703976:=()
def tw6967945396747865041:=()
def tw7321056370394064848:=()
def tw7560293493293631266:=()
def tw10939505312300791160:=()
def tw4898693396281763796:=()
def tw8592889410621890148:=()
def tw16795159925608481614:=()
def tw5182249103503557480:=()
def tw18213425387143510516:=()
def tw12702092592906305590:=()
def tw13614492437890048539:=()
def tw8672349120197505623:=()
def tw7708915023840710056:=()
def tw13417354845572094243:=()
def tw18143984127106133205:=()
def tw4926583411011390263:=()
def tw17093083011709686243:=()
def tw2703966571221985736:=()
def tw2563629869672358211:=()
def tw13322222803852163514:=()
def tw7085851895146504676:=()
def tw16611756513046540095:=()
def tw18069446760814107906:=()
def tw16721638134403192916:=()
def tw7756914717905079772:=()
def tw16490372692184034696:=()
def tw4570268326609012758:=()
def tw11641140738609169409:=()
def tw2888317467772381378:=()
def tw9525418963965892899:=()
end PySem.W.Fast
open PySem PySem.W PyProof.Rows
set_option maxRecDepth 100000 in
set_option maxHeartbeats 0 in
theorem PySem.Challenge.cw_weirwatch_k07_texts_refused_at_the_word_holds : PySem.Challenge.rw_weirwatch_k07_texts_refused_at_the_word.Holds := by
 w_on;o_law;k_head;(case hw=>w_witness2)
 k_fill
 refine L2.walk_ofM (l:=PySem.Challenge.rw_weirwatch_k07_texts_refused_at_the_word) (n:=63) (k:=13) (x:="_law_script") (CX:=L2.CX0) rfl (by decide) rfl ⟨rfl,by decide,by decide⟩ (λw h Y=>PySem.W.km_in_of Y) (λw h Y=>PySem.W.km_tabs_of Y) ?K ?F ?C
 case K=>intro w;kernel_rfl
 case F=>
  intro w mg fa h KX G TB hmg
  have T:∃a:K07.Ad,(∀(s:S7) (v:S6),BindsTo s a.d_law ⟨[v],[]⟩ [("_law_script",v)])/\K07.Tx (L2.KOf KX) mg a/\(∀P∈ [a.Jj1,a.Jj3,a.Jj5],h.get? P=some (PySem.W.tabObj #[])):=by
   have hh:=λaa ab ac ad ae af ag ah ai aj ak al am an ao ap aq ar au av aw ax ay az ba bb bc bd be bf bg bh bi bj bk bl bm bn bo bp bq br bs bt bu bv bw bx bz ca cb cc cd ce cf cg ch ci cj ck cl cm cn co cp cq cr cs ct cu cv cw cx cy cz da db dc dd de df dg dh di dj dk dl dm dn dp dq dr ds dt du dv dw dx dy dz ea eb ec ed ee ef eg eh ei ej ek el em en eo ep eq er es et eu ev ew ex ey ez fb fc fd fe ff fg fh fi fj fk fl fm fn fo fp fq fr fs ft fu fv fw fx fy fz ga gb gc gd ge gf gg gh gi gj gk gl gm gn go gp=>@K07.Tx.mk (L2.KOf KX) mg ⟨aa,ab,ac,ad,ae,af,ag,ah,ai,aj,ak,al,am,an,ao,ap,aq,ar,au,av,aw,ax,ay,az,ba,bb,bc,bd,be,bf,bg,bh,bi,bj,bk,bl,bm,bn,bo,bp,bq,br,bs,bt,bu,bv,bw,bx,bz,ca,cb,cc,cd,ce,cf,cg,ch,ci,cj,ck,cl,cm,cn,co,cp,cq,cr,cs,ct,cu,cv,cw,cx,cy,cz,da,db,dc,dd,de,df,dg,dh,di,dj,dk,dl,dm,dn,dp,dq,dr,ds,dt,du,dv,dw,dx,dy,dz,ea,eb,ec,ed,ee,ef,eg,eh,ei,ej,ek,el,em,en,eo,ep,eq,er,es,et,eu,ev,ew,ex,ey,ez,fb,fc,fd,fe,ff,fg,fh,fi,fj,fk,fl,fm,fn,fo,fp,fq,fr,fs,ft,fu,fv,fw,fx,fy,fz,ga,gb,gc,gd,ge,gf,gg,gh,gi,gj,gk,gl,gm,gn,go,gp⟩
   dsimp only [L2.KOf,L2.NoAttr] at hh⊢
   apply Exists.intro
   refine' ⟨?bb,?tx,?tb⟩
   case tx=>
    apply hh
    iterate 43 (refine' L2.ft_mk KX G ?a ?b ?c ?d ?e;(case a=>k_is);(case b=>k_is);(case c=>k_is);(case d=>k_is);(case e=>first|(intro _ _ _ _ _ _ u h;obtain ⟨_,rfl⟩:=L2.lv1 u h;rfl)|(intro _ _ _ _ _ _ u h;obtain ⟨_,_,rfl⟩:=L2.lv2 u h;rfl)|(intro _ _ _ _ _ _ u h;obtain ⟨_,_,_,rfl⟩:=L2.lv3 u h;rfl)|(intro _ _ _ _ _ _ u h;obtain ⟨_,_,_,_,rfl⟩:=L2.lv4 u h;rfl)|(intro _ _ _ _ _ _ u h;obtain ⟨_,_,_,_,_,rfl⟩:=L2.lv5 u h;rfl)|(intro _ _ _ _ _ _ u h;obtain ⟨_,_,_,_,_,_,_,rfl⟩:=L2.lv7 u h;rfl)))
    iterate 13 (refine' PySem.W.mg_of KX G ?a;(case a=>k_is))
    refine' L2.tq_mk ?a ?b ?c;(case a=>k_is);(case b=>rfl);(case c=>kernel_rfl)
    iterate 13 (refine' PySem.W.mg_none_of KX G ?a;(case a=>k_is))
    iterate 16 (refine' PySem.W.mg_of KX G ?a;(case a=>k_is))
    iterate 23 (k_is)
    iterate 23 (refine' L2.fm_mk ?a ?b ?c ?d;(case a=>k_is);(case b=>k_is);(case c=>k_is);(case d=>first|(intro _ _ _ _ _ _ u h;obtain ⟨_,rfl⟩:=L2.lv1 u h;rfl)|(intro _ _ _ _ _ _ u h;obtain ⟨_,_,rfl⟩:=L2.lv2 u h;rfl)|(intro _ _ _ _ _ _ u h;obtain ⟨_,_,_,rfl⟩:=L2.lv3 u h;rfl)|(intro _ _ _ _ _ _ u h;obtain ⟨_,_,_,_,rfl⟩:=L2.lv4 u h;rfl)|(intro _ _ _ _ _ _ u h;obtain ⟨_,_,_,_,_,rfl⟩:=L2.lv5 u h;rfl)|(intro _ _ _ _ _ _ u h;obtain ⟨_,_,_,_,_,_,_,rfl⟩:=L2.lv7 u h;rfl)))
    iterate 7 (refine' L2.xc_mk ?a ?b ?c;(case a=>k_is);(case b=>kernel_rfl);(case c=>kernel_rfl))
    refine' L2.ec_mk ?a ?b;(case a=>k_is);(case b=>k_is)
    iterate 28 (constructor <;> k_is)
    iterate 25 (k_is)
    iterate 3 (refine' L2.nst_mk ?a ?b ?c ?d ?e;(case a=>k_is);(case b=>rfl);(case c=>k_is);(case d=>rfl);(case e=>rfl))
    decide
    iterate 14 (kernel_rfl)
   case tb=>exact ybw.mpr ⟨TB _ (by decide),ybw.mpr ⟨TB _ (by decide),ybw.mpr ⟨TB _ (by decide),λ_ z=>nomatch z⟩⟩⟩
   case bb=>exact λs v=>.of_eq rfl
  obtain ⟨a,b,T,tb⟩:=T
  have e:=hmg.symm.trans T.f_law.mgx
  cases e
  exact ⟨a.d_law,K07.spLaw (L2.KOf KX) a,[(a.Jj1,K07.lb_LineReader_take_of),(a.Jj3,K07.lb_LineReader_take_new_name),(a.Jj5,K07.lb_LineReader_take_number)],b,ybw.mpr ⟨L2.tab_km T.Je4 KX (tb _ (.head _)),ybw.mpr ⟨L2.tab_km T.Je5 KX (tb _ (.tail _ (.head _))),ybw.mpr ⟨L2.tab_km T.Je6 KX (tb _ (.tail _ (.tail _ (.head _)))),λ_ z=>nomatch z⟩⟩⟩,T.tnd,λbase kb nb B=>K07.ok_law T B,λH x ns hl ht hS=>⟨x,ns,rfl,hS,hl,⟨ht _ (.head _),ht _ (.tail _ (.head _)),ht _ (.tail _ (.tail _ (.head _)))⟩,λ_=>rfl⟩⟩
 case C=>exact λ_ _ _ _ z=>z
#print axioms PySem.Challenge.cw_weirwatch_k07_texts_refused_at_the_word_holds
