import PyProof.Rows.All
import Wide.All
import OpenK.AllK
import Wide.FinOn
import Lean
import PyProof.EqAt
import PyProof.EqKinds
import PyProof.TupleCall
import PySem.Challenge.RW_weirwatch_k16_runs_refused
open PySem renaming Addr → S5, Value → S6, Shared → S7, wpAny_bind → S8, wpAny_pure → S9, sizeLine → Sa, Program → Sb, FuncData → Sc, World → Sd, Around → Se, Stmt → Sf, Heap → Sg, wpAny → Sh
open PySem.W renaming Frag → Si, kitOne → Sj, findIn → Sk, mroIn → Sl, instObj → Sm
open Or renaming inl → ye
open List renaming length_map → yf, getElem?_eq_getElem → yh, getElem?_map → yj, mem_cons → yk, size_toArray → ym, getElem?_eq_some_iff → yo, not_mem_nil → yp, replicate → yt, mem_of_getElem? → yy, length_take → yz, mem_cons_of_mem → yac, take_of_length_le → yaf, take_add_one → yag, length_append → yah, length_cons → yai, mem_map → yaj, map_append → yal, mem_cons_self → yan, append_nil → yaq, all_eq_true → yar, length_replicate → yat, lookup_cons → yau, nodup_cons → yax, range → yaz, getElem_mem → yba, map_map → ybb, mem_append_right → ybe, mem_range → ybh, lookup → ybi, getElem?_replicate → ybj, mem_map_of_mem → ybl, mem_append → ybn, getD_eq_getElem?_getD → ybo, sum_cons → ybp, map_cons → ybq, of_mem_zip → ybs, getElem?_of_mem → ybu, mem_singleton → yca, getElem?_zip_eq_some → ycb, getElem?_append_right → ycc, getElem?_append_left → ycd
open Ne renaming symm → yg
open PySem.Heap renaming lt_size → yi, get?_push_of_some → yn, get?_push_size → yq, size_push → yaa, SameBut → yas, get?_update_other → ybk, get?_update_self → ybt
open Nat renaming le_refl → yl, ne_of_lt → yr, lt_of_lt_of_le → yab, zero_le → yad, le_trans → yam, ne_of_gt → yaw, lt_irrefl → yay, le_of_lt → ybd, not_lt → ybf, le_of_eq → ybr, lt_succ_self → ybw, lt_succ_of_lt → ybz
open Option renaming some → yw, map_eq_some_iff → yak, isSome_iff_exists → ybx
open Bool renaming and_eq_true → yx, false_ne_true → yae, false_and → yav, true_and → ybm
open And renaming left → yao, right → yap
open Int renaming toNat_natCast → ybc, eq_ofNat_of_zero_le → ybg
open Function renaming comp_def → ybv
open Array renaming getElem?_eq_some_iff → yby
set_option Elab.async false
set_option linter.all false
set_option maxRecDepth 100000
namespace L2
open PySem PySem.Spec PyProof.Rows
abbrev Key:=Sum Int Str
def Ys:Key->S6->Bool
 | .inl k,v=>Value.isInt k v
 | .inr x,v=>Value.isStrOf x v
def Sul (w:Sd):Key->Int
 | .inl k=>hashInt k
 | .inr x=>hashStr w x
theorem Jo6:∀{k} {v},Ys k v=true->(∃i t,k=Sum.inl i/\v=Value.int i t)\/(∃x t,k=Sum.inr x/\v=Value.str x t)
 | .inl i,v,h=>by
  obtain ⟨t,e⟩:=Value.isInt_shape h
  exact .inl ⟨i,t,rfl,e⟩
 | .inr x,v,h=>by
  obtain ⟨t,e⟩:=Value.isStrOf_shape h
  exact .inr ⟨x,t,rfl,e⟩
theorem Yar (x) (t):Ys (.inr x) (.str x t)=true:=by simp [Ys,Value.isStrOf]
theorem Sma (a b):decide ((Sum.inl a:Key)=Sum.inl b)=(a==b):=by grind
theorem Smd (a b):decide ((Sum.inr a:Key)=Sum.inr b)=decide (a=b):=by simp
theorem Smb (a) (b):decide ((Sum.inl a:Key)=Sum.inr b)=false:=rfl
theorem Smc (a) (b):decide ((Sum.inr a:Key)=Sum.inl b)=false:=rfl
def Joh (prog:Sb) (w:Sd):PySem.KeyKind prog w Key where
 is:=Ys
 hash:=Sul w
 inj:=λv a b ha hb=>by
  rcases Jo6 ha with ⟨i,t,rfl,rfl⟩|⟨x,t,rfl,rfl⟩
  ·rcases Jo6 hb with ⟨j,u,rfl,e⟩|⟨y,u,rfl,e⟩
   ·injection e with e1 _;rw [e1]
   ·exact nomatch e
  ·rcases Jo6 hb with ⟨j,u,rfl,e⟩|⟨y,u,rfl,e⟩
   ·exact nomatch e
   ·injection e with e1 _;rw [e1]
 byValue:=λk v h=>by
  rcases Jo6 h with ⟨i,t,rfl,rfl⟩|⟨x,t,rfl,rfl⟩ <;> rfl
 pyHash:=λhv h=>by
  rcases Jo6 hv with ⟨i,t,rfl,rfl⟩|⟨x,t,rfl,rfl⟩
  ·exact wpAny_pyHash_int h
  ·exact wpAny_pyHash_str h
 eqBool:=λhu hv h=>by
  rcases Jo6 hu with ⟨i,t,rfl,rfl⟩|⟨x,t,rfl,rfl⟩
  ·rcases Jo6 hv with ⟨j,u,rfl,rfl⟩|⟨y,u,rfl,rfl⟩
   ·rw [Sma] at h;exact wpAny_eqBool_int h
   ·rw [Smb] at h;exact SeqAt.EqAt.int_str i t y u _ _ _ _ h
  ·rcases Jo6 hv with ⟨j,u,rfl,rfl⟩|⟨y,u,rfl,rfl⟩
   ·rw [Smc] at h;exact SeqAt.EqAt.str_int x t j u _ _ _ _ h
   ·rw [Smd] at h;exact wpAny_eqBool_str h
 «strs»:=λk x t v h=>by
  rcases Jo6 h with ⟨i,u,rfl,e⟩|⟨y,u,rfl,e⟩
  ·exact nomatch e
  ·injection e with e1 _
   subst e1
   cases v <;> rfl
theorem Juf (prog) (w) (x) (t):(Joh prog w).is (.inr x) (.str x t)=true:=Yar x t
inductive V where
 |non|bl (b:Bool)|int (i:Int)|str (x:Str)|byt (b:Array UInt8)|flt (b:UInt64)|ref (a:S5)|ty (n:String)
 deriving DecidableEq
def Sa6:V->S6->Prop
 | .non,u=>u=Value.none
 | .bl b,u=>u=Value.bool b
 | .int i,u=>∃t,u=Value.int i t
 | .str x,u=>∃t,u=Value.str x t
 | .byt b,u=>∃t,u=Value.bytes b t
 | .flt b,u=>∃t,u=Value.float b t
 | .ref a,u=>u=Value.ref a
 | .ty n,u=>u=Value.type n
abbrev Sa4:List V->List S6->Prop:=Paired Sa6
theorem Sa4.length (r:Sa4 xs us):xs.length=us.length:=Paired.length r
theorem Sa4.get:∀{xs} {us} {i:Nat} {x},Sa4 xs us->xs[i]?=some x->∃u,us[i]?=some u/\Sa6 x u
 |_,_,_,_,.nil,e=>by simp at e
 |_,_,0,_,.cons r _,e=>by simp at e;subst e;exact ⟨_,rfl,r⟩
 |_,_,i+1,x,.cons _ t,e=>by
  obtain ⟨u,h1,h2⟩:=Sa4.get t (by simpa using e)
  exact ⟨u,by simpa using h1,h2⟩
theorem Sa4.set {x:V} {u:S6} (r:Sa6 x u):∀{xs:List V} {us:List S6} (i:Nat),Sa4 xs us->Sa4 (xs.set i x) (us.set i u)
 |_,_,_,.nil=>.nil
 |_,_,0,.cons _ t=>.cons r t
 |_,_,i+1,.cons q t=>.cons q (Sa4.set r i t)
theorem Sa4.append:∀{xs ys:List V} {us ws:List S6},Sa4 xs us->Sa4 ys ws->Sa4 (xs++ys) (us++ws)
 |_,_,_,_,.nil,s=>s
 |_,_,_,_,.cons r t,s=>.cons r (Sa4.append t s)
theorem Sa4.take:∀{xs:List V} {us:List S6} (n:Nat),Sa4 xs us->Sa4 (xs.take n) (us.take n)
 |_,_,0,_=>.nil
 |_,_,_+1,.nil=>.nil
 |_,_,n+1,.cons r t=>.cons r (Sa4.take n t)
theorem Sa4.drop:∀{xs:List V} {us:List S6} (n:Nat),Sa4 xs us->Sa4 (xs.drop n) (us.drop n)
 |_,_,0,r=>r
 |_,_,_+1,.nil=>.nil
 |_,_,n+1,.cons _ t=>Sa4.drop n t
def Sdm:Option V->Option S6->Prop
 |some v,some u=>Sa6 v u
 |none,none=>True
 |_,_=>False
def KV {κ:Type}:List (κ×V)->List (κ×S6)->Prop:=Paired λ(p:κ×V) (q:κ×S6)=>p.1=q.1/\Sa6 p.2 q.2
def kV:Key->V
 | .inl i=>.int i
 | .inr x=>.str x
inductive HO where
 |lst (xs:List V)
 |tup (xs:List V)
 |dK (kvs:List (Key×V))|dT (kvs:List (List Key×V))
 |set (S:Int->Bool) (n:Nat)
 |ins (C dx:S5) (fs:List (Str×V))
 |own (x:S5)
 |xd (fs:List (Str×V))
 |cod (q:Str)
 |rng (lo hi:Int)
 |frz (o:Obj) (u:HO)
 |tbl (ps:Array (Nat×Nat×Str))
 |ext (φ:Sg->Prop)
abbrev Hp:=S5->Option HO
def upd (H:Hp) (a:S5) (o:HO):Hp:=λb=>if b=a then some o else H b
theorem Sv:upd H a o a=some o:=by unfold upd;rw [if_pos rfl]
theorem Jmm (h:b≠a):upd H a o b=H b:=by unfold upd;rw [if_neg h]
theorem Joq:upd (upd H a o) a u=upd H a u:=by
 funext b;unfold upd;split <;> rfl
theorem Sq3 {H:Hp} {a b} {o u} (h:H a=some o) (h':H b=some u) (d:o≠u):a≠b:=by grind
theorem Jmo {H:Hp} {a b} {o} (h:H a=some o) (h':H b=none):a≠b:=by grind
def Sin (o:Obj):HO:=.frz o (.ext λ_=>True)
def Scy (H:Hp) (lb:Array (Nat×Nat×Str)):List S6->Prop
 | []=>True
 | .int l _:: .int c _::v::r=>(∃(n m:Nat) (q:Str) (a:S5),(n,m,q)∈lb/\l=n/\c=m/\v= .ref a/\H a=some (.cod q))/\Scy H lb r
 |_=>False
theorem Scy.mono (k:∀b q,H b=some (.cod q)->H' b=some (.cod q)) (x:Scy H lb l):Scy H' lb l:=by
 fun_induction Scy H lb l with
 |case1=>exact True.intro
 |case2 l _ c _ v r ih=>
  obtain ⟨⟨n,m,q,a,h1,h2,h3,h4,h5⟩,h6⟩:=x
  exact ⟨⟨n,m,q,a,h1,h2,h3,h4,k _ _ h5⟩,ih h6⟩
 |case3=>exact x.elim
section
variable (P:Sb) (w:Sd)
def Sav (H:Hp) (h:Sg) (a:S5):HO->Prop
 | .lst xs=>xs.length<=Sa/\∃(its:List S6) (n:Nat),Sa4 xs its/\h.get? a=some {cls:=.type "list",data:=.seq its.toArray n}
 | .tup xs=>xs.length<=Sa/\∃its:List S6,Sa4 xs its/\IsTup h a its.toArray
 | .dK kvs=>kvs.length<=Sa/\(a==sysModules)=false/\∃vs,KV kvs vs/\h.DictOf (Joh P w) a vs
 | .dT kvs=>kvs.length<=Sa/\(a==sysModules)=false/\∃xs:List (List Key×S5×S6),
   Paired (λ(p:List Key×V) (q:List Key×S5×S6)=>p.1=q.1/\H q.2.1=some (.tup (p.1.map kV))/\Sa6 p.2 q.2.2) kvs xs/\
   ∃o es ep,h.get? a=some o/\o.ExactDict/\o.data= .dict es ep/\es.toList=xs.map (entryOfKey (tupleKind (Joh P w)))/\(xs.map (·.1)).Nodup
 | .set S n=>h.SetOf (intKind P w) a S n
 | .ins C dx fs=>H dx=some (.own a)/\fs.length<=1000/\dx≠a/\h.get? a=some (Sm C dx)/\
   ∃mA,h.Ns1 dx mA/\(∀f,Sdm (fs.lookup f) (mA f))/\PySem.Within mA (fs.map (·.1))
 | .own _=>∃o,h.get? a=some o
 | .xd fs=>∃mA,h.Ns1 a mA/\∀f,Sdm (fs.lookup f) (mA f)
 | .rng lo hi=>∃t u v,h.get? a=some {cls:=.type "range",data:=.fields #[.int lo t,.int hi u,.int 1 v]}
 | .frz o u=>h.get? a=some o/\Sav H h a u
 | .tbl lb=>∃ts:Array S6,h.get? a=some ⟨.none,none,.fields ts,#[]⟩/\Scy H lb ts.toList
 | .cod q=>h.CodeRec (.ref a) q
 | .ext φ=>φ h/\(∃o,h.get? a=some o)/\∀h1 h2:Sg,φ h1->(∀o,h1.get? a=some o->h2.get? a=some o)->φ h2
def HOk (H:Hp) (h:Sg):Prop:=∀a o,H a=some o->Sav P w H h a o
end
section
variable {P:Sb} {w:Sd} {H H':Hp} {h h':Sg} {a:S5} {o:HO}
theorem Sav.lt (x:Sav P w H h a o):a < h.objs.size:=by
 cases o with
 |lst xs=>obtain ⟨_,_,_,_,e⟩:=x;exact yi e
 |tup xs=>obtain ⟨_,_,_,p⟩:=x;exact p.lt
 |dK kvs=>obtain ⟨_,_,_,_,o,_,_,e,_⟩:=x;exact yi e
 |dT kvs=>obtain ⟨_,_,_,_,o,_,_,e,_⟩:=x;exact yi e
 |set S n=>obtain ⟨o,_,_,_,e,_⟩:=x;exact yi e
 |ins C dx fs=>obtain ⟨_,_,_,e,_⟩:=x;exact yi e
 |own y=>obtain ⟨_,e⟩:=x;exact yi e
 |xd fs=>obtain ⟨_,⟨_,_,_,e,_⟩,_⟩:=x;exact yi e
 |rng lo hi=>obtain ⟨_,_,_,e⟩:=x;exact yi e
 |frz ob u=>obtain ⟨e,_⟩:=x;exact yi e
 |tbl lb=>obtain ⟨_,e,_⟩:=x;exact yi e
 |cod q=>obtain ⟨_,_,_,_,e1,e2,_⟩:=x;cases e1;exact yi e2
 |ext φ=>obtain ⟨_,⟨_,e⟩,_⟩:=x;exact yi e
theorem Paired.mapP {α β:Type} {F G:α->β->Prop}:∀{l₁:List α} {l₂:List β},Paired F l₁ l₂->(∀a b,F a b->G a b)->Paired G l₁ l₂
 |_,_,.nil,_=>.nil
 |_,_,.cons r t,f=>.cons (f _ _ r) (Paired.mapP t f)
theorem Sav.stay (x:Sav P w H h a o) (k:∀b u,(b=a\/H b=some (.own a))->h.get? b=some u->h'.get? b=some u)
  (ho:∀b,H b=some (.own a)->H' b=some (.own a)) (ht:∀b xs,H b=some (.tup xs)->H' b=some (.tup xs)) (hc:∀b q,H b=some (.cod q)->H' b=some (.cod q)):Sav P w H' h' a o:=by
 induction o with
 |lst xs=>obtain ⟨z,its,n,r,e⟩:=x;exact ⟨z,its,n,r,k _ _ (.inl rfl) e⟩
 |tup xs=>obtain ⟨z,its,r,ob,e,c⟩:=x;exact ⟨z,its,r,ob,k _ _ (.inl rfl) e,c⟩
 |dK kvs=>obtain ⟨z,y,vs,r,ob,es,ep,e,c⟩:=x;exact ⟨z,y,vs,r,ob,es,ep,k _ _ (.inl rfl) e,c⟩
 |dT kvs=>
  obtain ⟨z,y,xs,r,ob,es,ep,e,c⟩:=x
  exact ⟨z,y,xs,Paired.mapP r λp q z=>⟨z.1,ht _ _ z.2.1,z.2.2⟩,ob,es,ep,k _ _ (.inl rfl) e,c⟩
 |set S n=>obtain ⟨ob,es,ep,t,e,c⟩:=x;exact ⟨ob,es,ep,t,k _ _ (.inl rfl) e,c⟩
 |ins C dx fs=>
  obtain ⟨d,z,ne,e,mA,⟨od,es,ep,e2,c⟩,r⟩:=x
  exact ⟨ho _ d,z,ne,k _ _ (.inl rfl) e,mA,⟨od,es,ep,k _ _ (.inr d) e2,c⟩,r⟩
 |own y=>obtain ⟨ob,e⟩:=x;exact ⟨ob,k _ _ (.inl rfl) e⟩
 |xd fs=>obtain ⟨mA,⟨od,es,ep,e,c⟩,r⟩:=x;exact ⟨mA,⟨od,es,ep,k _ _ (.inl rfl) e,c⟩,r⟩
 |rng lo hi=>obtain ⟨t,u,v,e⟩:=x;exact ⟨t,u,v,k _ _ (.inl rfl) e⟩
 |frz ob u ih=>obtain ⟨e,q⟩:=x;exact ⟨k _ _ (.inl rfl) e,ih q⟩
 |tbl lb=>obtain ⟨ts,e,r⟩:=x;exact ⟨ts,k _ _ (.inl rfl) e,r.mono hc⟩
 |cod q=>obtain ⟨c,o,vs,t,e1,e2,e3,e4⟩:=x;cases e1;exact ⟨_,o,vs,t,rfl,k _ _ (.inl rfl) e2,e3,e4⟩
 |ext φ=>obtain ⟨p,⟨o,e⟩,st⟩:=x;exact ⟨st _ _ p λo q=>k _ _ (.inl rfl) q,⟨o,k _ _ (.inl rfl) e⟩,st⟩
theorem HOk.lt (x:HOk P w H h) (e:H a=some o):a < h.objs.size:=(x a o e).lt
theorem HOk.fresh (x:HOk P w H h) (e:h.objs.size<=a):H a=none:=by
 cases q:H a with
 |none=>rfl
 |some u=>exact absurd (yab (x.lt q) e) (yay _)
theorem HOk.kept (x:HOk P w H h) (k:∀b u,h.get? b=some u->h'.get? b=some u):HOk P w H h':=λa o e=>
 (x a o e).stay (λb u _ q=>k b u q) (λ_ q=>q) (λ_ _ q=>q) λ_ _ q=>q
theorem HOk.laid (x:HOk P w H h) (k:∀b u,h.get? b=some u->h'.get? b=some u) (hp:h.objs.size<=a) (new:Sav P w (upd H a o) h' a o):HOk P w (upd H a o) h':=λb u e=>by
 have hn:=x.fresh hp
 by_cases hb:b=a
 ·subst hb;rw [Sv] at e;cases e;exact new
 ·rw [Jmm hb] at e
  exact (x b u e).stay (λc v _ q=>k c v q) (λc q=>by rw [Jmm (Jmo q hn)];exact q) (λc xs q=>by rw [Jmm (Jmo q hn)];exact q) λc xs q=>by rw [Jmm (Jmo q hn)];exact q
end
def Rd (H:Hp) (a:S5) (u:HO):Prop:=H a=some u\/∃o,H a=some (.frz o u)
theorem Rd.ok (r:Rd H a u) (x:HOk P w H h):Sav P w H h a u:=by
 rcases r with r|⟨o,r⟩
 ·exact x a u r
 ·obtain ⟨_,q⟩:=x a _ r
  exact q
def Mut:Option HO->Prop
 |some (.lst _)=>True
 |some (.dK _)=>True
 |some (.dT _)=>True
 |some (.set _ _)=>True
 |some (.ins _ _ _)=>True
 |some (.ext _)=>True
 |_=>False
section
variable {P:Sb} {w:Sd} {H:Hp} {h h':Sg} {x e:S5} {o':HO}
theorem HOk.write (ok:HOk P w H h) (mu:Mut (H x)) (he:e=x\/H e=some (.own x)) (k:∀b u,b≠e->h.get? b=some u->h'.get? b=some u) (heo:∃u,h'.get? e=some u)
  (new:Sav P w (upd H x o') h' x o'):HOk P w (upd H x o') h':=λb u q=>by
 have nown:∀c y,H c=some (.own y)->c≠x:=λc y r z=>by subst z;rw [r] at mu;exact mu
 have ntup:∀c xs,H c=some (.tup xs)->c≠x:=λc xs r z=>by subst z;rw [r] at mu;exact mu
 by_cases hb:b=x
 ·subst hb;rw [Sv] at q;cases q;exact new
 ·rw [Jmm hb] at q
  by_cases hbe:b=e
  ·have q':H b=some (.own x):=by
    rcases he with z|z
    ·exact absurd (hbe.trans z) hb
    ·rw [hbe];exact z
   rw [q] at q';cases q'
   obtain ⟨v,hv⟩:=heo
   exact ⟨v,by rw [hbe];exact hv⟩
  ·refine (ok b u q).stay (λc v hc r=>k c v ?_ r) (λc r=>by rw [Jmm (nown c b r)];exact r) (λc xs r=>by rw [Jmm (ntup c xs r)];exact r) λc xs r=>by rw [Jmm λz=>by subst z;rw [r] at mu;exact mu];exact r
   rcases hc with rfl|hc
   ·exact hbe
   ·rintro rfl
    rcases he with z|z
    ·exact nown c b hc z
    ·rw [hc] at z;cases z;exact hb rfl
end
structure Un (fs ex:List S5) (H H':Hp) (h h':Sg):Prop where
 keep:∀b o,h.get? b=some o->H b=none->b∉fs->b∉ex->h'.get? b=some o
 slot:∀b o,h.get? b=some o->H b=none->b∈fs->b∉ex->∃sl,h'.get? b=some {o with slots:=sl}
 free:∀b o,h.get? b=some o->H b=none->b∉ex->H' b=none
 there:∀b o,h.get? b=some o->b∉ex->∃o',h'.get? b=some o'
 tups:∀b xs,H b=some (.tup xs)->H' b=some (.tup xs)
 frzs:∀b o u,H b=some (.frz o u)->H' b=some (.frz o u)
 tbls:∀b ps,H b=some (.tbl ps)->∃more,H' b=some (.tbl (ps++more))
section
variable {fs fs' ex ex':List S5} {H H1 H2:Hp} {h h1 h2 h':Sg} {a x e:S5} {o:HO}
theorem Un.any (u:Un fs ex H H1 h h1) (q:h.get? b=some ob) (n:H b=none) (hx:b∉ex):∃sl,h1.get? b=some {ob with slots:=sl}:=by
 by_cases hb:b∈fs
 ·exact u.slot b ob q n hb hx
 ·exact ⟨ob.slots,u.keep b ob q n hb hx⟩
theorem Un.trans (a:Un fs ex H H1 h h1) (b:Un fs ex H1 H2 h1 h2):Un fs ex H H2 h h2 where
 keep:=λc ob q n hc hx=>b.keep c ob (a.keep c ob q n hc hx) (a.free c ob q n hx) hc hx
 slot:=λc ob q n hc hx=>by
  obtain ⟨sl,e1⟩:=a.slot c ob q n hc hx
  obtain ⟨sl',e2⟩:=b.slot c _ e1 (a.free c ob q n hx) hc hx
  exact ⟨sl',e2⟩
 free:=λc ob q n hx=>by
  obtain ⟨o',e1⟩:=a.there c ob q hx
  exact b.free c o' e1 (a.free c ob q n hx) hx
 there:=λc ob q hx=>by
  obtain ⟨o',e1⟩:=a.there c ob q hx
  exact b.there c o' e1 hx
 tups:=λc xs q=>b.tups c xs (a.tups c xs q)
 frzs:=λc ob xs q=>b.frzs c ob xs (a.frzs c ob xs q)
 tbls:=λc ps q=>by
  obtain ⟨m1,e1⟩:=a.tbls c ps q
  obtain ⟨m2,e2⟩:=b.tbls c _ e1
  exact ⟨m1++m2,by rw [e2,Array.append_assoc]⟩
theorem Un.kept (k:∀b u,h.get? b=some u->h'.get? b=some u):Un fs ex H H h h':=
 ⟨λb ob q _ _ _=>k b ob q,λb ob q _ _ _=>⟨ob.slots,k b ob q⟩,λ_ _ _ n _=>n,λb ob q _=>⟨ob,k b ob q⟩,λ_ _ q=>q,λ_ _ _ q=>q,λ_ ps q=>⟨#[],by rw [q];simp⟩⟩
theorem Un.refl:Un fs ex H H h h:=Un.kept λ_ _ q=>q
theorem Un.laid (k:∀b u,h.get? b=some u->h'.get? b=some u) (hp:h.objs.size<=a) (hn:H a=none):Un fs ex H (upd H a o) h h' where
 keep:=λb u q _ _ _=>k b u q
 slot:=λb u q _ _ _=>⟨u.slots,k b u q⟩
 free:=λb u q n _=>by rw [Jmm (yr (yab (yi q) hp))];exact n
 there:=λb u q _=>⟨u,k b u q⟩
 tups:=λb xs q=>by rw [Jmm (Jmo q hn)];exact q
 frzs:=λb u xs q=>by rw [Jmm (Jmo q hn)];exact q
 tbls:=λb ps q=>⟨#[],by rw [Jmm (Jmo q hn),q];simp⟩
theorem Un.write (mu:Mut (H x)) (he:e=x\/H e=some (.own x)) (k:∀b u,b≠e->h.get? b=some u->h'.get? b=some u) (heo:∃u,h'.get? e=some u):Un fs ex H (upd H x o) h h':=by
 have hx:∀b,H b=none->b≠x:=λb n z=>by subst z;rw [n] at mu;exact mu
 have hb:∀b,H b=none->b≠e:=λb n z=>by
  subst z
  rcases he with r|r
  ·exact hx b n r
  ·rw [n] at r;cases r
 have hm:∀b u,H b=some u->¬Mut (some u)->b≠x:=λb u q nm z=>by subst z;rw [q] at mu;exact nm mu
 refine ⟨λb u q n _ _=>k b u (hb b n) q,λb u q n _ _=>⟨u.slots,k b u (hb b n) q⟩,λb u q n _=>by rw [Jmm (hx b n)];exact n,λb u q _=>?_,
  λb xs q=>by rw [Jmm (hm b _ q λz=>z)];exact q,λb u xs q=>by rw [Jmm (hm b _ q λz=>z)];exact q,λb ps q=>⟨#[],by rw [Jmm (hm b _ q λz=>z),q];simp⟩⟩
 by_cases hbe:b=e
 ·subst hbe;exact heo
 ·exact ⟨u,k b u hbe q⟩
end
def trk (h:Sg) (H:Hp):List S5:=(yaz h.objs.size).filter λa=>(H a).isSome
def Jxg (h:Sg) (H:Hp):Sg:=PySem.W.hideAll h (trk h H)
theorem Yap (h) (H):(Jxg h H).objs.size=h.objs.size:=PySem.W.hideAll_size _ _
theorem Jvg {H} {b} {o} (e:h.get? b=some o) (n:H b=none):(Jxg h H).get? b=some o:=
 PySem.W.hideAll_get _ e λhm=>by
  have q:=(List.mem_filter.mp hm).2
  rw [n] at q;simp at q
theorem Ye9 (e:(Jxg h H).get? b=some o):h.get? b=some o/\H b=none:=by
 have e':=PySem.W.of_hideAll (trk h H) e
 refine ⟨e',?_⟩
 cases q:H b with
 |none=>rfl
 |some x=>
  have hm:b∈trk h H:=List.mem_filter.mpr ⟨ybh.mpr (yi e'),by simp [q]⟩
  have z:(Jxg h H).get? b=none:=PySem.W.hideAll_none (trk h H) hm
  rw [z] at e;cases e
structure Mod (K:Si) (mg:Str->Option S6) (base:Sg):Prop where
 kin:K.In base
 glob:base.Ns mainGlobals mg
 blt:∃mb,base.Ns builtinsNs mb/\∀x:Str,x≠"__name__" ->mb x=bootBuiltins x
 nolimit:base.NoLimit
structure Cx where
 prog:Sb
 w:Sd
 K:Si
 mg:Str->Option S6
 base:Sg
 A:Se
 N:List Str
 s₀:S7
 H₀:Hp
 env:Env
 outer:List Env
 stack:List Env
 ex:List S5
 fn:Str->Bool
 calm:Bool
 pn:List (S5×Obj)
 xe:S6->S7->Prop
def frs (l:List Env):List S5:=l.filterMap (·.frame)
abbrev Cx.fs (X:Cx):List S5:=frs X.outer
def Vis (sc:Scope) (x:Str):Prop:=sc.names.lookup x=some .local\/sc.names.lookup x=some .cell\/sc.names.lookup x=some .free
def Loc (sc:Scope) (x:Str):Prop:=sc.names.lookup x=some .local\/sc.names.lookup x=some .cell
def Sty (env:Env) (h:Sg) (m:Str->Option S6) (x:Str) (u:S6):Prop:=
 (env.kindOf x=some .local/\m x=some u)\/((env.kindOf x=some .cell\/env.kindOf x=some .free)/\∃c,env.cells.lookup x=some c/\h.IsCell c (some u))
structure Cx.Ok (X:Cx):Prop where
 mod:Mod X.K X.mg X.base
 kind:X.env.scope.kind= .function
 glob:X.env.globals=mainGlobals
 blt:X.env.builtins=builtinsNs
 above:X.s₀.heap.objs.size<=X.env.locals
 inj:∀x y c,X.env.cells.lookup x=some c->X.env.cells.lookup y=some c->x=y
 has:∀x,(X.env.kindOf x=some .cell\/X.env.kindOf x=some .free)->∃c,X.env.cells.lookup x=some c
 cab:∀x c,X.fn x=true->X.env.cells.lookup x=some c->X.s₀.heap.objs.size<=c
 hd:X.calm=true->X.A.handled=none
 frames:X.A.frames=some X.stack
 stk:X.stack=X.outer\/(X.stack=X.env::X.outer/\X.env.frame=some X.env.locals)
 exf:∀b∈X.ex,b≠X.env.locals/\∀x c,X.env.cells.lookup x=some c->c≠b
 bs:∀b o,X.base.get? b=some o->X.s₀.heap.get? b=some o/\X.H₀ b=none
 bsz:X.base.objs.size<=X.s₀.heap.objs.size
 noex:∀b o,X.base.get? b=some o->b∉X.ex
 exfs:∀b∈X.ex,b∉X.fs
 funs:X.s₀.heap.FunFrames X.base X.outer
 frf:∀b∈X.fs,X.H₀ b=none
structure Su (X:Cx) (pins:List (S5×Obj)) (σ:List (Option V)) (H:Hp) (s:S7):Prop where
 ok:X.Ok
 os:s.os=X.s₀.os
 bare:AllBare s.gens
 base:Un X.fs X.ex X.H₀ H X.s₀.heap s.heap
 loc:∃m,s.heap.Ns X.env.locals m/\∀(i:Nat) (x:Str) (v:V),X.N[i]?=some x->σ[i]?=some (some v)->Vis X.env.scope x->∃u,Sa6 v u/\Sty X.env s.heap m x u
 cell:∀x c,X.env.cells.lookup x=some c->∃v,s.heap.IsCell c v
 free:H X.env.locals=none
 freeC:∀x c,X.env.cells.lookup x=some c->H c=none\/(X.fn x=false/\∃o,H c=some (Sin o))
 pin:∀p∈X.pn++pins,s.heap.get? p.1=some p.2/\H p.1=none/\p.1≠X.env.locals/\p.1∉X.fs/\∀v,p.2.data≠ .cell v
 hok:HOk X.prog X.w H s.heap
 len:σ.length=X.N.length
section
variable {X:Cx} {pins:List (S5×Obj)} {σ:List (Option V)} {H H':Hp} {s:S7} {h':Sg}
theorem Cx.Ok.nofr (ok:X.Ok) (e:X.base.get? b=some o):b∉X.fs:=λhb=>by
 have:=(ok.funs.mem hb).1
 rw [e] at this;cases this
theorem Su.bs (I:Su X pins σ H s):∀b o,X.base.get? b=some o->s.heap.get? b=some o/\H b=none:=λb o e=>
 ⟨I.base.keep b o (I.ok.bs b o e).1 (I.ok.bs b o e).2 (I.ok.nofr e) (I.ok.noex b o e),I.base.free b o (I.ok.bs b o e).1 (I.ok.bs b o e).2 (I.ok.noex b o e)⟩
theorem Su.bk (I:Su X pins σ H s):∀b o,X.base.get? b=some o->s.heap.get? b=some o:=λb o e=>(I.bs b o e).1
theorem Su.mod (I:Su X pins σ H s):Mod X.K X.mg X.base:=I.ok.mod
theorem Su.kIn (I:Su X pins σ H s):X.K.In s.heap:=I.ok.mod.kin.keeps I.bk
theorem Su.lt (I:Su X pins σ H s):X.env.locals < s.heap.objs.size:=let ⟨_,hn,_⟩:=I.loc;hn.lt
theorem Su.sz (I:Su X pins σ H s):X.s₀.heap.objs.size<=s.heap.objs.size:=yam I.ok.above (ybd I.lt)
theorem Su.nofs (I:Su X pins σ H s) (h:s.heap.objs.size<=a):a∉X.fs:=λhb=>by
 obtain ⟨_,o,ho,_⟩:=I.ok.funs.mem hb
 exact absurd (yab (yi ho) (yam I.sz h)) (yay _)
theorem Su.cne (I:Su X pins σ H s):∀x c,X.env.cells.lookup x=some c->c≠X.env.locals:=λx c e z=>by
 obtain ⟨v,o,ho,hd⟩:=I.cell x c e
 obtain ⟨m,⟨o',es,ep,ho',hd',_⟩,_⟩:=I.loc
 rw [z,ho'] at ho;cases ho;rw [hd'] at hd;cases hd
theorem Su.funs (I:Su X pins σ H s):s.heap.FunFrames X.base X.outer:=by
 have all:∀l,(∀b∈frs l,b∈X.fs)->X.s₀.heap.FunFrames X.base l->s.heap.FunFrames X.base l:=by
  intro l
  induction l with
  |nil=>intro _ _;trivial
  |cons env r ih=>
   rintro hs ⟨hk,⟨L,o,hf,hn,ho,hd⟩,hr⟩
   have hL:=hs L (by unfold frs;rw [List.filterMap_cons,hf];exact yan)
   obtain ⟨sl,e⟩:=I.base.slot L o ho (I.ok.frf L hL) hL λz=>I.ok.exfs L z hL
   exact ⟨hk,⟨L,_,hf,hn,e,hd⟩,ih (λb hb=>hs b (by unfold frs;rw [List.filterMap_cons,hf];exact yac _ hb)) hr⟩
 exact all X.outer (λ_ hb=>hb) I.ok.funs
theorem Su.stack (I:Su X pins σ H s):s.heap.FunFrames X.base X.stack:=by
 rcases I.ok.stk with e|⟨e,hf⟩
 ·rw [e];exact I.funs
 ·rw [e]
  obtain ⟨m,hn,_⟩:=I.loc
  exact .cons (by rw [I.ok.kind];decide) hf hn (Heap.get?_none_of_le (yam I.ok.bsz I.ok.above)) I.funs
theorem Su.stkSub (I:Su X pins σ H s):∀b∈frs X.stack,b∈X.env.locals::X.fs:=λb hb=>by
 rcases I.ok.stk with e|⟨e,hf⟩
 ·rw [e] at hb;exact yac _ hb
 ·rw [e] at hb
  unfold frs at hb
  rw [List.filterMap_cons,hf] at hb
  exact hb
theorem Su.stkFree (I:Su X pins σ H s):∀b∈frs X.stack,H b=none:=λb hb=>by
 rcases yk.mp (I.stkSub b hb) with e|hb
 ·rw [e];exact I.free
 ·obtain ⟨_,o,ho,_⟩:=I.ok.funs.mem hb
  exact I.base.free b o ho (I.ok.frf b hb) λz=>I.ok.exfs b z hb
theorem Su.step {ch:List S5} (I:Su X pins σ H s)
  (hch:∀b∈ch,(b∈X.ex\/X.s₀.heap.objs.size<=b)/\b≠X.env.locals/\(∀x c,X.env.cells.lookup x=some c->c≠b)/\∀p∈X.pn++pins,p.1≠b)
  (keep:∀b o,b≠X.env.locals->b∉X.fs->b∉ch->s.heap.get? b=some o->H b=none->h'.get? b=some o)
  (slot:∀b o,b≠X.env.locals->b∈X.fs->b∉ch->s.heap.get? b=some o->H b=none->∃sl,h'.get? b=some {o with slots:=sl}) (free:∀b o,b∉ch->s.heap.get? b=some o->H b=none->H' b=none)
  (there:∀b o,b∉ch->s.heap.get? b=some o->∃o',h'.get? b=some o')
  (tups:∀b xs,H b=some (.tup xs)->H' b=some (.tup xs)) (frzs:∀b o u,H b=some (.frz o u)->H' b=some (.frz o u)) (tbls:∀b ps,H b=some (.tbl ps)->∃more,H' b=some (.tbl (ps++more)))
  (ns:∀m,s.heap.Ns X.env.locals m->h'.Ns X.env.locals m) (hok:HOk X.prog X.w H' h') (hg:AllBare g'):
  Su X pins σ H' {s with heap:=h',gens:=g',drawn:=d',toks:=t'}:=by
 have neL:∀b o,X.s₀.heap.get? b=some o->b≠X.env.locals:=λb o e=>yr (yab (yi e) I.ok.above)
 have neC:∀b o,X.s₀.heap.get? b=some o->b∉X.ex->b∉ch:=λb o e hx hb=>by
  rcases (hch b hb).1 with z|z
  ·exact hx z
  ·exact absurd (yab (yi e) z) (yay _)
 have cellK:∀x c,X.env.cells.lookup x=some c->∀v,s.heap.IsCell c v->h'.IsCell c v:=λx c e v ⟨o,ho,hd⟩=>by
  have nch:=λz=>(hch c z).2.2.1 x c e rfl
  rcases I.freeC x c e with n|⟨_,ob,q⟩
  ·by_cases hc:c∈X.fs
   ·obtain ⟨sl,q⟩:=slot c o (I.cne x c e) hc nch ho n
    exact ⟨_,q,hd⟩
   ·exact ⟨o,keep c o (I.cne x c e) hc nch ho n,hd⟩
  ·obtain ⟨e1,_⟩:=I.hok c _ q
   obtain ⟨e2,_⟩:=hok c _ (frzs c ob _ q)
   rw [ho] at e1;cases e1
   exact ⟨_,e2,hd⟩
 refine ⟨I.ok,I.os,hg,⟨λb o e n hb hx=>?_,λb o e n hb hx=>?_,λb o e n hx=>?_,λb o e hx=>?_,λb xs e=>tups b xs (I.base.tups b xs e),λb o xs e=>frzs b o xs (I.base.frzs b o xs e),λb ps e=>?_⟩,?_,λx c e=>?_,?_,λx c e=>?_,λp hp=>?_,hok,I.len⟩
 ·exact keep b o (neL b o e) hb (neC b o e hx) (I.base.keep b o e n hb hx) (I.base.free b o e n hx)
 ·obtain ⟨sl,e1⟩:=I.base.slot b o e n hb hx
  obtain ⟨sl',e2⟩:=slot b _ (neL b o e) hb (neC b o e hx) e1 (I.base.free b o e n hx)
  exact ⟨sl',e2⟩
 ·obtain ⟨o',e1⟩:=I.base.there b o e hx
  exact free b o' (neC b o e hx) e1 (I.base.free b o e n hx)
 ·obtain ⟨o',e1⟩:=I.base.there b o e hx
  exact there b o' (neC b o e hx) e1
 ·obtain ⟨m1,e1⟩:=I.base.tbls b ps e
  obtain ⟨m2,e2⟩:=tbls b _ e1
  exact ⟨m1++m2,by rw [e2,Array.append_assoc]⟩
 ·obtain ⟨m,hn,hl⟩:=I.loc
  refine ⟨m,ns m hn,λi x v e1 e2 e3=>?_⟩
  obtain ⟨u,r,l⟩:=hl i x v e1 e2 e3
  refine ⟨u,r,?_⟩
  rcases l with l|⟨k,c,e,z⟩
  ·exact .inl l
  ·exact .inr ⟨k,c,e,cellK x c e _ z⟩
 ·obtain ⟨v,z⟩:=I.cell x c e
  exact ⟨v,cellK x c e v z⟩
 ·obtain ⟨m,⟨o,_,_,ho,_⟩,_⟩:=I.loc
  exact free _ o (λz=>(hch _ z).2.1 rfl) ho I.free
 ·obtain ⟨v,o,ho,hd⟩:=I.cell x c e
  rcases I.freeC x c e with n|⟨hf,ob,q⟩
  ·exact .inl (free c o (λz=>(hch c z).2.2.1 x c e rfl) ho n)
  ·exact .inr ⟨hf,ob,frzs c ob _ q⟩
 ·obtain ⟨e,n,ne,nf,d⟩:=I.pin p hp
  have nch:=λz=>(hch p.1 z).2.2.2 p hp rfl
  exact ⟨keep p.1 p.2 ne nf nch e n,free p.1 p.2 nch e n,ne,nf,d⟩
theorem Su.un (I:Su X pins σ H s) (u:Un X.fs [] H H' s.heap h') (hok:HOk X.prog X.w H' h'):Su X pins σ H' {s with heap:=h',toks:=t'}:=by
 obtain ⟨m,⟨o,es,ep,ho,r⟩,_⟩:=id I.loc
 obtain ⟨sl,hL⟩:=u.any ho I.free (by simp)
 exact I.step (ch:=[]) (λ_ z=>nomatch z) (λb o _ hb _ e n=>u.keep b o e n hb (by simp)) (λb o _ hb _ e n=>u.slot b o e n hb (by simp)) (λb o _ e n=>u.free b o e n (by simp)) (λb o _ e=>u.there b o e (by simp)) u.tups u.frzs u.tbls (λm' hm=>by
  obtain ⟨o',es',ep',ho',r'⟩:=hm
  rw [ho] at ho';cases ho'
  exact ⟨_,es',ep',hL,r'⟩) hok I.bare
theorem Su.call (I:Su X pins σ H s) (u:Un (frs X.stack) ch H H' s.heap h') (hok:HOk X.prog X.w H' h') (hg:AllBare g')
  (hch:∀b∈ch,(b∈X.ex\/X.s₀.heap.objs.size<=b)/\b≠X.env.locals/\(∀x c,X.env.cells.lookup x=some c->c≠b)/\∀p∈X.pn++pins,p.1≠b):
  Su X pins σ H' {s with heap:=h',gens:=g',drawn:=d',toks:=t'}:=by
 obtain ⟨m,⟨o,es,ep,ho,r⟩,_⟩:=id I.loc
 obtain ⟨sl,hL⟩:=u.any ho I.free λz=>(hch _ z).2.1 rfl
 exact I.step hch (λb o hL hb hc e n=>u.keep b o e n (λz=>(yk.mp (I.stkSub b z)).elim hL hb) hc) (λb o _ _ hc e n=>u.any e n hc) (λb o hc e n=>u.free b o e n hc) (λb o hc e=>u.there b o e hc) u.tups u.frzs u.tbls (λm' hm=>by
  obtain ⟨o',es',ep',ho',r'⟩:=hm
  rw [ho] at ho';cases ho'
  exact ⟨_,es',ep',hL,r'⟩) hok hg
theorem Su.turned (I:Su X pins σ H s) (k:∀b o,b≠it->s.heap.get? b=some o->h'.get? b=some o) (hn:H it=none) (hL:it≠X.env.locals)
  (h1:it∈X.ex\/X.s₀.heap.objs.size<=it) (h2:∀x c,X.env.cells.lookup x=some c->c≠it) (h3:∀p∈X.pn++pins,p.1≠it):Su X pins σ H {s with heap:=h',toks:=t'}:=by
 have nit:∀b u,H b=some u->b≠it:=λb u e z=>by rw [z,hn] at e;cases e
 refine I.step (ch:=[it]) (λb hb=>?_) (λb o _ _ hc e _=>k b o (λz=>hc (by simp [z])) e) (λb o _ _ hc e _=>⟨o.slots,k b o (λz=>hc (by simp [z])) e⟩) (λ_ _ _ _ n=>n)
  (λb o hc e=>⟨o,k b o (λz=>hc (by simp [z])) e⟩) (λ_ _ e=>e) (λ_ _ _ e=>e) (λb ps e=>⟨#[],by rw [e];simp⟩) (λm hm=>?_) (λb u e=>?_) I.bare
 ·have e:=by simpa using hb
  subst e
  exact ⟨h1,hL,h2,h3⟩
 ·obtain ⟨o,es,ep,ho,r⟩:=hm
  exact ⟨o,es,ep,k _ o (yg hL) ho,r⟩
 ·refine (I.hok b u e).stay (λc v hc q=>k c v ?_ q) (λ_ q=>q) (λ_ _ q=>q) λ_ _ q=>q
  rcases hc with z|z
  ·rw [z];exact nit b u e
  ·exact nit c _ z
theorem Su.tok (I:Su X pins σ H s) (t):Su X pins σ H {s with toks:=t}:=I.un Un.refl I.hok
theorem Su.kept (I:Su X pins σ H s) (k:∀b u,s.heap.get? b=some u->h'.get? b=some u):Su X pins σ H {s with heap:=h',toks:=t'}:=I.un (Un.kept k) (I.hok.kept k)
theorem Su.laid (I:Su X pins σ H s) (k:∀b u,s.heap.get? b=some u->h'.get? b=some u) (hp:s.heap.objs.size<=a) (new:Sav X.prog X.w (upd H a o) h' a o):
  Su X pins σ (upd H a o) {s with heap:=h',toks:=t'}:=I.un (Un.laid k hp (I.hok.fresh hp)) (I.hok.laid k hp new)
theorem Su.write (I:Su X pins σ H s) (mu:Mut (H x)) (he:e=x\/H e=some (.own x)) (k:∀b u,b≠e->s.heap.get? b=some u->h'.get? b=some u) (heo:∃u,h'.get? e=some u)
  (new:Sav X.prog X.w (upd H x o) h' x o):Su X pins σ (upd H x o) {s with heap:=h',toks:=t'}:=I.un (Un.write mu he k heo) (I.hok.write mu he k heo new)
theorem Su.pins_of (I:Su X pins σ H s) (h:∀p∈pins',s.heap.get? p.1=some p.2/\H p.1=none/\p.1≠X.env.locals/\p.1∉X.fs/\∀v,p.2.data≠ .cell v):Su X pins' σ H s:=
 ⟨I.ok,I.os,I.bare,I.base,I.loc,I.cell,I.free,I.freeC,λp hp=>(ybn.mp hp).elim (λz=>I.pin p (List.mem_append_left _ z)) (h p),I.hok,I.len⟩
theorem Jvo {N:List Str} (hN:N.Nodup) {i:Nat} (a:N[i]?=some x) (b:N[j]?=some x):i=j:=by
 obtain ⟨h1,e1⟩:=yo.mp a
 obtain ⟨h2,e2⟩:=yo.mp b
 exact (List.getElem_inj hN).mp (e1.trans e2.symm)
theorem Jx6 {E} {i} {x} {v} {u} {Q} (I:Su X pins σ H s) (hN:X.N.Nodup) (hi:X.N[i]?=some x) (hx:Loc X.env.scope x) (r:Sa6 v u)
  (h:∀s',Su X pins (σ.set i (some v)) H s'->(∃a,yas a s.heap s'.heap/\(a=X.env.locals\/X.env.cells.lookup x=some a))->Q () s') (hf:X.fn x=true\/X.env.scope.names.lookup x=some .local:=by first|exact .inl rfl|exact .inr rfl|assumption):Sh M A (storeName X.env x u) Q E s:=by
 obtain ⟨m,hn,hl⟩:=id I.loc
 have hcls:(X.env.scope.kind== .class||(X.env.scope.kind== .module&&X.env.locals !=X.env.globals))=false:=by rw [I.ok.kind];rfl
 have hiσ:i < σ.length:=by rw [I.len];exact (yo.mp hi).1
 have cne:=I.cne
 have tracked:∀{a:S5} {h':Sg},(∃o,s.heap.get? a=some o/\H a=none)->yas a s.heap h'->HOk X.prog X.w H h':=λ{a h'} ha hs b ob e=>by
  obtain ⟨_,_,hfree⟩:=ha
  refine (I.hok b ob e).stay (λc w' hc q=>(hs.2 c ?_).trans q) (λ_ q=>q) (λ_ _ q=>q) λ_ _ q=>q
  rintro rfl
  rcases hc with rfl|hc
  ·rw [hfree] at e;cases e
  ·rw [hfree] at hc;cases hc
 rcases hx with hk|hk
 ·refine wpAny_storeName_local hk hn (λh' hn' hs=>?_) hcls
  obtain ⟨oL,_,_,hoL,_⟩:=id hn
  refine h _ ⟨I.ok,I.os,I.bare,⟨λb o e n hb hx=>?_,λb o e n hb hx=>?_,I.base.free,λb o e hx=>?_,I.base.tups,I.base.frzs,I.base.tbls⟩,⟨_,hn',λj y v' e1 e2 e3=>?_⟩,λy c e=>?_,I.free,I.freeC,λp hp=>?_,tracked ⟨oL,hoL,I.free⟩ hs,by simpa using I.len⟩ ⟨_,hs,.inl rfl⟩
  ·exact (hs.2 b (yr (yab (yi e) I.ok.above))).trans (I.base.keep b o e n hb hx)
  ·obtain ⟨sl,e1⟩:=I.base.slot b o e n hb hx
   exact ⟨sl,(hs.2 b (yr (yab (yi e) I.ok.above))).trans e1⟩
  ·obtain ⟨o',e1⟩:=I.base.there b o e hx
   exact ⟨o',(hs.2 b (yr (yab (yi e) I.ok.above))).trans e1⟩
  ·by_cases hj:j=i
   ·subst hj
    rw [hi] at e1;cases e1
    rw [List.getElem?_set_self hiσ] at e2
    cases e2
    exact ⟨u,r,.inl ⟨hk,by simp⟩⟩
   ·rw [List.getElem?_set_ne (yg hj)] at e2
    obtain ⟨u',r',q⟩:=hl j y v' e1 e2 e3
    refine ⟨u',r',?_⟩
    rcases q with ⟨k,e⟩|⟨k,c,e,z⟩
    ·refine .inl ⟨k,?_⟩
     have:y≠x:=λe=>hj (Jvo hN e1 (e▸hi))
     simp [this,e]
    ·exact .inr ⟨k,c,e,z.sameBut hs (cne y c e)⟩
  ·obtain ⟨w',z⟩:=I.cell y c e
   exact ⟨w',z.sameBut hs (cne y c e)⟩
  ·obtain ⟨e,n,ne,nf,d⟩:=I.pin p hp
   exact ⟨(hs.2 p.1 ne).trans e,n,ne,nf,d⟩
 ·have hfn:X.fn x=true:=by
   rcases hf with z|z
   ·exact z
   ·rw [z] at hk;cases hk
  obtain ⟨c,hc⟩:=I.ok.has x (.inl hk)
  obtain ⟨w',z⟩:=I.cell x c hc
  refine wpAny_storeName_cell I.ok.kind hk hc z (λh' hc' hs=>?_)
  obtain ⟨oc,hoc,hocd⟩:=id z
  refine h {s with heap:=h'} ⟨I.ok,I.os,I.bare,⟨λb o e n hb hx=>?_,λb o e n hb hx=>?_,I.base.free,λb o e hx=>?_,I.base.tups,I.base.frzs,I.base.tbls⟩,⟨m,hn.sameBut hs (yg (cne x c hc)),λj y v' e1 e2 e3=>?_⟩,λy c' e=>?_,I.free,I.freeC,λp hp=>?_,tracked ⟨oc,hoc,(I.freeC x c hc).elim id λz=>by rw [hfn] at z;cases z.1⟩ hs,by simpa using I.len⟩ ⟨c,hs,.inr hc⟩
  ·exact (hs.2 b (yr (yab (yi e) (I.ok.cab x c hfn hc)))).trans (I.base.keep b o e n hb hx)
  ·obtain ⟨sl,e1⟩:=I.base.slot b o e n hb hx
   exact ⟨sl,(hs.2 b (yr (yab (yi e) (I.ok.cab x c hfn hc)))).trans e1⟩
  ·obtain ⟨o',e1⟩:=I.base.there b o e hx
   exact ⟨o',(hs.2 b (yr (yab (yi e) (I.ok.cab x c hfn hc)))).trans e1⟩
  ·by_cases hj:j=i
   ·subst hj
    rw [hi] at e1;cases e1
    rw [List.getElem?_set_self hiσ] at e2
    cases e2
    exact ⟨u,r,.inr ⟨.inl hk,c,hc,hc'⟩⟩
   ·rw [List.getElem?_set_ne (yg hj)] at e2
    obtain ⟨u',r',q⟩:=hl j y v' e1 e2 e3
    refine ⟨u',r',?_⟩
    rcases q with q|⟨k,c',e,z'⟩
    ·exact .inl q
    ·refine .inr ⟨k,c',e,z'.sameBut hs ?_⟩
     rintro rfl
     exact hj (Jvo hN e1 (I.ok.inj _ _ _ e hc▸hi))
  ·by_cases hcc:c'=c
   ·subst hcc;exact ⟨_,hc'⟩
   ·obtain ⟨w2,z2⟩:=I.cell y c' e
    exact ⟨w2,z2.sameBut hs hcc⟩
  ·obtain ⟨e,n,ne,nf,d⟩:=I.pin p hp
   refine ⟨(hs.2 p.1 ?_).trans e,n,ne,nf,d⟩
   intro q
   rw [q,hoc] at e
   exact d w' (by rw [<-(yw.inj e)];exact hocd)
theorem Jtb {i} {x} {v} {u} {Q} (I:Su X pins σ H s) (hN:X.N.Nodup) (hi:X.N[i]?=some x) (hx:Loc X.env.scope x) (r:Sa6 v u)
  (h:∀s',Su X pins (σ.set i (some v)) H s'->Q () s') (hf:X.fn x=true\/X.env.scope.names.lookup x=some .local:=by first|exact .inl rfl|exact .inr rfl|assumption):Sh M A (storeName X.env x u) Q E s:=
 Jx6 I hN hi hx r (λs' I' _=>h s' I') hf
theorem Su.call' (I:Su X pins σ H s) (ho:s'.os=s.os) (u:Un (frs X.stack) ch H H' s.heap s'.heap) (hok:HOk X.prog X.w H' s'.heap) (hg:AllBare s'.gens)
  (hch:∀b∈ch,(b∈X.ex\/X.s₀.heap.objs.size<=b)/\b≠X.env.locals/\(∀x c,X.env.cells.lookup x=some c->c≠b)/\∀p∈X.pn++pins,p.1≠b):Su X pins σ H' s':=by
 obtain ⟨h',g',d',t',o'⟩:=s'
 subst ho
 exact I.call u hok hg hch
end
abbrev XK:=S6->Option S5->Hp->Prop
abbrev St:=List (Option V)
abbrev VK:=V->Hp->Prop
abbrev TE:=St->Hp->VK->Prop
abbrev TT:=St->Hp->(Bool->Hp->Prop)->Prop
abbrev TA:=St->Hp->(List V->Hp->Prop)->Prop
structure Sch where
 nx:St->Hp->Prop
 rt:VK
 bk:St->Hp->Prop:=λ_ _=>False
 ct:St->Hp->Prop:=λ_ _=>False
abbrev TS:=Sch->St->Hp->Prop
def EP (X:Cx) (pins:List (S5×Obj)) (σ:St) (Q:VK) (u:S6) (s':S7):Prop:=∃v H',Su X pins σ H' s'/\Sa6 v u/\Q v H'
def TP (X:Cx) (pins:List (S5×Obj)) (σ:St) (Q:Bool->Hp->Prop) (b:Bool) (s':S7):Prop:=∃H',Su X pins σ H' s'/\Q b H'
def AP (X:Cx) (pins:List (S5×Obj)) (σ:St) (Q:List V->Hp->Prop) (us:List S6) (s':S7):Prop:=∃vs H',Su X pins σ H' s'/\Sa4 vs us/\Q vs H'
def SP (X:Cx) (pins:List (S5×Obj)) (D:Sch) (f:Flow) (s':S7):Prop:=
 match f with
 | .next=>∃σ' H',Su X pins σ' H' s'/\D.nx σ' H'
 | .brk=>∃σ' H',Su X pins σ' H' s'/\D.bk σ' H'
 | .cont=>∃σ' H',Su X pins σ' H' s'/\D.ct σ' H'
 | .ret u=>∃v σ' H',Su X pins σ' H' s'/\Sa6 v u/\D.rt v H'
def PE (X:Cx) (e:Expr) (t:TE):Prop:=
 ∀(pins:List (S5×Obj)) (s:S7) (σ:St) (H:Hp) (Q:VK),Su X pins σ H s->t σ H Q->Sh (model X.prog X.w) X.A (eval e X.env) (EP X pins σ Q) X.xe s
def PT (X:Cx) (e:Expr) (t:TT):Prop:=
 ∀(pins:List (S5×Obj)) (s:S7) (σ:St) (H:Hp) (Q:Bool->Hp->Prop),Su X pins σ H s->t σ H Q->Sh (model X.prog X.w) X.A (isTrue e X.env (eval e X.env)) (TP X pins σ Q) X.xe s
def PW (X:Cx) (e:Expr) (t:TT):Prop:=
 ∀(whole:Sem S6) (pins:List (S5×Obj)) (s:S7) (σ:St) (H:Hp) (Q:Bool->Hp->Prop),Su X pins σ H s->t σ H Q->Sh (model X.prog X.w) X.A (isTrue e X.env whole) (TP X pins σ Q) X.xe s
theorem PW.pt (h:PW X e t):PT X e t:=h _
def PA (X:Cx) (es:List Expr) (t:TA):Prop:=
 ∀(pos:Pos) (pins:List (S5×Obj)) (s:S7) (σ:St) (H:Hp) (Q:List V->Hp->Prop),Su X pins σ H s->t σ H Q->Sh (model X.prog X.w) X.A (spliced (backTo pos (starEach es X.env))) (AP X pins σ Q) X.xe s
def PS (X:Cx) (st:Sf) (t:TS):Prop:=
 ∀(pins:List (S5×Obj)) (s:S7) (σ:St) (H:Hp) (D:Sch),Su X pins σ H s->t D σ H->Sh (model X.prog X.w) X.A (exec st X.env) (SP X pins D) X.xe s
def PSs (X:Cx) (st:List Sf) (t:TS):Prop:=
 ∀(pins:List (S5×Obj)) (s:S7) (σ:St) (H:Hp) (D:Sch),Su X pins σ H s->t D σ H->Sh (model X.prog X.w) X.A (execs st X.env) (SP X pins D) X.xe s
theorem thn (h:Sh M A t Q E s) (hQ:∀a s,Q a s->Q' a s):Sh M A t Q' E s:=wpAny_mono h hQ λ_ _ x=>x
section
variable {X:Cx}
inductive Snp (i:Nat) (σ:St) (H:Hp) (Q:VK):Prop where
 |mk (v:_) (_:σ[i]?=some (some v)) (_:Q v H)
def tC (v:V):TE:=λ_ H Q=>Q v H
theorem Ycj (hN:X.N[i]?=some x) (hv:Vis X.env.scope x) (hd:(x==("__debug__" :Str))=false:=by decide) (hcd:(x==("__classdict__" :Str))=false:=by decide):PE X (.Name x pos) (Snp i):=by
 rintro pins s σ H Q I ⟨v,e,h⟩
 obtain ⟨m,hn,hl⟩:=I.loc
 obtain ⟨u,r,l⟩:=hl i x v hN e hv
 have fin:EP X pins σ Q u s:=⟨v,H,I,r,h⟩
 rcases l with ⟨hk,hm⟩|⟨hk,c,hc,hcell⟩
 ·exact wpAny_Name (wpAny_loadName_local I.ok.kind hk hn hm fin) hd
 ·rcases hk with hk|hk
  ·exact wpAny_Name (wpAny_loadName_cell I.ok.kind hk hc hcell fin) hd
  ·exact wpAny_Name (wpAny_loadName_free I.ok.kind hk hc hcell fin hcd) hd
theorem Sw:PE X (.Constant (.int i) j pos) (tC (.int i)):=λ_ _ _ H _ I h=>wpAny_Constant_int ⟨.int i,H,I.tok _,⟨_,rfl⟩,h⟩
theorem Joi:PE X (.Constant (.bool b) j pos) (tC (.bl b)):=λ_ _ _ H _ I h=>Constant_bool ⟨.bl b,H,I,rfl,h⟩
theorem Joa:PE X (.Constant .none j pos) (tC .non):=λ_ _ _ H _ I h=>Constant_none ⟨.non,H,I,rfl,h⟩
theorem Joo:PE X (.Constant (.str x) j pos) (tC (.str x)):=λ_ _ _ H _ I h=>Calls.Constant_str ⟨.str x,H,I.tok _,⟨_,rfl⟩,h⟩
def Gl (X:Cx) (x:Str):Prop:=X.env.kindOf x=some .globalImplicit
theorem Jqu {pins} {s} {σ:St} {H} {x} {u} {pos} {Q} (I:Su X pins σ H s) (hg:Gl X x) (hm:X.mg x=some u) (h:Q u s)
  (hd:(x==("__debug__" :Str))=false:=by decide):Sh (model X.prog X.w) X.A (eval (.Name x pos) X.env) Q E s:=
 Calls.Name_function_global I.ok.kind hg (Calls.loadGlobal_global (by rw [I.ok.glob];exact I.mod.glob.keeps I.bk) hm h) hd
theorem Jqt {E} {pins} {s} {σ:St} {H} {x} {u} {pos} {Q} (I:Su X pins σ H s) (hg:Gl X x) (hm:X.mg x=none) (hv:bootBuiltins x=some u) (h:Q u s)
  (hn:x≠"__name__" :=by decide) (hd:(x==("__debug__" :Str))=false:=by decide):Sh (model X.prog X.w) X.A (eval (.Name x pos) X.env) Q E s:=by
 obtain ⟨mb,h1,h2⟩:=I.mod.blt
 exact Calls.Name_function_global I.ok.kind hg (Calls.loadGlobal_builtin (by rw [I.ok.glob];exact I.mod.glob.keeps I.bk) hm (by rw [I.ok.blt];exact h1.keeps I.bk) ((h2 x hn).trans hv) h) hd
theorem Jns (hg:Gl X x) (hm:X.mg x=some u) (r:Sa6 v u) (hd:(x==("__debug__" :Str))=false:=by decide):PE X (.Name x pos) (tC v):=
 λ_ _ _ H _ I h=>Jqu I hg hm ⟨v,H,I,r,h⟩ hd
theorem Joc (hg:Gl X x) (hm:X.mg x=none) (hv:bootBuiltins x=some u) (r:Sa6 v u) (hn:x≠"__name__" :=by decide) (hd:(x==("__debug__" :Str))=false:=by decide):PE X (.Name x pos) (tC v):=
 λ_ _ _ H _ I h=>Jqt I hg hm hv ⟨v,H,I,r,h⟩ hn hd
variable {a b:Expr} {ta tb:TE} {pos:Pos}
inductive Sv4 (Q:(Bool->Hp->Prop)) (x:V) (H1:Hp):Prop where
 |mk (c:_) (_:x= .bl c) (_:Q c H1)
def tB (t:TE):TT:=λσ H Q=>t σ H (Sv4 Q)
theorem Jnb (h:PE X e t) (he:∀whole,isTrue e X.env whole=(do let v<-whole;standAt e.pos;holding [v] (truthy v)):=by intro _;rfl):PT X e (tB t):=by
 intro pins s σ H Q I hw
 refine isTrue_plain (thn (h pins s σ H _ I hw) λv s1 zq=>?_) (he _)
 obtain ⟨x,H1,I1,r1,q1⟩:=zq
 obtain ⟨d,rfl,q⟩:=q1
 cases r1
 exact wpAny_truthy_bool ⟨H1,I1,q⟩
variable {tA tB':TT} {rest:List Expr}
def Sv3 (t u:TT):TT:=λσ H Q=>t σ H λc H1=>if c=true then u σ H1 Q else Q false H1
def tOr (t u:TT):TT:=λσ H Q=>t σ H λc H1=>if c=true then Q true H1 else u σ H1 Q
def Sv9 (t:TT):TT:=λσ H Q=>t σ H λc H1=>Q (!c) H1
theorem Jt5 (ha:PT X a tA):PW X (.BoolOp .And [a] pos) tA:=by
 intro wh pins s σ H Q I h
 refine isTrue_and (thn (ha pins s σ H Q I h) λc s1 e=>?_)
 cases c with
 |true=>exact isTrue_and_nil e
 |false=>exact e
theorem Jrn (ha:PT X a tA):PW X (.BoolOp .Or [a] pos) tA:=by
 intro wh pins s σ H Q I h
 refine isTrue_or (thn (ha pins s σ H Q I h) λc s1 e=>?_)
 cases c with
 |false=>exact isTrue_or_nil e
 |true=>exact e
theorem Jsn (ha:PT X a tA) (hb:PW X (.BoolOp .And (b::rest) pos) tB'):PW X (.BoolOp .And (a::b::rest) pos) (Sv3 tA tB'):=by
 intro wh pins s σ H Q I h
 refine isTrue_and (thn (ha pins s σ H _ I h) λc s1 zq=>?_)
 obtain ⟨H1,I1,q1⟩:=zq
 cases c with
 |true=>exact hb wh pins s1 σ H1 Q I1 q1
 |false=>exact ⟨H1,I1,q1⟩
theorem Jt6 (ha:PT X a tA) (hb:PW X (.BoolOp .Or (b::rest) pos) tB'):PW X (.BoolOp .Or (a::b::rest) pos) (tOr tA tB'):=by
 intro wh pins s σ H Q I h
 refine isTrue_or (thn (ha pins s σ H _ I h) λc s1 zq=>?_)
 obtain ⟨H1,I1,q1⟩:=zq
 cases c with
 |true=>exact ⟨H1,I1,q1⟩
 |false=>exact hb wh pins s1 σ H1 Q I1 q1
theorem Jn7 (ha:PT X a tA):PT X (.UnaryOp .Not a pos) (Sv9 tA):=by
 intro pins s σ H Q I h
 exact isTrue_not (ha pins s σ H (λc H1=>Q (!c) H1) I h)
inductive Yf5 (ta tb:TE) (σ:St) (Q:VK) (x:V) (H1:Hp):Prop where
 |mk (c:_) (_:x= .bl c) (_:if c=true then tb σ H1 Q else Q (.bl false) H1)
def Sqp (ta tb:TE):TE:=λσ H Q=>ta σ H (Yf5 ta tb σ Q)
theorem Jsl (h:PE X a t):PE X (.BoolOp op [a] pos) t:=λpins s σ H Q I hw=>BoolOp_one (h pins s σ H Q I hw)
theorem Jsk (ha:PE X a ta) (hb:PE X (.BoolOp .And (b::rest) pos) tb):PE X (.BoolOp .And (a::b::rest) pos) (Sqp ta tb):=by
 intro pins s σ H Q I h
 refine BoolOp_and (thn (ha pins s σ H _ I h) λv s1 zq=>?_)
 obtain ⟨x,H1,I1,r1,q1⟩:=zq
 obtain ⟨c,rfl,q1⟩:=q1
 cases r1
 refine wpAny_truthy_bool ?_
 cases c with
 |true=>exact hb pins s1 σ H1 Q I1 q1
 |false=>exact ⟨.bl false,H1,I1,rfl,q1⟩
def tIf (t:TT) (ta tb:TE):TE:=λσ H Q=>t σ H λc H1=>if c=true then ta σ H1 Q else tb σ H1 Q
theorem Ycg (hc:PT X c tA) (ha:PE X a ta) (hb:PE X b tb):PE X (.IfExp c a b pos) (tIf tA ta tb):=by
 intro pins s σ H Q I h
 refine wpAny_IfExp (thn (hc pins s σ H _ I h) λd s1 zq=>?_)
 obtain ⟨H1,I1,q1⟩:=zq
 cases d with
 |true=>exact ha pins s1 σ H1 Q I1 q1
 |false=>exact hb pins s1 σ H1 Q I1 q1
end
def Sy (K:Si) (H:Hp) (a:S5) (xs:List V):Prop:=
 Rd H a (.lst xs)\/
  ∃(o:Obj) (its:Array S6) (n:Nat),K.lookup a=some o/\o.cls= .type "list" /\o.dict=none/\o.data= .seq its n/\its.size<=Sa/\Sa4 xs its.toList
def SqT (K:Si) (H:Hp) (a:S5) (xs:List V):Prop:=
 Rd H a (.tup xs)\/
  ∃(o:Obj) (its:Array S6) (n:Nat),K.lookup a=some o/\o.cls= .type "tuple" /\o.data= .seq its n/\its.size<=Sa/\Sa4 xs its.toList
def Sua:S6->Option V
 | .none=>some .non
 | .bool b=>some (.bl b)
 | .int i _=>some (.int i)
 | .str x _=>some (.str x)
 | .bytes b _=>some (.byt b)
 | .float b _=>some (.flt b)
 | .ref a=>some (.ref a)
 | .type n=>some (.ty n)
 |_=>none
theorem Sa6.abs (r:Sa6 x u):Sua u=some x:=by
 cases x with
 |non=>cases r;rfl
 |bl _=>cases r;rfl
 |int _=>obtain ⟨t,rfl⟩:=r;rfl
 |str _=>obtain ⟨t,rfl⟩:=r;rfl
 |byt _=>obtain ⟨t,rfl⟩:=r;rfl
 |flt _=>obtain ⟨t,rfl⟩:=r;rfl
 |ref _=>cases r;rfl
 |ty _=>cases r;rfl
theorem Sa6.inj (r:Sa6 x u) (q:Sa6 y u):x=y:=yw.inj (r.abs.symm.trans q.abs)
theorem Sa4.inj:∀{xs ys:List V} {us:List S6},Sa4 xs us->Sa4 ys us->xs=ys
 |_,_,_,.nil,.nil=>rfl
 |_,_,_,.cons r t,.cons r' t'=>by rw [r.inj r',Sa4.inj t t']
section
variable {X:Cx} {pins:List (S5×Obj)} {σ:St} {H:Hp} {s:S7} {a:S5} {xs ys:List V}
theorem Sy.of {K} (h:H a=some (.lst xs)):Sy K H a xs:=.inl (.inl h)
theorem SqT.of {K} (h:H a=some (.tup xs)):SqT K H a xs:=.inl (.inl h)
theorem Su.list (I:Su X pins σ H s) (h:Sy X.K H a xs):∃its:List S6,Sa4 xs its/\PlainL s.heap a its.toArray/\xs.length<=Sa:=by
 rcases h with h|⟨o,its,n,hk,hc,hd,hs,hz,r⟩
 ·obtain ⟨z,its,n,r,e⟩:=h.ok I.hok
  exact ⟨its,r,⟨_,n,e,rfl,rfl,rfl⟩,z⟩
 ·refine ⟨its.toList,r,⟨o,n,I.kIn a o hk,hc,hd,by simpa using hs⟩,?_⟩
  have e:=r.length
  simp only [Array.length_toList] at e
  omega
theorem Su.tuple (I:Su X pins σ H s) (h:SqT X.K H a xs):∃its:List S6,Sa4 xs its/\IsTup s.heap a its.toArray/\xs.length<=Sa:=by
 rcases h with h|⟨o,its,n,hk,hc,hs,hz,r⟩
 ·obtain ⟨z,its,r,p⟩:=h.ok I.hok
  exact ⟨its,r,p,z⟩
 ·refine ⟨its.toList,r,⟨o,I.kIn a o hk,hc,n,by simpa using hs⟩,?_⟩
  have e:=r.length
  simp only [Array.length_toList] at e
  omega
theorem Su.list_inj (I:Su X pins σ H s) (h:Sy X.K H a xs) (h':Sy X.K H a ys):xs=ys:=by
 obtain ⟨its,r,⟨o,n,e,_,_,d⟩,_⟩:=I.list h
 obtain ⟨its',r',⟨o',n',e',_,_,d'⟩,_⟩:=I.list h'
 rw [e] at e';cases e'
 rw [d] at d'
 injection d' with d1 _
 have:=by simpa using congrArg Array.toList d1
 subst this
 exact r.inj r'
theorem Su.tuple_inj (I:Su X pins σ H s) (h:SqT X.K H a xs) (h':SqT X.K H a ys):xs=ys:=by
 obtain ⟨its,r,⟨o,e,_,n,d⟩,_⟩:=I.tuple h
 obtain ⟨its',r',⟨o',e',_,n',d'⟩,_⟩:=I.tuple h'
 rw [e] at e';cases e'
 rw [d] at d'
 injection d' with d1 _
 have:=by simpa using congrArg Array.toList d1
 subst this
 exact r.inj r'
end
abbrev Cx.wish (X:Cx) (E:S6->S7->Prop):Cx:={X with xe:=E}
abbrev Cx.nox (X:Cx):Cx:=X.wish λ_ _=>False
theorem Cx.Ok.wish {X:Cx} (ok:X.Ok) (E):(X.wish E).Ok:=
 ⟨ok.mod,ok.kind,ok.glob,ok.blt,ok.above,ok.inj,ok.has,ok.cab,ok.hd,ok.frames,ok.stk,ok.exf,ok.bs,ok.bsz,ok.noex,ok.exfs,ok.funs,ok.frf⟩
theorem Cx.Ok.unwish {X:Cx} (ok:(X.wish E).Ok):X.Ok:=
 ⟨ok.mod,ok.kind,ok.glob,ok.blt,ok.above,ok.inj,ok.has,ok.cab,ok.hd,ok.frames,ok.stk,ok.exf,ok.bs,ok.bsz,ok.noex,ok.exfs,ok.funs,ok.frf⟩
section
variable {X:Cx} {pins:List (S5×Obj)} {σ:St} {H:Hp} {s:S7} {E:S6->S7->Prop}
theorem Su.wish (I:Su X pins σ H s) (E):Su (X.wish E) pins σ H s:=⟨I.ok.wish E,I.os,I.bare,I.base,I.loc,I.cell,I.free,I.freeC,I.pin,I.hok,I.len⟩
theorem Su.unwish (I:Su (X.wish E) pins σ H s):Su X pins σ H s:=⟨I.ok.unwish,I.os,I.bare,I.base,I.loc,I.cell,I.free,I.freeC,I.pin,I.hok,I.len⟩
theorem SP.unwish (h:SP (X.wish E) pins D f s'):SP X pins D f s':=by
 cases f with
 |next=>obtain ⟨σ',H',I,q⟩:=h;exact ⟨σ',H',I.unwish,q⟩
 |brk=>obtain ⟨σ',H',I,q⟩:=h;exact ⟨σ',H',I.unwish,q⟩
 |cont=>obtain ⟨σ',H',I,q⟩:=h;exact ⟨σ',H',I.unwish,q⟩
 |ret u=>obtain ⟨v,σ',H',I,r,q⟩:=h;exact ⟨v,σ',H',I.unwish,r,q⟩
theorem PSs.nox {st} (h:PSs X.nox st t):PSs X st t:=λpins s σ H D I hw=>
 wpAny_mono (h pins s σ H D (I.wish _) hw) (λ_ _ q=>q.unwish) λ_ _ z=>False.elim z
end
section
variable {X:Cx} {st:Sf} {rest:List Sf} {t u:TS} {e:Expr} {te:TE} {pos:Pos}
def Skr:TS:=λD σ H=>D.nx σ H
def Snn (t u:TS):TS:=λD σ H=>t {D with nx:=u D} σ H
theorem Jmu:PSs X [] Skr:=λ_ _ σ H _ I h=>wpAny_execs_nil ⟨σ,H,I,h⟩
theorem Jmi (h1:PS X st t) (h2:PSs X rest u):PSs X (st::rest) (Snn t u):=by
 intro pins s σ H D I h
 refine wpAny_execs_cons (thn (h1 pins s σ H {D with nx:=u D} I h) λf s1 q=>?_)
 cases f with
 |next=>
  obtain ⟨σ',H',I',q⟩:=q
  exact h2 pins s1 σ' H' D I' q
 |ret v=>exact q
 |brk=>exact q
 |cont=>exact q
theorem Jmk (h1:PS X st t):PSs X [st] t:=by
 intro pins s σ H D I h
 refine wpAny_execs_cons (thn (h1 pins s σ H D I h) λf s1 q=>?_)
 cases f with
 |next=>exact wpAny_execs_nil q
 |ret v=>exact q
 |brk=>exact q
 |cont=>exact q
def Sni:TS:=λD σ H=>D.bk σ H
theorem Jyx:PS X (.Break pos) Sni:=λ_ _ σ H _ I h=>wpAny_Break ⟨σ,H,I,h⟩
theorem Su.quiet (I:Su X pins σ H s):interactive X.env=false:=by simp [interactive,I.ok.kind]
def Squ (te:TE):TS:=λD σ H=>te σ H λ_ H1=>D.nx σ H1
theorem Jom (he:PE X e te) (hs:swapsWith e none pos.line X.env=pure false:=by rfl):PS X (.Expr e pos) (Squ te):=by
 intro pins s σ H D I h
 exact wpAny_Expr_any (thn (he pins s σ H _ I h) λv s1 ⟨x,H1,I1,r1,q1⟩=>⟨σ,H1,I1,q1⟩) I.quiet hs
def Sva (te:TE):TS:=λD σ H=>te σ H D.rt
theorem Jms (he:PE X e te):PS X (.Return (some e) pos) (Sva te):=by
 intro pins s σ H D I h
 exact wpAny_Return_some (thn (he pins s σ H _ I h) λv s1 ⟨x,H1,I1,r1,q1⟩=>⟨x,σ,H1,I1,r1,q1⟩)
def Sv7 (c:TT) (t u:TS):TS:=λD σ H=>c σ H λb H1=>if b=true then t D σ H1 else u D σ H1
theorem Jn6 (hc:PT X c tc) (ha:PSs X a t) (hb:PSs X b u):PS X (.If c a b pos) (Sv7 tc t u):=by
 intro pins s σ H D I h
 refine wpAny_If (thn (hc pins s σ H _ I h) λd s1 zq=>?_)
 obtain ⟨H1,I1,q1⟩:=zq
 cases d with
 |true=>exact ha pins s1 σ H1 D I1 q1
 |false=>exact hb pins s1 σ H1 D I1 q1
end
abbrev TG:=V->St->Hp->(St->Hp->Prop)->Prop
abbrev TGs:=List V->St->Hp->(St->Hp->Prop)->Prop
def PG (X:Cx) (target:Expr) (t:TG):Prop:=
 ∀(pins:List (S5×Obj)) (s:S7) (σ:St) (H:Hp) (v:V) (u:S6) (Q:St->Hp->Prop),Su X pins σ H s->Sa6 v u->t v σ H Q->
  Sh (model X.prog X.w) X.A (assign target X.env u) (λ_ s'=>∃σ' H',Su X pins σ' H' s'/\Q σ' H') X.xe s
def PGs (X:Cx) (ts:List Expr) (t:TGs):Prop:=
 ∀(pins:List (S5×Obj)) (s:S7) (σ:St) (H:Hp) (vs:List V) (us:List S6) (Q:St->Hp->Prop),Su X pins σ H s->Sa4 vs us->t vs σ H Q->
  Sh (model X.prog X.w) X.A (assignInOrder ((assignEach ts X.env).map (·.2)) us) (λ_ s'=>∃σ' H',Su X pins σ' H' s'/\Q σ' H') X.xe s
abbrev Sls:=V->V->V->Hp->(Hp->Prop)->Prop
def Slq (X:Cx) (t:Sls):Prop:=
 ∀(pins:List (S5×Obj)) (s:S7) (σ:St) (H:Hp) (o i v:V) (ov iv u:S6) (Q:Hp->Prop),Su X pins σ H s->Sa6 o ov->Sa6 i iv->Sa6 v u->t o i v H Q->
  Sh (model X.prog X.w) X.A (setItem ov iv u) (λ_ s'=>∃H',Su X pins σ H' s'/\Q H') X.xe s
abbrev TIp:=V->V->Hp->VK->Prop
def PIp (X:Cx) (op:Operator) (t:TIp):Prop:=
 ∀(pins:List (S5×Obj)) (s:S7) (σ:St) (H:Hp) (x y:V) (v u:S6) (Q:VK),Su X pins σ H s->Sa6 x v->Sa6 y u->t x y H Q->
  Sh (model X.prog X.w) X.A (inplaceOp op v u) (EP X pins σ Q) X.xe s
section
variable {X:Cx} {pos:Pos}
def Jp4 (i:Nat):TG:=λv σ H Q=>Q (σ.set i (some v)) H
theorem Jmr (hN:X.N.Nodup) (hi:X.N[i]?=some x) (hx:Loc X.env.scope x) (hf:X.fn x=true\/X.env.scope.names.lookup x=some .local:=by first|exact .inl rfl|exact .inr rfl|assumption):PG X (.Name x pos) (Jp4 i):=by
 intro pins s σ H v u Q I r h
 exact wpAny_assign_Name (Jtb I hN hi hx r (λs' I'=>⟨_,H,I',h⟩) hf)
def Sm6:TGs:=λvs σ H Q=>vs= []/\Q σ H
def Ju8 (t:TG) (u:TGs):TGs:=λvs σ H Q=>∃v r,vs=v::r/\t v σ H λσ' H'=>u r σ' H' Q
theorem Jol:PGs X [] Sm6:=by
 rintro pins s σ H vs us Q I r ⟨e,h⟩
 subst e
 cases r
 exact assignInOrder_nil ⟨σ,H,I,h⟩
theorem Jmy (h1:PG X e t) (h2:PGs X es u)
  (hs:(assignEach (e::es) X.env).map (·.2)=assign e X.env::(assignEach es X.env).map (·.2):=by rfl):PGs X (e::es) (Ju8 t u):=by
 rintro pins s σ H vs us Q I r ⟨v,vr,e1,h⟩
 subst e1
 cases r with
 |cons r rr=>
  rw [hs]
  exact assignInOrder_cons (thn (h1 pins s σ H _ _ _ I r h) λ_ s1 ⟨σ1,H1,I1,q1⟩=>h2 pins s1 σ1 H1 _ _ Q I1 rr q1)
inductive Sjh (K:Si) (n:Nat) (t:TGs) (v:V) (σ:St) (H:Hp) (Q:(St->Hp->Prop)):Prop where
 |mk (a:_) (xs:_) (_:v= .ref a) (_:SqT K H a xs) (_:xs.length=n) (_:t xs σ H Q)
theorem Jrm {k} (hc:X.calm=true) (h:PGs X es t)
  (hn:(assignEach es X.env).length=n:=by rfl) (hst:(assignEach es X.env).findIdx? (·.1)=none:=by rfl):PG X (.Tuple es k pos) (Sjh X.K n t):=by
 rintro pins s σ H v u Q I r ⟨a,xs,e1,hq,hl,hw⟩
 subst e1
 cases r
 obtain ⟨its,rv,ht,hz⟩:=I.tuple hq
 refine assign_Tuple_tuple (I.ok.hd hc) ht (by simp [hn,<-hl,rv.length]) hst λh' hx=>?_
 have I1:Su X pins σ H {s with heap:=h'}:=I.kept λb o e=>hx b o (yr (yi e)) e
 exact h pins _ σ H xs _ Q I1 (by simpa using rv) hw
def Suf (to ti:TE) (t:Sls):TG:=λv σ H Q=>to σ H λo H1=>ti σ H1 λi H2=>t o i v H2 λH3=>Q σ H3
theorem Ju3 (ho:PE X o to) (hi:PE X i ti) (hs:Slq X t)
  (ha:∀v,assign (.Subscript o i pos) X.env v=(do
   let ov<-holding [v] (eval o X.env)
   let iv<-holding [v,ov] (eval i X.env)
   standAt pos
   holding [v,ov,iv] (setItem ov iv v)
   release [v,ov,iv] []):=by intro _;rfl):PG X (.Subscript o i pos) (Suf to ti t):=by
 intro pins s σ H v u Q I r h
 exact S8 (wpAny_holding (thn (ho pins s σ H _ I h) λov s1 ⟨x,H1,I1,r1,q1⟩=>S8 (wpAny_holding (thn (hi pins s1 σ H1 _ I1 q1) λiv s2 ⟨y,H2,I2,r2,q2⟩=>S8 (wpAny_standAt (S8 (wpAny_holding (thn (hs pins s2 σ H2 x y v ov iv u _ I2 r1 r2 r q2) λ_ s3 ⟨H3,I3,q3⟩=>wpAny_release ⟨σ,H3,I3,q3⟩))))))))
def Sqq (te:TE) (g:TG):TS:=λD σ H=>te σ H λx H1=>g x σ H1 D.nx
theorem Jqa (he:PE X e te) (hg:PG X tg g) (hs:swapsWithSole [tg] e pos.line X.env=pure false:=by rfl) (hw:swappedStores [tg] e X.env=pure none:=by rfl)
  (h1:(assignEach [tg] X.env).map (·.2)= [assign tg X.env]:=by rfl):PS X (.Assign [tg] e pos) (Sqq te g):=by
 intro pins s σ H D I h
 refine wpAny_Assign_stores (thn (he pins s σ H _ I h) λv s1 zq=>?_) hs hw
 obtain ⟨x,H1,I1,r1,q1⟩:=zq
 rw [h1]
 exact thn (hg pins s1 σ H1 x v _ I1 r1 q1) λ_ s2 q=>q
theorem Jmt (hN:X.N.Nodup) (hi:X.N[i]?=some x) (hx:Loc X.env.scope x) (he:PE X e te) (hs:swapsWith e (some (.Name x pos')) pos.line X.env=pure false:=by rfl) (hf:X.fn x=true\/X.env.scope.names.lookup x=some .local:=by first|exact .inl rfl|exact .inr rfl|assumption):
  PS X (.Assign [.Name x pos'] e pos) (Sqq te (Jp4 i)):=by
 intro pins s σ H D I h
 exact wpAny_Assign_Name (thn (he pins s σ H _ I h) λv s1 ⟨y,H1,I1,r1,q1⟩=>Jtb I1 hN hi hx r1 (λs2 I2=>⟨_,H1,I2,q1⟩) hf) hs
def Sqr (to ti te:TE) (tget:V->V->Hp->VK->Prop) (tip:TIp) (tset:Sls):TS:=λD σ H=>to σ H λo H1=>ti σ H1 λi H2=>tget o i H2 λx H3=>te σ H3 λy H4=>tip x y H4 λz H5=>tset o i z H5 λH6=>D.nx σ H6
def Spm (X:Cx) (t:V->V->Hp->VK->Prop):Prop:=
 ∀(pins:List (S5×Obj)) (s:S7) (σ:St) (H:Hp) (o i:V) (ov iv:S6) (Q:VK),Su X pins σ H s->Sa6 o ov->Sa6 i iv->t o i H Q->
  Sh (model X.prog X.w) X.A (getItem ov iv) (EP X pins σ Q) X.xe s
theorem Yef (ho:PE X o to) (hi:PE X i ti) (hg:Spm X tget) (he:PE X e te) (hp:PIp X op tip) (hs:Slq X tset)
  (ha:∀ov iv new,augStore i ov iv new=(do holding [new,ov,iv] (setItem ov iv new);release [new,ov,iv] [];pure .next):=by intros;rfl):PS X (.AugAssign (.Subscript o i tpos) op e pos) (Sqr to ti te tget tip tset):=by
 intro pins s σ H D I h
 exact wpAny_AugAssign_SubscriptAny (thn (ho pins s σ H _ I h) λov s1 ⟨x1,H1,I1,r1,q1⟩=>thn (hi pins s1 σ H1 _ I1 q1) λiv s2 ⟨x2,H2,I2,r2,q2⟩=>thn (hg pins s2 σ H2 x1 x2 ov iv _ I2 r1 r2 q2) λold s3 ⟨x3,H3,I3,r3,q3⟩=>thn (he pins s3 σ H3 _ I3 q3) λv s4 ⟨x4,H4,I4,r4,q4⟩=>thn (hp pins s4 σ H4 x3 x4 old v _ I4 r3 r4 q4) λnew s5 ⟨x5,H5,I5,r5,q5⟩=>thn (hs pins s5 σ H5 x1 x2 x5 ov iv new _ I5 r1 r2 r5 q5) λ_ s6 ⟨H6,I6,q6⟩=>⟨σ,H6,I6,q6⟩) ha
inductive ipI (f:Int->Int->Int) (x:V) (y:V) (H:Hp) (Q:VK):Prop where
 |mk (i:_) (j:_) (_:x= .int i) (_:y= .int j) (_:Q (.int (f i j)) H)
theorem Sm8:PIp X .Sub (ipI λi j=>i - j):=by
 rintro pins s σ H x y v u Q I r1 r2 ⟨i,j,e1,e2,q⟩
 subst e1;subst e2
 obtain ⟨t,rfl⟩:=r1
 obtain ⟨t',rfl⟩:=r2
 exact isub_int ⟨.int _,H,I.tok _,⟨_,rfl⟩,q⟩
def Snq (c:TT) (tb:TS):TS:=λD σ H=>∃W:Nat->St->Hp->Prop,(∃m,W m σ H)/\∀m σ H,W m σ H->
 c σ H λb H1=>if b=true then ∃N:St->Hp->Prop,(∀σ' H',N σ' H'->∃m',m' < m/\W m' σ' H')/\tb {D with nx:=N,ct:=N,bk:=D.nx} σ H1 else D.nx σ H1
theorem Ycm (hp:PassesOwn (model X.prog X.w) X.A X.env X.xe) (hc:PT X c tc) (hb:PSs X body tb):PS X (.While c body [] pos) (Snq tc tb):=by
 rintro pins s σ H D I ⟨W,⟨m0,w0⟩,turn⟩
 refine wpAny_While (codeAny_whileLoop (λn s'=>∃σ' H',Su X pins σ' H' s'/\W n σ' H') ?_ m0 ⟨σ,H,I,w0⟩)
 rintro n s1 ⟨σ1,H1,I1,w1⟩
 refine wpAny_passesOwn hp (thn (hc pins s1 σ1 H1 _ I1 (turn n σ1 H1 w1)) λb s2 zq=>?_)
 obtain ⟨H2,I2,q2⟩:=zq
 cases b with
 |true=>
  obtain ⟨N,hN,q2⟩:=q2
  refine wpAny_passesOwn hp (thn (hb pins s2 σ1 H2 _ I2 q2) λf s3 q3=>?_)
  cases f with
  |next=>
   obtain ⟨σ3,H3,I3,n3⟩:=q3
   obtain ⟨m',hm,w3⟩:=hN σ3 H3 n3
   exact ⟨m',hm,σ3,H3,I3,w3⟩
  |cont=>
   obtain ⟨σ3,H3,I3,n3⟩:=q3
   obtain ⟨m',hm,w3⟩:=hN σ3 H3 n3
   exact ⟨m',hm,σ3,H3,I3,w3⟩
  |brk=>exact q3
  |ret v=>exact q3
 |false=>
  exact wpAny_execs_nil ⟨σ1,H2,I2,q2⟩
end
structure It where
 go:Nat->Hp->Prop
 yld:Nat->Hp->V->Hp->Prop
 stop:Nat->Hp->Prop
def Jtg (X:Cx) (pins:List (S5×Obj)) (H:Hp) (b:S5):Prop:=
 H b=none/\b≠X.env.locals/\b∉X.fs/\(b∈X.ex\/X.s₀.heap.objs.size<=b)/\(∀x c,X.env.cells.lookup x=some c->c≠b)/\∀p∈X.pn++pins,p.1≠b
theorem Su.fpOk {σ:St} {H H'} {s} {b:S5} (I:Su X pins σ H s) (hb:s.heap.objs.size<=b) (hn:H' b=none):Jtg X pins H' b:=by
 refine ⟨hn,yaw (yab I.lt hb),I.nofs hb,.inr (yam I.sz hb),λx c e z=>?_,λp hp z=>?_⟩
 ·obtain ⟨v,q⟩:=I.cell x c e
  exact absurd (yab q.lt (by rw [z];exact hb)) (yay _)
 ·exact absurd (yab (yi (I.pin p hp).1) (by rw [z];exact hb)) (yay _)
structure Turn (P:Sb) (w:Sd) (K:Si) (tg:Expr) (J:It) (fp:List S5) (it:S5) (tn:Nat->Sg->Prop):Prop where
 mem:it∈fp
 obj:∀i h,tn i h->∀b∈fp,∃o,h.get? b=some o/\∀v,o.data≠ .cell v
 keep:∀i h h',tn i h->(∀b∈fp,∀o,h.get? b=some o->h'.get? b=some o)->tn i h'
 item:∀(X:Cx),X.prog=P->X.w=w->X.K=K->X.calm=true->∀(i:Nat) (pins:List (S5×Obj)) (s:S7) (σ:St) (H:Hp) (E:S6->S7->Prop),Su X pins σ H s->(∀b∈fp,Jtg X pins H b)->tn i s.heap->J.go i H->
  Sh (model P w) X.A (pyNext (.ref it)) (λr s1=>∃u,r=some u/\
   Sh (model P w) X.A (letOwnedTupleGo tg (.ref it) u) (λ_ s2=>∃x H',Su X pins σ H' s2/\Sa6 x u/\J.yld i H x H'/\tn (i+1) s2.heap/\∀b∈fp,H' b=none) E s1) E s
 done:∀(X:Cx),X.prog=P->X.w=w->X.K=K->X.calm=true->∀(i:Nat) (pins:List (S5×Obj)) (s:S7) (σ:St) (H:Hp) (E:S6->S7->Prop),Su X pins σ H s->(∀b∈fp,Jtg X pins H b)->tn i s.heap->J.stop i H->
  Sh (model P w) X.A (pyNext (.ref it)) (λr s1=>r=none/\Su X pins σ H s1) E s
 self:∀(A:Se) (i:Nat) (s:S7) (Q:S6->S7->Prop) (E:S6->S7->Prop),tn i s.heap->Q (.ref it) s->Sh (model P w) A (pyIter (.ref it)) Q E s
abbrev TI:=St->Hp->(It->Hp->Prop)->Prop
def PIE (X:Cx) (pins:List (S5×Obj)) (σ:St) (tg:Expr) (R:It->Hp->Prop) (itv:S6) (s2:S7):Prop:=
 ∃(it:S5) (fp:List S5) (tn:Nat->Sg->Prop) (J:It) (H':Hp),itv= .ref it/\Su X pins σ H' s2/\Turn X.prog X.w X.K tg J fp it tn/\tn 0 s2.heap/\(∀b∈fp,Jtg X pins H' b)/\R J H'
def PI (X:Cx) (tg iter:Expr) (wi:TI):Prop:=
 ∀(pins:List (S5×Obj)) (s:S7) (σ:St) (H:Hp) (R:It->Hp->Prop),Su X pins σ H s->wi σ H R->
  Sh (model X.prog X.w) X.A (eval iter X.env) (λv s1=>Sh (model X.prog X.w) X.A (pyIter v) (PIE X pins σ tg R) X.xe s1) X.xe s
theorem Yq {s} {tg} {it} {u} {o} {n} {vs} {Q} (ho:s.heap.get? it=some o) (hc:o.cls= .type n) (hd:o.data= .fields vs)
  (hn: ["enumerate","zip","dict_itemiterator","dict_reverseitemiterator","odict_iterator","itertools.zip_longest","itertools.pairwise"].contains n=false) (hQ:Q () s):Sh M A (letOwnedTupleGo tg (.ref it) u) Q E s:=by
 cases tg <;> first
  |exact S9 hQ
  | (cases u <;> first
    |exact S9 hQ
    | (refine S8 (wpAny_load ho ?_)
       rw [hc,hd]
       show Sh M A (if (["enumerate","zip","dict_itemiterator","dict_reverseitemiterator","odict_iterator","itertools.zip_longest","itertools.pairwise"].contains n&&vs[0]?==some (rawInt _))=true then _ else _) Q E s
       rw [if_neg (by intro h;rw [hn] at h;cases h)]
       exact S9 hQ))
def Itl (K:Si) (a:S5):It:=
 ⟨λi H=>∃xs x,Sy K H a xs/\xs[i]?=some x,λi H x H'=>H'=H/\∀xs,Sy K H a xs->xs[i]?=some x,λi H=>∃xs,Sy K H a xs/\xs.length<=i⟩
def Itt (K:Si) (a:S5):It:=
 ⟨λi H=>∃xs x,SqT K H a xs/\xs[i]?=some x,λi H x H'=>H'=H/\∀xs,SqT K H a xs->xs[i]?=some x,λi H=>∃xs,SqT K H a xs/\xs.length<=i⟩
def Itr (lo:Int) (n:Nat):It:=⟨λi _=>i < n,λi H x H'=>H'=H/\x= .int (lo+i),λi _=>n<=i⟩
theorem Jx8 {K} (a it):Turn P w K tg (Itl K a) [it] it (λi h=>h.IsListIter it a i) where
 mem:=by simp
 obj:=λi h st b hb=>by
  have e:=by simpa using hb
  subst e
  obtain ⟨o,e,c,d⟩:=st
  exact ⟨o,e,λv z=>by rw [d] at z;cases z⟩
 keep:=λi h h' st k=>st.at λo e=>k it (by simp) o e
 item:=by
  intro X hP hw hK hc i pins s σ H E I hf st hg
  subst hP hw hK
  obtain ⟨xs,x,hq,hx⟩:=hg
  obtain ⟨its,rv,p,hz⟩:=I.list hq
  obtain ⟨u,hu,ru⟩:=rv.get hx
  obtain ⟨f0,f1,f2,f3,f4,f5⟩:=hf it (by simp)
  refine wpAny_pyNext_list_item st p.isList (by simpa using hu) λh' st' sb=>?_
  have I1:Su X pins σ H {s with heap:=h'}:=I.turned (λb o hb e=>(sb.2 b hb).trans e) f0 f1 f3 f4 f5
  obtain ⟨o,e,c,d⟩:=id st'
  exact ⟨u,rfl,Yq e c d (by decide) ⟨x,H,I1,ru,⟨rfl,λys hy=>by rw [I.list_inj hy hq];exact hx⟩,st',λb hb=>(hf b hb).1⟩⟩
 done:=by
  intro X hP hw hK hc i pins s σ H E I hf st hg
  subst hP hw hK
  obtain ⟨xs,hq,hx⟩:=hg
  obtain ⟨its,rv,p,hz⟩:=I.list hq
  obtain ⟨f0,f1,f2,f3,f4,f5⟩:=hf it (by simp)
  have hl:=rv.length
  exact wpAny_pyNext_list_end (I.ok.hd hc) st p.isList (by simp;omega) λh' eb=>⟨rfl,I.turned (λb o hb e=>eb b o hb e) f0 f1 f3 f4 f5⟩
 self:=λ_ _ _ _ _ st h=>wpAny_pyIter_listiter st h
theorem Jw5 {K} (a it):Turn P w K tg (Itt K a) [it] it (λi h=>h.IsTupleIter it a i) where
 mem:=by simp
 obj:=λi h st b hb=>by
  have e:=by simpa using hb
  subst e
  obtain ⟨o,e,c,d⟩:=st
  exact ⟨o,e,λv z=>by rw [d] at z;cases z⟩
 keep:=λi h h' st k=>st.at λo e=>k it (by simp) o e
 item:=by
  intro X hP hw hK hc i pins s σ H E I hf st hg
  subst hP hw hK
  obtain ⟨xs,x,hq,hx⟩:=hg
  obtain ⟨its,rv,p,hz⟩:=I.tuple hq
  obtain ⟨u,hu,ru⟩:=rv.get hx
  obtain ⟨f0,f1,f2,f3,f4,f5⟩:=hf it (by simp)
  refine wpAny_pyNext_tuple_item st (p) (by simpa using hu) λh' st' sb=>?_
  have I1:Su X pins σ H {s with heap:=h'}:=I.turned (λb o hb e=>(sb.2 b hb).trans e) f0 f1 f3 f4 f5
  obtain ⟨o,e,c,d⟩:=id st'
  exact ⟨u,rfl,Yq e c d (by decide) ⟨x,H,I1,ru,⟨rfl,λys hy=>by rw [I.tuple_inj hy hq];exact hx⟩,st',λb hb=>(hf b hb).1⟩⟩
 done:=by
  intro X hP hw hK hc i pins s σ H E I hf st hg
  subst hP hw hK
  obtain ⟨xs,hq,hx⟩:=hg
  obtain ⟨its,rv,p,hz⟩:=I.tuple hq
  obtain ⟨f0,f1,f2,f3,f4,f5⟩:=hf it (by simp)
  have hl:=rv.length
  exact wpAny_pyNext_tuple_end (I.ok.hd hc) st (p) (by simp;omega) λh' eb=>⟨rfl,I.turned (λb o hb e=>eb b o hb e) f0 f1 f3 f4 f5⟩
 self:=λ_ _ _ _ _ st h=>wpAny_pyIter_tupleiter st h
theorem Yc {K} (it) (lo) (n):Turn P w K tg (Itr lo n) [it] it (λi h=>IsRangeIter h it (lo+i*1) (n - i) 1) where
 mem:=by simp
 obj:=λi h st b hb=>by
  have e:=by simpa using hb
  subst e
  exact ⟨_,st,λv z=>by
   cases z⟩
 keep:=λi h h' st k=>k it (by simp) _ st
 item:=by
  intro X hP hw hK hc i pins s σ H E I hf st hg
  obtain ⟨f0,f1,f2,f3,f4,f5⟩:=hf it (by simp)
  refine (Walks.range (I.ok.hd hc) it lo 1 n).item i s _ _ hg st λv h' tk hv st' kk=>?_
  obtain ⟨t,rfl⟩:=hv
  have I1:Su X pins σ H {s with heap:=h',toks:=tk}:=I.turned (λb o hb e=>kk b o (by simpa using hb) e) f0 f1 f3 f4 f5
  refine ⟨_,rfl,Yq st' rfl rfl (by decide) ⟨.int (lo+i),H,I1,⟨t,?_⟩,⟨rfl,rfl⟩,st',λb hb=>(hf b hb).1⟩⟩
  rw [Int.mul_one]
 done:=by
  intro X hP hw hK hc i pins s σ H E I hf st hg
  obtain ⟨f0,f1,f2,f3,f4,f5⟩:=hf it (by simp)
  exact wpAny_pyNext_range_end (I.ok.hd hc) st (by have:n<=i:=hg;omega) λh' eb=>⟨rfl,I.turned (λb o hb e=>eb b o hb e) f0 f1 f3 f4 f5⟩
 self:=λ_ _ _ _ _ st h=>wpAny_pyIter_rangeiter st h
section
variable {X:Cx} {tg:Expr}
def Spx (K:Si) (tl:TE):TI:=λσ H R=>tl σ H λx H1=>∃a,x= .ref a/\(∃xs,Sy K H1 a xs)/\R (Itl K a) H1
def Suk (K:Si) (tl:TE):TI:=λσ H R=>tl σ H λx H1=>∃a,x= .ref a/\(∃xs,SqT K H1 a xs)/\R (Itt K a) H1
theorem Jo2 (hl:PE X l tl):PI X tg l (Spx X.K tl):=by
 intro pins s σ H R I h
 refine thn (hl pins s σ H _ I h) λv s1 zq=>?_
 obtain ⟨x,H1,I1,r1,q1⟩:=zq
 obtain ⟨a,e,⟨xs,hq⟩,q⟩:=q1
 subst e
 cases r1
 obtain ⟨its,rv,p,hz⟩:=I1.list hq
 refine wpAny_pyIter_list p.isList ⟨s1.heap.objs.size,[s1.heap.objs.size],_,_,H1,rfl,I1.kept λb o e=>yn _ e,Jx8 a _,⟨_,yq _ rfl,rfl,rfl⟩,λb hb=>?_,q⟩
 have e:=by simpa using hb
 subst e
 exact I1.fpOk (yl _) (I1.hok.fresh (yl _))
theorem Jsm (hl:PE X l tl):PI X tg l (Suk X.K tl):=by
 intro pins s σ H R I h
 refine thn (hl pins s σ H _ I h) λv s1 zq=>?_
 obtain ⟨x,H1,I1,r1,q1⟩:=zq
 obtain ⟨a,e,⟨xs,hq⟩,q⟩:=q1
 subst e
 cases r1
 obtain ⟨its,rv,p,hz⟩:=I1.tuple hq
 refine wpAny_pyIter_tuple (p) ⟨s1.heap.objs.size,[s1.heap.objs.size],_,_,H1,rfl,I1.kept λb o e=>yn _ e,Jw5 a _,⟨_,yq _ rfl,rfl,rfl⟩,λb hb=>?_,q⟩
 have e:=by simpa using hb
 subst e
 exact I1.fpOk (yl _) (I1.hok.fresh (yl _))
theorem Jyy {σ:St} {H} {s} {R} {E} {lo hi} {t u v} {tk} (I:Su X pins σ H s) (h1: -(2^62)<=lo) (h2:lo < 2^62) (h3: -(2^62)<=hi) (h4:hi < 2^62)
  (q:R (Itr lo (hi - lo).toNat) H):Sh (model X.prog X.w) X.A (pyIter (.ref s.heap.objs.size)) (PIE X pins σ tg R) E {s with heap:=s.heap.push {cls:=.type "range",data:=.fields #[.int lo t,.int hi u,.int 1 v]},toks:=tk}:=by
 refine wpAny_pyIter_range (IsRange.new ..) (small_one h1 h2 h3 h4) ?_
 have I1:Su X pins σ H {s with heap:=s.heap.push {cls:=.type "range",data:=.fields #[.int lo t,.int hi u,.int 1 v]},toks:=tk}:=I.kept λb o e=>yn _ e
 refine ⟨(s.heap.push {cls:=.type "range",data:=.fields #[.int lo t,.int hi u,.int 1 v]}).objs.size,[(s.heap.push {cls:=.type "range",data:=.fields #[.int lo t,.int hi u,.int 1 v]}).objs.size],_,_,H,rfl,
  I1.kept λb o e=>yn _ e,Yc _ lo (hi - lo).toNat,?_,λb hb=>?_,q⟩
 ·have e1:lo+(0:Nat)*1=lo:=by simp
  have e2:(hi - lo).toNat - (0:Nat)=Builtin.Range.rangeSize lo hi 1:=by rw [rangeSize_one];split <;> omega
  rw [e1,e2]
  exact yq _ rfl
 ·have e:b=(s.heap.push {cls:=.type "range",data:=.fields #[.int lo t,.int hi u,.int 1 v]}).objs.size:=by simpa using hb
  subst e
  exact I1.fpOk (yl _) (I1.hok.fresh (yl _))
def Spy (ta:TA):TI:=λσ H R=>ta σ H λvs H1=>∃j:Int,vs= [.int j]/\ -(2^62)<=j/\j < 2^62/\R (Itr 0 j.toNat) H1
def Spz (ta:TA):TI:=λσ H R=>ta σ H λvs H1=>∃i j:Int,vs= [.int i,.int j]/\(-(2^62)<=i/\i < 2^62/\ -(2^62)<=j/\j < 2^62)/\R (Itr i (j - i).toNat) H1
theorem Jpb (hg:Gl X "range") (hm:X.mg "range" =none) (ha:PA X [a] ta) (hs:starEach [a] X.env= [(false,eval a X.env)]:=by rfl):PI X tg (.Call (.Name "range" p) [a] [] pos) (Spy ta):=by
 intro pins s σ H R I h
 refine Call_ (Jqt I hg hm boot_range (PyProof.Rows.callWith_type1 (thn (ha pos pins s σ H _ I h) λus s1 zq=>?_) hs rfl))
 obtain ⟨vs,H1,I1,r1,q1⟩:=zq
 obtain ⟨j,e,q1,q2,q⟩:=q1
 subst e
 cases r1 with
 |cons r rr=>
  cases rr
  obtain ⟨t,rfl⟩:=r
  exact call_range_1 (Jyy I1 (by omega) (by omega) q1 q2 (by simpa using q))
theorem Yb0 (hg:Gl X "range") (hm:X.mg "range" =none) (ha:PA X [a,b] ta) (hs:starEach [a,b] X.env= [(false,eval a X.env),(false,eval b X.env)]:=by rfl) (hs2:starEach [b] X.env= [(false,eval b X.env)]:=by rfl):
  PI X tg (.Call (.Name "range" p) [a,b] [] pos) (Spz ta):=by
 intro pins s σ H R I h
 refine Call_ (Jqt I hg hm boot_range (PyProof.Rows.callWith_type1 (thn (ha pos pins s σ H _ I h) λus s1 zq=>?_) (by rw [hs,hs2]) (by rw [hs2];rfl)))
 obtain ⟨vs,H1,I1,r1,q1⟩:=zq
 obtain ⟨i,j,e,⟨q1,q2,q3,q4⟩,q⟩:=q1
 subst e
 cases r1 with
 |cons r rr=>
  cases rr with
  |cons r' rr=>
   cases rr
   obtain ⟨t,rfl⟩:=r
   obtain ⟨t',rfl⟩:=r'
   exact call_range_2 (Jyy I1 q1 q2 q3 q4 q)
def Sv6 (wi:TI) (g:TG) (tb:TS):TS:=λD σ H=>wi σ H λJ H1=>∃W:Nat->Nat->St->Hp->Prop,(∃m,W 0 m σ H1)/\∀i m σ H,W i m σ H->
 (J.stop i H/\D.nx σ H)\/(J.go i H/\∃N:St->Hp->Prop,(∀σ' H',N σ' H'->∃m',m' < m/\W (i+1) m' σ' H')/\∀x H',J.yld i H x H'->g x σ H' λσ2 H2=>tb {D with nx:=N,ct:=N,bk:=D.nx} σ2 H2)
def Jw1 (fp:List S5) (h:Sg):List (S5×Obj):=fp.filterMap λb=>(h.get? b).map λo=>(b,o)
theorem Jqv (hb:b∈fp) (e:h.get? b=some o):(b,o)∈Jw1 fp h:=List.mem_filterMap.mpr ⟨b,hb,by rw [e];rfl⟩
theorem Yau (hp:p∈Jw1 fp h):p.1∈fp/\h.get? p.1=some p.2:=by
 obtain ⟨b,hb,e⟩:=List.mem_filterMap.mp hp
 cases q:h.get? b with
 |none=>rw [q] at e;cases e
 |some o=>
  rw [q] at e
  have e':=yw.inj e
  subst e'
  exact ⟨hb,q⟩
theorem Su.pinned (I:Su X pins σ H s) (hf:∀b∈fp,Jtg X pins H b) (ho:∀b∈fp,∃o,s.heap.get? b=some o/\∀v,o.data≠ .cell v):Su X (pins++Jw1 fp s.heap) σ H s:=
 I.pins_of λp hp=>(ybn.mp hp).elim (λz=>I.pin p (ybe _ z)) λz=>by
  obtain ⟨hb,e⟩:=Yau z
  obtain ⟨f0,f1,f2,_⟩:=hf p.1 hb
  obtain ⟨o,e',d⟩:=ho p.1 hb
  rw [e] at e';cases e'
  exact ⟨e,f0,f1,f2,d⟩
theorem Su.unpinned (I:Su X (pins++pl) σ H s):Su X pins σ H s:=I.pins_of λp hp=>I.pin p (ybe _ (List.mem_append_left _ hp))
theorem Jqb (hp:PassesOwn (model X.prog X.w) X.A X.env X.xe) (hc:X.calm=true) (hi:PI X tg iter wi) (hg:PG X tg g) (hb:PSs X body tb)
  (hs:∀x,foldedSetIterable iter X.env x=pure x:=by intro _;rfl):PS X (.For tg iter body [] pos) (Sv6 wi g tb):=by
 intro pins s σ H D I h
 refine wpAny_For (thn (hi pins s σ H _ I h) λv s1 h1=>thn h1 λitv s2 h2=>?_) hs
 obtain ⟨it,fp,tn,J,H2,e,I2,T,st2,f2,W,⟨m0,w0⟩,turn⟩:=h2
 subst e
 have stat:∀{H':Hp},(∀b∈fp,H' b=none)->∀b∈fp,Jtg X pins H' b:=λhn b hb=>⟨hn b hb,(f2 b hb).2⟩
 refine codeAny_forLoop_any (λn s'=>∃i σ' H',Su X pins σ' H' s'/\tn i s'.heap/\(∀b∈fp,H' b=none)/\W i n σ' H') ?_ m0 ⟨0,σ,H2,I2,st2,λb hb=>(f2 b hb).1,w0⟩
 rintro n s3 ⟨i,σ3,H3,I3,st3,fr3,w3⟩
 rcases turn i n σ3 H3 w3 with ⟨stop,qn⟩|⟨go,N,hN,step⟩
 ·refine wpAny_passesOwn hp (thn (T.done X rfl rfl rfl hc i pins s3 σ3 H3 X.xe I3 (stat fr3) st3 stop) λr s4 ⟨hr,I4⟩=>?_)
  subst hr
  exact wpAny_execs_nil ⟨σ3,H3,I4,qn⟩
 ·refine wpAny_passesOwn hp (thn (T.item X rfl rfl rfl hc i pins s3 σ3 H3 X.xe I3 (stat fr3) st3 go) λr s4 ⟨u,hr,h4⟩=>?_)
  subst hr
  refine wpAny_passesOwn hp (thn h4 λ_ s5 ⟨x,H5,I5,r5,y5,st5,fr5⟩=>wpAny_passesOwn hp (thn (hg _ s5 σ3 H5 x u _ (I5.pinned (stat fr5) (T.obj _ _ st5)) r5 (step x H5 y5)) λ_ s6 ⟨σ6,H6,I6,q6⟩=>wpAny_passesOwn hp (thn (hb _ s6 σ6 H6 _ I6 q6) λf s7 q7=>?_)))
  have again:∀{σ7:St} {H7:Hp},Su X (pins++Jw1 fp s5.heap) σ7 H7 s7->N σ7 H7->∃m,m < n/\∃i σ' H',Su X pins σ' H' s7/\tn i s7.heap/\(∀b∈fp,H' b=none)/\W i m σ' H':=λ{σ7 H7} I7 n7=>by
   obtain ⟨m',hm,w7⟩:=hN σ7 H7 n7
   refine ⟨m',hm,i+1,σ7,H7,I7.unpinned,T.keep _ _ _ st5 λb hb o e=>(I7.pin (b,o) (ybe _ (ybe _ (Jqv hb e)))).1,λb hb=>?_,w7⟩
   obtain ⟨o,e,d⟩:=T.obj _ _ st5 b hb
   exact (I7.pin (b,o) (ybe _ (ybe _ (Jqv hb e)))).2.1
  cases f with
  |next=>obtain ⟨σ7,H7,I7,n7⟩:=q7;exact again I7 n7
  |cont=>obtain ⟨σ7,H7,I7,n7⟩:=q7;exact again I7 n7
  |brk=>obtain ⟨σ7,H7,I7,q7⟩:=q7;exact ⟨σ7,H7,I7.unpinned,q7⟩
  |ret v=>obtain ⟨x7,σ7,H7,I7,r7,q7⟩:=q7;exact ⟨x7,σ7,H7,I7.unpinned,r7,q7⟩
end
theorem Jvf {K} {a} {xs} {g:TG} {tb:TS} {D:Sch} {σ} {H} (Pv:Nat->St->Hp->Prop) (h0:Pv 0 σ H) (hl:∀i σ H,i<=xs.length->Pv i σ H->Sy K H a xs)
  (hs:∀i x σ H,xs[i]?=some x->Pv i σ H->g x σ H λσ2 H2=>tb {D with nx:=Pv (i+1),ct:=Pv (i+1),bk:=D.nx} σ2 H2) (hd:∀σ H,Pv xs.length σ H->D.nx σ H):
  ∃W:Nat->Nat->St->Hp->Prop,(∃m,W 0 m σ H)/\∀i m σ H,W i m σ H->
   ((Itl K a).stop i H/\D.nx σ H)\/((Itl K a).go i H/\∃N:St->Hp->Prop,(∀σ' H',N σ' H'->∃m',m' < m/\W (i+1) m' σ' H')/\∀x H',(Itl K a).yld i H x H'->g x σ H' λσ2 H2=>tb {D with nx:=N,ct:=N,bk:=D.nx} σ2 H2):=by
 refine ⟨λi m σ H=>m=xs.length - i/\i<=xs.length/\Pv i σ H,⟨xs.length,by simp,yad _,h0⟩,?_⟩
 rintro i m σ H ⟨rfl,hi,p⟩
 have q:=hl i σ H hi p
 by_cases hlt:i < xs.length
 ·refine .inr ⟨⟨xs,xs[i],q,by simp [hlt]⟩,Pv (i+1),λσ' H' p'=>⟨xs.length - (i+1),by omega,rfl,hlt,p'⟩,λx H' y=>?_⟩
  obtain ⟨e,y⟩:=y
  subst e
  exact hs i x σ _ (y xs q) p
 ·have e:i=xs.length:=by omega
  subst e
  exact .inl ⟨⟨xs,q,yl _⟩,hd σ H p⟩
theorem Ye1 {K} {a} {xs} {g:TG} {tb:TS} {D:Sch} {σ} {H} (Pv:Nat->St->Hp->Prop) (h0:Pv 0 σ H) (hl:∀i σ H,i<=xs.length->Pv i σ H->SqT K H a xs)
  (hs:∀i x σ H,xs[i]?=some x->Pv i σ H->g x σ H λσ2 H2=>tb {D with nx:=Pv (i+1),ct:=Pv (i+1),bk:=D.nx} σ2 H2) (hd:∀σ H,Pv xs.length σ H->D.nx σ H):
  ∃W:Nat->Nat->St->Hp->Prop,(∃m,W 0 m σ H)/\∀i m σ H,W i m σ H->
   ((Itt K a).stop i H/\D.nx σ H)\/((Itt K a).go i H/\∃N:St->Hp->Prop,(∀σ' H',N σ' H'->∃m',m' < m/\W (i+1) m' σ' H')/\∀x H',(Itt K a).yld i H x H'->g x σ H' λσ2 H2=>tb {D with nx:=N,ct:=N,bk:=D.nx} σ2 H2):=by
 refine ⟨λi m σ H=>m=xs.length - i/\i<=xs.length/\Pv i σ H,⟨xs.length,by simp,yad _,h0⟩,?_⟩
 rintro i m σ H ⟨rfl,hi,p⟩
 have q:=hl i σ H hi p
 by_cases hlt:i < xs.length
 ·refine .inr ⟨⟨xs,xs[i],q,by simp [hlt]⟩,Pv (i+1),λσ' H' p'=>⟨xs.length - (i+1),by omega,rfl,hlt,p'⟩,λx H' y=>?_⟩
  obtain ⟨e,y⟩:=y
  subst e
  exact hs i x σ _ (y xs q) p
 ·have e:i=xs.length:=by omega
  subst e
  exact .inl ⟨⟨xs,q,yl _⟩,hd σ H p⟩
theorem Jqi {lo} {n} {g:TG} {tb:TS} {D:Sch} {σ} {H} (Pv:Nat->St->Hp->Prop) (h0:Pv 0 σ H)
  (hs:∀i σ H,i < n->Pv i σ H->g (.int (lo+i)) σ H λσ2 H2=>tb {D with nx:=Pv (i+1),ct:=Pv (i+1),bk:=D.nx} σ2 H2) (hd:∀σ H,Pv n σ H->D.nx σ H):
  ∃W:Nat->Nat->St->Hp->Prop,(∃m,W 0 m σ H)/\∀i m σ H,W i m σ H->
   ((Itr lo n).stop i H/\D.nx σ H)\/((Itr lo n).go i H/\∃N:St->Hp->Prop,(∀σ' H',N σ' H'->∃m',m' < m/\W (i+1) m' σ' H')/\∀x H',(Itr lo n).yld i H x H'->g x σ H' λσ2 H2=>tb {D with nx:=N,ct:=N,bk:=D.nx} σ2 H2):=by
 refine ⟨λi m σ H=>m=n - i/\i<=n/\Pv i σ H,⟨n,by simp,yad _,h0⟩,?_⟩
 rintro i m σ H ⟨rfl,hi,p⟩
 by_cases hlt:i < n
 ·refine .inr ⟨hlt,Pv (i+1),λσ' H' p'=>⟨n - (i+1),by omega,rfl,hlt,p'⟩,λx H' y=>?_⟩
  obtain ⟨e,y⟩:=y
  subst e y
  exact hs i σ _ hlt p
 ·have e:i=n:=by omega
  subst e
  exact .inl ⟨yl _,hd σ H p⟩
abbrev R2:=V->V->Hp->VK->Prop
def OpR (X:Cx) (f:S6->S6->Sem S6) (r:R2):Prop:=
 ∀(pins:List (S5×Obj)) (s:S7) (σ:St) (H:Hp) (x y:V) (v u:S6) (Q:VK),Su X pins σ H s->Sa6 x v->Sa6 y u->r x y H Q->
  Sh (model X.prog X.w) X.A (f v u) (EP X pins σ Q) X.xe s
def UnR (X:Cx) (f:S6->Sem S6) (r:V->Hp->VK->Prop):Prop:=
 ∀(pins:List (S5×Obj)) (s:S7) (σ:St) (H:Hp) (x:V) (v:S6) (Q:VK),Su X pins σ H s->Sa6 x v->r x H Q->
  Sh (model X.prog X.w) X.A (f v) (EP X pins σ Q) X.xe s
def Jpl (X:Cx) (f:S6) (r:List V->Hp->VK->Prop):Prop:=
 ∀(pins:List (S5×Obj)) (s:S7) (σ:St) (H:Hp) (xs:List V) (us:List S6) (Q:VK),Su X pins σ H s->Sa4 xs us->r xs H Q->
  Sh (model X.prog X.w) X.A (call f us) (EP X pins σ Q) X.xe s
def Stz (X:Cx) (r:V->Hp->(Bool->Hp->Prop)->Prop):Prop:=
 ∀(pins:List (S5×Obj)) (s:S7) (σ:St) (H:Hp) (x:V) (v:S6) (Q:Bool->Hp->Prop),Su X pins σ H s->Sa6 x v->r x H Q->
  Sh (model X.prog X.w) X.A (truthy v) (TP X pins σ Q) X.xe s
def tOp (r:R2) (ta tb:TE):TE:=λσ H Q=>ta σ H λx H1=>tb σ H1 λy H2=>r x y H2 Q
def tUn (r:V->Hp->VK->Prop) (ta:TE):TE:=λσ H Q=>ta σ H λx H1=>r x H1 Q
inductive rI (C:Int->Int->Prop) (g:Int->Int->V) (x:V) (y:V) (H:Hp) (Q:VK):Prop where
 |mk (i:_) (j:_) (_:x= .int i) (_:y= .int j) (_:C i j) (_:Q (g i j) H)
inductive rI0 (g:Int->Int->V) (x:V) (y:V) (H:Hp) (Q:VK):Prop where
 |mk (i:_) (j:_) (_:x= .int i) (_:y= .int j) (_:Q (g i j) H)
inductive rU (g:Int->V) (x:V) (H:Hp) (Q:VK):Prop where
 |mk (i:_) (_:x= .int i) (_:Q (g i) H)
section
variable {X:Cx} {a b c:Expr} {ta tb tc:TE} {pos:Pos}
theorem Slx (ha:PE X a ta) (hb:PE X b tb) {R:V->V->Hp->Prop} (I:Su X pins σ H s)
  (h:ta σ H λx H1=>tb σ H1 λy H2=>R x y H2) {f:S6->S6->Sem S6}
  (hf:∀v u s2 x y H2,Su X pins σ H2 s2->Sa6 x v->Sa6 y u->R x y H2->Sh (model X.prog X.w) X.A (f v u) Q X.xe s2):
  Sh (model X.prog X.w) X.A (eval a X.env) (λv s₁=>Sh (model X.prog X.w) X.A (eval b X.env) (λu s₂=>Sh (model X.prog X.w) X.A (f v u) Q X.xe s₂) X.xe s₁) X.xe s:=thn (ha pins s σ H _ I h) λv s1 ⟨x,H1,I1,r1,q1⟩=>thn (hb pins s1 σ H1 _ I1 q1) λu s2 ⟨y,H2,I2,r2,q2⟩=>hf v u s2 x y H2 I2 r1 r2 q2
theorem Jn0 (ho:OpR X (binaryOp op) r) (ha:PE X a ta) (hb:PE X b tb):PE X (.BinOp a op b pos) (tOp r ta tb):=by
 intro pins s σ H Q I h
 exact wpAny_BinOp (Slx ha hb I h λv u s2 x y H2 I2 rx ry q=>ho pins s2 σ H2 x y v u Q I2 rx ry q)
theorem Yci (ho:UnR X (unaryOp op) r) (ha:PE X a ta):PE X (.UnaryOp op a pos) (tUn r ta):=by
 intro pins s σ H Q I h
 exact UnaryOp_ (thn (ha pins s σ H _ I h) λv s1 ⟨x,H1,I1,r1,q1⟩=>ho pins s1 σ H1 x v Q I1 r1 q1)
theorem opI {C} {g:Int->Int->Int}
  (rule:∀i j t u s Q E,C i j->Q (.int (g i j) s.toks) {s with toks:=s.toks+1}->Sh (model X.prog X.w) X.A (f (.int i t) (.int j u)) Q E s):
  OpR X f (rI C λi j=>.int (g i j)):=by
 rintro pins s σ H x y v u Q I rx ry ⟨i,j,rfl,rfl,hc,q⟩
 obtain ⟨t,rfl⟩:=rx
 obtain ⟨t',rfl⟩:=ry
 exact rule i j t t' s _ _ hc ⟨.int (g i j),H,I.tok _,⟨_,rfl⟩,q⟩
theorem Sq5 {g:Int->Int->Int}
  (rule:∀i j t u s Q E,Q (.int (g i j) s.toks) {s with toks:=s.toks+1}->Sh (model X.prog X.w) X.A (f (.int i t) (.int j u)) Q E s):
  OpR X f (rI0 λi j=>.int (g i j)):=by
 rintro pins s σ H x y v u Q I rx ry ⟨i,j,rfl,rfl,q⟩
 obtain ⟨t,rfl⟩:=rx
 obtain ⟨t',rfl⟩:=ry
 exact rule i j t t' s _ _ ⟨.int (g i j),H,I.tok _,⟨_,rfl⟩,q⟩
theorem Sji {g:Int->Int->Bool}
  (rule:∀i j t u s Q E,Q (.bool (g i j)) s->Sh (model X.prog X.w) X.A (f (.int i t) (.int j u)) Q E s):
  OpR X f (rI0 λi j=>.bl (g i j)):=by
 rintro pins s σ H x y v u Q I rx ry ⟨i,j,rfl,rfl,q⟩
 obtain ⟨t,rfl⟩:=rx
 obtain ⟨t',rfl⟩:=ry
 exact rule i j t t' s _ _ ⟨.bl (g i j),H,I,rfl,q⟩
def Ssk (i j:Int):Prop:=0<=j/\j<=1000000/\i.natAbs < 2^64
def Sku (i j:Int):Prop:=(-(2^64) < i/\i < 2^64)\/(-(2^64) < j/\j < 2^64)
theorem Sku.ok (h:Sku i j):IntMulOk i j:=by
 rcases h with ⟨h1,h2⟩|⟨h1,h2⟩
 ·exact .of_left (intBits_le_64 h1 h2)
 ·exact .of_right (intBits_le_64 h1 h2)
theorem Jnp:OpR X (binaryOp .Add) (rI0 λi j=>.int (i+j)):=Sq5 λ_ _ _ _ _ _ _ q=>add_int q
theorem Jo9:OpR X (binaryOp .Sub) (rI0 λi j=>.int (i - j)):=Sq5 λ_ _ _ _ _ _ _ q=>sub_int q
theorem Jrj:OpR X (binaryOp .Mult) (rI Sku λi j=>.int (i*j)):=opI λ_ _ _ _ _ _ _ hc q=>mul_int q hc.ok
theorem Jri:OpR X (binaryOp .Mod) (rI (λ_ j=>0 < j) λi j=>.int (i%j)):=opI λi j _ _ _ _ _ hc q=>mod_int' (by omega) (by rw [Int.fmod_eq_emod_of_nonneg i (by omega)];exact q)
theorem Yce:OpR X (binaryOp .Pow) (rI Ssk λi j=>.int (i^j.toNat)):=opI λ_ _ _ _ _ _ _ hc q=>pow_int_small hc.1 hc.2.1 hc.2.2 q
theorem unI {g:Int->Int}
  (rule:∀i t s Q E,Q (.int (g i) s.toks) {s with toks:=s.toks+1}->Sh (model X.prog X.w) X.A (f (.int i t)) Q E s):
  UnR X f (rU λi=>.int (g i)):=by
 rintro pins s σ H x v Q I rx ⟨i,rfl,q⟩
 obtain ⟨t,rfl⟩:=rx
 exact rule i t s _ _ ⟨.int (g i),H,I.tok _,⟨_,rfl⟩,q⟩
theorem Yd:UnR X (unaryOp .USub) (rU λi=>.int (-i)):=unI λ_ _ _ _ _ q=>neg_int q
end
def Smw:V->V->Bool
 | .non,.non=>true| .non,.int _=>true| .int _,.non=>true| .non,.bl _=>true| .bl _,.non=>true| .non,.str _=>true| .str _,.non=>true
 | .int _,.int _=>true| .bl _,.bl _=>true| .str _,.str _=>true| .byt _,.byt _=>true
 | .int _,.str _=>true| .str _,.int _=>true| .bl _,.str _=>true| .str _,.bl _=>true
 |_,_=>false
inductive rEq (x:V) (y:V) (H:Hp) (Q:VK):Prop where
 |mk (_:Smw x y=true) (_:Q (.bl (decide (x=y))) H)
inductive rNe (x:V) (y:V) (H:Hp) (Q:VK):Prop where
 |mk (_:Smw x y=true) (_:Q (.bl (!decide (x=y))) H)
theorem Ym:decide (V.int i=V.int j)=(i==j):=by grind
theorem Ybv:decide (V.bl i=V.bl j)=(i==j):=by grind
theorem Yn:decide (V.str i=V.str j)=(i==j):=by grind
theorem Yl:decide (V.byt i=V.byt j)=(i.toList==j.toList):=by
 rw [Bool.eq_iff_iff]
 cases i
 cases j
 simp
section
variable {X:Cx} {a b c:Expr} {ta tb tc:TE} {pos:Pos}
theorem Jnj {σ:St} {H} {s} {Q} {k k'} (I:Su X pins σ H s) (q:Q (.bl k) H) (e:k=k'):EP X pins σ Q (.bool k') s:=by
 subst e
 exact ⟨.bl k,H,I,rfl,q⟩
theorem Joe:OpR X (compareOp .Eq) rEq:=by
 rintro pins s σ H x y v u Q I rx ry ⟨hs,q⟩
 cases x with
 |non=>
  cases rx
  cases y with
  |non=>cases ry;exact PySem.EqNone.eq_none_none (Jnj I q (by simp))
  |bl j=>cases ry;exact PySem.EqNone.eq_none_bool (Jnj I q (by simp))
  |int j=>obtain ⟨t',rfl⟩:=ry;exact PySem.EqNone.eq_none_int (Jnj I q (by simp))
  |str j=>obtain ⟨t',rfl⟩:=ry;exact PySem.EqNone.eq_none_str (Jnj I q (by simp))
  |_=>exact absurd (show false=true from hs) yae
 |bl i=>
  cases rx
  cases y with
  |non=>cases ry;exact PySem.EqNone.eq_bool_none (Jnj I q (by simp))
  |bl j=>cases ry;exact eq_bool (Jnj I q Ybv)
  |str j=>obtain ⟨t',rfl⟩:=ry;exact PySem.EqMixed.eq_bool_str (Jnj I q (by simp))
  |_=>exact absurd (show false=true from hs) yae
 |int i=>
  obtain ⟨t,rfl⟩:=rx
  cases y with
  |non=>cases ry;exact PySem.EqNone.eq_int_none (Jnj I q (by simp))
  |int j=>obtain ⟨t',rfl⟩:=ry;exact eq_int (Jnj I q Ym)
  |str j=>obtain ⟨t',rfl⟩:=ry;exact PySem.EqMixed.eq_int_str (Jnj I q (by simp))
  |_=>exact absurd (show false=true from hs) yae
 |str i=>
  obtain ⟨t,rfl⟩:=rx
  cases y with
  |non=>cases ry;exact PySem.EqNone.eq_str_none (Jnj I q (by simp))
  |bl j=>cases ry;exact PySem.EqMixed.eq_str_bool (Jnj I q (by simp))
  |int j=>obtain ⟨t',rfl⟩:=ry;exact PySem.EqMixed.eq_str_int (Jnj I q (by simp))
  |str j=>obtain ⟨t',rfl⟩:=ry;exact eq_str (Jnj I q Yn)
  |_=>exact absurd (show false=true from hs) yae
 |byt i=>
  obtain ⟨t,rfl⟩:=rx
  cases y with
  |byt j=>obtain ⟨t',rfl⟩:=ry;exact PySem.W.eq_bytes (Jnj I q Yl)
  |_=>exact absurd (show false=true from hs) yae
 |_=>cases y <;> exact absurd (hs) yae
theorem Skn:OpR X (compareOp .NotEq) rNe:=by
 rintro pins s σ H x y v u Q I rx ry ⟨hs,q⟩
 cases x with
 |non=>
  cases rx
  cases y with
  |non=>cases ry;exact PySem.EqNone.ne_none_none (Jnj I q (by simp))
  |bl j=>cases ry;exact PySem.EqNone.ne_none_bool (Jnj I q (by simp))
  |int j=>obtain ⟨t',rfl⟩:=ry;exact PySem.EqNone.ne_none_int (Jnj I q (by simp))
  |str j=>obtain ⟨t',rfl⟩:=ry;exact PySem.EqNone.ne_none_str (Jnj I q (by simp))
  |_=>exact absurd (hs) yae
 |bl i=>
  cases rx
  cases y with
  |non=>cases ry;exact PySem.EqNone.ne_bool_none (Jnj I q (by simp))
  |bl j=>cases ry;exact ne_bool (Jnj I q (congrArg not Ybv))
  |str j=>obtain ⟨t',rfl⟩:=ry;exact PySem.EqMixed.ne_bool_str (Jnj I q (by simp))
  |_=>exact absurd (show false=true from hs) yae
 |int i=>
  obtain ⟨t,rfl⟩:=rx
  cases y with
  |non=>cases ry;exact PySem.EqNone.ne_int_none (Jnj I q (by simp))
  |int j=>obtain ⟨t',rfl⟩:=ry;exact ne_int (Jnj I q (congrArg not Ym))
  |str j=>obtain ⟨t',rfl⟩:=ry;exact PySem.EqMixed.ne_int_str (Jnj I q (by simp))
  |_=>exact absurd (show false=true from hs) yae
 |str i=>
  obtain ⟨t,rfl⟩:=rx
  cases y with
  |non=>cases ry;exact PySem.EqNone.ne_str_none (Jnj I q (by simp))
  |bl j=>cases ry;exact PySem.EqMixed.ne_str_bool (Jnj I q (by simp))
  |int j=>obtain ⟨t',rfl⟩:=ry;exact PySem.EqMixed.ne_str_int (Jnj I q (by simp))
  |str j=>obtain ⟨t',rfl⟩:=ry;exact ne_str (Jnj I q (congrArg not Yn))
  |_=>exact absurd (show false=true from hs) yae
 |byt i=>
  obtain ⟨t,rfl⟩:=rx
  cases y with
  |byt j=>obtain ⟨t',rfl⟩:=ry;exact PySem.W.ne_bytes (Jnj I q (congrArg not Yl))
  |_=>exact absurd (show false=true from hs) yae
 |_=>cases y <;> exact absurd (hs) yae
theorem Skm:OpR X (compareOp .Lt) (rI0 λi j=>.bl (decide (i < j))):=Sji λ_ _ _ _ _ _ _ q=>lt_int q
theorem Jq4:OpR X (compareOp .LtE) (rI0 λi j=>.bl (decide (i<=j))):=Sji λ_ _ _ _ _ _ _ q=>le_int q
theorem Jvy:OpR X (compareOp .Gt) (rI0 λi j=>.bl (decide (j < i))):=Sji λ_ _ _ _ _ _ _ q=>gt_int q
theorem Skl:OpR X (compareOp .GtE) (rI0 λi j=>.bl (decide (j<=i))):=Sji λ_ _ _ _ _ _ _ q=>ge_int q
theorem Yay:OpR X (compareOp .In) (λx y H Q=>∃i j,x= .str i/\y= .str j/\Q (.bl (!(Builtin.Str.occurrences j i 0 j.length 1).isEmpty)) H):=by
 rintro pins s σ H x y v u Q I rx ry ⟨i,j,rfl,rfl,q⟩
 obtain ⟨t,rfl⟩:=rx
 obtain ⟨t',rfl⟩:=ry
 exact in_str (Jnj I q rfl)
theorem Ju0:OpR X (compareOp .Is) (λx y H Q=>y= .non/\Q (.bl (decide (x= .non))) H):=by
 rintro pins s σ H x y v u Q I rx ry ⟨rfl,q⟩
 cases ry
 refine is_none_gen (Jnj I q ?_)
 cases x <;> first
  | (cases rx; rfl)
  | (obtain ⟨t,rfl⟩:=rx; rfl)
theorem Yx:OpR X (compareOp .IsNot) (λx y H Q=>y= .non/\Q (.bl (!decide (x= .non))) H):=by
 rintro pins s σ H x y v u Q I rx ry ⟨rfl,q⟩
 cases ry
 refine isnot_none_gen (Jnj I q ?_)
 cases x <;> first
  | (cases rx; rfl)
  | (obtain ⟨t,rfl⟩:=rx; rfl)
theorem Jn4 (b) (h:op≠ .In:=by decide) (h2:op≠ .NotIn:=by decide):behindInMarks op b=false:=by
 have e1:(op==CmpOp.In)=false:=by cases op <;> first|rfl|exact absurd rfl h
 have e2:(op==CmpOp.NotIn)=false:=by cases op <;> first|rfl|exact absurd rfl h2
 cases b <;> simp [behindInMarks,e1,e2]
theorem Jo1 (ho:OpR X (compareOp op) r) (ha:PE X a ta) (hb:PE X b tb) (hm:behindInMarks op b=false):PE X (.Compare a [op] [b] pos) (tOp r ta tb):=by
 intro pins s σ H Q I h
 exact wpAny_Compare1 (Slx ha hb I h λv u s2 x y H2 I2 rx ry q=>ho pins s2 σ H2 x y v u Q I2 rx ry q) hm
inductive Yfa (Q:(Bool->Hp->Prop)) (x:V) (H':Hp):Prop where
 |mk (k:_) (_:x= .bl k) (_:Q k H')
def Sks (t:TE):TT:=λσ H Q=>t σ H (Yfa Q)
theorem Jna (ho:OpR X (compareOp op) r) (ha:PE X a ta) (hb:PE X b tb) (hm:behindInMarks op b=false):PT X (.Compare a [op] [b] pos) (Sks (tOp r ta tb)):=by
 intro pins s σ H Q I h
 refine wpAny_isTrue_Compare1 (thn (ha pins s σ H _ I h) λv s1 ⟨x,H1,I1,r1,q1⟩=>thn (hb pins s1 σ H1 _ I1 q1) λu s2 ⟨y,H2,I2,r2,q2⟩=>
  thn (ho pins s2 σ H2 x y v u _ I2 r1 r2 q2) λc s3 ⟨z,H3,I3,r3,k,e,q3⟩=>?_) hm
 subst e
 cases r3
 exact wpAny_truthy_bool ⟨H3,I3,q3⟩
def Ydd (r r':R2) (ta tb tc:TE):TE:=λσ H Q=>ta σ H λx H1=>tb σ H1 λy H2=>r x y H2 λz H3=>∃k,z= .bl k/\
 (if k=true then tc σ H3 λw' H4=>r' y w' H4 Q else Q (.bl false) H3)
theorem Jw0 (ho:OpR X (compareOp op) r) (ho':OpR X (compareOp op') r') (ha:PE X a ta) (hb:PE X b tb) (hc:PE X c tc)
  (hm:lastMarks [op,op'] [b,c]=false:=by with_unfolding_all rfl):PE X (.Compare a [op,op'] [b,c] pos) (Ydd r r' ta tb tc):=by
 intro pins s σ H Q I h
 refine Compare_chain (thn (ha pins s σ H _ I h) λv s1 ⟨x,H1,I1,r1,q1⟩=>chain_link (thn (hb pins s1 σ H1 _ I1 q1) λu s2 ⟨y,H2,I2,r2,q2⟩=>
  thn (ho pins s2 σ H2 x y v u _ I2 r1 r2 q2) λd s3 ⟨z,H3,I3,r3,k,e,q3⟩=>?_)) hm
 subst e
 cases r3
 refine wpAny_truthy_bool ?_
 cases k with
 |false=>exact ite_ff ⟨.bl false,H3,I3,rfl,q3⟩
 |true=>exact ite_tt (chain_last (thn (hc pins s3 σ H3 _ I3 q3) λw' s4 ⟨z',H4,I4,r4,q4⟩=>ho' pins s4 σ H4 y z' u w' Q I4 r2 r4 q4))
theorem Jt4 (ho:OpR X (compareOp op) r) (ho':OpR X (compareOp op') r') (ha:PE X a ta) (hb:PE X b tb) (hc:PE X c tc)
  (hm:lastMarks [op,op'] [b,c]=false:=by with_unfolding_all rfl):PT X (.Compare a [op,op'] [b,c] pos) (Sks (Ydd r r' ta tb tc)):=by
 intro pins s σ H Q I h
 refine isTrue_chain (thn (ha pins s σ H _ I h) λv s1 ⟨x,H1,I1,r1,q1⟩=>test_link (thn (hb pins s1 σ H1 _ I1 q1) λu s2 ⟨y,H2,I2,r2,q2⟩=>
  thn (ho pins s2 σ H2 x y v u _ I2 r1 r2 q2) λd s3 ⟨z,H3,I3,r3,k,e,q3⟩=>?_)) hm
 subst e
 cases r3
 refine wpAny_truthy_bool ?_
 cases k with
 |false=>
  obtain ⟨k',e',q'⟩:=q3
  cases e'
  exact ite_ff ⟨H3,I3,q'⟩
 |true=>
  refine ite_tt (test_last (thn (hc pins s3 σ H3 _ I3 q3) λw' s4 ⟨z',H4,I4,r4,q4⟩=>thn (ho' pins s4 σ H4 y z' u w' _ I4 r2 r4 q4) λd' s5 zq=>?_))
  obtain ⟨z2,H5,I5,r5,k2,e2,q5⟩:=zq
  subst e2
  cases r5
  exact wpAny_truthy_bool ⟨H5,I5,q5⟩
def Spr (K:Si) (x:V) (H:Hp) (k:Bool):Prop:=
 match x with
 | .non=>k=false
 | .bl b=>k=b
 | .int i=>k=(i !=0)
 | .str y=>y.length<=Sa/\k=((y.length:Int) !=0)
 | .byt y=>y.size<=Sa/\k=((y.size:Int) !=0)
 | .ref p=>(∃xs,Sy K H p xs/\k=!xs.isEmpty)\/(∃xs,SqT K H p xs/\k=!xs.isEmpty)\/∃kvs,H p=some (.dK kvs)/\k=!kvs.isEmpty
 |_=>False
theorem Jzh (r:KV kvs vs):(!vs.isEmpty)=!kvs.isEmpty:=by
 cases r <;> rfl
theorem Jvj (r:Sa4 xs its):(!its.toArray.isEmpty)=!xs.isEmpty:=by
 cases r <;> simp
theorem Jrc:(Sa) < 2^63:=by rw [sizeLine_eq];decide
theorem Snt:Stz X (λx H Q=>∃k,Spr X.K x H k/\Q k H):=by
 rintro pins s σ H x v Q I rx ⟨k,e,q⟩
 have hs:=sizeLine_eq
 cases x with
 |non=>
  cases rx
  have e':=e
  subst e'
  exact truthy_none ⟨H,I,q⟩
 |bl b=>
  cases rx
  have e':=e
  subst e'
  exact wpAny_truthy_bool ⟨H,I,q⟩
 |int i=>
  obtain ⟨t,rfl⟩:=rx
  have e':=e
  subst e'
  exact PySem.P.truthy_int ⟨H,I,q⟩
 |str y=>
  obtain ⟨t,rfl⟩:=rx
  obtain ⟨hy,e'⟩:y.length<=Sa/\k=((y.length:Int) !=0):=e
  subst e'
  exact PySem.P.truthy_str (by omega) ⟨H,I.tok _,q⟩
 |byt y=>
  obtain ⟨t,rfl⟩:=rx
  obtain ⟨hy,e'⟩:y.size<=Sa/\k=((y.size:Int) !=0):=e
  subst e'
  exact PySem.W.truthy_bytes (by omega) ⟨H,I.tok _,q⟩
 |ref p=>
  cases rx
  have e':=e
  rcases e' with ⟨xs,hx,e'⟩|⟨xs,hx,e'⟩|⟨kvs,hx,e'⟩
  ·subst e'
   obtain ⟨its,r,pl,hz⟩:=I.list hx
   have hlen:=r.length
   exact wpAny_truthy_list pl.isList (by simp only [ym];omega) ⟨H,I.tok _,by rw [Jvj r];exact q⟩
  ·subst e'
   obtain ⟨its,r,pl,hz⟩:=I.tuple hx
   have hlen:=r.length
   exact truthy_tuple pl (by simp only [ym];omega) ⟨H,I.tok _,by rw [Jvj r];exact q⟩
  ·subst e'
   obtain ⟨hz,hS,vs,r,m⟩:kvs.length<=Sa/\(p==sysModules)=false/\∃vs,KV kvs vs/\s.heap.DictOf (Joh X.prog X.w) p vs:=I.hok p _ hx
   have hlen:=Paired.length r
   exact wpAny_truthy_dict hS m (by omega) ⟨H,I.tok _,by rw [Jzh r];exact q⟩
 |_=>exact (e).elim
theorem Ycn (ha:PE X a ta) (he:∀whole,isTrue a X.env whole=(do let v<-whole;standAt a.pos;holding [v] (truthy v))):
  PT X a (λσ H Q=>ta σ H λx H'=>∃k,Spr X.K x H' k/\Q k H'):=by
 intro pins s σ H Q I h
 exact isTrue_plain (thn (ha pins s σ H _ I h) λv s1 ⟨x,H1,I1,r1,q1⟩=>Snt pins s1 σ H1 x v Q I1 r1 q1) (he _)
theorem Jzt:OpR X (binaryOp .Add) (λx y H Q=>∃i j,x= .str i/\y= .str j/\i.length+j.length<=Sa/\Q (.str (i++j)) H):=by
 rintro pins s σ H x y v u Q I rx ry ⟨i,j,rfl,rfl,hz,q⟩
 obtain ⟨t,rfl⟩:=rx
 obtain ⟨t',rfl⟩:=ry
 exact add_str (λt' tk=>⟨.str (i++j),H,I.tok _,⟨_,rfl⟩,q⟩) hz
theorem Jq6 (r:Sa4 [x] us):∃u,us= [u]/\Sa6 x u:=by
 cases r with
 |cons r1 r2=>cases r2;exact ⟨_,rfl,r1⟩
theorem Yad (r:Sa4 [x,y] us):∃u w',us= [u,w']/\Sa6 x u/\Sa6 y w':=by
 cases r with
 |cons r1 r2=>
  cases r2 with
  |cons r3 r4=>cases r4;exact ⟨_,_,rfl,r1,r3⟩
theorem Jp8 (hc:X.calm=true):Jpl X (.builtin "max") (λxs H Q=>∃i j,xs= [.int i,.int j]/\Q (.int (if j > i then j else i)) H):=by
 rintro pins s σ H xs us Q I r ⟨i,j,rfl,q⟩
 obtain ⟨u,w',rfl,⟨t,rfl⟩,⟨t',rfl⟩⟩:=Yad r
 refine max_two_ints (I.ok.hd hc) λh' tk k=>⟨_,H,I.kept k,?_,q⟩
 by_cases hj:j > i
 ·rw [if_pos hj,if_pos hj];exact ⟨_,rfl⟩
 ·rw [if_neg hj,if_neg hj];exact ⟨_,rfl⟩
theorem Jp0 (hc:X.calm=true):Jpl X (.builtin "min") (λxs H Q=>∃i j,xs= [.int i,.int j]/\Q (.int (if j < i then j else i)) H):=by
 rintro pins s σ H xs us Q I r ⟨i,j,rfl,q⟩
 obtain ⟨u,w',rfl,⟨t,rfl⟩,⟨t',rfl⟩⟩:=Yad r
 refine min_two_ints (I.ok.hd hc) λh' tk k=>⟨_,H,I.kept k,?_,q⟩
 by_cases hj:j < i
 ·rw [if_pos hj,if_pos hj];exact ⟨_,rfl⟩
 ·rw [if_neg hj,if_neg hj];exact ⟨_,rfl⟩
theorem Jqf:Jpl X (.type "int") (λxs H Q=>(∃i,xs= [.int i]/\Q (.int i) H)\/∃k,xs= [.bl k]/\Q (.int (if k then 1 else 0)) H):=by
 intro pins s σ H xs us Q I r h
 rcases h with ⟨i,rfl,q⟩|⟨k,rfl,q⟩
 ·obtain ⟨u,rfl,t,rfl⟩:=Jq6 r
  exact call_int_int ⟨.int i,H,I,⟨_,rfl⟩,q⟩
 ·obtain ⟨u,rfl,r1⟩:=Jq6 r
  cases r1
  exact call_int_bool ⟨.int (if k then 1 else 0),H,I.tok _,⟨_,rfl⟩,q⟩
end
structure Sh4 (h:Sg) (x dx C:S5) (mA:Str->Option S6):Prop where
 obj:h.get? x=some (Sm C dx)
 ns:h.Ns1 dx mA
 ne:dx≠x
theorem Jwz {h:Sg} (n:h.Ns1 dx mA):∃od,h.get? dx=some od/\∀name,PySem.W.lookIn name od=some (mA name):=by
 obtain ⟨o,es,ep,ho,hd,hk,_,hm⟩:=n
 refine ⟨o,ho,λname=>?_⟩
 have e:=hm name
 unfold nsFind findBy at e
 rw [<-Array.find?_toList] at e
 unfold PySem.W.lookIn
 rw [hd]
 dsimp only
 split
 ·rename_i y q
  rw [q] at e
  exact congrArg some e
 ·rename_i q
  rw [q] at e
  have a:es.toList.any (·.refKey)=false:=by
   rw [List.any_eq_false]
   intro y hy
   obtain ⟨z,t,hkey⟩:=hk y (Array.mem_toList_iff.mp hy)
   simp [DictEntry.refKey,hkey]
  have a':¬es.toList.any (·.refKey)=true:=by rw [a];exact yae
  rw [if_neg a']
  exact congrArg some e
theorem Sh4.look (I:Sh4 h x dx C mA):∃od,PySem.W.InstAt h x (Sm C dx) C (some od)/\∀name,PySem.W.lookIn name od=some (mA name):=
 let ⟨od,ho,hl⟩:=Jwz I.ns
 ⟨od,⟨I.obj,rfl,rfl,ho⟩,hl⟩
section
variable {prog:Sb} {w:Sd} {A:Se} {E:S6->S7->Prop} {s:S7} {K:Si} {x dx C f:S5} {mA:Str->Option S6} {name:Str} {v:S6}
theorem Ye2 {Q} (X:K.In s.heap) (I:Sh4 s.heap x dx C mA) (hg:PySem.W.plainGet K C name=true) (hh:PySem.W.hasDictIn K C=true)
  (ha:Sk K (.ref C) name=some none) (hv:mA name=some v) (hv':PySem.W.handedIn v=true) (h:Q v {s with toks:=s.toks+1}):
  Sh (model prog w) A (getAttr (.ref x) name expr) Q E s:=by
 obtain ⟨od,J,hl⟩:=I.look
 exact PySem.W.get_value X J (PySem.W.plainGet_of hg).1 (PySem.W.findObj_own hh ha rfl (by rw [hl,hv])) hv' h
theorem Yc6 {Q} (X:K.In s.heap) (I:Sh4 s.heap x dx C mA) (hg:PySem.W.plainGet K C name=true)
  (hf:Sk K (.ref C) name=some (some (.ref f))) (ht:PySem.W.isFn K (.ref f)=true) (hv:mA name=none) (h:Q (.ref f,[.ref x]) s):
  Sh (model prog w) A (getMethod (.ref x) name pl) Q E s:=by
 obtain ⟨od,J,hl⟩:=I.look
 exact PySem.W.method_fn X J (PySem.W.plainGet_of hg).1 (PySem.W.plainGet_of hg).2 hf (beq_iff_eq.mp ht) (by show (PySem.W.lookIn name od).map (·.isSome)=some false;rw [hl,hv];rfl) h
theorem Yen (X:K.In s.heap) (I:Sh4 s.heap x dx C mA)
  (hs:Sk K (.ref C) "__setattr__" =some (some (.builtin "object.__setattr__"))) (hp:PySem.W.plainOver K C=true) (ht:PySem.W.takerIn K C name=some none) (hh:PySem.W.hasDictIn K C=true)
  (hw:PySem.Within mA ns) (hsz:ns.length<=Sa)
  (h:∀h',Sh4 h' x dx C (λy=>if y=name then some v else mA y)->yas dx s.heap h'->Q () {s with heap:=h',toks:=s.toks+2}):
  Sh (model prog w) A (setAttr (.ref x) name v) Q E s:=by
 obtain ⟨od,J,hl⟩:=I.look
 refine PySem.W.set_plain X J hs (PySem.W.osa_open X J hp ht λb=>?_)
 obtain ⟨cd,hc,hd'⟩:=PySem.W.any_some hh
 refine S8 (S9 (S8 (S8 (wpAny_loadPart I.obj (S8 (PySem.W.Looks.here (PySem.W.looks_clsIn X hc) ?_))))))
 rw [hd']
 refine S9 (S8 (S9 (S8 (wpAny_nsSet1 I.ns λh' hn2 hs2=>?_))))
 obtain ⟨oD,esD,epD,hoD,hdD,hcD⟩:=hn2.count (PySem.Within.cons name v hw)
 exact S8 (wpAny_lookBehind hoD (by rw [hdD];exact pastItsLine_dict (yam hcD (by rw [yai];omega))) (S9 (h _ ⟨(hs2.2 _ (yg I.ne)).trans I.obj,hn2,I.ne⟩ hs2)))
theorem Ycb (X:K.In s.heap) (hm:PySem.W.makesIn K C=true)
  (hi:Sk K (.ref C) "__init__" =some (some (.ref f))) (hf:PySem.W.typeIn K (.ref f)=some (.type "function"))
  (h:codeAny (model prog w) (A.under (.builtin "type.__call__" ⟨.ref C::vs,kw⟩)) (.call (.ref f) ⟨.ref (s.heap.objs.size+1)::vs,kw⟩) (PySem.W.InitBack (s.heap.objs.size+1) R)
   {s with heap:=(s.heap.push PySem.W.emptyDict).push (Sm C s.heap.objs.size)}):
  codeAny (model prog w) A (.call (.ref C) ⟨vs,kw⟩) R s:=PySem.W.make_core (PySem.W.makes_of X hm) (PySem.W.looks_findIn X hi) (λself=>PySem.W.bind_fn X self hf) (.inl rfl) h
end
def Jo3 (f:Str) (v:V):List (Str×V)->List (Str×V)
 | []=>[(f,v)]
 | (g,x) :: r=>if g = f then (g,v) :: r else (g,x) :: Jo3 f v r
theorem Jub (f g) (v):∀fs:List (Str×V),(Jo3 f v fs).lookup g=if g=f then some v else fs.lookup g
 | []=>by
  show ybi g [(f,v)]=_
  by_cases h:g=f
  ·have hb:(g==f)=true:=beq_iff_eq.mpr h
   simp only [ybi,hb,if_pos h]
  ·have hb:=beq_eq_false_iff_ne.mpr h
   simp only [ybi,hb,if_neg h]
 | (k,x) :: r=>by
  rw [show Jo3 f v ((k,x)::r)=(if k=f then (k,v)::r else (k,x)::Jo3 f v r) from rfl]
  by_cases hk:k=f
  ·rw [if_pos hk]
   by_cases h:g=k
   ·have hb:=beq_iff_eq.mpr h
    simp only [ybi,hb,if_pos (h.trans hk)]
   ·have hb:=beq_eq_false_iff_ne.mpr h
    simp only [ybi,hb,if_neg (λe:g=f=>h (e.trans hk.symm))]
  ·rw [if_neg hk]
   by_cases h:g=k
   ·have hb:=beq_iff_eq.mpr h
    simp only [ybi,hb,if_neg (λe:g=f=>hk (h.symm.trans e))]
   ·have hb:=beq_eq_false_iff_ne.mpr h
    simp only [ybi,hb]
    exact (Jub f g v r)
theorem Jtt (f) (v):∀fs:List (Str×V),f∈(Jo3 f v fs).map (·.1)/\∀g,g∈fs.map (·.1)->g∈(Jo3 f v fs).map (·.1)
 | []=>⟨by simp [Jo3],λg h=>by simp at h⟩
 | (k,x) :: r=>by
  obtain ⟨i1,i2⟩:=Jtt f v r
  rw [show Jo3 f v ((k,x)::r)=(if k=f then (k,v)::r else (k,x)::Jo3 f v r) from rfl]
  by_cases hk:k=f
  ·rw [if_pos hk]
   subst hk
   exact ⟨by simp,λg h=>by simpa using h⟩
  ·rw [if_neg hk]
   refine ⟨?_,λg h=>?_⟩
   ·rw [ybq]
    exact yac _ i1
   ·rw [ybq] at h⊢
    rcases yk.mp h with e|e
    ·exact yk.mpr (.inl e)
    ·exact yac _ (i2 g e)
theorem Jua (f) (v):∀fs:List (Str×V),(Jo3 f v fs).length<=fs.length+1
 | []=>by simp [Jo3]
 | (k,x) :: r=>by
  have ih:=Jua f v r
  rw [show Jo3 f v ((k,x)::r)=(if k=f then (k,v)::r else (k,x)::Jo3 f v r) from rfl]
  by_cases hk:k=f
  ·rw [if_pos hk,yai,yai];omega
  ·rw [if_neg hk,yai,yai];omega
theorem Sdm.some_of (r:Sdm (some v) o):∃u,o=some u/\Sa6 v u:=by
 cases o with
 |none=>exact (r).elim
 |some u=>exact ⟨u,rfl,r⟩
theorem Sdm.none_of (r:Sdm none o):o=none:=by
 cases o with
 |none=>rfl
 |some u=>exact (r).elim
theorem Jwy (r:Sa6 v u):PySem.W.handedIn u=true:=by
 cases v with
 |non=>cases (r);rfl
 |bl b=>cases (r);rfl
 |int i=>obtain ⟨t,e⟩:=(show ∃t,u=Value.int i t from r);cases e;rfl
 |str x=>obtain ⟨t,e⟩:=(show ∃t,u=Value.str x t from r);cases e;rfl
 |byt b=>obtain ⟨t,e⟩:=(show ∃t,u=Value.bytes b t from r);cases e;rfl
 |flt b=>obtain ⟨t,e⟩:=(show ∃t,u=Value.float b t from r);cases e;rfl
 |ref a=>cases (r);rfl
 |ty n=>cases (r);rfl
section
variable {P:Sb} {w:Sd} {H H':Hp} {h h':Sg} {a C dx:S5} {fs fs':List (Str×V)}
theorem Juw (hok:HOk P w H h) (e:H a=some (.ins C dx fs)):∃mA,Sh4 h a dx C mA/\(∀f,Sdm (fs.lookup f) (mA f))/\PySem.Within mA (fs.map (·.1))/\fs.length<=1000/\H dx=some (.own a):=by
 obtain ⟨d,z,ne,ob,mA,n,r,q⟩:=(hok a _ e)
 exact ⟨mA,⟨ob,n,ne⟩,r,q,z,d⟩
end
structure Cls (K:Si) (C:S5):Prop where
 pg:PySem.W.plainGet K C Str.empty=true
 hd:PySem.W.hasDictIn K C=true
 po:PySem.W.plainOver K C=true
 sa:Sk K (.ref C) "__setattr__" =some (some (.builtin "object.__setattr__"))
theorem Cls.get {K} (c:Cls K C) (f):PySem.W.plainGet K C f=true:=c.pg
def NoAttr (K:Si) (C:S5) (f:Str):Prop:=Sk K (.ref C) f=some none
theorem NoAttr.taker {K} (n:NoAttr K C f):PySem.W.takerIn K C f=some none:=by
 unfold PySem.W.takerIn
 rw [n]
 rfl
structure Jq8 (K:Si) (C:S5) (m:Str) (f:S5):Prop where
 at_:Sk K (.ref C) m=some (some (.ref f))
 fn:PySem.W.isFn K (.ref f)=true
 kp:PySem.W.keepIn K (.ref f)=true
section
variable {X:Cx} {pins:List (S5×Obj)} {σ:St} {H:Hp} {s:S7} {a C dx:S5} {fs:List (Str×V)} {f:Str} {v:V} {A:Se} {E:S6->S7->Prop}
theorem Jzf (I:Su X pins σ H s) (e:H a=some (.ins C dx fs)) (c:Cls X.K C) (n:NoAttr X.K C f) (l:fs.lookup f=some v)
  (h:∀u s',Su X pins σ H s'->Sa6 v u->Q u s'):Sh (model X.prog X.w) A (getAttr (.ref a) f b) Q E s:=by
 obtain ⟨mA,O,r,_,_,_⟩:=Juw I.hok e
 obtain ⟨u,hu,ru⟩:=Sdm.some_of (by rw [<-l];exact r f)
 exact Ye2 I.kIn O (c.get f) c.hd n hu (Jwy ru) (h u _ (I.tok _) ru)
theorem Jsf {Q} (I:Su X pins σ H s) (e:H a=some (.ins C dx fs)) (c:Cls X.K C) (k:Jq8 X.K C m g) (l:fs.lookup m=none)
  (h:Q (.ref g,[.ref a]) s):Sh (model X.prog X.w) A (getMethod (.ref a) m pl) Q E s:=by
 obtain ⟨mA,O,r,_,_,_⟩:=Juw I.hok e
 exact Yc6 I.kIn O (c.get m) k.at_ k.fn (Sdm.none_of (by rw [<-l];exact r m)) h
theorem Y4 (I:Su X pins σ H s) (e:H a=some (.ins C dx fs)) (c:Cls X.K C) (n:NoAttr X.K C f) (hl:fs.length < 1000) (ry:Sa6 y u)
  (h:∀s',Su X pins σ (upd H a (.ins C dx (Jo3 f y fs))) s'->Q () s'):Sh (model X.prog X.w) A (setAttr (.ref a) f u) Q E s:=by
 obtain ⟨mA,O,r,wi,_,ho⟩:=Juw I.hok e
 have hz:(fs.map (·.1)).length<=Sa:=by rw [yf,sizeLine_eq];omega
 refine Yen I.kIn O c.sa c.po n.taker c.hd wi hz λh' O' sb=>h _ ?_
 have hd:∃o,h'.get? dx=some o:=let ⟨o,_,_,e',_⟩:=O'.ns;⟨o,e'⟩
 refine I.write (by rw [e];exact True.intro) (.inr ho) (λb q hb z=>(sb.2 b hb).trans z) hd ⟨by rw [Jmm O.ne];exact ho,?_,O.ne,O'.obj,_,O'.ns,λg=>?_,λg hg=>?_⟩
 ·have:=Jua f y fs;omega
 ·show Sdm ((Jo3 f y fs).lookup g) (if g=f then some u else mA g)
  rw [Jub]
  by_cases q:g=f
  ·rw [if_pos q,if_pos q];exact ry
  ·rw [if_neg q,if_neg q];exact r g
 ·by_cases q:g=f
  ·rw [q];exact (Jtt f y fs).1
  ·refine (Jtt f y fs).2 g (wi g λz=>hg ?_)
   show (if g=f then some u else mA g)=none
   rw [if_neg q];exact z
theorem Su.made (I:Su X pins σ H s):Su X pins σ (upd (upd H s.heap.objs.size (.own (s.heap.objs.size+1))) (s.heap.objs.size+1) (.ins C s.heap.objs.size []))
  {s with heap:=(s.heap.push PySem.W.emptyDict).push (Sm C s.heap.objs.size)}:=by
 have e1:(s.heap.push PySem.W.emptyDict).get? s.heap.objs.size=some PySem.W.emptyDict:=yq s.heap rfl
 have e2:=by
  have:=yq (s.heap.push PySem.W.emptyDict) (o:=Sm C s.heap.objs.size) rfl
  rwa [yaa] at this
 have e3:(s.heap.push PySem.W.emptyDict).Ns s.heap.objs.size (λ_=>none):=⟨PySem.W.emptyDict,#[],_,e1,rfl,(λe he=>absurd he (by simp)),λ_=>rfl⟩
 refine (I.laid (o:=.own (s.heap.objs.size+1)) (t':=s.toks) (λb u q=>yn _ q) (yl _) ⟨_,e1⟩).laid (λb u q=>yn _ q) (ybr (yaa _ _)) ?_
 have ne:s.heap.objs.size≠s.heap.objs.size+1:=yr (ybw _)
 refine ⟨by rw [Jmm ne,Sv],yad _,ne,e2,λ_=>none,(Heap.Ns1.of_empty e3).at λo q=>yn _ q,λ_=>True.intro,λy hy=>absurd rfl hy⟩
theorem Yh (hb:attributeBase e f env (eval e env)=eval e env)
  (h:Sh (model prog w) A (eval e env) (λo s₁=>Sh (model prog w) A (getAttr o f true) Q E s₁) E s):Sh (model prog w) A (eval (.Attribute e f pos) env) Q E s:=
 Attribute_any_ h (by rw [arm_eval_Attribute,hb])
end
inductive Snl (K:Si) (f:Str) (Q:VK) (x:V) (H1:Hp):Prop where
 |mk (a:_) (C:_) (dx:_) (fs:_) (v:_) (_:x= .ref a) (_:H1 a=some (.ins C dx fs)) (_:Cls K C) (_:NoAttr K C f) (_:fs.lookup f=some v) (_:Q v H1)
def Sqw (K:Si) (ta:TE) (f:Str):TE:=λσ H Q=>ta σ H (Snl K f Q)
def Sv0 (K:Si) (ta tv:TE) (f:Str):TS:=λD σ H=>tv σ H λy H1=>ta σ H1 λx H2=>∃a C dx fs,x= .ref a/\H2 a=some (.ins C dx fs)/\Cls K C/\NoAttr K C f/\fs.length < 1000/\
 D.nx σ (upd H2 a (.ins C dx (Jo3 f y fs)))
section
variable {X:Cx} {o e value:Expr} {f:Str} {pos pos' tpos:Pos} {ta tv:TE}
theorem Jnh (he:PE X e ta) (hb:attributeBase e f X.env (eval e X.env)=eval e X.env):PE X (.Attribute e f pos) (Sqw X.K ta f):=by
 intro pins s σ H Q I h
 refine Yh hb (thn (he pins s σ H _ I h) λu s1 zq=>?_)
 obtain ⟨x,H1,I1,rx,a,C,dx,fs,v,ex,ea,c,n,l,q⟩:=zq
 subst ex
 obtain rfl:u=Value.ref a:=rx
 exact Jzf I1 ea c n l λu' s2 I2 ru=>⟨v,H1,I2,ru,q⟩
theorem Jnv (ha:PE X o ta) (hv:PE X value tv) (hs:swapsWith value (some (.Attribute o f pos')) pos.line X.env=pure false):PS X (.Assign [.Attribute o f pos'] value pos) (Sv0 X.K ta tv f):=by
 intro pins s σ H D I h
 refine plainObj_wpAny_Assign_Attribute (thn (hv pins s σ H _ I h) λu s1 ⟨y,H1,I1,ry,q⟩=>thn (ha pins s1 σ H1 _ I1 q) λov s2 zq=>?_) hs
 obtain ⟨x,H2,I2,rx,a,C,dx,fs,ex,ea,c,n,l,q2⟩:=zq
 subst ex
 obtain rfl:ov=Value.ref a:=rx
 exact Y4 I2 ea c n l ry λs3 I3=>⟨σ,_,I3,q2⟩
end
section
variable {X:Cx} {pins:List (S5×Obj)} {σ:St} {H:Hp} {s:S7} {A:Se} {E:S6->S7->Prop} {Q:S6->S7->Prop} {c:S6} {b:Bool}
inductive Jti (K:Si) (H:Hp):V->S6->Prop where
 |non:Jti K H .non (.type "NoneType")
 |bl (x:Bool):Jti K H (.bl x) (.type "bool")
 |int (i:Int):Jti K H (.int i) (.type "int")
 |str (x:Str):Jti K H (.str x) (.type "str")
 |flt (x:UInt64):Jti K H (.flt x) (.type "float")
 |lst {a:S5} {xs:List V} (e:H a=some (.lst xs)):Jti K H (.ref a) (.type "list")
 |frz {a:S5} {o:Obj} {xs:List V} (e:H a=some (.frz o (.lst xs))):Jti K H (.ref a) (.type "list")
 |tup {a:S5} {xs:List V} (e:H a=some (.tup xs)):Jti K H (.ref a) (.type "tuple")
 |dK {a:S5} {kvs:List (Key×V)} (e:H a=some (.dK kvs)):Jti K H (.ref a) (.type "dict")
 |dT {a:S5} {kvs:List (List Key×V)} (e:H a=some (.dT kvs)):Jti K H (.ref a) (.type "dict")
 |ins {a C dx:S5} {fs:List (Str×V)} (e:H a=some (.ins C dx fs)) (cl:Cls K C) (ha:Sk K (.ref C) "__class__" =some (some (.builtin "object.__class__")))
   (hn:PySem.W.specialIn K (.builtin "object.__class__") "__get__" =some (some (.builtin "getset_descriptor.__get__"))) (htk:PySem.W.takesIn K (.builtin "object.__class__")=some true)
   (hm:Sl K C (.type "object")=some true):Jti K H (.ref a) (.ref C)
end
structure Sak (k:Nat) (A:Se):Prop where
 hd:A.handled=none
 dp:A.depth+3*k+5 < recursionLimit
 un:A.units+16*k+200 < cLine
theorem Sak.mono (r:Sak k A) (h:j<=k):Sak j A:=⟨r.hd,by have:=r.dp;omega,by have:=r.un;omega⟩
theorem Sak.deeper (r:Sak (k+1) A) (env):Sak k (A.deeper env):=
 ⟨r.hd,by have:=r.dp;show A.depth+1+3*k+5 < _;omega,by have:=r.un;show A.units+3+16*k+200 < _;omega⟩
theorem Jzk {A:Se}:(A.under (.builtin "type.__call__" ⟨.ref C::us,kw⟩)).depth=A.depth+1:=by
 first|rfl|simp [Around.under]
theorem Jzl {A:Se}:(A.under (.builtin "type.__call__" ⟨.ref C::us,kw⟩)).units=A.units+1:=rfl
theorem Sak.make (r:Sak (k+1) A) (C) (us) (kw):Sak k (A.under (.builtin "type.__call__" ⟨.ref C::us,kw⟩)):=
 ⟨r.hd,by have:=r.dp;rw [Jzk];omega,by have:=r.un;rw [Jzl];omega⟩
theorem Sak.depth (r:Sak k A):A.depth < recursionLimit:=by have:=r.dp;omega
theorem Sak.units (r:Sak k A):A.units+64 < cLine:=by have:=r.un;omega
def Jus:TA:=λ_ H Q=>Q [] H
def Jnm (ta:TE) (tr:TA):TA:=λσ H Q=>ta σ H λx H1=>tr σ H1 λxs H2=>Q (x::xs) H2
section
variable {X:Cx} {e:Expr} {es:List Expr} {te:TE} {t:TA} {pos:Pos}
theorem Ss:PA X [] Jus:=λ_ _ _ _ H Q I h=>Calls.spliced_nil ⟨[],H,I,.nil,h⟩
theorem So (ha:PE X e te) (hr:PA X es t) (hs:starEach (e::es) X.env=(false,eval e X.env)::starEach es X.env:=by rfl):PA X (e::es) (Jnm te t):=by
 intro pos pins s σ H Q I h
 rw [hs]
 show Sh _ _ (spliced ((false,eval e X.env)::backTo pos (starEach es X.env))) _ _ s
 exact Calls.spliced_cons (thn (ha pins s σ H _ I h) λu s1 ⟨x,H1,I1,r1,q1⟩=>thn (hr pos pins s1 σ H1 _ I1 q1) λus s2 ⟨xs,H2,I2,r2,q2⟩=>⟨x::xs,H2,I2,.cons r1 r2,q2⟩)
inductive Sno (Q:VK) (xs:List V) (H1:Hp):Prop where
 |mk (_:xs.length<=Sa) (_:∀p,H1 p=none->Q (.ref p) (upd H1 p (.tup xs)))
def Svc (t:TA):TE:=λσ H Q=>t σ H (Sno Q)
inductive Snm (Q:VK) (xs:List V) (H1:Hp):Prop where
 |mk (_:xs.length<=Sa) (_:∀p,H1 p=none->Q (.ref p) (upd H1 p (.lst xs)))
def Sv8 (t:TA):TE:=λσ H Q=>t σ H (Snm Q)
theorem Jnx (h:PA X es t):PE X (.Tuple es x1 pos) (Svc t):=by
 intro pins s σ H Q I hq
 refine wpAny_Tuple_spliced (thn (h pos pins s σ H _ I hq) λus s1 ⟨xs,H1,I1,r,z,q⟩=>⟨by rw [<-r.length];exact z,⟨.ref s1.heap.objs.size,upd H1 s1.heap.objs.size (.tup xs),I1.laid (λb u e=>yn _ e) (yl _) ?_,rfl,q _ (I1.hok.fresh (yl _))⟩⟩)
 exact ⟨z,us,r,⟨_,yq _ rfl,rfl,_,rfl⟩⟩
theorem Jnt (h:PA X es t):PE X (.List es pos) (Sv8 t):=by
 intro pins s σ H Q I hq
 refine wpAny_List_spliced (thn (h pos pins s σ H _ I hq) λus s1 ⟨xs,H1,I1,r,z,q⟩=>⟨by rw [<-r.length];exact z,⟨.ref s1.heap.objs.size,upd H1 s1.heap.objs.size (.lst xs),I1.laid (λb u e=>yn _ e) (yl _) ?_,rfl,q _ (I1.hok.fresh (yl _))⟩⟩)
 exact ⟨z,us,0,r,yq _ rfl⟩
end
abbrev Sp:=List V->Hp->VK->XK->Prop
abbrev CXT:=List Env->Hp->S7->XK->S6->S7->Prop
structure Sex (P:Sb) (w:Sd) (K:Si) (mg:Str->Option S6) (base:Sg) (A:Se) (outer:List Env) (s:S7) (H:Hp):Prop where
 frames:A.frames=some outer
 mod:Mod K mg base
 bs:∀b o,base.get? b=some o->s.heap.get? b=some o/\H b=none
 bsz:base.objs.size<=s.heap.objs.size
 funs:s.heap.FunFrames base outer
 frf:∀b∈frs outer,H b=none
 hok:HOk P w H s.heap
 bare:AllBare s.gens
def CE (outer:List Env) (P:Sb) (w:Sd) (H:Hp) (s:S7) (Q:VK) (u:S6) (s':S7):Prop:=
 ∃v H',s'.os=s.os/\AllBare s'.gens/\Un (frs outer) [] H H' s.heap s'.heap/\HOk P w H' s'.heap/\Sa6 v u/\Q v H'
def CR (CX:CXT) (outer:List Env) (P:Sb) (w:Sd) (H:Hp) (s:S7) (Q:VK) (E:XK) (r:Result) (s':S7):Prop:=
 match r with
 | .ok (.ret u)=>CE outer P w H s Q u s'
 | .ok _=>False
 | .error e=>CX outer H s E e s'
structure Sx (P:Sb) (w:Sd) (K:Si) (mg:Str->Option S6) (base:Sg) (CX:CXT) (k:Nat) (f:S5) (fd:Sc) (ps:List Str) (sp:Sp):Prop where
 len:∀vs H Q E,sp vs H Q E->vs.length=ps.length
 run:∀(A:Se) (outer:List Env) (s:S7) (H:Hp) (args:Args) (us:List S6) (vs:List V) (Q:VK) (E:XK),Sak k A->Sex P w K mg base A outer s H->BindsTo s fd args (ps.zip us)->Sa4 vs us->sp vs H Q E->
  codeAny (model P w) A (.call (.ref f) args) (CR CX outer P w H s Q E) s
theorem Sex.make {K} (e:Sex P w K mg base A outer s H) (C) (us) (kw):
  Sex P w K mg base (A.under (.builtin "type.__call__" ⟨.ref C::us,kw⟩)) outer s H:=⟨by first|exact e.frames|(simpa [Around.under] using e.frames),e.mod,e.bs,e.bsz,e.funs,e.frf,e.hok,e.bare⟩
section
variable {X:Cx} {pins:List (S5×Obj)} {σ:St} {H:Hp} {s s':S7}
theorem Su.env0 (I:Su X pins σ H s):Sex X.prog X.w X.K X.mg X.base X.A X.stack s H:=
 ⟨I.ok.frames,I.ok.mod,I.bs,yam I.ok.bsz I.sz,I.stack,I.stkFree,I.hok,I.bare⟩
theorem Su.after (I:Su X pins σ H s) (h:CE X.stack X.prog X.w H s Q u s'):EP X pins σ Q u s':=by
 obtain ⟨v,H',os,bare,un,hok,r,q⟩:=h
 obtain ⟨hh,g,d,t,os'⟩:=s'
 obtain rfl:os'=s.os:=os
 exact ⟨v,H',I.call un hok bare (λb z=>absurd z (by simp)),r,q⟩
end
def Ydb (sp:Sp) (dvs:List V) (E:XK) (t:TA):TE:=λσ H Q=>t σ H λvs H1=>sp (vs++dvs) H1 Q E
inductive Yf7 (C:S5) (m:Str) (sp:Sp) (dvs:List V) (E:XK) (t:TA) (σ:St) (Q:VK) (x:V) (H1:Hp):Prop where
 |mk (a:_) (dx:_) (fs:_) (_:x= .ref a) (_:H1 a=some (.ins C dx fs)) (_:fs.lookup m=none) (_:t σ H1 λvs H2=>sp (x::(vs++dvs)) H2 Q E)
def Sqz (C:S5) (m:Str) (sp:Sp) (dvs:List V) (E:XK) (ta:TE) (t:TA):TE:=λσ H Q=>ta σ H (Yf7 C m sp dvs E t σ Q)
def Sqy (C:S5) (sp:Sp) (dvs:List V) (E:XK) (t:TA):TE:=λσ H Q=>t σ H λvs H1=>∀x dx,H1 x=none->H1 dx=none->dx≠x->
 sp (.ref x::(vs++dvs)) (upd (upd H1 dx (.own x)) x (.ins C dx [])) (λv H2=>v= .non/\Q (.ref x) H2) E
def Sbg (K:Si) (fd:Sc) (ps:List Str) (ds:List S6):Prop:=
 ∀(s:S7) (us:List S6),K.In s.heap->(us++ds).length=ps.length->BindsTo s fd ⟨us,[]⟩ (ps.zip (us++ds))
theorem Sbg.all {K} (h:∀us:List S6,us.length=ps.length->bindArgs fd ⟨us,[]⟩=pure (ps.zip us)):Sbg K fd ps []:=λs us _ hl=>by
 rw [yaq] at hl⊢
 exact .of_eq (h us hl)
def Jth (CX:CXT) (X:Cx) (E:XK):Prop:=∀(pins:List (S5×Obj)) (σ:St) (H:Hp) (s:S7) (e:S6) (s':S7),Su X pins σ H s->CX X.stack H s E e s'->X.xe e s'
section
variable {X:Cx} {CX:CXT} {k:Nat} {f C:S5} {fd:Sc} {ps:List Str} {sp:Sp} {dvs:List V} {ds:List S6} {E:XK} {x m:Str} {p pos apos:Pos} {e o:Expr} {es:List Expr} {ta:TE} {t:TA}
theorem Jxz (F:Sx X.prog X.w X.K X.mg X.base CX k f fd ps sp) (hr:Sak k X.A) (hb:Sbg X.K fd ps ds) (hd:Sa4 dvs ds) (hx:Jth CX X E)
  (I:Su X pins σ H s) (r:Sa4 vs us) (h:sp (vs++dvs) H Q E):Sh (model X.prog X.w) X.A (call (.ref f) us) (EP X pins σ Q) X.xe s:=by
 have r2:=r.append hd
 have hl:(us++ds).length=ps.length:=by rw [<-r2.length];exact F.len _ _ _ _ h
 refine wpAny_call (codeAny_mono (F.run X.A X.stack s H ⟨us,[]⟩ (us++ds) (vs++dvs) Q E hr I.env0 (hb s us I.kIn hl) r2 h) λr s' hq=>?_)
 cases r with
 |error e=>exact hx pins σ H s e s' I hq
 |ok fl=>
  cases fl with
  |ret u=>exact I.after hq
  |next=>exact False.elim hq
  |brk=>exact False.elim hq
  |cont=>exact False.elim hq
theorem Yed (F:Sx X.prog X.w X.K X.mg X.base CX k f fd ps sp) (hr:Sak k X.A) (hg:Gl X x) (hm:X.mg x=some (.ref f)) (hk:PySem.W.keepIn X.K (.ref f)=true) (hb:Sbg X.K fd ps ds) (hd:Sa4 dvs ds) (hx:Jth CX X E)
  (ha:PA X (e::es) t) (hdb:(x==("__debug__" :Str))=false:=by decide) (he:starEach (e::es) X.env=(false,eval e X.env)::starEach es X.env:=by rfl) (hpl:(backTo pos (starEach es X.env)).any (·.1)=false:=by rfl):
  PE X (.Call (.Name x p) (e::es) [] pos) (Ydb sp dvs E t):=by
 intro pins s σ H Q I h
 exact wpAny_Call_Name_kw (Jqu I hg hm (PySem.W.callWith_K I.ok.mod.kin hk (thn (ha pos pins s σ H _ I h) λus s1 ⟨vs,H1,I1,r,q⟩=>⟨I1.kIn,Jxz F hr hb hd hx I1 r q⟩) he hpl) hdb)
theorem Ych (he:PE X o ta) (c:Cls X.K C) (hm:Jq8 X.K C m f) (F:Sx X.prog X.w X.K X.mg X.base CX k f fd ps sp) (hr:Sak k X.A) (hb:Sbg X.K fd ps ds) (hd:Sa4 dvs ds) (hx:Jth CX X E)
  (ht:eval (.Call (.Attribute o m apos) [] [] pos) X.env=(do
   let ov<-eval o X.env
   standAt apos.atName
   let (f,first)<-holding [ov] (getMethod ov m pl)
   callWith pos f first (backTo pos (starEach [] X.env)) (backToKw pos (keywordEach [] X.env))):=by rfl):
  PE X (.Call (.Attribute o m apos) [] [] pos) (Sqz C m sp dvs E ta Jus):=by
 intro pins s σ H Q I h
 refine PySem.W.methodCall_KW (thn (he pins s σ H _ I h) λu s1 zq=>?_) ht
 obtain ⟨x,H1,I1,rx,a,dx,fs,ex,ea,l,q⟩:=zq
 subst ex
 obtain rfl:u=Value.ref a:=rx
 exact Jsf I1 ea c hm l (PySem.W.callWith_K0 I1.kIn hm.kp (Jxz (vs:=[.ref a]) F hr hb hd hx I1 (.cons rfl .nil) q))
structure Mk (K:Si) (C f:S5):Prop where
 makes:PySem.W.makesIn K C=true
 init:Sk K (.ref C) "__init__" =some (some (.ref f))
 fn:PySem.W.isFn K (.ref f)=true
 kp:PySem.W.keepIn K (.ref C)=true
theorem Ycq {σ:St} {H} {s} {Q} {us} {vs} (M:Mk X.K C f) (F:Sx X.prog X.w X.K X.mg X.base CX k f fd ps sp) (hr:Sak (k+1) X.A) (hb:Sbg X.K fd ps ds) (hd:Sa4 dvs ds)
  (hx:Jth CX X E) (I:Su X pins σ H s) (r:Sa4 vs us)
  (h:∀x dx,H x=none->H dx=none->dx≠x->sp (.ref x::(vs++dvs)) (upd (upd H dx (.own x)) x (.ins C dx [])) (λv H2=>v= .non/\Q (.ref x) H2) E):
  Sh (model X.prog X.w) X.A (call (.ref C) us) (EP X pins σ Q) X.xe s:=by
 have hq:=h (s.heap.objs.size+1) s.heap.objs.size (I.hok.fresh (Nat.le_succ _)) (I.hok.fresh (yl _)) (yr (ybw _))
 have I2:=Su.made (C:=C) I
 have r2:Sa4 (V.ref (s.heap.objs.size+1)::(vs++dvs)) (Value.ref (s.heap.objs.size+1)::(us++ds)):=.cons rfl (r.append hd)
 have hl:=by
  have e:=r2.length
  rw [F.len _ _ _ _ hq] at e
  exact e.symm
 refine wpAny_call (Ycb I.kIn M.makes M.init (beq_iff_eq.mp M.fn) (codeAny_mono (F.run _ X.stack _ _ ⟨Value.ref (s.heap.objs.size+1)::us,[]⟩ (Value.ref (s.heap.objs.size+1)::(us++ds)) _ _ E (hr.make C us [])
  (I2.env0.make C us []) (hb _ (Value.ref (s.heap.objs.size+1)::us) I2.kIn hl) r2 hq) λr s' hq'=>?_))
 cases r with
 |error e=>exact hx pins σ _ _ e s' I2 hq'
 |ok fl=>
  cases fl with
  |ret u=>
   obtain ⟨v,H',I3,rv,ev,q3⟩:=I2.after hq'
   subst ev
   exact ⟨rv,⟨V.ref (s.heap.objs.size+1),H',I3,rfl,q3⟩⟩
  |next=>exact False.elim hq'
  |brk=>exact False.elim hq'
  |cont=>exact False.elim hq'
theorem Jpq (M:Mk X.K C f) (F:Sx X.prog X.w X.K X.mg X.base CX k f fd ps sp) (hr:Sak (k+1) X.A) (hg:Gl X x) (hm:X.mg x=some (.ref C)) (hb:Sbg X.K fd ps ds) (hd:Sa4 dvs ds) (hx:Jth CX X E)
  (ha:PA X (e::es) t) (hdb:(x==("__debug__" :Str))=false:=by decide) (he:starEach (e::es) X.env=(false,eval e X.env)::starEach es X.env:=by rfl) (hpl:(backTo pos (starEach es X.env)).any (·.1)=false:=by rfl):
  PE X (.Call (.Name x p) (e::es) [] pos) (Sqy C sp dvs E t):=by
 intro pins s σ H Q I h
 exact wpAny_Call_Name_kw (Jqu I hg hm (PySem.W.callWith_K I.ok.mod.kin M.kp (thn (ha pos pins s σ H _ I h) λus s1 ⟨vs,H1,I1,r,q⟩=>⟨I1.kIn,Ycq M F hr hb hd hx I1 r q⟩) he hpl) hdb)
end
section
variable {X:Cx} {CX:CXT} {k:Nat} {f C:S5} {fd:Sc} {ps ks:List Str} {sp:Sp} {E:XK} {x m:Str} {p pos apos kpos:Pos} {e o:Expr} {es:List Expr} {kws:List Keyword} {te ta:TE} {t tk:TA} {nm:Option Str}
variable {g:List S6->List S6->List S6} {gV:List V->List V->List V}
end
structure Jmp (N P:List Str) (sc:Scope):Prop where
 kind:sc.kind= .function
 co:sc.isCoroutine=false
 gen:sc.isGenerator=false
 nd:N.Nodup
 pre:N.take P.length=P
 par:∀x∈P,sc.names.lookup x=some .local\/sc.names.lookup x=some .cell
 nofree:∀y∈sc.names,y.2≠ .free
theorem Jwv {kindOf}:∀{binds} {m},(∀v,(x,v)∉binds)->bindL kindOf binds m x=m x
 | [],_,_=>rfl
 | (n,v) :: r,m,h=>by
  unfold bindL
  rw [Jwv λw hw=>h w (yac _ hw)]
  split
  ·have:x≠n:=by rintro rfl;exact h v yan
   simp [this]
  ·rfl
theorem Jwu {kindOf}:∀{binds} {m},(∀v,(x,v)∉binds)->bindC kindOf binds m x=m x
 | [],_,_=>rfl
 | (n,v) :: r,m,h=>by
  unfold bindC
  rw [Jwu λw hw=>h w (yac _ hw)]
  split
  ·rfl
  ·have:x≠n:=by rintro rfl;exact h v yan
   simp [this]
theorem Jtk {kindOf:Str->Option NameKind} {x:Str} {v:S6}:∀{P:List Str} {vs:List S6} {i:Nat} {m:Str->Option S6},P.Nodup->P[i]?=some x->vs[i]?=some v->kindOf x=some .local->
  bindL kindOf (P.zip vs) m x=some v
 | [],_,_,_,_,h,_,_=>by simp at h
 |_::_,[],_,_,_,_,h,_=>by simp at h
 |p::P,w::vs,0,m,nd,h1,h2,hk=>by
  simp at h1 h2;subst h1;subst h2
  show bindL kindOf ((p,w)::P.zip vs) m p=_
  unfold bindL
  rw [Jwv λv hv=>(yax.mp nd).1 (ybs hv).1,if_pos hk]
  simp
 |p::P,w::vs,i+1,m,nd,h1,h2,hk=>by
  show bindL kindOf ((p,w)::P.zip vs) m x=_
  unfold bindL
  exact Jtk (i:=i) (yax.mp nd).2 (by simpa using h1) (by simpa using h2) hk
theorem Jtj {kindOf:Str->Option NameKind} {x:Str} {v:S6}:∀{P:List Str} {vs:List S6} {i:Nat} {m:Str->Option S6},P.Nodup->P[i]?=some x->vs[i]?=some v->kindOf x≠some .local->
  bindC kindOf (P.zip vs) m x=some v
 | [],_,_,_,_,h,_,_=>by simp at h
 |_::_,[],_,_,_,_,h,_=>by simp at h
 |p::P,w::vs,0,m,nd,h1,h2,hk=>by
  simp at h1 h2;subst h1;subst h2
  show bindC kindOf ((p,w)::P.zip vs) m p=_
  unfold bindC
  rw [Jwu λv hv=>(yax.mp nd).1 (ybs hv).1,if_neg hk]
  simp
 |p::P,w::vs,i+1,m,nd,h1,h2,hk=>by
  show bindC kindOf ((p,w)::P.zip vs) m x=_
  unfold bindC
  exact Jtj (i:=i) (yax.mp nd).2 (by simpa using h1) (by simpa using h2) hk
def start (N:List Str) (vs:List V):St:=vs.map some++yt (N.length - vs.length) none
def Juk (CX:CXT) (P:Sb) (w:Sd) (K:Si) (mg:Str->Option S6) (base:Sg) (N:List Str) (qual:Str) (scope:Scope) (f:S5) (cd:S6) (A:Se) (outer:List Env) (s:S7) (H:Hp) (E:XK):Cx where
 prog:=P
 w:=w
 K:=K
 mg:=mg
 base:=base
 A:=A.deeper (envOfC qual scope s.heap.objs.size f cd)
 N:=N
 s₀:=s
 H₀:=H
 env:=envOfC qual scope s.heap.objs.size f cd
 outer:=outer
 stack:=envOfC qual scope s.heap.objs.size f cd::outer
 ex:=[]
 calm:=true
 fn:=λ_=>true
 pn:=[]
 xe:=λe s'=>Sh (model P w) (A.deeper (envOfC qual scope s.heap.objs.size f cd)) (leaving (envOfC qual scope s.heap.objs.size f cd) e) (λ_ s''=>CX outer H s E e s'') (λe' s''=>CX outer H s E e' s'') s'
theorem Jqh {sc:Scope} (h:sc.names.lookup x=some .cell):∃c,(cellsFrom n sc.names []).lookup x=some c:=ybx.mp (PySem.W.cellsFrom_some sc.names n [] (.inl h))
theorem Jts {K}
  (S:Jmp N ps scope) (hd:A.handled=none) (e0:Sex P w K mg base A outer s H) (hl:vs.length=ps.length) (r:Sa4 vs us)
  (x:InCallC s s.heap.objs.size (bindL (envOfC qual scope s.heap.objs.size f cd).kindOf (ps.zip us) λ_=>none) (cellsFrom (s.heap.objs.size+1) scope.names []) (bindC (envOfC qual scope s.heap.objs.size f cd).kindOf (ps.zip us) λ_=>none) s1):
  Su (Juk CX P w K mg base N qual scope f cd A outer s H E) [] (start N vs) H s1:=by
 have hpl:=by have:=congrArg List.length S.pre;rw [yz] at this;omega
 obtain ⟨h1,tk,rfl,hk⟩:=x.done
 have noA:∀b:S5,b∉(Juk CX P w K mg base N qual scope f cd A outer s H E).ex:=λb z=>absurd (show b∈ [] from z) (by simp)
 refine ⟨⟨e0.mod,S.kind,rfl,rfl,yl _,λy z c h1 h2=>?_,λy hy=>?_,λy c _ h=>?_,λ_=>hd,Around.frames_deeper e0.frames,.inr ⟨rfl,rfl⟩,λb z=>absurd z (noA b),e0.bs,e0.bsz,λb _ _=>noA b,λb z=>absurd z (noA b),e0.funs,e0.frf⟩,
  rfl,e0.bare,Un.kept hk,⟨_,x.toInCall.ns,λi y v h1 h2 h3=>?_⟩,λy c h=>⟨_,x.cell y c h⟩,e0.hok.fresh (yl _),λy c h=>?_,λp hp=>absurd (show p∈ [] from hp) (by simp),e0.hok.kept hk,?_⟩
 ·exact name_of_addr x.apart (PySem.mem_of_lookup h1) (PySem.mem_of_lookup h2)
 ·have hy:=hy
  rcases hy with hy|hy
  ·exact Jqh hy
  ·exact absurd rfl (S.nofree _ (PySem.mem_of_lookup hy))
 ·exact ybd (x.above y c (PySem.mem_of_lookup h))
 ·have hi:i < vs.length:=by
   unfold start at h2
   by_cases hi:i < vs.length
   ·exact hi
   ·rw [ycc (by simpa using hi)] at h2
    rw [ybj] at h2
    split at h2 <;> cases h2
  have ha:vs[i]?=some v:=by
   unfold start at h2
   rw [ycd (by simpa using hi),yj] at h2
   cases e:vs[i]? with
   |none=>rw [e] at h2;cases h2
   |some a=>rw [e] at h2;cases h2;rfl
  obtain ⟨u,hu,rv⟩:=r.get ha
  have hp:ps[i]?=some y:=by
   rw [<-S.pre,List.getElem?_take_of_lt (by omega)];exact h1
  have ndP:ps.Nodup:=by rw [<-S.pre];exact S.nd.sublist (List.take_sublist _ _)
  refine ⟨u,rv,?_⟩
  rcases S.par y (yy hp) with k|k
  ·exact .inl ⟨k,Jtk ndP hp hu k⟩
  ·obtain ⟨c,e⟩:=Jqh k
   refine .inr ⟨.inl k,c,e,?_⟩
   have q:=x.cell y c e
   rw [Jtj ndP hp hu (by show scope.names.lookup y≠_;rw [k];decide)] at q
   exact q
 ·exact .inl (e0.hok.fresh (ybd (x.above y c (PySem.mem_of_lookup h))))
 ·unfold start
  show _=N.length
  rw [yah,yf,yat]
  omega
theorem Skh {K} {kV oc}
  (lk:K.lookup f=some ⟨oc,od,.func (PySem.W.fnOf name qual params body scope dV kV doc pm an cdv ct),osl⟩) (hcd:PySem.W.codeIn K cdv qual=true) (S:Jmp N ps scope)
  (len:∀vs H Q E,sp vs H Q E->vs.length=ps.length)
  (hbody:∀A outer s H vs Q E,Sak k (A.deeper (envOfC qual scope s.heap.objs.size f cdv))->sp vs H Q E->
   ∃t,PSs (Juk CX P w K mg base N qual scope f cdv A outer s H E) body t/\t {nx:=λ_ H'=>Q .non H',rt:=Q} (start N vs) H):
  Sx P w K mg base CX (k+1) f (PySem.W.fnOf name qual params body scope dV kV doc pm an cdv ct) ps sp:=by
 refine ⟨len,λA outer s H args us vs Q E hr e0 hb r hsp=>?_⟩
 have KX:=e0.mod.kin.keeps λb o e=>(e0.bs b o e).1
 have hkind:∀y∈ps.zip us,scope.names.lookup y.1=some .local\/(scope.names.lookup y.1=some .cell/\((cellsFrom (s.heap.objs.size+1) scope.names []).lookup y.1).isSome=true):=λ⟨n,v⟩ hy=>by
  rcases S.par n (ybs hy).1 with q|q
  ·exact .inl q
  ·exact .inr ⟨q,PySem.W.cellsFrom_some _ _ _ (.inl q)⟩
 refine codeAny_call_function hr.depth (KX _ _ lk) rfl S.co S.gen rfl (PySem.W.codeRec_of KX hcd) (hb _ _ _ _ (wpAny_newFunctionEnv_cells S.kind hkind λenv he s1 x=>?_))
 subst he
 refine ⟨(e0.mod.nolimit.keeps λb o e=>(e0.bs b o e).1).keeps x.toInCall.keep,codeAny_func ?_⟩
 obtain ⟨t,ht,hq⟩:=hbody A outer s H vs Q E (hr.deeper _) hsp
 have I:Su (Juk CX P w K mg base N qual scope f cdv A outer s H E) [] (start N vs) H s1:=Jts S hr.hd e0 (len _ _ _ _ hsp) r x
 refine wpAny_mono (ht [] s1 (start N vs) H _ I hq) (λfl s' hs=>?_) λe s' hs=>hs
 have fin:∀{σ':St} {H':Hp} {v:V} {u:S6},Su (Juk CX P w K mg base N qual scope f cdv A outer s H E) [] σ' H' s'->Sa6 v u->Q v H'->CE outer P w H s Q u s':=
  λ{σ' H' v u} J rv q=>⟨v,H',J.os,J.bare,J.base,J.hok,rv,q⟩
 cases fl with
 |ret u=>
  obtain ⟨v,σ',H',J,rv,q⟩:=hs
  exact fin J rv q
 |next=>
  obtain ⟨σ',H',J,q⟩:=hs
  exact fin (v:=V.non) J rfl q
 |brk=>
  obtain ⟨_,_,_,q⟩:=hs
  exact False.elim q
 |cont=>
  obtain ⟨_,_,_,q⟩:=hs
  exact False.elim q
section
variable {X:Cx} {x:Str} {p pos:Pos} {e:Expr} {es:List Expr} {t:TA} {id T:String} {r:List V->Hp->VK->Prop}
def tCB (r:List V->Hp->VK->Prop) (t:TA):TE:=λσ H Q=>t σ H λvs H1=>r vs H1 Q
theorem Jmq (hc:Jpl X (.builtin id) r) (hg:Gl X x) (hm:X.mg x=none) (hv:bootBuiltins x=some (.builtin id)) (ha:PA X (e::es) t) (hn:x≠"__name__" :=by decide) (hdb:(x==("__debug__" :Str))=false:=by decide)
  (he:starEach (e::es) X.env=(false,eval e X.env)::starEach es X.env:=by rfl) (hpl:(backTo pos (starEach es X.env)).any (·.1)=false:=by rfl):PE X (.Call (.Name x p) (e::es) [] pos) (tCB r t):=by
 intro pins s σ H Q I h
 exact wpAny_Call_Name_kw (Jqt I hg hm hv (PyProof.Rows.callWith_builtin1 (thn (ha pos pins s σ H _ I h) λus s1 ⟨vs,H1,I1,r1,q1⟩=>hc pins s1 σ H1 vs us Q I1 r1 q1) he hpl) hn hdb)
theorem Jn3 (hc:Jpl X (.type T) r) (hg:Gl X x) (hm:X.mg x=none) (hv:bootBuiltins x=some (.type T)) (ha:PA X (e::es) t) (hn:x≠"__name__" :=by decide) (hdb:(x==("__debug__" :Str))=false:=by decide)
  (he:starEach (e::es) X.env=(false,eval e X.env)::starEach es X.env:=by rfl) (hpl:(backTo pos (starEach es X.env)).any (·.1)=false:=by rfl):PE X (.Call (.Name x p) (e::es) [] pos) (tCB r t):=by
 intro pins s σ H Q I h
 exact wpAny_Call_Name_kw (Jqt I hg hm hv (PyProof.Rows.callWith_type1 (thn (ha pos pins s σ H _ I h) λus s1 ⟨vs,H1,I1,r1,q1⟩=>hc pins s1 σ H1 vs us Q I1 r1 q1) he hpl) hn hdb)
end
end L2
namespace HT
open PySem PyProof.Rows
section
open PySem.SeqAt
open PySem.AutoSeq1 (wpAny_loadPart')
open PySem.MeetsSeq PySem.MeetsSeq2 PySem.MeetsSeq3
end
section
variable {prog:Sb} {w:Sd} {A:Se} {E:S6->S7->Prop} {s:S7}
theorem cat_tup (ht:IsTup s.heap t vs.toArray) (hb:IsTup s.heap b ws.toArray) (hv:vs≠ [])
  (h1:ws= []->Q (.ref t) s) (h2:ws≠ []->Q (.ref s.heap.objs.size) {s with heap:=s.heap.push {cls:=.type "tuple",data:=.seq (vs++ws).toArray}})
  (hsz:vs.length+ws.length<=Sa):Sh (model prog w) A (binaryOp .Add (.ref t) (.ref b)) Q E s:=by
 obtain ⟨⟨cls,dd,data,sl⟩,ho,hc,n,hd⟩:=id ht
 obtain ⟨⟨cls2,dd2,data2,sl2⟩,ho2,hc2,n2,hd2⟩:=id hb
 subst hc hd hc2 hd2
 have e:vs.toArray++ws.toArray=(vs++ws).toArray:=by simp
 by_cases hw:ws= []
 ·exact concat_meets ⟨_,ho,rfl⟩ ⟨_,ho2,rfl⟩ noFill_tuple_add seq_tuple_add PySem.F.slot_tuple_add PySem.F.entry_tuple_add (PySem.F.args_tuple_add_2 _ _)
   (tuple_addW1 t b vs.toArray ws.toArray n n2 dd dd2 sl sl2 (by simpa using hv) (by simp [hw])) ⟨ho,ho2,h1 hw⟩
 ·refine concat_meets ⟨_,ho,rfl⟩ ⟨_,ho2,rfl⟩ noFill_tuple_add seq_tuple_add PySem.F.slot_tuple_add PySem.F.entry_tuple_add (PySem.F.args_tuple_add_2 _ _)
   (tuple_addW2 t b vs.toArray ws.toArray n n2 dd dd2 sl sl2 (by simpa using hv) (by simpa using hw) (by rw [ym];exact hsz)) ⟨ho,ho2,?_⟩
  rw [e]
  exact h2 hw
def sIx (n d:Nat):Option Int->Nat
 |none=>d
 |some v=>if v < 0 then (v+(n:Int)).toNat else min v.toNat n
theorem sIx_none (n d):sIx n d none=d:=rfl
theorem Yi (v:Int) (n d:Nat):(if v < 0 then max (v+n) 0 else min v n)=((sIx n d (some v):Nat):Int):=by
 show (if v < 0 then max (v+n) 0 else min v n)=(if v < 0 then (v+n).toNat else min v.toNat n)
 by_cases hv:v < 0
 ·simp only [if_pos hv];omega
 ·simp only [if_neg hv];omega
theorem Jza (lo hi) (n:Nat):Builtin.Slice.sliceAdjust lo hi 1 (n)=(((sIx n 0 lo:Nat):Int),(sIx n n hi:Int)):=by
 refine Prod.ext ?_ ?_
 ·cases lo with
  |none=>rfl
  |some v=>exact Yi v n 0
 ·cases hi with
  |none=>rfl
  |some v=>exact Yi v n n
theorem Jzy (i j:Nat):Builtin.Slice.slicePlaces (i) (j) 1=j - i:=by
 unfold Builtin.Slice.slicePlaces
 split <;> omega
theorem Jw3 (p:IsPart v o) (h:Q o s):Sh (model prog w) A (Builtin.Slice.slicePartIndex v) Q E s:=by
 cases p with
 |none=>exact slicePart_none h
 |int i t=>exact slicePart_int h
theorem Ju6 {lo hi} {n:Nat} {Q} (hs:s.heap.IsSliceOf sl vl vu .none) (pl:IsPart vl lo) (pu:IsPart vu hi)
  (h:Q (((sIx n 0 lo:Nat):Int),1,sIx n n hi - sIx n 0 lo) s):Sh (model prog w) A (Builtin.Slice.sliceApplied (.ref sl) (pure n)) Q E s:=by
 obtain ⟨os,hos,hcs,hds⟩:=id hs
 refine S8 (S8 (wpAny_field hos hds rfl (S8 (wpAny_field hos hds rfl (S8 (wpAny_field hos hds rfl (S9 (S8 (slicePart_none (S8 (Jw3 pl (S8 (Jw3 pu (S8 (S9 ?_)))))))))))))))
 show Sh _ _ (match Builtin.Slice.sliceAdjust lo hi 1 n with|(lo,hi)=>pure (lo,(1:Int),Builtin.Slice.slicePlaces lo hi 1)) _ _ s
 rw [Jza lo hi n]
 show Sh _ _ (pure ((sIx n 0 lo:Int),1,Builtin.Slice.slicePlaces (sIx n 0 lo) (sIx n n hi) 1)) _ _ s
 rw [Jzy]
 exact S9 h
theorem Yck (xs:Array S6) (i k:Nat):((yaz k).filterMap λ(m:Nat)=>xs[((i:Int)+m*1).toNat]?).toArray=((xs.toList.drop i).take k).toArray:=by
 have e:(λ(m:Nat)=>xs[((i:Int)+m*1).toNat]?)=λm=>xs[i+m]?:=by
  funext m
  have:((i:Int)+m*1).toNat=i+m:=by omega
  rw [this]
 rw [e]
 have:=pick_run xs i k
 rw [List.filterMap_map] at this
 have e2:((λx=>xs[x]?)∘λx=>i+x)=λm=>xs[i+m]?:=rfl
 rw [e2] at this
 rw [this]
theorem getItem_tuple_cut {items} {vl vu} {lo hi} {Q} (ht:IsTup s.heap t items) (hs:s.heap.IsSliceOf sl vl vu .none) (pl:IsPart vl lo) (pu:IsPart vu hi)
  (hw:¬(sIx items.size 0 lo=0/\sIx items.size items.size hi=items.size))
  (h:Q (.ref s.heap.objs.size) {s with heap:=s.heap.push {cls:=.type "tuple",data:=.seq ((items.toList.drop (sIx items.size 0 lo)).take (sIx items.size items.size hi - sIx items.size 0 lo)).toArray}})
  (hsz:items.size<=Sa):Sh (model prog w) A (getItem (.ref t) (.ref sl)) Q E s:=by
 have htake:=by
  show ((items.toList.drop (sIx items.size 0 lo)).take (sIx items.size items.size hi - sIx items.size 0 lo)).toArray.size<=Sa
  rw [ym,yz,List.length_drop,Array.length_toList]
  omega
 obtain ⟨os,hos,hcs,hds⟩:=id hs
 have hTs:s.TypeIs (.ref sl) "slice" :=⟨os,hos,hcs⟩
 unfold getItem
 try with_reducible refine wpAny_holding ?_
 refine S8 (wpAny_sequenceKey ht.typeIs (by decide) (S8 (wpAny_callSpecial?_slot ht.typeIs PyProof.Rows.slot_tuple_getitem
  (wpAny_call_entry PyProof.Rows.slot_tuple_getitem ht.typeIs entry_tuple_getitem ?_ (args_tuple_getitem _ _)))))
 show Sh _ _ (Builtin.Tuple.tupleItemsOf (.ref t) >>=_) _ _ s
 refine S8 (tupleItemsOf_ ht (S8 (wpAny_typeOf hTs (S8 (Ju6 hs pl pu ?_)))))
 have hno:¬(((sIx items.size 0 lo:Int)==0&&(1:Int)==1&&(sIx items.size items.size hi - sIx items.size 0 lo)==items.size)=true):=by
  intro q
  rw [yx,yx] at q
  have q1:=eq_of_beq q.1.1
  have q2:=eq_of_beq q.2
  exact hw ⟨by omega,by omega⟩
 show Sh _ _ (if ((sIx items.size 0 lo:Int)==0&&1==1&&(sIx items.size items.size hi - sIx items.size 0 lo)==items.size)=true then _ else _) _ _ s
 rw [if_neg hno,Yck]
 first
  |exact S8 (wpAny_newObj_type (S9 ⟨_,rfl,S9 h⟩) htake)
  |exact S8 (wpAny_newObj_type (S8 (S9 (S9 ⟨_,rfl,S9 h⟩))) htake)
  |exact S8 (S8 (wpAny_newObj_type (S9 (S9 ⟨_,rfl,S9 h⟩)) htake))
  |exact S8 (S8 (wpAny_newObj_type (S9 ⟨_,rfl,S9 h⟩) htake))
end
end HT
namespace L2
open PySem PySem.Spec PyProof.Rows
abbrev TO:=St->Hp->(Option Int->Hp->Prop)->Prop
def PO (X:Cx) (e:Option Expr) (t:TO):Prop:=
 ∀(pins:List (S5×Obj)) (s:S7) (σ:St) (H:Hp) (Q:Option Int->Hp->Prop),Su X pins σ H s->t σ H Q->
  Sh (model X.prog X.w) X.A (evalPart e X.env) (λu s'=>∃o H',Su X pins σ H' s'/\IsPart u o/\Q o H') X.xe s
def Yf8:TO:=λ_ H Q=>Q none H
inductive Yf9 (Q:(Option Int->Hp->Prop)) (x:V) (H1:Hp):Prop where
 |mk (i:_) (_:x= .int i) (_:Q (some i) H1)
def Sr0 (t:TE):TO:=λσ H Q=>t σ H (Yf9 Q)
section
variable {X:Cx} {e:Expr} {te:TE} {lo hi:Option Expr} {tl th:TO} {pos p2:Pos}
theorem Jv1:PO X none Yf8:=by
 intro pins s σ H Q I h
 exact S9 ⟨none,H,I,.none,h⟩
theorem Jv2 (h:PE X e te):PO X (some e) (Sr0 te):=by
 intro pins s σ H Q I hw
 refine thn (h pins s σ H _ I hw) λu s1 zq=>?_
 obtain ⟨x,H1,I1,r1,q1⟩:=zq
 obtain ⟨i,rfl,q⟩:=q1
 obtain ⟨t,rfl⟩:=r1
 exact ⟨some i,H1,I1,.int i t,q⟩
def SlR (X:Cx) (r:V->Option Int->Option Int->Hp->VK->Prop):Prop:=
 ∀(pins:List (S5×Obj)) (s:S7) (σ:St) (H:Hp) (x:V) (v vl vu:S6) (lo hi:Option Int) (sl:S5) (Q:VK),Su X pins σ H s->Sa6 x v->s.heap.IsSliceOf sl vl vu .none->IsPart vl lo->IsPart vu hi->r x lo hi H Q->
  ∃T id,typeLookup (.type T) "__getitem__" =pure (some (.builtin id))/\s.TypeIs v T/\Sh (model X.prog X.w) X.A (getItem v (.ref sl)) (EP X pins σ Q) X.xe s
def tSl (r:V->Option Int->Option Int->Hp->VK->Prop) (te:TE) (tl th:TO):TE:=λσ H Q=>te σ H λx H1=>tl σ H1 λl H2=>th σ H2 λu H3=>r x l u H3 Q
theorem Jt3 (hr:SlR X r) (he:PE X e te) (hl:PO X lo tl) (hu:PO X hi th):PE X (.Subscript e (.Slice lo hi none p2) pos) (tSl r te tl th):=by
 intro pins s σ H Q I h
 refine Subscript_ (thn (he pins s σ H _ I h) λv s1 ⟨x,H1,I1,r1,q1⟩=>wpAny_Slice (thn (hl pins s1 σ H1 _ I1 q1) λvl s2 ⟨l,H2,I2,pl,q2⟩=>thn (hu pins s2 σ H2 _ I2 q2) λvu s3 ⟨u,H3,I3,pu,q3⟩=>S9 ?_))
 have I4:Su X pins σ H3 {s3 with heap:=s3.heap.push {cls:=.type "slice",data:=.fields #[vl,vu,.none]}}:=I3.kept λb ob q=>yn _ q
 obtain ⟨T,id,hT,ht,hg⟩:=hr pins {s3 with heap:=s3.heap.push {cls:=.type "slice",data:=.fields #[vl,vu,.none]}} σ H3 x v vl vu l u s3.heap.objs.size Q I4 r1 (Heap.IsSliceOf.new ..) pl pu q3
 exact tail_any ht hT hg (by with_unfolding_all rfl)
def Jxe (xs:List V) (lo hi:Option Int):List V:=(xs.drop (HT.sIx xs.length 0 lo)).take (HT.sIx xs.length xs.length hi - HT.sIx xs.length 0 lo)
theorem Ju7 (xs) (lo hi):(Jxe xs lo hi).length<=xs.length:=by
 unfold Jxe
 rw [yz,List.length_drop]
 omega
inductive Sux (K:Si) (x:V) (lo:Option Int) (hi:Option Int) (H:Hp) (Q:VK):Prop where
 |mk (a:_) (xs:_) (_:x= .ref a) (_:SqT K H a xs) (_:¬(HT.sIx xs.length 0 lo=0/\HT.sIx xs.length xs.length hi=xs.length)) (_:∀p,H p=none->Q (.ref p) (upd H p (.tup (Jxe xs lo hi))))
theorem Yct:SlR X (Sux X.K):=by
 intro pins s σ H x v vl vu lo hi sl Q I rx hs pl pu h
 obtain ⟨a,xs,rfl,hx,hw,q⟩:=h
 cases rx
 obtain ⟨its,r,ht,hz⟩:=I.tuple hx
 have hlen:its.toArray.size=xs.length:=by rw [ym];exact r.length.symm
 refine ⟨"tuple",_,PyProof.Rows.slot_tuple_getitem.lookup,ht.typeIs,HT.getItem_tuple_cut ht hs pl pu (by rw [hlen];exact hw) ?_ (by rw [hlen];exact hz)⟩
 rw [hlen]
 refine ⟨.ref s.heap.objs.size,_,I.laid (λb ob q=>yn _ q) (yl _) ?_,rfl,q _ (I.hok.fresh (yl _))⟩
 exact ⟨yam (Ju7 xs lo hi) hz,_,(r.drop (HT.sIx xs.length 0 lo)).take (HT.sIx xs.length xs.length hi - HT.sIx xs.length 0 lo),IsTup.new _ _⟩
inductive Sq7 (K:Si) (x:V) (y:V) (H:Hp) (Q:VK):Prop where
 |mk (a:_) (b:_) (xs:_) (ys:_) (_:x= .ref a) (_:y= .ref b) (_:SqT K H a xs) (_:SqT K H b ys) (_:xs≠ []) (_:xs.length+ys.length<=Sa) (_:(ys= []->Q (.ref a) H)) (_:(ys≠ []->∀p,H p=none->Q (.ref p) (upd H p (.tup (xs++ys)))))
theorem Sa4.nil_iff (r:Sa4 xs us):us= []↔xs= []:=by
 cases r with
 |nil=>simp
 |cons _ _=>simp
theorem Yeb:OpR X (binaryOp .Add) (Sq7 X.K):=by
 rintro pins s σ H x y v u Q I rx ry ⟨a,b,xs,ys,rfl,rfl,ha,hb,hx,hz,q1,q2⟩
 cases rx
 cases ry
 obtain ⟨its,r1,p1,_⟩:=I.tuple ha
 obtain ⟨its2,r2,p2,_⟩:=I.tuple hb
 refine HT.cat_tup p1 p2 (λz=>hx (r1.nil_iff.mp z)) (λz=>⟨.ref a,H,I,rfl,q1 (r2.nil_iff.mp z)⟩) (λz=>⟨.ref s.heap.objs.size,_,I.laid (λb ob q=>yn _ q) (yl _) ?_,rfl,q2 (λw=>z (r2.nil_iff.mpr w)) _ (I.hok.fresh (yl _))⟩) (by rw [<-r1.length,<-r2.length];exact hz)
 exact ⟨by rw [yah];exact hz,_,r1.append r2,IsTup.new _ _⟩
end
def ixN (n:Nat) (i:Int):Option Nat:=if 0<=i then (if i < n then some i.toNat else none) else if -(n:Int)<=i then some (i+n).toNat else none
def atI {α:Type} (xs:List α) (i:Int):Option α:=(ixN xs.length i).bind λj=>xs[j]?
theorem Yr (h:ixN n i=some j):seqIndex? i n=some j/\j < n/\ -(n)<=i/\i < n:=by
 unfold ixN at h
 by_cases h0:0<=i
 ·rw [if_pos h0] at h
  by_cases h1:i < n
  ·rw [if_pos h1] at h
   have e:=yw.inj h
   exact ⟨by rw [seqIndex_of h0 h1,e],by omega,by omega,h1⟩
  ·rw [if_neg h1] at h;cases h
 ·rw [if_neg h0] at h
  by_cases h1: -n<=i
  ·rw [if_pos h1] at h
   have e:=yw.inj h
   exact ⟨by rw [seqIndex_neg (by omega) h1,e],by omega,h1,by omega⟩
  ·rw [if_neg h1] at h;cases h
theorem Juu (h:atI xs i=some v):∃j,seqIndex? i xs.length=some j/\xs[j]?=some v/\j < xs.length/\ -(xs.length:Int)<=i/\i < xs.length:=by
 unfold atI at h
 cases e:ixN xs.length i with
 |none=>rw [e] at h;cases h
 |some j=>
  rw [e] at h
  obtain ⟨h1,h2,h3,h4⟩:=Yr e
  exact ⟨j,h1,h,h2,h3,h4⟩
theorem Jpc {j:Nat} (h:xs[j]?=some v):atI xs (j)=some v:=by
 have hj:=(yo.mp h).1
 have e:ixN xs.length j=some j:=by
  unfold ixN
  rw [if_pos (by omega),if_pos (by omega)];simp
 unfold atI;rw [e];exact h
def Ydx (b:Expr):Prop:=∀o i,subscripted b false o i=operate [o,i] (getItem o i)
def IxR (X:Cx) (r:R2):Prop:=
 ∀(value slice:Expr) (pins:List (S5×Obj)) (s:S7) (σ:St) (H:Hp) (x y:V) (v u:S6) (Q:VK),Su X pins σ H s->Sa6 x v->Sa6 y u->r x y H Q->
  subscripted slice false v u=operate [v,u] (getItem v u)->Sh (model X.prog X.w) X.A (subscriptTail value slice v u) (EP X pins σ Q) X.xe s
def MtR (X:Cx) (id:String) (r:V->List V->Hp->VK->Prop):Prop:=
 ∀(pins:List (S5×Obj)) (s:S7) (σ:St) (H:Hp) (x:V) (xs:List V) (v:S6) (us:List S6) (Q:VK),Su X pins σ H s->Sa6 x v->Sa4 xs us->r x xs H Q->
  Sh (model X.prog X.w) X.A (call (.builtin id) (v::us)) (EP X pins σ Q) X.xe s
section
variable {X:Cx} {a b:Expr} {ta tb:TE} {pos:Pos}
theorem Jmv (hr:IxR X r) (ha:PE X a ta) (hb:PE X b tb) (hs:Ydx b):PE X (.Subscript a b pos) (tOp r ta tb):=by
 intro pins s σ H Q I h
 exact Subscript_ (Slx ha hb I h λv u s2 x y H2 I2 rx ry q=>hr a b pins s2 σ H2 x y v u Q I2 rx ry q (hs _ _))
inductive Sqa (K:Si) (x:V) (y:V) (H:Hp) (Q:VK):Prop where
 |mk (p:_) (xs:_) (i:_) (v:_) (_:x= .ref p) (_:y= .int i) (_:Sy K H p xs) (_:atI xs i=some v) (_:Q v H)
inductive Sqb (K:Si) (x:V) (y:V) (H:Hp) (Q:VK):Prop where
 |mk (p:_) (xs:_) (i:_) (v:_) (_:x= .ref p) (_:y= .int i) (_:SqT K H p xs) (_:atI xs i=some v) (_:Q v H)
inductive Suw (x:V) (y:V) (H:Hp) (Q:VK):Prop where
 |mk (z:_) (i:_) (c:_) (_:x= .str z) (_:y= .int i) (_:z.length<=Sa) (_:atI z.cps.toList i=some c) (_:Q (.str ⟨#[c]⟩) H)
theorem Jnc:IxR X (Sqa X.K):=by
 rintro value slice pins s σ H x y v u Q I rx ry ⟨p,xs,i,z,rfl,rfl,hq,he,q⟩ hs
 cases rx
 obtain ⟨t,rfl⟩:=ry
 obtain ⟨its,r,pl,hz⟩:=I.list hq
 obtain ⟨j,h1,h2,h3,h4,h5⟩:=Juu he
 obtain ⟨w,ew,rw'⟩:=r.get h2
 have hl:=r.length
 have hn:=Jrc
 have fin:EP X pins σ Q w s:=⟨z,H,I,rw',q⟩
 by_cases h0:0<=i
 ·have hj:=by
   rw [seqIndex_of h0 h5] at h1
   exact yw.inj h1
  exact item_listR pl.isList h0 (by omega) (by rw [hj];simpa using ew) fin hs
 ·have hj:(i+its.toArray.size).toNat=j:=by
   rw [seqIndex_neg (by omega) h4] at h1
   rw [ym,<-hl]
   exact yw.inj h1
  exact subscriptTail_builtinR pl.isList.typeIs slot_list_getitem.lookup
   (wpAny_getItem_list_neg pl.isList (by omega) (by rw [ym] <;> omega) (by omega) (by rw [hj];simpa using ew) ⟨rfl,fin⟩) hs
theorem Jn2:IxR X (Sqb X.K):=by
 rintro value slice pins s σ H x y v u Q I rx ry ⟨p,xs,i,z,rfl,rfl,hq,he,q⟩ hs
 cases rx
 obtain ⟨t,rfl⟩:=ry
 obtain ⟨its,r,pl,hz⟩:=I.tuple hq
 obtain ⟨j,h1,h2,h3,h4,h5⟩:=Juu he
 obtain ⟨w,ew,rw'⟩:=r.get h2
 have hn:=Jrc
 have fin:EP X pins σ Q w s:=⟨z,H,I,rw',q⟩
 exact subscriptTail_builtinR pl.typeIs slot_tuple_getitem.lookup
  (getItem_tuple pl (by omega) (by omega) (by rw [ym,<-r.length];exact h1) (by simpa using ew) ⟨rfl,fin⟩) hs
theorem Yc9:IxR X Suw:=by
 rintro value slice pins s σ H x y v u Q I rx ry ⟨z,i,c,rfl,rfl,hz,he,q⟩ hs
 obtain ⟨t,rfl⟩:=rx
 obtain ⟨t',rfl⟩:=ry
 obtain ⟨j,h1,h2,h3,h4,h5⟩:=Juu he
 have hl:z.cps.toList.length=z.length:=by simp [Str.length]
 rw [hl] at h1 h4 h5
 have hn:=Jrc
 exact tail_any (typeIs_str s z t) slot_str_getitem.lookup (getItem_str (by
  have e1:decide (i < -2^63)=false:=decide_eq_false (by omega)
  have e2:decide (i≥2^63)=false:=decide_eq_false (by omega)
  rw [e1,e2,Bool.or_false]) (by rw [h1];simpa using h2) ⟨.str ⟨#[c]⟩,H,I.tok _,⟨_,rfl⟩,q⟩) hs
theorem Jzm (its:List S6) (n j) (u):Obj.mapSeq (·.setIfInBounds j u) {cls:=.type "list",data:=.seq its.toArray n}={cls:=.type "list",data:=.seq (its.set j u).toArray n}:=by
 simp [Obj.mapSeq]
theorem Su.lst (I:Su X pins σ H s) (h:H p=some (.lst xs)):
  ∃(its:List S6) (n:Nat),Sa4 xs its/\s.heap.get? p=some {cls:=.type "list",data:=.seq its.toArray n}/\xs.length<=Sa:=by
 obtain ⟨z,its,n,r,e⟩:=I.hok p _ h
 exact ⟨its,n,r,e,z⟩
theorem Su.lstUpd {σ:St} {H} {s} {p} {xs ys} {its its':List S6} {n n'} {f} (I:Su X pins σ H s) (h:H p=some (.lst xs))
  (ho:s.heap.get? p=some {cls:=.type "list",data:=.seq its.toArray n}) (hf:f {cls:=.type "list",data:=.seq its.toArray n}={cls:=.type "list",data:=.seq its'.toArray n'}) (r:Sa4 ys its') (hz:ys.length<=Sa) (t):
  Su X pins σ (upd H p (.lst ys)) {s with heap:=s.heap.update p f,toks:=t}:=by
 have e:(s.heap.update p f).get? p=some {cls:=.type "list",data:=.seq its'.toArray n'}:=by
  rw [ybt f ho (by rw [hf] <;> rfl),hf]
 refine I.write (by rw [h];trivial) (.inl rfl) (λb u hb q=>(ybk _ _ (yg hb)).trans q) ⟨_,e⟩ ?_
 exact ⟨hz,its',n',r,e⟩
inductive Sqc (o:V) (i:V) (v:V) (H:Hp) (Q:(Hp->Prop)):Prop where
 |mk (p:_) (xs:_) (k:_) (j:_) (_:o= .ref p) (_:i= .int k) (_:H p=some (.lst xs)) (_:ixN xs.length k=some j) (_:Q (upd H p (.lst (xs.set j v))))
theorem Jpx:Slq X Sqc:=by
 rintro pins s σ H o i v ov iv u Q I ro ri rv ⟨p,xs,k,j,rfl,rfl,hp,hj,q⟩
 cases ro
 obtain ⟨t,rfl⟩:=ri
 obtain ⟨its,n,r,ho,hz⟩:=I.lst hp
 obtain ⟨h1,h2,h3,h4⟩:=Yr hj
 have hl:=r.length
 have hn:=Jrc
 have I':=
  I.lstUpd hp ho (Jzm its n j u) (r.set rv j) (by rw [List.length_set];exact hz) s.toks
 by_cases h0:0<=k
 ·have hk:=by
   rw [seqIndex_of h0 h4] at h1
   exact yw.inj h1
  exact PySem.W.ki_setAt ho h0 (by omega) (by rw [ym,<-hl];exact h4) (by rw [hk];exact ⟨_,I',q⟩)
 ·have hk:(k+its.toArray.size).toNat=j:=by
   rw [seqIndex_neg (by omega) h3] at h1
   rw [ym,<-hl]
   exact yw.inj h1
  exact PySem.W.ki_setBack ho (by omega) (by rw [ym,<-hl];exact h3) (by omega) (by rw [hk];exact ⟨_,I',q⟩)
theorem Jy5 (lo hi) (n):(sliceBounds lo hi none n).1=((HT.sIx n 0 lo:Nat):Int)/\(sliceBounds lo hi none n).2.1=((HT.sIx n n hi:Nat):Int)/\(sliceBounds lo hi none n).2.2=1:=by
 refine ⟨?_,?_,rfl⟩
 ·cases lo with
  |none=>simp [sliceBounds,HT.sIx]
  |some i=>
   simp only [sliceBounds,HT.sIx,Option.getD_none,show (1:Int) > 0 by decide,if_true]
   by_cases h:i < 0
   ·simp only [h,if_true] <;> omega
   ·simp only [h,if_false] <;> omega
 ·cases hi with
  |none=>simp [sliceBounds,HT.sIx]
  |some i=>
   simp only [sliceBounds,HT.sIx,Option.getD_none,show (1:Int) > 0 by decide,if_true]
   by_cases h:i < 0
   ·simp only [h,if_true] <;> omega
   ·simp only [h,if_false] <;> omega
theorem Jwq (its:List S6) (lo hi):slicePick its.toArray lo hi none=((its.drop (HT.sIx its.length 0 lo)).take (HT.sIx its.length its.length hi - HT.sIx its.length 0 lo)).toArray:=by
 obtain ⟨h1,h2,h3⟩:=Jy5 lo hi its.toArray.size
 unfold slicePick
 rw [h1,h2,h3]
 simp only [sliceRange_one,pick_run] <;> rfl
inductive Sqd (K:Si) (x:V) (lo:Option Int) (hi:Option Int) (H:Hp) (Q:VK):Prop where
 |mk (a:_) (xs:_) (_:x= .ref a) (_:Sy K H a xs) (_:∀p,H p=none->Q (.ref p) (upd H p (.lst (Jxe xs lo hi))))
theorem Ya5:SlR X (Sqd X.K):=by
 intro pins s σ H x v vl vu lo hi sl Q I rx hs pl pu h
 obtain ⟨a,xs,rfl,hx,q⟩:=h
 cases rx
 obtain ⟨its,r,ht,hz⟩:=I.list hx
 have hlen:=r.length
 refine ⟨"list",_,slot_list_getitem.lookup,ht.isList.typeIs,wpAny_getItem_list_slice ht.isList hs pl pu .none (by simp) ?_ (by rw [ym] <;> omega)⟩
 rw [Jwq,<-hlen]
 refine ⟨.ref s.heap.objs.size,_,I.laid (λb ob q=>yn _ q) (yl _) ?_,rfl,q _ (I.hok.fresh (yl _))⟩
 exact ⟨yam (Ju7 xs lo hi) hz,_,0,(r.drop (HT.sIx xs.length 0 lo)).take (HT.sIx xs.length xs.length hi - HT.sIx xs.length 0 lo),yq _ rfl⟩
def Jpm:V->Bool
 | .non=>true
 | .bl _=>true
 | .int _=>true
 | .str _=>true
 |_=>false
def eqV:V->V->Bool
 | .non,.non=>true
 | .bl a,.bl b=>a==b
 | .bl a,.int b=>(if a then 1 else 0)==b
 | .int a,.bl b=>a==(if b then 1 else 0)
 | .int a,.int b=>a==b
 | .str a,.str b=>a==b
 |_,_=>false
theorem Yc0 (ry:Sa6 y u) (rx:Sa6 x v) (fy:Jpm y=true) (fx:Jpm x=true):SeqAt.EqAt A s u v (eqV y x):=by
 cases y with
 |non=>
  cases ry
  cases x with
  |non=>cases rx;exact SeqAt.EqAt.same _
  |bl b=>cases rx;exact SeqAt.EqAt.none_bool b
  |int b=>obtain ⟨t,rfl⟩:=rx;exact SeqAt.EqAt.none_int b t
  |str b=>obtain ⟨t,rfl⟩:=rx;exact SeqAt.EqAt.none_str b t
  |_=>exact absurd (fx) yae
 |bl a=>
  cases ry
  cases x with
  |non=>cases rx;exact SeqAt.EqAt.bool_none a
  |bl b=>cases rx;exact SeqAt.EqAt.bool_bool a b
  |int b=>obtain ⟨t,rfl⟩:=rx;exact SeqAt.EqAt.bool_int a b t
  |str b=>obtain ⟨t,rfl⟩:=rx;exact SeqAt.EqAt.bool_str a b t
  |_=>exact absurd (fx) yae
 |int a=>
  obtain ⟨t',rfl⟩:=ry
  cases x with
  |non=>cases rx;exact SeqAt.EqAt.int_none a t'
  |bl b=>cases rx;exact SeqAt.EqAt.int_bool a t' b
  |int b=>obtain ⟨t,rfl⟩:=rx;exact SeqAt.EqAt.int_int a t' b t
  |str b=>obtain ⟨t,rfl⟩:=rx;exact SeqAt.EqAt.int_str a t' b t
  |_=>exact absurd (fx) yae
 |str a=>
  obtain ⟨t',rfl⟩:=ry
  cases x with
  |non=>cases rx;exact SeqAt.EqAt.str_none a t'
  |bl b=>cases rx;exact SeqAt.EqAt.str_bool a t' b
  |int b=>obtain ⟨t,rfl⟩:=rx;exact SeqAt.EqAt.str_int a t' b t
  |str b=>obtain ⟨t,rfl⟩:=rx;exact SeqAt.EqAt.str_str a t' b t
  |_=>exact absurd (fx) yae
 |_=>exact absurd (fy) yae
def eqU (x:V) (u:S6):Bool:=match u with
 | .none=>eqV .non x
 | .bool b=>eqV (.bl b) x
 | .int i _=>eqV (.int i) x
 | .str z _=>eqV (.str z) x
 |_=>false
theorem Yc1 (r:Sa6 y u) (f:Jpm y=true):eqU x u=eqV y x:=by
 cases y with
 |non=>cases r;rfl
 |bl b=>cases r;rfl
 |int i=>obtain ⟨t,rfl⟩:=r;rfl
 |str z=>obtain ⟨t,rfl⟩:=r;rfl
 |_=>exact absurd (f) yae
theorem Jxa {x:V}:∀{xs:List V} {us:List S6},Sa4 xs us->xs.all Jpm=true->us.any (eqU x)=xs.any λy=>eqV y x
 |_,_,.nil,_=>rfl
 |y::xs,u::us,.cons r t,f=>by
  rw [List.all_cons,yx] at f
  rw [List.any_cons,List.any_cons,Yc1 r f.1,Jxa t f.2]
theorem Jvm {A:Se} {s:S7} {x:V} {v:S6} (rx:Sa6 x v) (fx:Jpm x=true):∀{xs:List V} {us:List S6},Sa4 xs us->xs.all Jpm=true->∀u∈us,SeqAt.EqAt A s u v (eqU x u)
 |_,_,.nil,_=>λu hu=>by cases hu
 |y::xs,u::us,.cons r t,f=>λu' hu=>by
  rw [List.all_cons,yx] at f
  rcases yk.mp hu with rfl|hu
  ·rw [Yc1 r f.1];exact Yc0 r rx f.1 fx
  ·exact Jvm rx fx t f.2 u' hu
def inV (x:V) (xs:List V):Bool:=xs.any λy=>eqV y x
inductive rIn (K:Si) (neg:Bool) (x:V) (y:V) (H:Hp) (Q:VK):Prop where
 |mk (p:_) (xs:_) (_:y= .ref p) (_:(Sy K H p xs\/SqT K H p xs)) (_:Jpm x=true) (_:xs.all Jpm=true) (_:Q (.bl (if neg then !inV x xs else inV x xs)) H)
theorem Yax:OpR X (compareOp .In) (rIn X.K false):=by
 rintro pins s σ H x y v u Q I rx ry ⟨p,xs,rfl,hq,fx,fs,q⟩
 cases ry
 rcases hq with hq|hq
 ·obtain ⟨its,r,pl,hz⟩:=I.list hq
  refine SeqAt.in_listAt (eqU x) pl.isList (λw hw=>Jvm rx fx r fs w (by simpa using hw)) ⟨.bl _,H,I,rfl,?_⟩
  rw [show its.toArray.any (eqU x)=its.any (eqU x) by simp,Jxa r fs]
  exact q
 ·obtain ⟨its,r,pl,hz⟩:=I.tuple hq
  refine SeqAt.in_tupleAt (eqU x) pl (λw hw=>Jvm rx fx r fs w (by simpa using hw)) ⟨.bl _,H,I,rfl,?_⟩
  rw [show its.toArray.any (eqU x)=its.any (eqU x) by simp,Jxa r fs]
  exact q
theorem Jn8:Jpl X (.builtin "len") (λxs H Q=>∃p ys,xs= [.ref p]/\(Sy X.K H p ys\/SqT X.K H p ys)/\Q (.int ys.length) H):=by
 rintro pins s σ H xs us Q I r ⟨p,ys,rfl,hq,q⟩
 obtain ⟨u,rfl,rx⟩:=Jq6 r
 cases rx
 have hn:=Jrc
 rcases hq with hq|hq
 ·obtain ⟨its,r',pl,hz⟩:=I.list hq
  have hlen:=r'.length
  exact Calls.call_len_list pl.isList (by simp only [ym] <;> omega) ⟨.int ys.length,H,I.tok _,⟨s.toks+1,by rw [ym,hlen]⟩,q⟩
 ·obtain ⟨its,r',pl,hz⟩:=I.tuple hq
  have hlen:=r'.length
  exact len_tuple pl (by simp only [ym] <;> omega) ⟨.int ys.length,H,I.tok _,⟨s.toks+1,by rw [ym,hlen]⟩,q⟩
theorem Jxb:Jpl X (.builtin "len") (λxs H Q=>∃z,xs= [.str z]/\z.length<=Sa/\Q (.int z.length) H):=by
 rintro pins s σ H xs us Q I r ⟨z,rfl,hz,q⟩
 obtain ⟨u,rfl,t,rfl⟩:=Jq6 r
 have hn:=Jrc
 exact len_str (by omega) ⟨.int z.length,H,I.tok _,⟨_,rfl⟩,q⟩
theorem Jog:Jpl X (.type "list") (λxs H Q=>∃p ys,xs= [.ref p]/\(Sy X.K H p ys\/SqT X.K H p ys)/\∀l,H l=none->Q (.ref l) (upd H l (.lst ys))):=by
 rintro pins s σ H xs us Q I r ⟨p,ys,rfl,hq,q⟩
 obtain ⟨u,rfl,rx⟩:=Jq6 r
 cases rx
 have fin:∀its,Sa4 ys its->ys.length<=Sa->∀h' c',(∀b o',s.heap.get? b=some o'->h'.get? b=some o')->
   h'.get? s.heap.objs.size=some {cls:=.type "list",dict:=none,data:=.seq its.toArray c',slots:=#[]}->EP X pins σ Q (.ref s.heap.objs.size) {s with heap:=h'}:=λits r' hz h' c' kp e=>
  ⟨.ref s.heap.objs.size,_,I.laid kp (yl _) (show Sav X.prog X.w _ h' _ (.lst ys) from ⟨hz,its,c',r',e⟩),rfl,q _ (I.hok.fresh (yl _))⟩
 rcases hq with hq|hq
 ·obtain ⟨its,r',pl,hz⟩:=I.list hq
  have hlen:=r'.length
  obtain ⟨o,ho,hc,n,hd⟩:=pl.isList
  exact call_list_seq p (.inl rfl) ho hc hd (λh' c' kp e=>fin its r' hz h' c' kp e) (by simp only [ym] <;> omega)
 ·obtain ⟨its,r',pl,hz⟩:=I.tuple hq
  have hlen:=r'.length
  obtain ⟨o,ho,hc,n,hd⟩:=pl
  exact call_list_seq p (.inr rfl) ho hc hd (λh' c' kp e=>fin its r' hz h' c' kp e) (by simp only [ym] <;> omega)
theorem Jn5:Jpl X (.type "tuple") (λxs H Q=>∃p ys,xs= [.ref p]/\((Sy X.K H p ys/\∀l,H l=none->Q (.ref l) (upd H l (.tup ys)))\/(SqT X.K H p ys/\Q (.ref p) H))):=by
 rintro pins s σ H xs us Q I r ⟨p,ys,rfl,h⟩
 obtain ⟨u,rfl,rx⟩:=Jq6 r
 cases rx
 rcases h with ⟨hq,q⟩|⟨hq,q⟩
 ·obtain ⟨its,r',pl,hz⟩:=I.list hq
  have hlen:=r'.length
  refine call_tuple_list pl.isList (λh' kp=>?_) (by simp only [ym] <;> omega)
  have I1:Su X pins σ H {s with heap:=h'}:=I.kept kp
  have I2:Su X pins σ (upd H h'.objs.size (.tup ys)) {s with heap:=h'.push {cls:=.type "tuple",data:=.seq its.toArray}}:=
   I1.laid (λb o e=>yn _ e) (yl _) (⟨hz,its,r',IsTup.new _ _⟩)
  exact ⟨.ref h'.objs.size,_,I2,rfl,q _ (I1.hok.fresh (yl _))⟩
 ·obtain ⟨its,r',pl,hz⟩:=I.tuple hq
  exact call_tuple_same pl ⟨.ref p,H,I,rfl,q⟩
def tyV (K:Si) (T:String) (x:V) (H:Hp):Prop:=match x with
 | .str _=>T="str"
 | .int _=>T="int"
 | .ref p=>(T="list" /\∃xs,Sy K H p xs)\/(T="tuple" /\∃o,K.lookup p=some o/\o.cls= .type "tuple" /\o.dict=none)\/
   (T="dict" /\((∃kvs,H p=some (.dK kvs))\/∃kvs,H p=some (.dT kvs)))\/(T="set" /\∃S n,H p=some (.set S n))
 |_=>False
theorem Snv (I:Su X pins σ H s) (r:Sa6 x v) (ty:tyV X.K T x H):
  s.TypeIs v T/\∀a,v= .ref a->∃ob,s.heap.get? a=some ob/\ob.dict=none:=by
 cases x with
 |str z=>
  obtain ⟨t,rfl⟩:=r
  cases (ty)
  exact ⟨typeIs_str s z t,λ_ e=>nomatch e⟩
 |int i=>
  obtain ⟨t,rfl⟩:=r
  cases (ty)
  exact ⟨typeIs_int s i t,λ_ e=>nomatch e⟩
 |ref p=>
  cases r
  rcases ty with ⟨rfl,xs,hq⟩|⟨rfl,o,hk,hc,hd⟩|⟨rfl,hk⟩|⟨rfl,S,n,hk⟩
  ·obtain ⟨its,_,pl,_⟩:=I.list hq
   refine ⟨pl.isList.typeIs,λa e=>?_⟩
   cases e
   obtain ⟨o,n,e,c,hd,_⟩:=pl
   exact ⟨o,e,hd⟩
  ·refine ⟨⟨o,I.kIn p o hk,hc⟩,λa e=>?_⟩
   cases e
   exact ⟨o,I.kIn _ o hk,hd⟩
  ·have z:∃o,s.heap.get? p=some o/\o.ExactDict:=by
    rcases hk with ⟨kvs,hk⟩|⟨kvs,hk⟩
    ·obtain ⟨_,_,_,_,o,_,_,e,ex,_⟩:=I.hok p _ hk
     exact ⟨o,e,ex⟩
    ·obtain ⟨_,_,_,_,o,_,_,e,ex,_⟩:=I.hok p _ hk
     exact ⟨o,e,ex⟩
   obtain ⟨o,e,ex⟩:=z
   refine ⟨⟨o,e,ex.1⟩,λa e2=>?_⟩
   cases e2
   exact ⟨o,e,ex.2.1⟩
  ·obtain ⟨o,_,_,_,e,ex,_⟩:=I.hok p _ hk
   refine ⟨⟨o,e,ex.1⟩,λa e2=>?_⟩
   cases e2
   exact ⟨o,e,ex.2.1⟩
 |_=>exact False.elim ty
inductive Sqs (K:Si) (T:String) (r:V->List V->Hp->VK->Prop) (t:TA) (σ:St) (Q:VK) (x:V) (H1:Hp):Prop where
 |mk (_:tyV K T x H1) (_:t σ H1 λxs H2=>r x xs H2 Q)
def tBM (K:Si) (T:String) (r:V->List V->Hp->VK->Prop) (to:TE) (t:TA):TE:=λσ H Q=>to σ H (Sqs K T r t σ Q)
variable {o e:Expr} {es:List Expr} {to:TE} {t:TA} {name:Str} {apos cpos:Pos} {T id:String} {r:V->List V->Hp->VK->Prop}
theorem Jrl (pa:PlainAttrs T) (slot:Slot T name id) (hty:typeOf (.builtin id)=pure (.type "method_descriptor")) (hm:MtR X id r) (ho:PE X o to) (ha:PA X (e::es) t)
  (hbase:attributeBase o name X.env (eval o X.env)=eval o X.env:=by rfl)
  (hfew:((backTo cpos (starEach (e::es) X.env)).all (λx=>!x.1)&&(backToKw cpos (keywordEach [] X.env)).all (λx=>x.1.isSome)
   &&decide ((e::es).length+([]:List Keyword).length+(if ([]:List Keyword).isEmpty then 0 else 1) < 30))=true:=by rfl)
  (hline:(apos.endLine==cpos.line)=true:=by rfl) (hs:starEach (e::es) X.env=(false,eval e X.env)::starEach es X.env:=by rfl) (hplain:(backTo cpos (starEach es X.env)).any (·.1)=false:=by rfl):
  PE X (.Call (.Attribute o name apos) (e::es) [] cpos) (tBM X.K T r to t):=by
 intro pins s σ H Q I h
 refine wpAny_Call_method_late hbase hfew hline rfl (thn (ho pins s σ H _ I h) λv s1 zq=>?_)
 obtain ⟨x,H1,I1,r1,ty,q1⟩:=zq
 obtain ⟨h1,h2⟩:=Snv I1 r1 ty
 refine ⟨T,id,pa,slot,hty,h1,h2,?_⟩
 have hA:=ha cpos pins s1 σ H1 _ I1 q1
 rw [hs] at hA⊢
 exact Calls.callWith_builtin (by show (false||(backTo cpos (starEach es X.env)).any (·.1))=false;rw [hplain] <;> rfl) (Calls.evalArgs_plain (thn hA λus s2 ⟨vs,H2,I2,r2,q2⟩=>hm pins s2 σ H2 x vs v us Q I2 r1 r2 q2))
end
def MtM (X:Cx) (id:String) (r:V->List V->Hp->VK->Prop):Prop:=
 ∀(pins:List (S5×Obj)) (s:S7) (σ:St) (H:Hp) (x:V) (xs:List V) (v:S6) (us:List S6) (Q:VK),Su X pins σ H s->Sa6 x v->Sa4 xs us->r x xs H Q->
  Sh (model X.prog X.w) X.A (call (.builtin id) (v::us)) (EP X pins σ Q) X.xe s
theorem Sa4.one:∀{x:V} {us:List S6},Sa4 [x] us->∃u,us= [u]/\Sa6 x u
 |_,_,.cons r .nil=>⟨_,rfl,r⟩
section
variable {X:Cx} {pins:List (S5×Obj)} {σ:St} {H:Hp} {s:S7} {l b:S5} {xs ys zs:List V}
theorem Su.lset {its its':List S6} {n} {f} {t'} (I:Su X pins σ H s) (hH:H l=some (.lst xs))
  (e:s.heap.get? l=some {cls:=.type "list",data:=.seq its.toArray n}) (hf:f its.toArray=its'.toArray) (hv:Sa4 ys its') (hz:ys.length<=Sa):
  Su X pins σ (upd H l (.lst ys)) {s with heap:=s.heap.update l (Obj.mapSeq f),toks:=t'}:=by
 have q:=PySem.IsL.update e f
 rw [hf] at q
 refine I.write (by rw [hH];exact trivial) (.inl rfl) (λb' u hb hu=>(ybk s.heap (Obj.mapSeq f) (yg hb)).trans hu) ⟨_,q⟩ ?_
 exact ⟨hz,its',_,hv,q⟩
theorem Su.lnew (I:Su X pins σ H s) (hv:Sa4 ys its) (hz:ys.length<=Sa):
  Su X pins σ (upd H s.heap.objs.size (.lst ys)) {s with heap:=s.heap.push {cls:=.type "list",data:=.seq its.toArray},toks:=t'}:=
 I.laid (λ_ _ q=>yn _ q) (yl _) ⟨hz,its,0,hv,yq _ rfl⟩
theorem Su.fresh (I:Su X pins σ H s):H s.heap.objs.size=none:=I.hok.fresh (yl _)
theorem Su.lstM (I:Su X pins σ H s) (hH:H l=some (.lst xs)):xs.length<=Sa/\∃(its:List S6) (n:Nat),Sa4 xs its/\xs.length=its.length/\s.heap.get? l=some {cls:=.type "list",data:=.seq its.toArray n}:=by
 obtain ⟨z,its,n,r,e⟩:=I.hok l _ hH
 exact ⟨z,its,n,r,r.length,e⟩
end
section
variable {X:Cx}
inductive Yeg (x:V) (vs:List V) (H:Hp) (Q:VK):Prop where
 |mk (l:_) (xs:_) (y:_) (_:x= .ref l) (_:vs= [y]) (_:H l=some (.lst xs)) (_:xs.length < Sa) (_:Q .non (upd H l (.lst (xs++ [y]))))
theorem Jop:MtM X "list.append" Yeg:=by
 rintro pins s σ H x vs v us Q I rx rv ⟨l,xs,y,rfl,rfl,hH,hz,q⟩
 cases rx
 obtain ⟨u,rfl,ru⟩:=rv.one
 obtain ⟨z,its,n,r,hl,e⟩:=I.lstM hH
 refine call_meets F.slot_list_append ⟨_,e,rfl⟩ F.entry_list_append (F.args_list_append_2 _ _) (PySem.list_append l its.toArray n u (by rw [ym];omega)) ⟨e,⟨.non,_,I.lset hH e (by simp) (r.append (.cons ru .nil)) ?_,rfl,q⟩⟩
 rw [yah,List.length_singleton]
 omega
inductive Sur (x:V) (y:V) (H:Hp) (Q:VK):Prop where
 |mk (l:_) (b:_) (xs:_) (zs:_) (_:x= .ref l) (_:y= .ref b) (_:H l=some (.lst xs)) (_:H b=some (.lst zs)) (_:xs.length+zs.length<=Sa) (_:∀p,H p=none->Q (.ref p) (upd H p (.lst (xs++zs))))
theorem Jzu:OpR X (binaryOp .Add) Sur:=by
 rintro pins s σ H x y v u Q I rx ry ⟨l,b,xs,zs,rfl,rfl,hH,hB,hz,q⟩
 cases rx
 cases ry
 obtain ⟨z,its,n,r,hl,e⟩:=I.lstM hH
 obtain ⟨z2,its2,n2,r2,hl2,e2⟩:=I.lstM hB
 refine PySem.P.add_list e e2 ?_ (by rw [ym,ym];omega)
 have ea:its.toArray++its2.toArray=(its++its2).toArray:=by simp
 rw [ea]
 exact ⟨.ref _,_,I.lnew (r.append r2) (by rw [yah];omega),rfl,q _ I.fresh⟩
end
section
variable {prog:Sb} {w:Sd} {A:Se} {E:S6->S7->Prop} {s:S7}
end
section
variable {X:Cx}
end
section
variable {κ:Type} [DecidableEq κ]
end
section
variable {P:Sb} {w:Sd} {H:Hp} {h:Sg} {a:S5}
theorem Sqe (ok:HOk P w H h) (e:Rd H a u):Sav P w H h a u:=e.ok ok
theorem Spt (ok:HOk P w H h) (e:Rd H a (.dK kvs)):kvs.length<=Sa/\(a==sysModules)=false/\∃vs,KV kvs vs/\h.DictOf (Joh P w) a vs:=
 Sqe ok e
theorem Skg (ok:HOk P w H h) (e:H a=some (.dK kvs)):kvs.length<=Sa/\(a==sysModules)=false/\∃vs,KV kvs vs/\h.DictOf (Joh P w) a vs:=Spt ok (.inl e)
end
section
variable {X:Cx} {pins:List (S5×Obj)} {σ:St} {H:Hp} {s:S7} {a:S5} {y v:V} {u r:S6} {o:Option V} {A:Se} {E:S6->S7->Prop}
theorem Su.big (I:Su X pins σ H s):sysModules < s.heap.objs.size:=Nat.lt_trans (by decide) ((I.mod.glob.keeps I.bk).lt)
end
section
variable {X:Cx} {pins:List (S5×Obj)} {σ:St} {H:Hp} {s:S7} {a:S5} {kvs:List (Key×V)} {k:Key} {u:S6} {A:Se} {E:S6->S7->Prop}
end
section
variable {X:Cx} {o i e value:Expr} {pos pos' tpos:Pos} {td ty tv:TE}
end
theorem Ybx (h:Sg) (hb:sysModules < h.objs.size):Sav P w H (h.push {cls:=.type "dict",data:=.dict #[]}) h.objs.size (.dK []):=
 ⟨yad _,beq_eq_false_iff_ne.mpr (yg (yr hb)),[],.nil,Heap.DictOf.new h⟩
def Snk:TE:=λ_ H Q=>∀p,H p=none->Q (.ref p) (upd H p (.dK []))
section
variable {X:Cx} {pos:Pos}
theorem Ycf:PE X (.Dict [] [] pos) Snk:=λpins s σ H Q I h=>
 wpAny_Dict_empty ⟨.ref s.heap.objs.size,_,I.laid (λ_ _ q=>yn _ q) (yl _) (Ybx s.heap I.big),rfl,h _ (I.hok.fresh (yl _))⟩
end
section
variable {X:Cx} {pins:List (S5×Obj)} {σ:St} {H:Hp} {s:S7} {a:S5} {y d:V} {u r:S6} {o:Option V} {A:Se} {E:S6->S7->Prop}
end
section
variable {X:Cx} {o e f:Expr} {apos cpos:Pos} {td ty tx:TE}
end
section
variable {X:Cx} {pins:List (S5×Obj)} {σ:St} {H:Hp} {s:S7} {a:S5} {kvs:List (Key×V)} {A:Se} {E:S6->S7->Prop}
end
section
variable {X:Cx} {pins:List (S5×Obj)} {σ:St} {H:Hp} {s:S7} {a:S5} {y:V} {u:S6} {A:Se} {E:S6->S7->Prop}
end
end L2
namespace Att
open PySem PySem.W PySem.Calls PyProof.Rows
theorem Jul:∀ns vs,WellAll P h vs (ns.map WData.int)->IntsAre vs ns:=by
 intro ns
 induction ns with
 |nil=>
  intro vs w
  cases w
  exact .nil
 |cons n ns ih=>
  intro vs w
  cases w with
  |cons a b=>
   cases a
   exact .cons _ _ (ih _ b)
theorem Yb4 {l:OpenLaw} (hn:l.most=some n)
  (hpre:l.row.toRowW.claim.pre args=true) (hwl:WellAll P h vals args):
  ∃a vs ns,vals= [Value.ref a]/\args= [WData.list (ns.map WData.int)]/\h.get? a=some {cls:=.type "list",data:=.seq vs.toArray}/\IntsAre vs ns/\ns.length<=n:=by
 obtain ⟨d,r,rfl,h1,h2⟩:=hasAllW_cons ((pre_splitW hpre).1)
 obtain rfl:=hasAllW_nil h2
 obtain ⟨xs,rfl,h3⟩:=hasW_list h1
 obtain ⟨ns,rfl⟩:=items_int h3
 have hlen:=by
  have h4:=by
   have h4:=(holds_andW ((pre_splitW hpre).2)).1
   rw [hn] at h4
   exact h4
  have h5:=condW_of h4 (w_not (w_lt w_lit (w_len_list (w_arg rfl))))
  first
   | (rw [decide_eq_true q'] at h5; exact absurd h5 (by decide))
   | (simp at h5; omega)
 cases hwl with
 |cons w1 w2=>
  cases w2
  cases w1 with
  |list ho hall=>exact ⟨_,_,ns,rfl,rfl,ho,Jul ns _ hall,hlen⟩
theorem Yb1 (l:OpenLaw) (args):l.row.toRowW.claim.post args (.bool true) args=true:=
 postW_of
  (by first|rfl|decide|simp [WShape.has])
  (w_eq_bool (w_res rfl) w_lit) rfl
theorem attach_call {l:OpenLaw} {n} {q} {loose} {XP} {YP} {d}
  (hn:l.most=some n) (hdf:d.params.defaults= [])
  (call:∀w s₀ s₁ mg mb fa o pm cd doc a vs ns,
   Ground q loose [] XP w s₀ mg mb s₁.heap->YP w s₁.heap->
   s₁.heap.get? fa=some o->o.data= .func (docDef d.name d.params d.body d.scope pm cd doc)->s₁.heap.CodeRec cd d.name->mg d.name=some (.ref fa)->
   s₁.heap.get? a=some {cls:=.type "list",data:=.seq vs.toArray}->IntsAre vs ns->ns.length<=n->s₁.gens= #[]->
   codeAny (model l.prog w) callerA (.call (.ref fa) ⟨[.ref a],[]⟩) (λr s'=>r= .ok (.ret (.bool true))/\OldK s₁.heap s'.heap/\s'.os=s₁.os/\AllBare s'.gens) s₁):
  WalkO q loose XP YP l.row.toRowW d [] (λf vs=>PySem.call f vs):=by
 intro w s₀ s₁ mg mb G Y fa o pm cd doc dV kV ho hd hcd hD hmg hg args vals as hpre hlay hrd hwl hlo
 obtain rfl:dV= .none:=Dflts.none hD hdf
 obtain rfl:kV= .none:=Dflts.noKw hD
 obtain ⟨a,vs,ns,rfl,rfl,hobj,hints,hlen⟩:=Yb4 hn hpre hwl
 refine enter_call (codeAny_mono (call w s₀ s₁ mg mb fa o pm cd doc a vs ns G Y ho (fd_plain hd) hcd hmg hobj hints hlen hg) λr s' hq=>?_)
 obtain ⟨rfl,h2,h3,h4⟩:=hq
 exact ⟨.inl ⟨.bool true,.bool true,[],rfl,λ_=>rfl,.bool true,Yb1 l _,λ_=>⟨List.Pairwise.nil,λ_ hm=>(nomatch hm)⟩⟩,h2,h3,h4⟩
section
variable {prog:Sb} {w:Sd} {A:Se} {E:S6->S7->Prop} {s:S7} {K:Si}
end
end Att
namespace L2
open PySem PySem.Spec PyProof.Rows
theorem Jx9:∀{vs:List S6} {ns:List Int},IntsAre vs ns->Sa4 (ns.map V.int) vs
 |_,_,.nil=>.nil
 |_,_,.cons n t h=>.cons ⟨t,rfl⟩ (Jx9 h)
abbrev KOf {K:Si} {h:Sg} (_:K.In h):Si:=K
def Jmw (s:Sf) (j:Nat):Sf:=match s with
 | .ClassDef _ _ _ body _ _ _ _ _ _ _=>body.getD j (.Pass ⟨0,0,0,0⟩)
 |_=>.Pass ⟨0,0,0,0⟩
def Jnw (s:Sf):Arguments:=match s with
 | .FunctionDef _ a _ _ _ _ _ _ _ _=>a
 |_=>{posonlyargs:=[],args:=[],vararg:=none,kwonlyargs:=[],kw_defaults:=[],kwarg:=none,defaults:=[]}
def Jno (s:Sf):List Sf:=match s with
 | .FunctionDef _ _ b _ _ _ _ _ _ _=>b
 |_=>[]
def Jml (s:Sf):Scope:=match s with
 | .FunctionDef _ _ _ _ _ _ sc _ _ _=>sc
 |_=>{kind:=.function,names:=[],isGenerator:=false,isCoroutine:=false}
abbrev CX0:CXT:=λ_ _ _ _ _ _=>False
abbrev E0:XK:=λ_ _ _=>False
theorem Jqn:Jth CX0 X E0:=λ_ _ _ _ _ _ _ h=>h.elim
structure Fun (K:Si) (x qual:Str) (st:Sf) (f:S5) (fd:Sc):Prop where
 ex:∃(oc:S6) (od:Option S5) (kV doc pm:S6) (an:Option S5) (cdv ct:S6) (osl:Array (Option S6)),
  fd=PySem.W.fnOf x qual (Jnw st) (Jno st) (Jml st) .none kV doc pm an cdv ct/\K.lookup f=some ⟨oc,od,.func fd,osl⟩/\PySem.W.codeIn K cdv qual=true
 kp:PySem.W.keepIn K (.ref f)=true
section
variable {P:Sb} {w:Sd} {K:Si} {mg:Str->Option S6} {base:Sg}
theorem Fun.ok {st} (F:Fun K x qual st f fd) (S:Jmp N ps (Jml st)) (len:∀vs H Q E,sp vs H Q E->vs.length=ps.length)
  (hbody:∀cdv A outer s H vs Q E,Sak k (A.deeper (envOfC qual (Jml st) s.heap.objs.size f cdv))->sp vs H Q E->
   ∃t,PSs (Juk CX0 P w K mg base N qual (Jml st) f cdv A outer s H E).nox (Jno st) t/\t {nx:=λ_ H'=>Q .non H',rt:=Q} (start N vs) H):Sx P w K mg base CX0 (k+1) f fd ps sp:=by
 obtain ⟨oc,od,kV,doc,pm,an,cdv,ct,osl,rfl,lk,hcd⟩:=F.ex
 refine Skh lk hcd S len λA outer s H vs Q E hr hsp=>?_
 obtain ⟨t,h,q⟩:=hbody cdv A outer s H vs Q E hr hsp
 exact ⟨t,h.nox,q⟩
theorem Fun.binds {st} (F:Fun K x qual st f fd)
  (h:∀kV doc pm an cdv ct us,us.length=ps.length->bindArgs (PySem.W.fnOf x qual (Jnw st) (Jno st) (Jml st) .none kV doc pm an cdv ct) ⟨us,[]⟩=pure (ps.zip us)):Sbg K fd ps []:=by
 obtain ⟨oc,od,kV,doc,pm,an,cdv,ct,osl,rfl,lk,hcd⟩:=F.ex
 exact .all (h kV doc pm an cdv ct)
theorem Jxf {st} {kV ct} (l:K.lookup f=some ⟨oc,od,.func (PySem.W.fnOf x qual (Jnw st) (Jno st) (Jml st) .none kV doc pm an cdv ct),osl⟩)
  (c:PySem.W.codeIn K cdv qual=true) (k:PySem.W.keepIn K (.ref f)=true):Fun K x qual st f (PySem.W.fnOf x qual (Jnw st) (Jno st) (Jml st) .none kV doc pm an cdv ct):=⟨⟨oc,od,kV,doc,pm,an,cdv,ct,osl,rfl,l,c⟩,k⟩
end
section
variable {X:Cx}
theorem pv (i) {pos} (hN:X.N[i]?=some x:=by rfl) (hv:Vis X.env.scope x:=by first|exact ye rfl|exact Or.inr (ye rfl)|exact Or.inr (Or.inr rfl)) (hd:(x==("__debug__" :Str))=false:=by decide)
  (hcd:(x==("__classdict__" :Str))=false:=by decide):PE X (.Name x pos) (Snp i):=Ycj hN hv hd hcd
end
theorem Jni {A:Prop} (h:B):if false=true then A else B:=by grind
theorem Jnr {A:Prop} (h:A):if true=true then A else B:=by grind
theorem Sm9 {A:Prop} [Decidable c] (h1:c->A) (h2:¬c->B):if c then A else B:=by grind
def Sn (H H':Hp):Prop:=∀b o,H b=some o->H' b=some o
theorem Sn.refl (H):Sn H H:=λ_ _ h=>h
theorem Sn.trans (a:Sn H H1) (b:Sn H1 H2):Sn H H2:=λc o h=>b c o (a c o h)
theorem Sn.seq {K} (e:Sn H H') (h:Sy K H a xs):Sy K H' a xs:=by
 rcases h with (h|⟨o,h⟩)|h
 ·exact .inl (.inl (e _ _ h))
 ·exact .inl (.inr ⟨o,e _ _ h⟩)
 ·exact .inr h
section
variable {κ:Type} [DecidableEq κ]
end
end L2
set_option Elab.async false
set_option linter.all false
set_option maxRecDepth 100000
set_option maxHeartbeats 4000000
namespace L2
open PySem PySem.Spec PyProof.Rows
def Jp1 (cells:List (Str×S5)):List (Str×NameKind)->List (Str×S5)->List (Str×S5)
 | [],acc=>acc
 | (n,k) :: r,acc=>if (k == NameKind.free) = true then (match cells.lookup n with | some c=>Jp1 cells r ((n,c) :: acc) | none=>Jp1 cells r acc) else Jp1 cells r acc
theorem Jpu:∀ns acc,(∀x c,acc.lookup x=some c->cells.lookup x=some c)->∀x c,(Jp1 cells ns acc).lookup x=some c->cells.lookup x=some c
 | [],_,h,x,c,e=>h x c e
 | (n,k) :: r,acc,h,x,c,e=>by
  unfold Jp1 at e
  by_cases hk:(k==NameKind.free)=true
  ·rw [if_pos hk] at e
   cases hc:cells.lookup n with
   |none=>rw [hc] at e;exact Jpu r acc h x c e
   |some d=>
    rw [hc] at e
    refine Jpu r ((n,d)::acc) (λy b q=>?_) x c e
    rw [yau] at q
    by_cases hy:(y==n)=true
    ·rw [hy] at q
     have hy':y=n:=beq_iff_eq.mp hy
     rw [hy',hc]
     exact q
    ·have hy':(y==n)=false:=by simpa using hy
     rw [hy'] at q
     exact h y b q
  ·rw [if_neg hk] at e
   exact Jpu r acc h x c e
theorem Jqq {cells:List (Str×S5)}:∀(ns:List (Str×NameKind)) (acc:List (Str×S5)) (x:Str),(acc.lookup x).isSome=true->((Jp1 cells ns acc).lookup x).isSome=true
 | [],_,_,h=>h
 | (n,k) :: r,acc,x,h=>by
  unfold Jp1
  by_cases hk:(k==NameKind.free)=true
  ·rw [if_pos hk]
   cases hc:cells.lookup n with
   |none=>exact Jqq r acc x h
   |some d=>
    refine Jqq r ((n,d)::acc) x ?_
    rw [yau]
    cases hy:x==n with
    |true=>rfl
    |false=>exact h
  ·rw [if_neg hk]
   exact Jqq r acc x h
theorem Jp9:∀ns acc,(x,NameKind.free)∈ns->(∃c,cells.lookup x=some c)->((Jp1 cells ns acc).lookup x).isSome=true
 | [],_,h,_=>by simp at h
 | (n,k) :: r,acc,h,hc=>by
  unfold Jp1
  rcases yk.mp h with e|e
  ·cases e
   obtain ⟨c,hc⟩:=hc
   rw [hc]
   exact Jqq r _ x (by rw [yau,beq_self_eq_true];rfl)
  ·by_cases hk:(k==NameKind.free)=true
   ·rw [if_pos hk]
    cases hd:cells.lookup n with
    |none=>exact Jp9 r acc e hc
    |some d=>exact Jp9 r _ e hc
   ·rw [if_neg hk]
    exact Jp9 r acc e hc
theorem Js7 (h:∀y∈sc.names,y.2= .free->∃c,env.cells.lookup y.1=some c):closureFor sc env=pure (Jp1 env.cells sc.names []):=by
 have key:∀ns acc,(∀y∈ns,y.2= .free->∃c,env.cells.lookup y.1=some c)->
   (forIn ns acc λx r=>if (x.2==NameKind.free)=true then cellOf env x.1 >>=λc=>pure (ForInStep.yield ((x.1,c)::r)) else pure (ForInStep.yield r))=pure (Jp1 env.cells ns acc):=by
  intro ns
  induction ns with
  |nil=>intro acc _;rfl
  |cons y r ih=>
   intro acc hy
   obtain ⟨n,k⟩:=y
   rw [List.forIn_cons]
   unfold Jp1
   by_cases hk:(k==NameKind.free)=true
   ·have hk':=by simpa using hk
    obtain ⟨c,hc⟩:=hy (n,k) yan hk'
    have hc':=hc
    simp only [hk]
    have e1:cellOf env n=pure c:=by unfold cellOf;rw [hc']
    rw [e1,hc']
    exact ih _ λz hz=>hy z (yac _ hz)
   ·simp only [hk]
    exact ih _ λz hz=>hy z (yac _ hz)
 have k0:=key sc.names [] h
 first
  |exact k0
  | (refine Eq.trans ?_ (congrArg (λm : Sem (List (Str × S5))=>m >>= λr=>pure r) k0); rfl)
def blk (X:Cx) (sc:Scope) (N:List Str) (C:S5) (s:S7) (H:Hp) (fp:List S5) (pn:List (S5×Obj)):Cx:=
 {X with N:=N,s₀:=s,H₀:=H,env:=compEnvC sc (Jp1 X.env.cells sc.names []) C X.env,outer:=X.stack,ex:=fp,fn:=λ_=>false,pn:=pn,xe:=λ_ _=>False}
def Sim (ini:List (Option Nat)) (σ:St):St:=ini.map λo=>match o with|none=>none|some j=>(σ[j]?).join
def scB (sc:Scope):Bool:=decide (sc.kind= .function)&&sc.names.all (λy=>decide (y.2≠ .cell))&&sc.names.all (λy=>!decide (y.2= .local)||decide (sc.names.lookup y.1=some .local))
def frB (outer:List (Str×NameKind)) (sc:Scope):Bool:=sc.names.all λy=>!decide (y.2= .free)||(decide (outer.lookup y.1=some .cell)||decide (outer.lookup y.1=some .free))
def Sm7 (No N:List Str) (ini:List (Option Nat)) (outer:List (Str×NameKind)) (sc:Scope):Bool:=
 (N.zip ini).all λy=>match y.2 with|none=>true|some j=>decide (No[j]?=some y.1)&&decide (sc.names.lookup y.1=some .free)&&(decide (outer.lookup y.1=some .cell)||decide (outer.lookup y.1=some .free))
def PIf (X:Cx) (ifs:List Expr) (t:TT):Prop:=
 ∀(pins:List (S5×Obj)) (s:S7) (σ:St) (H:Hp) (Q:Bool->Hp->Prop),Su X pins σ H s->t σ H Q->
  Sh (model X.prog X.w) X.A (forIn ifs true λc r=>if r=true then do let ok<-isTrue c X.env (eval c X.env);pure (ForInStep.yield ok) else pure (ForInStep.yield r)) (TP X pins σ Q) X.xe s
def Ya:TT:=λ_ H Q=>Q true H
theorem Jnf:PIf X [] Ya:=λ_ _ _ H _ I h=>wpAny_tests_nil ⟨H,I,h⟩
theorem Ya3 (h:PT X c t):PIf X [c] t:=λpins s σ H Q I q=>wpAny_tests_one (h pins s σ H Q I q)
def Yde (wi:TI) (ini:List (Option Nat)) (g:TG) (tt:TT) (te:TE):TE:=λσ H Q=>wi σ H λJ H1=>∀D,H1 D=none->∃W:Nat->Nat->St->Hp->Prop,(∃m,W 0 m (Sim ini σ) (upd H1 D (.lst [])))/\
 ∀i m σ' H',W i m σ' H'->(J.stop i H'/\Q (.ref D) H')\/(J.go i H'/\∃N:St->Hp->Prop,(∀σ2 H2,N σ2 H2->∃m',m' < m/\W (i+1) m' σ2 H2)/\
  ∀x H2,J.yld i H' x H2->g x σ' H2 λσ3 H3=>tt σ3 H3 λb H4=>if b=true then te σ3 H4 (λv H5=>∃ys,H5 D=some (.lst ys)/\ys.length < Sa/\N σ3 (upd H5 D (.lst (ys++ [v])))) else N σ3 H4)
section
variable {prog:Sb} {w:Sd} {A:Se} {R:Result->S7->Prop} {s:S7}
theorem Jxd {target iter} {ifs} {scope} {pos} {it acc} {env} (I:Nat->S7->Prop)
  (turn:∀n s,I n s->Sh (model prog w) A (pyNext it) (λr s1=>match r with
   |none=>R (.ok .next) s1
   |some v=>Sh (model prog w) A (letOwnedTupleGo target it v) (λ_ s1'=>Sh (model prog w) A (assign target env v) (λ_ s2=>
     Sh (model prog w) A (forIn ifs true λc r=>if r=true then do let ok<-isTrue c env (eval c env);pure (ForInStep.yield ok) else pure (ForInStep.yield r)) (λok s3=>
      if ok=true then Sh (model prog w) A (eval elt env) (λx s4=>
       Sh (model prog w) A (call (.builtin "list.append") [acc,x]) (λ_ s5=>∃m,m < n/\I m s5) (λ_ _=>False) s4) (λ_ _=>False) s3
      else ∃m,m < n/\I m s3) (λ_ _=>False) s2) (λ_ _=>False) s1') (λ_ _=>False) s1) (λ_ _=>False) s)
  (n) (h:I n s):codeAny (model prog w) A (.compLoop (.ListComp elt [⟨target,iter,ifs,0⟩] scope pos) 0 it acc env) R s:=by
 refine codeAny_loop rfl I (λn s hI=>wpAny_noted (wpAny_noRaise ?_)) n h
 rw [compTurn_list]
 refine S8 (wpAny_standAt (S8 (wpAny_mono (turn n s hI) (λr s1 h1=>?_) λ_ _ h'=>h')))
 cases r with
 |none=>exact S9 h1
 |some v=>
  refine S8 (wpAny_mono h1 (λ_ s1' h1'=>S8 (wpAny_mono h1' (λ_ s2 h2=>S8 (wpAny_mono h2 (λok s3 h3=>?_) λ_ _ h'=>h')) λ_ _ h'=>h')) λ_ _ h'=>h')
  cases ok with
  |false=>exact S9 ⟨rfl,h3⟩
  |true=>
   exact S8 (S8 (wpAny_mono h3 (λx s4 h4=>S8 (wpAny_mono h4 (λ_ s5 h5=>S9 (S9 ⟨rfl,h5⟩)) λ_ _ h'=>h')) λ_ _ h'=>h'))
end
section
variable {X:Cx} {pins:List (S5×Obj)} {σ:St} {H:Hp} {s:S7}
theorem Sly (I:Su X pins σ H s) (hk:sc.kind= .function) (hcell:∀y∈sc.names,y.2≠ .cell)
  (hfr:∀y∈sc.names,y.2= .free->X.env.kindOf y.1=some .cell\/X.env.kindOf y.1=some .free) (hC:C=s.heap.objs.size) (hf:∀b∈fp,Jtg X pins H b/\b < s.heap.objs.size):(blk X sc N C s H fp pn).Ok:=by
 have hin:∀x c,(Jp1 X.env.cells sc.names []).lookup x=some c->X.env.cells.lookup x=some c:=Jpu sc.names [] (λx c e=>by simp at e)
 refine ⟨I.ok.mod,hk,I.ok.glob,I.ok.blt,ybr hC.symm,λx y c h1 h2=>I.ok.inj x y c (hin _ _ h1) (hin _ _ h2),λx hx=>?_,λx c h _=>(by cases h),I.ok.hd,I.ok.frames,.inl rfl,λb hb=>?_,I.bs,yam I.ok.bsz I.sz,λb o e hb=>?_,λb hb z=>?_,I.stack,I.stkFree⟩
 ·have hx':=hx
  have hm:(x,NameKind.free)∈sc.names:=by
   have:∀k,(relabel sc X.env).names.lookup x=some k->(k= .cell\/k= .free)->(x,NameKind.free)∈sc.names:=λk e hkk=>by
    obtain ⟨⟨n',k'⟩,m1,m2⟩:=yaj.mp (PySem.mem_of_lookup e)
    dsimp only at m2
    by_cases hc:(k'==NameKind.free&&X.env.scope.kind== .function&&X.env.kindOf n'==some .cell)=true
    ·rw [if_pos hc] at m2
     have e1:n'=x:=congrArg Prod.fst m2
     have e2:=by simp at hc;exact hc.1.1
     rw [<-e1,<-e2]
     exact m1
    ·rw [if_neg hc] at m2
     have e1:n'=x:=congrArg Prod.fst m2
     have e2:k'=k:=congrArg Prod.snd m2
     rcases hkk with z|z
     ·exact absurd (e2.trans z) (hcell _ m1)
     ·rw [<-e1,<-z,<-e2];exact m1
   rcases hx' with e|e
   ·exact this _ e (.inl rfl)
   ·exact this _ e (.inr rfl)
  exact ybx.mp (Jp9 sc.names [] hm (I.ok.has x (hfr _ hm rfl)))
 ·obtain ⟨⟨f0,f1,f2,f3,f4,f5⟩,lt⟩:=hf b hb
  exact ⟨λz=>yr lt (z.trans hC),λx c e=>f4 x c (hin _ _ e)⟩
 ·obtain ⟨⟨f0,f1,f2,f3,f4,f5⟩,lt⟩:=hf b hb
  rcases f3 with z|z
  ·exact I.ok.noex b o e z
  ·exact absurd (yab (yi (I.ok.bs b o e).1) z) (yay _)
 ·obtain ⟨⟨f0,f1,f2,f3,f4,f5⟩,lt⟩:=hf b hb
  rcases yk.mp (I.stkSub b z) with e|e
  ·exact f1 e
  ·exact f2 e
theorem Ydy (I:Su X pins σ H s) (hk:sc.kind= .function) (hcell:∀y∈sc.names,y.2≠ .cell)
  (hfr:∀y∈sc.names,y.2= .free->X.env.kindOf y.1=some .cell\/X.env.kindOf y.1=some .free) (hf:∀b∈fp,Jtg X pins H b/\b < s.heap.objs.size) (hlen:N.length=ini.length)
  (hini:∀(i:Nat) x j,N[i]?=some x->ini[i]?=some (some j)->X.N[j]?=some x/\sc.names.lookup x=some .free/\(X.env.kindOf x=some .cell\/X.env.kindOf x=some .free))
  (hn:h1.Ns s.heap.objs.size (λ_=>none)) (kp:∀b o,s.heap.get? b=some o->h1.get? b=some o):
  Su (blk X sc N s.heap.objs.size s H fp (X.pn++pins)) [] (Sim ini σ) H {s with heap:=h1,toks:=t'}:=by
 have hin:∀x c,(Jp1 X.env.cells sc.names []).lookup x=some c->X.env.cells.lookup x=some c:=Jpu sc.names [] (λx c e=>by simp at e)
 refine ⟨Sly I hk hcell hfr rfl hf,rfl,I.bare,Un.kept kp,⟨_,hn,λi x v e1 e2 e3=>?_⟩,λx c e=>?_,I.hok.fresh (yl _),λx c e=>(I.freeC x c (hin _ _ e)).imp id λz=>⟨rfl,z.2⟩,λp hp=>?_,I.hok.kept kp,?_⟩
 ·have e1':=e1
  have e2':=e2
  unfold Sim at e2'
  rw [yj] at e2'
  cases hi:ini[i]? with
  |none=>rw [hi] at e2';cases e2'
  |some o=>
   rw [hi] at e2'
   cases o with
   |none=>cases e2'
   |some j=>
    have e4:(σ[j]?).join=some v:=yw.inj e2'
    have e5:σ[j]?=some (some v):=by
     cases q:σ[j]? with
     |none=>rw [q] at e4;cases e4
     |some z=>rw [q] at e4;exact congrArg some e4
    obtain ⟨a1,a2,a3⟩:=hini i x j e1' hi
    obtain ⟨m,hm,hl⟩:=I.loc
    have hvis:Vis X.env.scope x:=by
     rcases a3 with z|z
     ·exact .inr (.inl z)
     ·exact .inr (.inr z)
    obtain ⟨u,r,l⟩:=hl j x v a1 e5 hvis
    refine ⟨u,r,.inr ⟨?_,?_⟩⟩
    ·have hm2:=PySem.mem_of_lookup a2
     rcases e3 with z|z|z
     ·exfalso
      have key:∀{ns:List (Str×NameKind)},ns.lookup x=some .free->(ns.map λ(n,k)=>if (k==NameKind.free&&X.env.scope.kind== .function&&X.env.kindOf n==some .cell) then (n,NameKind.cell) else (n,k)).lookup x≠some .local:=by
       intro ns
       induction ns with
       |nil=>intro q;simp at q
       |cons y r ih=>
        obtain ⟨n,k⟩:=y
        intro q
        rw [yau] at q
        rw [ybq]
        dsimp only
        cases hx:x==n with
        |true=>
         rw [hx] at q
         have q':=yw.inj q
         subst q'
         split
         ·rw [yau,hx];intro z;cases z
         ·rw [yau,hx];intro z;cases z
        |false=>
         rw [hx] at q
         split
         ·rw [yau,hx];exact ih q
         ·rw [yau,hx];exact ih q
      exact key a2 z
     ·exact .inl z
     ·exact .inr z
    ·rcases l with ⟨k1,_⟩|⟨_,c,hc,hcl⟩
     ·exfalso
      rcases a3 with z|z
      ·rw [z] at k1;cases k1
      ·rw [z] at k1;cases k1
     ·have hh:=Jp9 sc.names [] (PySem.mem_of_lookup a2) ⟨c,hc⟩
      obtain ⟨c',hc'⟩:=ybx.mp hh
      have:=by
       have q:=hin _ _ hc'
       rw [hc] at q
       exact (yw.inj q).symm
      subst this
      obtain ⟨oc,hoc,hod⟩:=hcl
      exact ⟨c',hc',oc,kp _ _ hoc,hod⟩
 ·obtain ⟨v,oc,hoc,hod⟩:=I.cell x c (hin _ _ e)
  exact ⟨v,oc,kp _ _ hoc,hod⟩
 ·have hp':p∈X.pn++pins:=by simpa [blk] using hp
  obtain ⟨e,n,ne,nf,d⟩:=I.pin p hp'
  refine ⟨kp _ _ e,n,yr (yi e),λz=>?_,d⟩
  rcases yk.mp (I.stkSub p.1 z) with q|q
  ·exact ne q
  ·exact nf q
 ·unfold Sim
  rw [yf]
  exact hlen.symm
end
section
variable {X:Cx} {elt iter tg:Expr} {ifs:List Expr} {sc:Scope} {pos:Pos} {N:List Str} {ini:List (Option Nat)} {wi:TI} {g:TG} {tt:TT} {te:TE}
theorem Jwx {pins:List (S5×Obj)} {σ:St} {H:Hp} {s:S7} {Q:VK} {use:Option (S6->Sem Unit)} {Q':S6->S7->Prop} {p:Pos} (hc:X.calm=true) (hi:PI X tg iter wi)
  (hsc:scB sc=true) (hfr:frB X.env.scope.names sc=true) (hlen:N.length=ini.length) (hini:Sm7 X.N N ini X.env.scope.names sc=true)
  (hg:∀C s H fp pn,PG (blk X sc N C s H fp pn) tg g) (ht:∀C s H fp pn,PIf (blk X sc N C s H fp pn) ifs tt) (he:∀C s H fp pn,PE (blk X sc N C s H fp pn) elt te)
  (hs:∀x,foldedSetIterable iter X.env x=pure x) (I:Su X pins σ H s) (h:Yde wi ini g tt te σ H Q)
  (hfin:∀(D:S5) (H':Hp) (s':S7) (C:S5) (m:Str->Option S6),Su X pins σ H' s'->Jtg X pins H' C->s'.heap.Ns C m->Q (.ref D) H'->compPost (model X.prog X.w) X.A X.xe use Q' (.ref D) C (.ok .next) s'):
  Sh (model X.prog X.w) X.A (comprehension (.ListComp elt [⟨tg,iter,ifs,0⟩] sc pos) sc X.env p (newList []) false (eval iter X.env) use) Q' X.xe s:=by
 have hsc':=hsc
 unfold scB at hsc'
 rw [yx,yx] at hsc'
 obtain ⟨⟨hk0,hcell0⟩,hnames0⟩:=hsc'
 have hk:sc.kind= .function:=of_decide_eq_true hk0
 have hcell:∀y∈sc.names,y.2≠ .cell:=λy hy=>of_decide_eq_true (yar.mp hcell0 y hy)
 have hnames:∀y∈sc.names,y.2= .local->sc.names.lookup y.1=some .local:=λy hy hl=>by
  have q:=yar.mp hnames0 y hy
  rw [decide_eq_true hl] at q
  exact of_decide_eq_true (by simpa using q)
 have hfrP:∀y∈sc.names,y.2= .free->X.env.kindOf y.1=some .cell\/X.env.kindOf y.1=some .free:=λy hy hl=>by
  have q:=yar.mp hfr y hy
  rw [decide_eq_true hl] at q
  have q2:decide (X.env.scope.names.lookup y.1=some .cell)=true\/decide (X.env.scope.names.lookup y.1=some .free)=true:=by simpa using q
  rcases q2 with z|z
  ·exact .inl (of_decide_eq_true z)
  ·exact .inr (of_decide_eq_true z)
 have hiniP:∀(i:Nat) (x:Str) (j:Nat),N[i]?=some x->ini[i]?=some (some j)->X.N[j]?=some x/\sc.names.lookup x=some .free/\(X.env.kindOf x=some .cell\/X.env.kindOf x=some .free):=λi x j e1 e2=>by
  have hm:(x,some j)∈N.zip ini:=by
   refine yy (i:=i) ?_
   rw [ycb]
   exact ⟨e1,e2⟩
  have q:=yar.mp hini _ hm
  dsimp only at q
  rw [yx,yx,Bool.or_eq_true] at q
  obtain ⟨⟨q1,q2⟩,q3⟩:=q
  refine ⟨of_decide_eq_true q1,of_decide_eq_true q2,?_⟩
  rcases q3 with z|z
  ·exact .inl (of_decide_eq_true z)
  ·exact .inr (of_decide_eq_true z)
 refine wpAny_comprehension_free (use:=use) rfl hs (Js7 λy hy hl=>I.ok.has y.1 (hfrP y hy hl)) hk hnames ?_
 refine thn (hi pins s σ H _ I h) λv s1 h1=>thn h1 λitv s2 h2=>?_
 obtain ⟨it,fp,tn,J,H2,e,I2,T,st2,f2,step⟩:=h2
 subst e
 refine wpAny_newObj_type (wpAny_newFunctionEnv hcell (by intro y hy;simp at hy) (λh1 hns1 hsb1=>?_) hk)
 dsimp only at hns1 hsb1⊢
 have hD:H2 s2.heap.objs.size=none:=I2.hok.fresh (yl _)
 have kp3:∀b o,s2.heap.get? b=some o->(s2.heap.push {cls:=.type "list",dict:=none,data:=.seq ([]:List S6).toArray}).get? b=some o:=λb o e=>yn _ e
 have I3:Su X pins σ (upd H2 s2.heap.objs.size (.lst [])) {s2 with heap:=s2.heap.push {cls:=.type "list",dict:=none,data:=.seq ([]:List S6).toArray}}:=
  I2.laid (t':=s2.toks) kp3 (yl _) ⟨yad _,[],0,.nil,yq _ rfl⟩
 obtain ⟨W,⟨m0,w0⟩,turn⟩:=step s2.heap.objs.size hD
 generalize hs3:({s2 with heap:=s2.heap.push {cls:=.type "list",dict:=none,data:=.seq ([]:List S6).toArray}}:S7)=s3 at I3
 have e3h:s3.heap=s2.heap.push {cls:=.type "list",dict:=none,data:=.seq ([]:List S6).toArray}:=by rw [<-hs3]
 rw [<-e3h] at hns1 hsb1 kp3⊢
 have sz3:s2.heap.objs.size < s3.heap.objs.size:=by rw [e3h,yaa];exact ybw _
 have hf3:∀b∈fp,Jtg X pins (upd H2 s2.heap.objs.size (.lst [])) b/\b < s3.heap.objs.size:=λb hb=>by
  obtain ⟨o,eo,_⟩:=T.obj 0 _ st2 b hb
  have lt:=yi eo
  obtain ⟨f0,fr⟩:=f2 b hb
  exact ⟨⟨by rw [Jmm (yr lt)];exact f0,fr⟩,Nat.lt_trans lt sz3⟩
 have kp4:∀b o,s3.heap.get? b=some o->h1.get? b=some o:=λb o e=>(hsb1.2 b (yr (yi e))).trans (yn _ e)
 have I4:Su (blk X sc N s3.heap.objs.size s3 (upd H2 s2.heap.objs.size (.lst [])) fp (X.pn++pins)) [] (Sim ini σ) (upd H2 s2.heap.objs.size (.lst [])) {s3 with heap:=h1,toks:=s3.toks+([]:List (Str×S6)).length}:=
  Ydy I3 hk hcell hfrP hf3 hlen hiniP hns1 kp4
 have st4:tn 0 h1:=T.keep 0 _ _ st2 λb hb o e=>kp4 b o (kp3 b o e)
 have e4s:({s2 with heap:=h1,toks:=s2.toks+([]:List (Str×S6)).length}:S7)={s3 with heap:=h1,toks:=s3.toks+([]:List (Str×S6)).length}:=by rw [<-hs3]
 have stat:∀{H':Hp},(∀b∈fp,H' b=none)->∀b∈fp,Jtg (blk X sc N s3.heap.objs.size s3 (upd H2 s2.heap.objs.size (.lst [])) fp (X.pn++pins)) [] H' b:=λ{H'} hn b hb=>by
  obtain ⟨⟨f0,f1,f2',f3,f4,f5⟩,lt⟩:=hf3 b hb
  refine ⟨hn b hb,yr lt,λz=>?_,.inl hb,λx c e=>f4 x c (Jpu sc.names [] (λx c e=>by simp at e) x c e),λp hp=>f5 p (by simpa [blk] using hp)⟩
  rcases yk.mp (I3.stkSub b z) with q|q
  ·exact f1 q
  ·grind
 have loop:∀s4:S7,s4={s3 with heap:=h1,toks:=s3.toks+([]:List (Str×S6)).length}->codeAny (model X.prog X.w) X.A (.compLoop (.ListComp elt [⟨tg,iter,ifs,0⟩] sc pos) 0 (.ref it) (.ref s2.heap.objs.size) (compEnvC sc (Jp1 X.env.cells sc.names []) s3.heap.objs.size X.env))
   (compPost (model X.prog X.w) X.A X.xe use Q' (.ref s2.heap.objs.size) s3.heap.objs.size) s4:=by
  rintro s4 rfl
  refine Jxd (λn s'=>∃i σ' H',Su (blk X sc N s3.heap.objs.size s3 (upd H2 s2.heap.objs.size (.lst [])) fp (X.pn++pins)) [] σ' H' s'/\tn i s'.heap/\(∀b∈fp,H' b=none)/\W i n σ' H') ?_ m0
   ⟨0,_,_,I4,st4,λb hb=>(hf3 b hb).1.1,w0⟩
  rintro n s5 ⟨i,σ5,H5,I5,st5,fr5,w5⟩
  rcases turn i n σ5 H5 w5 with ⟨stop,q⟩|⟨go,N',hN',step'⟩
  ·refine thn (T.done (blk X sc N s3.heap.objs.size s3 (upd H2 s2.heap.objs.size (.lst [])) fp (X.pn++pins)) rfl rfl rfl hc i [] s5 σ5 H5 _ I5 (stat fr5) st5 stop) λr s6 ⟨hr,I6⟩=>?_
   subst hr
   have un:Un (frs X.stack) fp H2 H5 s2.heap s6.heap:=(Un.laid (fs:=frs X.stack) (ex:=fp) kp3 (yl _) hD).trans I6.base
   have os6:s6.os=s2.os:=I6.os.trans (show s3.os=s2.os by rw [<-hs3])
   have IX:Su X pins σ H5 s6:=I2.call' (ch:=fp) os6 un I6.hok I6.bare λb hb=>by
    obtain ⟨⟨f0,f1,f2',f3,f4,f5⟩,lt⟩:=hf3 b hb
    exact ⟨f3,f1,f4,f5⟩
   obtain ⟨m,hm,_⟩:=I6.loc
   exact hfin _ H5 s6 s3.heap.objs.size m IX (I2.fpOk (ybd sz3) I6.free) hm q
  ·refine thn (T.item (blk X sc N s3.heap.objs.size s3 (upd H2 s2.heap.objs.size (.lst [])) fp (X.pn++pins)) rfl rfl rfl hc i [] s5 σ5 H5 _ I5 (stat fr5) st5 go) λr s6 ⟨u,hr,h6⟩=>?_
   subst hr
   refine thn h6 λ_ s7 zq=>?_
   obtain ⟨x,H7,I7,r7,y7,st7,fr7⟩:=zq
   have I7':=I7.pinned (stat fr7) (T.obj _ _ st7)
   refine thn (hg _ _ _ _ _ _ s7 σ5 H7 x u _ I7' r7 (step' x H7 y7)) λ_ s8 zq=>?_
   obtain ⟨σ8,H8,I8,q8⟩:=zq
   refine thn (ht _ _ _ _ _ _ s8 σ8 H8 _ I8 q8) λok s9 zq=>?_
   obtain ⟨H9,I9,q9⟩:=zq
   have again:∀{σ':St} {H':Hp} {s':S7},Su (blk X sc N s3.heap.objs.size s3 (upd H2 s2.heap.objs.size (.lst [])) fp (X.pn++pins)) ([]++Jw1 fp s7.heap) σ' H' s'->N' σ' H'->
     ∃m,m < n/\∃i σ' H',Su (blk X sc N s3.heap.objs.size s3 (upd H2 s2.heap.objs.size (.lst [])) fp (X.pn++pins)) [] σ' H' s'/\tn i s'.heap/\(∀b∈fp,H' b=none)/\W i m σ' H':=λ{σ' H' s'} J n'=>by
    obtain ⟨m',hm,w'⟩:=hN' σ' H' n'
    refine ⟨m',hm,i+1,σ',H',J.unpinned,T.keep _ _ _ st7 λb hb o e=>(J.pin (b,o) (ybe _ (ybe _ (Jqv hb e)))).1,λb hb=>?_,w'⟩
    obtain ⟨o,e,d⟩:=T.obj _ _ st7 b hb
    exact (J.pin (b,o) (ybe _ (ybe _ (Jqv hb e)))).2.1
   cases ok with
   |false=>
    exact again I9 q9
   |true=>
    refine thn (he _ _ _ _ _ _ s9 σ8 H9 _ I9 q9) λv10 s10 zq=>?_
    obtain ⟨x10,H10,I10,r10,ys,hys,hyl,q10⟩:=zq
    refine thn (Jop _ s10 σ8 H10 (.ref s2.heap.objs.size) [x10] _ [v10] (λ_ H'=>N' σ8 H') I10 rfl (.cons r10 .nil) ⟨_,ys,x10,rfl,rfl,hys,hyl,q10⟩) λ_ s11 zq=>?_
    obtain ⟨_,H11,I11,_,q11⟩:=zq
    exact again I11 q11
 have fin:=codeAny_compStart_list (R:=compPost (model X.prog X.w) X.A X.xe use Q' (.ref s2.heap.objs.size) s3.heap.objs.size) (loop _ rfl) (T.self X.A 0 {s3 with heap:=h1,toks:=s3.toks+([]:List (Str×S6)).length} _ _ st4 (loop _ rfl))
 rw [<-e4s] at fin
 exact fin
theorem Jng (hc:X.calm=true) (hi:PI X tg iter wi) (hg:∀C s H fp pn,PG (blk X sc N C s H fp pn) tg g) (ht:∀C s H fp pn,PIf (blk X sc N C s H fp pn) ifs tt) (he:∀C s H fp pn,PE (blk X sc N C s H fp pn) elt te)
  (hsc:scB sc=true:=by rfl) (hfr:frB X.env.scope.names sc=true:=by rfl) (hlen:N.length=ini.length:=by rfl) (hini:Sm7 X.N N ini X.env.scope.names sc=true:=by rfl)
  (hs:∀x,foldedSetIterable iter X.env x=pure x:=by intro _;rfl):PE X (.ListComp elt [⟨tg,iter,ifs,0⟩] sc pos) (Yde wi ini g tt te):=by
 intro pins s σ H Q I h
 refine Jwx hc hi hsc hfr hlen hini hg ht he hs I h λD H' s' C m I' f hn q=>?_
 obtain ⟨f0,f1,f2,f3,f4,f5⟩:=f
 exact ⟨m,hn,λh' sb=>⟨.ref D,H',I'.turned (λb o hb e=>(sb.2 b hb).trans e) f0 f1 f3 f4 f5,rfl,q⟩⟩
def Sr1 (i:Nat) (te:TE):TS:=λD σ H=>te σ H λv H1=>D.nx (σ.set i (some v)) H1
theorem Jxx {py spos} (hN:X.N.Nodup) (hiy:X.N[i]?=some y) (hx:Loc X.env.scope y) (hc:X.calm=true) (hi:PI X tg iter wi) (hg:∀C s H fp pn,PG (blk X sc N C s H fp pn) tg g) (ht:∀C s H fp pn,PIf (blk X sc N C s H fp pn) ifs tt) (he:∀C s H fp pn,PE (blk X sc N C s H fp pn) elt te)
  (hf:X.fn y=true\/X.env.scope.names.lookup y=some .local:=by first|exact .inl rfl|exact .inr rfl|assumption)
  (hsw:swapsWith (.ListComp elt [⟨tg,iter,ifs,0⟩] sc pos) (some (.Name y py)) spos.line X.env=pure true:=by rfl)
  (hsc:scB sc=true:=by rfl) (hfr:frB X.env.scope.names sc=true:=by rfl) (hlen:N.length=ini.length:=by rfl) (hini:Sm7 X.N N ini X.env.scope.names sc=true:=by rfl)
  (hs:∀x,foldedSetIterable iter X.env x=pure x:=by intro _;rfl):PS X (.Assign [.Name y py] (.ListComp elt [⟨tg,iter,ifs,0⟩] sc pos) spos) (Sr1 i (Yde wi ini g tt te)):=by
 intro pins s σ H D I h
 rw [exec_Assign_Name_used _ _ _ _ hsw]
 refine S8 (wpAny_standAt (S8 ?_))
 refine S8 (wpAny_mono (Jwx hc hi hsc hfr hlen hini hg ht he hs I h λD' H' s' C m I' f hn q=>?_) (λ_ s' hq=>S9 (S9 hq)) λ_ _ e=>e)
 obtain ⟨f0,f1,f2,f3,f4,f5⟩:=f
 refine wpAny_assign_Name (Jx6 I' hN hiy hx (v:=.ref D') rfl (λs'' I'' sb=>?_) hf)
 obtain ⟨a,sb,ha⟩:=sb
 have hCa:C≠a:=by
  rcases ha with z|z
  ·grind
  ·grind
 refine ⟨m,hn.sameBut sb hCa,λh' sb'=>⟨_,H',I''.turned (λb o hb e=>(sb'.2 b hb).trans e) f0 f1 f3 f4 f5,q⟩⟩
end
section
variable {g:TG} {tt:TT} {te:TE} {H:Hp} {D:S5} {σ:St} {R:Hp->Prop}
theorem Jse {lo} {n} (Pv:Nat->St->Hp->Prop) (h0:Pv 0 σ H)
  (hs:∀i σ H,i < n->Pv i σ H->g (.int (lo+i)) σ H λσ3 H3=>tt σ3 H3 λb H4=>if b=true then te σ3 H4 λv H5=>∃ys,H5 D=some (.lst ys)/\ys.length < Sa/\Pv (i+1) σ3 (upd H5 D (.lst (ys++ [v]))) else Pv (i+1) σ3 H4)
  (hd:∀σ H,Pv n σ H->R H):
  ∃W:Nat->Nat->St->Hp->Prop,(∃m,W 0 m σ H)/\∀i m σ' H',W i m σ' H'->(Itr lo n).stop i H'/\R H'\/(Itr lo n).go i H'/\∃N:St->Hp->Prop,(∀σ2 H2,N σ2 H2->∃m',m' < m/\W (i+1) m' σ2 H2)/\
   ∀x H2,(Itr lo n).yld i H' x H2->g x σ' H2 λσ3 H3=>tt σ3 H3 λb H4=>if b=true then te σ3 H4 λv H5=>∃ys,H5 D=some (.lst ys)/\ys.length < Sa/\N σ3 (upd H5 D (.lst (ys++ [v]))) else N σ3 H4:=by
 refine ⟨λi m σ H=>m=n - i/\i<=n/\Pv i σ H,⟨n,by simp,yad _,h0⟩,?_⟩
 rintro i m σ H ⟨rfl,hi,p⟩
 by_cases hlt:i < n
 ·refine .inr ⟨hlt,Pv _,λσ' H' p'=>⟨n - _,by omega,rfl,hlt,p'⟩,λx H' y=>?_⟩
  obtain ⟨e,y⟩:=y
  subst e y
  exact hs i σ _ hlt p
 ·have e:i=n:=by omega
  subst e
  exact .inl ⟨yl _,hd σ H p⟩
theorem Jok {K} {a} {xs} (Pv:Nat->St->Hp->Prop) (h0:Pv 0 σ H) (hl:∀i σ H,i<=xs.length->Pv i σ H->Sy K H a xs)
  (hs:∀i x σ H,xs[i]?=some x->Pv i σ H->g x σ H λσ3 H3=>tt σ3 H3 λb H4=>if b=true then te σ3 H4 λv H5=>∃ys,H5 D=some (.lst ys)/\ys.length < Sa/\Pv (i+1) σ3 (upd H5 D (.lst (ys++ [v]))) else Pv (i+1) σ3 H4)
  (hd:∀σ H,Pv xs.length σ H->R H):
  ∃W:Nat->Nat->St->Hp->Prop,(∃m,W 0 m σ H)/\∀i m σ' H',W i m σ' H'->(Itl K a).stop i H'/\R H'\/(Itl K a).go i H'/\∃N:St->Hp->Prop,(∀σ2 H2,N σ2 H2->∃m',m' < m/\W (i+1) m' σ2 H2)/\
   ∀x H2,(Itl K a).yld i H' x H2->g x σ' H2 λσ3 H3=>tt σ3 H3 λb H4=>if b=true then te σ3 H4 λv H5=>∃ys,H5 D=some (.lst ys)/\ys.length < Sa/\N σ3 (upd H5 D (.lst (ys++ [v]))) else N σ3 H4:=by
 refine ⟨λi m σ H=>m=xs.length - i/\i<=xs.length/\Pv i σ H,⟨xs.length,by simp,yad _,h0⟩,?_⟩
 rintro i m σ H ⟨rfl,hi,p⟩
 have q:=hl i σ H hi p
 by_cases hlt:i < xs.length
 ·refine .inr ⟨⟨xs,xs[i],q,by simp [hlt]⟩,Pv _,λσ' H' p'=>⟨xs.length - _,by omega,rfl,hlt,p'⟩,λx H' y=>?_⟩
  obtain ⟨e,y⟩:=y
  subst e
  exact hs i x σ _ (y xs q) p
 ·have e:i=xs.length:=by omega
  subst e
  exact .inl ⟨⟨xs,q,yl _⟩,hd σ H p⟩
end
theorem Jo7 {H} {A B:St->Hp->Prop} (h:A (σ.set i (some v)) H):Jp4 i v σ H λσ3 H3=>Ya σ3 H3 λb H4=>if b=true then A σ3 H4 else B σ3 H4:=h
def sgn (c:Nat):V:=.str ⟨#[c]⟩
def Its (z:Str):It:=⟨λi _=>i < z.cps.size,λi H x H'=>H'=H/\∃c,z.cps[i]?=some c/\x=sgn c,λi _=>z.cps.size=i⟩
def Suj (tl:TE):TI:=λσ H R=>tl σ H λx H1=>∃z,x= .str z/\R (Its z) H1
theorem Jz5 {P:Sb} {w:Sd} {K:Si} {tg:Expr} {z:Str} {it:S5} {n:String} {fl:Nat->Array S6} {St:Nat->Sg->Prop}
  (Wk:∀A':Se,A'.handled=none->Walks P w A' it [it] [it] z.cps.size (SignAt z) St) (hst:∀i h,St i h->∃o,h.get? it=some o/\o.cls= .type n/\∃a,o.data= .fields a)
  (hn: ["enumerate","zip","dict_itemiterator","dict_reverseitemiterator","odict_iterator","itertools.zip_longest","itertools.pairwise"].contains n=false)
  (hself:∀(A:Se) (i:Nat) (s:S7) (Q:S6->S7->Prop) (E:S6->S7->Prop),St i s.heap->Q (.ref it) s->Sh (model P w) A (pyIter (.ref it)) Q E s):Turn P w K tg (Its z) [it] it St where
 mem:=by simp
 obj:=λi h st b hb=>by
  have e:b=it:=by simpa using hb
  subst e
  obtain ⟨o,e,_,a,d⟩:=hst i h st
  exact ⟨o,e,λv z=>by rw [d] at z;cases z⟩
 keep:=λi h h' st k=>by
  have W0:=Wk callerA rfl
  exact W0.frame i h h' st λb hb o e=>k b hb o e
 item:=by
  intro X hP hw hK hc i pins s σ H E I hf st hg
  subst hP hw hK
  obtain ⟨f0,f1,f2,f3,f4,f5⟩:=hf it (by simp)
  have W:=Wk X.A (I.ok.hd hc)
  refine W.item i s _ _ hg st λv h' tk hv st' kk=>?_
  obtain ⟨c,u,hcp,rfl⟩:=hv
  have I1:Su X pins σ H {s with heap:=h',toks:=tk}:=I.turned (λb o hb e=>kk b o (by simpa using hb) e) f0 f1 f3 f4 f5
  obtain ⟨o,e,cl,a,d⟩:=hst _ _ st'
  exact ⟨_,rfl,Yq (s:={s with heap:=h',toks:=tk}) e cl d hn ⟨sgn c,H,I1,⟨u,rfl⟩,⟨rfl,c,hcp,rfl⟩,st',λb hb=>(hf b hb).1⟩⟩
 done:=by
  intro X hP hw hK hc i pins s σ H E I hf st hg
  subst hP hw hK
  obtain ⟨f0,f1,f2,f3,f4,f5⟩:=hf it (by simp)
  have W:=Wk X.A (I.ok.hd hc)
  have hg':z.cps.size=i:=hg
  subst hg'
  exact W.done s _ _ st λh' tk kk=>⟨rfl,I.turned (λb o hb e=>kk b o (by simpa using hb) e) f0 f1 f3 f4 f5⟩
 self:=hself
theorem Smt {X:Cx} {tg l:Expr} {tl:TE} (hl:PE X l tl):PI X tg l (Suj tl):=by
 intro pins s σ H R I h
 refine thn (hl pins s σ H _ I h) λv s1 zq=>?_
 obtain ⟨x,H1,I1,r1,z,e,q⟩:=zq
 subst e
 obtain ⟨t,rfl⟩:=r1
 have fin:∀(o:Obj) (St:Nat->Sg->Prop) (n:String),Turn X.prog X.w X.K tg (Its z) [s1.heap.objs.size] s1.heap.objs.size St->St 0 (s1.heap.push o)->PIE X pins σ tg R (.ref s1.heap.objs.size) {s1 with heap:=s1.heap.push o}:=λo St n T st0=>by
  refine ⟨s1.heap.objs.size,[s1.heap.objs.size],St,Its z,H1,rfl,I1.kept (t':=s1.toks) λb o e=>yn _ e,T,st0,λb hb=>?_,q⟩
  have e:b=s1.heap.objs.size:=by simpa using hb
  subst e
  exact I1.fpOk (yl _) (I1.hok.fresh (yl _))
 cases ha:z.cps.all (· < 128)
 ·refine wpAny_pyIter_wide ha (fin _ (λi h=>h.IsStrIter s1.heap.objs.size "str_iterator" z t i) "str_iterator" (Jz5 (n:="str_iterator") (fl:=λ_=>#[]) (λA' hA=>Walks.strWide hA _ z t) (λi h st=>?_) (by decide) (λA i s Q E st q=>wpAny_pyIter_striter_wide st q)) ⟨_,yq _ rfl,rfl,rfl⟩)
  obtain ⟨o,e,c,d⟩:=st
  exact ⟨o,e,c,_,d⟩
 ·refine wpAny_pyIter_ascii ha (fin _ (λi h=>h.IsStrIter s1.heap.objs.size "str_ascii_iterator" z t i) "str_ascii_iterator" (Jz5 (n:="str_ascii_iterator") (fl:=λ_=>#[]) (λA' hA=>Walks.strAscii hA _ z t) (λi h st=>?_) (by decide) (λA i s Q E st q=>wpAny_pyIter_striter_ascii st q)) ⟨_,yq _ rfl,rfl,rfl⟩)
  obtain ⟨o,e,c,d⟩:=st
  exact ⟨o,e,c,_,d⟩
theorem Ybs {g:TG} {tt:TT} {te:TE} {H} {D} {σ} {R:Hp->Prop} (Pv:Nat->St->Hp->Prop) (h0:Pv 0 σ H)
  (hs:∀i c σ H,z.cps[i]?=some c->Pv i σ H->g (sgn c) σ H λσ3 H3=>tt σ3 H3 λb H4=>if b=true then te σ3 H4 λv H5=>∃ys,H5 D=some (.lst ys)/\ys.length < Sa/\Pv (i+1) σ3 (upd H5 D (.lst (ys++ [v]))) else Pv (i+1) σ3 H4)
  (hd:∀σ H,Pv z.cps.size σ H->R H):
  ∃W:Nat->Nat->St->Hp->Prop,(∃m,W 0 m σ H)/\∀i m σ' H',W i m σ' H'->(Its z).stop i H'/\R H'\/(Its z).go i H'/\∃N:St->Hp->Prop,(∀σ2 H2,N σ2 H2->∃m',m' < m/\W (i+1) m' σ2 H2)/\
   ∀x H2,(Its z).yld i H' x H2->g x σ' H2 λσ3 H3=>tt σ3 H3 λb H4=>if b=true then te σ3 H4 λv H5=>∃ys,H5 D=some (.lst ys)/\ys.length < Sa/\N σ3 (upd H5 D (.lst (ys++ [v]))) else N σ3 H4:=by
 refine ⟨λi m σ H=>m=z.cps.size - i/\i<=z.cps.size/\Pv i σ H,⟨z.cps.size,by simp,yad _,h0⟩,?_⟩
 rintro i m σ H ⟨rfl,hi,p⟩
 by_cases hlt:i < z.cps.size
 ·refine .inr ⟨hlt,Pv _,λσ' H' p'=>⟨z.cps.size - _,by omega,rfl,hlt,p'⟩,λx H' y=>?_⟩
  obtain ⟨e,c,hcp,y⟩:=y
  subst e y
  exact hs i c σ _ hcp p
 ·have e:i=z.cps.size:=by omega
  subst e
  exact .inl ⟨rfl,hd σ H p⟩
section
variable {X:Cx}
theorem Jt0:OpR X (binaryOp .FloorDiv) (rI (λ_ j=>0 < j/\j.natAbs.log2 < 9000) λi j=>.int (i/j)):=opI λi j _ _ _ _ _ hc q=>floordiv_int (by omega) (by rw [Int.fdiv_eq_ediv_of_nonneg i (by omega)];exact q) (.inl (PyProof.noPylong_of_log2 hc.2))
def Sm3:V->Option S6
 | .ty n=>some (.type n)
 | .ref a=>some (.ref a)
 |_=>none
theorem Ya7:∀{ys:List Str} {us:List S6},Sa4 (ys.map V.str) us->StrsAre us ys
 | [],_,.nil=>.nil
 |_::_,_,.cons ⟨_,rfl⟩ t=>.cons _ _ (Ya7 t)
inductive Skp (K:Si) (x:V) (xs:List V) (H:Hp) (Q:VK):Prop where
 |mk (z:Str) (a:S5) (ys:List Str) (_:x= .str z) (_:xs= [.ref a]) (_:Sy K H a (ys.map V.str)) (_:(ys.map (·.length)).sum+ys.length*z.length<=16777216) (_:Q (.str (Txt.join z ys)) H)
theorem Ye5:MtR X "str.join" (Skp X.K):=by
 rintro pins s σ H x xs v us Q I rx rs ⟨z,a,ys,rfl,rfl,hq,hz,q⟩
 obtain ⟨t,rfl⟩:=rx
 obtain ⟨u,rfl,ru⟩:=Jq6 rs
 cases ru
 obtain ⟨its,r,pl,_⟩:=I.list hq
 exact join_list pl.isList (by simpa using Ya7 r) hz λt' k=>⟨.str _,H,I.tok _,⟨_,rfl⟩,q⟩
inductive Suq (K:Si) (xs:List V) (H:Hp) (Q:VK):Prop where
 |mk (a:S5) (bs:List Bool) (_:xs= [.ref a]) (_:Sy K H a (bs.map V.bl)) (_:Q (.bl (bs.all id)) H)
theorem Jra (hc:X.calm=true):Jpl X (.builtin "all") (Suq X.K):=by
 rintro pins s σ H xs us Q I r ⟨a,bs,rfl,hq,q⟩
 obtain ⟨u,rfl,ru⟩:=Jq6 r
 cases ru
 obtain ⟨its,rv,pl,hz⟩:=I.list hq
 have hlen:=rv.length
 refine call_all_walk (wpAny_pyIter_list pl.isList ⟨s.heap.objs.size,[s.heap.objs.size,a],[s.heap.objs.size],its.toArray.size,_,_,λi=>bs.getD i true,rfl,Walks.list (A:=X.A.in1) (I.ok.hd hc) s.heap.objs.size a ?_ its.toArray,⟨⟨_,yq _ rfl,rfl,rfl⟩,pl.isList.at λo e=>yn _ e⟩,?_,λh' tk k=>?_⟩)
 ·obtain ⟨o,_,e,_⟩:=pl
  exact yr (yi e)
 ·intro i v s' Q' E' hv hq'
  have hv':=by simpa using hv
  have hi:=(yo.mp hv').1
  have hb:i < bs.length:=by rw [yf] at hlen;omega
  obtain ⟨u',hu',ru'⟩:=rv.get (by rw [yj,yh hb];rfl)
  rw [hv'] at hu'
  cases hu'
  cases ru'
  refine wpAny_truthy_bool ?_
  have:bs.getD i true=bs[i]:=by rw [ybo,yh hb];rfl
  rw [<-this]
  exact hq'
 ·have e:((yaz its.toArray.size).all λi=>bs.getD i true)=bs.all id:=by
   have hl2:its.toArray.size=bs.length:=by rw [yf] at hlen;rw [ym];exact hlen.symm
   rw [hl2,Bool.eq_iff_iff,yar,yar]
   constructor
   ·intro hh b hb
    obtain ⟨i,hi,rfl⟩:=List.getElem_of_mem hb
    have:=hh i (ybh.mpr hi)
    rw [ybo,yh hi] at this
    exact this
   ·intro hh i hi
    have hi':=ybh.mp hi
    rw [ybo,yh hi']
    exact hh _ (yba hi')
  rw [e]
  exact ⟨.bl _,H,I.kept λb o e=>k b o (λz=>by
   have z':=by simpa using z
   exact absurd (yi e) (by rw [z'];exact yay _)) (yn _ e),rfl,q⟩
end
mutual
inductive Seg (K:Si) (H:Hp):V->PyData->Prop
 |non:Seg K H .non .none
 |bl (b:Bool):Seg K H (.bl b) (.bool b)
 |int (i:Int):Seg K H (.int i) (.int i)
 |str (z:Str):Seg K H (.str z) (.str z)
 |lst {a:S5} {xs:List V} {ds:List PyData}:Sy K H a xs->Scg K H xs ds->Seg K H (.ref a) (.list ds)
 |tup {a:S5} {xs:List V} {ds:List PyData}:SqT K H a xs->Scg K H xs ds->Seg K H (.ref a) (.tuple ds)
inductive Scg (K:Si) (H:Hp):List V->List PyData->Prop
 |nil:Scg K H [] []
 |cons {x:V} {d:PyData} {xs:List V} {ds:List PyData}:Seg K H x d->Scg K H xs ds->Scg K H (x::xs) (d::ds)
end
section
variable {X:Cx} {pins:List (S5×Obj)} {σ:St} {H:Hp} {s:S7}
mutual
theorem Seg.reads (I:Su X pins σ H s):∀{x} {d},Seg X.K H x d->∀{v},Sa6 x v->∃as,Reads s.heap v d as
 |_,_,.non,_,r=>by cases r;exact ⟨_,.none⟩
 |_,_,.bl b,_,r=>by cases r;exact ⟨_,.bool b⟩
 |_,_,.int i,_,r=>by obtain ⟨t,rfl⟩:=r;exact ⟨_,.int i t⟩
 |_,_,.str z,_,r=>by obtain ⟨t,rfl⟩:=r;exact ⟨_,.str z t⟩
 |_,_,.lst hq hd,_,r=>by
  cases r
  obtain ⟨its,rv,⟨o,n,e,c,dd,dt⟩,_⟩:=I.list hq
  obtain ⟨as,ra⟩:=Scg.reads I hd rv
  exact ⟨_,.list e c dt (by simpa using ra)⟩
 |_,_,.tup hq hd,_,r=>by
  cases r
  obtain ⟨its,rv,⟨o,e,c,n,dt⟩,_⟩:=I.tuple hq
  obtain ⟨as,ra⟩:=Scg.reads I hd rv
  exact ⟨_,.tuple e c dt (by simpa using ra)⟩
theorem Scg.reads (I:Su X pins σ H s):∀{xs:List V} {ds:List PyData},Scg X.K H xs ds->∀{us:List S6},Sa4 xs us->∃as,ReadsAll s.heap us ds as
 |_,_,.nil,_,r=>by cases r;exact ⟨_,.nil⟩
 |_,_,.cons h t,_,r=>by
  cases r with
  |cons r1 r2=>
   obtain ⟨as,ra⟩:=Seg.reads I h r1
   obtain ⟨bs,rb⟩:=Scg.reads I t r2
   exact ⟨_,.cons ra rb⟩
end
inductive Sus (K:Si) (neg:Bool) (x:V) (y:V) (H:Hp) (Q:VK):Prop where
 |mk (d:_) (e:_) (_:Seg K H x d) (_:Seg K H y e) (_:SeqAt.shaped d=true) (_:SeqAt.shaped e=true) (_:Q (.bl (if neg then !PyData.eqv d e else PyData.eqv d e)) H)
theorem Jzw (hu:X.A.units+64 < cLine):OpR X (compareOp .NotEq) (Sus X.K true):=by
 rintro pins s σ H x y v u Q I rx ry ⟨d,e,hd,he,sd,se,q⟩
 obtain ⟨as,ra⟩:=hd.reads I rx
 obtain ⟨bs,rb⟩:=he.reads I ry
 exact ne_dataH ra rb sd se hu (Jnj I q rfl)
end
theorem Jmx:bootBuiltins "isinstance" =some (.builtin "isinstance"):=by decide +kernel
theorem Jof:bootBuiltins "len" =some (.builtin "len"):=by decide +kernel
theorem Jsd:bootBuiltins "max" =some (.builtin "max"):=by decide +kernel
theorem Jr9:bootBuiltins "min" =some (.builtin "min"):=by decide +kernel
theorem Jva:bootBuiltins "all" =some (.builtin "all"):=by decide +kernel
theorem Jsc:bootBuiltins "int" =some (.type "int"):=by decide +kernel
theorem Sm0:bootBuiltins "str" =some (.type "str"):=by decide +kernel
theorem Juv:bootBuiltins "bool" =some (.type "bool"):=by decide +kernel
theorem Jpd:bootBuiltins "list" =some (.type "list"):=by decide +kernel
theorem Jnk:bootBuiltins "tuple" =some (.type "tuple"):=by decide +kernel
structure FT (K:Si) (mg:Str->Option S6) (x:Str) (st:Sf) (ps:List Str) (f:S5) (fd:Sc):Prop where
 mgx:mg x=some (.ref f)
 fn:Fun K x x st f fd
 bd:Sbg K fd ps []
section
variable {X:Cx} {x:Str} {st:Sf} {ps:List Str} {f:S5} {fd:Sc} {sp:Sp} {k j:Nat} {p pos:Pos} {e:Expr} {es:List Expr} {t:TA}
theorem Jmn (F:FT X.K X.mg x st ps f fd) (G:Sx X.prog X.w X.K X.mg X.base CX0 k f fd ps sp) (hr:Sak j X.A) (hk:k<=j) (ha:PA X (e::es) t) (hg:Gl X x:=by rfl) (hdb:(x==("__debug__" :Str))=false:=by decide)
  (he:starEach (e::es) X.env=(false,eval e X.env)::starEach es X.env:=by rfl) (hpl:(backTo pos (starEach es X.env)).any (·.1)=false:=by rfl):PE X (.Call (.Name x p) (e::es) [] pos) (Ydb sp [] E0 t):=
 Yed G (hr.mono hk) hg F.mgx F.fn.kp F.bd .nil Jqn ha hdb he hpl
end
theorem Sn.upd (h:H D=none):Sn H (upd H D o):=λb u e=>by rw [Jmm (Jmo e h)];exact e
def Sbb (H:Hp) (p:S5):Prop:=∃a b c:Int,H p=some (.lst [.int a,.int b,.int c])
def But (p:S5) (H H':Hp):Prop:=(∀b o,b≠p->H b=some o->H' b=some o)/\Sbb H' p
theorem But.trans (a:But p H H1) (b:But p H1 H2):But p H H2:=⟨λc o n e=>b.1 c o n (a.1 c o n e),b.2⟩
theorem But.refl (s:Sbb H p):But p H H:=⟨λ_ _ _ e=>e,s⟩
theorem But.same (a:But p H H1) (b:Sn H1 H2):But p H H2:=⟨λc o n e=>b c o (a.1 c o n e),let ⟨x,y,z,e⟩:=a.2;⟨x,y,z,b p _ e⟩⟩
theorem But.of (a:Sbb H p) (b:Sn H H1):But p H H1:=(But.refl a).same b
theorem But.free (s:Sbb H p) (b:But p H H') (h:H' D=none):H D=none:=by
 by_cases e:D=p
 ·obtain ⟨x,y,z,q⟩:=b.2
  rw [e,q] at h
  cases h
 ·cases q:H D with
  |none=>rfl
  |some o=>
   rw [b.1 D o e q] at h
   cases h
theorem But.updD (b:But p H H') (hD:H D=none) (ne:D≠p):But p H (upd H' D o):=by
 refine ⟨λc u n e=>?_,?_⟩
 ·rw [Jmm (Jmo e hD)]
  exact b.1 c u n e
 ·obtain ⟨x,y,z,q⟩:=b.2
  exact ⟨x,y,z,by rw [Jmm (yg ne)];exact q⟩
theorem Sbb.ne (s:Sbb H p) (hD:H D=none):D≠p:=by
 obtain ⟨x,y,z,q⟩:=s
 exact (Jmo q hD).symm
theorem Jq2 (s:Sbb H p) (h:H a=some o) (hn:∀x y z:Int,o≠ .lst [.int x,.int y,.int z]):a≠p:=by
 intro e
 obtain ⟨x,y,z,q⟩:=s
 rw [e,q] at h
 exact hn x y z (yw.inj h).symm
inductive Snd (vs:List V) (H:Hp) (Q:VK) (z3:XK):Prop where
 |mk (p:S5) (m:Int) (_:vs= [.ref p,.int m]) (_:Sbb H p) (_:0 < m) (_:m.natAbs.log2 < 9000) (_:∀(r:Int) (H':Hp),0<=r->r < m->But p H H'->Q (.int r) H')
inductive Yd4 (vs:List V) (H:Hp) (Q:VK) (z3:XK):Prop where
 |mk (c:Int) (_:vs= [.int c]) (_:∀(p:S5) (H':Hp),H p=none->Sn H H'->Sbb H' p->Q (.ref p) H')
inductive Smx (K:Si) (vs:List V) (H:Hp) (Q:VK) (z3:XK):Prop where
 |mk (a:S5) (ns:List Int) (k:Nat) (_:vs= [.ref a,.int k]) (_:Sy K H a (ns.map V.int)) (_:∀n:Int,Q (.int n) H)
theorem Slv {i:Int} {j:Nat} (hi:i=j) (h:xs[j]?=some v):atI xs i=some v:=by rw [hi];exact Jpc h
theorem Jpf {ns:List Int} {k:Nat} (h):atI (ns.map V.int) (k)=some (.int ns[k]):=Jpc (by rw [yj,yh h];rfl)
theorem Jxh (hr:Sak k A):A.units+64 < cLine:=hr.units
end L2
namespace L2
open PySem PySem.Spec PyProof.Rows Builtin Builtin.ObjectAttr
abbrev VEm:List S6:=[.type "ValueError",.type "Exception",.type "BaseException",.type "object"]
def xcB (K:Si) (C fI:S5):Bool:=
 Sk K (.ref C) "__getattribute__" ==some (some (.builtin "BaseException.__getattribute__"))&&Sk K (.ref C) "__getattr__" ==some none&&Sk K (.ref C) "__setattr__" ==some (some (.builtin "object.__setattr__"))&&
 Sk K (.ref C) "__init__" ==some (some (.ref fI))&&PySem.W.typeIn K (.ref fI)==some (.type "function")&&PySem.W.keepIn K (.ref C)&&PySem.W.hasDictIn K C&&Sl K C (.type "BaseException")==some true&&Sl K C (.type "object")==some true&&
 Sk K (.ref C) "__class__" ==some (some (.builtin "object.__class__"))&&PySem.W.specialIn K (.builtin "object.__class__") "__get__" ==some (some (.builtin "getset_descriptor.__get__"))&&PySem.W.takesIn K (.builtin "object.__class__")==some true
structure Sai (K:Si) (C W fI:S5):Prop where
 obj:∃(nm q:Str) (N:S5) (bs:List S6) (sn:List Str) (sub:List S6) (ab:Bool) (col:Option Bool) (dd:Option S5) (k0 k1 k2 k3 k5:Option S6),
  K.lookup C=some (excClassObj nm q C N bs (.ref W::VEm) true sn sub ab col dd k0 k1 k2 k3 k5 "ValueError.__new__")
 tl:PySem.W.tailIn K VEm (.ref W::VEm)=true
 all:xcB K C fI=true
theorem Jo5 {K} (h:xcB K C fI=true):
  (Sk K (.ref C) "__getattribute__" =some (some (.builtin "BaseException.__getattribute__"))/\Sk K (.ref C) "__getattr__" =some none/\Sk K (.ref C) "__setattr__" =some (some (.builtin "object.__setattr__")))/\
  (Sk K (.ref C) "__init__" =some (some (.ref fI))/\PySem.W.typeIn K (.ref fI)=some (.type "function")/\PySem.W.keepIn K (.ref C)=true/\PySem.W.hasDictIn K C=true)/\Sl K C (.type "BaseException")=some true/\Sl K C (.type "object")=some true/\
  Sk K (.ref C) "__class__" =some (some (.builtin "object.__class__"))/\PySem.W.specialIn K (.builtin "object.__class__") "__get__" =some (some (.builtin "getset_descriptor.__get__"))/\PySem.W.takesIn K (.builtin "object.__class__")=some true:=by
 unfold xcB at h
 simp only [yx,beq_iff_eq] at h
 obtain ⟨⟨⟨⟨⟨⟨⟨⟨⟨⟨⟨a,b⟩,c⟩,d⟩,e⟩,f⟩,g⟩,i⟩,j⟩,k⟩,l⟩,m⟩:=h
 exact ⟨⟨a,b,c⟩,⟨d,e,f,g⟩,i,j,k,l,m⟩
section
variable {K:Si} {C W fI:S5} (c:Sai K C W fI)
include c
theorem Sai.ga:Sk K (.ref C) "__getattribute__" =some (some (.builtin "BaseException.__getattribute__")):=(Jo5 c.all).1.1
theorem Sai.gh:Sk K (.ref C) "__getattr__" =some none:=(Jo5 c.all).1.2.1
theorem Sai.sa:Sk K (.ref C) "__setattr__" =some (some (.builtin "object.__setattr__")):=(Jo5 c.all).1.2.2
theorem Sai.ini:Sk K (.ref C) "__init__" =some (some (.ref fI)):=(Jo5 c.all).2.1.1
theorem Sai.fn:PySem.W.typeIn K (.ref fI)=some (.type "function"):=(Jo5 c.all).2.1.2.1
theorem Sai.kp:PySem.W.keepIn K (.ref C)=true:=(Jo5 c.all).2.1.2.2.1
theorem Sai.hd:PySem.W.hasDictIn K C=true:=(Jo5 c.all).2.1.2.2.2
theorem Sai.mb:Sl K C (.type "BaseException")=some true:=(Jo5 c.all).2.2.1
theorem Sai.mo:Sl K C (.type "object")=some true:=(Jo5 c.all).2.2.2.1
theorem Sai.cl:Sk K (.ref C) "__class__" =some (some (.builtin "object.__class__")):=(Jo5 c.all).2.2.2.2.1
theorem Sai.cg:PySem.W.specialIn K (.builtin "object.__class__") "__get__" =some (some (.builtin "getset_descriptor.__get__")):=(Jo5 c.all).2.2.2.2.2.1
theorem Sai.ct:PySem.W.takesIn K (.builtin "object.__class__")=some true:=(Jo5 c.all).2.2.2.2.2.2
end
theorem Ybh (self) (C W):refuseLoop self "__setattr__" (.ref C:: .ref W::VEm)=pure ():=by
 rw [refuseLoop_ref,refuseLoop_ref]
 exact PySem.F.store_ValueError.passes self
theorem Sai.mro {K} (c:Sai K C W fI):∃cd,PySem.W.clsIn K C=some cd/\cd.mro= .ref C:: .ref W::VEm/\cd.hasDict=true:=by
 obtain ⟨nm,q,N,bs,sn,sub,ab,col,dd,k0,k1,k2,k3,k5,l⟩:=c.obj
 unfold PySem.W.clsIn
 rw [l]
 exact ⟨_,rfl,rfl,rfl⟩
section
variable {prog:Sb} {w:Sd} {A:Se} {E:S6->S7->Prop} {s:S7} {K:Si} {x C W fI:S5} {ox:Obj} {od:Option Obj} {name:Str}
theorem Yfc:builtinKind "BaseException.__getattribute__" =some .slot:=by decide +kernel
theorem Ydo:splitId "BaseException.__getattribute__" =some ("BaseException","__getattribute__"):=by decide +kernel
theorem Yaf {tk} {R} (c:Sai K C W fI) (X:K.In s.heap) (I:PySem.W.InstAt s.heap x ox C od) (hf:PySem.W.findObj K C od name=some r)
  (h:Sh (model prog w) A.in1 (match r with| .value v=>ret v| .bind g b=>bindTo g b (.ref x) (.ref C)| .missing=>unsupported "none")
   (λfin s'=>match fin with| .done f=>R (.ok f) s'| .again c'=>c'.quiet=true/\codeAny (model prog w) A c' R s') (λe s'=>R (.error e) s') s) (hr:r≠ .missing):
  codeAny (model prog w) A (.call (.builtin "BaseException.__getattribute__") ⟨[.ref x,.str name tk],[]⟩) R s:=by
 have T0:=I.type (M:=model prog w)
 have T4:PySem.W.Looks (model prog w) s.heap (isInstance (.ref x) (.type "BaseException")) true:=T0.andThen (PySem.W.looks_mroIn X c.mb)
 have ck:=λ{Q' E' A'} q=>
  @PySem.W.check_slot (model prog w) A' E' s "BaseException.__getattribute__" "BaseException" "__getattribute__" (.ref x) [.str name tk] [] Q' Yfc Ydo T4 (F.args_bexc_ga (.ref x) (.str name tk)) q
 refine codeAny_call_builtin F.excAttr_ValueError.ga.plain F.entry_bexc_ga (ck (S8 (S9 (S8 (S9 (S8 (T0.here (S8 ((PySem.W.looks_find X I hf).here ?_)))))))))
 cases r with
 |missing=>exact absurd rfl hr
 |value v=>exact h
 |bind gg b=>exact h
theorem So2 {Q} (c:Sai K C W fI) (X:K.In s.heap) (I:PySem.W.InstAt s.heap x ox C od) (hf:PySem.W.findObj K C od name=some (.value v)) (hh:PySem.W.handedIn v=true)
  (q:Q v {s with toks:=s.toks+1}):Sh (model prog w) A (getAttr (.ref x) name expr) Q E s:=by
 obtain ⟨hp,g,d,t,os⟩:=s
 refine S8 (wpAny_mkText (wpAny_holding (S8 ((I.type).at (S8 ((PySem.W.looks_findIn X c.ga).at (S8 ((PySem.W.looks_findIn X c.gh).at ?_))))))))
 have e0:callGetattribute (.ref x) (.str name t) (.builtin "BaseException.__getattribute__") expr=boundAndCalled (.builtin "BaseException.__getattribute__") (.ref x) (.str name t):=by cases expr <;> rfl
 rw [e0]
 unfold boundAndCalled
 rw [F.excAttr_ValueError.ga.bind]
 refine S8 (wpAny_attempt (wpAny_holding (S8 (S9 (wpAny_call (Yaf c X I hf (S9 ?_) (λz=>nomatch z)))))))
 show Sh _ _ (handedOut v) _ _ _
 rw [PySem.W.handedOut_of hh]
 exact S9 q
end
section
variable {prog:Sb} {w:Sd} {A:Se} {E:S6->S7->Prop} {s:S7} {K:Si} {x C W fI:S5} {ox:Obj} {od:Option Obj} {name:Str} {v:S6}
theorem So3 (c:Sai K C W fI) (X:K.In s.heap) (I:PySem.W.InstAt s.heap x ox C od) (hn:Sk K (.ref C) name=some none)
  (h:Sh (model prog w) A.in1 (storeInOwnDict (.ref x) (.ref C) (.str name tk) name v false)
   (λfin s'=>match fin with| .done f=>R (.ok f) s'| .again c'=>c'.quiet=true/\codeAny (model prog w) A c' R s') (λe s'=>R (.error e) s') s):
  codeAny (model prog w) A (.call (.builtin "object.__setattr__") ⟨[.ref x,.str name tk,v],[]⟩) R s:=by
 have SF:=PySem.F.store_object
 obtain ⟨cd,hc,hm,_⟩:=c.mro
 have T0:=I.type (M:=model prog w)
 have sub:PySem.W.Looks (model prog w) s.heap (isInstance (.ref x) (.type "object")) true:=T0.andThen (PySem.W.looks_mroIn X c.mo)
 have hmr:PySem.W.Looks (model prog w) s.heap (mroOf (.ref C)) cd.mro:=(PySem.W.looks_clsIn X hc).andThen .now
 refine codeAny_call_builtin SF.slot.plain SF.entry (@PySem.W.check_slot (model prog w) _ _ s "object.__setattr__" "object" "__setattr__" (.ref x) [.str name tk,v] [] _ SF.kind SF.split sub (SF.args (.ref x) (.str name tk) v) ?_)
 rw [PySem.W.osa_eq,refuse_eq]
 refine S8 (S8 (T0.here (S8 (hmr.here ?_))))
 rw [hm,Ybh]
 exact S9 (S8 (T0.here (S8 ((PySem.W.looks_findIn X hn).here (S8 (S9 h))))))
theorem Yf (c:Sai K C W fI) (X:K.In s.heap) (hx:s.heap.get? x=some ox) (hcl:ox.cls= .ref C) (hdi:ox.dict=none) (hd:ox.data= .fields vs) (hn:Sk K (.ref C) name=some none)
  (h:∀h',(∀b u,b≠x->s.heap.get? b=some u->h'.get? b=some u)->h'.get? x=some {ox with dict:=some s.heap.objs.size}->h'.Ns1 s.heap.objs.size (λy=>if y=name then some v else none)->Q () {s with heap:=h',toks:=s.toks+2}):
  Sh (model prog w) A (setAttr (.ref x) name v) Q E s:=by
 have I:PySem.W.InstAt s.heap x ox C none:=⟨hx,hcl,by unfold PySem.W.notCls;rw [hd],by rw [hdi];trivial⟩
 obtain ⟨cd,hc,_,hdct⟩:=c.mro
 refine PySem.W.set_plain X I c.sa (So3 c X I hn ?_)
 obtain ⟨oc,odi,oda,osl⟩:=ox
 subst hcl hdi hd
 refine S8 (S9 (S8 (S8 (wpAny_loadPart hx (S8 (PySem.W.Looks.here (PySem.W.looks_clsIn X hc) ?_))))))
 rw [hdct]
 have e1:(s.heap.push {cls:=.type "dict",data:=.dict #[]}).get? x=some ⟨.ref C,none,.fields vs,osl⟩:=yn _ hx
 have nx:=yaw (yi hx)
 have n0:(s.heap.push {cls:=.type "dict",data:=.dict #[]}).Ns s.heap.objs.size (λ_=>none):=⟨_,#[],_,yq s.heap rfl,rfl,(λe he=>absurd he (by simp)),λ_=>rfl⟩
 refine S8 (wpAny_alloc (S8 (wpAny_update e1 ?_)))
 have n1:((s.heap.push {cls:=.type "dict",data:=.dict #[]}).update x λo=>{o with dict:=some s.heap.objs.size}).Ns1 s.heap.objs.size (λ_=>none):=
  (Heap.Ns1.of_empty n0).at λo q=>by rw [ybk _ _ (yg nx)];exact q
 refine S9 (S8 (S9 (S8 (wpAny_nsSet1 n1 λh' n2 sb=>?_))))
 obtain ⟨oD,esD,epD,hoD,hdD,hcD⟩:=n2.count (PySem.Within.cons name v PySem.Within.nil)
 refine S8 (wpAny_lookBehind hoD (by rw [hdD];exact pastItsLine_dict (yam hcD (Nat.le_add_left 1 Sa))) (S9 (h h' (λb u hb q=>?_) ((sb.2 _ (yg nx)).trans (ybt (λo=>{o with dict:=some s.heap.objs.size}) e1 rfl)) n2)))
 rw [sb.2 b (yr (yi q)),ybk _ _ (yg hb)]
 exact yn _ q
end
abbrev Sjm (us:List S6):Obj:={cls:=.type "tuple",data:=.seq us.toArray}
abbrev Sjl (C:S5) (t:S5):Obj:={cls:=.ref C,data:=.fields #[.ref t,.none,.none,.none,.bool false,.none]}
section
variable {prog:Sb} {w:Sd} {A:Se} {E:S6->S7->Prop} {K:Si} {C W fI:S5} {us:List S6} {hp:Sg} {g:Array GenState} {d:Drawn} {t:Nat} {os:OsState}
theorem Ydp (c:Sai K C W fI) (X:K.In hp) (hz:us.length<=Sa)
  (h:Sh (model prog w) A (call (.ref fI) (.ref (hp.objs.size+1)::us)) (λr s'=>r= .none/\Q (.done (.ret (.ref (hp.objs.size+1)))) s') E ⟨(hp.push (Sjm us)).push (Sjl C hp.objs.size),g,d,t,os⟩):
  Sh (model prog w) A (Builtin.«type.__call__» ⟨.ref C::us,[]⟩) Q E ⟨hp,g,d,t,os⟩:=by
 obtain ⟨nm,q,N,bs,sn,sub,ab,col,dd,k0,k1,k2,k3,k5,l⟩:=c.obj
 have FV:=F.excBase_ValueError
 have kC:=X _ _ l
 have TL:=PySem.W.tail_of_in X c.tl
 have up:∀b o,hp.get? b=some o->((hp.push (Sjm us)).push (Sjl C hp.objs.size)).get? b=some o:=λb o e=>yn _ (yn _ e)
 have X2:=X.keeps up
 have kC2:=X2 _ _ l
 have hcC:(Value.ref C:: .ref W::VEm).contains (.ref C)=true:=by simp
 repeat (first|with_reducible refine wpAny_loadPart_at kC ?_|with_reducible refine wpAny_madeBy_exc kC ?_|wp_step)
 refine codeAny_call_builtin_code (Code.quiet_builtin _ FV.quiet) (wpAny_check_new_subT FV TL kC (codeAny_exc_new_subT FV TL kC ?_ hz))
 repeat (first|with_reducible refine wpAny_loadPart_at gE ?_|(with_reducible refine wpAny_isSubtype_exc kC2 ?_;rw [hcC])|wp_step)
 refine (PySem.W.looks_findIn X2 c.ini).at (wpAny_holding (S8 ((PySem.W.bind_fn X2 _ c.fn).at (S8 (wpAny_mono h (λr s' hr=>?_) λ_ _ z=>z)))))
 obtain ⟨rfl,hQ⟩:=hr
 wp_walk
 exact hQ
theorem Yfd {s:S7} {Q} (c:Sai K C W fI) (X:K.In s.heap) (hz:us.length<=Sa)
  (h:Sh (model prog w) (A.under (.builtin "type.__call__" ⟨.ref C::us,[]⟩)) (call (.ref fI) (.ref (s.heap.objs.size+1)::us)) (λr s'=>r= .none/\Q (.ref (s.heap.objs.size+1)) s') E {s with heap:=(s.heap.push (Sjm us)).push (Sjl C s.heap.objs.size)}):
  Sh (model prog w) A (call (.ref C) us) Q E s:=by
 obtain ⟨hp,g,d,t,os⟩:=s
 obtain ⟨nm,q,N,bs,sn,sub,ab,col,dd,k0,k1,k2,k3,k5,l⟩:=c.obj
 have kC:=X _ _ l
 have v1:=tc_lookup
 have v2:=tc_bind (.ref C)
 have hT:(⟨hp,g,d,t,os⟩:S7).TypeIs (.ref C) "type" :=⟨_,kC,rfl⟩
 refine wpAny_call (codeAny_of_tree ?_)
 repeat (any_goals (first|assumption|with_reducible refine wpAny_loadPart_at kC ?_|wp_step))
 exact ⟨rfl,codeAny_call_builtin_at (Code.quiet_builtin _ (by decide +kernel)) entry_typeCall (wpAny_check_type_call_sub kC (Ydp c X hz h))⟩
end
end L2
namespace L2
open PySem PySem.Spec PyProof.Rows
def XO (e C:S5) (dx:Option S5) (fr:Bool):HO:=.ext λh=>∃o vs,h.get? e=some o/\o.cls= .ref C/\o.dict=dx/\o.data= .fields vs/\(∃t,vs[0]?=some (.ref t))/\∃y,vs[1]?=some y/\(fr=true->y= .none)
def XD (dx:S5) (fs:List (Str×V)):HO:=.ext λh=>∃mA,h.Ns1 dx mA/\(∀f,Sdm (fs.lookup f) (mA f))/\PySem.Within mA (fs.map (·.1))/\fs.length<=1000
section
variable {P:Sb} {w:Sd} {H:Hp} {h:Sg} {e C dx:S5} {od:Option S5} {fr:Bool} {fs:List (Str×V)}
theorem Ydq (he:h.get? e=some o) (h1:o.cls= .ref C) (h2:o.dict=od) (h3:o.data= .fields vs) (h4:∃t,vs[0]?=some (.ref t)) (h5:∃y,vs[1]?=some y/\(fr=true->y= .none)):Sav P w H h e (XO e C od fr):=
 ⟨⟨o,vs,he,h1,h2,h3,h4,h5⟩,⟨o,he⟩,λ_ _ ⟨o,vs,a,r⟩ k=>⟨o,vs,k o a,r⟩⟩
theorem Jw8 (hok:HOk P w H h) (q:H e=some (XO e C od fr)):∃o vs,h.get? e=some o/\o.cls= .ref C/\o.dict=od/\o.data= .fields vs/\(∃t,vs[0]?=some (.ref t))/\∃y,vs[1]?=some y/\(fr=true->y= .none):=(hok e _ q).1
theorem Sr3 (n:h.Ns1 dx mA) (r:∀f,Sdm (fs.lookup f) (mA f)) (w':PySem.Within mA (fs.map (·.1))) (z:fs.length<=1000):Sav P w H h dx (XD dx fs):=
 ⟨⟨mA,n,r,w',z⟩,(let ⟨o,_,_,q,_⟩:=n;⟨o,q⟩),λ_ _ ⟨m,a,r⟩ k=>⟨m,a.at k,r⟩⟩
theorem So4 (hok:HOk P w H h) (q:H dx=some (XD dx fs)):∃mA,h.Ns1 dx mA/\(∀f,Sdm (fs.lookup f) (mA f))/\PySem.Within mA (fs.map (·.1))/\fs.length<=1000:=(hok dx _ q).1
theorem Yag (hok:HOk P w H h) (q:H e=some (XO e C (some dx) fr)) (qd:H dx=some (XD dx fs)):∃(ox oD:Obj) (mA:Str->Option S6),PySem.W.InstAt h e ox C (some oD)/\(∀n,PySem.W.lookIn n oD=some (mA n))/\∀f,Sdm (fs.lookup f) (mA f):=by
 obtain ⟨o,vs,he,hc,hd,hf,_⟩:=Jw8 hok q
 obtain ⟨mA,n1,r,_⟩:=So4 hok qd
 obtain ⟨oD,hD,hl⟩:=Jwz n1
 exact ⟨o,oD,mA,⟨he,hc,by unfold PySem.W.notCls;rw [hf],by rw [hd];exact hD⟩,hl,r⟩
end
section
variable {X:Cx} {pins:List (S5×Obj)} {σ:St} {H:Hp} {s:S7} {e C W fI dx:S5} {fs:List (Str×V)} {fr:Bool} {f:Str} {v:V} {A:Se} {E:S6->S7->Prop}
theorem Jz8 (I:Su X pins σ H s) (q:H e=some (XO e C (some dx) fr)) (qd:H dx=some (XD dx fs)) (c:Sai X.K C W fI) (n:NoAttr X.K C f) (l:fs.lookup f=some v)
  (h:∀u s',Su X pins σ H s'->Sa6 v u->Q u s'):Sh (model X.prog X.w) A (getAttr (.ref e) f b) Q E s:=by
 obtain ⟨ox,oD,mA,J,hl,r⟩:=Yag I.hok q qd
 obtain ⟨u,hu,ru⟩:=Sdm.some_of (by rw [<-l];exact r f)
 exact So2 c I.kIn J (PySem.W.findObj_own c.hd n rfl (by rw [hl,hu])) (Jwy ru) (h u _ (I.tok _) ru)
theorem Ydr (I:Su X pins σ H s) (q:H e=some (XO e C none fr)) (c:Sai X.K C W fI) (n:NoAttr X.K C f) (ry:Sa6 y u)
  (h:∀dx s',H dx=none->dx≠e->Su X pins σ (upd (upd H dx (XD dx [(f,y)])) e (XO e C (some dx) fr)) s'->Q () s'):Sh (model X.prog X.w) A (setAttr (.ref e) f u) Q E s:=by
 obtain ⟨o,vs,he,hc,hd,hf,h0,h1⟩:=Jw8 I.hok q
 have hn:=I.hok.fresh (yl _)
 refine Yf c I.kIn he hc hd hf n λh' kp ke n1=>h s.heap.objs.size _ hn (yaw (yi he)) ?_
 have qd:∀m:Hp,Sav X.prog X.w m h' s.heap.objs.size (XD s.heap.objs.size [(f,y)]):=λm=>Sr3 n1 (λg=>by
  by_cases z:g=f
  ·have zb:=beq_iff_eq.mpr z
   simp only [ybi,zb,if_pos z];exact ry
  ·have zb:=beq_eq_false_iff_ne.mpr z
   simp only [ybi,zb,if_neg z];exact True.intro) (λg hg=>by
  by_cases z:g=f
  ·rw [z];simp
  ·exact absurd (if_neg z) hg) (by simp)
 have un1:Un X.fs [] H (upd (upd H s.heap.objs.size (XD s.heap.objs.size [(f,y)])) e (XO e C (some s.heap.objs.size) fr)) s.heap h':=by
  have nb:∀b ob,s.heap.get? b=some ob->b≠s.heap.objs.size:=λb ob z=>yr (yi z)
  have sm:∀b u',H b=some u'->u'≠XO e C none fr->upd (upd H s.heap.objs.size (XD s.heap.objs.size [(f,y)])) e (XO e C (some s.heap.objs.size) fr) b=some u':=λb u' z d=>by
   rw [Jmm (λw':b=e=>d (by rw [w',q] at z;exact (yw.inj z).symm)),Jmm (Jmo z hn)];exact z
  refine ⟨λb ob z n _ _=>kp b ob (λw'=>by rw [w',q] at n;cases n) z,λb ob z n _ _=>⟨ob.slots,kp b ob (λw'=>by rw [w',q] at n;cases n) z⟩,λb ob z n _=>?_,λb ob z _=>?_,λb xs z=>sm b _ z (λw'=>by cases w'),λb ob u' z=>sm b _ z (λw'=>by cases w'),λb ps z=>⟨#[],by rw [sm b _ z (λw'=>by cases w')];simp⟩⟩
  ·rw [Jmm (λw'=>by rw [w',q] at n;cases n),Jmm (nb b ob z)];exact n
  ·by_cases w':b=e
   ·exact ⟨_,by rw [w'];exact ke⟩
   ·exact ⟨ob,kp b ob w' z⟩
 refine I.un un1 λb ob z=>?_
 by_cases w1:b=e
 ·subst w1
  rw [Sv] at z;cases z
  exact Ydq ke hc rfl hf h0 h1
 ·rw [Jmm w1] at z
  by_cases w2:b=s.heap.objs.size
  ·subst w2
   rw [Sv] at z;cases z
   exact qd _
  ·rw [Jmm w2] at z
   have keep:∀c' u',H c'=some u'->u'≠XO e C none fr->upd (upd H s.heap.objs.size (XD s.heap.objs.size [(f,y)])) e (XO e C (some s.heap.objs.size) fr) c'=some u':=λc' u' zz d=>by
    rw [Jmm (λw':c'=e=>d (by rw [w',q] at zz;exact (yw.inj zz).symm)),Jmm (Jmo zz hn)];exact zz
   refine (I.hok b ob z).stay (λc' v' hc' zz=>kp c' v' ?_ zz) (λc' zz=>keep c' _ zz (λw'=>by cases w')) (λc' xs zz=>keep c' _ zz (λw'=>by cases w')) λc' xs zz=>keep c' _ zz (λw'=>by cases w')
   rcases hc' with rfl|hc'
   ·exact w1
   ·rintro rfl;rw [q] at hc';cases hc'
theorem Su.xmade (I:Su X pins σ H s):Su X pins σ (upd H (s.heap.objs.size+1) (XO (s.heap.objs.size+1) C none true)) {s with heap:=(s.heap.push (Sjm us)).push (Sjl C s.heap.objs.size)}:=by
 refine (I.kept (t':=s.toks) λb u q=>yn _ q).laid (λb u q=>yn _ q) (ybr (yaa _ _)) ?_
 exact Ydq (Heap.get?_push_at (by simp only [yaa]) rfl) rfl rfl rfl ⟨_,rfl⟩ ⟨_,rfl,λ_=>rfl⟩
end
inductive Yf6 (K:Si) (f:Str) (Q:VK) (x:V) (H1:Hp):Prop where
 |mk (e:_) (C:_) (W:_) (fI:_) (dx:_) (fs:_) (v:_) (fr:_) (_:x= .ref e) (_:H1 e=some (XO e C (some dx) fr)) (_:H1 dx=some (XD dx fs)) (_:Sai K C W fI) (_:NoAttr K C f) (_:fs.lookup f=some v) (_:Q v H1)
def Sqx (K:Si) (ta:TE) (f:Str):TE:=λσ H Q=>ta σ H (Yf6 K f Q)
def Sqh (K:Si) (ta tv:TE) (f:Str):TS:=λD σ H=>tv σ H λy H1=>ta σ H1 λx H2=>∃e C W fI fr,x= .ref e/\H2 e=some (XO e C none fr)/\Sai K C W fI/\NoAttr K C f/\∀dx,H2 dx=none->dx≠e->
 D.nx σ (upd (upd H2 dx (XD dx [(f,y)])) e (XO e C (some dx) fr))
def Sqv (C:S5) (sp:Sp) (t:TA):TE:=λσ H Q=>t σ H λvs H1=>vs.length<=1000/\∀e,H1 e=none->sp (.ref e::vs) (upd H1 e (XO e C none true)) (λv H2=>v= .non/\Q (.ref e) H2) E0
section
variable {X:Cx} {o e value:Expr} {f:Str} {pos pos' tpos p:Pos} {ta tv:TE} {C W fI:S5} {fd:Sc} {ps:List Str} {sp:Sp} {k j:Nat} {x:Str} {es:List Expr} {t:TA}
theorem Jv0 (he:PE X e ta) (hb:attributeBase e f X.env (eval e X.env)=eval e X.env):PE X (.Attribute e f pos) (Sqx X.K ta f):=by
 intro pins s σ H Q I h
 refine Yh hb (thn (he pins s σ H _ I h) λu s1 zq=>?_)
 obtain ⟨x,H1,I1,rx,a,C,W,fI,dx,fs,v,fr,ex,q,qd,c,n,l,k⟩:=zq
 subst ex
 obtain rfl:u=Value.ref a:=rx
 exact Jz8 I1 q qd c n l λu' s2 I2 ru=>⟨v,H1,I2,ru,k⟩
theorem Jph (ha:PE X o ta) (hv:PE X value tv) (hs:swapsWith value (some (.Attribute o f pos')) pos.line X.env=pure false):PS X (.Assign [.Attribute o f pos'] value pos) (Sqh X.K ta tv f):=by
 intro pins s σ H D I h
 refine plainObj_wpAny_Assign_Attribute (thn (hv pins s σ H _ I h) λu s1 ⟨y,H1,I1,ry,q⟩=>thn (ha pins s1 σ H1 _ I1 q) λov s2 zq=>?_) hs
 obtain ⟨x,H2,I2,rx,a,C,W,fI,fr,ex,ea,c,n,q2⟩:=zq
 subst ex
 obtain rfl:ov=Value.ref a:=rx
 exact Ydr I2 ea c n ry λdx s3 h1 h2 I3=>⟨σ,_,I3,q2 dx h1 h2⟩
theorem Yel {σ:St} {H} {s} {Q} {us} {vs} (c:Sai X.K C W fI) (G:Sx X.prog X.w X.K X.mg X.base CX0 k fI fd ps sp) (hr:Sak (k+1) X.A) (hb:Sbg X.K fd ps []) (I:Su X pins σ H s) (r:Sa4 vs us) (hz:vs.length<=1000)
  (h:∀e,H e=none->sp (.ref e::vs) (upd H e (XO e C none true)) (λv H2=>v= .non/\Q (.ref e) H2) E0):Sh (model X.prog X.w) X.A (call (.ref C) us) (EP X pins σ Q) X.xe s:=by
 have hq:=h (s.heap.objs.size+1) (I.hok.fresh (Nat.le_succ _))
 have I2:=Su.xmade (C:=C) (us:=us) I
 have r2:Sa4 (V.ref (s.heap.objs.size+1)::vs) (Value.ref (s.heap.objs.size+1)::us):=.cons rfl r
 have hl:(Value.ref (s.heap.objs.size+1)::us++ []).length=ps.length:=by
  rw [yaq,<-r2.length,G.len _ _ _ _ hq]
 refine Yfd c I.kIn (by rw [<-r.length];exact yam hz (by decide)) (wpAny_call (codeAny_mono (G.run _ X.stack _ _ ⟨Value.ref (s.heap.objs.size+1)::us,[]⟩ (Value.ref (s.heap.objs.size+1)::us) _ _ E0 (hr.make C us [])
  (I2.env0.make C us []) (by have:=hb _ (Value.ref (s.heap.objs.size+1)::us) I2.kIn hl;rw [yaq] at this;exact this) r2 hq) λr s' hq'=>?_))
 cases r with
 |error e=>exact False.elim hq'
 |ok fl=>
  cases fl with
  |ret u=>
   obtain ⟨v,H',I3,rv,ev,q3⟩:=I2.after hq'
   subst ev
   exact ⟨rv,⟨V.ref (s.heap.objs.size+1),H',I3,rfl,q3⟩⟩
  |next=>exact False.elim hq'
  |brk=>exact False.elim hq'
  |cont=>exact False.elim hq'
theorem Jo4 (c:Sai X.K C W fI) (G:Sx X.prog X.w X.K X.mg X.base CX0 k fI fd ps sp) (hr:Sak j X.A) (hk:k+1<=j) (hb:Sbg X.K fd ps []) (hm:X.mg x=some (.ref C)) (ha:PA X (e::es) t) (hg:Gl X x:=by rfl)
  (hdb:(x==("__debug__" :Str))=false:=by decide) (he:starEach (e::es) X.env=(false,eval e X.env)::starEach es X.env:=by rfl) (hpl:(backTo pos (starEach es X.env)).any (·.1)=false:=by rfl):
  PE X (.Call (.Name x p) (e::es) [] pos) (Sqv C sp t):=by
 intro pins s σ H Q I h
 exact wpAny_Call_Name_kw (Jqu I hg hm (PySem.W.callWith_K I.ok.mod.kin c.kp (thn (ha pos pins s σ H _ I h) λus s1 ⟨vs,H1,I1,r,z,q⟩=>⟨I1.kIn,Yel c G (hr.mono hk) hb I1 r z q⟩) he hpl) hdb)
end
section
variable {K:Si} {C W fI:S5} {x:S5}
theorem Svd (c:Sai K C W fI):PySem.W.KitX K (.ref x) (.ref C) (λh=>∃ox od,PySem.W.InstAt h x ox C (some od)) where
 ty:=λ_ _ _ ⟨_,_,I⟩=>I.type
 it:=λ_ _ X _=>by
  obtain ⟨nm,q,N,bs,sn,sub,ab,col,dd,k0,k1,k2,k3,k5,l⟩:=c.obj
  intro A' Q' E' s' k q
  exact S8 (wpAny_loadPart (k _ _ (X _ _ l)) (S9 q))
 ne:=λh tp dd its n sl X htp=>by
  obtain ⟨nm,q,N,bs,sn,sub,ab,col,dd,k0,k1,k2,k3,k5,l⟩:=c.obj
  refine Bool.eq_false_iff.mpr λz=>?_
  have e:=Value.ref.inj (beq_iff_eq.mp z)
  subst e
  have z:=congrArg (Option.map (·.cls)) ((X _ _ l).symm.trans htp)
  simp at z
 ca:=λ{prog w A E Q s} X ⟨ox,od,I⟩ kq=>by
  have hf:PySem.W.findObj K C (some od) "__class__" =some (.bind (.builtin "getset_descriptor.__get__") (.builtin "object.__class__")):=PySem.W.findObj_data (by obtain ⟨cd,hc,_⟩:=c.mro;rw [hc];rfl) c.cl c.cg c.ct
  obtain ⟨hp,g,d,t,os⟩:=s
  refine S8 (wpAny_mkText (S8 (wpAny_attempt (wpAny_holding (S8 ((I.type).at (S8 ((PySem.W.looks_findIn X c.ga).at (S8 ((PySem.W.looks_findIn X c.gh).at ?_))))))))))
  show Sh _ _ ((holding _ (boundAndCalled (.builtin "BaseException.__getattribute__") (.ref x) (.str "__class__" t))).attempt >>=_) _ _ _
  unfold boundAndCalled
  rw [F.excAttr_ValueError.ga.bind]
  exact S8 (wpAny_attempt (wpAny_holding (S8 (S9 (wpAny_call (Yaf c X I hf (S8 (wpAny_holding (wpAny_call (PySem.W.class_get X I c.mo (S9 (S9 (S9 kq))))))) (λz=>nomatch z)))))))
end
section
variable {M:Model} {A:Se} {E:S6->S7->Prop} {s:S7} {env:Env} {outer:List Env} {base:Sg} {L e T:S5} {oe oT:Obj} {vs ts:Array S6} {Q:Unit->S7->Prop}
theorem Jx3 {hadNext} (hfr:A.frames=some (env::outer)) (hl:s.heap.FunFrames base (env::outer)) (hf:env.frame=some L) (he:s.heap.get? e=some oe) (hd:oe.data= .fields vs) (hz:1 < vs.size)
  (hQ:∀h' T,(∀b o,s.heap.get? b=some o->b∉frs (env::outer)->b≠e->h'.get? b=some o)->(∀b o,s.heap.get? b=some o->b≠e->∃sl,h'.get? b=some {o with slots:=sl})->s.heap.objs.size<=T->
   h'.get? e=some (oe.mapFields (·.setIfInBounds 1 (.ref T)))->(∃oT ts,h'.get? T=some oT/\oT.data= .fields ts/\ts[3]?=some (rawInt L))->Q () {s with heap:=h'}):
  Sh M A (do let a<-frameOf env;let pl<-entryPlaceOf L hadNext;let b<-EntryCells.newEntry head a .none (rawInt L) .none pl;setField (.ref e) 1 b) Q E s:=by
 have hen:e∉frs (env::outer):=λz=>by
  obtain ⟨_,o,ho,nf⟩:=hl.mem z
  rw [he] at ho
  cases ho
  exact nf vs hd
 refine S8 (wpAny_frameOf_fun hfr hl hf λh1 sl1=>S8 (wpAny_entryPlaceOf λpl hpl=>?_))
 unfold EntryCells.newEntry newFields
 have he1:=(sl1.2.1 e hen).trans he
 refine S8 (wpAny_newObj_type (wpAny_setField (yn _ he1) hd hz (hQ _ h1.objs.size (λb o hb hn ne=>?_) (λb o hb ne=>?_) (ybr sl1.1.symm) (ybt _ (yn _ he1) (Obj.isFreed_of_fields (Obj.data_mapFields hd _))) ?_)) (hpl.sizeOk5 _ _ _ _ _))
 ·rw [ybk _ _ (yg ne)]
  exact yn _ ((sl1.2.1 b hn).trans hb)
 ·obtain ⟨sl,q⟩:=sl1.2.2 b o hb
  exact ⟨sl,by rw [ybk _ _ (yg ne)];exact yn _ q⟩
 ·refine ⟨_,_,(ybk _ _ (yg (yaw (yi he1)))).trans (yq h1 rfl),rfl,?_⟩
  first|(simp;done)|(rcases hpl with rfl|⟨_,_,_,_,_,_,_,rfl⟩ <;> simp)
theorem Jzp (hfr:A.frames=some (env::outer)) (hl:s.heap.FunFrames base (env::outer)) (hf:env.frame=some L) (he:s.heap.get? e=some oe) (hd:oe.data= .fields vs) (h1:vs[1]?=some .none)
  (hQ:∀h' T,(∀b o,s.heap.get? b=some o->b∉frs (env::outer)->b≠e->h'.get? b=some o)->(∀b o,s.heap.get? b=some o->b≠e->∃sl,h'.get? b=some {o with slots:=sl})->s.heap.objs.size<=T->
   h'.get? e=some (oe.mapFields (·.setIfInBounds 1 (.ref T)))->(∃oT ts,h'.get? T=some oT/\oT.data= .fields ts/\ts[3]?=some (rawInt L))->Q () {s with heap:=h'}):
  Sh M A (noteFrame (.ref e) env) Q E s:=by
 unfold noteFrame
 simp only [hf]
 exact S8 (wpAny_field he hd h1 (Jx3 hfr hl hf he hd (yby.mp h1).1 hQ))
theorem Yat (hfr:A.frames=some (env::outer)) (hl:s.heap.FunFrames base (env::outer)) (hf:env.frame=some L) (he:s.heap.get? e=some oe) (hd:oe.data= .fields vs) (h1:vs[1]?=some (.ref T))
  (hT:s.heap.get? T=some oT) (hdT:oT.data= .fields ts) (h3:ts[3]?=some .none) (ne:T≠e)
  (hQ:∀h' T',(∀b o,s.heap.get? b=some o->b∉frs (env::outer)->b≠e->b≠T->h'.get? b=some o)->(∀b o,s.heap.get? b=some o->b≠e->b≠T->∃sl,h'.get? b=some {o with slots:=sl})->s.heap.objs.size<=T'->
   h'.get? e=some (oe.mapFields (·.setIfInBounds 1 (.ref T')))->(∃oT ts,h'.get? T'=some oT/\oT.data= .fields ts/\ts[3]?=some (rawInt L))->Q () {s with heap:=h'}):
  Sh M A (noteFrame (.ref e) env) Q E s:=by
 unfold noteFrame
 simp only [hf]
 refine S8 (wpAny_field he hd h1 (S8 (wpAny_field hT hdT h3 ?_)))
 have ot:∀b,b≠T->(s.heap.update T (Obj.mapFields (·.setIfInBounds 3 Value.none))).get? b=s.heap.get? b:=λb hb=>ybk _ _ (yg hb)
 have nr:∀b o,s.heap.get? b=some o->(∀ws,o.data≠ .fields ws)->b≠T:=λb o hb nf z=>by
  rw [z,hT] at hb
  cases hb
  exact nf ts hdT
 refine S8 (wpAny_setField hT hdT (yby.mp h3).1 ?_)
 refine Jx3 hfr (hl.of_keeps λb o hb nf=>⟨o,(ot b (nr b o hb nf)).trans hb,rfl⟩) hf ((ot e (yg ne)).trans he) hd (yby.mp h1).1 λh' T' k1 k2 k3 k4 k5=>?_
 refine hQ h' T' (λb o hb hn h1 h2=>k1 b o ((ot b h2).trans hb) hn h1) (λb o hb h1 h2=>k2 b o ((ot b h2).trans hb) h1) ?_ k4 k5
 have z:(s.heap.update T (Obj.mapFields (·.setIfInBounds 3 Value.none))).objs.size=s.heap.objs.size:=Heap.size_after_update ..
 rw [<-z];exact k3
end
def Flt (X:Cx) (pins:List (S5×Obj)) (H:Hp) (h:Sg) (e:S5) (fl:S6):Prop:=
 ∃oe vs T oT ts,h.get? e=some oe/\oe.data= .fields vs/\vs[1]?=some (.ref T)/\H T=none/\h.get? T=some oT/\oT.data= .fields ts/\ts[3]?=some fl/\X.s₀.heap.objs.size<=T/\∀p∈X.pn++pins,p.1≠T
def Yg (X:Cx):Prop:=X.stack=X.env::X.outer/\X.env.frame=some X.env.locals
section
variable {X:Cx} {pins:List (S5×Obj)} {σ:St} {H:Hp} {s:S7} {e C:S5} {od:Option S5} {fr fr':Bool} {A:Se} {M:Model} {E:S6->S7->Prop} {Q:Unit->S7->Prop} {fl:S6} {h':Sg}
theorem Su.freeOf (I:Su X pins σ H s) (hb:s.heap.get? b=some o) (hd:o.data= .fields ts):b≠X.env.locals/\∀x c,X.env.cells.lookup x=some c->c≠b:=by
 refine ⟨λz=>?_,λx c e z=>?_⟩
 ·obtain ⟨m,⟨o',es,ep,ho',hd',_⟩,_⟩:=I.loc
  rw [z,ho'] at hb;cases hb;rw [hd'] at hd;cases hd
 ·obtain ⟨v,o',ho',hd'⟩:=I.cell x c e
  rw [z,hb] at ho';cases ho';rw [hd] at hd';cases hd'
theorem Su.fly {ch:List S5} (I:Su X pins σ H s) (q:H e=some (XO e C od fr)) (hch:∀b∈ch,X.s₀.heap.objs.size<=b/\H b=none/\(∃o ts,s.heap.get? b=some o/\o.data= .fields ts)/\∀p∈X.pn++pins,p.1≠b)
  (k:∀b o,s.heap.get? b=some o->b∉frs X.stack->b≠e->b∉ch->h'.get? b=some o) (ks:∀b o,s.heap.get? b=some o->b≠e->b∉ch->∃sl,h'.get? b=some {o with slots:=sl})
  (new:Sav X.prog X.w (upd H e (XO e C od fr')) h' e (XO e C od fr')):Su X pins σ (upd H e (XO e C od fr')) {s with heap:=h'}:=by
 have ne:∀b u,H b=some u->u≠XO e C od fr->b≠e:=λb u z d w'=>d (by rw [w',q] at z;exact (yw.inj z).symm)
 have nn:∀b,H b=none->b≠e:=λb z w'=>by rw [w',q] at z;cases z
 have u:Un (frs X.stack) ch H (upd H e (XO e C od fr')) s.heap h':=by
  refine ⟨λb o hb n hs hc=>k b o hb hs (nn b n) hc,λb o hb n _ hc=>ks b o hb (nn b n) hc,λb o _ n _=>by rw [Jmm (nn b n)];exact n,λb o hb hc=>?_,λb xs z=>?_,λb o u z=>?_,λb ps z=>⟨#[],?_⟩⟩
  ·by_cases w':b=e
   ·rw [w'];exact new.2.1
   ·obtain ⟨sl,z⟩:=ks b o hb w' hc
    exact ⟨_,z⟩
  ·rw [Jmm (ne b _ z (λw'=>by cases w'))];exact z
  ·rw [Jmm (ne b _ z (λw'=>by cases w'))];exact z
  ·rw [Jmm (ne b _ z (λw'=>by cases w')),z];simp
 refine I.call u (λb o z=>?_) I.bare λb hb=>?_
 ·by_cases w':b=e
  ·subst w'
   rw [Sv] at z;cases z
   exact new
  ·rw [Jmm w'] at z
   refine (I.hok b o z).stay (λc v hc zz=>k c v zz ?_ ?_ ?_) (λc zz=>by rw [Jmm (ne c _ zz (λw'=>by cases w'))];exact zz) (λc xs zz=>by rw [Jmm (ne c _ zz (λw'=>by cases w'))];exact zz) λc xs zz=>by rw [Jmm (ne c _ zz (λw'=>by cases w'))];exact zz
   ·intro hs
    have:=I.stkFree c hs
    rcases hc with rfl|hc
    ·rw [this] at z;cases z
    ·rw [this] at hc;cases hc
   ·rcases hc with rfl|hc
    ·exact w'
    ·exact ne c _ hc (λw'=>by cases w')
   ·intro hb
    have:=(hch c hb).2.1
    rcases hc with rfl|hc
    ·rw [this] at z;cases z
    ·rw [this] at hc;cases hc
 ·obtain ⟨h1,_,⟨o,ts,ho,hd⟩,h4⟩:=hch b hb
  exact ⟨.inr h1,(I.freeOf ho hd).1,(I.freeOf ho hd).2,h4⟩
theorem Yw (I:Su X pins σ H s) (hs:Yg X) (hA:A.frames=some X.stack) (q:H e=some (XO e C od fr)) (hfl:fr=true\/Flt X pins H s.heap e .none)
  (h:∀s',Su X pins σ (upd H e (XO e C od false)) s'->Flt X pins (upd H e (XO e C od false)) s'.heap e (rawInt X.env.locals)->Q () s'):Sh M A (noteFrame (.ref e) X.env) Q E s:=by
 obtain ⟨o,vs,he,hc,hd,hf,⟨t0,h0⟩,y,h1,hy⟩:=Jw8 I.hok q
 have hA':A.frames=some (X.env::X.outer):=by rw [hA,hs.1]
 have FF:s.heap.FunFrames X.base (X.env::X.outer):=by rw [<-hs.1];exact I.stack
 have sub:∀b,b∉frs X.stack->b∉frs (X.env::X.outer):=λb z w'=>z (by rw [hs.1];exact w')
 have new:∀{h':Sg} {T:S5},h'.get? e=some (o.mapFields (·.setIfInBounds 1 (.ref T)))->Sav X.prog X.w (upd H e (XO e C od false)) h' e (XO e C od false):=λ{h' T} z=>by
  refine Ydq z ((Obj.cls_mapFields _ _).trans hc) ?_ (Obj.data_mapFields hf _) ⟨t0,by rw [Array.getElem?_setIfInBounds_ne (by decide)];exact h0⟩ ⟨.ref T,by simp [((yby.mp h1).1)],λz=>nomatch z⟩
  obtain ⟨_,_,dt,_⟩:=o
  cases dt <;> first|exact hd|cases hf
 have fin:∀{h':Sg} {T:S5},Su X pins σ (upd H e (XO e C od false)) {s with heap:=h'}->s.heap.objs.size<=T->h'.get? e=some (o.mapFields (·.setIfInBounds 1 (.ref T)))->(∃oT ts,h'.get? T=some oT/\oT.data= .fields ts/\ts[3]?=some (rawInt X.env.locals))->Q () {s with heap:=h'}:=λ{h' T} J k3 k4 ⟨oT,ts,k5,k6,k7⟩=>by
  refine h _ J ⟨_,_,T,oT,ts,k4,Obj.data_mapFields hf _,by simp [((yby.mp h1).1)],?_,k5,k6,k7,yam I.sz k3,λp hp z=>?_⟩
  ·rw [Jmm (λz=>absurd (yi he) (by rw [<-z];exact ybf.mpr k3))]
   exact I.hok.fresh k3
  ·obtain ⟨z1,_⟩:=I.pin p hp
   exact absurd (yi z1) (by rw [z];exact ybf.mpr k3)
 by_cases hfr:y= .none
 ·subst hfr
  refine Jzp hA' FF hs.2 he hf h1 λh' T k1 k2 k3 k4 k5=>fin (I.fly (ch:=[]) q (λb z=>absurd z (by simp)) (λb o hb hn ne _=>k1 b o hb (sub b hn) ne) (λb o hb ne _=>k2 b o hb ne) (new k4)) k3 k4 k5
 ·rcases hfl with z|⟨oe,ws,T,oT,ts,z1,z2,z3,z4,z5,z6,z7,z8,z9⟩
  ·exact absurd (hy z) hfr
  ·rw [he] at z1;cases z1
   rw [hf] at z2;cases z2
   have ne:T≠e:=λw'=>by rw [w',q] at z4;cases z4
   refine Yat hA' FF hs.2 he hf z3 z5 z6 z7 ne λh' T' k1 k2 k3 k4 k5=>fin (I.fly (ch:=[T]) q (λb hb=>?_) (λb o hb hn ne hc=>k1 b o hb (sub b hn) ne (by simpa using hc)) (λb o hb ne hc=>k2 b o hb ne (by simpa using hc)) (new k4)) k3 k4 k5
   obtain rfl:b=T:=by simpa using hb
   exact ⟨z8,z4,⟨oT,ts,z5,z6⟩,z9⟩
theorem Jtq (I:Su X pins σ H s) (q:H e=some (XO e C od fr)) (hfl:Flt X pins H s.heap e fl) (h:∀s',Su X pins σ H s'->Flt X pins H s'.heap e .none->Q () s'):Sh M A (setFlight (.ref e) none) Q E s:=by
 obtain ⟨oe,vs,T,oT,ts,z1,z2,z3,z4,z5,z6,z7,z8,z9⟩:=hfl
 have hz:=(yby.mp z7).1
 have ne:T≠e:=λw'=>by rw [w',q] at z4;cases z4
 have ot:∀b,b≠T->(s.heap.update T (Obj.mapFields (·.setIfInBounds 3 Value.none))).get? b=s.heap.get? b:=λb hb=>ybk _ _ (yg hb)
 exact wpAny_setFlight_none z1 z2 z3 z5 z6 hz (h _ (I.turned (λb o hb z=>(ot b hb).trans z) z4 (I.freeOf z5 z6).1 (.inr z8) (I.freeOf z5 z6).2 z9) ⟨oe,vs,T,_,_,(ot e (yg ne)).trans z1,z2,z3,z4,ybt _ z5 (Obj.isFreed_of_fields (Obj.data_mapFields z6 _)),Obj.data_mapFields z6 _,by simp [hz],z8,z9⟩)
end
def CXX (P:Sb) (w:Sd):CXT:=λouter H s E ev s'=>∃e C dx H',ev= .ref e/\s'.os=s.os/\AllBare s'.gens/\Un (frs outer) [] H H' s.heap s'.heap/\HOk P w H' s'.heap/\H' e=some (XO e C (some dx) false)/\
 (∃oe vs T oT ts,s'.heap.get? e=some oe/\oe.data= .fields vs/\vs[1]?=some (.ref T)/\H' T=none/\s'.heap.get? T=some oT/\oT.data= .fields ts/\ts[3]?=some .none/\s.heap.objs.size<=T)/\E (.ref C) (some e) H'
def Jv5 (X:Cx) (R:St->XK):Prop:=∀pins σ H s e C dx fr,Su X pins σ H s->H e=some (XO e C (some dx) fr)->(fr=true\/Flt X pins H s.heap e .none)->R σ (.ref C) (some e) (upd H e (XO e C (some dx) false))->X.xe (.ref e) s
theorem Jnn {K}:
  Jv5 (Juk (CXX P w) P w K mg base N qual scope f cd A outer s H E) (λ_=>E):=by
 intro pins σ H1 s1 e C dx fr I q hfl hE
 refine S8 (Yw I ⟨rfl,rfl⟩ I.ok.frames q hfl λs2 I2 f2=>Jtq I2 Sv f2 λs3 I3 f3=>?_)
 obtain ⟨oe,vs,T,oT,ts,z1,z2,z3,z4,z5,z6,z7,z8,_⟩:=f3
 exact ⟨e,C,dx,_,rfl,I3.os,I3.bare,I3.base,I3.hok,Sv,⟨oe,vs,T,oT,ts,z1,z2,z3,z4,z5,z6,z7,z8⟩,hE⟩
theorem Sny {o} (h:H a=some o):upd H a o=H:=by
 funext b
 unfold upd
 split
 ·rename_i z;rw [z,h]
 ·rfl
section
variable {X:Cx} {pins:List (S5×Obj)} {σ:St} {H:Hp} {s s':S7} {R:St->XK} {ev:S6}
theorem Yfe (hw:Jv5 X R) (I:Su X pins σ H s) (h:CXX X.prog X.w X.stack H s (R σ) ev s'):X.xe ev s':=by
 obtain ⟨e,C,dx,H',rfl,ho,hg,un,hok,q,⟨oe,vs,T,oT,ts,z1,z2,z3,z4,z5,z6,z7,z8⟩,hR⟩:=h
 refine hw pins σ H' s' e C dx false (I.call' ho un hok hg λb z=>absurd z (by simp)) q (.inr ⟨oe,vs,T,oT,ts,z1,z2,z3,z4,z5,z6,z7,yam I.sz z8,λp hp z=>?_⟩) (by rw [Sny q];exact hR)
 obtain ⟨y1,_⟩:=I.pin p hp
 exact absurd (yi y1) (by rw [z];exact ybf.mpr z8)
end
theorem Sx.calm {K} (G:Sx P w K mg base (CXX P w) k f fd ps sp):Sx P w K mg base CX0 k f fd ps (λvs H Q _=>sp vs H Q E0):=
 ⟨λvs H Q _ h=>G.len vs H Q E0 h,λA outer s H args us vs Q E hr he hb hv hs=>codeAny_mono (G.run A outer s H args us vs Q E0 hr he hb hv hs) λr s' hq=>by
  cases r with
  |error e=>obtain ⟨_,_,_,_,_,_,_,_,_,_,_,z⟩:=hq;exact z.elim
  |ok fl=>cases fl <;> exact hq⟩
theorem Fun.okX {K} {st} (F:Fun K x qual st f fd) (S:Jmp N ps (Jml st)) (len:∀vs H Q E,sp vs H Q E->vs.length=ps.length)
  (hbody:∀cdv A outer s H vs Q E,Sak k (A.deeper (envOfC qual (Jml st) s.heap.objs.size f cdv))->sp vs H Q E->
   ∃t,PSs (Juk (CXX P w) P w K mg base N qual (Jml st) f cdv A outer s H E) (Jno st) t/\t {nx:=λ_ H'=>Q .non H',rt:=Q} (start N vs) H):Sx P w K mg base (CXX P w) (k+1) f fd ps sp:=by
 obtain ⟨oc,od,kV,doc,pm,an,cdv,ct,osl,rfl,lk,hcd⟩:=F.ex
 exact Skh lk hcd S len λA outer s H vs Q E hr hsp=>hbody cdv A outer s H vs Q E hr hsp
def Snj (sp:Sp) (R:St->XK) (t:TA):TE:=λσ H Q=>t σ H λvs H1=>sp vs H1 Q (R σ)
section
variable {X:Cx} {k j:Nat} {f C:S5} {fd:Sc} {ps:List Str} {sp:Sp} {R:St->XK} {x m:Str} {p pos apos:Pos} {e o:Expr} {es:List Expr} {ta:TE} {t:TA}
theorem Yem (G:Sx X.prog X.w X.K X.mg X.base (CXX X.prog X.w) k f fd ps sp) (hw:Jv5 X R) (hr:Sak k X.A) (hb:Sbg X.K fd ps [])
  (I:Su X pins σ H s) (r:Sa4 vs us) (h:sp vs H Q (R σ)):Sh (model X.prog X.w) X.A (call (.ref f) us) (EP X pins σ Q) X.xe s:=by
 have hl:(us++ []).length=ps.length:=by rw [yaq,<-r.length,G.len _ _ _ _ h]
 have hb':=hb s us I.kIn hl
 rw [yaq] at hb'
 refine wpAny_call (codeAny_mono (G.run X.A X.stack s H ⟨us,[]⟩ us vs Q (R σ) hr I.env0 hb' r h) λr s' hq=>?_)
 cases r with
 |error e=>exact Yfe hw I hq
 |ok fl=>
  cases fl with
  |ret u=>exact I.after hq
  |next=>exact False.elim hq
  |brk=>exact False.elim hq
  |cont=>exact False.elim hq
theorem Joj {st} (F:FT X.K X.mg x st ps f fd) (G:Sx X.prog X.w X.K X.mg X.base (CXX X.prog X.w) k f fd ps sp) (hw:Jv5 X R) (hr:Sak j X.A) (hk:k<=j) (ha:PA X (e::es) t) (hg:Gl X x:=by rfl)
  (hdb:(x==("__debug__" :Str))=false:=by decide) (he:starEach (e::es) X.env=(false,eval e X.env)::starEach es X.env:=by rfl) (hpl:(backTo pos (starEach es X.env)).any (·.1)=false:=by rfl):
  PE X (.Call (.Name x p) (e::es) [] pos) (Snj sp R t):=by
 intro pins s σ H Q I h
 exact wpAny_Call_Name_kw (Jqu I hg F.mgx (PySem.W.callWith_K I.ok.mod.kin F.fn.kp (thn (ha pos pins s σ H _ I h) λus s1 ⟨vs,H1,I1,r,q⟩=>⟨I1.kIn,Yem G hw (hr.mono hk) F.bd I1 r q⟩) he hpl) hdb)
end
def Ycr (K:Si) (R:St->XK) (te:TE):TS:=λ_ σ H=>te σ H λv H1=>∃e C W fI dx,v= .ref e/\H1 e=some (XO e C (some dx) true)/\Sai K C W fI/\R σ (.ref C) (some e) (upd H1 e (XO e C (some dx) false))
section
variable {X:Cx} {R:St->XK} {x:Expr} {pos:Pos} {te:TE}
theorem Jnl (hw:Jv5 X R) (hc:X.calm=true) (hx:PE X x te):PS X (.Raise (some x) none pos) (Ycr X.K R te):=by
 intro pins s σ H D I h
 refine S8 (wpAny_standAt (S8 (S8 (thn (hx pins s σ H _ I h) λu s1 ⟨y,H1,I1,ry,e,C,W,fI,dx,ey,q,c,k⟩=>S8 (wpAny_standAt (S9 ?_))))))
 subst ey
 obtain rfl:u=Value.ref e:=ry
 obtain ⟨o,vs,he,hcl,hd,hf,h0,y,h1,hy⟩:=Jw8 I1.hok q
 obtain ⟨nm,qn,N,bs,sn,sub,ab,col,dd,k0,k1,k2,k3,k5,l⟩:=c.obj
 have kC:=I1.kIn _ _ l
 have hcB:(Value.ref C:: .ref W::VEm).contains (.type "BaseException")=true:=by simp
 obtain ⟨oc,odi,oda,osl⟩:=o
 subst hcl hd hf
 repeat (first|with_reducible refine wpAny_loadPart_at he ?_|with_reducible refine wpAny_loadPart_at kC ?_|(with_reducible refine wpAny_isSubtype_exc kC ?_;rw [hcB])|with_reducible refine wpAny_field he rfl h1 ?_|wp_step)
 exact wpAny_raiseNew_none (I.ok.hd hc) (hw pins σ H1 s1 e C dx true I1 q (.inl rfl) k)
end
structure Jz9 (K:Si) (C:S5):Prop where
 obj:∃(dd:Option S5) (cd:ClassData) (sl:Array (Option S6)),K.lookup C=some ⟨.type "type",dd,.cls cd,sl⟩
 mb:Sl K C (.type "BaseException")=some true
section
variable {prog:Sb} {w:Sd} {A:Se} {E:S6->S7->Prop} {s:S7} {K:Si} {e C C0:S5} {oe:Obj} {b:Bool}
theorem Jzn (X:K.In s.heap) (c0:Jz9 K C0) (he:s.heap.get? e=some oe) (hc:oe.cls= .ref C) (hm:Sl K C (.ref C0)=some b) (q:Q b s):Sh (model prog w) A (excMatches (.ref e) (.ref C0)) Q E s:=by
 obtain ⟨dd,cd,sl,l⟩:=c0.obj
 have k0:=X _ _ l
 have f0:=tc_notTuple
 obtain ⟨oc,odi,oda,osl⟩:=oe
 subst hc
 repeat (first|with_reducible refine wpAny_loadPart_at he ?_|with_reducible refine wpAny_loadPart_at k0 ?_|with_reducible refine (PySem.W.looks_mroIn X c0.mb).at ?_|with_reducible refine (PySem.W.looks_mroIn X hm).at ?_|wp_step)
 cases b <;> (repeat wp_step) <;> exact q
end
def Cx.caught (X:Cx) (e:S5):Cx:={X with A:=X.A.mark (some (.ref e)),calm:=false,xe:=λ_ _=>False}
def Cx.tried (X:Cx) (pins:List (S5×Obj)) (R:St->XK):Cx:=
 {X with pn:=X.pn++pins,xe:=λev s'=>∃σ H e C dx fr,ev= .ref e/\Su X pins σ H s'/\H e=some (XO e C (some dx) fr)/\(fr=true\/Flt X pins H s'.heap e .none)/\R σ (.ref C) (some e) (upd H e (XO e C (some dx) false))}
section
variable {X:Cx} {pins pins':List (S5×Obj)} {σ:St} {H:Hp} {s:S7} {R:St->XK} {e:S5}
theorem Su.caught (I:Su X pins σ H s) (e):Su (X.caught e) pins σ H s:=
 ⟨⟨I.ok.mod,I.ok.kind,I.ok.glob,I.ok.blt,I.ok.above,I.ok.inj,I.ok.has,I.ok.cab,(λz=>nomatch z),I.ok.frames,I.ok.stk,I.ok.exf,I.ok.bs,I.ok.bsz,I.ok.noex,I.ok.exfs,I.ok.funs,I.ok.frf⟩,I.os,I.bare,I.base,I.loc,I.cell,I.free,I.freeC,I.pin,I.hok,I.len⟩
theorem Su.uncaught (ok:X.Ok) (I:Su (X.caught e) pins σ H s):Su X pins σ H s:=⟨ok,I.os,I.bare,I.base,I.loc,I.cell,I.free,I.freeC,I.pin,I.hok,I.len⟩
theorem Su.tried (I:Su X pins σ H s) (R):Su (X.tried pins R) [] σ H s:=
 ⟨⟨I.ok.mod,I.ok.kind,I.ok.glob,I.ok.blt,I.ok.above,I.ok.inj,I.ok.has,I.ok.cab,I.ok.hd,I.ok.frames,I.ok.stk,I.ok.exf,I.ok.bs,I.ok.bsz,I.ok.noex,I.ok.exfs,I.ok.funs,I.ok.frf⟩,I.os,I.bare,I.base,I.loc,I.cell,I.free,I.freeC,(λp hp=>I.pin p (by rw [yaq] at hp;exact hp)),I.hok,I.len⟩
theorem Su.untried (I:Su (X.tried pins R) pins' σ H s):Su X pins σ H s:=
 ⟨⟨I.ok.mod,I.ok.kind,I.ok.glob,I.ok.blt,I.ok.above,I.ok.inj,I.ok.has,I.ok.cab,I.ok.hd,I.ok.frames,I.ok.stk,I.ok.exf,I.ok.bs,I.ok.bsz,I.ok.noex,I.ok.exfs,I.ok.funs,I.ok.frf⟩,I.os,I.bare,I.base,I.loc,I.cell,I.free,I.freeC,(λp hp=>I.pin p (List.mem_append_left _ hp)),I.hok,I.len⟩
theorem So5:Jv5 (X.tried pins R) R:=λpins' σ H s e C dx fr I q hfl hR=>⟨σ,H,e,C,dx,fr,rfl,I.untried,q,hfl.imp id λ⟨oe,vs,T,oT,ts,z1,z2,z3,z4,z5,z6,z7,z8,z9⟩=>⟨oe,vs,T,oT,ts,z1,z2,z3,z4,z5,z6,z7,z8,λp hp=>z9 p (List.mem_append_left _ hp)⟩,hR⟩
theorem SP.map (hI:∀σ H,Su X pl σ H s'->Su Y pm σ H s') (h:SP X pl D f s'):SP Y pm D f s':=by
 cases f with
 |next=>obtain ⟨σ',H',I,q⟩:=h;exact ⟨σ',H',hI _ _ I,q⟩
 |brk=>obtain ⟨σ',H',I,q⟩:=h;exact ⟨σ',H',hI _ _ I,q⟩
 |cont=>obtain ⟨σ',H',I,q⟩:=h;exact ⟨σ',H',hI _ _ I,q⟩
 |ret u=>obtain ⟨v,σ',H',I,r,q⟩:=h;exact ⟨v,σ',H',hI _ _ I,r,q⟩
theorem Ybg {i} {n} {pos} {Q} (I:Su X pins σ H s) (hN:X.N.Nodup) (hi:X.N[i]?=some n) (hk:X.env.scope.names.lookup n=some .local)
  (h:∀s',Su X pins (σ.set i none) H s'->Q () s'):Sh M A (do bindName X.env n .none;unbindBehindTheSuite X.env n pos) Q E s:=by
 obtain ⟨m,hn,hl⟩:=id I.loc
 have hcls:(X.env.scope.kind== .class||(X.env.scope.kind== .module&&X.env.locals !=X.env.globals))=false:=by rw [I.ok.kind];rfl
 have cne:=I.cne
 refine wpAny_nameGoes_keeps hk hn hcls λh' v hn' sb=>h _ ?_
 have lo:∀b o,X.s₀.heap.get? b=some o->b≠X.env.locals:=λb o z=>yr (yab (yi z) I.ok.above)
 refine ⟨I.ok,I.os,I.bare,⟨λb o z n hb hx=>(sb.2 b (lo b o z)).trans (I.base.keep b o z n hb hx),λb o z n hb hx=>?_,I.base.free,λb o z hx=>?_,I.base.tups,I.base.frzs,I.base.tbls⟩,⟨_,hn',λj y v' e1 e2 e3=>?_⟩,λy c z=>?_,I.free,I.freeC,λp hp=>?_,λb ob z=>?_,by simpa using I.len⟩
 ·obtain ⟨sl,z1⟩:=I.base.slot b o z n hb hx
  exact ⟨sl,(sb.2 b (lo b o z)).trans z1⟩
 ·obtain ⟨o',z1⟩:=I.base.there b o z hx
  exact ⟨o',(sb.2 b (lo b o z)).trans z1⟩
 ·have hj:j≠i:=λz=>by
   subst z
   have:j < σ.length:=by rw [I.len];exact (yo.mp hi).1
   rw [List.getElem?_set_self this] at e2
   cases e2
  rw [List.getElem?_set_ne (yg hj)] at e2
  obtain ⟨u',r',q⟩:=hl j y v' e1 e2 e3
  refine ⟨u',r',?_⟩
  rcases q with ⟨k,z⟩|⟨k,c,z,zz⟩
  ·refine .inl ⟨k,?_⟩
   have:y≠n:=λz=>hj (Jvo hN e1 (z▸hi))
   show (if y=n then v else m y)=some u'
   rw [if_neg this];exact z
  ·exact .inr ⟨k,c,z,zz.sameBut sb (cne y c z)⟩
 ·obtain ⟨w',zz⟩:=I.cell y c z
  exact ⟨w',zz.sameBut sb (cne y c z)⟩
 ·obtain ⟨z,n,ne,nf,d⟩:=I.pin p hp
  exact ⟨(sb.2 p.1 ne).trans z,n,ne,nf,d⟩
 ·refine (I.hok b ob z).stay (λc w' hc q=>(sb.2 c ?_).trans q) (λ_ q=>q) (λ_ _ q=>q) λ_ _ q=>q
  rintro rfl
  rcases hc with rfl|hc
  ·rw [I.free] at z;cases z
  ·rw [I.free] at hc;cases hc
end
abbrev TH:=Sch->St->S6->Option S5->Hp->Prop
def PH (X:Cx) (hs:List ExceptHandler) (th:TH):Prop:=
 ∀(pins:List (S5×Obj)) (s:S7) (σ:St) (H:Hp) (D:Sch) (e C dx:S5),Su X pins σ H s->H e=some (XO e C (some dx) false)->Flt X pins H s.heap e .none->th D σ (.ref C) (some e) H->
  Sh (model X.prog X.w) X.A (handleBy (.ref e) X.env hs) (SP X pins D) X.xe s
def Sug:TH:=λ_ _ _ _ _=>False
theorem Smr:PH X [] Sug:=λ_ _ _ _ _ _ _ _ _ _ _ h=>h.elim
def Sch.less (D:Sch) (i:Nat):Sch:=⟨λσ H=>D.nx (σ.set i none) H,D.rt,λσ H=>D.bk (σ.set i none) H,λσ H=>D.ct (σ.set i none) H⟩
def hAs (K:Si) (C0:S5) (i:Nat) (ts:S5->TS) (th:TH):TH:=λD σ c eo H=>∃e C b,c= .ref C/\eo=some e/\Sl K C (.ref C0)=some b/\if b=true then ts e (D.less i) (σ.set i (some (.ref e))) H else th D σ c eo H
section
variable {X:Cx} {x n:Str} {np pos:Pos} {C0:S5} {i:Nat} {b₀:Sf} {suite:List Sf} {rest:List ExceptHandler} {ts:S5->TS} {th:TH}
theorem Ya1 (c0:Jz9 X.K C0) (hm:X.mg x=some (.ref C0)) (hN:X.N.Nodup) (hi:X.N[i]?=some n) (hl:X.env.scope.names.lookup n=some .local) (hsu:∀e,PSs (X.caught e) (b₀::suite) (ts e)) (hr:PH X rest th) (hg:Gl X x:=by rfl)
  (hdb:(x==("__debug__" :Str))=false:=by decide):PH X (.ExceptHandler (some (.Name x np)) (some n) (b₀::suite) pos::rest) (hAs X.K C0 i ts th):=by
 rintro pins s σ H D e C dx I q hfl ⟨e',C',b,hC,he,hmr,h⟩
 cases hC
 cases he
 obtain ⟨o,vs,go,gc,_⟩:=Jw8 I.hok q
 refine wpAny_handleBy_cons (codeAny_handlers_test (Jqu (I.caught e) hg hm (Jzn I.kIn c0 go gc hmr ?_) hdb)) (λz=>by cases z)
 cases b with
 |false=>exact hr pins s σ H D e C dx I q hfl h
 |true=>
  refine codeAny_handlers_suite_as (Jtq I q hfl λs1 I1 f1=>Jtb (v:=.ref e) I1 hN hi (.inl hl) rfl (λs2 I2=>wpAny_mono (hsu e pins s2 _ H (D.less i) (I2.caught e) h) (λf s3 hf=>?_) λ_ _ z=>False.elim z) (.inr hl))
  have go:∀{f:Flow} {σ':St} {H':Hp},Su (X.caught e) pins σ' H' s3->(∀s',Su X pins (σ'.set i none) H' s'->SP X pins D f s')->Sh (model X.prog X.w) X.A (do bindName X.env n .none;unbindBehindTheSuite X.env n pos) (λ_ s'=>SP X pins D f s') X.xe s3:=
   λ{f σ' H'} I3 k=>Ybg (Su.uncaught I.ok I3) hN hi hl k
  cases f with
  |next=>obtain ⟨σ',H',I3,k⟩:=hf;exact go I3 λs' I'=>⟨_,H',I',k⟩
  |brk=>obtain ⟨σ',H',I3,k⟩:=hf;exact go I3 λs' I'=>⟨_,H',I',k⟩
  |cont=>obtain ⟨σ',H',I3,k⟩:=hf;exact go I3 λs' I'=>⟨_,H',I',k⟩
  |ret u=>obtain ⟨v,σ',H',I3,r,k⟩:=hf;exact go I3 λs' I'=>⟨v,_,H',I',r,k⟩
end
def Svb (tb:List (S5×Obj)->(St->XK)->TS) (th:TH):TS:=λD σ H=>∀pins,tb pins (λσ' c e H'=>th D σ' c e H') D σ H
theorem Smu (hst:Yg X) (hb:∀pins R,Jv5 (X.tried pins R) R->PSs (X.tried pins R) body (tb pins R)) (hh:PH X (h₀::hs) th):
  PS X (.Try body (h₀::hs) [] [] pos) (Svb tb th):=by
 intro pins s σ H D I h
 refine wpAny_Try_except (wpAny_mono (hb pins (λσ' c e H'=>th D σ' c e H') So5 [] s σ H D (I.tried _) (h pins)) (λf s1 hf=>?_) λev s1 hx=>?_)
 ·have hf':=hf.map λ_ _ J=>J.untried
  cases f with
  |next=>exact wpAny_execs_nil hf'
  |brk=>exact hf'
  |cont=>exact hf'
  |ret u=>exact hf'
 ·obtain ⟨σ',H',e,C,dx,fr,rfl,I',q,hfl,hR⟩:=hx
  exact Yw I' hst I'.ok.frames q hfl λs2 I2 f2=>Jtq I2 Sv f2 λs3 I3 f3=>hh pins s3 σ' _ D e C dx I3 Sv f3 hR
structure FM (K:Si) (x qual:Str) (st:Sf) (ps:List Str) (f:S5) (fd:Sc):Prop where
 fn:Fun K x qual st f fd
 bd:Sbg K fd ps []
structure Sgq (K:Si) (C:S5):Prop where
 ya:Sk K (.ref C) "__class__" =some (some (.builtin "object.__class__"))
 yb:PySem.W.specialIn K (.builtin "object.__class__") "__get__" =some (some (.builtin "getset_descriptor.__get__"))
 yc:PySem.W.takesIn K (.builtin "object.__class__")=some true
 yd:Sl K C (.type "object")=some true
theorem Sgq.ty {K} {C a dx} {H} {fs} (y:Sgq K C) (c:Cls K C) (e:H a=some (.ins C dx fs)):Jti K H (.ref a) (.ref C):=.ins e c y.ya y.yb y.yc y.yd
inductive Jpk (K:Si) (f:Str) (vs:List V) (H:Hp) (Q:VK) (z3:XK):Prop where
 |mk (e:_) (C:_) (W:_) (fI:_) (y:_) (_:vs= [.ref e,y]) (_:H e=some (XO e C none true)) (_:Sai K C W fI) (_:NoAttr K C f) (_:∀dx,H dx=none->dx≠e->Q .non (upd (upd H dx (XD dx [(f,y)])) e (XO e C (some dx) true)))
theorem Yaq {K} {C W fI} {f} {y} {H} {Q:VK} (c:Sai K C W fI) (n:NoAttr K C f) (k:∀e dx,H e=none->H dx=none->dx≠e->Q (.ref e) (upd (upd H dx (XD dx [(f,y)])) e (XO e C (some dx) true))):
  [y].length<=1000/\∀e,H e=none->Jpk K f (.ref e:: [y]) (upd H e (XO e C none true)) (λv H2=>v= .non/\Q (.ref e) H2) E0:=by
 refine ⟨by simp,λe he=>⟨e,C,W,fI,y,rfl,Sv,c,n,λdx h1 h2=>⟨rfl,?_⟩⟩⟩
 have e2:upd (upd (upd H e (XO e C none true)) dx (XD dx [(f,y)])) e (XO e C (some dx) true)=upd (upd H dx (XD dx [(f,y)])) e (XO e C (some dx) true):=by
  funext b
  unfold upd
  split
  ·rfl
  ·split <;> rfl
 rw [e2]
 exact (k e dx he (by rw [Jmm h2] at h1;exact h1) h2)
section
variable {X:Cx} {pins:List (S5×Obj)} {σ:St} {H:Hp} {s:S7}
theorem Su.turnTup {ch:List S5} (I:Su X pins σ H s) (hch:∀b∈ch,Jtg X pins H b) (k:∀b o,b∉ch->s.heap.get? b=some o->h'.get? b=some o) (hT:s.heap.objs.size<=T)
  (new:Sav X.prog X.w (upd H T (.tup xs)) h' T (.tup xs)):Su X pins σ (upd H T (.tup xs)) {s with heap:=h',toks:=t'}:=by
 have nb:∀b o,s.heap.get? b=some o->b≠T:=λb o z w'=>absurd (yi z) (by rw [w'];exact ybf.mpr hT)
 have nt:∀b u,H b=some u->b≠T:=λb u z=>Jmo z (I.hok.fresh hT)
 have nc:∀b u,H b=some u->b∉ch:=λb u z w'=>by rw [(hch b w').1] at z;cases z
 have u:Un (frs X.stack) ch H (upd H T (.tup xs)) s.heap h':=by
  refine ⟨λb o hb n hs hc=>k b o hc hb,λb o hb n _ hc=>⟨o.slots,k b o hc hb⟩,λb o hb n _=>by rw [Jmm (nb b o hb)];exact n,λb o hb hc=>⟨o,k b o hc hb⟩,λb ys z=>by rw [Jmm (nt b _ z)];exact z,λb o v z=>by rw [Jmm (nt b _ z)];exact z,λb ps z=>⟨#[],by rw [Jmm (nt b _ z),z];simp⟩⟩
 refine I.call u (λb o z=>?_) I.bare λb hb=>?_
 ·by_cases w':b=T
  ·subst w'
   rw [Sv] at z;cases z
   exact new
  ·rw [Jmm w'] at z
   refine (I.hok b o z).stay (λc v hc zz=>k c v ?_ zz) (λc zz=>by rw [Jmm (nt c _ zz)];exact zz) (λc ys zz=>by rw [Jmm (nt c _ zz)];exact zz) λc ys zz=>by rw [Jmm (nt c _ zz)];exact zz
   rcases hc with rfl|hc
   ·exact nc c o z
   ·exact nc c _ hc
 ·obtain ⟨_,h1,_,h3,h4,h5⟩:=hch b hb
  exact ⟨h3,h1,h4,h5⟩
theorem Su.turnMany {ch:List S5} (I:Su X pins σ H s) (hch:∀b∈ch,Jtg X pins H b) (k:∀b o,b∉ch->s.heap.get? b=some o->h'.get? b=some o):Su X pins σ H {s with heap:=h',toks:=t'}:=by
 have nc:∀b u,H b=some u->b∉ch:=λb u z w'=>by rw [(hch b w').1] at z;cases z
 have u:Un (frs X.stack) ch H H s.heap h':=
  ⟨λb o hb n hs hc=>k b o hc hb,λb o hb n _ hc=>⟨o.slots,k b o hc hb⟩,λb o hb n _=>n,λb o hb hc=>⟨o,k b o hc hb⟩,λb ys z=>z,λb o v z=>z,λb ps z=>⟨#[],by rw [z];simp⟩⟩
 refine I.call u (λb o z=>(I.hok b o z).stay (λc v hc zz=>k c v ?_ zz) (λ_ zz=>zz) (λ_ _ zz=>zz) λ_ _ zz=>zz) I.bare λb hb=>?_
 ·rcases hc with rfl|hc
  ·exact nc c o z
  ·exact nc c _ hc
 ·obtain ⟨_,h1,_,h3,h4,h5⟩:=hch b hb
  exact ⟨h3,h1,h4,h5⟩
end
theorem Ybo:bootBuiltins "zip" =some (.type "zip"):=by decide +kernel
section
variable {X:Cx} {pins:List (S5×Obj)} {σ:St} {H:Hp} {s:S7}
inductive TyX (K:Si) (H:Hp):V->S6->Prop where
 |of {x:V} {t:S6}:Jti K H x t->TyX K H x t
 |exc {e C W fI dx:S5} {fs:List (Str×V)} {fr:Bool}:H e=some (XO e C (some dx) fr)->H dx=some (XD dx fs)->Sai K C W fI->TyX K H (.ref e) (.ref C)
theorem TyX.kit (I:Su X pins σ H s) (rx:Sa6 x u) (ty:TyX X.K H x t):u≠ .builtin "__main__.__loader__#opaque" /\∃Hh,PySem.W.KitX X.K u t Hh/\Hh s.heap:=by
 cases ty with
 |exc q qd c=>
  obtain rfl:u=Value.ref _:=rx
  obtain ⟨ox,oD,mA,J,_,_⟩:=Yag I.hok q qd
  exact ⟨(λz=>nomatch z),_,Svd c,ox,oD,J⟩
 |of ty=>
  cases ty with
  |non=>cases (rx);exact ⟨(λz=>nomatch z),_,PySem.W.kitx_none,trivial⟩
  |bl y=>cases (rx);exact ⟨(λz=>nomatch z),_,PySem.W.kitx_bool,trivial⟩
  |int i=>obtain ⟨t,q⟩:=(show ∃t,u=Value.int i t from rx);cases q;exact ⟨(λz=>nomatch z),_,PySem.W.kitx_int,trivial⟩
  |str y=>obtain ⟨t,q⟩:=(show ∃t,u=Value.str y t from rx);cases q;exact ⟨(λz=>nomatch z),_,PySem.W.kitx_str,trivial⟩
  |flt y=>obtain ⟨t,q⟩:=(show ∃t,u=Value.float y t from rx);cases q;exact ⟨(λz=>nomatch z),_,PySem.W.kitx_float,trivial⟩
  | @lst a xs ea=>
   cases (rx)
   obtain ⟨_,_,n,_,h1⟩:=(I.hok a _ ea)
   exact ⟨(λz=>nomatch z),_,PySem.W.kitx_list,_,h1,rfl⟩
  | @frz a ob xs ea=>
   cases (rx)
   obtain ⟨_,_,_,n,_,h1⟩:=(I.hok a _ ea)
   exact ⟨(λz=>nomatch z),_,PySem.W.kitx_list,_,h1,rfl⟩
  | @tup a xs ea=>
   cases (rx)
   obtain ⟨_,_,_,o,h1,h2,_⟩:=(I.hok a _ ea)
   exact ⟨(λz=>nomatch z),_,PySem.W.kitx_tuple,o,h1,h2⟩
  | @dK a kvs ea=>
   cases (rx)
   obtain ⟨_,_,vs,_,o,es,ep,h1,h2,_⟩:=(I.hok a _ ea)
   exact ⟨(λz=>nomatch z),_,PySem.W.kitx_dict,o,h1,h2.1⟩
  | @dT a kvs ea=>
   cases (rx)
   obtain ⟨_,_,xs,_,o,es,ep,h1,h2,_⟩:=(I.hok a _ ea)
   exact ⟨(λz=>nomatch z),_,PySem.W.kitx_dict,o,h1,h2.1⟩
  | @ins a C dx fs ea cl ha hn htk hm=>
   cases (rx)
   obtain ⟨mA,O,_⟩:=Juw I.hok ea
   obtain ⟨od,J,_⟩:=O.look
   exact ⟨(λz=>nomatch z),_,PySem.W.kitx_own (cl.get _) cl.hd ha hn htk hm,J⟩
inductive Sq9 (K:Si) (xs:List V) (H:Hp) (Q:VK):Prop where
 |mk (x:_) (c:_) (u:_) (t:_) (b:_) (_:xs= [x,c]) (_:Sm3 c=some u) (_:TyX K H x t) (_:Sj K t u=some b) (_:Q (.bl b) H)
theorem Jnq:Jpl X (.builtin "isinstance") (Sq9 X.K):=by
 rintro pins s σ H vs us Q I r ⟨x,c,u,t,b,rfl,hc,ty,ek,k⟩
 obtain ⟨v,w',rfl,r1,r2⟩:=Yad r
 have e2:w'=u:=by
  cases c with
  |ty n=>cases hc;cases r2;rfl
  |ref a=>cases hc;cases r2;rfl
  |_=>cases hc
 subst e2
 obtain ⟨hx,Hh,Z,p⟩:=ty.kit I r1
 exact PySem.W.kia_one Z I.kIn p ek hx λtk=>⟨.bl b,H,I.tok _,rfl,k⟩
theorem Jyh:∀{cs} {us ws},cs.mapM Sm3=some us->Sa4 cs ws->ws=us
 | [],us,_,e,.nil=>by cases e;rfl
 |c::cs,us,_,e,.cons r t=>by
  rw [List.mapM_cons] at e
  simp only [Option.bind_eq_bind,Option.bind_eq_some_iff,Option.pure_def,yw.injEq] at e
  obtain ⟨u,hu,us',hus,rfl⟩:=e
  rw [Jyh hus t]
  cases c with
  |ty n=>cases hu;cases r;rfl
  |ref a=>cases hu;cases r;rfl
  |_=>cases hu
inductive Suv (K:Si) (xs:List V) (H:Hp) (Q:VK):Prop where
 |mk (x:_) (p:_) (cs:_) (us:_) (t:_) (b:_) (_:xs= [x,.ref p]) (_:H p=some (.tup cs)) (_:cs.mapM Sm3=some us) (_:TyX K H x t) (_:PySem.W.kitAny K t us=some b) (_:Q (.bl b) H)
theorem Jvb:Jpl X (.builtin "isinstance") (Suv X.K):=by
 rintro pins s σ H vs us Q I r ⟨x,p,cs,us',t,b,rfl,hp,hc,ty,ek,k⟩
 obtain ⟨v,w',rfl,r1,r2⟩:=Yad r
 obtain rfl:w'=Value.ref p:=r2
 obtain ⟨hx,Hh,Z,q⟩:=ty.kit I r1
 obtain ⟨_,its,rv,o,h1,h2,n,h3⟩:=(I.hok p _ hp)
 have e:=Jyh hc rv
 subst e
 obtain ⟨oc,odi,oda,osl⟩:=o
 subst h2 h3
 exact PySem.W.kia_tup Z I.kIn q h1 ek hx λtk=>⟨.bl b,H,I.tok _,rfl,k⟩
def Sui (K:Si) (tl:TE):TI:=λσ H R=>tl σ H λx H1=>∃a,x= .ref a/\(((∃xs,Sy K H1 a xs)/\R (Itl K a) H1)\/((∃xs,SqT K H1 a xs)/\R (Itt K a) H1))
theorem Sms (hl:PE X l tl):PI X tg l (Sui X.K tl):=by
 intro pins s σ H R I h
 refine thn (hl pins s σ H _ I h) λv s1 zq=>?_
 obtain ⟨x,H1,I1,r1,a,e,q1⟩:=zq
 subst e
 cases r1
 have fin:∀{J:It} {tn:Nat->Sg->Prop} {o:Obj},Turn X.prog X.w X.K tg J [s1.heap.objs.size] s1.heap.objs.size tn->tn 0 (s1.heap.push o)->R J H1->PIE X pins σ tg R (.ref s1.heap.objs.size) {s1 with heap:=s1.heap.push o}:=λ{J tn o} T st q=>by
  refine ⟨s1.heap.objs.size,[s1.heap.objs.size],tn,J,H1,rfl,I1.kept λb o e=>yn _ e,T,st,λb hb=>?_,q⟩
  have e:=by simpa using hb
  subst e
  exact I1.fpOk (yl _) (I1.hok.fresh (yl _))
 rcases q1 with ⟨⟨xs,hq⟩,q⟩|⟨⟨xs,hq⟩,q⟩
 ·obtain ⟨its,rv,p,hz⟩:=I1.list hq
  exact wpAny_pyIter_list p.isList (fin (Jx8 a _) ⟨_,yq _ rfl,rfl,rfl⟩ q)
 ·obtain ⟨its,rv,p,hz⟩:=I1.tuple hq
  exact wpAny_pyIter_tuple (p) (fin (Jw5 a _) ⟨_,yq _ rfl,rfl,rfl⟩ q)
def Scx (x y:V) (b:Bool):Prop:=(∃a,x= .ref a/\y= .ref a/\b=true)\/(Jpm x=true/\Jpm y=true/\eqV x y=b)
theorem Yc2 (h:Jpm x=true):eqV x x=true:=by
 cases x <;> first|rfl|(simp [eqV];done)|cases h
theorem Scx.self (h:Jpm x=true\/∃a,x= .ref a):Scx x x true:=by
 rcases h with h|⟨a,rfl⟩
 ·exact .inr ⟨h,h,Yc2 h⟩
 ·exact .inl ⟨a,rfl,rfl,rfl⟩
theorem Scx.at (h:Scx x y b) (rx:Sa6 x u) (ry:Sa6 y v):SeqAt.EqAt A s u v b:=by
 rcases h with ⟨a,rfl,rfl,rfl⟩|⟨f1,f2,rfl⟩
 ·cases rx;cases ry;exact SeqAt.EqAt.same _
 ·exact Yc0 rx ry f1 f2
inductive Sut (K:Si) (x:V) (y:V) (H:Hp) (Q:VK):Prop where
 |mk (p q:S5) (xs ys:List V) (bs:List Bool) (_:x= .ref p) (_:y= .ref q) (_:Sy K H p xs) (_:Sy K H q ys) (_:xs.length=ys.length) (_:bs.length=xs.length) (_:(∀(i:Nat) x y b,xs[i]?=some x->ys[i]?=some y->bs[i]?=some b->Scx x y b)) (_:Q (.bl (bs.all id)) H)
theorem Smk (hu:X.A.units+64 < cLine):OpR X (compareOp .Eq) (Sut X.K):=by
 rintro pins s σ H x y v u Q I rx ry ⟨p,q,xs,ys,bs,rfl,rfl,h1,h2,l1,l2,hs,k⟩
 obtain rfl:v=Value.ref p:=rx
 obtain rfl:u=Value.ref q:=ry
 obtain ⟨its,r1,p1,_⟩:=I.list h1
 obtain ⟨jts,r2,p2,_⟩:=I.list h2
 have e1:=r1.length
 have e2:=r2.length
 refine SeqAt.eq_listAt (e:=λj=>bs.getD j false) p1.isList p2.isList (by simp only [ym];omega) (by omega) (λj j1 j2=>?_) ⟨.bl _,H,I,rfl,?_⟩
 ·simp only [ym] at j1 j2
  have a1:xs[j]?=some xs[j]:=yh (by omega)
  have a2:ys[j]?=some ys[j]:=yh (by omega)
  have a3:bs[j]?=some bs[j]:=yh (by omega)
  obtain ⟨u,hu1,ru⟩:=r1.get a1
  obtain ⟨w',hw1,rw'⟩:=r2.get a2
  have b1:its.toArray[j]=u:=by simpa [yh j1] using hu1
  have b2:jts.toArray[j]=w':=by simpa [yh j2] using hw1
  have b3:bs.getD j false=bs[j]:=by simp [a3]
  rw [b1,b2,b3]
  exact (hs j _ _ _ a1 a2 a3).at ru rw'
 ·have e:((yaz its.toArray.size).all λj=>bs.getD j false)=bs.all id:=by
   simp only [ym]
   rw [show its.length=bs.length by omega,Bool.eq_iff_iff,yar,yar]
   constructor
   ·intro h b hb
    obtain ⟨j,hj,rfl⟩:=List.getElem_of_mem hb
    have:=h j (ybh.mpr hj)
    simpa [yh hj] using this
   ·intro h j hj
    have hj':=ybh.mp hj
    have:=h bs[j] (yba hj')
    simpa [yh hj'] using this
  rw [e]
  exact k
end
def Jy8 (P:Sb) (w:Sd) (K:Si) (mg:Str->Option S6) (base:Sg) (j:Nat) (m:Str) (ta:TE) (t:TA):TE:=λσ H Q=>ta σ H λx H1=>∃a C dx fs f fd ps sp k,x= .ref a/\H1 a=some (.ins C dx fs)/\fs.lookup m=none/\Cls K C/\Jq8 K C m f/\Sx P w K mg base CX0 k f fd ps sp/\k<=j/\Sbg K fd ps []/\
 t σ H1 λvs H2=>sp (x::vs) H2 Q E0
section
variable {X:Cx} {j:Nat} {m:Str} {apos pos:Pos} {e o:Expr} {es:List Expr} {ta:TE} {t:TA} {R:St->XK}
theorem Jt2 {pl} (he:PE X o ta) (hr:Sak j X.A) (ha:PA X (e::es) t)
  (hst:starEach (e::es) X.env=(false,eval e X.env)::starEach es X.env:=by rfl) (hpl:(backTo pos (starEach es X.env)).any (·.1)=false:=by rfl)
  (ht:eval (.Call (.Attribute o m apos) (e::es) [] pos) X.env=(do
   let ov<-eval o X.env
   standAt apos.atName
   let (f,first)<-holding [ov] (getMethod ov m pl)
   callWith pos f first (backTo pos (starEach (e::es) X.env)) (backToKw pos (keywordEach [] X.env))):=by rfl):
  PE X (.Call (.Attribute o m apos) (e::es) [] pos) (Jy8 X.prog X.w X.K X.mg X.base j m ta t):=by
 intro pins s σ H Q I h
 refine PySem.W.methodCall_KW (thn (he pins s σ H _ I h) λu s1 zq=>?_) ht
 obtain ⟨x,H1,I1,rx,a,C,dx,fs,f,fd,ps,sp,k,ex,ea,l,c,hm,G,hk,hb,q⟩:=zq
 subst ex
 obtain rfl:u=Value.ref a:=rx
 exact Jsf I1 ea c hm l (PySem.W.callWith_K I.ok.mod.kin hm.kp (thn (ha pos pins s1 σ H1 _ I1 q) λus s2 ⟨vs,H2,I2,r,q2⟩=>⟨I2.kIn,Jxz (vs:=.ref a::vs) G (hr.mono hk) hb .nil Jqn I2 (.cons rfl r) (by rw [yaq];exact q2)⟩) hst hpl)
theorem Ju2 (he:PE X o ta) (hr:Sak j X.A)
  (ht:eval (.Call (.Attribute o m apos) [] [] pos) X.env=(do
   let ov<-eval o X.env
   standAt apos.atName
   let (f,first)<-holding [ov] (getMethod ov m pl)
   callWith pos f first (backTo pos (starEach [] X.env)) (backToKw pos (keywordEach [] X.env))):=by rfl):
  PE X (.Call (.Attribute o m apos) [] [] pos) (Jy8 X.prog X.w X.K X.mg X.base j m ta Jus):=by
 intro pins s σ H Q I h
 refine PySem.W.methodCall_KW (thn (he pins s σ H _ I h) λu s1 zq=>?_) ht
 obtain ⟨x,H1,I1,rx,a,C,dx,fs,f,fd,ps,sp,k,ex,ea,l,c,hm,G,hk,hb,q⟩:=zq
 subst ex
 obtain rfl:u=Value.ref a:=rx
 exact Jsf I1 ea c hm l (PySem.W.callWith_K0 I1.kIn hm.kp (Jxz (vs:=[.ref a]) G (hr.mono hk) hb .nil Jqn I1 (.cons rfl .nil) q))
end
theorem Jne (h:n<=2000):n < Sa:=Nat.lt_of_le_of_lt h (by decide)
theorem Jps (n) (h:n<=2000):n<=Sa:=ybd (Jne h)
def tpB (t:S6):Bool:=[Value.type "bool",.type "str",.type "NoneType",.type "list",.type "tuple",.type "dict"].contains t
def Tm (K:Si) (H:Hp) (x:V):Prop:=(∃i:Int,x= .int i)\/∃t,TyX K H x t/\tpB t=true
def Jmz:V->Int->Int->Bool
 | .int i,lo,hi=>decide (lo<=i)&&decide (i<=hi)
 |_,_,_=>false
theorem Ydf {K} (h:tpB t=true):Sj K t (.type "int")=some (t== .type "bool")/\Sj K t (.type "bool")=some (t== .type "bool"):=by
 unfold tpB at h
 simp only [List.contains_cons,List.contains_nil,Bool.or_false,Bool.or_eq_true,beq_iff_eq] at h
 rcases h with rfl|rfl|rfl|rfl|rfl|rfl <;> exact ⟨rfl,rfl⟩
theorem Yv {K} (ty:TyX K H x t) (h:tpB t=true):∀lo hi,Jmz x lo hi=false:=by
 intro lo hi
 cases ty with
 |exc=>rfl
 |of ty=>
  cases ty <;> first|rfl|(exfalso;revert h;decide)
inductive Yf3 (K:Si) (vs:List V) (H:Hp) (Q:VK) (z3:XK):Prop where
 |mk (x:V) (lo hi:Int) (_:vs= [x,.int lo,.int hi]) (_:Tm K H x) (_:Q (.bl (Jmz x lo hi)) H)
theorem Ya9 {K} (h:Jpm x=true):Tm K H x:=by
 cases x with
 |non=>exact .inr ⟨_,.of .non,rfl⟩
 |bl b=>exact .inr ⟨_,.of (.bl b),rfl⟩
 |int i=>exact .inl ⟨i,rfl⟩
 |str z=>exact .inr ⟨_,.of (.str z),rfl⟩
 |_=>cases h
theorem TyX.same {K} (s:∀b o,x= .ref b->H b=some o->H' b=some o) (sx:∀b fs,H b=some (XD b fs)->H' b=some (XD b fs)) (ty:TyX K H x t):TyX K H' x t:=by
 cases ty with
 |exc q qd c=>exact .exc (s _ _ rfl q) (sx _ _ qd) c
 |of ty=>
  refine .of ?_
  cases ty with
  |non=>exact .non
  |bl b=>exact .bl b
  |int i=>exact .int i
  |str z=>exact .str z
  |flt z=>exact .flt z
  |lst e=>exact .lst (s _ _ rfl e)
  |frz e=>exact .frz (s _ _ rfl e)
  |tup e=>exact .tup (s _ _ rfl e)
  |dK e=>exact .dK (s _ _ rfl e)
  |dT e=>exact .dT (s _ _ rfl e)
  |ins e a b c d f=>exact .ins (s _ _ rfl e) a b c d f
theorem Tm.same {K} (s:Sn H H') (h:Tm K H x):Tm K H' x:=by
 rcases h with h|⟨t,ty,e⟩
 ·exact .inl h
 ·exact .inr ⟨t,ty.same (λb o _ q=>s b o q) (λb fs q=>s b _ q),e⟩
theorem Ye0 {K} {q} {xs} {g:TG} {tb:TS} {D:Sch} {σ} {H} (Pv:Nat->St->Hp->Prop) (h0:Pv 0 σ H) (hl:(∀i σ H,i<=xs.length->Pv i σ H->Sy K H q xs)\/(∀i σ H,i<=xs.length->Pv i σ H->SqT K H q xs))
  (hs:∀i x σ H,xs[i]?=some x->Pv i σ H->g x σ H λσ2 H2=>tb {D with nx:=Pv (i+1),ct:=Pv (i+1),bk:=D.nx} σ2 H2) (hd:∀σ H,Pv xs.length σ H->D.nx σ H):
  ((∃xs,Sy K H q xs)/\∃W:Nat->Nat->St->Hp->Prop,(∃m,W 0 m σ H)/\∀i m σ H,W i m σ H->
   ((Itl K q).stop i H/\D.nx σ H)\/((Itl K q).go i H/\∃N:St->Hp->Prop,(∀σ' H',N σ' H'->∃m',m' < m/\W (i+1) m' σ' H')/\∀x H',(Itl K q).yld i H x H'->g x σ H' λσ2 H2=>tb {D with nx:=N,ct:=N,bk:=D.nx} σ2 H2))\/
  ((∃xs,SqT K H q xs)/\∃W:Nat->Nat->St->Hp->Prop,(∃m,W 0 m σ H)/\∀i m σ H,W i m σ H->
   ((Itt K q).stop i H/\D.nx σ H)\/((Itt K q).go i H/\∃N:St->Hp->Prop,(∀σ' H',N σ' H'->∃m',m' < m/\W (i+1) m' σ' H')/\∀x H',(Itt K q).yld i H x H'->g x σ H' λσ2 H2=>tb {D with nx:=N,ct:=N,bk:=D.nx} σ2 H2)):=by
 rcases hl with hl|hl
 ·exact .inl ⟨⟨xs,hl 0 σ H (yad _) h0⟩,Jvf Pv h0 hl hs hd⟩
 ·exact .inr ⟨⟨xs,hl 0 σ H (yad _) h0⟩,Ye1 Pv h0 hl hs hd⟩
theorem Jny {K} {R} {C W fI} {f} {i} {y} {σ} {H} {D} (c:Sai K C W fI) (n:NoAttr K C f) (hi:σ[i]?=some (some y))
  (k:∀e dx,H e=none->H dx=none->dx≠e->R σ (.ref C) (some e) (upd (upd (upd H dx (XD dx [(f,y)])) e (XO e C (some dx) true)) e (XO e C (some dx) false))):Ycr K R (Sqv C (Jpk K f) (Jnm (Snp i) Jus)) D σ H:=⟨y,hi,Yaq (Q:=λv H1=>∃e C W fI dx,v= .ref e/\H1 e=some (XO e C (some dx) true)/\Sai K C W fI/\R σ (.ref C) (some e) (upd H1 e (XO e C (some dx) false))) c n λe dx h1 h2 h3=>⟨e,C,W,fI,dx,rfl,Sv,c,k e dx h1 h2 h3⟩⟩
theorem Jyk {A:Prop} [Decidable c] (hc:c) (h:A):if decide c=true then A else B:=by grind
theorem Jwa {A:Prop} [Decidable c] (hc:¬c) (h:B):if decide c=true then A else B:=by grind
def Jn9:Expr->Bool
 | .Starred _ _=>true
 |_=>false
theorem Yba (e) (es) (env) (h:Jn9 e=false):starEach (e::es) env=(false,eval e env)::starEach es env:=by
 cases e <;> first|rfl|cases h
theorem Job (ha:PE X e te) (hr:PA X es t) (hs:Jn9 e=false:=by rfl):PA X (e::es) (Jnm te t):=So ha hr (Yba e es X.env hs)
theorem pa4 (h0:PE X e0 t0) (h1:PE X e1 t1) (h2:PE X e2 t2) (h3:PE X e3 t3) (s0:Jn9 e0=false:=by rfl) (s1:Jn9 e1=false:=by rfl) (s2:Jn9 e2=false:=by rfl) (s3:Jn9 e3=false:=by rfl):PA X [e0,e1,e2,e3] (Jnm t0 (Jnm t1 (Jnm t2 (Jnm t3 (Jus))))):=Job h0 (Job h1 (Job h2 (Job h3 (Ss) s3) s2) s1) s0
theorem pa5 (h0:PE X e0 t0) (h1:PE X e1 t1) (h2:PE X e2 t2) (h3:PE X e3 t3) (h4:PE X e4 t4) (s0:Jn9 e0=false:=by rfl) (s1:Jn9 e1=false:=by rfl) (s2:Jn9 e2=false:=by rfl) (s3:Jn9 e3=false:=by rfl) (s4:Jn9 e4=false:=by rfl):PA X [e0,e1,e2,e3,e4] (Jnm t0 (Jnm t1 (Jnm t2 (Jnm t3 (Jnm t4 (Jus)))))):=Job h0 (Job h1 (Job h2 (Job h3 (Job h4 (Ss) s4) s3) s2) s1) s0
theorem pa6 (h0:PE X e0 t0) (h1:PE X e1 t1) (h2:PE X e2 t2) (h3:PE X e3 t3) (h4:PE X e4 t4) (h5:PE X e5 t5) (s0:Jn9 e0=false:=by rfl) (s1:Jn9 e1=false:=by rfl) (s2:Jn9 e2=false:=by rfl) (s3:Jn9 e3=false:=by rfl) (s4:Jn9 e4=false:=by rfl) (s5:Jn9 e5=false:=by rfl):PA X [e0,e1,e2,e3,e4,e5] (Jnm t0 (Jnm t1 (Jnm t2 (Jnm t3 (Jnm t4 (Jnm t5 (Jus))))))):=Job h0 (Job h1 (Job h2 (Job h3 (Job h4 (Job h5 (Ss) s5) s4) s3) s2) s1) s0
theorem pa7 (h0:PE X e0 t0) (h1:PE X e1 t1) (h2:PE X e2 t2) (h3:PE X e3 t3) (h4:PE X e4 t4) (h5:PE X e5 t5) (h6:PE X e6 t6) (s0:Jn9 e0=false:=by rfl) (s1:Jn9 e1=false:=by rfl) (s2:Jn9 e2=false:=by rfl) (s3:Jn9 e3=false:=by rfl) (s4:Jn9 e4=false:=by rfl) (s5:Jn9 e5=false:=by rfl) (s6:Jn9 e6=false:=by rfl):PA X [e0,e1,e2,e3,e4,e5,e6] (Jnm t0 (Jnm t1 (Jnm t2 (Jnm t3 (Jnm t4 (Jnm t5 (Jnm t6 (Jus)))))))):=Job h0 (Job h1 (Job h2 (Job h3 (Job h4 (Job h5 (Job h6 (Ss) s6) s5) s4) s3) s2) s1) s0
theorem pa8 (h0:PE X e0 t0) (h1:PE X e1 t1) (h2:PE X e2 t2) (h3:PE X e3 t3) (h4:PE X e4 t4) (h5:PE X e5 t5) (h6:PE X e6 t6) (h7:PE X e7 t7) (s0:Jn9 e0=false:=by rfl) (s1:Jn9 e1=false:=by rfl) (s2:Jn9 e2=false:=by rfl) (s3:Jn9 e3=false:=by rfl) (s4:Jn9 e4=false:=by rfl) (s5:Jn9 e5=false:=by rfl) (s6:Jn9 e6=false:=by rfl) (s7:Jn9 e7=false:=by rfl):PA X [e0,e1,e2,e3,e4,e5,e6,e7] (Jnm t0 (Jnm t1 (Jnm t2 (Jnm t3 (Jnm t4 (Jnm t5 (Jnm t6 (Jnm t7 (Jus))))))))):=Job h0 (Job h1 (Job h2 (Job h3 (Job h4 (Job h5 (Job h6 (Job h7 (Ss) s7) s6) s5) s4) s3) s2) s1) s0
theorem Sun (h0:PE X e0 t0) (h1:PE X e1 t1) (h2:PE X e2 t2) (h3:PE X e3 t3) (h4:PE X e4 t4) (h5:PE X e5 t5) (h6:PE X e6 t6) (h7:PE X e7 t7) (h8:PE X e8 t8) (h9:PE X e9 t9) (h10:PE X e10 t10) (h11:PE X e11 t11) (s0:Jn9 e0=false:=by rfl) (s1:Jn9 e1=false:=by rfl) (s2:Jn9 e2=false:=by rfl) (s3:Jn9 e3=false:=by rfl) (s4:Jn9 e4=false:=by rfl) (s5:Jn9 e5=false:=by rfl) (s6:Jn9 e6=false:=by rfl) (s7:Jn9 e7=false:=by rfl) (s8:Jn9 e8=false:=by rfl) (s9:Jn9 e9=false:=by rfl) (s10:Jn9 e10=false:=by rfl) (s11:Jn9 e11=false:=by rfl):PA X [e0,e1,e2,e3,e4,e5,e6,e7,e8,e9,e10,e11] (Jnm t0 (Jnm t1 (Jnm t2 (Jnm t3 (Jnm t4 (Jnm t5 (Jnm t6 (Jnm t7 (Jnm t8 (Jnm t9 (Jnm t10 (Jnm t11 (Jus))))))))))))):=Job h0 (Job h1 (Job h2 (Job h3 (Job h4 (Job h5 (Job h6 (Job h7 (Job h8 (Job h9 (Job h10 (Job h11 (Ss) s11) s10) s9) s8) s7) s6) s5) s4) s3) s2) s1) s0
end L2
namespace L2
open PySem PySem.Spec PyProof.Rows PySem.W
section
variable {X:Cx}
theorem Jvl {K} (h:X.K=K):IxR X (Sqa K):=by subst h;exact Jnc
theorem Jpg {K} (h:X.K=K):IxR X (Sqb K):=by subst h;exact Jn2
theorem Jww {K} (h:X.K=K):Jpl X (.builtin "isinstance") (Sq9 K):=by subst h;exact Jnq
end
section
variable {prog:Sb} {w:Sd} {A:Se} {E:S6->S7->Prop} {s:S7}
end
section
variable {X:Cx} {pos:Pos}
inductive Suu (K:Si) (x:V) (y:V) (H:Hp) (Q:VK):Prop where
 |mk (p q:S5) (xs ys:List V) (bs:List Bool) (_:x= .ref p) (_:y= .ref q) (_:SqT K H p xs) (_:SqT K H q ys) (_:xs.length=ys.length) (_:bs.length=xs.length) (_:(∀(i:Nat) x y b,xs[i]?=some x->ys[i]?=some y->bs[i]?=some b->Scx x y b)) (_:Q (.bl (bs.all id)) H)
theorem Smn (hu:X.A.units+64 < cLine):OpR X (compareOp .Eq) (Suu X.K):=by
 rintro pins s σ H x y v u Q I rx ry ⟨p,q,xs,ys,bs,rfl,rfl,h1,h2,l1,l2,hs,k⟩
 obtain rfl:v=Value.ref p:=rx
 obtain rfl:u=Value.ref q:=ry
 obtain ⟨its,r1,p1,_⟩:=I.tuple h1
 obtain ⟨jts,r2,p2,_⟩:=I.tuple h2
 have e1:=r1.length
 have e2:=r2.length
 refine SeqAt.eq_tupleAt (e:=λj=>bs.getD j false) p1 p2 (by omega) (λj j1 j2=>?_) ⟨.bl _,H,I,rfl,?_⟩
 ·simp only [ym] at j1 j2
  have a1:xs[j]?=some xs[j]:=yh (by omega)
  have a2:ys[j]?=some ys[j]:=yh (by omega)
  have a3:bs[j]?=some bs[j]:=yh (by omega)
  obtain ⟨u,hu1,ru⟩:=r1.get a1
  obtain ⟨w',hw1,rw'⟩:=r2.get a2
  have b1:its.toArray[j]=u:=by simpa [yh j1] using hu1
  have b2:jts.toArray[j]=w':=by simpa [yh j2] using hw1
  have b3:bs.getD j false=bs[j]:=by simp [a3]
  rw [b1,b2,b3]
  exact (hs j _ _ _ a1 a2 a3).at ru rw'
 ·have e:((yaz its.toArray.size).all λj=>bs.getD j false)=bs.all id:=by
   simp only [ym]
   rw [show its.length=bs.length by omega,Bool.eq_iff_iff,yar,yar]
   constructor
   ·intro h b hb
    obtain ⟨j,hj,rfl⟩:=List.getElem_of_mem hb
    have:=h j (ybh.mpr hj)
    simpa [yh hj] using this
   ·intro h j hj
    have hj':=ybh.mp hj
    have:=h bs[j] (yba hj')
    simpa [yh hj'] using this
  have e3:((yaz (min its.toArray.size jts.toArray.size)).all (λj=>bs.getD j false)&&its.toArray.size==jts.toArray.size)=bs.all id:=by
   rw [show min its.toArray.size jts.toArray.size=its.toArray.size by simp only [ym];omega,e,show (its.toArray.size==jts.toArray.size)=true by simp only [ym,beq_iff_eq];omega,Bool.and_true]
  rw [e3]
  exact k
end
structure Ybi (P:Sb) (w:Sd) (K:Si) (mg:Str->Option S6) (base:Sg) (k:Nat) (f:S5) (fd:Sc) (ps:List Str) (sp:Sp):Prop where
 len:∀vs H Q E,sp vs H Q E->vs.length=ps.length
 run:∀(e:S5) (A:Se) (outer:List Env) (s:S7) (H:Hp) (args:Args) (us:List S6) (vs:List V) (Q:VK) (E:XK),Sak k A->Sex P w K mg base A outer s H->BindsTo s fd args (ps.zip us)->Sa4 vs us->sp vs H Q E->
  codeAny (model P w) (A.mark (some (.ref e))) (.call (.ref f) args) (CR CX0 outer P w H s Q E) s
section
variable {P:Sb} {w:Sd} {K:Si} {mg:Str->Option S6} {base:Sg}
theorem Fun.okC {st} (F:Fun K x qual st f fd) (S:Jmp N ps (Jml st)) (len:∀vs H Q E,sp vs H Q E->vs.length=ps.length)
  (hbody:∀er cdv A outer s H vs Q E,Sak k (A.deeper (envOfC qual (Jml st) s.heap.objs.size f cdv))->sp vs H Q E->
   ∃t,PSs ((Juk CX0 P w K mg base N qual (Jml st) f cdv A outer s H E).caught er) (Jno st) t/\t {nx:=λ_ H'=>Q .non H',rt:=Q} (start N vs) H):Ybi P w K mg base (k+1) f fd ps sp:=by
 obtain ⟨oc,od,kV,doc,pm,an,cdv,ct,osl,rfl,lk,hcd⟩:=F.ex
 refine ⟨len,λer A outer s H args us vs Q E hr e0 hb r hsp=>?_⟩
 have KX:=e0.mod.kin.keeps λb o e=>(e0.bs b o e).1
 have hkind:∀y∈ps.zip us,(Jml st).names.lookup y.1=some .local\/((Jml st).names.lookup y.1=some .cell/\((cellsFrom (s.heap.objs.size+1) (Jml st).names []).lookup y.1).isSome=true):=λ⟨n,v⟩ hy=>by
  rcases S.par n (ybs hy).1 with q|q
  ·exact .inl q
  ·exact .inr ⟨q,PySem.W.cellsFrom_some _ _ _ (.inl q)⟩
 refine codeAny_call_function hr.depth (KX _ _ lk) rfl S.co S.gen rfl (PySem.W.codeRec_of KX hcd) (hb _ _ _ _ (wpAny_newFunctionEnv_cells S.kind hkind λenv he s1 x=>?_))
 subst he
 refine ⟨(e0.mod.nolimit.keeps λb o e=>(e0.bs b o e).1).keeps x.toInCall.keep,codeAny_func ?_⟩
 obtain ⟨t,ht,hq⟩:=hbody er cdv A outer s H vs Q E (hr.deeper _) hsp
 have I:Su (Juk CX0 P w K mg base N qual (Jml st) f cdv A outer s H E) [] (start N vs) H s1:=Jts S hr.hd e0 (len _ _ _ _ hsp) r x
 refine wpAny_mono (ht [] s1 (start N vs) H _ (I.caught er) hq) (λfl s' hs=>?_) λe s' hs=>?_
 ·have fin:∀{σ':L2.St} {H':Hp} {v:V} {u:S6},Su ((Juk CX0 P w K mg base N qual (Jml st) f cdv A outer s H E).caught er) [] σ' H' s'->Sa6 v u->Q v H'->CE outer P w H s Q u s':=
   λ{σ' H' v u} J rv q=>⟨v,H',J.os,J.bare,J.base,J.hok,rv,q⟩
  cases fl with
  |ret u=>
   obtain ⟨v,σ',H',J,rv,q⟩:=hs
   exact fin J rv q
  |next=>
   obtain ⟨σ',H',J,q⟩:=hs
   exact fin (v:=V.non) J rfl q
  |brk=>
   obtain ⟨_,_,_,q⟩:=hs
   exact False.elim q
  |cont=>
   obtain ⟨_,_,_,q⟩:=hs
   exact False.elim q
 ·exact False.elim hs
end
section
variable {X:Cx} {x:Str} {st:Sf} {ps:List Str} {f:S5} {fd:Sc} {sp:Sp} {k j:Nat} {p pos:Pos} {e:Expr} {es:List Expr} {t:TA} {er:S5}
theorem Jt1 (F:FT X.K X.mg x st ps f fd) (G:Ybi X.prog X.w X.K X.mg X.base k f fd ps sp) (hr:Sak j X.A) (hk:k<=j) (ha:PA (X.caught er) (e::es) t) (hg:Gl (X.caught er) x:=by rfl) (hdb:(x==("__debug__" :Str))=false:=by decide)
  (he:starEach (e::es) X.env=(false,eval e X.env)::starEach es X.env:=by rfl) (hpl:(backTo pos (starEach es X.env)).any (·.1)=false:=by rfl):PE (X.caught er) (.Call (.Name x p) (e::es) [] pos) (Ydb sp [] E0 t):=by
 intro pins s σ H Q I h
 refine wpAny_Call_Name_kw (Jqu I hg F.mgx (PySem.W.callWith_K I.ok.mod.kin F.fn.kp (thn (ha pos pins s σ H _ I h) λus s1 ⟨vs,H1,I1,r,q⟩=>⟨I1.kIn,?_⟩) he hpl) hdb)
 have q':sp (vs++ []) H1 Q E0:=q
 rw [yaq] at q'
 have hl:us.length=ps.length:=by rw [<-r.length];exact G.len _ _ _ _ q'
 have bd:=F.bd s1 us I1.kIn (by rw [yaq];exact hl)
 rw [yaq] at bd
 have e0:Sex X.prog X.w X.K X.mg X.base X.A X.stack s1 H1:=⟨I1.env0.frames,I1.env0.mod,I1.env0.bs,I1.env0.bsz,I1.env0.funs,I1.env0.frf,I1.env0.hok,I1.env0.bare⟩
 refine wpAny_call (codeAny_mono (G.run er X.A X.stack s1 H1 ⟨us,[]⟩ us vs Q E0 (hr.mono hk) e0 bd r q') λr s' hq=>?_)
 cases r with
 |error e=>exact False.elim hq
 |ok fl=>
  cases fl with
  |ret u=>exact I1.after hq
  |next=>exact False.elim hq
  |brk=>exact False.elim hq
  |cont=>exact False.elim hq
end
def stU (acc:List Str) (z:Str):List Str:=if acc.contains z=true then acc else acc++ [z]
def uq (zs:List Str):List Str:=zs.foldl stU []
def inU (zs:List Str):Key->Bool
 | .inl _=>false
 | .inr z=>(uq zs).contains z
theorem Yac (zs) (z):uq (zs++ [z])=stU (uq zs) z:=by unfold uq;rw [List.foldl_append];rfl
theorem Snz (zs):(uq zs).length<=zs.length:=by
 have h:∀(l acc:List Str),(l.foldl stU acc).length<=acc.length+l.length:=by
  intro l
  induction l with
  |nil=>intro acc;simp
  |cons z r ih=>
   intro acc
   rw [List.foldl_cons]
   have h1:=ih (stU acc z)
   have h2:(stU acc z).length<=acc.length+1:=by unfold stU;split <;> simp
   rw [yai]
   omega
 simpa [uq] using h zs []
theorem Jz7 (h:zs.Nodup):uq zs=zs:=by
 have g:∀(l acc:List Str),(acc++l).Nodup->l.foldl stU acc=acc++l:=by
  intro l
  induction l with
  |nil=>intro acc _;simp
  |cons z r ih=>
   intro acc hn
   rw [List.foldl_cons]
   have hz:acc.contains z=false:=by
    cases e:acc.contains z with
    |false=>rfl
    |true=>
     exact absurd rfl ((List.nodup_append.mp hn).2.2 z (List.contains_iff_mem.mp e) z yan)
   have e:stU acc z=acc++ [z]:=by unfold stU;rw [hz];rfl
   rw [e,ih (acc++ [z]) (by simpa using hn)]
   simp
 simpa [uq] using g zs [] (by simpa using h)
theorem Yc8 (zs) (z) (k):inU (zs++ [z]) k=(inU zs k||decide (k= .inr z)):=by
 cases k with
 |inl i=>simp [inU]
 |inr y=>
  show (uq (zs++ [z])).contains y=((uq zs).contains y||decide ((.inr y:Key)= .inr z))
  rw [Yac]
  unfold stU
  split
  ·rename_i hc
   by_cases h:y=z
   ·subst h;rw [hc];simp
   ·simp [h]
  ·rw [Bool.eq_iff_iff]
   simp [List.contains_iff_mem]
theorem Yfb (zs) (z):(uq (zs++ [z])).length=if inU zs (.inr z)=true then (uq zs).length else (uq zs).length+1:=by
 rw [Yac]
 show (stU (uq zs) z).length=if (uq zs).contains z=true then _ else _
 unfold stU
 split <;> simp
section
variable {prog:Sb} {w:Sd} {A:Se} {R:Result->S7->Prop} {I:S5} {fp wr:List S5} {n:Nat} {P:Nat->S6->Prop} {St:Nat->Sg->Prop}
theorem Jta {h h':Sg} (hS:h.SetOf (Joh prog w) a S m) (k:∀o,h.get? a=some o->h'.get? a=some o) (e:∀x,S x=T x) (en:m=m'):h'.SetOf (Joh prog w) a T m':=by
 obtain rfl:S=T:=funext e
 subst en
 obtain ⟨o,es,ep,t,ho,rest⟩:=hS
 exact ⟨o,es,ep,t,k o ho,rest⟩
theorem Yb (W:Walks prog w A.in1 I fp wr n P St) (S) (hSf:S∉fp) (zs) (hn:zs.length=n) (hP:∀i v,P i v->∃z t,zs[i]?=some z/\v= .str z t) (hb:n+1 < scanBound):
  ∀k i s,n - i=k->i<=n->St i s.heap->s.heap.SetOf (Joh prog w) S (inU (zs.take i)) (uq (zs.take i)).length->
   (∀h' tk,(∀b o,b≠S->b∉wr->s.heap.get? b=some o->h'.get? b=some o)->h'.SetOf (Joh prog w) S (inU zs) (uq zs).length->R (.ok (.ret .none)) {s with heap:=h',toks:=tk})->
   codeAny (model prog w) A (.builtin "set.update.loop" ⟨[.ref S,.ref I],[]⟩) R s:=by
 have hSw:=λh=>hSf (W.sub _ h)
 intro k
 induction k with
 |zero=>
  intro i s hk hi hst hS hR
  obtain rfl:i=n:=by omega
  refine codeAny_builtin PyProof.Rows.F.entry_set_update_loop ?_
  refine S8 (W.done s _ _ hst λh' tk km=>?_)
  refine S9 (hR h' tk (λb o _ nb e=>km b o nb e) (Jta hS (λo e=>km S o hSw e) (λx=>?_) ?_))
  ·rw [yaf (by omega)]
  ·rw [yaf (by omega)]
 |succ k ih=>
  intro i s hk hi hst hS hR
  have hlt:i < n:=by omega
  refine codeAny_builtin PyProof.Rows.F.entry_set_update_loop ?_
  refine S8 (W.item i s _ _ hlt hst λv h1 tk hv hst1 km=>?_)
  obtain ⟨z,t,hz,rfl⟩:=hP i v hv
  have et:zs.take (i+1)=zs.take i++ [z]:=by rw [yag,hz];rfl
  have room:(uq (zs.take i)).length+1 < scanBound:=by
   have h1:=Snz (zs.take i)
   rw [yz] at h1
   omega
  refine S8 (wpAny_holding ?_)
  refine wpAny_holding (S8 ((Joh prog w).pyHash (Juf _ _ _ _) ?_))
  refine wpAny_setAddHashed_of (Juf _ _ _ _) rfl (Jta hS (λo e=>km S o hSw e) (λ_=>rfl) rfl) room λh2 sb hS2=>S9 ⟨plainId_quiet PyProof.Rows.F.plain_set_update_loop _,ih (i+1) _ (by omega) hlt (W.frame _ _ _ hst1 λb hbf o e=>?_) (Jta hS2 (λo e=>e) (λx=>?_) ?_) λh3 tk3 k3 hS3=>?_⟩
  ·show h2.get? b=some o
   rw [sb.2 b (λq=>hSf (by rw [<-q];exact hbf))]
   exact e
  ·rw [et,Yc8]
  ·rw [et,Yfb]
  ·exact hR h3 tk3 (λb o nS nw e=>k3 b o nS nw (by show h2.get? b=some o;rw [sb.2 b nS];exact km b o nw e)) hS3
end
section
variable {prog:Sb} {w:Sd} {A:Se} {E:S6->S7->Prop} {s:S7}
set_option maxRecDepth 100000 in
set_option maxHeartbeats 3200000 in
theorem Yb5 {l:S5} {items:Array S6} {zs:List Str} {Q:S6->S7->Prop} (hh:A.handled=none) (hl:s.heap.IsList l items) (hz:zs.length=items.size) (hi:∀(i:Nat) (v:S6),items[i]?=some v->∃z t,zs[i]?=some z/\v= .str z t) (hb:items.size+1 < scanBound)
  (h:∀(h':Sg) (tk:Nat),h'.SetOf (Joh prog w) s.heap.objs.size (inU zs) (uq zs).length->(∀b o,s.heap.get? b=some o->h'.get? b=some o)->Q (.ref s.heap.objs.size) {s with heap:=h',toks:=tk}):Sh (model prog w) A (call (.type "set") [.ref l]) Q E s:=by
 obtain ⟨cc,tl,hmro⟩:=F.called_set.mro
 have hmade:=F.called_set.made
 have hsub:=F.called_set.sub
 refine wpAny_call (codeAny_of_tree ?_)
 show Sh _ _ (callAny (.type "set") _) _ _ _
 refine S9 ⟨Code.quiet_builtin _ (by decide +kernel),codeAny_builtin F.entry_type_call ?_⟩
 rw [Around.under_plain (weight_type_call_type "set" [.ref l] []) rfl]
 have g1:=F.called_set.notType
 have g2:=F.called_set.canCreate
 have g3:=F.typeCall_set_1 (.ref l)
 repeat (any_goals (first|assumption|wp_step))
 refine codeAny_mono (code_set_new_1 (.ref l) (E:=E) (Q₁:=λobj s1=>∃led:Bool,obj= .ref s.heap.objs.size/\s1={s with heap:=s.heap.push {cls:=.type "set",dict:=none,data:=.set #[] 0 (.fresh 0 0 led)}}) λled=>⟨led,rfl,rfl⟩) λr s1 hr=>?_
 cases r with
 |error e=>exact hr
 |ok fl=>
  cases fl with
  |ret obj=>
   obtain ⟨led,rfl,rfl⟩:=hr
   have hS:(s.heap.push {cls:=.type "set",dict:=none,data:=.set #[] 0 (.fresh 0 0 led)}).get? s.heap.objs.size=some {cls:=.type "set",dict:=none,data:=.set #[] 0 (.fresh 0 0 led)}:=yq _ rfl
   have hT:Shared.TypeIs {s with heap:=s.heap.push {cls:=.type "set",dict:=none,data:=.set #[] 0 (.fresh 0 0 led)}} (.ref s.heap.objs.size) "set" :=⟨_,hS,rfl⟩
   have g4:=F.called_set.init.lookup
   have g5:=F.called_set.init.bind (.ref s.heap.objs.size)
   repeat (any_goals (first|assumption|wp_step))
   refine codeAny_mono (codeAny_call_builtin (R:=wants (λr s2=>r= .none/\∃h' tk,s2={s with heap:=h',toks:=tk}/\h'.SetOf (Joh prog w) s.heap.objs.size (inU zs) (uq zs).length/\(∀b o,s.heap.get? b=some o->h'.get? b=some o)) E) F.called_set.init.plain F.entry_set_init (check_set_init_1 hT ?_)) λr2 s2 hr2=>?_
   ·obtain ⟨⟨oc,od,oda,osl⟩,hol,hcl,nl,hdl⟩:=hl
    simp only at hcl hdl
    subst hcl hdl
    have hol':(s.heap.push {cls:=.type "set",dict:=none,data:=.set #[] 0 (.fresh 0 0 led)}).get? l=some {cls:=.type "list",dict:=od,data:=.seq items nl,slots:=osl}:=yn _ hol
    have g6:=F.sub_list_set
    have g7:=F.sub_list_frozenset
    have g8:(Value.type "list" ==Value.type "dict")=false:=by decide
    have hl1:(s.heap.push {cls:=.type "set",dict:=none,data:=.set #[] 0 (.fresh 0 0 led)}).IsList l items:=⟨_,hol',rfl,nl,rfl⟩
    unfold Builtin.«set.__init__» noKeywords Builtin.Frozenset.updateFrom
    generalize hPI:pyIter=PI
    wp_walk
    subst hPI
    refine wpAny_pyIter_list hl1 (S8 (wpAny_runValue ?_))
    have lS:l < s.heap.objs.size:=yi hol
    have h3:A.in1.in1.in1.handled=none:=by simp [hh]
    have nI:l≠(s.heap.push {cls:=.type "set",dict:=none,data:=.set #[] 0 (.fresh 0 0 led)}).objs.size:=by rw [yaa];exact yr (ybz lS)
    have nS:s.heap.objs.size∉ [(s.heap.push {cls:=.type "set",dict:=none,data:=.set #[] 0 (.fresh 0 0 led)}).objs.size,l]:=by
     rw [yaa]
     simp only [yk,yp,or_false,not_or]
     exact ⟨yr (ybw _),yaw lS⟩
    refine Yb (Walks.list h3 _ l nI items) s.heap.objs.size nS zs hz hi hb (items.size - 0) 0 _ (by omega) (yad _) ⟨⟨_,yq _ rfl,rfl,rfl⟩,hl1.push _⟩ ?S0 ?R0
    case S0=>
     have q:((s.heap.push {cls:=.type "set",dict:=none,data:=.set #[] 0 (.fresh 0 0 led)}).push {cls:=.type "list_iterator",data:=.fields #[.ref l,.int 0 0]}).get? s.heap.objs.size=some {cls:=.type "set",dict:=none,data:=.set #[] 0 (.fresh 0 0 led)}:=yn _ hS
     refine ⟨_,#[],0,_,q,⟨rfl,rfl,rfl⟩,rfl,λe he=>by simp at he,λx=>?_,by decide,by rfl,rfl⟩
     cases x <;> simp [inU,uq]
    case R0=>
    intro h' tk km hS'
    show Sh _ _ _ _ _ _
    refine S9 ?_
    show Sh _ _ (ret Value.none) _ _ _
    refine S9 ⟨rfl,h',tk,rfl,hS',λb o e=>?_⟩
    have lb:b < s.heap.objs.size:=yi e
    refine km b o (yr lb) ?_ (yn _ (yn _ e))
    rw [yaa]
    simp only [yk,yp,or_false]
    exact yr (ybz lb)
   ·cases r2 with
    |error e=>exact hr2
    |ok fl2=>
     cases fl2 with
     |ret r=>
      obtain ⟨rfl,h',tk,rfl,hS',hk'⟩:=hr2
      repeat (any_goals (first|assumption|wp_step))
      exact h _ _ hS' hk'
     |_=>exact hr2.elim
  |_=>exact hr.elim
end
def TxS (P:Sb) (w:Sd) (a:S5) (zs:List Str):HO:=.ext λh=>h.SetOf (Joh P w) a (inU zs) (uq zs).length
theorem Snu (hS:h.SetOf (Joh P w) a (inU zs) (uq zs).length):Sav P w H h a (TxS P w a zs):=
 ⟨hS,(let ⟨o,_,_,_,ho,_⟩:=hS;⟨o,ho⟩),λ_ _ p k=>Jta p k (λ_=>rfl) rfl⟩
section
variable {X:Cx}
theorem Jvd (hc:X.calm=true):Jpl X (.type "set") (λxs H Q=>∃(l:S5) (zs:List Str),xs= [.ref l]/\Sy X.K H l (zs.map V.str)/\zs.length<=2000/\∀a,H a=none->Q (.ref a) (upd H a (TxS X.prog X.w a zs))):=by
 rintro pins s σ H xs us Q I r ⟨l,zs,rfl,hq,hz,q⟩
 obtain ⟨u,rfl,ru⟩:=Jq6 r
 obtain rfl:u=Value.ref l:=ru
 obtain ⟨its,rv,pl,_⟩:=I.list hq
 have hlen:=rv.length
 rw [yf] at hlen
 refine Yb5 (I.ok.hd hc) pl.isList (by simpa using hlen) (λi v hv=>?_) (by simp only [ym];unfold scanBound;omega) λh' tk hS kk=>⟨.ref s.heap.objs.size,_,I.laid kk (yl _) (Snu hS),rfl,q _ (I.hok.fresh (yl _))⟩
 ·have hv':=by simpa using hv
  have hlt:i < zs.length:=by have:=(yo.mp hv').1;omega
  obtain ⟨u,hu,ru⟩:=rv.get (by rw [yj,yh hlt];rfl)
  rw [hv'] at hu
  cases hu
  obtain ⟨t,rfl⟩:=ru
  exact ⟨zs[i],t,yh hlt,rfl⟩
theorem Jvc:Jpl X (.builtin "len") (λxs H Q=>∃(a:S5) (zs:List Str),xs= [.ref a]/\H a=some (TxS X.prog X.w a zs)/\Q (.int (uq zs).length) H):=by
 rintro pins s σ H xs us Q I r ⟨a,zs,rfl,ha,q⟩
 obtain ⟨u,rfl,ru⟩:=Jq6 r
 obtain rfl:u=Value.ref a:=ru
 obtain ⟨o,es,ep,t,ho,hex,hd,_,_,hb,hf,hn⟩:=(I.hok a _ ha).1
 refine call_len_set ho hex hd hf (by unfold scanBound at hb;omega) ?_
 rw [hn]
 exact ⟨.int _,H,I.tok _,⟨_,rfl⟩,q⟩
end
theorem Jtm:bootBuiltins "sum" =some (.builtin "sum"):=by decide +kernel
theorem Slz:bootBuiltins "set" =some (.type "set"):=by decide +kernel
theorem Jsw:bootBuiltins "enumerate" =some (.type "enumerate"):=by decide +kernel
def Sml (ns:List Int):Prop:=ns.length<=2000/\∀n∈ns,-1000000<=n/\n<=1000000
theorem Jv3 (ns:List Int):∀i,i<=ns.length->preSum (λj=>ns.getD j 0) i=(ns.take i).sum
 |0,_=>by simp [preSum]
 |i+1,h=>by
  have ih:=Jv3 ns i (by omega)
  have hlt:i < ns.length:=by omega
  have e:ns.take (i+1)=ns.take i++ [ns[i]]:=by rw [yag,yh hlt];rfl
  have e2:ns.getD i 0=ns[i]:=by simp [yh hlt]
  rw [e,List.sum_append]
  simp only [ybp,List.sum_nil]
  show preSum (λj=>ns.getD j 0) i+ns.getD i 0=_
  omega
theorem Yd9:∀(l:List Int),(∀n∈l,-1000000<=n/\n<=1000000)-> -1000000*(l.length:Int)<=l.sum/\l.sum<=1000000*(l.length:Int)
 | [],_=>by simp
 |n::r,h=>by
  have h1:=h n yan
  have h2:=Yd9 r λm hm=>h m (yac _ hm)
  rw [ybp,yai]
  constructor <;> omega
section
variable {X:Cx}
inductive Suy (K:Si) (xs:List V) (H:Hp) (Q:VK):Prop where
 |mk (a:S5) (ns:List Int) (_:xs= [.ref a]) (_:(Sy K H a (ns.map V.int)\/SqT K H a (ns.map V.int))) (_:Sml ns) (_:Q (.int ns.sum) H)
theorem Jqg (hc:X.calm=true):Jpl X (.builtin "sum") (Suy X.K):=by
 rintro pins s σ H xs us Q I r ⟨a,ns,rfl,hq,hs,q⟩
 obtain ⟨u,rfl,ru⟩:=Jq6 r
 obtain rfl:u=Value.ref a:=ru
 have fit:∀j,j < ns.length->InLong ((λj=>ns.getD j 0) j)/\InLong (preSum (λj=>ns.getD j 0) (j+1)):=λj hj=>by
  have e2:ns.getD j 0=ns[j]:=by simp [yh hj]
  have b1:=hs.2 _ (yba hj)
  have b2:=Yd9 (ns.take (j+1)) λm hm=>hs.2 m (List.mem_of_mem_take hm)
  have b3:(ns.take (j+1)).length<=2000:=by have:=hs.1;rw [yz];omega
  rw [Jv3 ns (j+1) (by omega)]
  refine ⟨?_,?_⟩
  ·show InLong (ns.getD j 0)
   constructor <;> omega
  ·unfold InLong
   constructor <;> omega
 have fin:∀{its:List S6} (rv:Sa4 (ns.map V.int) its) (i:Nat) v,its.toArray[i]?=some v->∃t,v= .int ((λj=>ns.getD j 0) i) t:=λ{its} rv i v hv=>by
  have hv':=by simpa using hv
  have hl:=rv.length
  rw [yf] at hl
  have hi:i < ns.length:=by have:=(yo.mp hv').1;omega
  obtain ⟨u',hu',ru'⟩:=rv.get (by rw [yj,yh hi];rfl)
  rw [hv'] at hu'
  cases hu'
  obtain ⟨t,rfl⟩:=ru'
  exact ⟨t,by simp [yh hi]⟩
 rcases hq with hq|hq
 ·obtain ⟨its,rv,pl,_⟩:=I.list hq
  have hl:=rv.length
  rw [yf] at hl
  have ne:a≠s.heap.objs.size:=by obtain ⟨o,_,e,_⟩:=pl;exact yr (yi e)
  refine call_sum_walk (wpAny_pyIter_list pl.isList ⟨s.heap.objs.size,_,_,its.toArray.size,_,_,λj=>ns.getD j 0,rfl,Walks.list (A:=X.A.in1) (I.ok.hd hc) s.heap.objs.size a ne its.toArray,⟨⟨_,yq _ rfl,rfl,rfl⟩,pl.isList.push _⟩,λb hb=>?_,fin rv,λj hj=>fit j (by simp only [ym] at hj;omega),λh' tk t' k=>?_⟩)
  ·rw [yaa]
   simp only [yk,yp,or_false] at hb
   rcases hb with rfl|rfl
   ·exact ybw _
   ·obtain ⟨o,_,e,_⟩:=pl
    exact ybz (yi e)
  ·have e:preSum (λj=>ns.getD j 0) its.toArray.size=ns.sum:=by
    rw [Jv3 ns _ (by simp only [ym];omega),yaf (by simp only [ym];omega)]
   rw [e]
   exact ⟨.int _,H,I.kept λb o e=>k b o (λz=>by
    have z':=by simpa using z
    exact absurd (yi e) (by rw [z'];exact yay _)) (yn _ e),⟨_,rfl⟩,q⟩
 ·obtain ⟨its,rv,pt,_⟩:=I.tuple hq
  have hl:=rv.length
  rw [yf] at hl
  have ne:a≠s.heap.objs.size:=by obtain ⟨o,e,_⟩:=pt;exact yr (yi e)
  refine call_sum_walk (wpAny_pyIter_tuple (pt) ⟨s.heap.objs.size,_,_,its.toArray.size,_,_,λj=>ns.getD j 0,rfl,Walks.tuple (A:=X.A.in1) (I.ok.hd hc) s.heap.objs.size a ne its.toArray,⟨⟨_,yq _ rfl,rfl,rfl⟩,Heap.IsTuple.push pt _⟩,λb hb=>?_,fin rv,λj hj=>fit j (by simp only [ym] at hj;omega),λh' tk t' k=>?_⟩)
  ·rw [yaa]
   simp only [yk,yp,or_false] at hb
   rcases hb with rfl|rfl
   ·exact ybw _
   ·obtain ⟨o,e,_⟩:=pt
    exact ybz (yi e)
  ·have e:preSum (λj=>ns.getD j 0) its.toArray.size=ns.sum:=by
    rw [Jv3 ns _ (by simp only [ym];omega),yaf (by simp only [ym];omega)]
   rw [e]
   exact ⟨.int _,H,I.kept λb o e=>k b o (λz=>by
    have z':=by simpa using z
    exact absurd (yi e) (by rw [z'];exact yay _)) (yn _ e),⟨_,rfl⟩,q⟩
end
def ItE (K:Si) (a:S5):It:=⟨λi H=>∃xs x,Sy K H a xs/\xs[i]?=some x,
 λi H x H'=>∃T u,H T=none/\x= .ref T/\(∀xs,Sy K H a xs->xs[i]?=some u)/\H'=upd H T (.tup [.int i,u]),
 λi H=>∃xs,Sy K H a xs/\i=xs.length⟩
def Sh7 (e it l:S5) (i:Nat) (h:Sg):Prop:=(∃old,IsEnum h e it i old)/\h.IsListIter it l i
theorem Sh7.obj (st:Sh7 e it l i h):∀b∈ [e,it],∃o,h.get? b=some o/\∀v,o.data≠ .cell v:=λb hb=>by
 obtain ⟨⟨old,h1⟩,⟨o4,h4,_,d4⟩⟩:=st
 simp only [yk,yp,or_false] at hb
 rcases hb with rfl|rfl
 ·exact ⟨_,h1,λv z=>by cases z⟩
 ·exact ⟨o4,h4,λv z=>by rw [d4] at z;cases z⟩
theorem Ydh {K} (e it l) (n1:e≠it) (n2:l≠e) (n3:l≠it):
  Turn P w K (.Tuple elts kt pt) (ItE K l) [e,it] e (Sh7 e it l) where
 mem:=by simp
 obj:=λi h st=>st.obj
 keep:=λi h h' st k=>by
  obtain ⟨⟨old,h1⟩,h2⟩:=st
  exact ⟨⟨old,k e (by simp) _ h1⟩,h2.at λo q=>k it (by simp) o q⟩
 item:=by
  intro X hP hw hK hc i pins s σ H E I hf st hg
  subst hP hw hK
  obtain ⟨xs,x,q1,hx⟩:=hg
  obtain ⟨its,rv,p1,_⟩:=I.list q1
  obtain ⟨u,hu,ru⟩:=rv.get hx
  have W:=WalksT.enumerate (prog:=X.prog) (w:=X.w) (I.ok.hd hc) e it l n1 n2 n3 its.toArray
  obtain ⟨s1,s2⟩:=st
  have li:=(yo.mp hu).1
  refine W.item i s _ _ (by simp only [ym];omega) ⟨s1,s2,p1.isList⟩ λT vals h' tk hP fT tT mid kk=>⟨_,rfl,W.go elts kt pt i T _ _ _ mid λh'' st'' kk2=>?_⟩
  obtain ⟨t,a,ha,rfl⟩:=hP
  have ea:=by simpa [hu] using ha.symm
  subst ea
  obtain ⟨t1,t2,_⟩:=st''
  have kT:h''.IsTuple T #[.int i t,a]:=by
   obtain ⟨o,q,r⟩:=tT
   exact ⟨o,kk2 T o (W.apart i T h' mid) q,r⟩
  refine ⟨.ref T,upd H T (.tup [.int i,x]),I.turnTup hf (λc o hc q=>kk2 c o hc (kk c o hc q)) fT ⟨(show 2<=Sa by decide),[.int i t,a],.cons ⟨t,rfl⟩ (.cons ru .nil),kT⟩,rfl,⟨T,x,I.hok.fresh fT,rfl,λxs' hq=>by rw [I.list_inj hq q1];exact hx,rfl⟩,⟨t1,t2⟩,λc hc=>?_⟩
  rw [Jmm (λw'=>?_)]
  ·exact ((hf c hc).1)
  ·subst w'
   obtain ⟨o,q,_⟩:=Sh7.obj (⟨s1,s2⟩) c hc
   exact absurd (yi q) (ybf.mpr fT)
 done:=by
  intro X hP hw hK hc i pins s σ H E I hf st hg
  subst hP hw hK
  obtain ⟨xs,q1,hi⟩:=hg
  obtain ⟨its,rv,p1,_⟩:=I.list q1
  obtain ⟨s1,s2⟩:=st
  have e1:=rv.length
  have ei:i=its.toArray.size:=by simp only [ym];omega
  subst ei
  exact (WalksT.enumerate (I.ok.hd hc) e it l n1 n2 n3 its.toArray).done s _ _ ⟨s1,s2,p1.isList⟩ λh' tk kk=>⟨rfl,I.turnMany hf λc o hc q=>kk c o hc q⟩
 self:=λ_ _ _ _ _ st h=>let ⟨_,q⟩:=st.1;wpAny_pyIter_enum q h
def Suh (K:Si) (ta:TA):TI:=λσ H R=>ta σ H λvs H1=>∃a,vs= [.ref a]/\(∃xs,Sy K H1 a xs)/\R (ItE K a) H1
theorem Ya2 (hg:Gl X "enumerate") (hm:X.mg "enumerate" =none) (ha:PA X [a] ta) (hs:starEach [a] X.env= [(false,eval a X.env)]:=by rfl):
  PI X (.Tuple elts kt pt) (.Call (.Name "enumerate" p) [a] [] pos) (Suh X.K ta):=by
 intro pins s σ H R I h
 refine Call_ (Jqt I hg hm Jsw (PyProof.Rows.callWith_type1 (thn (ha pos pins s σ H _ I h) λus s1 zq=>?_) (by rw [hs];rfl) rfl))
 obtain ⟨vs,H1,I1,r1,q1⟩:=zq
 obtain ⟨l,rfl,⟨xs,q1⟩,q⟩:=q1
 obtain ⟨u,rfl,r2⟩:=Jq6 r1
 obtain rfl:u=Value.ref l:=r2
 obtain ⟨its,rv,p1,_⟩:=I1.list q1
 have a1:l < s1.heap.objs.size:=by obtain ⟨o,n,e,_⟩:=p1;exact yi e
 refine call_enumerate_list p1.isList λh' z1 z2 z3 kk=>?_
 have I2:Su X pins σ H1 {s1 with heap:=h'}:=I1.kept kk
 refine wpAny_pyIter_enum z1 ⟨_,_,_,_,H1,rfl,I2,Ydh (s1.heap.objs.size+1) s1.heap.objs.size l (Nat.succ_ne_self _) (yr (ybz a1)) (yr a1),⟨⟨_,z1⟩,z2⟩,λc hc=>?_,q⟩
 have hc':s1.heap.objs.size<=c:=by
  simp only [yk,yp,or_false] at hc
  rcases hc with rfl|rfl
  ·exact Nat.le_succ _
  ·exact yl _
 exact I1.fpOk hc' (I1.hok.fresh hc')
section
variable {prog:Sb} {w:Sd} {A:Se} {E:S6->S7->Prop} {s:S7}
theorem Jya {x} {Q} (hit:s.heap.IsTupleIter it t i) (ht:s.heap.IsTuple t items) (hx:items[i]?=some x)
  (hQ:∀h',h'.IsTupleIter it t (i+1)->yas it s.heap h'->Q x {s with heap:=h'}):Sh (model prog w) A (Builtin.SmallTypes.nextOf (.ref it)) Q E s:=by
 obtain ⟨o,ho,hc,hd⟩:=id hit
 obtain ⟨ol,hol,_,nl,hdl⟩:=ht
 have hT:s.TypeIs (.ref it) "tuple_iterator" :=⟨o,ho,hc⟩
 refine S8 (wpAny_callSpecial?_slot hT slot_tupleiter_next (wpAny_call_entry slot_tupleiter_next hT entry_tupleiter_next ?_ (args_tupleiter_next _)))
 refine S8 (m:=field (.ref it) 0) (wpAny_field ho hd rfl (S8 (wpAny_field ho hd rfl (S8 (wpAny_seqItems hol hdl ?_)))))
 simp only [ybc,hx]
 refine S8 (wpAny_setField ho hd (by simp) (S9 ⟨x,rfl,S9 (hQ _ ⟨_,ybt _ ho (Obj.isFreed_of_fields (Obj.data_mapFields hd _)),(Obj.cls_mapFields ..).trans hc,?_⟩ (yas.update ..))⟩))
 rw [Obj.data_mapFields hd]
 simp [rawInt]
theorem Jz4 {Q} (hh:A.handled=none) (hit:s.heap.IsTupleIter it t i) (ht:s.heap.IsTuple t items) (hx:items[i]?=none)
  (hE:∀h' e,Heap.ExtBut it s.heap h'->(∃o,h'.get? e=some o/\o.cls= .type "StopIteration")->E (.ref e) {s with heap:=h'}):Sh (model prog w) A (Builtin.SmallTypes.nextOf (.ref it)) Q E s:=by
 obtain ⟨o,ho,hc,hd⟩:=id hit
 obtain ⟨ol,hol,_,nl,hdl⟩:=ht
 have hT:s.TypeIs (.ref it) "tuple_iterator" :=⟨o,ho,hc⟩
 refine S8 (wpAny_callSpecial?_slot hT slot_tupleiter_next (wpAny_call_entry slot_tupleiter_next hT entry_tupleiter_next ?_ (args_tupleiter_next _)))
 refine S8 (m:=field (.ref it) 0) (wpAny_field ho hd rfl (S8 (wpAny_field ho hd rfl (S8 (wpAny_seqItems hol hdl ?_)))))
 simp only [ybc,hx]
 refine S8 (wpAny_rule (S8 (wpAny_setField ho hd (by simp) (S8 (S8 (wpAny_newObj_type (S8 (wpAny_of_eq (by first|rfl|(simp only [firstArgMember];rfl)) (wpAny_newObj_type (S8 (wpAny_handled ?_)) (by size_fits)))) (by size_fits)))))))
 first|rw [hh]|rw [hh]
 exact S8 (S9 (wpAny_throw (hE _ _ (((yas.update ..).extBut.push _).push _) ⟨_,yq _ rfl,rfl⟩)))
end
theorem Jtp (hh:A.handled=none) (it l) (hne:l≠it) (items):
  Draws prog w A it [it,l] items.size (λi v=>items[i]?=some v) (λi h=>h.IsTupleIter it l i/\h.IsTuple l items) where
 live:=λ_ _ st=>let ⟨o,ho,_⟩:=st.1;⟨o,ho⟩
 frame:=λ_ _ _ st hk=>⟨st.1.at λo e=>hk it (by simp) o e,st.2.at λo e=>hk l (by simp) o e⟩
 item:=λi s Q E hi st hQ=>Jya st.1 st.2 (x:=items[i]) (by simp [hi]) λh' hit' hs'=>hQ _ h' s.toks (by simp [hi]) ⟨hit',st.2.extBut hs'.extBut hne⟩ hs'
 done:=λs Q E st hE=>Jz4 hh st.1 st.2 (by simp) hE
set_option maxRecDepth 100000 in
set_option maxHeartbeats 2000000 in
theorem Ybz (l) (items) (n) (dct) (sl):
  Meets (Builtin.«enumerate.__new__» ⟨[.type "enumerate",.ref l],[]⟩) (λ_ R s=>s.heap.get? l=some {cls:=.type "tuple",dict:=dct,data:=.seq items n,slots:=sl}/\
   R (.ok (.ret (.ref (s.heap.push {cls:=.type "tuple_iterator",data:=.fields #[.ref l,.int 0 0]}).objs.size)))
    {s with heap:=(s.heap.push {cls:=.type "tuple_iterator",data:=.fields #[.ref l,.int 0 0]}).push {cls:=.type "enumerate",data:=.fields #[.none,.bool false,.ref s.heap.objs.size,rawInt 0,.none,.none]}}):=
 .of_wp λprog w A R s h=>by
  obtain ⟨hp,g,d,tk,os⟩:=s
  obtain ⟨hl,h⟩:=h
  have e1:=sub_enumerate
  have e2:Heap.IsTuple (Shared.heap ⟨hp,g,d,tk,os⟩) l items:=⟨_,hl,rfl,n,rfl⟩
  wp_walk using AutoSeq1.wpAny_loadPart' hl
  refine wpAny_stack_any λst=>S9 ?_
  split
  ·rename_i c _ _ _ _ _
   cases (c==Value.type "enumerate")
   ·wp_walk using AutoSeq1.wpAny_loadPart' hl,wpAny_pyIter_tuple e2
    exact ⟨_,rfl,h⟩
   ·wp_walk using AutoSeq1.wpAny_loadPart' hl,wpAny_pyIter_tuple e2
    exact ⟨_,rfl,h⟩
  ·wp_walk using AutoSeq1.wpAny_loadPart' hl,wpAny_pyIter_tuple e2
   exact ⟨_,rfl,h⟩
section
variable {prog:Sb} {w:Sd} {A:Se} {E:S6->S7->Prop} {s:S7}
theorem Yaj (hL:s.heap.IsTuple l items)
  (h:∀h',IsEnum h' (s.heap.objs.size+1) s.heap.objs.size 0 .none->h'.IsTupleIter s.heap.objs.size l 0->(∀b o,s.heap.get? b=some o->h'.get? b=some o)->Q (.ref (s.heap.objs.size+1)) {s with heap:=h'}):
  Sh (model prog w) A (call (.type "enumerate") [.ref l]) Q E s:=by
 obtain ⟨⟨c,dct,dt,sl⟩,hl,hc,n,hd⟩:=hL
 subst hc hd
 refine callType_new F.called_enumerate (by decide) (F.typeCall_enumerate_1 _) (F.newCall_enumerate_1 _) (λobj=>F.args_object_init_2 obj _) F.entry_enumerate_new (Ybz l items n dct sl) ⟨hl,?_⟩
 have hz:(s.heap.push {cls:=.type "tuple_iterator",data:=.fields #[.ref l,.int 0 0]}).objs.size=s.heap.objs.size+1:=yaa ..
 rw [hz]
 have he:=by
  have q:=yq (s.heap.push {cls:=.type "tuple_iterator",data:=.fields #[.ref l,.int 0 0]}) (o:={cls:=.type "enumerate",data:=.fields #[.none,.bool false,.ref s.heap.objs.size,rawInt 0,.none,.none]}) rfl
  rw [hz] at q
  exact q
 exact ⟨⟨_,he,rfl⟩,h _ he ⟨_,yn _ (yq _ rfl),rfl,rfl⟩ λb o x=>yn _ (yn _ x)⟩
end
def ItU (K:Si) (a:S5):It:=⟨λi H=>∃xs x,SqT K H a xs/\xs[i]?=some x,
 λi H x H'=>∃T u,H T=none/\x= .ref T/\(∀xs,SqT K H a xs->xs[i]?=some u)/\H'=upd H T (.tup [.int i,u]),
 λi H=>∃xs,SqT K H a xs/\i=xs.length⟩
def Sh8 (e it l:S5) (i:Nat) (h:Sg):Prop:=(∃old,IsEnum h e it i old)/\h.IsTupleIter it l i
theorem Sh8.obj (st:Sh8 e it l i h):∀b∈ [e,it],∃o,h.get? b=some o/\∀v,o.data≠ .cell v:=λb hb=>by
 obtain ⟨⟨old,h1⟩,⟨o4,h4,_,d4⟩⟩:=st
 simp only [yk,yp,or_false] at hb
 rcases hb with rfl|rfl
 ·exact ⟨_,h1,λv z=>by cases z⟩
 ·exact ⟨o4,h4,λv z=>by rw [d4] at z;cases z⟩
theorem Ybd {K} (e it l) (n1:e≠it) (n2:l≠e) (n3:l≠it):
  Turn P w K (.Tuple elts kt pt) (ItU K l) [e,it] e (Sh8 e it l) where
 mem:=by simp
 obj:=λi h st=>st.obj
 keep:=λi h h' st k=>by
  obtain ⟨⟨old,h1⟩,h2⟩:=st
  exact ⟨⟨old,k e (by simp) _ h1⟩,h2.at λo q=>k it (by simp) o q⟩
 item:=by
  intro X hP hw hK hc i pins s σ H E I hf st hg
  subst hP hw hK
  obtain ⟨xs,x,q1,hx⟩:=hg
  obtain ⟨its,rv,p1,_⟩:=I.tuple q1
  obtain ⟨u,hu,ru⟩:=rv.get hx
  have hh:X.A.in1.handled=none:=I.ok.hd hc
  have W:=WalksT.enumerateD (prog:=X.prog) (w:=X.w) (Jtp hh it l n3 its.toArray) e n1 (by simp [n1,yg n2]) (by simp)
  obtain ⟨s1,s2⟩:=st
  have li:=(yo.mp hu).1
  refine W.item i s _ _ (by simp only [ym];omega) ⟨s1,s2,p1⟩ λT vals h' tk hP fT tT mid kk=>⟨_,rfl,W.go elts kt pt i T _ _ _ mid λh'' st'' kk2=>?_⟩
  obtain ⟨t,a,ha,rfl⟩:=hP
  have ea:=by simpa [hu] using ha.symm
  subst ea
  obtain ⟨t1,t2,_⟩:=st''
  have kT:h''.IsTuple T #[.int i t,a]:=by
   obtain ⟨o,q,r⟩:=tT
   exact ⟨o,kk2 T o (W.apart i T h' mid) q,r⟩
  refine ⟨.ref T,upd H T (.tup [.int i,x]),I.turnTup hf (λc o hc q=>kk2 c o hc (kk c o hc q)) fT ⟨(show 2<=Sa by decide),[.int i t,a],.cons ⟨t,rfl⟩ (.cons ru .nil),kT⟩,rfl,⟨T,x,I.hok.fresh fT,rfl,λxs' hq=>by rw [I.tuple_inj hq q1];exact hx,rfl⟩,⟨t1,t2⟩,λc hc=>?_⟩
  rw [Jmm (λw'=>?_)]
  ·exact ((hf c hc).1)
  ·subst w'
   obtain ⟨o,q,_⟩:=Sh8.obj (⟨s1,s2⟩) c hc
   exact absurd (yi q) (ybf.mpr fT)
 done:=by
  intro X hP hw hK hc i pins s σ H E I hf st hg
  subst hP hw hK
  obtain ⟨xs,q1,hi⟩:=hg
  obtain ⟨its,rv,p1,_⟩:=I.tuple q1
  have hh:X.A.in1.handled=none:=I.ok.hd hc
  obtain ⟨s1,s2⟩:=st
  have e1:=rv.length
  have ei:i=its.toArray.size:=by simp only [ym];omega
  subst ei
  exact (WalksT.enumerateD (Jtp hh it l n3 its.toArray) e n1 (by simp [n1,yg n2]) (by simp)).done s _ _ ⟨s1,s2,p1⟩ λh' tk kk=>⟨rfl,I.turnMany hf λc o hc q=>kk c o hc q⟩
 self:=λ_ _ _ _ _ st h=>let ⟨_,q⟩:=st.1;wpAny_pyIter_enum q h
def Spw (K:Si) (ta:TA):TI:=λσ H R=>ta σ H λvs H1=>∃a,vs= [.ref a]/\(∃xs,SqT K H1 a xs)/\R (ItU K a) H1
theorem Jyw (hg:Gl X "enumerate") (hm:X.mg "enumerate" =none) (ha:PA X [a] ta) (hs:starEach [a] X.env= [(false,eval a X.env)]:=by rfl):
  PI X (.Tuple elts kt pt) (.Call (.Name "enumerate" p) [a] [] pos) (Spw X.K ta):=by
 intro pins s σ H R I h
 refine Call_ (Jqt I hg hm Jsw (PyProof.Rows.callWith_type1 (thn (ha pos pins s σ H _ I h) λus s1 zq=>?_) (by rw [hs];rfl) rfl))
 obtain ⟨vs,H1,I1,r1,q1⟩:=zq
 obtain ⟨l,rfl,⟨xs,q1⟩,q⟩:=q1
 obtain ⟨u,rfl,r2⟩:=Jq6 r1
 obtain rfl:u=Value.ref l:=r2
 obtain ⟨its,rv,p1,_⟩:=I1.tuple q1
 have a1:l < s1.heap.objs.size:=by obtain ⟨o,e,_⟩:=p1;exact yi e
 refine Yaj (p1) λh' z1 z2 kk=>?_
 have I2:Su X pins σ H1 {s1 with heap:=h'}:=I1.kept kk
 refine wpAny_pyIter_enum z1 ⟨_,_,_,_,H1,rfl,I2,Ybd (s1.heap.objs.size+1) s1.heap.objs.size l (Nat.succ_ne_self _) (yr (ybz a1)) (yr a1),⟨⟨_,z1⟩,z2⟩,λc hc=>?_,q⟩
 have hc':s1.heap.objs.size<=c:=by
  simp only [yk,yp,or_false] at hc
  rcases hc with rfl|rfl
  ·exact Nat.le_succ _
  ·exact yl _
 exact I1.fpOk hc' (I1.hok.fresh hc')
abbrev Jpt (h:Sg) (T:S5) (a b c:S6):Prop:=h.get? T=some {cls:=.type "tuple",data:=.seq #[a,b,c]}
abbrev DrA (prog:Sb) (w:Sd) (i l:S5) (n:Nat) (P:Nat->S6->Prop) (St:Nat->Sg->Prop):Prop:=∀A:Se,A.handled=none->Draws prog w A i [i,l] n P St
structure Z3 (z TI TO i1 i2 i3 l1 l2 l3:S5):Prop where
 nd: [z,TI,TO,i1,i2,i3].Nodup
 m1:l1∉ [z,TI,TO,i1,i2,i3]
 m2:l2∉ [z,TI,TO,i1,i2,i3]
 m3:l3∉ [z,TI,TO,i1,i2,i3]
section
variable {prog:Sb} {w:Sd} {A:Se} {E:S6->S7->Prop} {s:S7}
theorem Ye {k} {Q} (hT:Jpt s.heap T a b c)
  (h:∀h',h'.get? T=some {cls:=.type "tuple",data:=.seq ((#[a,b,c]:Array S6).setIfInBounds k x)}->yas T s.heap h'->Q () {s with heap:=h'}):Sh (model prog w) A (updateSeq T (·.setIfInBounds k x)) Q E s:=by
 refine wpAny_updateSeq hT rfl (h _ ?_ (yas.update ..))
 rw [ybt _ hT rfl]
 simp [Obj.mapSeq]
variable {z TI TO i1 i2 i3 l1 l2 l3:S5} {n k:Nat} {P1 P2 P3:Nat->S6->Prop} {S1 S2 S3:Nat->Sg->Prop} {a b c:S6}
theorem Yff {n2:Nat} {Q:S6->S7->Prop} (Z:Z3 z TI TO i1 i2 i3 l1 l2 l3) (hz:IsZip s.heap z TI TO .none) (hTI:Jpt s.heap TI (.ref i1) (.ref i2) (.ref i3)) (hTO:Jpt s.heap TO a b c)
  (hh:A.handled=none) (D1:DrA prog w i1 l1 n P1 S1) (D2:DrA prog w i2 l2 n2 P2 S2) (D3:DrA prog w i3 l3 n P3 S3) (hk:k < n) (hk2:k < n2) (t1:S1 k s.heap) (t2:S2 k s.heap) (t3:S3 k s.heap)
  (hQ:∀x y u h' tk,P1 k x->P2 k y->P3 k u->IsZip h' z TI TO (rawInt s.heap.objs.size)->Jpt h' TO x y u->S1 (k+1) h'->S2 (k+1) h'->S3 (k+1) h'->Jpt h' s.heap.objs.size x y u->
   (∀d o,d≠z->d≠TO->d≠i1->d≠i2->d≠i3->s.heap.get? d=some o->h'.get? d=some o)->Q (.ref s.heap.objs.size) {s with heap:=h',toks:=tk}):
  Sh (model prog w) A (Builtin.«zip.__next__» ⟨[.ref z],[]⟩) (λfin s'=>∃v,fin= .done (.ret v)/\Q v s') E s:=by
 obtain ⟨nd,m1,m2,m3⟩:=Z
 simp only [yax,yk,yp,or_false,not_or,List.nodup_nil,and_true,not_false_eq_true] at nd m1 m2 m3
 obtain ⟨⟨zTI,zTO,z1,z2,z3⟩,⟨TITO,TI1,TI2,TI3⟩,⟨TO1,TO2,TO3⟩,⟨n12,n13⟩,n23⟩:=nd
 obtain ⟨l1z,l1TI,l1TO,l11,l12,l13⟩:=m1
 obtain ⟨l2z,l2TI,l2TO,l21,l22,l23⟩:=m2
 obtain ⟨l3z,l3TI,l3TO,l31,l32,l33⟩:=m3
 have fr:∀{S:Nat->Sg->Prop} {P:Nat->S6->Prop} {i l b:S5} {m n':Nat} {h h':Sg},DrA prog w i l n' P S->i≠b->l≠b->yas b h h'->S m h->S m h':=λD e1 e2 sb st=>
  (D A hh).frame _ _ _ st λd hd o e=>by
   simp only [yk,yp,or_false] at hd
   rcases hd with rfl|rfl
   ·exact sb.extBut _ _ e1 e
   ·exact sb.extBut _ _ e2 e
 show Sh _ _ (field (.ref z) 2 >>=_) _ _ _
 refine S8 (wpAny_field hz rfl (x:=.bool false) rfl ?_)
 refine S8 (m:=field (.ref z) 3) (wpAny_field hz rfl (x:=.ref TI) rfl ?_)
 refine S8 (wpAny_seqItems hTI rfl ?_)
 refine S8 (m:=Builtin.SmallTypes.ownedTupleIsFree (.ref z)) ?_
 refine S8 (wpAny_field hz rfl (x:=.none) rfl (S9 ?_))
 refine S8 (wpAny_rule (S8 (wpAny_field hz rfl rfl (S8 (wpAny_setField_rec hz (by simp) λh1 hz1 s1=>?_)))))
 refine S8 ?_
 simp only [List.zipIdx_cons,List.zipIdx_nil,List.forIn_cons,List.forIn_nil]
 refine S8 (S8 (wpAny_onRaise ?_))
 refine S8 ((D1 A hh).item k _ _ _ hk (fr D1 (yg z1) l1z s1 t1) λx h2 k2 px u1 s2=>S9 ?_)
 have o2:=s2.extBut _ _ TO1 (s1.extBut _ _ (yg zTO) hTO)
 refine S8 (wpAny_seqItems o2 rfl (S8 (Ye o2 λh3 o3 s3=>S8 (wpAny_letGo (S9 ?_)))))
 refine S8 (S8 (wpAny_onRaise ?_))
 refine S8 ((D2 A hh).item k _ _ _ hk2 (fr D2 (yg TO2) l2TO s3 (fr D2 (yg n12) l21 s2 (fr D2 (yg z2) l2z s1 t2))) λy h4 k4 py u2 s4=>S9 ?_)
 have o4:=s4.extBut _ _ TO2 o3
 refine S8 (wpAny_seqItems o4 rfl (S8 (Ye o4 λh5 o5 s5=>S8 (wpAny_letGo (S9 ?_)))))
 refine S8 (S8 (wpAny_onRaise ?_))
 refine S8 ((D3 A hh).item k _ _ _ hk (fr D3 (yg TO3) l3TO s5 (fr D3 (yg n23) l32 s4 (fr D3 (yg TO3) l3TO s3 (fr D3 (yg n13) l31 s2 (fr D3 (yg z3) l3z s1 t3))))) λu h6 k6 pu u3 s6=>S9 ?_)
 have o6:=s6.extBut _ _ TO3 o5
 refine S8 (wpAny_seqItems o6 rfl (S8 (Ye o6 λh7 o7 s7=>S8 (wpAny_letGo (S9 (S9 ?_))))))
 replace o7:Jpt h7 TO x y u:=o7
 refine S8 (wpAny_seqItems o7 rfl (S8 (wpAny_newTuple ?_)))
 have sz:h7.objs.size=s.heap.objs.size:=by rw [s7.1,s6.1,s5.1,s4.1,s3.1,s2.1,s1.1]
 have zz:=s7.extBut _ _ zTO (s6.extBut _ _ z3 (s5.extBut _ _ zTO (s4.extBut _ _ z2 (s3.extBut _ _ zTO (s2.extBut _ _ z1 hz1)))))
 have kk:∀d o,d≠z->d≠TO->d≠i1->d≠i2->d≠i3->s.heap.get? d=some o->h7.get? d=some o:=λd o c1 c2 c3 c4 c5 e=>
  s7.extBut _ _ c2 (s6.extBut _ _ c5 (s5.extBut _ _ c2 (s4.extBut _ _ c4 (s3.extBut _ _ c2 (s2.extBut _ _ c3 (s1.extBut _ _ c1 e))))))
 have w1:=fr D1 (yg TO1) l1TO s7 (fr D1 n13 l13 s6 (fr D1 (yg TO1) l1TO s5 (fr D1 n12 l12 s4 (fr D1 (yg TO1) l1TO s3 u1))))
 have w2:=fr D2 (yg TO2) l2TO s7 (fr D2 n23 l23 s6 (fr D2 (yg TO2) l2TO s5 u2))
 have w3:=fr D3 (yg TO3) l3TO s7 u3
 have zlt:=yi zz
 refine S8 ?_
 have zp:IsZip (h7.push {cls:=.type "tuple",data:=.seq #[x,y,u]}) z TI TO .ellipsis:=yn _ zz
 refine S8 (wpAny_setField_rec zp (by simp) λh8 hz8 s8=>?_)
 refine wpAny_setField_rec hz8 (by simp) λh9 hz9 s9=>?_
 have up:∀d o,d≠z->h7.get? d=some o->h9.get? d=some o:=λd o c1 e=>s9.extBut _ _ c1 (s8.extBut _ _ c1 (yn _ e))
 have nw:=s9.extBut _ _ (yaw zlt) (s8.extBut _ _ (yaw zlt) (yq _ rfl))
 have fz:∀{S:Nat->Sg->Prop} {P:Nat->S6->Prop} {i l:S5} {m n':Nat},DrA prog w i l n' P S->i≠z->l≠z->S m h7->S m h9:=λD e1 e2 st=>(D A hh).frame _ _ _ st λd hd o e=>by
  simp only [yk,yp,or_false] at hd
  rcases hd with rfl|rfl
  ·exact up _ _ e1 e
  ·exact up _ _ e2 e
 rw [sz] at hz9 nw
 refine S9 ⟨_,rfl,?_⟩
 rw [sz]
 exact hQ x y u h9 _ px py pu hz9 (up _ _ (yg zTO) o7) (fz D1 (yg z1) l1z w1) (fz D2 (yg z2) l2z w2) (fz D3 (yg z3) l3z w3) nw λd o c1 c2 c3 c4 c5 e=>up d o c1 (kk d o c1 c2 c3 c4 c5 e)
theorem So6 (Z:Z3 z TI TO i1 i2 i3 l1 l2 l3) (hz:IsZip s.heap z TI TO .none) (hTI:Jpt s.heap TI (.ref i1) (.ref i2) (.ref i3))
  (hh:A.handled=none) (D1:DrA prog w i1 l1 n P1 S1) (t1:S1 n s.heap)
  (hE:∀h' e,(∀d o,d≠z->d≠i1->s.heap.get? d=some o->h'.get? d=some o)->(∃o,h'.get? e=some o/\o.cls= .type "StopIteration")->E (.ref e) {s with heap:=h'}):
  Sh (model prog w) A (Builtin.«zip.__next__» ⟨[.ref z],[]⟩) Q E s:=by
 obtain ⟨nd,m1,_,_⟩:=Z
 simp only [yax,yk,not_or] at nd m1
 obtain ⟨⟨zTI,zTO,z1,z2,z3⟩,_⟩:=nd
 obtain ⟨l1z,l1TI,l1TO,l11,l12,l13⟩:=m1
 show Sh _ _ (field (.ref z) 2 >>=_) _ _ _
 refine S8 (wpAny_field hz rfl rfl (S8 (wpAny_field hz rfl rfl (S8 (wpAny_seqItems hTI rfl ?_)))))
 refine S8 (S8 (wpAny_field hz rfl rfl (S9 (S8 (wpAny_rule (S8 (wpAny_field hz rfl rfl (S8 (wpAny_setField_rec hz (by simp) λh1 hz1 s1=>S8 ?_)))))))))
 refine S8 (S8 (wpAny_onRaise (S8 ((D1 A hh).done _ _ _ ((D1 A hh).frame _ _ _ t1 λd hd o e=>?_) λh2 e s2 he=>?_))))
 ·simp only [yk,yp,or_false] at hd
  rcases hd with rfl|rfl
  ·exact s1.extBut _ _ (yg z1) e
  ·exact s1.extBut _ _ l1z e
 ·obtain ⟨oe,hoe,hce⟩:=he
  have hz2:=s2 _ _ z1 hz1
  have ez:e≠z:=λq=>by subst q;rw [hz2] at hoe;cases hoe;simp at hce
  exact wpAny_setField_rec hz2 (by simp) λh3 _ s3=>hE h3 e (λd o c1 c2 q=>s3.extBut _ _ c1 (s2 _ _ c2 (s1.extBut _ _ c1 q))) ⟨oe,s3.extBut _ _ ez hoe,hce⟩
end
def Su8 (z TI TO i1 i2 i3:S5) (S1 S2 S3:Nat->Sg->Prop) (i:Nat) (h:Sg):Prop:=IsZip h z TI TO .none/\Jpt h TI (.ref i1) (.ref i2) (.ref i3)/\(∃a b c,Jpt h TO a b c)/\S1 i h/\S2 i h/\S3 i h
section
variable {prog:Sb} {w:Sd} {z TI TO i1 i2 i3 l1 l2 l3:S5} {n:Nat} {P1 P2 P3:Nat->S6->Prop} {S1 S2 S3:Nat->Sg->Prop}
theorem Ydj (hh:A.handled=none) (Z:Z3 z TI TO i1 i2 i3 l1 l2 l3) (D1:DrA prog w i1 l1 n P1 S1) (hn:n<=n2) (D2:DrA prog w i2 l2 n2 P2 S2) (D3:DrA prog w i3 l3 n P3 S3):
  WalksT prog w A z [z,TI,TO,i1,i2,i3,l1,l2,l3] [z,TO,i1,i2,i3] n (λi vals=>∃x y u,P1 i x/\P2 i y/\P3 i u/\vals= #[x,y,u]) (Su8 z TI TO i1 i2 i3 S1 S2 S3)
   (λi T h=>IsZip h z TI TO (rawInt T)/\Jpt h TI (.ref i1) (.ref i2) (.ref i3)/\(∃a b c,Jpt h TO a b c)/\S1 (i+1) h/\S2 (i+1) h/\S3 (i+1) h/\T∉ [z,TO,i1,i2,i3]) where
 sub:=λc hc=>by simp at hc⊢;rcases hc with rfl|rfl|rfl|rfl|rfl <;> simp
 frame:=λi h h' hst hk=>by
  obtain ⟨hz,hTI,⟨a,b,c,hTO⟩,h1,h2,h3⟩:=hst
  exact ⟨hk z (by simp) _ hz,hk TI (by simp) _ hTI,⟨a,b,c,hk TO (by simp) _ hTO⟩,(D1 A hh).frame _ _ _ h1 λd hd o e=>hk d (by simp at hd;rcases hd with rfl|rfl <;> simp) o e,
   (D2 A hh).frame _ _ _ h2 λd hd o e=>hk d (by simp at hd;rcases hd with rfl|rfl <;> simp) o e,(D3 A hh).frame _ _ _ h3 λd hd o e=>hk d (by simp at hd;rcases hd with rfl|rfl <;> simp) o e⟩
 item:=λi s Q E hi hst hQ=>by
  obtain ⟨hz,hTI,⟨a,b,c,hTO⟩,h1,h2,h3⟩:=hst
  have hT:s.TypeIs (.ref z) "zip" :=⟨_,hz,rfl⟩
  have nd:=Z.nd
  simp only [yax,yk,yp,or_false,not_or] at nd
  obtain ⟨⟨zTI,_⟩,⟨TITO,TI1,TI2,TI3⟩,_⟩:=nd
  obtain ⟨e1,g1⟩:=(D1 A hh).live _ _ h1
  obtain ⟨e2,g2⟩:=(D2 A hh).live _ _ h2
  obtain ⟨e3,g3⟩:=(D3 A hh).live _ _ h3
  refine S8 (wpAny_attempt (wpAny_callSpecial?_slot hT F.slot_zip_next (wpAny_call_entry F.slot_zip_next hT F.entry_zip_next
   (Yff Z hz hTI hTO hh D1 D2 D3 hi (yab hi hn) h1 h2 h3 λx y u h' tk px py pu a1 a2 a3 a4 a5 a6 hk=>S9 ?_) (F.args_zip_next_1 _))))
  refine hQ s.heap.objs.size #[x,y,u] h' tk ⟨x,y,u,px,py,pu,rfl⟩ (yl _) ⟨_,a6,rfl,_,rfl⟩ ⟨a1,hk _ _ (yg zTI) TITO TI1 TI2 TI3 hTI,⟨_,_,_,a2⟩,a3,a4,a5,?_⟩ λd o hd e=>hk d o (λq=>hd (by simp [q])) (λq=>hd (by simp [q])) (λq=>hd (by simp [q])) (λq=>hd (by simp [q])) (λq=>hd (by simp [q])) e
  have lt:∀{d o},s.heap.get? d=some o->s.heap.objs.size≠d:=λe=>yaw (yi e)
  simp only [yk,yp,or_false,not_or]
  exact ⟨lt hz,lt hTO,lt g1,lt g2,lt g3⟩
 go:=λelts k pos i T s Q E hm hQ=>by
  obtain ⟨hz,hTI,⟨a,b,c,hTO⟩,h1,h2,h3,_⟩:=hm
  have nd:=Z.nd
  have m1:=Z.m1
  have m2:=Z.m2
  have m3:=Z.m3
  simp only [yax,yk,yp,or_false,not_or] at nd m1 m2 m3
  obtain ⟨⟨zTI,zTO,z1,z2,z3⟩,_⟩:=nd
  have fz:∀{S:Nat->Sg->Prop} {P:Nat->S6->Prop} {j l:S5} {m n':Nat} {h':Sg},DrA prog w j l n' P S->j≠z->l≠z->yas z s.heap h'->S m s.heap->S m h':=λD e1 e2 sb st=>(D A hh).frame _ _ _ st λd hd o e=>by
   simp only [yk,yp,or_false] at hd
   rcases hd with rfl|rfl
   ·exact sb.extBut _ _ e1 e
   ·exact sb.extBut _ _ e2 e
  exact wpAny_letOwnedTupleGo_zip hz λh' hz' sb=>hQ h' ⟨hz',sb.extBut _ _ (yg zTI) hTI,⟨a,b,c,sb.extBut _ _ (yg zTO) hTO⟩,fz D1 (yg z1) m1.1 sb h1,fz D2 (yg z2) m2.1 sb h2,fz D3 (yg z3) m3.1 sb h3⟩ λd o hd e=>sb.extBut _ _ (λq=>hd (by simp [q])) e
 apart:=λi T h hm hT=>hm.2.2.2.2.2.2 hT
 done:=λs Q E hst hQ=>by
  obtain ⟨hz,hTI,_,h1,h2,h3⟩:=hst
  have hT:s.TypeIs (.ref z) "zip" :=⟨_,hz,rfl⟩
  refine S8 (wpAny_attempt (wpAny_callSpecial?_slot hT F.slot_zip_next (wpAny_call_entry F.slot_zip_next hT F.entry_zip_next
   (So6 Z hz hTI hh D1 h1 λh' e hk he=>?_) (F.args_zip_next_1 _))))
  obtain ⟨o,ho,hc⟩:=he
  exact S8 (wpAny_isInstance ⟨o,ho,hc⟩ isSubtype_stop (S9 (hQ h' s.toks λd o' hd e'=>hk d o' (λq=>hd (by simp [q])) (λq=>hd (by simp [q])) e')))
 self:=λi s Q E hst hQ=>wpAny_pyIter_zip hst.1 hQ
end
def SqB (K:Si) (H:Hp) (l:S5):Bool->List V->Prop
 |false,xs=>Sy K H l xs
 |true,xs=>SqT K H l xs
def IsB (h:Sg) (l:S5):Bool->Array S6->Prop
 |false,items=>h.IsList l items
 |true,items=>h.IsTuple l items
def IS (it l:S5):Bool->Nat->Sg->Prop
 |false,i,h=>h.IsListIter it l i
 |true,i,h=>h.IsTupleIter it l i
def itO (l:S5):Bool->Obj
 |false=>{cls:=.type "list_iterator",data:=.fields #[.ref l,.int 0 0]}
 |true=>{cls:=.type "tuple_iterator",data:=.fields #[.ref l,.int 0 0]}
theorem IS.at (x:IS it l b i h) (k:∀o,h.get? it=some o->h'.get? it=some o):IS it l b i h':=by
 cases b
 ·exact Heap.IsListIter.at x k
 ·exact Heap.IsTupleIter.at x k
theorem IS.obj (x:IS it l b i h):∃o,h.get? it=some o/\∀v,o.data≠ .cell v:=by
 cases b
 ·obtain ⟨o,e,_,d⟩:=x
  exact ⟨o,e,λv z=>by rw [d] at z;cases z⟩
 ·obtain ⟨o,e,_,d⟩:=x
  exact ⟨o,e,λv z=>by rw [d] at z;cases z⟩
theorem drA (b) (ne:l≠it) (items):DrA prog w it l items.size (λi v=>items[i]?=some v) (λi h=>IS it l b i h/\IsB h l b items):=λA hh=>by
 cases b
 ·exact Draws.list hh it l ne items
 ·exact Jtp hh it l ne items
section
variable {prog:Sb} {w:Sd} {A:Se} {E:S6->S7->Prop} {s:S7}
theorem IsB.push (x:IsB h l b items) (o):IsB (h.push o) l b items:=by
 cases b
 ·exact Heap.IsList.push x o
 ·exact Heap.IsTuple.push x o
theorem IsB.lt (x:IsB h l b items):l < h.objs.size:=by
 cases b
 ·obtain ⟨o,e,_⟩:=x;exact yi e
 ·obtain ⟨o,e,_⟩:=x;exact yi e
theorem Jvk {Q} (x:IsB s.heap l b items) (hQ:Q (.ref s.heap.objs.size) {s with heap:=s.heap.push (itO l b)}):Sh (model prog w) A (pyIter (.ref l)) Q E s:=by
 cases b
 ·exact wpAny_pyIter_list x hQ
 ·exact wpAny_pyIter_tuple x hQ
end
abbrev zA (h:Sg) (l1:S5) (b1:Bool):Sg:=h.push (itO l1 b1)
abbrev zB (h:Sg) (l1 l2:S5) (b1 b2:Bool):Sg:=(zA h l1 b1).push (itO l2 b2)
abbrev zC (h:Sg) (l1 l2 l3:S5) (b1 b2 b3:Bool):Sg:=(zB h l1 l2 b1 b2).push (itO l3 b3)
abbrev zD (h:Sg) (l1 l2 l3:S5) (b1 b2 b3:Bool):Sg:=(zC h l1 l2 l3 b1 b2 b3).push {cls:=.type "tuple",data:=.seq #[.ref h.objs.size,.ref (zA h l1 b1).objs.size,.ref (zB h l1 l2 b1 b2).objs.size]}
abbrev zE (h:Sg) (l1 l2 l3:S5) (b1 b2 b3:Bool):Sg:=(zD h l1 l2 l3 b1 b2 b3).push {cls:=.type "tuple",data:=.seq #[.none,.none,.none]}
abbrev zF (h:Sg) (l1 l2 l3:S5) (b1 b2 b3:Bool):Sg:=(zE h l1 l2 l3 b1 b2 b3).push {cls:=.type "zip",data:=.fields #[.none,.bool false,.bool false,.ref (zC h l1 l2 l3 b1 b2 b3).objs.size,.ref (zD h l1 l2 l3 b1 b2 b3).objs.size]}
set_option maxRecDepth 100000 in
set_option maxHeartbeats 2000000 in
theorem Yds (l1 l2 l3) (b1 b2 b3) (xs ys us):
  Meets (Builtin.«zip.__new__» ⟨[.type "zip",.ref l1,.ref l2,.ref l3],[]⟩) (λ_ R s=>IsB s.heap l1 b1 xs/\IsB s.heap l2 b2 ys/\IsB s.heap l3 b3 us/\
   R (.ok (.ret (.ref (zE s.heap l1 l2 l3 b1 b2 b3).objs.size))) {s with heap:=zF s.heap l1 l2 l3 b1 b2 b3}):=
 .of_wp λprog w A R s h=>by
  obtain ⟨hp,g,d,tk,os⟩:=s
  obtain ⟨hl1,hl2,hl3,h⟩:=h
  have e0:=sub_zip
  have e2:IsB (Shared.heap ⟨hp.push (itO l1 b1),g,d,tk,os⟩) l2 b2 ys:=IsB.push hl2 _
  have e3:IsB (Shared.heap ⟨(hp.push (itO l1 b1)).push (itO l2 b2),g,d,tk,os⟩) l3 b3 us:=IsB.push (IsB.push hl3 _) _
  wp_walk using Jvk hl1,Jvk e2,Jvk e3
  exact ⟨_,rfl,h⟩
theorem Jw6 (a b c):checkTypeCall "zip" ⟨[a,b,c],[]⟩=pure ():=by kernel_rfl
theorem Jwb (a b c):checkBuiltinCall "zip.__new__" ⟨[.type "zip",a,b,c],[]⟩=pure ():=by kernel_rfl
theorem Jyd (a b c d):argsOk "object.__init__" ⟨[a,b,c,d],[]⟩:=by
 unfold argsOk;rw [signature?_of (n:=['_','_','t','i','n','i','_','_']) (by kernel_rfl) F.owner_object];kernel_rfl
section
variable {prog:Sb} {w:Sd} {A:Se} {E:S6->S7->Prop} {s:S7}
theorem Yak {b1 b2 b3} {xs ys us} {Q} (h1:IsB s.heap l1 b1 xs) (h2:IsB s.heap l2 b2 ys) (h3:IsB s.heap l3 b3 us)
  (h:∀h',IsZip h' (s.heap.objs.size+5) (s.heap.objs.size+3) (s.heap.objs.size+4) .none->Jpt h' (s.heap.objs.size+3) (.ref s.heap.objs.size) (.ref (s.heap.objs.size+1)) (.ref (s.heap.objs.size+2))->
   Jpt h' (s.heap.objs.size+4) .none .none .none->IS s.heap.objs.size l1 b1 0 h'->IS (s.heap.objs.size+1) l2 b2 0 h'->IS (s.heap.objs.size+2) l3 b3 0 h'->
   (∀c o,s.heap.get? c=some o->h'.get? c=some o)->Q (.ref (s.heap.objs.size+5)) {s with heap:=h'}):
  Sh (model prog w) A (call (.type "zip") [.ref l1,.ref l2,.ref l3]) Q E s:=by
 refine callType_new F.called_zip (by decide) (Jw6 _ _ _) (Jwb _ _ _) (λobj=>Jyd obj _ _ _) F.entry_zip_new (Yds l1 l2 l3 b1 b2 b3 xs ys us) ⟨h1,h2,h3,?_⟩
 have z1:(zA s.heap l1 b1).objs.size=s.heap.objs.size+1:=yaa ..
 have z2:(zB s.heap l1 l2 b1 b2).objs.size=s.heap.objs.size+2:=by rw [yaa,z1]
 have z3:(zC s.heap l1 l2 l3 b1 b2 b3).objs.size=s.heap.objs.size+3:=by rw [yaa,z2]
 have z4:(zD s.heap l1 l2 l3 b1 b2 b3).objs.size=s.heap.objs.size+4:=by rw [yaa,z3]
 have z5:(zE s.heap l1 l2 l3 b1 b2 b3).objs.size=s.heap.objs.size+5:=by rw [yaa,z4]
 have p:∀{h:Sg} {c:S5} {o q:Obj},h.get? c=some o->(h.push q).get? c=some o:=λe=>yn _ e
 have g6:(zF s.heap l1 l2 l3 b1 b2 b3).get? (zE s.heap l1 l2 l3 b1 b2 b3).objs.size=some _:=yq _ rfl
 have g5:(zF s.heap l1 l2 l3 b1 b2 b3).get? (zD s.heap l1 l2 l3 b1 b2 b3).objs.size=some _:=p (yq _ rfl)
 have g4:(zF s.heap l1 l2 l3 b1 b2 b3).get? (zC s.heap l1 l2 l3 b1 b2 b3).objs.size=some _:=p (p (yq _ rfl))
 have fr:∀l b,(itO l b).isFreed=false:=λl b=>by cases b <;> rfl
 have g3:(zF s.heap l1 l2 l3 b1 b2 b3).get? (zB s.heap l1 l2 b1 b2).objs.size=some (itO l3 b3):=p (p (p (yq _ (fr _ _))))
 have g2:(zF s.heap l1 l2 l3 b1 b2 b3).get? (zA s.heap l1 b1).objs.size=some (itO l2 b2):=p (p (p (p (yq _ (fr _ _)))))
 have g1:(zF s.heap l1 l2 l3 b1 b2 b3).get? s.heap.objs.size=some (itO l1 b1):=p (p (p (p (p (yq _ (fr _ _))))))
 have is:∀{it l:S5} {b:Bool} {h:Sg},h.get? it=some (itO l b)->IS it l b 0 h:=λ{it l b h} e=>by
  cases b
  ·exact ⟨_,e,rfl,rfl⟩
  ·exact ⟨_,e,rfl,rfl⟩
 rw [z3,z4,z5] at g6
 rw [z1,z2,z3] at g4
 rw [z4] at g5
 rw [z2] at g3
 rw [z1] at g2
 rw [z5]
 exact ⟨⟨_,g6,rfl⟩,h _ g6 g4 g5 (is g1) (is g2) (is g3) λc o x=>p (p (p (p (p (p x)))))⟩
end
section
variable {X:Cx} {pins:List (S5×Obj)} {σ:St} {H:Hp} {s:S7}
theorem Su.seqB (I:Su X pins σ H s) (h:SqB X.K H l b xs):∃its,Sa4 xs its/\IsB s.heap l b its.toArray:=by
 cases b
 ·obtain ⟨its,rv,p,_⟩:=I.list h
  exact ⟨its,rv,p.isList⟩
 ·obtain ⟨its,rv,p,_⟩:=I.tuple h
  exact ⟨its,rv,p⟩
theorem Su.seqB_inj (I:Su X pins σ H s) (h:SqB X.K H l b xs) (h':SqB X.K H l b ys):xs=ys:=by
 cases b
 ·exact I.list_inj h h'
 ·exact I.tuple_inj h h'
end
def Jyc (K:Si) (l1 l2 l3:S5) (b1 b2 b3:Bool):It:=
 ⟨λi H=>∃xs ys us,SqB K H l1 b1 xs/\SqB K H l2 b2 ys/\SqB K H l3 b3 us/\xs.length<=ys.length/\xs.length=us.length/\i < xs.length,
  λi H x H'=>∃T p q r,H T=none/\x= .ref T/\(∀xs,SqB K H l1 b1 xs->xs[i]?=some p)/\(∀ys,SqB K H l2 b2 ys->ys[i]?=some q)/\(∀us,SqB K H l3 b3 us->us[i]?=some r)/\H'=upd H T (.tup [p,q,r]),
  λi H=>∃xs ys us,SqB K H l1 b1 xs/\SqB K H l2 b2 ys/\SqB K H l3 b3 us/\xs.length<=ys.length/\xs.length=us.length/\i=xs.length⟩
def Z3T (z TI TO i1 i2 i3 l1 l2 l3:S5) (b1 b2 b3:Bool) (i:Nat) (h:Sg):Prop:=IsZip h z TI TO .none/\Jpt h TI (.ref i1) (.ref i2) (.ref i3)/\(∃a b c,Jpt h TO a b c)/\IS i1 l1 b1 i h/\IS i2 l2 b2 i h/\IS i3 l3 b3 i h
theorem Z3T.obj {TI TO l3} (st:Z3T z TI TO i1 i2 i3 l1 l2 l3 b1 b2 b3 i h):∀b∈ [z,TI,TO,i1,i2,i3],∃o,h.get? b=some o/\∀v,o.data≠ .cell v:=λb hb=>by
 obtain ⟨h1,h2,⟨x,y,u,h3⟩,h4,h5,h6⟩:=st
 simp only [yk,yp,or_false] at hb
 rcases hb with rfl|rfl|rfl|rfl|rfl|rfl
 ·exact ⟨_,h1,λv z=>by cases z⟩
 ·exact ⟨_,h2,λv z=>by cases z⟩
 ·exact ⟨_,h3,λv z=>by cases z⟩
 ·exact h4.obj
 ·exact h5.obj
 ·exact h6.obj
theorem Z3.ne {TI TO l3} (Z:Z3 z TI TO i1 i2 i3 l1 l2 l3):l1≠i1/\l2≠i2/\l3≠i3:=by
 obtain ⟨_,m1,m2,m3⟩:=Z
 simp only [yk,yp,or_false,not_or] at m1 m2 m3
 exact ⟨m1.2.2.2.1,m2.2.2.2.2.1,m3.2.2.2.2.2⟩
theorem Ybe {K} (z TI TO i1 i2 i3 l1 l2 l3) (b1 b2 b3) (Z:Z3 z TI TO i1 i2 i3 l1 l2 l3):
  Turn P w K (.Tuple elts kt pt) (Jyc K l1 l2 l3 b1 b2 b3) [z,TI,TO,i1,i2,i3] z (Z3T z TI TO i1 i2 i3 l1 l2 l3 b1 b2 b3) where
 mem:=by simp
 obj:=λi h st=>st.obj
 keep:=λi h h' st k=>by
  obtain ⟨h1,h2,⟨a,c,d,h3⟩,h4,h5,h6⟩:=st
  exact ⟨k z (by simp) _ h1,k TI (by simp) _ h2,⟨a,c,d,k TO (by simp) _ h3⟩,h4.at λo e=>k i1 (by simp) o e,h5.at λo e=>k i2 (by simp) o e,h6.at λo e=>k i3 (by simp) o e⟩
 item:=by
  intro X hP hw hK hc i pins s σ H E I hf st hg
  subst hP hw hK
  obtain ⟨xs,ys,us,q1,q2,q3,e12,e13,hi⟩:=hg
  obtain ⟨its,rv,p1⟩:=I.seqB q1
  obtain ⟨jts,rv2,p2⟩:=I.seqB q2
  obtain ⟨kts,rv3,p3⟩:=I.seqB q3
  have a1:=rv.length
  have a2:=rv2.length
  have a3:=rv3.length
  obtain ⟨n1,n2,n3⟩:=Z.ne
  have D1:=drA (prog:=X.prog) (w:=X.w) b1 n1 its.toArray
  have D2:=drA (prog:=X.prog) (w:=X.w) b2 n2 jts.toArray
  have D3:=drA (prog:=X.prog) (w:=X.w) b3 n3 kts.toArray
  rw [show kts.toArray.size=its.toArray.size by simp only [ym];omega] at D3
  have W:=Ydj (I.ok.hd hc) Z D1 (by simp only [ym];omega) D2 D3
  have st0:=st
  obtain ⟨s1,s2,s3,s4,s5,s6⟩:=st
  refine W.item i s _ _ (by simp only [ym];omega) ⟨s1,s2,s3,⟨s4,p1⟩,⟨s5,p2⟩,⟨s6,p3⟩⟩ λT vals h' tk hP fT tT mid kk=>⟨_,rfl,W.go elts kt pt i T _ _ _ mid λh'' st'' kk2=>?_⟩
  obtain ⟨x,y,u,hx,hy,hu,rfl⟩:=hP
  obtain ⟨u1,hu1,r1⟩:=rv.get (yh hi)
  obtain ⟨u2,hu2,r2⟩:=rv2.get (i:=i) (yh (by omega))
  obtain ⟨u3,hu3,r3⟩:=rv3.get (i:=i) (yh (by omega))
  obtain rfl:x=u1:=by simpa [hu1] using hx.symm
  obtain rfl:y=u2:=by simpa [hu2] using hy.symm
  obtain rfl:u=u3:=by simpa [hu3] using hu.symm
  obtain ⟨t1,t2,t3,t4,t5,t6⟩:=st''
  have kT:h''.IsTuple T #[x,y,u]:=by
   obtain ⟨o,q,r⟩:=tT
   exact ⟨o,kk2 T o (W.apart i T h' mid) q,r⟩
  have cht:∀c,c∈ [z,TO,i1,i2,i3]->c∈ [z,TI,TO,i1,i2,i3]:=λc hc=>by simp at hc⊢;rcases hc with rfl|rfl|rfl|rfl|rfl <;> simp
  refine ⟨.ref T,upd H T (.tup [xs[i],ys[i]'(by omega),us[i]'(by omega)]),I.turnTup (λc hc=>hf c (cht c hc)) (λc o hc e=>kk2 c o hc (kk c o hc e)) fT ⟨(show 3<=Sa by decide),[x,y,u],.cons r1 (.cons r2 (.cons r3 .nil)),kT⟩,rfl,
   ⟨T,_,_,_,I.hok.fresh fT,rfl,λxs' hq=>by rw [I.seqB_inj hq q1];exact yh hi,λys' hq=>by rw [I.seqB_inj hq q2];exact yh (by omega),λus' hq=>by rw [I.seqB_inj hq q3];exact yh (by omega),rfl⟩,⟨t1,t2,t3,t4.1,t5.1,t6.1⟩,λc hc=>?_⟩
  rw [Jmm (λw'=>?_)]
  ·exact ((hf c hc).1)
  ·subst w'
   obtain ⟨o,e,_⟩:=Z3T.obj st0 c hc
   exact absurd (yi e) (ybf.mpr fT)
 done:=by
  intro X hP hw hK hc i pins s σ H E I hf st hg
  subst hP hw hK
  obtain ⟨xs,ys,us,q1,q2,q3,e12,e13,hi⟩:=hg
  obtain ⟨its,rv,p1⟩:=I.seqB q1
  obtain ⟨jts,rv2,p2⟩:=I.seqB q2
  obtain ⟨kts,rv3,p3⟩:=I.seqB q3
  have a1:=rv.length
  have a2:=rv2.length
  have a3:=rv3.length
  obtain ⟨n1,n2,n3⟩:=Z.ne
  have D1:=drA (prog:=X.prog) (w:=X.w) b1 n1 its.toArray
  have D2:=drA (prog:=X.prog) (w:=X.w) b2 n2 jts.toArray
  have D3:=drA (prog:=X.prog) (w:=X.w) b3 n3 kts.toArray
  rw [show kts.toArray.size=its.toArray.size by simp only [ym];omega] at D3
  obtain ⟨s1,s2,s3,s4,s5,s6⟩:=st
  have ei:i=its.toArray.size:=by simp only [ym];omega
  subst ei
  exact (Ydj (I.ok.hd hc) Z D1 (by simp only [ym];omega) D2 D3).done s _ _ ⟨s1,s2,s3,⟨s4,p1⟩,⟨s5,p2⟩,⟨s6,p3⟩⟩ λh' tk kk=>⟨rfl,I.turnMany (λc hc=>hf c (by simp at hc⊢;rcases hc with rfl|rfl|rfl|rfl|rfl <;> simp)) λc o hc e=>kk c o hc e⟩
 self:=λ_ _ _ _ _ st h=>wpAny_pyIter_zip st.1 h
def Sq0 (K:Si) (b1 b2 b3:Bool) (ta:TA):TI:=λσ H R=>ta σ H λvs H1=>∃a b c,vs= [.ref a,.ref b,.ref c]/\(∃xs,SqB K H1 a b1 xs)/\(∃ys,SqB K H1 b b2 ys)/\(∃us,SqB K H1 c b3 us)/\R (Jyc K a b c b1 b2 b3) H1
theorem Jxt (b1 b2 b3) (hg:Gl X "zip") (hm:X.mg "zip" =none) (ha:PA X [a,b,c] ta) (hs:starEach [a,b,c] X.env= [(false,eval a X.env),(false,eval b X.env),(false,eval c X.env)]:=by rfl) (hs2:starEach [b,c] X.env= [(false,eval b X.env),(false,eval c X.env)]:=by rfl):
  PI X (.Tuple elts kt pt) (.Call (.Name "zip" p) [a,b,c] [] pos) (Sq0 X.K b1 b2 b3 ta):=by
 intro pins s σ H R I h
 refine Call_ (Jqt I hg hm Ybo (PyProof.Rows.callWith_type1 (thn (ha pos pins s σ H _ I h) λus s1 zq=>?_) (by rw [hs,hs2]) (by rw [hs2];rfl)))
 obtain ⟨vs,H1,I1,r1,q1⟩:=zq
 obtain ⟨l1,l2,l3,rfl,⟨xs,q1⟩,⟨ys,q2⟩,⟨zs,q3⟩,q⟩:=q1
 obtain ⟨u,v,y,rfl,r1,r2,r3⟩:∃u v y,us= [u,v,y]/\Sa6 (.ref l1) u/\Sa6 (.ref l2) v/\Sa6 (.ref l3) y:=by
  cases r1 with
  |cons a1 t1=>
   cases t1 with
   |cons a2 t2=>
    cases t2 with
    |cons a3 t3=>
     cases t3
     exact ⟨_,_,_,rfl,a1,a2,a3⟩
 obtain rfl:u=Value.ref l1:=r1
 obtain rfl:v=Value.ref l2:=r2
 obtain rfl:y=Value.ref l3:=r3
 obtain ⟨its,rv,p1⟩:=I1.seqB q1
 obtain ⟨jts,rv2,p2⟩:=I1.seqB q2
 obtain ⟨kts,rv3,p3⟩:=I1.seqB q3
 have a1:=p1.lt
 have a2:=p2.lt
 have a3:=p3.lt
 refine Yak p1 p2 p3 λh' z1 z2 z3 z4 z5 z6 kk=>?_
 have I2:Su X pins σ H1 {s1 with heap:=h'}:=I1.kept kk
 have ap:Z3 (s1.heap.objs.size+5) (s1.heap.objs.size+3) (s1.heap.objs.size+4) s1.heap.objs.size (s1.heap.objs.size+1) (s1.heap.objs.size+2) l1 l2 l3:=by
  generalize hN:s1.heap.objs.size=N at*
  have big:∀l:S5,l < N->l∉ [N+5,N+3,N+4,N,N+1,N+2]:=λl hl hm=>by
   simp only [yk,yp,or_false] at hm
   have le:N<=l:=by rcases hm with rfl|rfl|rfl|rfl|rfl|rfl <;> first|exact yl _|exact Nat.le_add_right _ _
   exact ybf.mpr le hl
  exact ⟨by simp,big _ a1,big _ a2,big _ a3⟩
 refine wpAny_pyIter_zip z1 ⟨_,_,_,_,H1,rfl,I2,Ybe _ _ _ _ _ _ l1 l2 l3 b1 b2 b3 ap,⟨z1,z2,⟨_,_,_,z3⟩,z4,z5,z6⟩,λd hd=>?_,q⟩
 have hd':s1.heap.objs.size<=d:=by
  simp only [yk,yp,or_false] at hd
  rcases hd with rfl|rfl|rfl|rfl|rfl|rfl <;> omega
 exact I1.fpOk hd' (I1.hok.fresh hd')
section
variable {K:Si} {g:TG} {σ:St} {H:Hp}
theorem Jze {b1 b2 b3} {xs ys us} {tt:TT} {te:TE} {R:Hp->Prop} (Pv:Nat->St->Hp->Prop) (h0:Pv 0 σ H) (hl:∀i σ H,i<=xs.length->Pv i σ H->SqB K H l1 b1 xs/\SqB K H l2 b2 ys/\SqB K H l3 b3 us) (e1:xs.length<=ys.length) (e2:xs.length=us.length)
  (hs:∀i x y u σ H T,xs[i]?=some x->ys[i]?=some y->us[i]?=some u->Pv i σ H->H T=none->g (.ref T) σ (upd H T (.tup [x,y,u])) λσ3 H3=>tt σ3 H3 λb H4=>if b=true then te σ3 H4 (λv H5=>∃vs,H5 D=some (.lst vs)/\vs.length < Sa/\Pv (i+1) σ3 (upd H5 D (.lst (vs++ [v])))) else Pv (i+1) σ3 H4)
  (hd:∀σ H,Pv xs.length σ H->R H):
  ∃W:Nat->Nat->St->Hp->Prop,(∃m,W 0 m σ H)/\∀i m σ' H',W i m σ' H'->((Jyc K l1 l2 l3 b1 b2 b3).stop i H'/\R H')\/((Jyc K l1 l2 l3 b1 b2 b3).go i H'/\∃N:St->Hp->Prop,(∀σ2 H2,N σ2 H2->∃m',m' < m/\W (i+1) m' σ2 H2)/\
   ∀x H2,(Jyc K l1 l2 l3 b1 b2 b3).yld i H' x H2->g x σ' H2 λσ3 H3=>tt σ3 H3 λb H4=>if b=true then te σ3 H4 (λv H5=>∃vs,H5 D=some (.lst vs)/\vs.length < Sa/\N σ3 (upd H5 D (.lst (vs++ [v])))) else N σ3 H4):=by
 refine ⟨λi m σ H=>m=xs.length - i/\i<=xs.length/\Pv i σ H,⟨xs.length,by simp,yad _,h0⟩,?_⟩
 rintro i m σ H ⟨rfl,hi,p⟩
 obtain ⟨q1,q2,q3⟩:=hl i σ H hi p
 by_cases hlt:i < xs.length
 ·refine .inr ⟨⟨xs,ys,us,q1,q2,q3,e1,e2,hlt⟩,Pv (i+1),λσ' H' p'=>⟨xs.length - (i+1),by omega,rfl,hlt,p'⟩,λx H' y=>?_⟩
  obtain ⟨T,u,v,w',hT,rfl,hu,hv,hw,rfl⟩:=y
  exact hs i u v w' σ _ T (hu xs q1) (hv ys q2) (hw us q3) p hT
 ·have e:i=xs.length:=by omega
  subst e
  exact .inl ⟨⟨xs,ys,us,q1,q2,q3,e1,e2,rfl⟩,hd σ H p⟩
theorem Jtn {b1 b2 b3} {xs ys us} {tt:TT} {te:TE} {R:Hp->Prop} (Pv:Nat->St->Hp->Prop) (h0:Pv 0 σ H) (hl:∀i σ H,i<=xs.length->Pv i σ H->SqB K H l1 b1 xs/\SqB K H l2 b2 ys/\SqB K H l3 b3 us) (e1:xs.length=ys.length) (e2:xs.length=us.length)
  (hs:∀i x y u σ H T,xs[i]?=some x->ys[i]?=some y->us[i]?=some u->Pv i σ H->H T=none->g (.ref T) σ (upd H T (.tup [x,y,u])) λσ3 H3=>tt σ3 H3 λb H4=>if b=true then te σ3 H4 (λv H5=>∃vs,H5 D=some (.lst vs)/\vs.length < Sa/\Pv (i+1) σ3 (upd H5 D (.lst (vs++ [v])))) else Pv (i+1) σ3 H4)
  (hd:∀σ H,Pv xs.length σ H->R H):
  ∃W:Nat->Nat->St->Hp->Prop,(∃m,W 0 m σ H)/\∀i m σ' H',W i m σ' H'->((Jyc K l1 l2 l3 b1 b2 b3).stop i H'/\R H')\/((Jyc K l1 l2 l3 b1 b2 b3).go i H'/\∃N:St->Hp->Prop,(∀σ2 H2,N σ2 H2->∃m',m' < m/\W (i+1) m' σ2 H2)/\
   ∀x H2,(Jyc K l1 l2 l3 b1 b2 b3).yld i H' x H2->g x σ' H2 λσ3 H3=>tt σ3 H3 λb H4=>if b=true then te σ3 H4 (λv H5=>∃vs,H5 D=some (.lst vs)/\vs.length < Sa/\N σ3 (upd H5 D (.lst (vs++ [v])))) else N σ3 H4):=Jze Pv h0 hl (ybr e1) e2 hs hd
theorem Ydz {tb:TS} {D:Sch} (Pv:Nat->St->Hp->Prop) (h0:Pv 0 σ H) (hl:∀i σ H,i<=xs.length->Pv i σ H->Sy K H a xs)
  (hs:∀i x σ H T,xs[i]?=some x->Pv i σ H->H T=none->g (.ref T) σ (upd H T (.tup [.int i,x])) λσ2 H2=>tb {D with nx:=Pv (i+1),ct:=Pv (i+1),bk:=D.nx} σ2 H2) (hd:∀σ H,Pv xs.length σ H->D.nx σ H):
  ∃W:Nat->Nat->St->Hp->Prop,(∃m,W 0 m σ H)/\∀i m σ H,W i m σ H->
   ((ItE K a).stop i H/\D.nx σ H)\/((ItE K a).go i H/\∃N:St->Hp->Prop,(∀σ' H',N σ' H'->∃m',m' < m/\W (i+1) m' σ' H')/\∀x H',(ItE K a).yld i H x H'->g x σ H' λσ2 H2=>tb {D with nx:=N,ct:=N,bk:=D.nx} σ2 H2):=by
 refine ⟨λi m σ H=>m=xs.length - i/\i<=xs.length/\Pv i σ H,⟨xs.length,by simp,yad _,h0⟩,?_⟩
 rintro i m σ H ⟨rfl,hi,p⟩
 have q:=hl i σ H hi p
 by_cases hlt:i < xs.length
 ·refine .inr ⟨⟨xs,xs[i],q,by simp [hlt]⟩,Pv (i+1),λσ' H' p'=>⟨xs.length - (i+1),by omega,rfl,hlt,p'⟩,λx H' y=>?_⟩
  obtain ⟨T,u,hT,rfl,hu,rfl⟩:=y
  exact hs i u σ _ T (hu xs q) p hT
 ·have e:i=xs.length:=by omega
  subst e
  exact .inl ⟨⟨xs,q,rfl⟩,hd σ H p⟩
theorem Yc4 {tb:TS} {D:Sch} (Pv:Nat->St->Hp->Prop) (h0:Pv 0 σ H) (hl:∀i σ H,i<=xs.length->Pv i σ H->SqT K H a xs)
  (hs:∀i x σ H T,xs[i]?=some x->Pv i σ H->H T=none->g (.ref T) σ (upd H T (.tup [.int i,x])) λσ2 H2=>tb {D with nx:=Pv (i+1),ct:=Pv (i+1),bk:=D.nx} σ2 H2) (hd:∀σ H,Pv xs.length σ H->D.nx σ H):
  ∃W:Nat->Nat->St->Hp->Prop,(∃m,W 0 m σ H)/\∀i m σ H,W i m σ H->
   ((ItU K a).stop i H/\D.nx σ H)\/((ItU K a).go i H/\∃N:St->Hp->Prop,(∀σ' H',N σ' H'->∃m',m' < m/\W (i+1) m' σ' H')/\∀x H',(ItU K a).yld i H x H'->g x σ H' λσ2 H2=>tb {D with nx:=N,ct:=N,bk:=D.nx} σ2 H2):=by
 refine ⟨λi m σ H=>m=xs.length - i/\i<=xs.length/\Pv i σ H,⟨xs.length,by simp,yad _,h0⟩,?_⟩
 rintro i m σ H ⟨rfl,hi,p⟩
 have q:=hl i σ H hi p
 by_cases hlt:i < xs.length
 ·refine .inr ⟨⟨xs,xs[i],q,by simp [hlt]⟩,Pv (i+1),λσ' H' p'=>⟨xs.length - (i+1),by omega,rfl,hlt,p'⟩,λx H' y=>?_⟩
  obtain ⟨T,u,hT,rfl,hu,rfl⟩:=y
  exact hs i u σ _ T (hu xs q) p hT
 ·have e:i=xs.length:=by omega
  subst e
  exact .inl ⟨⟨xs,q,rfl⟩,hd σ H p⟩
theorem Yam {xs} {tt:TT} {te:TE} {R:Hp->Prop} (Pv:Nat->St->Hp->Prop) (h0:Pv 0 σ H) (hl:∀i σ H,i<=xs.length->Pv i σ H->SqT K H a xs)
  (hs:∀i x σ H T,xs[i]?=some x->Pv i σ H->H T=none->g (.ref T) σ (upd H T (.tup [.int i,x])) λσ3 H3=>tt σ3 H3 λb H4=>if b=true then te σ3 H4 (λv H5=>∃vs,H5 D=some (.lst vs)/\vs.length < Sa/\Pv (i+1) σ3 (upd H5 D (.lst (vs++ [v])))) else Pv (i+1) σ3 H4)
  (hd:∀σ H,Pv xs.length σ H->R H):
  ∃W:Nat->Nat->St->Hp->Prop,(∃m,W 0 m σ H)/\∀i m σ' H',W i m σ' H'->((ItU K a).stop i H'/\R H')\/((ItU K a).go i H'/\∃N:St->Hp->Prop,(∀σ2 H2,N σ2 H2->∃m',m' < m/\W (i+1) m' σ2 H2)/\
   ∀x H2,(ItU K a).yld i H' x H2->g x σ' H2 λσ3 H3=>tt σ3 H3 λb H4=>if b=true then te σ3 H4 (λv H5=>∃vs,H5 D=some (.lst vs)/\vs.length < Sa/\N σ3 (upd H5 D (.lst (vs++ [v])))) else N σ3 H4):=by
 refine ⟨λi m σ H=>m=xs.length - i/\i<=xs.length/\Pv i σ H,⟨xs.length,by simp,yad _,h0⟩,?_⟩
 rintro i m σ H ⟨rfl,hi,p⟩
 have q:=hl i σ H hi p
 by_cases hlt:i < xs.length
 ·refine .inr ⟨⟨xs,xs[i],q,by simp [hlt]⟩,Pv (i+1),λσ' H' p'=>⟨xs.length - (i+1),by omega,rfl,hlt,p'⟩,λx H' y=>?_⟩
  obtain ⟨T,u,hT,rfl,hu,rfl⟩:=y
  exact hs i u σ _ T (hu xs q) p hT
 ·have e:i=xs.length:=by omega
  subst e
  exact .inl ⟨⟨xs,q,rfl⟩,hd σ H p⟩
end
section
variable {X:Cx}
theorem Jzv {K} (h:X.K=K):OpR X (compareOp .In) (rIn K false):=by subst h;exact Yax
theorem Jou {K} (h:X.K=K) (he:PE X e ta) (hb:attributeBase e f X.env (eval e X.env)=eval e X.env):PE X (.Attribute e f pos) (Sqw K ta f):=by subst h;exact Jnh he hb
theorem Jzx {K} (h1:X.prog=P) (h2:X.w=w) (h3:X.K=K) (h4:X.mg=mg) (h5:X.base=base) (he:PE X o ta) (hr:Sak j X.A)
  (ht:eval (.Call (.Attribute o m apos) [] [] pos) X.env=(do
   let ov<-eval o X.env
   standAt apos.atName
   let (f,first)<-holding [ov] (getMethod ov m pl)
   callWith pos f first (backTo pos (starEach [] X.env)) (backToKw pos (keywordEach [] X.env))):=by rfl):PE X (.Call (.Attribute o m apos) [] [] pos) (Jy8 P w K mg base j m ta Jus):=by
 subst h1 h2 h3 h4 h5
 exact Ju2 he hr ht
end
section
variable {X:Cx} {pos:Pos}
theorem Jqy {K} {k} (h1:X.K=K) (hc:X.calm=true) (h:PGs X es t)
  (hn:(assignEach es X.env).length=n:=by rfl) (hst:(assignEach es X.env).findIdx? (·.1)=none:=by rfl):PG X (.Tuple es k pos) (Sjh K n t):=by
 subst h1
 exact Jrm hc h hn hst
end
section
variable {g:TG} {tt:TT} {te:TE} {H:Hp} {D:S5} {σ:St} {R:Hp->Prop}
theorem Ybt {K} {a} {xs} (Pv:Nat->St->Hp->Prop) (h0:Pv 0 σ H) (hl:∀i σ H,i<=xs.length->Pv i σ H->SqT K H a xs)
  (hs:∀i x σ H,xs[i]?=some x->Pv i σ H->g x σ H λσ3 H3=>tt σ3 H3 λb H4=>if b=true then te σ3 H4 (λv H5=>∃ys,H5 D=some (.lst ys)/\ys.length < Sa/\Pv (i+1) σ3 (upd H5 D (.lst (ys++ [v])))) else Pv (i+1) σ3 H4)
  (hd:∀σ H,Pv xs.length σ H->R H):
  ∃W:Nat->Nat->St->Hp->Prop,(∃m,W 0 m σ H)/\∀i m σ' H',W i m σ' H'->((Itt K a).stop i H'/\R H')\/((Itt K a).go i H'/\∃N:St->Hp->Prop,(∀σ2 H2,N σ2 H2->∃m',m' < m/\W (i+1) m' σ2 H2)/\
   ∀x H2,(Itt K a).yld i H' x H2->g x σ' H2 λσ3 H3=>tt σ3 H3 λb H4=>if b=true then te σ3 H4 (λv H5=>∃ys,H5 D=some (.lst ys)/\ys.length < Sa/\N σ3 (upd H5 D (.lst (ys++ [v])))) else N σ3 H4):=by
 refine ⟨λi m σ H=>m=xs.length - i/\i<=xs.length/\Pv i σ H,⟨xs.length,by simp,yad _,h0⟩,?_⟩
 rintro i m σ H ⟨rfl,hi,p⟩
 have q:=hl i σ H hi p
 by_cases hlt:i < xs.length
 ·refine .inr ⟨⟨xs,xs[i],q,by simp [hlt]⟩,Pv (i+1),λσ' H' p'=>⟨xs.length - (i+1),by omega,rfl,hlt,p'⟩,λx H' y=>?_⟩
  obtain ⟨e,y⟩:=y
  subst e
  exact hs i x σ _ (y xs q) p
 ·have e:i=xs.length:=by omega
  subst e
  exact .inl ⟨⟨xs,q,yl _⟩,hd σ H p⟩
end
theorem Jow {K} {a D} {xs} {te:TE} {R:Hp->Prop} {H} {o} {rest} (ys) (hD:H D=none) (el:ys.length=xs.length) (sz:xs.length<=2000) (hq:H a=some (.lst xs))
  (he:∀(i:Nat) x y H' Q,xs[i]?=some x->ys[i]?=some y->Sn H H'->(∀H5,Sn H' H5->Q y H5)->te (some x::rest) H' Q) (hd:∀H',Sn H H'->H' D=some (.lst ys)->R H'):
  ∃W:Nat->Nat->St->Hp->Prop,(∃m,W 0 m (o::rest) (upd H D (.lst [])))/\∀i m σ' H',W i m σ' H'->((Itl K a).stop i H'/\R H')\/((Itl K a).go i H'/\∃N:St->Hp->Prop,(∀σ2 H2,N σ2 H2->∃m',m' < m/\W (i+1) m' σ2 H2)/\
   ∀x H2,(Itl K a).yld i H' x H2->Jp4 0 x σ' H2 λσ3 H3=>Ya σ3 H3 λb H4=>if b=true then te σ3 H4 (λv H5=>∃ys,H5 D=some (.lst ys)/\ys.length < Sa/\N σ3 (upd H5 D (.lst (ys++ [v])))) else N σ3 H4):=by
 refine Jok (λi σ H'=>(∃o,σ=o::rest)/\H' D=some (.lst (ys.take i))/\Sn H H') ⟨⟨_,rfl⟩,Sv,Sn.upd hD⟩ (λi σ H' _ ⟨_,_,sm⟩=>Sy.of (sm _ _ hq)) ?_ ?_
 ·rintro i x σ H' hx ⟨⟨o,rfl⟩,hDs,sm⟩
  have hi:i < ys.length:=by rw [el];exact (yo.mp hx).1
  refine Jo7 (he i x ys[i] H' _ hx (yh hi) sm λH5 s5=>⟨_,s5 _ _ hDs,?_,⟨_,rfl⟩,?_,λc u z=>?_⟩)
  ·rw [yz]
   exact Jne (by omega)
  ·rw [Sv,yag,yh hi]
   rfl
  ·rw [Jmm (Jmo z hD)]
   exact s5 _ _ (sm _ _ z)
 ·rintro σ H' ⟨_,hDs,sm⟩
  rw [yaf (by omega)] at hDs
  exact hd H' sm hDs
theorem Jp2 {K} {a D} {xs} {te:TE} {R:Hp->Prop} {H} {o} {rest} (ys) (hD:H D=none) (el:ys.length=xs.length) (sz:xs.length<=2000) (hq:H a=some (.tup xs))
  (he:∀(i:Nat) x y H' Q,xs[i]?=some x->ys[i]?=some y->Sn H H'->(∀H5,Sn H' H5->Q y H5)->te (some x::rest) H' Q) (hd:∀H',Sn H H'->H' D=some (.lst ys)->R H'):
  ∃W:Nat->Nat->St->Hp->Prop,(∃m,W 0 m (o::rest) (upd H D (.lst [])))/\∀i m σ' H',W i m σ' H'->((Itt K a).stop i H'/\R H')\/((Itt K a).go i H'/\∃N:St->Hp->Prop,(∀σ2 H2,N σ2 H2->∃m',m' < m/\W (i+1) m' σ2 H2)/\
   ∀x H2,(Itt K a).yld i H' x H2->Jp4 0 x σ' H2 λσ3 H3=>Ya σ3 H3 λb H4=>if b=true then te σ3 H4 (λv H5=>∃ys,H5 D=some (.lst ys)/\ys.length < Sa/\N σ3 (upd H5 D (.lst (ys++ [v])))) else N σ3 H4):=by
 refine Ybt (λi σ H'=>(∃o,σ=o::rest)/\H' D=some (.lst (ys.take i))/\Sn H H') ⟨⟨_,rfl⟩,Sv,Sn.upd hD⟩ (λi σ H' _ ⟨_,_,sm⟩=>SqT.of (sm _ _ hq)) ?_ ?_
 ·rintro i x σ H' hx ⟨⟨o,rfl⟩,hDs,sm⟩
  have hi:i < ys.length:=by rw [el];exact (yo.mp hx).1
  refine Jo7 (he i x ys[i] H' _ hx (yh hi) sm λH5 s5=>⟨_,s5 _ _ hDs,?_,⟨_,rfl⟩,?_,λc u z=>?_⟩)
  ·rw [yz]
   exact Jne (by omega)
  ·rw [Sv,yag,yh hi]
   rfl
  ·rw [Jmm (Jmo z hD)]
   exact s5 _ _ (sm _ _ z)
 ·rintro σ H' ⟨_,hDs,sm⟩
  rw [yaf (by omega)] at hDs
  exact hd H' sm hDs
section
variable {X:Cx}
theorem Ycd {K} (h:X.K=K):MtR X "str.join" (Skp K):=by subst h;exact Ye5
theorem Ycs {K} (h:X.K=K):SlR X (Sqd K):=by subst h;exact Ya5
theorem Smq {K} {apos cpos} {id} (h:X.K=K) (pa:PlainAttrs T) (slot:Slot T name id) (hty:typeOf (.builtin id)=pure (.type "method_descriptor")) (hm:MtR X id r) (ho:PE X o to) (ha:PA X (e::es) t)
  (hbase:attributeBase o name X.env (eval o X.env)=eval o X.env:=by rfl)
  (hfew:((backTo cpos (starEach (e::es) X.env)).all (λx=>!x.1)&&(backToKw cpos (keywordEach [] X.env)).all (λx=>x.1.isSome)
   &&decide ((e::es).length+([]:List Keyword).length+(if ([]:List Keyword).isEmpty then 0 else 1) < 30))=true:=by rfl)
  (hline:(apos.endLine==cpos.line)=true:=by rfl) (hs:starEach (e::es) X.env=(false,eval e X.env)::starEach es X.env:=by rfl) (hplain:(backTo cpos (starEach es X.env)).any (·.1)=false:=by rfl):
  PE X (.Call (.Attribute o name apos) (e::es) [] cpos) (tBM K T r to t):=by
 subst h
 exact Jrl pa slot hty hm ho ha hbase hfew hline hs hplain
end
theorem But.new (b:But p H H') (hD:H D=none) (hp:Sbb H p):But p H (upd H' D o):=by
 have ne:p≠D:=λe=>by obtain ⟨_,_,_,q⟩:=hp;rw [e,hD] at q;cases q
 refine ⟨λc u n e=>?_,?_⟩
 ·rw [Jmm (λz=>by subst z;rw [hD] at e;cases e)]
  exact b.1 c u n e
 ·obtain ⟨x,y,z,q⟩:=b.2
  exact ⟨x,y,z,by rw [Jmm ne];exact q⟩
inductive Sq6 (x:V) (y:V) (H:Hp) (Q:VK):Prop where
 |mk (a:_) (b:_) (xs:_) (ys:_) (_:x= .ref a) (_:y= .ref b) (_:H a=some (.tup xs)) (_:H b=some (.tup ys)) (_:xs.length+ys.length<=Sa) (_:∀p H',Sn H H'->H' p=some (.tup (xs++ys))->Q (.ref p) H')
section
variable {X:Cx}
theorem Jxs:OpR X (binaryOp .Add) Sq6:=by
 rintro pins s σ H x y v u Q I rx ry ⟨a,b,xs,ys,rfl,rfl,ha,hb,hz,q⟩
 by_cases hx:xs= []
 ·subst hx
  obtain rfl:v=Value.ref a:=rx
  obtain rfl:u=Value.ref b:=ry
  obtain ⟨its,r1,ht,_⟩:=I.tuple (SqT.of ha)
  obtain ⟨its2,r2,hb',_⟩:=I.tuple (SqT.of hb)
  obtain rfl:its= []:=r1.nil_iff.mpr rfl
  obtain ⟨⟨cls,dd,data,sl⟩,ho,hc,n,hd⟩:=id ht
  obtain ⟨⟨cls2,dd2,data2,sl2⟩,ho2,hc2,n2,hd2⟩:=id hb'
  subst hc hd hc2 hd2
  exact concat_meets ⟨_,ho,rfl⟩ ⟨_,ho2,rfl⟩ noFill_tuple_add seq_tuple_add PySem.F.slot_tuple_add PySem.F.entry_tuple_add (PySem.F.args_tuple_add_2 _ _)
   (tuple_addW0 a b _ _ n n2 dd dd2 sl sl2 (by simp)) ⟨ho,ho2,⟨.ref b,H,I,rfl,q b H (Sn.refl H) hb⟩⟩
 ·refine Yeb pins s σ H _ _ v u Q I rx ry ⟨a,b,xs,ys,rfl,rfl,SqT.of ha,SqT.of hb,hx,hz,λe=>?_,λ_ p hp=>q p _ (Sn.upd hp) Sv⟩
  subst e
  exact q a H (Sn.refl H) (by rw [yaq];exact ha)
def Jx2 (x:V):Prop:=Jpm x=true\/∃a,x= .ref a
def Own (H:Hp) (x:V):Prop:=Jpm x=true\/∃a,x= .ref a/\((∃vs,(H a=some (.lst vs)\/H a=some (.tup vs))/\∀v∈vs,Jx2 v)\/H a=some (.dK [])\/∃k v,H a=some (.dK [(k,v)]))
theorem Jv6:∀n:Nat,(yt n true).all id=true
 |0=>rfl
 |n+1=>by rw [List.replicate_succ,List.all_cons,Jv6 n];rfl
theorem Jx5 {vs:List V} (h:∀v∈vs,Jx2 v):∀(i:Nat) x y b,vs[i]?=some x->vs[i]?=some y->(yt vs.length true)[i]?=some b->Scx x y b:=by
 intro i x y b e1 e2 e3
 rw [e1] at e2
 cases e2
 have:=by
  rw [ybj] at e3
  split at e3
  ·exact (yw.inj e3).symm
  ·cases e3
 subst this
 exact Scx.self (h x (yy e1))
theorem Smm (hu:X.A.units+64 < cLine):OpR X (compareOp .Eq) (λx y H Q=>x=y/\Own H x/\Q (.bl true) H):=by
 rintro pins s σ H x y v u Q I rx ry ⟨rfl,hs,q⟩
 rcases hs with h|⟨a,rfl,⟨vs,h|h,hv⟩|h|⟨k,w1,h⟩⟩
 ·have z:Smw x x=true:=by
   cases x with
   |non=>rfl
   |bl b=>rfl
   |int i=>rfl
   |str i=>rfl
   |_=>cases h
  exact Joe pins s σ H x x v u Q I rx ry ⟨z,by simpa using q⟩
 ·exact Smk hu pins s σ H _ _ v u Q I rx ry ⟨a,a,vs,vs,yt vs.length true,rfl,rfl,Sy.of h,Sy.of h,rfl,by simp,Jx5 hv,by rw [Jv6];exact q⟩
 ·exact Smn hu pins s σ H _ _ v u Q I rx ry ⟨a,a,vs,vs,yt vs.length true,rfl,rfl,SqT.of h,SqT.of h,rfl,by simp,Jx5 hv,by rw [Jv6];exact q⟩
 ·obtain rfl:v=Value.ref a:=rx
  obtain rfl:u=Value.ref a:=ry
  obtain ⟨_,hd,vs,rv,dd⟩:=Skg I.hok h
  obtain rfl:vs= []:=by cases rv;rfl
  exact keq_eq hd hd dd dd (by omega) (λ_=>.nil) ⟨.bl true,H,I,rfl,q⟩
 ·obtain rfl:v=Value.ref a:=rx
  obtain rfl:u=Value.ref a:=ry
  obtain ⟨_,hd,vs,rv,dd⟩:=Skg I.hok h
  obtain ⟨w',rfl⟩:∃w',vs= [(k,w')]:=by
   cases rv with
   | @cons p q ps qs h t=>
    cases t
    obtain ⟨q1,q2⟩:=q
    exact ⟨q2,by rw [show q1=k from h.1.symm]⟩
  refine keq_eq hd hd dd dd (by omega) (λ_=>.hit (by simp [valueAt]) (SeqAt.EqAt.same _) .nil) ⟨.bl true,H,I,rfl,q⟩
end
theorem Y9:swapsWith (.List es p) t l env=pure false:=rfl
abbrev Jqd (h:Sg) (T:S5) (a b c d:S6):Prop:=h.get? T=some {cls:=.type "tuple",data:=.seq #[a,b,c,d]}
structure Z4 (z TI TO i1 i2 i3 i4 l1 l2 l3 l4:S5):Prop where
 nd: [z,TI,TO,i1,i2,i3,i4].Nodup
 m1:l1∉ [z,TI,TO,i1,i2,i3,i4]
 m2:l2∉ [z,TI,TO,i1,i2,i3,i4]
 m3:l3∉ [z,TI,TO,i1,i2,i3,i4]
 m4:l4∉ [z,TI,TO,i1,i2,i3,i4]
section
variable {prog:Sb} {w:Sd} {A:Se} {E:S6->S7->Prop} {s:S7}
theorem Yab {k} {Q} (hT:Jqd s.heap T a b c d)
  (h:∀h',h'.get? T=some {cls:=.type "tuple",data:=.seq ((#[a,b,c,d]:Array S6).setIfInBounds k x)}->yas T s.heap h'->Q () {s with heap:=h'}):Sh (model prog w) A (updateSeq T (·.setIfInBounds k x)) Q E s:=by
 refine wpAny_updateSeq hT rfl (h _ ?_ (yas.update ..))
 rw [ybt _ hT rfl]
 simp [Obj.mapSeq]
variable {z TI TO i1 i2 i3 i4 l1 l2 l3 l4:S5} {n k:Nat} {P1 P2 P3 P4:Nat->S6->Prop} {S1 S2 S3 S4:Nat->Sg->Prop} {a b c d0:S6}
theorem Yfg {Q:S6->S7->Prop} (Z:Z4 z TI TO i1 i2 i3 i4 l1 l2 l3 l4) (hz:IsZip s.heap z TI TO .none) (hTI:Jqd s.heap TI (.ref i1) (.ref i2) (.ref i3) (.ref i4)) (hTO:Jqd s.heap TO a b c d0)
  (hh:A.handled=none) (D1:DrA prog w i1 l1 n P1 S1) (D2:DrA prog w i2 l2 n P2 S2) (D3:DrA prog w i3 l3 n P3 S3) (D4:DrA prog w i4 l4 n P4 S4) (hk:k < n) (t1:S1 k s.heap) (t2:S2 k s.heap) (t3:S3 k s.heap) (t4:S4 k s.heap)
  (hQ:∀x y u v h' tk,P1 k x->P2 k y->P3 k u->P4 k v->IsZip h' z TI TO (rawInt s.heap.objs.size)->Jqd h' TO x y u v->S1 (k+1) h'->S2 (k+1) h'->S3 (k+1) h'->S4 (k+1) h'->Jqd h' s.heap.objs.size x y u v->
   (∀d o,d≠z->d≠TO->d≠i1->d≠i2->d≠i3->d≠i4->s.heap.get? d=some o->h'.get? d=some o)->Q (.ref s.heap.objs.size) {s with heap:=h',toks:=tk}):
  Sh (model prog w) A (Builtin.«zip.__next__» ⟨[.ref z],[]⟩) (λfin s'=>∃v,fin= .done (.ret v)/\Q v s') E s:=by
 obtain ⟨nd,m1,m2,m3,m4⟩:=Z
 simp only [yax,yk,yp,or_false,not_or,List.nodup_nil,and_true,not_false_eq_true] at nd m1 m2 m3 m4
 obtain ⟨⟨zTI,zTO,z1,z2,z3,z4⟩,⟨TITO,TI1,TI2,TI3,TI4⟩,⟨TO1,TO2,TO3,TO4⟩,⟨n12,n13,n14⟩,⟨n23,n24⟩,n34⟩:=nd
 obtain ⟨l1z,l1TI,l1TO,l11,l12,l13,l14⟩:=m1
 obtain ⟨l2z,l2TI,l2TO,l21,l22,l23,l24⟩:=m2
 obtain ⟨l3z,l3TI,l3TO,l31,l32,l33,l34⟩:=m3
 obtain ⟨l4z,l4TI,l4TO,l41,l42,l43,l44⟩:=m4
 have fr:∀{S:Nat->Sg->Prop} {P:Nat->S6->Prop} {i l b:S5} {m:Nat} {h h':Sg},DrA prog w i l n P S->i≠b->l≠b->yas b h h'->S m h->S m h':=λD e1 e2 sb st=>
  (D A hh).frame _ _ _ st λd hd o e=>by
   simp only [yk,yp,or_false] at hd
   rcases hd with rfl|rfl
   ·exact sb.extBut _ _ e1 e
   ·exact sb.extBut _ _ e2 e
 show Sh _ _ (field (.ref z) 2 >>=_) _ _ _
 refine S8 (wpAny_field hz rfl (x:=.bool false) rfl ?_)
 refine S8 (m:=field (.ref z) 3) (wpAny_field hz rfl (x:=.ref TI) rfl ?_)
 refine S8 (wpAny_seqItems hTI rfl ?_)
 refine S8 (m:=Builtin.SmallTypes.ownedTupleIsFree (.ref z)) ?_
 refine S8 (wpAny_field hz rfl (x:=.none) rfl (S9 ?_))
 refine S8 (wpAny_rule (S8 (wpAny_field hz rfl (x:=.ref TO) rfl (S8 (wpAny_setField_rec hz (by simp) λh1 hz1 s1=>?_)))))
 refine S8 ?_
 refine S8 (S8 (wpAny_onRaise ?_))
 refine S8 (m:=Builtin.SmallTypes.nextOf (.ref i1)) ((D1 A hh).item k _ _ _ hk (fr D1 (yg z1) l1z s1 t1) λx h2 k2 px u1 s2=>S9 ?_)
 have o2:Jqd h2 TO a b c d0:=s2.extBut _ _ TO1 (s1.extBut _ _ (yg zTO) hTO)
 refine S8 (wpAny_seqItems o2 rfl (S8 (Yab o2 λh3 o3 s3=>S8 (wpAny_letGo (S9 ?_)))))
 refine S8 (S8 (wpAny_onRaise ?_))
 refine S8 (m:=Builtin.SmallTypes.nextOf (.ref i2)) ((D2 A hh).item k _ _ _ hk (fr D2 (yg TO2) l2TO s3 (fr D2 (yg n12) l21 s2 (fr D2 (yg z2) l2z s1 t2))) λy h4 k4 py u2 s4=>S9 ?_)
 have o4:Jqd h4 TO x b c d0:=s4.extBut _ _ TO2 o3
 refine S8 (wpAny_seqItems o4 rfl (S8 (Yab o4 λh5 o5 s5=>S8 (wpAny_letGo (S9 ?_)))))
 refine S8 (S8 (wpAny_onRaise ?_))
 refine S8 (m:=Builtin.SmallTypes.nextOf (.ref i3)) ((D3 A hh).item k _ _ _ hk (fr D3 (yg TO3) l3TO s5 (fr D3 (yg n23) l32 s4 (fr D3 (yg TO3) l3TO s3 (fr D3 (yg n13) l31 s2 (fr D3 (yg z3) l3z s1 t3))))) λu h6 k6 pu u3 s6=>S9 ?_)
 have o6:Jqd h6 TO x y c d0:=s6.extBut _ _ TO3 o5
 refine S8 (wpAny_seqItems o6 rfl (S8 (Yab o6 λh7 o7 s7=>S8 (wpAny_letGo (S9 ?_)))))
 refine S8 (S8 (wpAny_onRaise ?_))
 refine S8 (m:=Builtin.SmallTypes.nextOf (.ref i4)) ((D4 A hh).item k _ _ _ hk (fr D4 (yg TO4) l4TO s7 (fr D4 (yg n34) l43 s6 (fr D4 (yg TO4) l4TO s5 (fr D4 (yg n24) l42 s4 (fr D4 (yg TO4) l4TO s3 (fr D4 (yg n14) l41 s2 (fr D4 (yg z4) l4z s1 t4))))))) λv h8 k8 pv u4 s8=>S9 ?_)
 have o8:Jqd h8 TO x y u d0:=s8.extBut _ _ TO4 o7
 refine S8 (wpAny_seqItems o8 rfl (S8 (Yab o8 λh9 o9 s9=>S8 (wpAny_letGo (S9 (S9 ?_))))))
 replace o9:Jqd h9 TO x y u v:=o9
 refine S8 (wpAny_seqItems o9 rfl (S8 (wpAny_newTuple ?_)))
 have sz:h9.objs.size=s.heap.objs.size:=by rw [s9.1,s8.1,s7.1,s6.1,s5.1,s4.1,s3.1,s2.1,s1.1]
 have zz:IsZip h9 z TI TO .ellipsis:=s9.extBut _ _ zTO (s8.extBut _ _ z4 (s7.extBut _ _ zTO (s6.extBut _ _ z3 (s5.extBut _ _ zTO (s4.extBut _ _ z2 (s3.extBut _ _ zTO (s2.extBut _ _ z1 hz1)))))))
 have kk:∀d o,d≠z->d≠TO->d≠i1->d≠i2->d≠i3->d≠i4->s.heap.get? d=some o->h9.get? d=some o:=λd o c1 c2 c3 c4 c5 c6 e=>
  s9.extBut _ _ c2 (s8.extBut _ _ c6 (s7.extBut _ _ c2 (s6.extBut _ _ c5 (s5.extBut _ _ c2 (s4.extBut _ _ c4 (s3.extBut _ _ c2 (s2.extBut _ _ c3 (s1.extBut _ _ c1 e))))))))
 have w1:S1 (k+1) h9:=fr D1 (yg TO1) l1TO s9 (fr D1 n14 l14 s8 (fr D1 (yg TO1) l1TO s7 (fr D1 n13 l13 s6 (fr D1 (yg TO1) l1TO s5 (fr D1 n12 l12 s4 (fr D1 (yg TO1) l1TO s3 u1))))))
 have w2:S2 (k+1) h9:=fr D2 (yg TO2) l2TO s9 (fr D2 n24 l24 s8 (fr D2 (yg TO2) l2TO s7 (fr D2 n23 l23 s6 (fr D2 (yg TO2) l2TO s5 u2))))
 have w3:S3 (k+1) h9:=fr D3 (yg TO3) l3TO s9 (fr D3 n34 l34 s8 (fr D3 (yg TO3) l3TO s7 u3))
 have w4:S4 (k+1) h9:=fr D4 (yg TO4) l4TO s9 u4
 have zlt:z < h9.objs.size:=yi zz
 refine S8 (m:=Builtin.SmallTypes.ownedTupleHandOut (.ref z) (.ref h9.objs.size)) ?_
 have zp:IsZip (h9.push {cls:=.type "tuple",data:=.seq #[x,y,u,v]}) z TI TO .ellipsis:=yn _ zz
 refine S8 (wpAny_setField_rec zp (by simp) λh10 hz10 s10=>?_)
 refine wpAny_setField_rec hz10 (by simp) λh11 hz11 s11=>?_
 have up:∀d o,d≠z->h9.get? d=some o->h11.get? d=some o:=λd o c1 e=>s11.extBut _ _ c1 (s10.extBut _ _ c1 (yn _ e))
 have nw:Jqd h11 h9.objs.size x y u v:=s11.extBut _ _ (yaw zlt) (s10.extBut _ _ (yaw zlt) (yq _ rfl))
 have fz:∀{S:Nat->Sg->Prop} {P:Nat->S6->Prop} {i l:S5} {m:Nat},DrA prog w i l n P S->i≠z->l≠z->S m h9->S m h11:=λD e1 e2 st=>(D A hh).frame _ _ _ st λd hd o e=>by
  simp only [yk,yp,or_false] at hd
  rcases hd with rfl|rfl
  ·exact up _ _ e1 e
  ·exact up _ _ e2 e
 rw [sz] at hz11 nw
 refine S9 ⟨_,rfl,?_⟩
 rw [sz]
 exact hQ x y u v h11 _ px py pu pv hz11 (up _ _ (yg zTO) o9) (fz D1 (yg z1) l1z w1) (fz D2 (yg z2) l2z w2) (fz D3 (yg z3) l3z w3) (fz D4 (yg z4) l4z w4) nw λd o c1 c2 c3 c4 c5 c6 e=>up d o c1 (kk d o c1 c2 c3 c4 c5 c6 e)
theorem So7 (Z:Z4 z TI TO i1 i2 i3 i4 l1 l2 l3 l4) (hz:IsZip s.heap z TI TO .none) (hTI:Jqd s.heap TI (.ref i1) (.ref i2) (.ref i3) (.ref i4))
  (hh:A.handled=none) (D1:DrA prog w i1 l1 n P1 S1) (t1:S1 n s.heap)
  (hE:∀h' e,(∀d o,d≠z->d≠i1->s.heap.get? d=some o->h'.get? d=some o)->(∃o,h'.get? e=some o/\o.cls= .type "StopIteration")->E (.ref e) {s with heap:=h'}):
  Sh (model prog w) A (Builtin.«zip.__next__» ⟨[.ref z],[]⟩) Q E s:=by
 obtain ⟨nd,m1,_,_,_⟩:=Z
 simp only [yax,yk,not_or] at nd m1
 obtain ⟨⟨zTI,zTO,z1,z2,z3,z4⟩,_⟩:=nd
 obtain ⟨l1z,l1TI,l1TO,l11,l12,l13,l14⟩:=m1
 show Sh _ _ (field (.ref z) 2 >>=_) _ _ _
 refine S8 (wpAny_field hz rfl rfl (S8 (wpAny_field hz rfl rfl (S8 (wpAny_seqItems hTI rfl ?_)))))
 refine S8 (S8 (wpAny_field hz rfl rfl (S9 (S8 (wpAny_rule (S8 (wpAny_field hz rfl rfl (S8 (wpAny_setField_rec hz (by simp) λh1 hz1 s1=>S8 ?_)))))))))
 refine S8 (S8 (wpAny_onRaise (S8 ((D1 A hh).done _ _ _ ((D1 A hh).frame _ _ _ t1 λd hd o e=>?_) λh2 e s2 he=>?_))))
 ·simp only [yk,yp,or_false] at hd
  rcases hd with rfl|rfl
  ·exact s1.extBut _ _ (yg z1) e
  ·exact s1.extBut _ _ l1z e
 ·obtain ⟨oe,hoe,hce⟩:=he
  have hz2:=s2 _ _ z1 hz1
  have ez:e≠z:=λq=>by subst q;rw [hz2] at hoe;cases hoe;simp at hce
  exact wpAny_setField_rec hz2 (by simp) λh3 _ s3=>hE h3 e (λd o c1 c2 q=>s3.extBut _ _ c1 (s2 _ _ c2 (s1.extBut _ _ c1 q))) ⟨oe,s3.extBut _ _ ez hoe,hce⟩
end
def Su9 (z TI TO i1 i2 i3 i4:S5) (S1 S2 S3 S4:Nat->Sg->Prop) (i:Nat) (h:Sg):Prop:=IsZip h z TI TO .none/\Jqd h TI (.ref i1) (.ref i2) (.ref i3) (.ref i4)/\(∃a b c d,Jqd h TO a b c d)/\S1 i h/\S2 i h/\S3 i h/\S4 i h
section
variable {prog:Sb} {w:Sd} {z TI TO i1 i2 i3 i4 l1 l2 l3 l4:S5} {n:Nat} {P1 P2 P3 P4:Nat->S6->Prop} {S1 S2 S3 S4:Nat->Sg->Prop}
theorem Ydk (hh:A.handled=none) (Z:Z4 z TI TO i1 i2 i3 i4 l1 l2 l3 l4) (D1:DrA prog w i1 l1 n P1 S1) (D2:DrA prog w i2 l2 n P2 S2) (D3:DrA prog w i3 l3 n P3 S3) (D4:DrA prog w i4 l4 n P4 S4):
  WalksT prog w A z [z,TI,TO,i1,i2,i3,i4,l1,l2,l3,l4] [z,TO,i1,i2,i3,i4] n (λi vals=>∃x y u v,P1 i x/\P2 i y/\P3 i u/\P4 i v/\vals= #[x,y,u,v]) (Su9 z TI TO i1 i2 i3 i4 S1 S2 S3 S4)
   (λi T h=>IsZip h z TI TO (rawInt T)/\Jqd h TI (.ref i1) (.ref i2) (.ref i3) (.ref i4)/\(∃a b c d,Jqd h TO a b c d)/\S1 (i+1) h/\S2 (i+1) h/\S3 (i+1) h/\S4 (i+1) h/\T∉ [z,TO,i1,i2,i3,i4]) where
 sub:=λc hc=>by simp at hc⊢;rcases hc with rfl|rfl|rfl|rfl|rfl|rfl <;> simp
 frame:=λi h h' hst hk=>by
  obtain ⟨hz,hTI,⟨a,b,c,d,hTO⟩,h1,h2,h3,h4⟩:=hst
  exact ⟨hk z (by simp) _ hz,hk TI (by simp) _ hTI,⟨a,b,c,d,hk TO (by simp) _ hTO⟩,(D1 A hh).frame _ _ _ h1 λd hd o e=>hk d (by simp at hd;rcases hd with rfl|rfl <;> simp) o e,
   (D2 A hh).frame _ _ _ h2 λd hd o e=>hk d (by simp at hd;rcases hd with rfl|rfl <;> simp) o e,(D3 A hh).frame _ _ _ h3 λd hd o e=>hk d (by simp at hd;rcases hd with rfl|rfl <;> simp) o e,(D4 A hh).frame _ _ _ h4 λd hd o e=>hk d (by simp at hd;rcases hd with rfl|rfl <;> simp) o e⟩
 item:=λi s Q E hi hst hQ=>by
  obtain ⟨hz,hTI,⟨a,b,c,d,hTO⟩,h1,h2,h3,h4⟩:=hst
  have hT:s.TypeIs (.ref z) "zip" :=⟨_,hz,rfl⟩
  have nd:=Z.nd
  simp only [yax,yk,yp,or_false,not_or] at nd
  obtain ⟨⟨zTI,_⟩,⟨TITO,TI1,TI2,TI3,TI4⟩,_⟩:=nd
  obtain ⟨e1,g1⟩:=(D1 A hh).live _ _ h1
  obtain ⟨e2,g2⟩:=(D2 A hh).live _ _ h2
  obtain ⟨e3,g3⟩:=(D3 A hh).live _ _ h3
  obtain ⟨e4,g4⟩:=(D4 A hh).live _ _ h4
  refine S8 (wpAny_attempt (wpAny_callSpecial?_slot hT F.slot_zip_next (wpAny_call_entry F.slot_zip_next hT F.entry_zip_next
   (Yfg Z hz hTI hTO hh D1 D2 D3 D4 hi h1 h2 h3 h4 λx y u v h' tk px py pu pv a1 a2 a3 a4 a5 a6 a7 hk=>S9 ?_) (F.args_zip_next_1 _))))
  refine hQ s.heap.objs.size #[x,y,u,v] h' tk ⟨x,y,u,v,px,py,pu,pv,rfl⟩ (yl _) ⟨_,a7,rfl,_,rfl⟩ ⟨a1,hk _ _ (yg zTI) TITO TI1 TI2 TI3 TI4 hTI,⟨_,_,_,_,a2⟩,a3,a4,a5,a6,?_⟩ λd o hd e=>hk d o (λq=>hd (by simp [q])) (λq=>hd (by simp [q])) (λq=>hd (by simp [q])) (λq=>hd (by simp [q])) (λq=>hd (by simp [q])) (λq=>hd (by simp [q])) e
  have lt:∀{d o},s.heap.get? d=some o->s.heap.objs.size≠d:=λe=>yaw (yi e)
  simp only [yk,yp,or_false,not_or]
  exact ⟨lt hz,lt hTO,lt g1,lt g2,lt g3,lt g4⟩
 go:=λelts k pos i T s Q E hm hQ=>by
  obtain ⟨hz,hTI,⟨a,b,c,d,hTO⟩,h1,h2,h3,h4,_⟩:=hm
  have nd:=Z.nd
  have m1:=Z.m1
  have m2:=Z.m2
  have m3:=Z.m3
  have m4:=Z.m4
  simp only [yax,yk,yp,or_false,not_or] at nd m1 m2 m3 m4
  obtain ⟨⟨zTI,zTO,z1,z2,z3,z4⟩,_⟩:=nd
  have fz:∀{S:Nat->Sg->Prop} {P:Nat->S6->Prop} {j l:S5} {m:Nat} {h':Sg},DrA prog w j l n P S->j≠z->l≠z->yas z s.heap h'->S m s.heap->S m h':=λD e1 e2 sb st=>(D A hh).frame _ _ _ st λd hd o e=>by
   simp only [yk,yp,or_false] at hd
   rcases hd with rfl|rfl
   ·exact sb.extBut _ _ e1 e
   ·exact sb.extBut _ _ e2 e
  exact wpAny_letOwnedTupleGo_zip hz λh' hz' sb=>hQ h' ⟨hz',sb.extBut _ _ (yg zTI) hTI,⟨a,b,c,d,sb.extBut _ _ (yg zTO) hTO⟩,fz D1 (yg z1) m1.1 sb h1,fz D2 (yg z2) m2.1 sb h2,fz D3 (yg z3) m3.1 sb h3,fz D4 (yg z4) m4.1 sb h4⟩ λd o hd e=>sb.extBut _ _ (λq=>hd (by simp [q])) e
 apart:=λi T h hm hT=>hm.2.2.2.2.2.2.2 hT
 done:=λs Q E hst hQ=>by
  obtain ⟨hz,hTI,_,h1,h2,h3,h4⟩:=hst
  have hT:s.TypeIs (.ref z) "zip" :=⟨_,hz,rfl⟩
  refine S8 (wpAny_attempt (wpAny_callSpecial?_slot hT F.slot_zip_next (wpAny_call_entry F.slot_zip_next hT F.entry_zip_next
   (So7 Z hz hTI hh D1 h1 λh' e hk he=>?_) (F.args_zip_next_1 _))))
  obtain ⟨o,ho,hc⟩:=he
  exact S8 (wpAny_isInstance ⟨o,ho,hc⟩ isSubtype_stop (S9 (hQ h' s.toks λd o' hd e'=>hk d o' (λq=>hd (by simp [q])) (λq=>hd (by simp [q])) e')))
 self:=λi s Q E hst hQ=>wpAny_pyIter_zip hst.1 hQ
end
abbrev yC (h:Sg) (l1 l2 l3 l4:S5) (b1 b2 b3 b4:Bool):Sg:=(zC h l1 l2 l3 b1 b2 b3).push (itO l4 b4)
abbrev yD (h:Sg) (l1 l2 l3 l4:S5) (b1 b2 b3 b4:Bool):Sg:=(yC h l1 l2 l3 l4 b1 b2 b3 b4).push {cls:=.type "tuple",data:=.seq #[.ref h.objs.size,.ref (zA h l1 b1).objs.size,.ref (zB h l1 l2 b1 b2).objs.size,.ref (zC h l1 l2 l3 b1 b2 b3).objs.size]}
abbrev yE (h:Sg) (l1 l2 l3 l4:S5) (b1 b2 b3 b4:Bool):Sg:=(yD h l1 l2 l3 l4 b1 b2 b3 b4).push {cls:=.type "tuple",data:=.seq #[.none,.none,.none,.none]}
abbrev yF (h:Sg) (l1 l2 l3 l4:S5) (b1 b2 b3 b4:Bool):Sg:=(yE h l1 l2 l3 l4 b1 b2 b3 b4).push {cls:=.type "zip",data:=.fields #[.none,.bool false,.bool false,.ref (yC h l1 l2 l3 l4 b1 b2 b3 b4).objs.size,.ref (yD h l1 l2 l3 l4 b1 b2 b3 b4).objs.size]}
set_option maxRecDepth 100000 in
set_option maxHeartbeats 4000000 in
theorem Ydt (l1 l2 l3 l4:S5) (b1 b2 b3 b4:Bool) (xs ys us vs):
  Meets (Builtin.«zip.__new__» ⟨[.type "zip",.ref l1,.ref l2,.ref l3,.ref l4],[]⟩) (λ_ R s=>IsB s.heap l1 b1 xs/\IsB s.heap l2 b2 ys/\IsB s.heap l3 b3 us/\IsB s.heap l4 b4 vs/\
   R (.ok (.ret (.ref (yE s.heap l1 l2 l3 l4 b1 b2 b3 b4).objs.size))) {s with heap:=yF s.heap l1 l2 l3 l4 b1 b2 b3 b4}):=
 .of_wp λprog w A R s h=>by
  obtain ⟨hp,g,d,tk,os⟩:=s
  obtain ⟨hl1,hl2,hl3,hl4,h⟩:=h
  have e0:=sub_zip
  have e1:=hl1
  have e2:IsB (Shared.heap ⟨hp.push (itO l1 b1),g,d,tk,os⟩) l2 b2 ys:=IsB.push hl2 _
  have e3:IsB (Shared.heap ⟨(hp.push (itO l1 b1)).push (itO l2 b2),g,d,tk,os⟩) l3 b3 us:=IsB.push (IsB.push hl3 _) _
  have e4:IsB (Shared.heap ⟨((hp.push (itO l1 b1)).push (itO l2 b2)).push (itO l3 b3),g,d,tk,os⟩) l4 b4 vs:=IsB.push (IsB.push (IsB.push hl4 _) _) _
  wp_walk using Jvk e1,Jvk e2,Jvk e3,Jvk e4
  exact ⟨_,rfl,h⟩
theorem Jw7 (a b c d):checkTypeCall "zip" ⟨[a,b,c,d],[]⟩=pure ():=by kernel_rfl
theorem Jwc (a b c d):checkBuiltinCall "zip.__new__" ⟨[.type "zip",a,b,c,d],[]⟩=pure ():=by kernel_rfl
theorem Jye (a b c d e):argsOk "object.__init__" ⟨[a,b,c,d,e],[]⟩:=by
 unfold argsOk;rw [signature?_of (n:=['_','_','t','i','n','i','_','_']) (by kernel_rfl) F.owner_object];kernel_rfl
section
variable {prog:Sb} {w:Sd} {A:Se} {E:S6->S7->Prop} {s:S7}
theorem Yal {b1 b2 b3 b4} {xs ys us vs} {Q} (h1:IsB s.heap l1 b1 xs) (h2:IsB s.heap l2 b2 ys) (h3:IsB s.heap l3 b3 us) (h4:IsB s.heap l4 b4 vs)
  (h:∀h',IsZip h' (s.heap.objs.size+6) (s.heap.objs.size+4) (s.heap.objs.size+5) .none->Jqd h' (s.heap.objs.size+4) (.ref s.heap.objs.size) (.ref (s.heap.objs.size+1)) (.ref (s.heap.objs.size+2)) (.ref (s.heap.objs.size+3))->
   Jqd h' (s.heap.objs.size+5) .none .none .none .none->IS s.heap.objs.size l1 b1 0 h'->IS (s.heap.objs.size+1) l2 b2 0 h'->IS (s.heap.objs.size+2) l3 b3 0 h'->IS (s.heap.objs.size+3) l4 b4 0 h'->
   (∀c o,s.heap.get? c=some o->h'.get? c=some o)->Q (.ref (s.heap.objs.size+6)) {s with heap:=h'}):
  Sh (model prog w) A (call (.type "zip") [.ref l1,.ref l2,.ref l3,.ref l4]) Q E s:=by
 refine callType_new F.called_zip (by decide) (Jw7 _ _ _ _) (Jwc _ _ _ _) (λobj=>Jye obj _ _ _ _) F.entry_zip_new (Ydt l1 l2 l3 l4 b1 b2 b3 b4 xs ys us vs) ⟨h1,h2,h3,h4,?_⟩
 have z1:(zA s.heap l1 b1).objs.size=s.heap.objs.size+1:=yaa ..
 have z2:(zB s.heap l1 l2 b1 b2).objs.size=s.heap.objs.size+2:=by rw [yaa,z1]
 have z3:(zC s.heap l1 l2 l3 b1 b2 b3).objs.size=s.heap.objs.size+3:=by rw [yaa,z2]
 have z4:(yC s.heap l1 l2 l3 l4 b1 b2 b3 b4).objs.size=s.heap.objs.size+4:=by rw [yaa,z3]
 have z5:(yD s.heap l1 l2 l3 l4 b1 b2 b3 b4).objs.size=s.heap.objs.size+5:=by rw [yaa,z4]
 have z6:(yE s.heap l1 l2 l3 l4 b1 b2 b3 b4).objs.size=s.heap.objs.size+6:=by rw [yaa,z5]
 have p:∀{h:Sg} {c:S5} {o q:Obj},h.get? c=some o->(h.push q).get? c=some o:=λe=>yn _ e
 have g7:(yF s.heap l1 l2 l3 l4 b1 b2 b3 b4).get? (yE s.heap l1 l2 l3 l4 b1 b2 b3 b4).objs.size=some _:=yq _ rfl
 have g6:(yF s.heap l1 l2 l3 l4 b1 b2 b3 b4).get? (yD s.heap l1 l2 l3 l4 b1 b2 b3 b4).objs.size=some _:=p (yq _ rfl)
 have g5:(yF s.heap l1 l2 l3 l4 b1 b2 b3 b4).get? (yC s.heap l1 l2 l3 l4 b1 b2 b3 b4).objs.size=some _:=p (p (yq _ rfl))
 have fr:∀l b,(itO l b).isFreed=false:=λl b=>by cases b <;> rfl
 have g4:(yF s.heap l1 l2 l3 l4 b1 b2 b3 b4).get? (zC s.heap l1 l2 l3 b1 b2 b3).objs.size=some (itO l4 b4):=p (p (p (yq _ (fr _ _))))
 have g3:(yF s.heap l1 l2 l3 l4 b1 b2 b3 b4).get? (zB s.heap l1 l2 b1 b2).objs.size=some (itO l3 b3):=p (p (p (p (yq _ (fr _ _)))))
 have g2:(yF s.heap l1 l2 l3 l4 b1 b2 b3 b4).get? (zA s.heap l1 b1).objs.size=some (itO l2 b2):=p (p (p (p (p (yq _ (fr _ _))))))
 have g1:(yF s.heap l1 l2 l3 l4 b1 b2 b3 b4).get? s.heap.objs.size=some (itO l1 b1):=p (p (p (p (p (p (yq _ (fr _ _)))))))
 have is:∀{it l:S5} {b:Bool} {h:Sg},h.get? it=some (itO l b)->IS it l b 0 h:=λ{it l b h} e=>by
  cases b
  ·exact ⟨_,e,rfl,rfl⟩
  ·exact ⟨_,e,rfl,rfl⟩
 rw [z4,z5,z6] at g7
 rw [z1,z2,z3,z4] at g5
 rw [z5] at g6
 rw [z3] at g4
 rw [z2] at g3
 rw [z1] at g2
 rw [z6]
 exact ⟨⟨_,g7,rfl⟩,h _ g7 g5 g6 (is g1) (is g2) (is g3) (is g4) λc o x=>p (p (p (p (p (p (p x))))))⟩
end
def Sid (K:Si) (l1 l2 l3 l4:S5) (b1 b2 b3 b4:Bool):It:=
 ⟨λi H=>∃xs ys us vs,SqB K H l1 b1 xs/\SqB K H l2 b2 ys/\SqB K H l3 b3 us/\SqB K H l4 b4 vs/\xs.length=ys.length/\xs.length=us.length/\xs.length=vs.length/\i < xs.length,
  λi H x H'=>∃T p q r t,H T=none/\x= .ref T/\(∀xs,SqB K H l1 b1 xs->xs[i]?=some p)/\(∀ys,SqB K H l2 b2 ys->ys[i]?=some q)/\(∀us,SqB K H l3 b3 us->us[i]?=some r)/\(∀vs,SqB K H l4 b4 vs->vs[i]?=some t)/\H'=upd H T (.tup [p,q,r,t]),
  λi H=>∃xs ys us vs,SqB K H l1 b1 xs/\SqB K H l2 b2 ys/\SqB K H l3 b3 us/\SqB K H l4 b4 vs/\xs.length=ys.length/\xs.length=us.length/\xs.length=vs.length/\i=xs.length⟩
def Z4T (z TI TO i1 i2 i3 i4 l1 l2 l3 l4:S5) (b1 b2 b3 b4:Bool) (i:Nat) (h:Sg):Prop:=IsZip h z TI TO .none/\Jqd h TI (.ref i1) (.ref i2) (.ref i3) (.ref i4)/\(∃a b c d,Jqd h TO a b c d)/\IS i1 l1 b1 i h/\IS i2 l2 b2 i h/\IS i3 l3 b3 i h/\IS i4 l4 b4 i h
theorem Z4T.obj {TI TO l4} (st:Z4T z TI TO i1 i2 i3 i4 l1 l2 l3 l4 b1 b2 b3 b4 i h):∀b∈ [z,TI,TO,i1,i2,i3,i4],∃o,h.get? b=some o/\∀v,o.data≠ .cell v:=λb hb=>by
 obtain ⟨h1,h2,⟨x,y,u,v,h3⟩,h4,h5,h6,h7⟩:=st
 simp only [yk,yp,or_false] at hb
 rcases hb with rfl|rfl|rfl|rfl|rfl|rfl|rfl
 ·exact ⟨_,h1,λv z=>by cases z⟩
 ·exact ⟨_,h2,λv z=>by cases z⟩
 ·exact ⟨_,h3,λv z=>by cases z⟩
 ·exact h4.obj
 ·exact h5.obj
 ·exact h6.obj
 ·exact h7.obj
theorem Z4.ne {TI TO l4} (Z:Z4 z TI TO i1 i2 i3 i4 l1 l2 l3 l4):l1≠i1/\l2≠i2/\l3≠i3/\l4≠i4:=by
 obtain ⟨_,m1,m2,m3,m4⟩:=Z
 simp only [yk,yp,or_false,not_or] at m1 m2 m3 m4
 exact ⟨m1.2.2.2.1,m2.2.2.2.2.1,m3.2.2.2.2.2.1,m4.2.2.2.2.2.2⟩
theorem Ybf {P:Sb} {w:Sd} {K:Si} {elts:List Expr} {kt:Nat} {pt:Pos} (z TI TO i1 i2 i3 i4 l1 l2 l3 l4) (b1 b2 b3 b4) (Z:Z4 z TI TO i1 i2 i3 i4 l1 l2 l3 l4):
  Turn P w K (.Tuple elts kt pt) (Sid K l1 l2 l3 l4 b1 b2 b3 b4) [z,TI,TO,i1,i2,i3,i4] z (Z4T z TI TO i1 i2 i3 i4 l1 l2 l3 l4 b1 b2 b3 b4) where
 mem:=by simp
 obj:=λi h st=>st.obj
 keep:=λi h h' st k=>by
  obtain ⟨h1,h2,⟨a,c,d,e,h3⟩,h4,h5,h6,h7⟩:=st
  exact ⟨k z (by simp) _ h1,k TI (by simp) _ h2,⟨a,c,d,e,k TO (by simp) _ h3⟩,h4.at λo e=>k i1 (by simp) o e,h5.at λo e=>k i2 (by simp) o e,h6.at λo e=>k i3 (by simp) o e,h7.at λo e=>k i4 (by simp) o e⟩
 item:=by
  intro X hP hw hK hc i pins s σ H E I hf st hg
  subst hP hw hK
  obtain ⟨xs,ys,us,vs,q1,q2,q3,q4,e12,e13,e14,hi⟩:=hg
  obtain ⟨its,rv,p1⟩:=I.seqB q1
  obtain ⟨jts,rv2,p2⟩:=I.seqB q2
  obtain ⟨kts,rv3,p3⟩:=I.seqB q3
  obtain ⟨lts,rv4,p4⟩:=I.seqB q4
  have a1:=rv.length
  have a2:=rv2.length
  have a3:=rv3.length
  have a4:=rv4.length
  obtain ⟨n1,n2,n3,n4⟩:=Z.ne
  have D1:=drA (prog:=X.prog) (w:=X.w) b1 n1 its.toArray
  have D2:=drA (prog:=X.prog) (w:=X.w) b2 n2 jts.toArray
  have D3:=drA (prog:=X.prog) (w:=X.w) b3 n3 kts.toArray
  have D4:=drA (prog:=X.prog) (w:=X.w) b4 n4 lts.toArray
  rw [show jts.toArray.size=its.toArray.size by simp only [ym];omega] at D2
  rw [show kts.toArray.size=its.toArray.size by simp only [ym];omega] at D3
  rw [show lts.toArray.size=its.toArray.size by simp only [ym];omega] at D4
  have W:=Ydk (I.ok.hd hc) Z D1 D2 D3 D4
  have st0:=st
  obtain ⟨s1,s2,s3,s4,s5,s6,s7⟩:=st
  refine W.item i s _ _ (by simp only [ym];omega) ⟨s1,s2,s3,⟨s4,p1⟩,⟨s5,p2⟩,⟨s6,p3⟩,⟨s7,p4⟩⟩ λT vals h' tk hP fT tT mid kk=>⟨_,rfl,W.go elts kt pt i T _ _ _ mid λh'' st'' kk2=>?_⟩
  obtain ⟨x,y,u,v,hx,hy,hu,hv,rfl⟩:=hP
  obtain ⟨u1,hu1,r1⟩:=rv.get (yh hi)
  obtain ⟨u2,hu2,r2⟩:=rv2.get (i:=i) (yh (by omega))
  obtain ⟨u3,hu3,r3⟩:=rv3.get (i:=i) (yh (by omega))
  obtain ⟨u4,hu4,r4⟩:=rv4.get (i:=i) (yh (by omega))
  obtain rfl:x=u1:=by simpa [hu1] using hx.symm
  obtain rfl:y=u2:=by simpa [hu2] using hy.symm
  obtain rfl:u=u3:=by simpa [hu3] using hu.symm
  obtain rfl:v=u4:=by simpa [hu4] using hv.symm
  obtain ⟨t1,t2,t3,t4,t5,t6,t7⟩:=st''
  have kT:h''.IsTuple T #[x,y,u,v]:=by
   obtain ⟨o,q,r⟩:=tT
   exact ⟨o,kk2 T o (W.apart i T h' mid) q,r⟩
  have cht:∀c,c∈ [z,TO,i1,i2,i3,i4]->c∈ [z,TI,TO,i1,i2,i3,i4]:=λc hc=>by simp at hc⊢;rcases hc with rfl|rfl|rfl|rfl|rfl|rfl <;> simp
  refine ⟨.ref T,upd H T (.tup [xs[i],ys[i]'(by omega),us[i]'(by omega),vs[i]'(by omega)]),I.turnTup (λc hc=>hf c (cht c hc)) (λc o hc e=>kk2 c o hc (kk c o hc e)) fT ⟨(show 4<=Sa by decide),[x,y,u,v],.cons r1 (.cons r2 (.cons r3 (.cons r4 .nil))),kT⟩,rfl,
   ⟨T,_,_,_,_,I.hok.fresh fT,rfl,λxs' hq=>by rw [I.seqB_inj hq q1];exact yh hi,λys' hq=>by rw [I.seqB_inj hq q2];exact yh (by omega),λus' hq=>by rw [I.seqB_inj hq q3];exact yh (by omega),λvs' hq=>by rw [I.seqB_inj hq q4];exact yh (by omega),rfl⟩,⟨t1,t2,t3,t4.1,t5.1,t6.1,t7.1⟩,λc hc=>?_⟩
  rw [Jmm (λw'=>?_)]
  ·exact ((hf c hc).1)
  ·subst w'
   obtain ⟨o,e,_⟩:=Z4T.obj st0 c hc
   exact absurd (yi e) (ybf.mpr fT)
 done:=by
  intro X hP hw hK hc i pins s σ H E I hf st hg
  subst hP hw hK
  obtain ⟨xs,ys,us,vs,q1,q2,q3,q4,e12,e13,e14,hi⟩:=hg
  obtain ⟨its,rv,p1⟩:=I.seqB q1
  obtain ⟨jts,rv2,p2⟩:=I.seqB q2
  obtain ⟨kts,rv3,p3⟩:=I.seqB q3
  obtain ⟨lts,rv4,p4⟩:=I.seqB q4
  have a1:=rv.length
  have a2:=rv2.length
  have a3:=rv3.length
  have a4:=rv4.length
  obtain ⟨n1,n2,n3,n4⟩:=Z.ne
  have D1:=drA (prog:=X.prog) (w:=X.w) b1 n1 its.toArray
  have D2:=drA (prog:=X.prog) (w:=X.w) b2 n2 jts.toArray
  have D3:=drA (prog:=X.prog) (w:=X.w) b3 n3 kts.toArray
  have D4:=drA (prog:=X.prog) (w:=X.w) b4 n4 lts.toArray
  rw [show jts.toArray.size=its.toArray.size by simp only [ym];omega] at D2
  rw [show kts.toArray.size=its.toArray.size by simp only [ym];omega] at D3
  rw [show lts.toArray.size=its.toArray.size by simp only [ym];omega] at D4
  obtain ⟨s1,s2,s3,s4,s5,s6,s7⟩:=st
  have ei:i=its.toArray.size:=by simp only [ym];omega
  subst ei
  exact (Ydk (I.ok.hd hc) Z D1 D2 D3 D4).done s _ _ ⟨s1,s2,s3,⟨s4,p1⟩,⟨s5,p2⟩,⟨s6,p3⟩,⟨s7,p4⟩⟩ λh' tk kk=>⟨rfl,I.turnMany (λc hc=>hf c (by simp at hc⊢;rcases hc with rfl|rfl|rfl|rfl|rfl|rfl <;> simp)) λc o hc e=>kk c o hc e⟩
 self:=λ_ _ _ _ _ st h=>wpAny_pyIter_zip st.1 h
def Sq1 (K:Si) (b1 b2 b3 b4:Bool) (ta:TA):TI:=λσ H R=>ta σ H λvs H1=>∃a b c d,vs= [.ref a,.ref b,.ref c,.ref d]/\(∃xs,SqB K H1 a b1 xs)/\(∃ys,SqB K H1 b b2 ys)/\(∃us,SqB K H1 c b3 us)/\(∃ws,SqB K H1 d b4 ws)/\R (Sid K a b c d b1 b2 b3 b4) H1
theorem Yee (b1 b2 b3 b4) (hg:Gl X "zip") (hm:X.mg "zip" =none) (ha:PA X [a,b,c,d] ta) (hs:starEach [a,b,c,d] X.env= [(false,eval a X.env),(false,eval b X.env),(false,eval c X.env),(false,eval d X.env)]:=by rfl) (hs2:starEach [b,c,d] X.env= [(false,eval b X.env),(false,eval c X.env),(false,eval d X.env)]:=by rfl):
  PI X (.Tuple elts kt pt) (.Call (.Name "zip" p) [a,b,c,d] [] pos) (Sq1 X.K b1 b2 b3 b4 ta):=by
 intro pins s σ H R I h
 refine Call_ (Jqt I hg hm Ybo (PyProof.Rows.callWith_type1 (thn (ha pos pins s σ H _ I h) λus s1 zq=>?_) (by rw [hs,hs2]) (by rw [hs2];rfl)))
 obtain ⟨vs,H1,I1,r1,q1⟩:=zq
 obtain ⟨l1,l2,l3,l4,rfl,⟨xs,q1⟩,⟨ys,q2⟩,⟨zs,q3⟩,⟨ws,q4⟩,q⟩:=q1
 obtain ⟨u,v,y,z,rfl,r1,r2,r3,r4⟩:∃u v y z,us= [u,v,y,z]/\Sa6 (.ref l1) u/\Sa6 (.ref l2) v/\Sa6 (.ref l3) y/\Sa6 (.ref l4) z:=by
  cases r1 with
  |cons a1 t1=>
   cases t1 with
   |cons a2 t2=>
    cases t2 with
    |cons a3 t3=>
     cases t3 with
     |cons a4 t4=>
      cases t4
      exact ⟨_,_,_,_,rfl,a1,a2,a3,a4⟩
 obtain rfl:u=Value.ref l1:=r1
 obtain rfl:v=Value.ref l2:=r2
 obtain rfl:y=Value.ref l3:=r3
 obtain rfl:z=Value.ref l4:=r4
 obtain ⟨its,rv,p1⟩:=I1.seqB q1
 obtain ⟨jts,rv2,p2⟩:=I1.seqB q2
 obtain ⟨kts,rv3,p3⟩:=I1.seqB q3
 obtain ⟨lts,rv4,p4⟩:=I1.seqB q4
 have a1:=p1.lt
 have a2:=p2.lt
 have a3:=p3.lt
 have a4:=p4.lt
 refine Yal p1 p2 p3 p4 λh' z1 z2 z3 z4 z5 z6 z7 kk=>?_
 have I2:Su X pins σ H1 {s1 with heap:=h'}:=I1.kept kk
 have ap:Z4 (s1.heap.objs.size+6) (s1.heap.objs.size+4) (s1.heap.objs.size+5) s1.heap.objs.size (s1.heap.objs.size+1) (s1.heap.objs.size+2) (s1.heap.objs.size+3) l1 l2 l3 l4:=by
  generalize hN:s1.heap.objs.size=N at*
  have big:∀l:S5,l < N->l∉ [N+6,N+4,N+5,N,N+1,N+2,N+3]:=λl hl hm=>by
   simp only [yk,yp,or_false] at hm
   have le:N<=l:=by rcases hm with rfl|rfl|rfl|rfl|rfl|rfl|rfl <;> first|exact yl _|exact Nat.le_add_right _ _
   exact ybf.mpr le hl
  exact ⟨by simp,big _ a1,big _ a2,big _ a3,big _ a4⟩
 refine wpAny_pyIter_zip z1 ⟨_,_,_,_,H1,rfl,I2,Ybf _ _ _ _ _ _ _ l1 l2 l3 l4 b1 b2 b3 b4 ap,⟨z1,z2,⟨_,_,_,_,z3⟩,z4,z5,z6,z7⟩,λd hd=>?_,q⟩
 have hd':s1.heap.objs.size<=d:=by
  simp only [yk,yp,or_false] at hd
  rcases hd with rfl|rfl|rfl|rfl|rfl|rfl|rfl <;> omega
 exact I1.fpOk hd' (I1.hok.fresh hd')
section
variable {K:Si} {g:TG} {σ:St} {H:Hp}
theorem Yan {b1 b2 b3 b4} {xs ys us vs} {tt:TT} {te:TE} {R:Hp->Prop} (Pv:Nat->St->Hp->Prop) (h0:Pv 0 σ H) (hl:∀i σ H,i<=xs.length->Pv i σ H->SqB K H l1 b1 xs/\SqB K H l2 b2 ys/\SqB K H l3 b3 us/\SqB K H l4 b4 vs) (e1:xs.length=ys.length) (e2:xs.length=us.length) (e3:xs.length=vs.length)
  (hs:∀i x y u v σ H T,xs[i]?=some x->ys[i]?=some y->us[i]?=some u->vs[i]?=some v->Pv i σ H->H T=none->g (.ref T) σ (upd H T (.tup [x,y,u,v])) λσ3 H3=>tt σ3 H3 λb H4=>if b=true then te σ3 H4 (λv H5=>∃vs,H5 D=some (.lst vs)/\vs.length < Sa/\Pv (i+1) σ3 (upd H5 D (.lst (vs++ [v])))) else Pv (i+1) σ3 H4)
  (hd:∀σ H,Pv xs.length σ H->R H):
  ∃W:Nat->Nat->St->Hp->Prop,(∃m,W 0 m σ H)/\∀i m σ' H',W i m σ' H'->((Sid K l1 l2 l3 l4 b1 b2 b3 b4).stop i H'/\R H')\/((Sid K l1 l2 l3 l4 b1 b2 b3 b4).go i H'/\∃N:St->Hp->Prop,(∀σ2 H2,N σ2 H2->∃m',m' < m/\W (i+1) m' σ2 H2)/\
   ∀x H2,(Sid K l1 l2 l3 l4 b1 b2 b3 b4).yld i H' x H2->g x σ' H2 λσ3 H3=>tt σ3 H3 λb H4=>if b=true then te σ3 H4 (λv H5=>∃vs,H5 D=some (.lst vs)/\vs.length < Sa/\N σ3 (upd H5 D (.lst (vs++ [v])))) else N σ3 H4):=by
 refine ⟨λi m σ H=>m=xs.length - i/\i<=xs.length/\Pv i σ H,⟨xs.length,by simp,yad _,h0⟩,?_⟩
 rintro i m σ H ⟨rfl,hi,p⟩
 obtain ⟨q1,q2,q3,q4⟩:=hl i σ H hi p
 by_cases hlt:i < xs.length
 ·refine .inr ⟨⟨xs,ys,us,vs,q1,q2,q3,q4,e1,e2,e3,hlt⟩,Pv (i+1),λσ' H' p'=>⟨xs.length - (i+1),by omega,rfl,hlt,p'⟩,λx H' y=>?_⟩
  obtain ⟨T,u,v,w',x',hT,rfl,hu,hv,hw,hx,rfl⟩:=y
  exact hs i u v w' x' σ _ T (hu xs q1) (hv ys q2) (hw us q3) (hx vs q4) p hT
 ·have e:i=xs.length:=by omega
  subst e
  exact .inl ⟨⟨xs,ys,us,vs,q1,q2,q3,q4,e1,e2,e3,rfl⟩,hd σ H p⟩
theorem Sr2 {T} {x y u v} {σ} {H} {A B:L2.St->Hp->Prop} (hT:SqT K H T [x,y,u,v]) (h:A ((((σ.set i (some x)).set j (some y)).set k (some u)).set l (some v)) H):
  Sjh K 4 (Ju8 (Jp4 i) (Ju8 (Jp4 j) (Ju8 (Jp4 k) (Ju8 (Jp4 l) Sm6)))) (.ref T) σ H λσ3 H3=>Ya σ3 H3 λb H4=>if b=true then A σ3 H4 else B σ3 H4:=⟨T,_,rfl,hT,rfl,_,_,rfl,_,_,rfl,_,_,rfl,_,_,rfl,rfl,h⟩
end
theorem Yaz {K} {m} {apos pos} {pl} (h1:X.prog=P) (h2:X.w=w) (h3:X.K=K) (h4:X.mg=mg) (h5:X.base=base) (he:PE X o ta) (hr:Sak j X.A) (ha:PA X (e::es) t)
  (hst:starEach (e::es) X.env=(false,eval e X.env)::starEach es X.env:=by rfl) (hpl:(backTo pos (starEach es X.env)).any (·.1)=false:=by rfl)
  (ht:eval (.Call (.Attribute o m apos) (e::es) [] pos) X.env=(do
   let ov<-eval o X.env
   standAt apos.atName
   let (f,first)<-holding [ov] (getMethod ov m pl)
   callWith pos f first (backTo pos (starEach (e::es) X.env)) (backToKw pos (keywordEach [] X.env))):=by rfl):
  PE X (.Call (.Attribute o m apos) (e::es) [] pos) (Jy8 P w K mg base j m ta t):=by
 subst h1 h2 h3 h4 h5
 exact Jt2 he hr ha hst hpl ht
inductive Sq8 (K:Si) (x:V) (y:V) (H:Hp) (Q:VK):Prop where
 |mk (p:_) (xs:_) (i:_) (v:_) (_:x= .ref p) (_:y= .int i) (_:Sy K H p xs) (_:0<=i) (_:atI xs i=some v) (_:Q v H)
theorem Yc5:Spm X (Sq8 X.K):=by
 rintro pins s σ H x y v u Q I rx ry ⟨p,xs,i,z,rfl,rfl,hq,h0,he,q⟩
 cases rx
 obtain ⟨t,rfl⟩:=ry
 obtain ⟨its,r,pl,hz⟩:=I.list hq
 obtain ⟨j,h1,h2,h3,h4,h5⟩:=Juu he
 obtain ⟨w,ew,rw'⟩:=r.get h2
 have hn:=Jrc
 have hj:=by
  rw [seqIndex_of h0 h5] at h1
  exact yw.inj h1
 exact wpAny_getItem_list pl.isList h0 (by omega) (by rw [hj];simpa using ew) ⟨z,H,I,rw',q⟩
section
variable {X:Cx}
end
inductive Yeh (K:Si) (x:V) (vs:List V) (H:Hp) (Q:VK):Prop where
 |mk (p:S5) (zs:List Str) (z:Str) (_:x= .ref p) (_:vs= [.str z]) (_:H p=some (.lst (zs.map V.str))) (_:z∈zs) (_:Q (.int (zs.idxOf z)) H)
theorem Ju9:∀{l:List Str} {m} {z},l[m]?=some z->l.idxOf z<=m
 | [],_,_,h=>by simp at h
 |x::l,0,z,h=>by
  have e:x=z:=by simpa using h
  rw [e]
  simp
 |x::l,m+1,z,h=>by
  rw [List.idxOf_cons]
  cases x==z
  ·simpa using (Ju9 (by simpa using h))
  ·simp
section
variable {X:Cx}
theorem Jym:MtR X "list.index" (Yeh X.K):=by
 rintro pins s σ H x vs v us Q I rx rv ⟨p,zs,z,rfl,rfl,hp,hz,q⟩
 obtain rfl:v=Value.ref p:=rx
 obtain ⟨u,rfl,ru⟩:=Jq6 rv
 obtain ⟨tk,rfl⟩:∃tk,u=Value.str z tk:=ru
 obtain ⟨hs,its,n,r,hl,e⟩:=I.lstM hp
 have hj:=List.idxOf_lt_length_of_mem hz
 have hlen:its.length=zs.length:=by rw [<-hl,yf]
 have at_:∀(i:Nat) hi,∃t,its[i]?=some (Value.str zs[i] t):=λi hi=>by
  obtain ⟨y,hy,ry⟩:=r.get (by rw [yj,yh hi];rfl)
  obtain ⟨t,rfl⟩:∃t,y=Value.str zs[i] t:=ry
  exact ⟨t,hy⟩
 have hz63:=Jrc
 refine call_meets F.slot_list_index ⟨_,e,rfl⟩ F.entry_list_index (F.args_list_index_2 _ _)
  (MeetsSeq.list_index p its.toArray n (.str z tk) (isStrOf z) (λy hy=>?_) (zs.idxOf z) (by rw [ym];omega) (by omega) ?_ ?_) ⟨e,?_⟩
 ·obtain ⟨i,hi⟩:=ybu (by simpa using hy:y∈its)
  have hi':i < zs.length:=by have:=(yo.mp hi).1;omega
  obtain ⟨t,ht⟩:=at_ i hi'
  rw [hi] at ht
  cases ht
  exact eqGives_str _ _ _ _
 ·obtain ⟨t,ht⟩:=at_ _ hj
  have e1:its.toArray[zs.idxOf z]'(by rw [ym];omega)=Value.str z t:=by
   have:=yo.mp ht
   simpa using this.2
  rw [e1]
  show (z==z)=true
  simp
 ·intro m hm hlt
  have hm':m < zs.length:=by omega
  obtain ⟨t,ht⟩:=at_ m hm'
  have e1:its.toArray[m]'hm=Value.str zs[m] t:=by
   have:=yo.mp ht
   simpa using this.2
  rw [e1]
  have ne:zs[m]≠z:=λq=>by
   have:=Ju9 (by rw [yh hm',q])
   omega
  exact beq_false_of_ne ne
 ·exact ⟨.int _,H,I.tok _,⟨_,rfl⟩,q⟩
end
theorem ft_mk {K} (X:K.In h) (G:h.Ns mainGlobals mg) {st} {kV ct} (a:PySem.W.nsIn K mainGlobals q=some (some (.ref f)))
  (l:K.lookup f=some ⟨oc,od,.func (PySem.W.fnOf q q (Jnw st) (Jno st) (Jml st) .none kV dc pm an cd ct),sl⟩) (c:PySem.W.codeIn K cd q=true) (k:PySem.W.keepIn K (.ref f)=true)
  (hb:∀kV doc pm an cdv ct us,us.length=ps.length->bindArgs (PySem.W.fnOf q q (Jnw st) (Jno st) (Jml st) .none kV doc pm an cdv ct) ⟨us,[]⟩=pure (ps.zip us)):FT K mg q st ps f (PySem.W.fnOf q q (Jnw st) (Jno st) (Jml st) .none kV dc pm an cd ct):=
 ⟨PySem.W.mg_of X G a,Jxf l c k,(Jxf l c k).binds hb⟩
theorem fm_mk {K} {st} {kV ct}
  (l:K.lookup f=some ⟨oc,od,.func (PySem.W.fnOf n q (Jnw st) (Jno st) (Jml st) .none kV dc pm an cd ct),sl⟩) (c:PySem.W.codeIn K cd q=true) (k:PySem.W.keepIn K (.ref f)=true)
  (hb:∀kV doc pm an cdv ct us,us.length=ps.length->bindArgs (PySem.W.fnOf n q (Jnw st) (Jno st) (Jml st) .none kV doc pm an cdv ct) ⟨us,[]⟩=pure (ps.zip us)):FM K n q st ps f (PySem.W.fnOf n q (Jnw st) (Jno st) (Jml st) .none kV dc pm an cd ct):=
 ⟨Jxf l c k,(Jxf l c k).binds hb⟩
theorem xc_mk {K} {sub}
  (l:K.lookup C=some (excClassObj nm q C N bs (.ref W::VEm) true sn sub ab col dd u v w x y "ValueError.__new__")) (t:PySem.W.tailIn K VEm (.ref W::VEm)=true) (a:xcB K C fI=true):Sai K C W fI:=⟨⟨_,_,_,_,_,_,_,_,_,_,_,_,_,_,l⟩,t,a⟩
theorem ec_mk {K} (l:K.lookup C=some ⟨.type "type",dd,.cls cl,s⟩) (m:Sl K C (.type "BaseException")=some true):Jz9 K C:=⟨⟨_,_,_,l⟩,m⟩
section
variable {K:Si} {g:TG} {σ:St} {H:Hp}
theorem Ybr {xs} {tt:TT} {te:TE} {R:Hp->Prop} (Pv:Nat->St->Hp->Prop) (h0:Pv 0 σ H) (hl:∀i σ H,i<=xs.length->Pv i σ H->Sy K H a xs)
  (hs:∀i x σ H T,xs[i]?=some x->Pv i σ H->H T=none->g (.ref T) σ (upd H T (.tup [.int i,x])) λσ3 H3=>tt σ3 H3 λb H4=>if b=true then te σ3 H4 (λv H5=>∃vs,H5 D=some (.lst vs)/\vs.length < Sa/\Pv (i+1) σ3 (upd H5 D (.lst (vs++ [v])))) else Pv (i+1) σ3 H4)
  (hd:∀σ H,Pv xs.length σ H->R H):
  ∃W:Nat->Nat->St->Hp->Prop,(∃m,W 0 m σ H)/\∀i m σ' H',W i m σ' H'->((ItE K a).stop i H'/\R H')\/((ItE K a).go i H'/\∃N:St->Hp->Prop,(∀σ2 H2,N σ2 H2->∃m',m' < m/\W (i+1) m' σ2 H2)/\
   ∀x H2,(ItE K a).yld i H' x H2->g x σ' H2 λσ3 H3=>tt σ3 H3 λb H4=>if b=true then te σ3 H4 (λv H5=>∃vs,H5 D=some (.lst vs)/\vs.length < Sa/\N σ3 (upd H5 D (.lst (vs++ [v])))) else N σ3 H4):=by
 refine ⟨λi m σ H=>m=xs.length - i/\i<=xs.length/\Pv i σ H,⟨xs.length,by simp,yad _,h0⟩,?_⟩
 rintro i m σ H ⟨rfl,hi,p⟩
 have q:=hl i σ H hi p
 by_cases hlt:i < xs.length
 ·refine .inr ⟨⟨xs,xs[i],q,by simp [hlt]⟩,Pv (i+1),λσ' H' p'=>⟨xs.length - (i+1),by omega,rfl,hlt,p'⟩,λx H' y=>?_⟩
  obtain ⟨T,u,hT,rfl,hu,rfl⟩:=y
  exact hs i u σ _ T (hu xs q) p hT
 ·have e:i=xs.length:=by omega
  subst e
  exact .inl ⟨⟨xs,q,rfl⟩,hd σ H p⟩
end
section
variable {prog:Sb} {w:Sd} {A:Se} {E:S6->S7->Prop} {s:S7}
variable {z TI TO i1 i2 l1 l2:S5} {n k:Nat} {P1 P2:Nat->S6->Prop} {S1 S2:Nat->Sg->Prop} {a b:S6}
end
section
variable {prog:Sb} {w:Sd} {z TI TO i1 i2 l1 l2:S5} {n:Nat} {P1 P2:Nat->S6->Prop} {S1 S2:Nat->Sg->Prop}
end
section
variable {prog:Sb} {w:Sd} {A:Se} {E:S6->S7->Prop} {s:S7}
end
section
variable {K:Si} {g:TG} {σ:St} {H:Hp}
end
section
variable {X:Cx}
end
end L2
namespace L2
open PySem PySem.Spec PyProof.Rows
section
variable {H:Hp} {lb:Array (Nat×Nat×Str)}
theorem Scy.triples (x:Scy H lb l):TriplesOk l:=by
 fun_induction Scy H lb l with
 |case1=>exact True.intro
 |case2 l _ c _ v r ih=>exact ih x.2
 |case3=>exact x.elim
theorem Scy.hit (x:Scy H lb l) (h:codeAmong pos l=some v):∃(q:Str) (a:S5),(pos.line,pos.col,q)∈lb/\v= .ref a/\H a=some (.cod q):=by
 fun_induction Scy H lb l with
 |case1=>cases h
 |case2 l _ c _ v' r ih=>
  obtain ⟨⟨n,m,q,a,h1,h2,h3,h4,h5⟩,h6⟩:=x
  unfold codeAmong at h
  split at h
  ·rename_i hc
   cases h
   simp only [yx,beq_iff_eq] at hc
   have e1:n=pos.line:=by omega
   have e2:m=pos.col:=by omega
   rw [e1,e2] at h1
   exact ⟨q,a,h1,h4,h5⟩
  ·exact ih h6 h
 |case3=>exact x.elim
theorem Scy.snoc {pos:Pos} {q} {a} (hm:(pos.line,pos.col,q)∈lb) (ha:H a=some (.cod q)) {l} (x:Scy H lb l):Scy H lb (l++ [rawInt pos.line,rawInt pos.col,.ref a]):=by
 fun_induction Scy H lb l with
 |case1=>exact ⟨⟨_,_,q,a,hm,rfl,rfl,rfl,ha⟩,True.intro⟩
 |case2 l _ c _ v r ih=>exact ⟨x.1,ih x.2⟩
 |case3=>exact x.elim
end
def Sm1 (vs:Array S6) (c P:S5):Bool:=
 (match (vs[11]?:Option S6) with|some (.ref p)=>p==P|_=>false)&&(match vs.getD 11 .none with| .ref p=>p==P|_=>false)&&(match vs.getD 18 .none with| .str _ _=>true|_=>false)&&(match vs.getD 7 .none with| .int _ _=>true|_=>false)&&
 (match vs.getD 9 .none with| .bool _=>true|_=>false)&&(match vs.getD 10 .none with| .int _ _=>true|_=>false)&&!(c==P)
structure Nst (K:Si) (f c P:S5):Prop where
 fn:∃(oc:S6) (od:Option S5) (fd:Sc) (sl:Array (Option S6)),K.lookup f=some ⟨oc,od,.func fd,sl⟩/\fd.code= .ref c
 hd:∃(od:Option S5) (vs:Array S6) (sl:Array (Option S6)),K.lookup c=some ⟨.type "code",od,.fields vs,sl⟩/\Sm1 vs c P=true
theorem Nst.code {K} (n:Nst K f c P) (X:K.In h):PySem.W.CodeHd h c P:=by
 obtain ⟨od,vs,sl,lk,b⟩:=n.hd
 unfold Sm1 at b
 simp only [yx] at b
 obtain ⟨⟨⟨⟨⟨⟨b1,b2⟩,b3⟩,b4⟩,b5⟩,b6⟩,b7⟩:=b
 have e1:vs[11]?=some (.ref P):=by
  split at b1
  ·rename_i p e;rw [e,beq_iff_eq.mp b1]
  ·cases b1
 have e2:vs.getD 11 .none= .ref P:=by
  split at b2
  ·rename_i p e;rw [e,beq_iff_eq.mp b2]
  ·cases b2
 have e3:∃x t,vs.getD 18 .none= .str x t:=by
  split at b3
  ·rename_i x t e;exact ⟨x,t,e⟩
  ·cases b3
 have e4:∃x t,vs.getD 7 .none= .int x t:=by
  split at b4
  ·rename_i x t e;exact ⟨x,t,e⟩
  ·cases b4
 have e5:∃x,vs.getD 9 .none= .bool x:=by
  split at b5
  ·rename_i x e;exact ⟨x,e⟩
  ·cases b5
 have e6:∃x t,vs.getD 10 .none= .int x t:=by
  split at b6
  ·rename_i x t e;exact ⟨x,t,e⟩
  ·cases b6
 obtain ⟨f1,t1,e3⟩:=e3
 obtain ⟨f2,t2,e4⟩:=e4
 obtain ⟨f3,e5⟩:=e5
 obtain ⟨f4,t4,e6⟩:=e6
 exact ⟨_,vs,f1,t1,f2,t2,f3,f4,t4,X _ _ lk,rfl,rfl,e1,e2,e3,e4,e5,e6,by simpa using b7⟩
def Bmn (mg:Str->Option S6) (base:Sg):Prop:=∃bm ob,mg "__builtins__" =some (.ref bm)/\bm≠builtinsNs/\base.get? bm=some ob/\ob.cls= .type "module" /\ob.dict=some builtinsNs/\ob.data= .plain
def Clo (f:S5) (name qual:Str) (st:Sf) (clos:List (Str×S5)) (c:S5):HO:=
 .ext λh=>∃doc pm ct:S6,h.get? f=some {cls:=.type "function",data:=.func (PySem.W.fnX name qual (Jnw st) (Jno st) (Jml st) clos .none .none doc pm none (.ref c) ct)}
theorem Jyg {st}
  (e:h.get? f=some {cls:=.type "function",data:=.func (PySem.W.fnX name qual (Jnw st) (Jno st) (Jml st) clos .none .none doc pm none (.ref c) ct)}):Sav P w H h f (Clo f name qual st clos c):=
 ⟨⟨doc,pm,ct,e⟩,⟨_,e⟩,λ_ _ ⟨d,p,t,z⟩ k=>⟨d,p,t,k _ z⟩⟩
section
variable {X:Cx} {pins:List (S5×Obj)} {σ:St} {H:Hp} {s:S7} {M:Model} {A:Se} {E:S6->S7->Prop} {name qual:Str} {st:Sf} {pos:Pos} {firstLine:Nat} {c P:S5} {lb:Array (Nat×Nat×Str)} {clos:List (Str×S5)} {Q:S6->S7->Prop}
theorem Ybw (I:Su X pins σ H s) (hcd:X.env.code= .ref c) (C:PySem.W.CodeHd X.base c P) (B:Bmn X.mg X.base) (ht:H P=some (.tbl lb)) (hm:(pos.line,pos.col,qual)∈lb) (hu:∀q,(pos.line,pos.col,q)∈lb->q=qual)
  (hcl:closureFor (Jml st) X.env=pure clos)
  (h:∀s' f c' H',Su X pins σ H' s'->Sn H H'->H f=none->H' f=some (Clo f name qual st clos c')->H' c'=some (.cod qual)->Q (.ref f) s'):
  Sh M A (makeFunction name qual (Jnw st) (.stmts (Jno st)) (Jml st) X.env [] [] [] pos firstLine) Q E s:=by
 obtain ⟨ts,eP,tr⟩:=I.hok P _ ht
 have hg:=I.mod.glob.keeps I.bk
 have CH:=C.keeps I.bk
 have hgP:mainGlobals≠P:=λz=>by
  obtain ⟨o,es,ep,e1,e2,_⟩:=hg
  rw [z,eP] at e1;cases e1;cases e2
 have BA:s.heap.BuiltinsAt X.mg P:=by
  obtain ⟨bm,ob,b1,b2,b3,b4,b5,b6⟩:=B
  have b3':=I.bk _ _ b3
  refine ⟨bm,ob,b1,b2,λz=>?_,λz=>?_,b3',b4,b5,b6⟩
  ·obtain ⟨o,es,ep,e1,e2,_⟩:=hg
   rw [<-z,b3'] at e1;cases e1;rw [b6] at e2;cases e2
  ·rw [z,eP] at b3';cases b3';cases b4
 cases hq:codeAmong pos ts.toList with
 |some v=>
  obtain ⟨q,a,m1,rfl,m2⟩:=tr.hit hq
  obtain rfl:=hu q m1
  refine PySem.W.makeFunction_hit hcl I.ok.glob hg hcd CH eP tr.triples hq BA λctv doc h' tk hk hsz=>?_
  have hf:=I.hok.fresh hsz
  have J:=I.laid (t':=tk) (h':=h'.push {cls:=.type "function",data:=.func (PySem.W.fnX name q (Jnw st) (Jno st) (Jml st) clos .none .none doc ((X.mg "__name__").getD .none) none (.ref a) ctv)})
   (λb u z=>yn _ (hk b u z)) hsz (Jyg (yq _ rfl))
  exact h _ _ a _ J (Sn.upd hf) hf Sv (by rw [Jmm (Jmo m2 hf)];exact m2)
 |none=>
  refine PySem.W.makeFunction_K hcl I.ok.glob hg hcd CH eP tr.triples hq hgP BA λc' ctv doc h' tk hx hge hlt hrec htb=>?_
  have hf:=I.hok.fresh (yam hge (ybd hlt))
  have nfc:=yaw hlt
  have nP:∀b,H b=none->b≠P:=λb z w'=>by rw [w',ht] at z;cases z
  let H':Hp:=upd (upd H c' (.cod qual)) h'.objs.size (Clo h'.objs.size name qual st clos c')
  let o':Obj:={cls:=.type "function",data:=.func (PySem.W.fnX name qual (Jnw st) (Jno st) (Jml st) clos .none .none doc ((X.mg "__name__").getD .none) none (.ref c') ctv)}
  have hS:Sn H H':=(Sn.upd (I.hok.fresh hge)).trans (Sn.upd (by rw [Jmm nfc];exact hf))
  have hkp:∀b o,b≠P->s.heap.get? b=some o->(h'.push o').get? b=some o:=λb o n z=>yn _ (hx b o n z)
  have hc1:H' c'=some (.cod qual):=by show upd (upd H c' _) _ _ c'=_;rw [Jmm (yg nfc),Sv]
  have bl:∀b o,s.heap.get? b=some o->b≠c'/\b≠h'.objs.size:=λb o z=>by
   have q:=yab (yi z) hge
   exact ⟨yr q,yr (Nat.lt_trans q hlt)⟩
  have J:Su X pins σ H' {s with heap:=h'.push o',toks:=tk}:=by
   refine I.un ⟨λb o z n _ _=>hkp b o (nP b n) z,λb o z n _ _=>⟨o.slots,hkp b o (nP b n) z⟩,λb o z n _=>?_,λb o z _=>?_,λb xs z=>hS _ _ z,λb o u z=>hS _ _ z,λb ps z=>⟨#[],by rw [hS _ _ z];simp⟩⟩ λb u z=>?_
   ·show upd (upd H c' _) _ _ b=none
    rw [Jmm (bl b o z).2,Jmm (bl b o z).1];exact n
   ·by_cases w':b=P
    ·exact ⟨_,by rw [w'];exact yn _ htb⟩
    ·exact ⟨o,hkp b o w' z⟩
   ·by_cases w1:b=h'.objs.size
    ·have z':H' b=some (Clo h'.objs.size name qual st clos c'):=by rw [w1];exact Sv
     rw [z'] at z;cases z
     rw [w1]
     exact Jyg (yq _ rfl)
    ·by_cases w2:b=c'
     ·rw [w2,hc1] at z;cases z
      rw [w2]
      exact hrec.keeps λ_ _ z=>yn _ z
     ·have z':H b=some u:=by
       have:H' b=H b:=by show upd (upd H c' _) _ _ b=_;rw [Jmm w1,Jmm w2]
       rw [<-this];exact z
      by_cases w3:b=P
      ·rw [w3,ht] at z';cases z'
       refine ⟨_,by rw [w3];exact yn _ htb,?_⟩
       rw [Array.toList_append]
       exact Scy.snoc hm hc1 (tr.mono λb q z=>hS _ _ z)
      ·refine (I.hok b u z').stay (λc v hc zz=>hkp c v ?_ zz) (λc zz=>hS _ _ zz) (λc xs zz=>hS _ _ zz) λc q zz=>hS _ _ zz
       rcases hc with rfl|hc
       ·exact w3
       ·intro w';rw [w',ht] at hc;cases hc
  exact h _ _ c' H' J hS hf Sv hc1
end
def Scf (H:Hp) (c:S5) (v:V):Prop:=∃o u,H c=some (Sin o)/\o.data= .cell (some u)/\Sa6 v u
theorem Scf.same (s:Sn H H') (h:Scf H c v):Scf H' c v:=by obtain ⟨o,u,a,b,d⟩:=h;exact ⟨o,u,s _ _ a,b,d⟩
def Sc4 (H:Hp) (f:S5) (name qual:Str) (st:Sf) (caps:List (Str×V)):Prop:=
 ∃(clos:List (Str×S5)) (c:S5),H f=some (Clo f name qual st clos c)/\H c=some (.cod qual)/\(∀x y b,clos.lookup x=some b->clos.lookup y=some b->x=y)/\(∀y∈(Jml st).names,y.2= .free->∃b,clos.lookup y.1=some b)/\
  (∀x b,clos.lookup x=some b->∃v,Scf H b v)/\∀x v,(x,v)∈caps->∃b,clos.lookup x=some b/\Scf H b v
theorem Sc4.same {st} (s:Sn H H') (h:Sc4 H f name qual st caps):Sc4 H' f name qual st caps:=
 let ⟨clos,c,a,b,d,e,g,k⟩:=h
 ⟨clos,c,s _ _ a,s _ _ b,d,e,λx b z=>let ⟨v,q⟩:=g x b z;⟨v,q.same s⟩,λx v z=>let ⟨b,q1,q2⟩:=k x v z;⟨b,q1,q2.same s⟩⟩
def IsF (H:Hp) (f:S5):Prop:=∃name qual st clos c,H f=some (Clo f name qual st clos c)
theorem Sc4.isf {st} (h:Sc4 H f name qual st caps):IsF H f:=by obtain ⟨clos,c,a,_⟩:=h;exact ⟨name,qual,st,clos,c,a⟩
def Cx.fix (X:Cx) (cn:Str->Bool):Cx:={X with fn:=λx=>X.fn x&&!cn x}
open Classical in
noncomputable def Jut (X:Cx) (cn:Str->Bool) (h:Sg) (H:Hp):Hp:=λb=>if ∃x,cn x=true/\X.fn x=true/\X.env.cells.lookup x=some b then (h.get? b).map Sin else H b
section
variable {X:Cx} {pins:List (S5×Obj)} {σ:St} {H:Hp} {s:S7} {cn:Str->Bool}
theorem Jy9 {b} {o} {x} (h1:cn x=true) (h2:X.fn x=true) (h3:X.env.cells.lookup x=some b) (e:h.get? b=some o):Jut X cn h H b=some (Sin o):=by
 unfold Jut
 rw [if_pos ⟨x,h1,h2,h3⟩,e]
 rfl
theorem Jtd (n:¬∃x,cn x=true/\X.fn x=true/\X.env.cells.lookup x=some b):Jut X cn h H b=H b:=by
 unfold Jut
 rw [if_neg n]
theorem Ydg (I:Su X pins σ H s) (e:H b=some o):Jut X cn s.heap H b=some o:=by
 rw [Jtd]
 ·exact e
 ·rintro ⟨x,_,h2,h3⟩
  rcases I.freeC x b h3 with n|⟨f,_⟩
  ·rw [n] at e;cases e
  ·rw [h2] at f;cases f
theorem Su.fix (I:Su X pins σ H s) (cn):Su (X.fix cn) pins σ (Jut X cn s.heap H) s/\Sn H (Jut X cn s.heap H):=by
 have hS:Sn H (Jut X cn s.heap H):=λb o e=>Ydg I e
 have hn:∀b,H b=none->(∀x,cn x=true->X.fn x=true->X.env.cells.lookup x≠some b)->Jut X cn s.heap H b=none:=λb e n=>by
  rw [Jtd]
  ·exact e
  ·rintro ⟨x,h1,h2,h3⟩;exact n x h1 h2 h3
 refine ⟨⟨⟨I.ok.mod,I.ok.kind,I.ok.glob,I.ok.blt,I.ok.above,I.ok.inj,I.ok.has,λx c hx hc=>I.ok.cab x c ?_ hc,I.ok.hd,I.ok.frames,I.ok.stk,I.ok.exf,I.ok.bs,I.ok.bsz,I.ok.noex,I.ok.exfs,I.ok.funs,I.ok.frf⟩,I.os,I.bare,
  ⟨I.base.keep,I.base.slot,λb o e n hx=>?_,I.base.there,λb xs e=>hS _ _ (I.base.tups b xs e),λb o u e=>hS _ _ (I.base.frzs b o u e),λb ps e=>?_⟩,I.loc,I.cell,?_,λx c e=>?_,λp hp=>?_,λb u e=>?_,I.len⟩,hS⟩
 ·have hx':(X.fn x&&!cn x)=true:=hx
  rw [yx] at hx'
  exact hx'.1
 ·exact hn b (I.base.free b o e n hx) λx _ h2 h3=>absurd (yab (yi e) (I.ok.cab x b h2 h3)) (yay _)
 ·obtain ⟨m,q⟩:=I.base.tbls b ps e
  exact ⟨m,hS _ _ q⟩
 ·exact hn _ I.free λx _ _ h3=>I.cne x _ h3 rfl
 ·have e':=e
  by_cases hc:cn x=true/\X.fn x=true
  ·obtain ⟨v,o,ho,hd⟩:=I.cell x c e'
   refine .inr ⟨?_,o,Jy9 hc.1 hc.2 e' ho⟩
   show (X.fn x&&!cn x)=false
   rw [hc.1];simp
  ·have out:Jut X cn s.heap H c=H c:=Jtd λ⟨y,h1,h2,h3⟩=>hc (by rw [I.ok.inj x y c e' h3];exact ⟨h1,h2⟩)
   rcases I.freeC x c e' with n|⟨f,o,q⟩
   ·exact .inl (out.trans n)
   ·refine .inr ⟨?_,o,out.trans q⟩
    show (X.fn x&&!cn x)=false
    rw [f];rfl
 ·obtain ⟨e,n,ne,nf,d⟩:=I.pin p hp
  refine ⟨e,hn _ n λx _ _ h3=>?_,ne,nf,d⟩
  obtain ⟨v,o,ho,hd⟩:=I.cell x _ h3
  rw [e] at ho;cases ho
  exact d v hd
 ·by_cases hb:∃x,cn x=true/\X.fn x=true/\X.env.cells.lookup x=some b
  ·obtain ⟨x,h1,h2,h3⟩:=hb
   obtain ⟨v,o,ho,hd⟩:=I.cell x b h3
   rw [Jy9 h1 h2 h3 ho] at e
   cases e
   exact ⟨ho,True.intro,⟨o,ho⟩,λ_ _ _ _=>True.intro⟩
  ·rw [Jtd hb] at e
   exact (I.hok b u e).stay (λ_ _ _ q=>q) (λ_ q=>hS _ _ q) (λ_ _ q=>hS _ _ q) λ_ _ q=>hS _ _ q
theorem Su.celAt (I:Su X pins σ H s) (J:Su (X.fix cn) pins σ (Jut X cn s.heap H) s) {j:Nat} (h1:X.N[j]?=some x) (h2:σ[j]?=some (some v)) (hv:X.env.kindOf x=some .cell\/X.env.kindOf x=some .free) (hc:cn x=true) (hf:X.fn x=true):
  ∃b,X.env.cells.lookup x=some b/\Scf (Jut X cn s.heap H) b v:=by
 obtain ⟨m,_,hl⟩:=I.loc
 have hvis:Vis X.env.scope x:=hv.elim (λz=>.inr (.inl z)) λz=>.inr (.inr z)
 obtain ⟨u,r,l⟩:=hl j x v h1 h2 hvis
 rcases l with ⟨k,_⟩|⟨k,b,e,o,ho,hd⟩
 ·rcases hv with z|z
  ·rw [k] at z;cases z
  ·rw [k] at z;cases z
 ·exact ⟨b,e,o,u,Jy9 hc hf e ho,hd,r⟩
end
def Fin (X:Cx) (H:Hp) (s:S7):Prop:=s.os=X.s₀.os/\AllBare s.gens/\Un X.fs X.ex X.H₀ H X.s₀.heap s.heap/\HOk X.prog X.w H s.heap
theorem Su.fin (I:Su X pins σ H s):Fin X H s:=⟨I.os,I.bare,I.base,I.hok⟩
def SB (X:Cx) (D:Sch) (f:Flow) (s':S7):Prop:=
 match f with
 | .next=>∃σ' H',Fin X H' s'/\D.nx σ' H'
 | .brk=>∃σ' H',Fin X H' s'/\D.bk σ' H'
 | .cont=>∃σ' H',Fin X H' s'/\D.ct σ' H'
 | .ret u=>∃v H',Fin X H' s'/\Sa6 v u/\D.rt v H'
theorem SP.sb (h:SP X pins D f s'):SB X D f s':=by
 cases f with
 |next=>obtain ⟨σ',H',I,q⟩:=h;exact ⟨σ',H',I.fin,q⟩
 |brk=>obtain ⟨σ',H',I,q⟩:=h;exact ⟨σ',H',I.fin,q⟩
 |cont=>obtain ⟨σ',H',I,q⟩:=h;exact ⟨σ',H',I.fin,q⟩
 |ret u=>obtain ⟨v,σ',H',I,r,q⟩:=h;exact ⟨v,H',I.fin,r,q⟩
def PB (X:Cx) (st:List Sf) (t:TS):Prop:=
 ∀(pins:List (S5×Obj)) (s:S7) (σ:St) (H:Hp) (D:Sch),Su X pins σ H s->t D σ H->Sh (model X.prog X.w) X.A (execs st X.env) (SB X D) X.xe s
section
variable {X:Cx} {st:Sf} {rest:List Sf} {t u:TS}
theorem PSs.pb (h:PSs X l t):PB X l t:=λpins s σ H D I q=>thn (h pins s σ H D I q) λ_ _ z=>z.sb
theorem Yec (h1:PS X st t) (h2:PB X rest u):PB X (st::rest) (Snn t u):=by
 intro pins s σ H D I h
 refine wpAny_execs_cons (thn (h1 pins s σ H {D with nx:=u D} I h) λf s1 q=>?_)
 cases f with
 |next=>
  obtain ⟨σ',H',I',q⟩:=q
  exact h2 pins s1 σ' H' D I' q
 |ret v=>exact SP.sb q
 |brk=>exact SP.sb q
 |cont=>exact SP.sb q
theorem PB.nox (h:PB X.nox l t):PB X l t:=λpins s σ H D I q=>wpAny_mono (h pins s σ H D (I.wish _) q) (λf _ z=>by cases f <;> exact z) λ_ _ z=>False.elim z
end
theorem Jq0:∀ns acc,(Jp1 cells ns acc).lookup x=some b->acc.lookup x=none->(x,NameKind.free)∈ns
 | [],_,e,n=>by unfold Jp1 at e;rw [n] at e;cases e
 | (y,k) :: r,acc,e,n=>by
  unfold Jp1 at e
  by_cases hk:(k==NameKind.free)=true
  ·rw [if_pos hk] at e
   have hk':k= .free:=by simpa using hk
   subst hk'
   by_cases hx:x=y
   ·subst hx;exact yan
   ·cases hc:cells.lookup y with
    |none=>rw [hc] at e;exact yac _ (Jq0 r acc e n)
    |some d=>
     rw [hc] at e
     refine yac _ (Jq0 r _ e ?_)
     rw [yau,beq_eq_false_iff_ne.mpr hx]
     exact n
  ·rw [if_neg hk] at e
   exact yac _ (Jq0 r acc e n)
def Jpi (s:Sf):Pos:=match s with
 | .FunctionDef _ _ _ _ _ _ _ _ _ p=>p
 |_=>⟨0,0,0,0⟩
section
variable {X:Cx} {rest:List Sf} {t:TS} {st:Sf} {name qual:Str} {i:Nat} {c P:S5} {lb:Array (Nat×Nat×Str)} {caps:List (Str×Nat)}
end
theorem Fun.okN {K} {st} (F:Fun K x qual st f fd) (n:Nst K f c T) (S:Jmp N ps (Jml st)) (len:∀vs H Q E,sp vs H Q E->vs.length=ps.length)
  (hbody:∀A outer s H vs Q E,Sak k (A.deeper (envOfC qual (Jml st) s.heap.objs.size f (.ref c)))->sp vs H Q E->
   ∃t,PB (Juk CX P w K mg base N qual (Jml st) f (.ref c) A outer s H E) (Jno st) t/\t {nx:=λ_ H'=>Q .non H',rt:=Q} (start N vs) H):Sx P w K mg base CX (k+1) f fd ps sp:=by
 obtain ⟨oc,od,kV,doc,pm,an,cdv,ct,osl,rfl,lk,hcd⟩:=F.ex
 have ec:cdv= .ref c:=by
  obtain ⟨oc',od',fd',sl',l',e'⟩:=n.fn
  rw [lk] at l';cases l'
  exact e'
 subst ec
 refine ⟨len,λA outer s H args us vs Q E hr e0 hb r hsp=>?_⟩
 have KX:=e0.mod.kin.keeps λb o e=>(e0.bs b o e).1
 refine codeAny_call_function hr.depth (KX _ _ lk) rfl S.co S.gen rfl (PySem.W.codeRec_of KX hcd) (hb _ _ _ _ (wpAny_newFunctionEnv_cells S.kind (λ⟨y,v⟩ hy=>?_) λenv he s1 z=>?_))
 ·exact (S.par y (ybs hy).1).imp id λq=>⟨q,PySem.W.cellsFrom_some _ _ _ (.inl q)⟩
 subst he
 refine ⟨(e0.mod.nolimit.keeps λb o e=>(e0.bs b o e).1).keeps z.toInCall.keep,codeAny_func ?_⟩
 obtain ⟨t,ht,hq⟩:=hbody A outer s H vs Q E (hr.deeper _) hsp
 refine wpAny_mono (ht [] s1 (start N vs) H _ (Jts S hr.hd e0 (len _ _ _ _ hsp) r z) hq) (λfl s' hs=>?_) λe s' hs=>hs
 cases fl with
 |ret u=>
  obtain ⟨v,H',⟨a1,a2,a3,a4⟩,rv,q⟩:=hs
  exact ⟨v,H',a1,a2,a3,a4,rv,q⟩
 |next=>
  obtain ⟨σ',H',⟨a1,a2,a3,a4⟩,q⟩:=hs
  exact ⟨.non,H',a1,a2,a3,a4,rfl,q⟩
 |brk=>
  obtain ⟨_,_,_,q⟩:=hs
  exact False.elim q
 |cont=>
  obtain ⟨_,_,_,q⟩:=hs
  exact False.elim q
theorem Jpe:∀(ns:List (Str×NameKind)) (n:Nat) (acc:List (Str×S5)),cellsFrom n ns acc=cellsFrom n ns []++acc
 | [],_,_=>rfl
 | (x,k) :: r,n,acc=>by
  unfold cellsFrom
  split
  ·rw [Jpe r (n+1) ((x,n)::acc),Jpe r (n+1) [(x,n)],List.append_assoc]
   rfl
  ·exact Jpe r n acc
theorem Jqp:∀ns n acc,(cellsFrom n ns acc).lookup x=some b->acc.lookup x=none->(x,NameKind.cell)∈ns
 | [],_,_,e,m=>by unfold cellsFrom at e;rw [m] at e;cases e
 | (y,k) :: r,n,acc,e,m=>by
  unfold cellsFrom at e
  split at e
  ·rename_i hk
   have hk':k= .cell:=by simpa using hk
   subst hk'
   by_cases hx:x=y
   ·subst hx;exact yan
   ·refine yac _ (Jqp r _ _ e ?_)
    rw [yau,beq_eq_false_iff_ne.mpr hx]
    exact m
  ·exact yac _ (Jqp r _ _ e m)
theorem Jpa {α β:Type} [BEq α] {x:α}:∀(l m:List (α×β)),(l++m).lookup x=(l.lookup x).or (m.lookup x)
 | [],_=>rfl
 | (y,v) :: r,m=>by
  rw [List.cons_append,yau,yau]
  split
  ·rfl
  ·exact Jpa r m
section
variable {M:Model} {A:Se} {E:S6->S7->Prop} {s₀ s:S7} {m cm:Str->Option S6} {env:Env} {cs:List (Str×S5)}
theorem Jzc (f:Str×S6->PUnit->Sem (ForInStep PUnit)) (hf:∀n v u,f (n,v) u=(do storeName env n v;pure (.yield ⟨⟩))) (hk:env.scope.kind= .function) (sub:∀n c,cs.lookup n=some c->env.cells.lookup n=some c):
  ∀bs m cm s Q,InCallC s₀ env.locals m cs cm s->(∀x∈bs,env.kindOf x.1=some .local\/(env.kindOf x.1=some .cell/\(cs.lookup x.1).isSome=true))->
   (∀s',InCallC s₀ env.locals (bindL env.kindOf bs m) cs (bindC env.kindOf bs cm) s'->Q ⟨⟩ s')->Sh M A (forIn bs ⟨⟩ f) Q E s
 | [],m,cm,s,Q,x,_,h=>by rw [List.forIn_nil];exact S9 (h s x)
 | (n,v) :: r,m,cm,s,Q,x,hb,h=>by
  rw [List.forIn_cons,hf]
  have hr:=λy hy=>hb y (yac (n,v) hy)
  obtain ⟨h0,t0,e0⟩:=x.toInCall.same
  rcases hb (n,v) yan with hl|⟨hl,hc⟩
  ·refine S8 (S8 (wpAny_storeName_local hl x.toInCall.ns (λh' hn hs=>S9 (Jzc f hf hk sub r (λy=>if y=n then some v else m y) cm _ Q ⟨⟨?_,hn,λb o z=>?_,x.toInCall.fresh⟩,λk c z=>?_,x.apart,x.above⟩ hr λs'' x''=>h s'' ?_)) (by rw [hk];rfl)))
   ·rw [e0];exact ⟨h',_,rfl⟩
   ·exact hs.extBut b o (yr (yab (yi z) x.toInCall.fresh)) (x.toInCall.keep b o z)
   ·exact (x.cell k c z).sameBut hs (yaw (x.above k c (mem_of_lookup z)))
   ·unfold bindL bindC;rw [if_pos hl,if_pos hl];exact x''
  ·obtain ⟨c,hc⟩:=ybx.mp hc
   have hnl:¬env.kindOf n=some .local:=by rw [hl];decide
   have hL:=x.above n c (mem_of_lookup hc)
   refine S8 (S8 (wpAny_storeName_cell hk hl (sub n c hc) (x.cell n c hc) λh' hn hs=>S9 (Jzc f hf hk sub r m (λy=>if y=n then some v else cm y) _ Q ⟨⟨?_,x.toInCall.ns.sameBut hs (yr hL),λb o z=>?_,x.toInCall.fresh⟩,λk c' z=>?_,x.apart,x.above⟩ hr λs'' x''=>h s'' ?_)))
   ·rw [e0];exact ⟨h',_,rfl⟩
   ·exact hs.extBut b o (yr (Nat.lt_trans (yab (yi z) x.toInCall.fresh) hL)) (x.toInCall.keep b o z)
   ·by_cases w':k=n
    ·subst w'
     rw [hc] at z;cases z
     simpa using hn
    ·rw [if_neg w']
     exact (x.cell k c' z).sameBut hs λe=>w' (name_of_addr x.apart (mem_of_lookup z) (e▸mem_of_lookup hc))
   ·unfold bindL bindC;rw [if_neg hnl,if_neg hnl];exact x''
theorem Ye6 {code} (hk:scope.kind= .function)
  (hb:∀x∈bs,scope.names.lookup x.1=some .local\/(scope.names.lookup x.1=some .cell/\((cellsFrom (s.heap.objs.size+1) scope.names []).lookup x.1).isSome=true))
  (hQ:∀env,env=newEnv scope s.heap.objs.size globals (cellsFrom (s.heap.objs.size+1) scope.names []++clos) qual func code none builtins->
   ∀s',InCallC s env.locals (bindL env.kindOf bs λ_=>none) (cellsFrom (s.heap.objs.size+1) scope.names []) (bindC env.kindOf bs λ_=>none) s'->Q env s'):
  Sh M A (newFunctionEnv scope globals clos bs qual func code none builtins) Q E s:=by
 simp only [newFunctionEnv,Option.isSome_none,Bool.false_eq_true,if_false]
 refine S8 (wpAny_alloc (S8 (wpAny_layCells _ (λn kd cl=>by cases h:kd==NameKind.cell <;> simp [h]) _ _ _ _ ?_)))
 have z:{s with heap:=s.heap.push {cls:=.type "frame",data:=.dict #[]}}.heap.objs.size=s.heap.objs.size+1:=yaa ..
 rw [z,Jpe]
 have ok:=cellsFrom_ok scope.names (s.heap.push {cls:=.type "frame",data:=.dict #[]}) (s.heap.objs.size+1) [] ⟨λ_ _ hm=>(nomatch hm),.nil⟩ (ybr z.symm)
 rw [yaa ..] at ok
 refine S8 (Jzc (env:=newEnv scope s.heap.objs.size globals (cellsFrom (s.heap.objs.size+1) scope.names []++clos) qual func code none builtins) _ (λ_ _ _=>rfl) hk (λn c e=>?_) bs (λ_=>none) (λ_=>none) _ _ ?_ hb λs' x=>S9 (hQ _ rfl s' x))
 ·show (cellsFrom (s.heap.objs.size+1) scope.names []++clos).lookup n=some c
  rw [Jpa,e];rfl
 ·exact ⟨⟨⟨_,_,rfl⟩,(Heap.Ns.new s.heap (.type "frame")).keeps (pushCells_keeps _ _),λb o e=>pushCells_keeps _ _ b o (yn _ e),yl _⟩,λn c hc=>(ok.empty n c (mem_of_lookup hc)).1,ok.apart,λn c hm=>(ok.empty n c hm).2⟩
end
structure Jr7 (N ps fr:List Str) (sc:Scope):Prop where
 kind:sc.kind= .function
 co:sc.isCoroutine=false
 gen:sc.isGenerator=false
 nd:N.Nodup
 pre:N.take (ps.length+fr.length)=ps++fr
 par:∀x∈ps,sc.names.lookup x=some .local\/sc.names.lookup x=some .cell
 frs:∀x∈fr,sc.names.lookup x=some .free
 nof:∀y∈sc.names,y.2= .cell->sc.names.lookup y.1=some .cell
def Yk (CX:CXT) (P:Sb) (w:Sd) (K:Si) (mg:Str->Option S6) (base:Sg) (N:List Str) (qual:Str) (scope:Scope) (clos:List (Str×S5)) (f:S5) (cd:S6) (A:Se) (outer:List Env) (s:S7) (H:Hp) (E:XK):Cx where
 prog:=P
 w:=w
 K:=K
 mg:=mg
 base:=base
 A:=A.deeper (PySem.W.envX qual scope s.heap.objs.size f cd (cellsFrom (s.heap.objs.size+1) scope.names []++clos))
 N:=N
 s₀:=s
 H₀:=H
 env:=PySem.W.envX qual scope s.heap.objs.size f cd (cellsFrom (s.heap.objs.size+1) scope.names []++clos)
 outer:=outer
 stack:=PySem.W.envX qual scope s.heap.objs.size f cd (cellsFrom (s.heap.objs.size+1) scope.names []++clos)::outer
 ex:=[]
 calm:=true
 fn:=λx=>decide (scope.names.lookup x=some .cell)
 pn:=[]
 xe:=λe s'=>Sh (model P w) (A.deeper (PySem.W.envX qual scope s.heap.objs.size f cd (cellsFrom (s.heap.objs.size+1) scope.names []++clos))) (leaving (PySem.W.envX qual scope s.heap.objs.size f cd (cellsFrom (s.heap.objs.size+1) scope.names []++clos)) e) (λ_ s''=>CX outer H s E e s'') (λe' s''=>CX outer H s E e' s'') s'
theorem Ybb {i:Nat} (h:(start N vs)[i]?=some (some v)):vs[i]?=some v:=by
 unfold start at h
 by_cases hi:i < vs.length
 ·rw [ycd (by simpa using hi),yj] at h
  cases e:vs[i]? with
  |none=>rw [e] at h;cases h
  |some a=>rw [e] at h;cases h;rfl
 ·rw [ycc (by simpa using hi),ybj] at h
  split at h <;> cases h
theorem Jzg {K}
  (S:Jr7 N ps fr scope) (hd:A.handled=none) (e0:Sex P w K mg base A outer s H) (hl:vs.length=ps.length) (hlc:cs.length=fr.length) (r:Sa4 vs us)
  (inj:∀x y b,clos.lookup x=some b->clos.lookup y=some b->x=y) (has:∀y∈scope.names,y.2= .free->∃b,clos.lookup y.1=some b) (cel:∀x b,clos.lookup x=some b->∃v,Scf H b v) (cap:∀x v,(x,v)∈fr.zip cs->∃b,clos.lookup x=some b/\Scf H b v)
  (x:InCallC s s.heap.objs.size (bindL (PySem.W.envX qual scope s.heap.objs.size f cd (cellsFrom (s.heap.objs.size+1) scope.names []++clos)).kindOf (ps.zip us) λ_=>none) (cellsFrom (s.heap.objs.size+1) scope.names []) (bindC (PySem.W.envX qual scope s.heap.objs.size f cd (cellsFrom (s.heap.objs.size+1) scope.names []++clos)).kindOf (ps.zip us) λ_=>none) s1):
  Su (Yk CX P w K mg base N qual scope clos f cd A outer s H E) [] (start N (vs++cs)) H s1:=by
 have hpl:=by have:=congrArg List.length S.pre;rw [yz,yah] at this;omega
 obtain ⟨h1,tk,rfl,hk⟩:=x.done
 have noA:∀b:S5,b∉(Yk CX P w K mg base N qual scope clos f cd A outer s H E).ex:=λb z=>absurd (show b∈ [] from z) (by simp)
 have cobj:∀b v,Scf H b v->∃o u,H b=some (Sin o)/\s.heap.get? b=some o/\o.data= .cell (some u)/\Sa6 v u:=λb v ⟨o,u,q1,q2,q3⟩=>⟨o,u,q1,(e0.hok b _ q1).1,q2,q3⟩
 have two:∀y b,(cellsFrom (s.heap.objs.size+1) scope.names []++clos).lookup y=some b->(cellsFrom (s.heap.objs.size+1) scope.names []).lookup y=some b\/((cellsFrom (s.heap.objs.size+1) scope.names []).lookup y=none/\clos.lookup y=some b):=λy b e=>by
  rw [Jpa] at e
  cases q:(cellsFrom (s.heap.objs.size+1) scope.names []).lookup y with
  |none=>rw [q] at e;exact .inr ⟨rfl,e⟩
  |some d=>rw [q] at e;exact .inl e
 have low:∀y b,clos.lookup y=some b->b < s.heap.objs.size:=λy b e=>by
  obtain ⟨v,q⟩:=cel y b e
  obtain ⟨o,u,_,q2,_⟩:=cobj b v q
  exact yi q2
 have high:=λy b e=>x.above y b (PySem.mem_of_lookup e)
 refine ⟨⟨e0.mod,S.kind,rfl,rfl,yl _,λy z c h1 h2=>?_,λy hy=>?_,λy c hy h=>?_,λ_=>hd,Around.frames_deeper e0.frames,.inr ⟨rfl,rfl⟩,λb z=>absurd z (noA b),e0.bs,e0.bsz,λb _ _=>noA b,λb z=>absurd z (noA b),e0.funs,e0.frf⟩,
  rfl,e0.bare,Un.kept hk,⟨_,x.toInCall.ns,λi y v h1 h2 h3=>?_⟩,λy c h=>?_,e0.hok.fresh (yl _),λy c h=>?_,λp hp=>absurd (show p∈ [] from hp) (by simp),e0.hok.kept hk,?_⟩
 ·rcases two y c h1 with a|⟨_,a⟩
  ·rcases two z c h2 with b|⟨_,b⟩
   ·exact name_of_addr x.apart (PySem.mem_of_lookup a) (PySem.mem_of_lookup b)
   ·exact absurd (Nat.lt_trans (high y c a) (low z c b)) (yay _)
  ·rcases two z c h2 with b|⟨_,b⟩
   ·exact absurd (Nat.lt_trans (high z c b) (low y c a)) (yay _)
   ·exact inj y z c a b
 ·have hy:scope.names.lookup y=some .cell\/scope.names.lookup y=some .free:=hy
  show ∃c,(cellsFrom (s.heap.objs.size+1) scope.names []++clos).lookup y=some c
  rw [Jpa]
  cases q:(cellsFrom (s.heap.objs.size+1) scope.names []).lookup y with
  |some d=>exact ⟨d,rfl⟩
  |none=>
   rcases hy with hy|hy
   ·obtain ⟨c,e⟩:=Jqh hy
    rw [q] at e;cases e
   ·exact has _ (PySem.mem_of_lookup hy) rfl
 ·rcases two y c h with a|⟨a,_⟩
  ·exact ybd (high y c a)
  ·have hy':=hy
   obtain ⟨c',e⟩:=Jqh (of_decide_eq_true hy')
   rw [a] at e;cases e
 ·have ha:=Ybb h2
  have hi:=by have:=(yo.mp ha).1;rw [yah] at this;exact this
  have hp:(ps++fr)[i]?=some y:=by rw [<-S.pre,List.getElem?_take_of_lt (by omega)];exact h1
  by_cases hv:i < vs.length
  ·rw [ycd hv] at ha
   rw [ycd (by omega)] at hp
   obtain ⟨u,hu,rv⟩:=r.get ha
   have ndP:=(List.nodup_append.mp (by rw [<-S.pre];exact S.nd.sublist (List.take_sublist _ _))).1
   refine ⟨u,rv,?_⟩
   rcases S.par y (yy hp) with k|k
   ·exact .inl ⟨k,Jtk ndP hp hu k⟩
   ·obtain ⟨c,e⟩:=Jqh k
    refine .inr ⟨.inl k,c,?_,?_⟩
    ·show (cellsFrom (s.heap.objs.size+1) scope.names []++clos).lookup y=some c
     rw [Jpa,e];rfl
    ·have q:=x.cell y c e
     rw [Jtj ndP hp hu (by show scope.names.lookup y≠_;rw [k];decide)] at q
     exact q
  ·rw [ycc (by omega)] at ha
   rw [ycc (by omega)] at hp
   obtain ⟨b,e1,e2⟩:=cap y v (yy (by rw [ycb];exact ⟨by rw [hl];exact hp,ha⟩))
   have kf:=S.frs y (yy hp)
   obtain ⟨o,u,_,q2,q3,q4⟩:=cobj b v e2
   refine ⟨u,q4,.inr ⟨.inr kf,b,?_,o,hk _ _ q2,q3⟩⟩
   show (cellsFrom (s.heap.objs.size+1) scope.names []++clos).lookup y=some b
   rw [Jpa]
   cases q:(cellsFrom (s.heap.objs.size+1) scope.names []).lookup y with
   |none=>exact e1
   |some d=>
    have:=S.nof _ (Jqp scope.names _ [] q rfl) rfl
    rw [kf] at this;cases this
 ·rcases two y c h with a|⟨_,a⟩
  ·exact ⟨_,x.cell y c a⟩
  ·obtain ⟨v,q⟩:=cel y c a
   obtain ⟨o,u,_,q2,q3,_⟩:=cobj c v q
   exact ⟨_,o,hk _ _ q2,q3⟩
 ·rcases two y c h with a|⟨a1,a⟩
  ·exact .inl (e0.hok.fresh (ybd (high y c a)))
  ·obtain ⟨v,q⟩:=cel y c a
   obtain ⟨o,u,q1,_⟩:=cobj c v q
   refine .inr ⟨decide_eq_false λz=>?_,o,q1⟩
   obtain ⟨c',e⟩:=Jqh z
   rw [a1] at e;cases e
 ·unfold start
  show _=N.length
  rw [yah,yf,yat,yah]
  omega
structure Jws (P:Sb) (w:Sd) (K:Si) (mg:Str->Option S6) (base:Sg) (CX:CXT) (k:Nat) (f:S5) (sp:Sp):Prop where
 isf:∀vs H Q E,sp vs H Q E->IsF H f
 run:∀(A:Se) (outer:List Env) (s:S7) (H:Hp) (us:List S6) (vs:List V) (Q:VK) (E:XK),Sak k A->Sex P w K mg base A outer s H->Sa4 vs us->sp vs H Q E->codeAny (model P w) A (.call (.ref f) ⟨us,[]⟩) (CR CX outer P w H s Q E) s
inductive Ya6 (name qual:Str) (st:Sf) (fr:List Str) (sp:List V->Sp) (f:S5) (vs:List V) (H:Hp) (Q:VK) (E:XK):Prop where
 |mk (cs:_) (_:Sc4 H f name qual st (fr.zip cs)) (_:sp cs vs H Q E)
theorem Sm2 {K} {st} (S:Jr7 N ps fr (Jml st))
  (hb:∀clos doc pm c ct us,us.length=ps.length->bindArgs (PySem.W.fnX name qual (Jnw st) (Jno st) (Jml st) clos .none .none doc pm none (.ref c) ct) ⟨us,[]⟩=pure (ps.zip us))
  (len:∀cs vs H Q E,sp cs vs H Q E->vs.length=ps.length/\cs.length=fr.length)
  (hbody:∀f c clos A outer s H vs cs Q E,Sak k (A.deeper (PySem.W.envX qual (Jml st) s.heap.objs.size f (.ref c) (cellsFrom (s.heap.objs.size+1) (Jml st).names []++clos)))->sp cs vs H Q E->
   ∃t,PSs (Yk CX P w K mg base N qual (Jml st) clos f (.ref c) A outer s H E) (Jno st) t/\t {nx:=λ_ H'=>Q .non H',rt:=Q} (start N (vs++cs)) H) (f):
  Jws P w K mg base CX (k+1) f (Ya6 name qual st fr sp f):=by
 refine ⟨λvs H Q E ⟨cs,h,_⟩=>h.isf,λA outer s H us vs Q E hr e0 r zq=>?_⟩
 obtain ⟨cs,⟨clos,c,h1,h2,h3,h4,h5,h6⟩,hsp⟩:=zq
 obtain ⟨hl,hlc⟩:=len _ _ _ _ _ hsp
 have hlu:us.length=ps.length:=by rw [<-r.length];exact hl
 obtain ⟨⟨doc,pm,ct,ho⟩,_⟩:=e0.hok f _ h1
 refine codeAny_call_function hr.depth ho rfl S.co S.gen rfl (e0.hok c _ h2) ?_
 rw [hb clos doc pm c ct us hlu]
 refine S9 (Ye6 S.kind (λ⟨y,v⟩ hy=>?_) λenv he s1 z=>?_)
 ·exact (S.par y (ybs hy).1).imp id λq=>⟨q,PySem.W.cellsFrom_some _ _ _ (.inl q)⟩
 subst he
 refine ⟨(e0.mod.nolimit.keeps λb o e=>(e0.bs b o e).1).keeps z.toInCall.keep,codeAny_func ?_⟩
 obtain ⟨t,ht,hq⟩:=hbody f c clos A outer s H vs cs Q E (hr.deeper _) hsp
 refine wpAny_mono (ht [] s1 (start N (vs++cs)) H _ (Jzg S hr.hd e0 hl hlc r h3 h4 h5 h6 z) hq) (λfl s' hs=>?_) λe s' hs=>hs
 cases fl with
 |ret u=>
  obtain ⟨v,σ',H',J,rv,q⟩:=hs
  exact ⟨v,H',J.os,J.bare,J.base,J.hok,rv,q⟩
 |next=>
  obtain ⟨σ',H',J,q⟩:=hs
  exact ⟨.non,H',J.os,J.bare,J.base,J.hok,rfl,q⟩
 |brk=>
  obtain ⟨_,_,_,q⟩:=hs
  exact False.elim q
 |cont=>
  obtain ⟨_,_,_,q⟩:=hs
  exact False.elim q
inductive Ydc (i:Nat) (sp:S5->Sp) (R:St->XK) (t:TA) (σ:St) (H:Hp) (Q:VK):Prop where
 |mk (f:_) (_:σ[i]?=some (some (.ref f))) (_:t σ H λvs H1=>sp f vs H1 Q (R σ))
section
variable {X:Cx} {CX:CXT} {k j i:Nat} {sp:S5->Sp} {x:Str} {p pos:Pos} {e:Expr} {es:List Expr} {t:TA} {R:St->XK}
theorem Jwj (G:∀f,Jws X.prog X.w X.K X.mg X.base CX k f (sp f)) (hr:Sak j X.A) (hk:k<=j) (hx:∀pins σ H s e s',Su X pins σ H s->CX X.stack H s (R σ) e s'->X.xe e s') (ha:PA X (e::es) t) (hN:X.N[i]?=some x) (hv:Vis X.env.scope x)
  (hd:(x==("__debug__" :Str))=false) (hcd:(x==("__classdict__" :Str))=false) (he:starEach (e::es) X.env=(false,eval e X.env)::starEach es X.env) (hpl:(backTo pos (starEach es X.env)).any (·.1)=false):
  PE X (.Call (.Name x p) (e::es) [] pos) (Ydc i sp R t):=by
 rintro pins s σ H Q I ⟨f,hf,h⟩
 refine wpAny_Call_Name_kw (thn (Ycj hN hv hd hcd pins s σ H (λv H'=>v= .ref f/\H'=H) I ⟨_,hf,rfl,rfl⟩) λu s1 zq=>?_)
 obtain ⟨v,H',I1,r,e1,e2⟩:=zq
 subst e1 e2
 cases r
 have hat:∀{s2:S7} {H2:Hp},Su X pins σ H2 s2->IsF H2 f->PySem.W.FnAt f s2.heap:=λJ ⟨name,qual,st,clos,c,z⟩=>by
  obtain ⟨⟨doc,pm,ct,q⟩,_⟩:=J.hok f _ z
  exact ⟨_,_,_,_,q⟩
 rw [he]
 refine PySem.W.callWith_of (by show ((false||(backTo pos (starEach es X.env)).any (·.1))||false)=false;rw [hpl];rfl) PySem.W.keeps_F (Calls.evalArgs_plain ?_)
 have ha':=ha pos pins s1 σ H' _ I1 h
 rw [he] at ha'
 refine thn ha' λus s2 ⟨vs,H2,I2,r2,q2⟩=>⟨hat I2 ((G f).isf _ _ _ _ q2),wpAny_call (codeAny_mono ((G f).run X.A X.stack s2 H2 us vs Q (R σ) (hr.mono hk) I2.env0 r2 q2) λr s' hq=>?_)⟩
 cases r with
 |error e=>exact hx pins σ H2 s2 e s' I2 hq
 |ok fl=>
  cases fl with
  |ret u=>exact I2.after hq
  |next=>exact False.elim hq
  |brk=>exact False.elim hq
  |cont=>exact False.elim hq
theorem Jyv (G:∀f,Jws X.prog X.w X.K X.mg X.base CX0 k f (sp f)) (hr:Sak j X.A) (hk:k<=j) (i) (ha:PA X (e::es) t) (hN:X.N[i]?=some x:=by rfl) (hv:Vis X.env.scope x:=by first|exact ye rfl|exact Or.inr (ye rfl)|exact Or.inr (Or.inr rfl))
  (hd:(x==("__debug__" :Str))=false:=by decide) (hcd:(x==("__classdict__" :Str))=false:=by decide) (he:starEach (e::es) X.env=(false,eval e X.env)::starEach es X.env:=by rfl) (hpl:(backTo pos (starEach es X.env)).any (·.1)=false:=by rfl):
  PE X (.Call (.Name x p) (e::es) [] pos) (Ydc i sp (λ_=>E0) t):=Jwj G hr hk (λ_ _ _ _ _ _ _ z=>z.elim) ha hN hv hd hcd he hpl
end
theorem nst_mk {K} (l:K.lookup f=some ⟨oc,od,.func fd,sl⟩) (e:fd.code= .ref c)
  (lc:K.lookup c=some ⟨.type "code",od', .fields vs,sl'⟩) (_:vs[11]?=some (.ref P)) (hb:Sm1 vs c P=true):Nst K f c P:=⟨⟨oc,od,fd,sl,l,e⟩,⟨od',vs,sl',lc,hb⟩⟩
theorem Jx0 {β:Type}:∀{l:List (S5×β)},(l.map (·.1)).Nodup->∀p∈l,l.lookup p.1=some p.2
 |q::r,h,p,hp=>by
  have h':(q.1::r.map (·.1)).Nodup:=h
  obtain ⟨h1,h2⟩:=yax.mp h'
  rw [yau]
  rcases yk.mp hp with rfl|hp
  ·rw [beq_self_eq_true]
  ·have ne:(p.1==q.1)=false:=beq_eq_false_iff_ne.mpr λz=>h1 (by rw [<-z];exact ybl hp)
   rw [ne]
   exact Jx0 h2 p hp
theorem Jvn {β:Type}:∀{l:List (S5×β)} {a:S5} {v:β},l.lookup a=some v->(a,v)∈l
 | (b,x) :: r,a,v,e=>by
  rw [yau] at e
  cases hb:a==b with
  |true=>rw [hb] at e;cases e;rw [eq_of_beq hb];exact .head _
  |false=>rw [hb] at e;exact .tail _ (Jvn e)
theorem Yas {K:Si} {tabs:List (S5×Array (Nat×Nat×Str))}
  (KX:K.In s₁.heap) (hns:s₁.heap.Ns mainGlobals mg) (hb:s₁.heap.Ns builtinsNs mb) (hbb:∀x:Str,x≠"__name__" ->mb x=bootBuiltins x) (hlim:s₁.heap.NoLimit) (hg:s₁.gens= #[])
  (ha:s₁.heap.get? a=some {cls:=.type "list",data:=.seq vs.toArray}) (hi:IntsAre vs ns) (hl:ns.length<=Sa) (hr:Sak k callerA)
  (hT:∀p∈tabs,isCodeTable s₁.heap p.1/\s₁.heap.get? p.1=some (PySem.W.tabObj #[])) (hnd:(tabs.map (·.1)).Nodup) (hK:PySem.W.noTabs K=true) (hbm:Bmn mg s₁.heap)
  (F:∀base:Sg,K.In base->base.Ns mainGlobals mg->Bmn mg base->Sx P w K mg base CX k fa fd [x] sp) (hbind:∀s u,BindsTo s fd ⟨[u],[]⟩ [(x,u)])
  (hsp:∀H:Hp,(∀p∈tabs,H p.1=some (.tbl p.2))->Sy K H a (ns.map V.int)->sp [.ref a] H (λv _=>v= .bl true) λ_ _ _=>False)
  (hCX:∀H e s',CX [] H s₁ (λ_ _ _=>False) e s'->False):
  codeAny (model P w) callerA (.call (.ref fa) ⟨[.ref a],[]⟩) (λr s'=>r= .ok (.ret (.bool true))/\OldK s₁.heap s'.heap/\s'.os=s₁.os/\AllBare s'.gens) s₁:=by
 have rv:=Jx9 hi
 let so:Obj:={cls:=.type "list",data:=.seq vs.toArray}
 let H:Hp:=λb=>if b=a/\K.lookup a=none then some (.frz so (.lst (ns.map V.int))) else (tabs.lookup b).map HO.tbl
 have three:∀b,H b=none\/(b=a/\K.lookup a=none/\H b=some (.frz so (.lst (ns.map V.int))))\/∃lb,(b,lb)∈tabs/\H b=some (.tbl lb):=λb=>by
  by_cases h:b=a/\K.lookup a=none
  ·exact .inr (.inl ⟨h.1,h.2,if_pos h⟩)
  ·have e:H b=(tabs.lookup b).map HO.tbl:=if_neg h
   cases q:tabs.lookup b with
   |none=>exact .inl (by rw [e,q];rfl)
   |some lb=>exact .inr (.inr ⟨lb,Jvn q,by rw [e,q];rfl⟩)
 have hnon:∀b o,s₁.heap.get? b=some o->(∀xs n,o.data≠ .seq xs n)->(∀xs,o.data≠ .fields xs)->H b=none:=λb o e n1 n2=>by
  rcases three b with z|⟨rfl,_,_⟩|⟨lb,m,_⟩
  ·exact z
  ·rw [ha] at e;cases e;exact absurd rfl (n1 _ _)
  ·rw [(hT _ m).2] at e;cases e;exact absurd rfl (n2 _)
 have htb:∀p∈tabs,H p.1=some (.tbl p.2):=λp hp=>by
  have n:¬(p.1=a/\K.lookup a=none):=λz=>by
   have e:=(hT p hp).2
   rw [z.1,ha] at e;cases e
  show (if p.1=a/\K.lookup a=none then _ else _)=_
  rw [if_neg n,Jx0 hnd p hp]
  rfl
 have hok:HOk P w H s₁.heap:=λb u z=>by
  rcases three b with e|⟨rfl,_,e⟩|⟨lb,m,e⟩
  ·rw [e] at z;cases z
  ·rw [e] at z;cases z
   exact ⟨ha,by rw [yf];exact hl,vs,_,rv,ha⟩
  ·rw [e] at z;cases z
   exact ⟨#[],(hT _ m).2,True.intro⟩
 have hS:Sy K H a (ns.map V.int):=by
  cases hk:K.lookup a with
  |some o=>
   have e:=KX a o hk
   rw [ha] at e;cases e
   exact .inr ⟨_,vs.toArray,_,hk,rfl,rfl,rfl,by rw [ym,hi.length];exact hl,by simpa using rv⟩
  |none=>exact .inl (.inr ⟨so,if_pos ⟨rfl,hk⟩⟩)
 have nsK:∀{b:S5} {m:Str->Option S6},s₁.heap.Ns b m->(Jxg s₁.heap H).Ns b m:=λ{b m} ⟨o,es,ep,e,d,r⟩=>⟨o,es,ep,Jvg e (hnon b o e (λxs n z=>by rw [d] at z;cases z) λxs z=>by rw [d] at z;cases z),d,r⟩
 have hKb:K.In (Jxg s₁.heap H):=λb o e=>Jvg (KX b o e) (by
  rcases three b with z|⟨rfl,z,_⟩|⟨lb,m,_⟩
  ·exact z
  ·rw [z] at e;cases e
  ·exfalso
   have q:=KX b o e
   rw [(hT _ m).2] at q
   cases q
   have h2:=yar.mp hK (b,_) (PySem.W.mem_of_lookupK e)
   exact absurd (h2) yae)
 have hBb:Bmn mg (Jxg s₁.heap H):=by
  obtain ⟨bm,ob,b1,b2,b3,b4,b5,b6⟩:=hbm
  exact ⟨bm,ob,b1,b2,Jvg b3 (hnon bm ob b3 (λxs n z=>by rw [b6] at z;cases z) λxs z=>by rw [b6] at z;cases z),b4,b5,b6⟩
 have hM:Mod K mg (Jxg s₁.heap H):=⟨hKb,nsK hns,⟨mb,nsK hb,hbb⟩,let ⟨mc,h1,h2⟩:=hlim;⟨mc,nsK h1,h2⟩⟩
 have e0:Sex P w K mg (Jxg s₁.heap H) callerA [] s₁ H:=⟨rfl,hM,λb o e=>Ye9 e,ybr (Yap _ _),trivial,λb hb=>absurd (show b∈ [] from hb) (by simp),hok,.of_eq hg⟩
 refine codeAny_mono ((F _ hKb (nsK hns) hBb).run callerA [] s₁ H ⟨[.ref a],[]⟩ [.ref a] [.ref a] _ _ hr e0 (hbind s₁ (.ref a)) (.cons rfl .nil) (hsp H htb hS)) λr s' h=>?_
 cases r with
 |error e=>exact (hCX H e s' h).elim
 |ok fl=>
  cases fl with
  |next=>exact False.elim h
  |brk=>exact False.elim h
  |cont=>exact False.elim h
  |ret u=>
   obtain ⟨v,H',os,bare,un,hok',r',q⟩:=h
   subst q
   obtain rfl:u=Value.bool true:=r'
   have all:∀b o,s₁.heap.get? b=some o->s'.heap.get? b=some o\/(isCodeTable s₁.heap b/\o=PySem.W.tabObj #[]/\∃ts,s'.heap.get? b=some (PySem.W.tabObj ts)):=λb o e=>by
    rcases three b with z|⟨rfl,_,z⟩|⟨lb,m,z⟩
    ·exact .inl (un.keep b o e z (by intro y;exact absurd (show b∈ [] from y) (by simp)) (by simp))
    ·obtain ⟨e2,_⟩:=hok' _ _ (un.frzs _ _ _ z)
     rw [ha] at e;cases e
     exact .inl e2
    ·obtain ⟨more,z2⟩:=un.tbls b lb z
     obtain ⟨ts,e2,_⟩:=hok' b _ z2
     have e3:=(hT _ m).2
     rw [e] at e3;cases e3
     exact .inr ⟨(hT _ m).1,rfl,ts,e2⟩
   refine ⟨rfl,⟨λb o e=>?_,λb o e=>?_⟩,os,bare⟩
   ·rcases all b o e with z|⟨t,rfl,ts,z⟩
    ·exact .inl z
    ·exact .inr (.inl ⟨t,rfl,#[],ts,rfl,by rw [Array.empty_append];exact z⟩)
   ·rcases all b o e with z|⟨t,rfl,ts,z⟩
    ·exact ⟨o,z⟩
    ·exact ⟨_,z⟩
def Ybk (q:Sb) (K:Si) (h:Sg):Prop:=∀(y:Str) (d:DefRec) (c P:S5),(recsOf q).find? (λe=>e.name==y)=some d->PySem.W.tabIn K y=some (c,P)->PySem.W.CodeHd h c P/\h.get? P=some (PySem.W.tabObj #[])
theorem walk_ofT {l:PySem.W.OpenLaw} {n k} {q} {loose} {XP} {YP} {d} {K:Params->Si} {CX} {x}
  (hn:l.most=some n) (hn2:n<=Sa) (hdf:d.params.defaults= []) (hr:Sak k callerA) (hY:∀w h,YP w h->(K w.params).In h) (hK:∀w:Sd,PySem.W.noTabs (K w.params)=true)
  (F:∀w mg fa h,(K w.params).In h->h.Ns mainGlobals mg->Ybk q (K w.params) h->mg d.name=some (.ref fa)->
   ∃(fd:Sc) (sp:Sp) (tabs:List (S5×Array (Nat×Nat×Str))),(∀s u,BindsTo s fd ⟨[u],[]⟩ [(x,u)])/\(∀p∈tabs,isCodeTable h p.1/\h.get? p.1=some (PySem.W.tabObj #[]))/\(tabs.map (·.1)).Nodup/\
    (∀base:Sg,(K w.params).In base->base.Ns mainGlobals mg->Bmn mg base->Sx l.prog w (K w.params) mg base CX k fa fd [x] sp)/\
    ∀H a (ns:List Int),ns.length<=n->(∀p∈tabs,H p.1=some (.tbl p.2))->Sy (K w.params) H a (ns.map V.int)->sp [.ref a] H (λv _=>v= .bl true) λ_ _ _=>False)
  (hCX:∀H s e s',CX [] H s (λ_ _ _=>False) e s'->False):
  PySem.W.WalkO q loose XP YP l.row.toRowW d [] (λf vs=>PySem.call f vs):=by
 refine Att.attach_call hn hdf λw s₀ s₁ mg mb fa o pm cd doc a vs ns G Y ho hd hcd hmg hobj hints hlen hg=>?_
 have KX:=hY w _ Y
 obtain ⟨fd,sp,tabs,hb,hT,hnd,hF,hsp⟩:=F w mg fa _ KX G.T.g (λy d c P e1 e2=>PySem.W.tab_of G.T KX e1 e2) hmg
 exact Yas KX G.T.g G.T.b G.T.builtins G.T.nolimit hg hobj hints (yam hlen hn2) hr hT hnd (hK w) G.T.bmain hF hb (λH h1 h2=>hsp H a ns hlen h1 h2) λH e s'=>hCX H s₁ e s'
theorem tab_kn {K} (T:Ybk q K h) (e1:(recsOf q).find? (λe=>e.name==y)=some d) (e2:PySem.W.tabIn K y=some (c,P)):isCodeTable h P/\h.get? P=some (PySem.W.tabObj #[]):=
 let ⟨a,b⟩:=T y d c P e1 e2
 ⟨(a.tab b).isCodeTable,b⟩
end L2
namespace L2
open PySem PySem.Spec PyProof.Rows PySem.W
theorem Yj {K} {st} (S:Jr7 N ps fr (Jml st))
  (hb:∀clos doc pm c ct us,us.length=ps.length->bindArgs (PySem.W.fnX name qual (Jnw st) (Jno st) (Jml st) clos .none .none doc pm none (.ref c) ct) ⟨us,[]⟩=pure (ps.zip us))
  (len:∀cs vs H Q E,sp cs vs H Q E->vs.length=ps.length/\cs.length=fr.length)
  (hbody:∀f c clos A outer s H vs cs Q E,Sak k (A.deeper (PySem.W.envX qual (Jml st) s.heap.objs.size f (.ref c) (cellsFrom (s.heap.objs.size+1) (Jml st).names []++clos)))->sp cs vs H Q E->
   ∃t,PSs (Yk CX0 P w K mg base N qual (Jml st) clos f (.ref c) A outer s H E).nox (Jno st) t/\t {nx:=λ_ H'=>Q .non H',rt:=Q} (start N (vs++cs)) H) (f):Jws P w K mg base CX0 (k+1) f (Ya6 name qual st fr sp f):=
 Sm2 S hb len (λf c clos A outer s H vs cs Q E hr h=>let ⟨t,h1,h2⟩:=hbody f c clos A outer s H vs cs Q E hr h;⟨t,h1.nox,h2⟩) f
def nst (s:Sf) (j:Nat):Sf:=(Jno s).getD j (.Pass ⟨0,0,0,0⟩)
section
variable {X:Cx} {pins:List (S5×Obj)} {σ:St} {H:Hp} {s:S7}
end
section
variable {g:TG} {tt:TT} {te:TE} {H:Hp} {D:S5} {σ:St} {R:Hp->Prop}
end
section
variable {prog:Sb} {w:Sd} {A:Se} {E:S6->S7->Prop} {s:S7} {a:S5} {its:Array S6} {n:Nat}
end
section
variable {prog:Sb} {w:Sd} {K:Type} [DecidableEq K] {knd:KeyKind prog w K} {A:Se}
end
section
variable {prog:Sb} {w:Sd} {K:Type} [DecidableEq K] {knd:KeyKind prog w K} {A:Se} {E:S6->S7->Prop} {s:S7} {b:Bool}
end
section
variable {prog:Sb} {w:Sd} {A:Se} {R:Result->S7->Prop} {I:S5} {fp wr:List S5} {n:Nat} {P:Nat->S6->Prop} {St:Nat->Sg->Prop}
end
section
variable {prog:Sb} {w:Sd} {A:Se} {E:S6->S7->Prop} {s:S7}
end
section
variable {M:Model} {A:Se} {E:S6->S7->Prop} {s:S7}
end
section
variable {prog:Sb} {w:Sd} {A:Se} {E:S6->S7->Prop} {s:S7} {it a T:S5} {i ep slot next p m:Nat} {x:S6} {h0:Int} {tk:Tok} {o oT:Obj} {es:Array (Int×S6)} {t:SetTable} {ps:Array S6} {Q:Option S6->S7->Prop}
end
section
variable {prog:Sb} {w:Sd} {A:Se} {E:S6->S7->Prop} {s:S7} {it a:S5} {i ep slot:Nat} {o:Obj} {es:Array (Int×S6)} {t:SetTable}
end
section
variable {prog:Sb} {w:Sd} {A:Se} {E:S6->S7->Prop} {s:S7} {it a:S5}
end
section
variable {prog:Sb} {w:Sd} {A:Se} {it a T:S5} {ep m:Nat} {o oT:Obj} {es:Array (Int×S6)} {t:SetTable} {ps:Array S6}
end
section
variable {prog:Sb} {w:Sd} {A:Se} {E:S6->S7->Prop} {s:S7} {a:S5} {ep:Nat} {o:Obj} {es:Array (Int×S6)} {t:SetTable}
end
end L2
namespace L2
open PySem PySem.Spec PyProof.Rows PySem.W PySem.Calls
section
variable {prog:Sb} {w:Sd} {A:Se} {E:S6->S7->Prop} {s:S7} {a:S5} {ep:Nat} {o:Obj} {es:Array (Int×S6)} {t:SetTable}
end
end L2
namespace L2
open PySem PySem.Spec PyProof.Rows PySem.W
section
variable {X:Cx}
end
section
variable {X:Cx} {CX:CXT} {k j i:Nat} {sp:S5->Sp} {x:Str} {p pos:Pos} {e:Expr} {es:List Expr} {t:TA} {R:St->XK}
end
section
variable {X:Cx} {o i value:Expr} {pos pos':Pos} {td ty tv:TE}
end
section
variable {P:Sb} {w:Sd} {H H':Hp} {h:Sg} {a:S5} {o:Obj} {kvs:List (Key×V)}
end
section
variable {X:Cx} {pins:List (S5×Obj)} {σ:St} {H:Hp} {s:S7} {a:S5} {o:Obj} {kvs:List (Key×V)}
end
section
variable {prog:Sb} {w:Sd} {A:Se} {E:S6->S7->Prop} {s:S7}
end
section
variable {X:Cx}
end
section
variable {X:Cx} {x:Str} {np pos:Pos} {C0:S5} {b₀:Sf} {suite:List Sf} {rest:List ExceptHandler} {ts:S5->TS} {th:TH}
end
end L2
namespace L2
open PySem PySem.Spec PyProof.Rows
section
variable {X:Cx} {pins:List (S5×Obj)} {σ:St} {H:Hp} {s:S7} {M:Model} {A:Se} {E:S6->S7->Prop} {qual:Str} {e:Expr} {pos:Pos} {firstLine:Nat} {c P:S5} {lb:Array (Nat×Nat×Str)} {clos:List (Str×S5)} {Q:S6->S7->Prop}
end
def Sct (X:Cx) (H:Hp) (caps:List Str) (vs:List V):Prop:=caps.length=vs.length/\∀y∈caps.zip vs,∃b,X.env.cells.lookup y.1=some b/\Scf H b y.2
theorem Sct.same (s:Sn H H') (h:Sct X H caps vs):Sct X H' caps vs:=⟨h.1,λy hy=>(h.2 y hy).elim λb q=>⟨b,q.1,q.2.same s⟩⟩
inductive Sv5 (X:Cx) (caps:List (Str×Nat)) (t:TS) (D:Sch) (σ:St) (H:Hp):Prop where
 |mk (vs:List V) (_:(∀y∈caps.zip vs,σ[y.1.2]?=some (some y.2))) (_:caps.length=vs.length) (_:∀H',Sn H H'->Sct X H' (caps.map (·.1)) vs->t D σ H')
section
variable {X:Cx} {t:TS} {e:Expr} {l:List Sf} {qual:Str} {c P:S5} {lb:Array (Nat×Nat×Str)}
theorem Smp (hcap:∀y∈caps,X.N[y.2]?=some y.1/\X.fn y.1=true/\X.env.scope.names.lookup y.1=some .cell) (h:PB (X.fix λx=>(caps.map (·.1)).contains x) l t):PB X l (Sv5 X caps t):=by
 rintro pins s σ H D I ⟨vs,hvs,hlen,hq⟩
 obtain ⟨J,sJ⟩:=I.fix (λx=>(caps.map (·.1)).contains x)
 refine h pins s σ _ D J (hq _ sJ ⟨by rw [yf];exact hlen,λz hz=>?_⟩)
 obtain ⟨k,hk⟩:=ybu hz
 rw [ycb,yj] at hk
 obtain ⟨k1,k2⟩:=hk
 obtain ⟨y,hy,ey⟩:=yak.mp k1
 have my:=yy hy
 obtain ⟨c1,c2,c3⟩:=hcap y my
 rw [<-ey]
 exact I.celAt J c1 (hvs (y,z.2) (yy (by rw [ycb];exact ⟨hy,k2⟩))) (.inl c3) (List.contains_iff_mem.mpr (ybl my)) c2
end
section
variable {X:Cx} {CX:CXT} {k j:Nat} {sp:S5->Sp} {x:Str} {p pos:Pos} {e:Expr} {es:List Expr} {t:TA}
end
theorem lvS (u:List S6) (e:u.length=n+1):∃a r,u=a::r/\r.length=n:=by
 cases u with
 |nil=>cases e
 |cons a r=>exact ⟨a,r,rfl,Nat.succ.inj e⟩
theorem lv1 (u:List S6) (e:u.length=1):∃a,u= [a]:=by
 obtain ⟨a,r,rfl,z⟩:=lvS u e
 cases r with
 |nil=>exact ⟨a,rfl⟩
 |cons b r=>cases z
theorem lv2 (u:List S6) (e:u.length=2):∃a b,u= [a,b]:=by
 obtain ⟨a,r,rfl,z⟩:=lvS u e
 obtain ⟨b,rfl⟩:=lv1 r z
 exact ⟨a,b,rfl⟩
theorem lv3 (u:List S6) (e:u.length=3):∃a b c,u= [a,b,c]:=by
 obtain ⟨a,r,rfl,z⟩:=lvS u e
 obtain ⟨b,c,rfl⟩:=lv2 r z
 exact ⟨a,b,c,rfl⟩
theorem lv4 (u:List S6) (e:u.length=4):∃a b c d,u= [a,b,c,d]:=by
 obtain ⟨a,r,rfl,z⟩:=lvS u e
 obtain ⟨b,c,d,rfl⟩:=lv3 r z
 exact ⟨a,b,c,d,rfl⟩
theorem lv5 (u:List S6) (e:u.length=5):∃a b c d f,u= [a,b,c,d,f]:=by
 obtain ⟨a,r,rfl,z⟩:=lvS u e
 obtain ⟨b,c,d,f,rfl⟩:=lv4 r z
 exact ⟨a,b,c,d,f,rfl⟩
theorem lv6 (u:List S6) (e:u.length=6):∃a b c d f g,u= [a,b,c,d,f,g]:=by
 obtain ⟨a,r,rfl,z⟩:=lvS u e
 obtain ⟨b,c,d,f,g,rfl⟩:=lv5 r z
 exact ⟨a,b,c,d,f,g,rfl⟩
theorem lv7 (u:List S6) (e:u.length=7):∃a b c d f g i,u= [a,b,c,d,f,g,i]:=by
 obtain ⟨a,r,rfl,z⟩:=lvS u e
 obtain ⟨b,c,d,f,g,i,rfl⟩:=lv6 r z
 exact ⟨a,b,c,d,f,g,i,rfl⟩
section
open PySem.Builtin PySem.Builtin.Str
variable {prog:Sb} {w:Sd} {A:Se} {E:S6->S7->Prop} {s:S7} {x y:Str} {t u:Tok} {Q:S6->S7->Prop}
end
section
variable {X:Cx} {k j:Nat} {f C:S5} {fd:Sc} {ps:List Str} {sp:Sp} {R:St->XK} {m:Str} {pos apos:Pos} {o:Expr} {ta:TE}
end
section
variable {X:Cx} {a b:Expr} {rest:List Expr} {pos:Pos} {ta tb:TE}
end
section
variable {X:Cx}
end
section
variable {prog:Sb} {w:Sd} {A:Se} {E:S6->S7->Prop} {s:S7}
end
end L2
namespace L2
open PySem PySem.Spec PyProof.Rows PySem.W
section
variable {prog:Sb} {w:Sd} {K:Type} [DecidableEq K] {knd:HeapKind prog w K} {A:Se}
end
section
variable {X:Cx} {pins:List (S5×Obj)} {σ:St} {H:Hp} {s:S7}
end
end L2
namespace L2
open PySem PySem.Spec PyProof.Rows
theorem Yda {a b:Expr}:swapsWith (.BinOp a op b p) t l env=pure false:=rfl
inductive Sqt (X:Cx) (P:S5) (lb:Array (Nat×Nat×Str)) (i:Nat) (name qual:Str) (st:Sf) (caps:List Str) (t:TS) (D:Sch) (σ:St) (H:Hp):Prop where
 |mk (_:H P=some (.tbl lb)) (_:∃vs:List V,Sct X H caps vs/\∀f H',Sn H H'->H f=none->Sc4 H' f name qual st (caps.zip vs)->t D (σ.set i (some (.ref f))) H')
theorem Ya0 {X:Cx} {rest:List Sf} {t:TS} {st:Sf} {name qual:Str} {i:Nat} {c P:S5} {lb:Array (Nat×Nat×Str)} {caps:List Str}
  (n:Nst X.K f₀ c P) (B:Bmn X.mg X.base) (hcd:X.env.code= .ref c) (hst:st= .FunctionDef name (Jnw st) (Jno st) [] none [] (Jml st) none name (Jpi st))
  (hd:(Jnw st).defaults= []) (hk:(Jnw st).kw_defaults= []) (ha:annTrees (Jnw st) none X.env= []) (hq:qualnameIn X.env name name=qual) (hm:((Jpi st).line,(Jpi st).col,qual)∈lb) (hu:∀q,((Jpi st).line,(Jpi st).col,q)∈lb->q=qual)
  (hN:X.N.Nodup) (hi:X.N[i]?=some name) (hx:X.env.scope.names.lookup name=some .local)
  (hcap:∀y∈caps,(Jml st).names.lookup y=some .free)
  (hall:∀y∈(Jml st).names,y.2= .free->y.1∈caps)
  (hr:PB X rest t):PB X (st::rest) (Sqt X P lb i name qual st caps t):=by
 rintro pins s σ H D I ⟨ht,vs,⟨hlen,hvs⟩,h⟩
 have cel:∀x∈caps,∃(b:S5) (v:V),X.env.cells.lookup x=some b/\Scf H b v:=λx hx=>by
  obtain ⟨k,hk⟩:=ybu hx
  have hk':k < vs.length:=by rw [<-hlen];exact (yo.mp hk).1
  obtain ⟨b,q⟩:=hvs (x,vs[k]) (yy (by rw [ycb];exact ⟨hk,yh hk'⟩))
  exact ⟨b,_,q⟩
 have hfr:∀y∈(Jml st).names,y.2= .free->∃b,X.env.cells.lookup y.1=some b:=λy hy hyf=>by
  obtain ⟨b,v,q,_⟩:=cel y.1 (hall y hy hyf)
  exact ⟨b,q⟩
 have hin:∀x b,(Jp1 X.env.cells (Jml st).names []).lookup x=some b->X.env.cells.lookup x=some b:=λx b e=>Jpu _ [] (λx c e=>by simp at e) x b e
 refine wpAny_execs_cons ?_
 rw [hst]
 refine PySem.W.nestDef_K hd hk ha ?_
 rw [hq]
 refine Ybw I hcd (n.code I.mod.kin) B ht hm hu (Js7 hfr) λs1 f c' H1 I1 s01 hf hclo hcod=>Jtb I1 hN hi (.inl hx) (v:=.ref f) rfl (λs2 I2=>?_) (.inr hx)
 refine hr pins s2 _ _ D I2 (h f _ s01 hf ⟨_,c',hclo,hcod,λx y b h1 h2=>I.ok.inj x y b (hin x b h1) (hin y b h2),λy hy hyf=>?_,λx b z=>?_,λx v z=>?_⟩)
 ·exact ybx.mp (Jp9 (Jml st).names [] (by rw [<-hyf];exact hy) (hfr y hy hyf))
 ·obtain ⟨b',v,e1,e2⟩:=cel x (hall (x,.free) (Jq0 (Jml st).names [] z (by simp)) rfl)
  have e3:=hin _ _ z
  rw [e1] at e3;cases e3
  exact ⟨v,e2.same s01⟩
 ·obtain ⟨b,e1,e2⟩:=hvs (x,v) z
  obtain ⟨b',hb'⟩:=ybx.mp (Jp9 (Jml st).names [] (PySem.mem_of_lookup (hcap x (ybs z).1)) ⟨b,e1⟩)
  have e3:=hin _ _ hb'
  rw [e1] at e3;cases e3
  exact ⟨b,hb',e2.same s01⟩
theorem Sct.sub {X:Cx} {H:Hp} {caps ds:List Str} {vs us:List V} (h:Sct X H caps vs) (l:ds.length=us.length) (q:∀y∈ds.zip us,y∈caps.zip vs):Sct X H ds us:=⟨l,λy hy=>h.2 y (q y hy)⟩
end L2

namespace K16
open PySem L2 PyProof.Rows PySem.NumText
def top (i:Nat):Sf:=PySem.Challenge.pw_weirwatch_k16_runs_refused.main.body.getD i (.Pass ⟨0,0,0,0⟩)
set_option genInjectivity false in
structure Ad where
 Jh6:S5
 Jh7:Sc
 Jh8:S5
 Jh9:Sc
 Jha:S5
 Jhb:Sc
 Jhc:S5
 Jhd:Sc
 Jhe:S5
 Jhf:Sc
 Jhg:S5
 Jhh:Sc
 Jhi:S5
 Jhj:Sc
 Jhk:S5
 Jhl:Sc
 Jhm:S5
 Jhn:Sc
 Jho:S5
 Jhp:Sc
 Jhq:S5
 Jhr:Sc
 Jhs:S5
 Jht:Sc
 Jhu:S5
 Jhv:Sc
 Jhw:S5
 Jhx:Sc
 Jhy:S5
 Jhz:Sc
 Ji0:S5
 Ji1:Sc
 Ji2:S5
 Ji3:Sc
 Ji4:S5
 Ji5:Sc
 Ji6:S5
 Ji7:Sc
 Ji8:S5
 Ji9:Sc
 Jia:S5
 Jib:Sc
 Jic:S5
 Jid:Sc
 Jie:S5
 Jif:Sc
 Jig:S5
 Jih:Sc
 Jii:S5
 Jij:Sc
 Jik:S5
 Jil:Sc
 Jim:S5
 Jin:Sc
 Jio:S5
 Jip:Sc
 Jiq:S5
 Jir:Sc
 Jis:S5
 Jit:Sc
 Jiu:S5
 Jiv:Sc
 Jiw:S5
 Jix:Sc
 Jiy:S5
 Jiz:Sc
 Jj0:S5
 Jj1:Sc
 Jj2:S5
 Jj3:Sc
 Jj4:S5
 Jj5:Sc
 Jj6:S5
 Jj7:Sc
 Jj8:S5
 Jj9:Sc
 Jja:S5
 Jjb:Sc
 Jjc:S5
 Jjd:Sc
 Jje:S5
 Jjf:Sc
 Jjg:S5
 Jjh:Sc
 Jji:S5
 Jjj:Sc
 Jjk:S5
 Jjl:Sc
 Jjm:S5
 Jjn:Sc
 Jjo:S5
 Jjp:Sc
 Jjq:S5
 Jjr:Sc
 Jjs:S5
 Jjt:Sc
 Jju:S5
 Jjv:Sc
 Jjw:S5
 Jjx:Sc
 Jjy:S5
 Jjz:Sc
 Jk0:S5
 Jk1:Sc
 Jk2:S5
 Jk3:Sc
 Jk4:S5
 Jk5:Sc
 Jk6:S5
 Jk7:Sc
 Jk8:S5
 Jk9:Sc
 Jka:S5
 Jkb:Sc
 Jkc:S5
 Jkd:Sc
 Jke:S5
 Jkf:Sc
 Jkg:S5
 Jkh:Sc
 Jki:S5
 Jkj:Sc
 Jkk:S5
 Jkl:Sc
 Jkm:S5
 Jkn:Sc
 Jko:S5
 Jkp:Sc
 Jkq:S5
 Jkr:Sc
 Jks:S5
 Jkt:Sc
 Jku:S5
 Jkv:Sc
 Jkw:S5
 Jkx:Sc
 Jky:S5
 Jkz:Sc
 Jl0:S5
 Jl1:Sc
 Jl2:S5
 Jl3:Sc
 Jl4:S5
 Jl5:Sc
 Jl6:S5
 Jl7:Sc
 Jl8:S5
 Jl9:Sc
 Jla:S5
 Jlb:Sc
 Jlc:S5
 Jld:Sc
 Jle:S5
 Jlf:Sc
 a_law:S5
 d_law:Sc
 Jlg:Tok
 Jlh:Tok
 Jli:Tok
 Jlj:Tok
 Jlk:Tok
 Jll:Tok
 Jlm:Tok
 Jln:Tok
 Jlo:Tok
 Jlp:Tok
 Jlq:Tok
 Jlr:Tok
 Jls:S5
 Jlt:S5
 Jlu:S5
 Jlv:S5
 Jlw:S5
 Jlx:S5
 Jly:S5
 Jlz:S5
 Jm0:S5
 Jm1:S5
 Jm2:S5
 Jm3:S5
 Jm4:S5
 Jm5:S5
 Jm6:S5
 Jm7:S5
 Jm8:S5
 Jm9:S5
 Jma:S5
 Jmb:S5
 Jmc:S5
 Jmd:S5
 Jme:S5
structure Tx (K:Si) (mg:Str->Option S6) (a:Ad):Prop where
 J0:FT K mg "is_whole" (top 16) ["thing","low","high"] a.Jhq a.Jhr
 J1:FT K mg "is_made_of" (top 17) ["text","signs"] a.Jhs a.Jht
 J2:FT K mg "is_name" (top 18) ["thing"] a.Jhu a.Jhv
 J3:FT K mg "is_row" (top 20) ["thing","lows","highs"] a.Jhw a.Jhx
 J4:FT K mg "is_row_up_to" (top 21) ["thing","highs"] a.Jhy a.Jhz
 J5:FT K mg "is_pair" (top 22) ["thing"] a.Ji0 a.Ji1
 J6:FT K mg "is_standing" (top 23) ["river","thing"] a.Ji2 a.Ji3
 J7:FT K mg "is_choice" (top 24) ["river","thing"] a.Ji4 a.Ji5
 J8:FT K mg "forced_rain" (top 25) ["river","wet"] a.Ji6 a.Ji7
 J9:FT K mg "is_rain" (top 26) ["river","standing","thing"] a.Ji8 a.Ji9
 Ja:FT K mg "refuse_no_choice" (top 27) ["river","standing","choice"] a.Jia a.Jib
 Jb:FT K mg "place_drawn_from" (top 28) ["river","town"] a.Jic a.Jid
 Jc:FT K mg "draw" (top 29) ["river","standing","choice"] a.Jie a.Jif
 Jd:FT K mg "levels_left" (top 30) ["river","standing","choice","drawn"] a.Jig a.Jih
 Je:FT K mg "outs_at" (top 31) ["river","settings","levels"] a.Jii a.Jij
 Jf:FT K mg "levels_behind" (top 32) ["left","outs","rain"] a.Jik a.Jil
 Jg:FT K mg "broken_at" (top 33) ["river","levels"] a.Jim a.Jin
 Jh:FT K mg "turned" (top 35) ["river","standing","choice","rain"] a.Jis a.Jit
 Ji:FT K mg "next_turn" (top 39) ["river","standing","keeper","sky","k"] a.Jiw a.Jix
 Jj:FT K mg "run" (top 40) ["river","standing","keeper","sky","many"] a.Jiy a.Jiz
 Jk:FT K mg "are_marks" (top 45) ["thing","lowest"] a.Jj0 a.Jj1
 Jl:FT K mg "kept_marks" (top 46) ["marks","lowest"] a.Jj2 a.Jj3
 Jm:FT K mg "refuse_no_level" (top 60) ["thing","low","high"] a.Jju a.Jjv
 Jn:FT K mg "are_unlike" (top 63) ["names"] a.Jk0 a.Jk1
 Jo:FT K mg "are_basins" (top 64) ["thing"] a.Jk2 a.Jk3
 Jp:FT K mg "are_towns" (top 65) ["thing","basins"] a.Jk4 a.Jk5
 Jq:FT K mg "_law_cell" (top 68) ["_law_script","_law_k"] a.Jka a.Jkb
 Jr:FT K mg "_law_stream" (top 69) ["_law_cell_here"] a.Jkc a.Jkd
 Js:FT K mg "_law_take" (top 70) ["_law_stream_here","_law_many"] a.Jke a.Jkf
 Jt:FT K mg "_law_names" (top 71) ["_law_stream_here","_law_many"] a.Jkg a.Jkh
 Ju:FT K mg "_law_gate" (top 72) ["_law_stream_here"] a.Jki a.Jkj
 Jv:FT K mg "_law_basin" (top 73) ["_law_stream_here","_law_name"] a.Jkk a.Jkl
 Jw:FT K mg "_law_river" (top 74) ["_law_cell_here"] a.Jkm a.Jkn
 Jx:FT K mg "_law_made_gate" (top 75) ["_law_told_here"] a.Jko a.Jkp
 Jy:FT K mg "_law_made" (top 76) ["_law_told_here"] a.Jkq a.Jkr
 Jz:FT K mg "_law_standing" (top 78) ["_law_stream_here","_law_told_here"] a.Jks a.Jkt
 Ja0:FT K mg "_law_forced" (top 80) ["_law_told_here","_law_wet"] a.Jku a.Jkv
 Ja1:FT K mg "_law_raised" (top 81) ["_law_told_here","_law_wet","_law_row"] a.Jkw a.Jkx
 Ja2:FT K mg "_law_lets" (top 83) ["_law_gate_here","_law_setting","_law_level"] a.Jky a.Jkz
 Ja3:FT K mg "_law_pays" (top 84) ["_law_told_here","_law_levels","_law_town"] a.Jl0 a.Jl1
 Ja4:FT K mg "_law_turned" (top 85) ["_law_told_here","_law_standing_here","_law_choice_here","_law_rain_here"] a.Jl2 a.Jl3
 Ja5:FT K mg "_law_odd" (top 86) ["_law_stream_here","_law_told_here"] a.Jl4 a.Jl5
 Ja6:FT K mg "_law_kind" (top 87) ["_law_e"] a.Jl6 a.Jl7
 Ja7:FT K mg "_law_told" (top 88) ["_law_way","_law_told_here","_law_asked","_law_bad","_law_at"] a.Jl8 a.Jl9
 Ja8:FT K mg "_law_outcome" (top 89) ["_law_river_here","_law_standing_here","_law_some","_law_many"] a.Jla a.Jlb
 Ja9:FT K mg "_law_due" (top 90) ["_law_told_here","_law_river_here","_law_standing_here","_law_many","_law_way","_law_bad","_law_at"] a.Jlc a.Jld
 Jaa:FT K mg "_law_right" (top 91) ["_law_found","_law_asked","_law_due_here"] a.Jle a.Jlf
 f_law:FT K mg "law" (top 92) ["_law_script"] a.a_law a.d_law
 Jab:mg "LETTERS" =some (.str "abcdefghijklmnopqrstuvwxyz" a.Jlg)
 Jac:mg "MOST_LETTERS" =some (.int 8 a.Jlh)
 Jad:mg "MOST_TURNS" =some (.int 200 a.Jli)
 Jae:mg "MOST_SETTINGS" =some (.int 4 a.Jlj)
 Jaf:mg "HIGHEST_MARK" =some (.int 12 a.Jlk)
 Jag:mg "HIGHEST_LEVEL" =some (.int 1000 a.Jll)
 Jah:mg "HIGHEST" =some (.int 12 a.Jlm)
 Jai:mg "MOST_RAIN" =some (.int 6 a.Jln)
 Jaj:mg "MOST_WANT" =some (.int 6 a.Jlo)
 Jak:mg "MOST_CLOUD" =some (.int 12 a.Jlp)
 Jal:mg "MOST_BASINS" =some (.int 16 a.Jlq)
 Jam:mg "MOST_TOWNS" =some (.int 3 a.Jlr)
 Jan:mg "ValueError" =none
 Jao:mg "all" =none
 Jap:mg "bool" =none
 Jaq:mg "enumerate" =none
 Jar:mg "int" =none
 Jas:mg "isinstance" =none
 Jat:mg "len" =none
 Jau:mg "list" =none
 Jav:mg "max" =none
 Jaw:mg "min" =none
 Jax:mg "range" =none
 Jay:mg "set" =none
 Jaz:mg "str" =none
 Jb0:mg "sum" =none
 Jb1:mg "tuple" =none
 Jb2:mg "zip" =none
 Jb3:mg "WeirError" =some (.ref a.Jls)
 Jb4:mg "NoName" =some (.ref a.Jlt)
 Jb5:mg "NoGate" =some (.ref a.Jlu)
 Jb6:mg "NoBasin" =some (.ref a.Jlv)
 Jb7:mg "NoTown" =some (.ref a.Jlw)
 Jb8:mg "NoCloud" =some (.ref a.Jlx)
 Jb9:mg "NoRiver" =some (.ref a.Jly)
 Jba:mg "NoStanding" =some (.ref a.Jlz)
 Jbb:mg "NoChoice" =some (.ref a.Jm0)
 Jbc:mg "NoRain" =some (.ref a.Jm1)
 Jbd:mg "NoNumber" =some (.ref a.Jm2)
 Jbe:mg "Turn" =some (.ref a.Jm3)
 Jbf:mg "Run" =some (.ref a.Jm4)
 Jbg:mg "Gate" =some (.ref a.Jm5)
 Jbh:mg "StepGate" =some (.ref a.Jm6)
 Jbi:mg "FlapGate" =some (.ref a.Jm7)
 Jbj:mg "PartGate" =some (.ref a.Jm8)
 Jbk:mg "StuckGate" =some (.ref a.Jm9)
 Jbl:mg "Basin" =some (.ref a.Jma)
 Jbm:mg "Town" =some (.ref a.Jmb)
 Jbn:mg "River" =some (.ref a.Jmc)
 q97:Sk K (.ref a.Jlt) "__init__" =some (some (.ref a.Jh6))
 q98:Sk K (.ref a.Jlu) "__init__" =some (some (.ref a.Jh8))
 q99:Sk K (.ref a.Jlv) "__init__" =some (some (.ref a.Jha))
 Jbo:Sk K (.ref a.Jlw) "__init__" =some (some (.ref a.Jhc))
 Jbp:Sk K (.ref a.Jlx) "__init__" =some (some (.ref a.Jhe))
 Jbq:Sk K (.ref a.Jly) "__init__" =some (some (.ref a.Jhg))
 Jbr:Sk K (.ref a.Jlz) "__init__" =some (some (.ref a.Jhi))
 Jbs:Sk K (.ref a.Jm0) "__init__" =some (some (.ref a.Jhk))
 Jbt:Sk K (.ref a.Jm1) "__init__" =some (some (.ref a.Jhm))
 Jbu:Sk K (.ref a.Jm2) "__init__" =some (some (.ref a.Jho))
 Jbv:Sk K (.ref a.Jm3) "__init__" =some (some (.ref a.Jio))
 Jbw:Sk K (.ref a.Jm3) "standing" =some (some (.ref a.Jiq))
 Jbx:Sk K (.ref a.Jm4) "__init__" =some (some (.ref a.Jiu))
 Jby:Sk K (.ref a.Jm5) "lets" =some (some (.ref a.Jj4))
 Jbz:Sk K (.ref a.Jm6) "__init__" =some (some (.ref a.Jj6))
 Jc0:Sk K (.ref a.Jm6) "settings" =some (some (.ref a.Jj8))
 Jc1:Sk K (.ref a.Jm6) "passes" =some (some (.ref a.Jja))
 Jc2:Sk K (.ref a.Jm7) "__init__" =some (some (.ref a.Jjc))
 Jc3:Sk K (.ref a.Jm7) "settings" =some (some (.ref a.Jje))
 Jc4:Sk K (.ref a.Jm7) "passes" =some (some (.ref a.Jjg))
 Jc5:Sk K (.ref a.Jm8) "__init__" =some (some (.ref a.Jji))
 Jc6:Sk K (.ref a.Jm8) "settings" =some (some (.ref a.Jjk))
 Jc7:Sk K (.ref a.Jm8) "passes" =some (some (.ref a.Jjm))
 Jc8:Sk K (.ref a.Jm9) "__init__" =some (some (.ref a.Jjo))
 Jc9:Sk K (.ref a.Jm9) "settings" =some (some (.ref a.Jjq))
 Jca:Sk K (.ref a.Jm9) "passes" =some (some (.ref a.Jjs))
 Jcb:Sk K (.ref a.Jma) "__init__" =some (some (.ref a.Jjw))
 Jcc:Sk K (.ref a.Jmb) "__init__" =some (some (.ref a.Jjy))
 Jcd:Sk K (.ref a.Jmc) "__init__" =some (some (.ref a.Jk6))
 Jce:Sk K (.ref a.Jmc) "place_of" =some (some (.ref a.Jk8))
 Jcf:FM K "__init__" "NoName.__init__" (Jmw (top 3) 0) ["self","thing"] a.Jh6 a.Jh7
 Jcg:FM K "__init__" "NoGate.__init__" (Jmw (top 4) 0) ["self","thing"] a.Jh8 a.Jh9
 Jch:FM K "__init__" "NoBasin.__init__" (Jmw (top 5) 0) ["self","thing"] a.Jha a.Jhb
 Jci:FM K "__init__" "NoTown.__init__" (Jmw (top 6) 0) ["self","thing"] a.Jhc a.Jhd
 Jcj:FM K "__init__" "NoCloud.__init__" (Jmw (top 7) 0) ["self","thing"] a.Jhe a.Jhf
 Jck:FM K "__init__" "NoRiver.__init__" (Jmw (top 8) 0) ["self","thing"] a.Jhg a.Jhh
 Jcl:FM K "__init__" "NoStanding.__init__" (Jmw (top 9) 0) ["self","thing"] a.Jhi a.Jhj
 Jcm:FM K "__init__" "NoChoice.__init__" (Jmw (top 10) 0) ["self","thing"] a.Jhk a.Jhl
 Jcn:FM K "__init__" "NoRain.__init__" (Jmw (top 11) 0) ["self","thing"] a.Jhm a.Jhn
 Jco:FM K "__init__" "NoNumber.__init__" (Jmw (top 12) 0) ["self","thing"] a.Jho a.Jhp
 Jcp:FM K "__init__" "Turn.__init__" (Jmw (top 34) 0) ["self","river","standing","choice","rain"] a.Jio a.Jip
 Jcq:FM K "standing" "Turn.standing" (Jmw (top 34) 1) ["self"] a.Jiq a.Jir
 Jcr:FM K "__init__" "Run.__init__" (Jmw (top 38) 0) ["self","begin","turns"] a.Jiu a.Jiv
 Jcs:FM K "lets" "Gate.lets" (Jmw (top 48) 0) ["self","setting","level"] a.Jj4 a.Jj5
 Jct:FM K "__init__" "StepGate.__init__" (Jmw (top 49) 0) ["self","marks"] a.Jj6 a.Jj7
 Jcu:FM K "settings" "StepGate.settings" (Jmw (top 49) 1) ["self"] a.Jj8 a.Jj9
 Jcv:FM K "passes" "StepGate.passes" (Jmw (top 49) 2) ["self","setting","level"] a.Jja a.Jjb
 Jcw:FM K "__init__" "FlapGate.__init__" (Jmw (top 50) 0) ["self","marks"] a.Jjc a.Jjd
 Jcx:FM K "settings" "FlapGate.settings" (Jmw (top 50) 1) ["self"] a.Jje a.Jjf
 Jcy:FM K "passes" "FlapGate.passes" (Jmw (top 50) 2) ["self","setting","level"] a.Jjg a.Jjh
 Jcz:FM K "__init__" "PartGate.__init__" (Jmw (top 51) 0) ["self","marks"] a.Jji a.Jjj
 Jd0:FM K "settings" "PartGate.settings" (Jmw (top 51) 1) ["self"] a.Jjk a.Jjl
 Jd1:FM K "passes" "PartGate.passes" (Jmw (top 51) 2) ["self","setting","level"] a.Jjm a.Jjn
 Jd2:FM K "__init__" "StuckGate.__init__" (Jmw (top 52) 0) ["self","gate","setting"] a.Jjo a.Jjp
 Jd3:FM K "settings" "StuckGate.settings" (Jmw (top 52) 1) ["self"] a.Jjq a.Jjr
 Jd4:FM K "passes" "StuckGate.passes" (Jmw (top 52) 2) ["self","setting","level"] a.Jjs a.Jjt
 Jd5:FM K "__init__" "Basin.__init__" (Jmw (top 61) 0) ["self","name","low","high","start","rain","gate"] a.Jjw a.Jjx
 Jd6:FM K "__init__" "Town.__init__" (Jmw (top 62) 0) ["self","name","basin","want"] a.Jjy a.Jjz
 Jd7:FM K "__init__" "River.__init__" (Jmw (top 66) 0) ["self","cloud","gain","basins","towns"] a.Jk6 a.Jk7
 Jd8:FM K "place_of" "River.place_of" (Jmw (top 66) 1) ["self","name"] a.Jk8 a.Jk9
 Jd9:Sai K a.Jlt a.Jls a.Jh6
 Jda:Sai K a.Jlu a.Jls a.Jh8
 Jdb:Sai K a.Jlv a.Jls a.Jha
 Jdc:Sai K a.Jlw a.Jls a.Jhc
 Jdd:Sai K a.Jlx a.Jls a.Jhe
 Jde:Sai K a.Jly a.Jls a.Jhg
 Jdf:Sai K a.Jlz a.Jls a.Jhi
 Jdg:Jz9 K a.Jlz
 Jdh:Sai K a.Jm0 a.Jls a.Jhk
 Jdi:Jz9 K a.Jm0
 Jdj:Sai K a.Jm1 a.Jls a.Jhm
 Jdk:Jz9 K a.Jm1
 Jdl:Sai K a.Jm2 a.Jls a.Jho
 Jdm:Jz9 K a.Jm2
 Jdn:Cls K a.Jm3
 Jdo:Mk K a.Jm3 a.Jio
 Jdp:Jq8 K a.Jm3 "standing" a.Jiq
 Jdq:Cls K a.Jm4
 Jdr:Mk K a.Jm4 a.Jiu
 Jds:Cls K a.Jm6
 Jdt:Sgq K a.Jm6
 Jdu:Mk K a.Jm6 a.Jj6
 Jdv:Jq8 K a.Jm6 "lets" a.Jj4
 Jdw:Jq8 K a.Jm6 "settings" a.Jj8
 Jdx:Jq8 K a.Jm6 "passes" a.Jja
 Jdy:Cls K a.Jm7
 Jdz:Sgq K a.Jm7
 Je0:Mk K a.Jm7 a.Jjc
 Je1:Jq8 K a.Jm7 "lets" a.Jj4
 Je2:Jq8 K a.Jm7 "settings" a.Jje
 Je3:Jq8 K a.Jm7 "passes" a.Jjg
 Je4:Cls K a.Jm8
 Je5:Sgq K a.Jm8
 Je6:Mk K a.Jm8 a.Jji
 Je7:Jq8 K a.Jm8 "lets" a.Jj4
 Je8:Jq8 K a.Jm8 "settings" a.Jjk
 Je9:Jq8 K a.Jm8 "passes" a.Jjm
 Jea:Cls K a.Jm9
 Jeb:Sgq K a.Jm9
 Jec:Mk K a.Jm9 a.Jjo
 Jed:Jq8 K a.Jm9 "lets" a.Jj4
 Jee:Jq8 K a.Jm9 "settings" a.Jjq
 Jef:Jq8 K a.Jm9 "passes" a.Jjs
 Jeg:Cls K a.Jma
 Jeh:Sgq K a.Jma
 Jei:Mk K a.Jma a.Jjw
 Jej:Cls K a.Jmb
 Jek:Sgq K a.Jmb
 Jel:Mk K a.Jmb a.Jjy
 Jem:Cls K a.Jmc
 Jen:Mk K a.Jmc a.Jk6
 Jeo:Jq8 K a.Jmc "place_of" a.Jk8
 Jep:NoAttr K a.Jlt "thing"
 Jeq:NoAttr K a.Jlu "thing"
 Jer:NoAttr K a.Jlv "thing"
 Jes:NoAttr K a.Jlw "thing"
 Jet:NoAttr K a.Jlz "thing"
 Jeu:NoAttr K a.Jm0 "thing"
 Jev:NoAttr K a.Jm1 "thing"
 Jew:NoAttr K a.Jm2 "thing"
 Jex:NoAttr K a.Jm3 "choice"
 Jey:NoAttr K a.Jm3 "rain"
 Jez:NoAttr K a.Jm3 "drawn"
 Jf0:NoAttr K a.Jm3 "paid"
 Jf1:NoAttr K a.Jm3 "outs"
 Jf2:NoAttr K a.Jm3 "levels"
 Jf3:NoAttr K a.Jm3 "wet"
 Jf4:NoAttr K a.Jm3 "broken"
 Jf5:NoAttr K a.Jm4 "begin"
 Jf6:NoAttr K a.Jm4 "turns"
 Jf7:NoAttr K a.Jm6 "marks"
 Jf8:NoAttr K a.Jm7 "marks"
 Jf9:NoAttr K a.Jm8 "marks"
 Jfa:NoAttr K a.Jm9 "gate"
 Jfb:NoAttr K a.Jm9 "setting"
 Jfc:NoAttr K a.Jma "name"
 Jfd:NoAttr K a.Jma "low"
 Jfe:NoAttr K a.Jma "high"
 Jff:NoAttr K a.Jma "start"
 Jfg:NoAttr K a.Jma "rain"
 Jfh:NoAttr K a.Jma "gate"
 Jfi:NoAttr K a.Jmb "name"
 Jfj:NoAttr K a.Jmb "basin"
 Jfk:NoAttr K a.Jmb "want"
 Jfl:NoAttr K a.Jmc "cloud"
 Jfm:NoAttr K a.Jmc "gain"
 Jfn:NoAttr K a.Jmc "basins"
 Jfo:NoAttr K a.Jmc "towns"
 Jfp:Nst K a.Jl8 a.Jmd a.Jme
 Jfq:W.tabIn K "_law_told" =some (a.Jmd,a.Jme)
 tnd: [a.Jme].Nodup
 Jfr:Sj K (.ref a.Jm6) (.ref a.Jm5)=some true
 Jfs:Sj K (.ref a.Jm7) (.ref a.Jm5)=some true
 Jft:Sj K (.ref a.Jm8) (.ref a.Jm5)=some true
 Jfu:Sj K (.ref a.Jm9) (.ref a.Jm5)=some true
 Jfv:Sj K (.ref a.Jma) (.ref a.Jma)=some true
 Jfw:Sj K (.ref a.Jmb) (.ref a.Jmb)=some true
 Jfx:Sj K (.ref a.Jm6) (.type "bool")=some false
 Jfy:Sj K (.ref a.Jm7) (.type "bool")=some false
 Jfz:Sj K (.ref a.Jm8) (.type "bool")=some false
 Jg0:Sj K (.ref a.Jm9) (.type "bool")=some false
 Jg1:W.kitAny K (.ref a.Jm6) [.ref a.Jm6,.ref a.Jm7,.ref a.Jm8,.ref a.Jm9]=some true
 Jg2:W.kitAny K (.ref a.Jm7) [.ref a.Jm6,.ref a.Jm7,.ref a.Jm8,.ref a.Jm9]=some true
 Jg3:W.kitAny K (.ref a.Jm8) [.ref a.Jm6,.ref a.Jm7,.ref a.Jm8,.ref a.Jm9]=some true
 Jg4:W.kitAny K (.ref a.Jm9) [.ref a.Jm6,.ref a.Jm7,.ref a.Jm8,.ref a.Jm9]=some true
 Jg5:Sj K (.ref a.Jm6) (.ref a.Jm9)=some false
 Jg6:Sj K (.ref a.Jm7) (.ref a.Jm9)=some false
 Jg7:Sj K (.ref a.Jm8) (.ref a.Jm9)=some false
 Jg8:Sj K (.ref a.Jm2) (.ref a.Jm2)=some true
 Jg9:Sj K (.ref a.Jm2) (.ref a.Jlz)=some false
 Jga:Sj K (.ref a.Jm2) (.ref a.Jm0)=some false
 Jgb:Sj K (.ref a.Jm2) (.ref a.Jm1)=some false
 Jgc:Sj K (.ref a.Jlz) (.ref a.Jm2)=some false
 Jgd:Sj K (.ref a.Jlz) (.ref a.Jlz)=some true
 Jge:Sj K (.ref a.Jlz) (.ref a.Jm0)=some false
 Jgf:Sj K (.ref a.Jlz) (.ref a.Jm1)=some false
 Jgg:Sj K (.ref a.Jm0) (.ref a.Jm2)=some false
 Jgh:Sj K (.ref a.Jm0) (.ref a.Jlz)=some false
 Jgi:Sj K (.ref a.Jm0) (.ref a.Jm0)=some true
 Jgj:Sj K (.ref a.Jm0) (.ref a.Jm1)=some false
 Jgk:Sj K (.ref a.Jm1) (.ref a.Jm2)=some false
 Jgl:Sj K (.ref a.Jm1) (.ref a.Jlz)=some false
 Jgm:Sj K (.ref a.Jm1) (.ref a.Jm0)=some false
 Jgn:Sj K (.ref a.Jm1) (.ref a.Jm1)=some true
 Jgo:Sj K (.ref a.Jm2) (.ref a.Jls)=some true
 Jgp:Sj K (.ref a.Jlz) (.ref a.Jls)=some true
 Jgq:Sj K (.ref a.Jm0) (.ref a.Jls)=some true
 Jgr:Sj K (.ref a.Jm1) (.ref a.Jls)=some true
 Jgs:Sj K (.ref a.Jm2) (.type "ValueError")=some true
 Jgt:Sj K (.ref a.Jlz) (.type "ValueError")=some true
 Jgu:Sj K (.ref a.Jm0) (.type "ValueError")=some true
 Jgv:Sj K (.ref a.Jm1) (.type "ValueError")=some true
 Jgw:Sl K a.Jm2 (.ref a.Jm2)=some true
 Jgx:Sl K a.Jlz (.ref a.Jm2)=some false
 Jgy:Sl K a.Jlz (.ref a.Jlz)=some true
 Jgz:Sl K a.Jm0 (.ref a.Jm2)=some false
 Jh0:Sl K a.Jm0 (.ref a.Jlz)=some false
 Jh1:Sl K a.Jm0 (.ref a.Jm0)=some true
 Jh2:Sl K a.Jm1 (.ref a.Jm2)=some false
 Jh3:Sl K a.Jm1 (.ref a.Jlz)=some false
 Jh4:Sl K a.Jm1 (.ref a.Jm0)=some false
 Jh5:Sl K a.Jm1 (.ref a.Jm1)=some true
def Jo8:Int->List V->Bool
 |_,[]=>true
 |lo,.int i::r=>(decide (lo<=i)&&decide (i<=12))&&Jo8 (i+1) r
 |_,_::_=>false
def Jr2 (lo:Int) (xs:List V):Bool:=decide (1<=xs.length/\xs.length<=4)&&Jo8 lo xs
theorem Juc (lo:Int) (x:V) (r:List V):Jo8 lo (x::r)=(Jmz x lo 12&&match x with| .int i=>Jo8 (i+1) r|_=>false):=by
 cases x <;> simp [Jo8,Jmz]
inductive Sq (H:Hp):V->List V->Prop where
 |lst {p:S5} {xs:List V}:H p=some (.lst xs)->Sq H (.ref p) xs
 |tup {p:S5} {xs:List V}:H p=some (.tup xs)->Sq H (.ref p) xs
theorem Sq.same {H H':Hp} {x:V} {xs:List V} (s:Sn H H') (h:Sq H x xs):Sq H' x xs:=by
 cases h with
 |lst e=>exact .lst (s _ _ e)
 |tup e=>exact .tup (s _ _ e)
theorem Sq.ty {K:Si} {H:Hp} {x:V} {xs:List V} (h:Sq H x xs):∃t,TyX K H x t/\tpB t=true/\W.kitAny K t [.type "list",.type "tuple"]=some true:=by
 cases h with
 |lst e=>exact ⟨_,.of (.lst e),rfl,rfl⟩
 |tup e=>exact ⟨_,.of (.tup e),rfl,rfl⟩
inductive Shp (K:Si) (H:Hp) (lo:Int):V->Bool->Prop where
 |seq {x:V} {xs:List V}:Sq H x xs->(∀y∈xs,Tm K H y)->Shp K H lo x (Jr2 lo xs)
 |non {x:V} {t:S6}:TyX K H x t->W.kitAny K t [.type "list",.type "tuple"]=some false->Shp K H lo x false
inductive Sqi (K:Si) (vs:List V) (H:Hp) (Q:VK) (z3:XK):Prop where
 |mk (x:V) (lo:Int) (b:Bool) (_:vs= [x,.int lo]) (_:Shp K H lo x b) (_:∀H',Sn H H'->Q (.bl b) H')
def Rf (a:Ad) (H H':Hp) (x:V) (c:S6) (eo:Option S5):Prop:=∃e dx,c= .ref a.Jlu/\eo=some e/\Sn H H'/\H' e=some (XO e a.Jlu (some dx) false)/\H' dx=some (XD dx [("thing",x)])
theorem Rf.of {a:Ad} {H H1 H':Hp} {x:V} {c:S6} {eo:Option S5} (s:Sn H H1) (h:Rf a H1 H' x c eo):Rf a H H' x c eo:=by
 obtain ⟨e,dx,h1,h2,h3,h4,h5⟩:=h
 exact ⟨e,dx,h1,h2,s.trans h3,h4,h5⟩
theorem Rf.new {a:Ad} {H:Hp} {x:V} {e dx:S5} (h1:H e=none) (h2:H dx=none) (ne:dx≠e):Rf a H (upd (upd (upd H dx (XD dx [("thing",x)])) e (XO e a.Jlu (some dx) true)) e (XO e a.Jlu (some dx) false)) x (.ref a.Jlu) (some e):=by
 refine ⟨e,dx,rfl,rfl,?_,Sv,?_⟩
 ·rw [Joq]
  intro b o q
  rw [Jmm (Jmo q h1),Jmm (Jmo q h2)]
  exact q
 ·rw [Jmm ne,Jmm ne,Sv]
inductive Sn0 (K:Si) (a:Ad) (vs:List V) (H:Hp) (Q:VK) (E:XK):Prop where
 |mk (x:V) (lo:Int) (_:vs= [x,.int lo]) (_:((∃xs,Sq H x xs/\(∀y∈xs,Tm K H y)/\Jr2 lo xs=true/\∀t H',Sn H H'->H' t=some (.tup xs)->Q (.ref t) H')\/(Shp K H lo x false/\∀c eo H',Rf a H H' x c eo->E c eo H')))
def IsC (a:Ad) (C:S5):Prop:=C=a.Jm6\/C=a.Jm7\/C=a.Jm8
def Sbo (C:S5) (H:Hp) (g:S5) (xs:List V):Prop:=∃dx t,H g=some (.ins C dx [("marks",.ref t)])/\H t=some (.tup xs)
theorem Sbo.same {C:S5} {H H':Hp} {g:S5} {xs:List V} (s:Sn H H') (h:Sbo C H g xs):Sbo C H' g xs:=by obtain ⟨dx,t,h1,h2⟩:=h;exact ⟨dx,t,s _ _ h1,s _ _ h2⟩
inductive Jy6 (K:Si) (a:Ad) (lo:Int) (vs:List V) (H:Hp) (Q:VK) (E:XK):Prop where
 |mk (p C dx:S5) (x:V) (_:vs= [.ref p,x]) (_:H p=some (.ins C dx [])) (_:Cls K C) (_:NoAttr K C "marks") (_:((∃xs,Sq H x xs/\(∀y∈xs,Tm K H y)/\Jr2 lo xs=true/\∀t H',Sn H H'->H' t=some (.tup xs)->Q .non (upd H' p (.ins C dx [("marks",.ref t)])))\/(Shp K H lo x false/\∀c eo H',Rf a H H' x c eo->E c eo H')))
inductive Yd3 (C:S5) (vs:List V) (H:Hp) (Q:VK) (z3:XK):Prop where
 |mk (p:S5) (xs:List V) (_:vs= [.ref p]) (_:Sbo C H p xs) (_:Q (.int xs.length) H)
inductive Sqk (vs:List V) (H:Hp) (Q:VK) (z3:XK):Prop where
 |mk (x:_) (_:vs= [x]) (_:Q (.int 1) H)
inductive GS (K:Si) (a:Ad) (H:Hp):V->Nat->Prop where
 |plain {g C:S5} {xs:List V}:IsC a C->Sbo C H g xs->xs.length<=4->GS K a H (.ref g) xs.length
 |stuck {g dx:S5} {x y:V}:H g=some (.ins a.Jm9 dx [("gate",x),("setting",y)])->GS K a H (.ref g) 1
theorem GS.same {K:Si} {a:Ad} {H H':Hp} {x:V} {n:Nat} (s:Sn H H') (h:GS K a H x n):GS K a H' x n:=by
 cases h with
 |plain i g l=>exact .plain i (g.same s) l
 |stuck e=>exact .stuck (s _ _ e)
inductive Yeq (K:Si) (a:Ad) (vs:List V) (H:Hp) (Q:VK) (E:XK):Prop where
 |mk (p dx:S5) (x y:V) (_:vs= [.ref p,x,y]) (_:H p=some (.ins a.Jm9 dx [])) (_:((∃t,TyX K H x t/\Sj K t (.ref a.Jm5)=some false/\∀c eo H',Rf a H H' x c eo->E c eo H')\/(∃n,GS K a H x n/\Tm K H y/\Jmz y 0 (n - 1)=false/\∀c eo H',Rf a H H' y c eo->E c eo H')\/(∃n,GS K a H x n/\Tm K H y/\Jmz y 0 (n - 1)=true/\Q .non (upd H p (.ins a.Jm9 dx [("gate",x),("setting",y)])))))
def Knd (z:Str):Prop:=z=("step" :Str)\/z=("flap" :Str)\/z=("part" :Str)
def Jpj (z:Str):Int:=if z=("part" :Str) then 1 else 0
def cOf (a:Ad) (z:Str):S5:=if z=("step" :Str) then a.Jm6 else if z=("flap" :Str) then a.Jm7 else a.Jm8
theorem Ybp {a:Ad} {z:Str}:IsC a (cOf a z):=by
 unfold cOf
 split
 ·exact .inl rfl
 ·split
  ·exact .inr (.inl rfl)
  ·exact .inr (.inr rfl)
theorem Jui:¬(("part" :Str)="step"):=by decide +kernel
theorem Juh:¬(("part" :Str)="flap"):=by decide +kernel
theorem Jug:¬(("flap" :Str)="step"):=by decide +kernel
theorem Sq2:¬(("flap" :Str)="part"):=by decide +kernel
theorem Sq4:¬(("step" :Str)="part"):=by decide +kernel
theorem Ybc {x y:Str} (h:¬x=y):¬V.str x=V.str y:=λe=>h (V.str.inj e)
def LET:Str:="abcdefghijklmnopqrstuvwxyz"
def Jwt (g z:Str):Bool:=z.cps.toList.all λc=>decide (c∈g.cps.toList)
def Jrd (z:Str):Bool:=decide (1<=z.length/\z.length<=8)&&Jwt LET z
structure Wd (n:Nat) (z:Str):Prop where
 len:z.length<=n
 low:∀c∈z.cps.toList,c < 128
theorem Yt (z:Str):z.cps.toList.length=z.length:=Array.length_toList
theorem Ya8:∀ys:List Str,(∀y∈ys,Wd 1 y)->(ys.map (·.length)).sum<=ys.length
 | [],_=>yl _
 |y::r,h=>by
  have h1:=(h y yan).len
  have ih:=Ya8 r λz hz=>h z (yac _ hz)
  simp only [ybq,ybp,yai]
  omega
theorem Jzb {g:Str} {r:Int} (h0:0<=r) (h1:r < g.length):∃c,c∈g.cps.toList/\atI g.cps.toList r=some c:=by
 obtain ⟨n,rfl⟩:=ybg h0
 have hn:n < g.cps.toList.length:=by rw [Yt];omega
 exact ⟨g.cps.toList[n],yba hn,Jpc (yh hn)⟩
theorem So1 {z:Str} {n:Nat} (h:(decide (z.length<=n)&&z.cps.toList.all (λc=>decide (c < 128)))=true):Wd n z:=by
 rw [yx] at h
 exact ⟨of_decide_eq_true h.1,λc hc=>of_decide_eq_true (yar.mp h.2 c hc)⟩
theorem So0:Wd 26 LET:=So1 (by decide +kernel)
def Jpn:V->Bool
 | .str z=>Jrd z
 |_=>false
def Nmd (K:Si) (H:Hp) (x:V):Prop:=Tm K H x/\∀z,x= .str z->Wd 50 z
inductive Sn4 (vs:List V) (H:Hp) (Q:VK) (z3:XK):Prop where
 |mk (z g:Str) (_:vs= [.str z,.str g]) (_:z.length<=2000) (_:∀H',Sn H H'->Q (.bl (Jwt g z)) H')
inductive Sn5 (K:Si) (vs:List V) (H:Hp) (Q:VK) (z3:XK):Prop where
 |mk (x:V) (_:vs= [x]) (_:Nmd K H x) (_:∀H',Sn H H'->Q (.bl (Jpn x)) H')
def RfC (C:S5) (H H':Hp) (x:V) (c:S6) (eo:Option S5):Prop:=∃e dx,c= .ref C/\eo=some e/\Sn H H'/\H' e=some (XO e C (some dx) false)/\H' dx=some (XD dx [("thing",x)])
theorem RfC.of {C:S5} {H H1 H':Hp} {x:V} {c:S6} {eo:Option S5} (s:Sn H H1) (h:RfC C H1 H' x c eo):RfC C H H' x c eo:=by
 obtain ⟨e,dx,h1,h2,h3,h4,h5⟩:=h
 exact ⟨e,dx,h1,h2,s.trans h3,h4,h5⟩
theorem RfC.new {C:S5} {H:Hp} {x:V} {e dx:S5} (h1:H e=none) (h2:H dx=none) (ne:dx≠e):RfC C H (upd (upd (upd H dx (XD dx [("thing",x)])) e (XO e C (some dx) true)) e (XO e C (some dx) false)) x (.ref C) (some e):=by
 refine ⟨e,dx,rfl,rfl,?_,Sv,?_⟩
 ·rw [Joq]
  intro b o q
  rw [Jmm (Jmo q h1),Jmm (Jmo q h2)]
  exact q
 ·rw [Jmm ne,Jmm ne,Sv]
inductive Yb9 (K:Si) (a:Ad) (vs:List V) (H:Hp) (Q:VK) (E:XK):Prop where
 |mk (x:V) (lo hi:Int) (_:vs= [x,.int lo,.int hi]) (_:Tm K H x) (_:((Jmz x lo hi=true/\Q .non H)\/(Jmz x lo hi=false/\∀c eo H',RfC a.Jlv H H' x c eo->E c eo H')))
inductive Due (n lo hi st rn g:V) (gb:Bool):Option (Nat×V)->Prop
 |name:Jpn n=false->Due n lo hi st rn g gb (some (0,n))
 |low:Jpn n=true->Jmz lo 0 12=false->Due n lo hi st rn g gb (some (1,lo))
 |high (l:Int):Jpn n=true->lo= .int l->Jmz lo 0 12=true->Jmz hi l 12=false->Due n lo hi st rn g gb (some (1,hi))
 |start (l h:Int):Jpn n=true->lo= .int l->hi= .int h->Jmz lo 0 12=true->Jmz hi l 12=true->Jmz st l h=false->Due n lo hi st rn g gb (some (1,st))
 |rain (l h:Int):Jpn n=true->lo= .int l->hi= .int h->Jmz lo 0 12=true->Jmz hi l 12=true->Jmz st l h=true->Jmz rn 0 6=false->Due n lo hi st rn g gb (some (1,rn))
 |gate (l h:Int):Jpn n=true->lo= .int l->hi= .int h->Jmz lo 0 12=true->Jmz hi l 12=true->Jmz st l h=true->Jmz rn 0 6=true->gb=false->Due n lo hi st rn g gb (some (2,g))
 |good (l h:Int):Jpn n=true->lo= .int l->hi= .int h->Jmz lo 0 12=true->Jmz hi l 12=true->Jmz st l h=true->Jmz rn 0 6=true->gb=true->Due n lo hi st rn g gb none
theorem Jp3 {x:V} {lo hi:Int} (h:Jmz x lo hi=true):∃i,x= .int i:=by
 cases x with
 |int i=>exact ⟨i,rfl⟩
 |_=>cases h
inductive Sia (n b wt:V):Option (Nat×V)->Prop
 |name:Jpn n=false->Sia n b wt (some (0,n))
 |basin:Jpn n=true->Jpn b=false->Sia n b wt (some (0,b))
 |want:Jpn n=true->Jpn b=true->Jmz wt 1 6=false->Sia n b wt (some (3,wt))
 |good:Jpn n=true->Jpn b=true->Jmz wt 1 6=true->Sia n b wt none
def Suc (a:Ad):Nat->S5
 |0=>a.Jlt
 |1=>a.Jlv
 |2=>a.Jlu
 |_=>a.Jlw
def GtI (K:Si) (a:Ad) (H:Hp) (g:V) (gb:Bool):Prop:=∃t,TyX K H g t/\Sj K t (.ref a.Jm5)=some gb/\W.kitAny K t [.ref a.Jm6,.ref a.Jm7,.ref a.Jm8,.ref a.Jm9]=some gb/\
 ∃b,Sj K t (.type "bool")=some b/\(gb=true->b=false)/\t≠ .type "float"
def Slw (n lo hi st rn g:V):List (Str×V):=[("name",n),("low",lo),("high",hi),("start",st),("rain",rn),("gate",g)]
def twnF (n b wt:V):List (Str×V):=[("name",n),("basin",b),("want",wt)]
def Sjp (a:Ad) (d:Option (Nat×V)) (H:Hp) (E:XK) (G:Prop):Prop:=match d with
 |none=>G
 |some (k,x)=>∀c eo H',RfC (Suc a k) H H' x c eo->E c eo H'
inductive Yeo (K:Si) (a:Ad) (vs:List V) (H:Hp) (Q:VK) (E:XK):Prop where
 |mk (p dx:S5) (n lo hi st rn g:V) (gb:Bool) (d:Option (Nat×V)) (_:vs= [.ref p,n,lo,hi,st,rn,g]) (_:H p=some (.ins a.Jma dx [])) (_:Nmd K H n) (_:Tm K H lo) (_:Tm K H hi) (_:Tm K H st) (_:Tm K H rn) (_:GtI K a H g gb) (_:Due n lo hi st rn g gb d) (_:Sjp a d H E (∀H',Sn H H'->Q .non (upd H' p (.ins a.Jma dx (Slw n lo hi st rn g)))))
inductive Snf (K:Si) (a:Ad) (vs:List V) (H:Hp) (Q:VK) (E:XK):Prop where
 |mk (p dx:S5) (n b wt:V) (d:Option (Nat×V)) (_:vs= [.ref p,n,b,wt]) (_:H p=some (.ins a.Jmb dx [])) (_:Nmd K H n) (_:Nmd K H b) (_:Tm K H wt) (_:Sia n b wt d) (_:Sjp a d H E (∀H',Sn H H'->Q .non (upd H' p (.ins a.Jmb dx (twnF n b wt)))))
theorem Nmd.same {K:Si} {H H':Hp} {x:V} (s:Sn H H') (h:Nmd K H x):Nmd K H' x:=⟨h.1.same s,h.2⟩
theorem Jte {K:Si} {H H':Hp} {x:V} {t:S6} (s:Sn H H') (h:TyX K H x t):TyX K H' x t:=h.same (λb o _ q=>s b o q) (λb fs q=>s b _ q)
theorem GtI.same {K:Si} {a:Ad} {H H':Hp} {g:V} {gb:Bool} (s:Sn H H') (h:GtI K a H g gb):GtI K a H' g gb:=by obtain ⟨t,ty,r⟩:=h;exact ⟨t,Jte s ty,r⟩
theorem Snw {K:Si} {H:Hp} {x:V} {t:S6} (h:TyX K H x t) (e:t= .type "str"):∃z,x= .str z:=by
 cases h with
 |exc=>cases e
 |of ty=>
  cases ty with
  |str z=>exact ⟨z,rfl⟩
  |ins=>cases e
  |non=>exact absurd (Value.type.inj e) (by decide)
  |bl=>exact absurd (Value.type.inj e) (by decide)
  |int=>exact absurd (Value.type.inj e) (by decide)
  |flt=>exact absurd (Value.type.inj e) (by decide)
  |lst=>exact absurd (Value.type.inj e) (by decide)
  |frz=>exact absurd (Value.type.inj e) (by decide)
  |tup=>exact absurd (Value.type.inj e) (by decide)
  |dK=>exact absurd (Value.type.inj e) (by decide)
  |dT=>exact absurd (Value.type.inj e) (by decide)
structure Bsn where
 z:Str
 lo:Int
 hi:Int
 st:Int
 rn:Int
 g:V
 n:Nat
def Sbv (K:Si) (a:Ad) (H:Hp) (o:S5) (B:Bsn):Prop:=∃dx,H o=some (.ins a.Jma dx (Slw (.str B.z) (.int B.lo) (.int B.hi) (.int B.st) (.int B.rn) B.g))/\GS K a H B.g B.n
theorem Sbv.same {K:Si} {a:Ad} {H H':Hp} {o:S5} {B:Bsn} (s:Sn H H') (h:Sbv K a H o B):Sbv K a H' o B:=by obtain ⟨dx,h1,h2⟩:=h;exact ⟨dx,s _ _ h1,h2.same s⟩
structure Twn where
 z:Str
 b:Str
 wt:Int
def Sbr (a:Ad) (H:Hp) (o:S5) (B:Twn):Prop:=∃dx,H o=some (.ins a.Jmb dx (twnF (.str B.z) (.str B.b) (.int B.wt)))
theorem Sbr.same {a:Ad} {H H':Hp} {o:S5} {B:Twn} (s:Sn H H') (h:Sbr a H o B):Sbr a H' o B:=by obtain ⟨dx,h1⟩:=h;exact ⟨dx,s _ _ h1⟩
def Sca (K:Si) (a:Ad) (H:Hp):List S5->List Bsn->Prop
 | [],[]=>True
 |o::os,B::Bs=>Sbv K a H o B/\Sca K a H os Bs
 |_,_=>False
def Sc0 (a:Ad) (H:Hp):List S5->List Twn->Prop
 | [],[]=>True
 |o::os,B::Bs=>Sbr a H o B/\Sc0 a H os Bs
 |_,_=>False
theorem Sca.same {K:Si} {a:Ad} {H H':Hp} (s:Sn H H'):∀{os:List S5} {Bs:List Bsn},Sca K a H os Bs->Sca K a H' os Bs:=by
 intro os
 induction os with
 |nil=>
  intro Bs h
  cases Bs with
  |nil=>exact True.intro
  |cons B Bs=>exact False.elim h
 |cons o os ih=>
  intro Bs h
  cases Bs with
  |nil=>exact False.elim h
  |cons B Bs=>exact ⟨(yao h).same s,ih (yap h)⟩
theorem Sc0.same {a:Ad} {H H':Hp} (s:Sn H H'):∀{os:List S5} {Bs:List Twn},Sc0 a H os Bs->Sc0 a H' os Bs:=by
 intro os
 induction os with
 |nil=>
  intro Bs h
  cases Bs with
  |nil=>exact True.intro
  |cons B Bs=>exact False.elim h
 |cons o os ih=>
  intro Bs h
  cases Bs with
  |nil=>exact False.elim h
  |cons B Bs=>exact ⟨(yao h).same s,ih (yap h)⟩
theorem Sca.len {K:Si} {a:Ad} {H:Hp} {os:List S5}:∀{Bs:List Bsn},Sca K a H os Bs->os.length=Bs.length:=by
 induction os with
 |nil=>
  intro Bs h
  cases Bs with
  |nil=>rfl
  |cons B Bs=>exact h.elim
 |cons o os ih=>
  intro Bs h
  cases Bs with
  |nil=>exact h.elim
  |cons B Bs=>rw [yai,yai,ih h.2]
theorem Sc0.len {a:Ad} {H:Hp} {os:List S5}:∀{Bs:List Twn},Sc0 a H os Bs->os.length=Bs.length:=by
 induction os with
 |nil=>
  intro Bs h
  cases Bs with
  |nil=>rfl
  |cons B Bs=>exact h.elim
 |cons o os ih=>
  intro Bs h
  cases Bs with
  |nil=>exact h.elim
  |cons B Bs=>rw [yai,yai,ih h.2]
theorem Sca.get {K:Si} {a:Ad} {H:Hp}:∀{os:List S5} {Bs:List Bsn} {i:Nat} {v:V},Sca K a H os Bs->(os.map V.ref)[i]?=some v->∃o B,v= .ref o/\Bs[i]?=some B/\Sbv K a H o B:=by
 intro os
 induction os with
 |nil=>intro Bs i v h e;simp at e
 |cons o os ih=>
  intro Bs i v h e
  cases Bs with
  |nil=>exact False.elim h
  |cons B Bs=>
   cases i with
   |zero=>exact ⟨o,B,by simpa using e.symm,rfl,yao h⟩
   |succ i=>exact ih (Bs:=Bs) (i:=i) (yap h) (by simpa using e)
theorem Sc0.get {a:Ad} {H:Hp}:∀{os:List S5} {Bs:List Twn} {i:Nat} {v:V},Sc0 a H os Bs->(os.map V.ref)[i]?=some v->∃o B,v= .ref o/\Bs[i]?=some B/\Sbr a H o B:=by
 intro os
 induction os with
 |nil=>intro Bs i v h e;simp at e
 |cons o os ih=>
  intro Bs i v h e
  cases Bs with
  |nil=>exact False.elim h
  |cons B Bs=>
   cases i with
   |zero=>exact ⟨o,B,by simpa using e.symm,rfl,yao h⟩
   |succ i=>exact ih (Bs:=Bs) (i:=i) (yap h) (by simpa using e)
inductive Yd7 (K:Si) (vs:List V) (H:Hp) (Q:VK) (z3:XK):Prop where
 |mk (l:S5) (zs:List Str) (_:vs= [.ref l]) (_:Sy K H l (zs.map V.str)) (_:zs.length<=2000) (_:∀H',Sn H H'->Q (.bl (decide ((uq zs).length=zs.length))) H')
inductive Ycu (K:Si) (a:Ad) (vs:List V) (H:Hp) (Q:VK) (z3:XK):Prop where
 |mk (l:S5) (os:List S5) (Bs:List Bsn) (_:vs= [.ref l]) (_:H l=some (.lst (os.map V.ref))) (_:Sca K a H os Bs) (_:(1<=Bs.length/\Bs.length<=16)) (_:(Bs.map (·.z)).Nodup) (_:∀H',Sn H H'->Q (.bl true) H')
inductive Yf1 (K:Si) (a:Ad) (vs:List V) (H:Hp) (Q:VK) (z3:XK):Prop where
 |mk (l m:S5) (os ts:List S5) (Bs:List Bsn) (Ts:List Twn) (_:vs= [.ref m,.ref l]) (_:H l=some (.lst (os.map V.ref))) (_:Sca K a H os Bs) (_:Bs.length<=16) (_:H m=some (.lst (ts.map V.ref))) (_:Sc0 a H ts Ts) (_:Ts.length<=3) (_:(Ts.map (·.z)).Nodup) (_:(∀t∈Ts,t.b∈Bs.map (·.z))) (_:∀H',Sn H H'->Q (.bl true) H')
section
variable {P:Sb} {w:Sd} {K:Si} {mg:Str->Option S6} {base:Sg} {a:Ad}
theorem Jsp:Jmp ["self","thing"] ["self","thing"] (Jml (Jmw (top 4) 0)):=⟨rfl,rfl,rfl,by decide +kernel,rfl,by decide +kernel,by decide +kernel⟩
theorem Jp5 (T:Tx K mg a):Sx P w K mg base CX0 1 a.Jh8 a.Jh9 ["self","thing"] (Jpk K "thing"):=by
 refine T.Jcg.fn.ok Jsp (λvs H Q E h=>?_) (λcdv A outer s H vs Q E hr h=>?_)
 ·obtain ⟨e,C,W,fI,y,rfl,_⟩:=h
  rfl
 ·obtain ⟨e,C,W,fI,y,rfl,q,c,n,k⟩:=h
  refine ⟨_,(Jmk (Jph (pv 0) (pv 1) rfl)),?_⟩
  exact ⟨_,rfl,_,rfl,e,C,W,fI,true,rfl,q,c,n,k⟩
theorem Jz0:Jmp ["thing","low","high"] ["thing","low","high"] (Jml (top 16)):=⟨rfl,rfl,rfl,by decide +kernel,rfl,by decide +kernel,by decide +kernel⟩
theorem Jnz (T:Tx K mg a):Sx P w K mg base CX0 1 a.Jhq a.Jhr ["thing","low","high"] (Yf3 K):=by
 refine T.J0.fn.ok Jz0 (λvs H Q E h=>?_) (λcdv A outer s H vs Q E hr h=>?_)
 ·obtain ⟨x,lo,hi,rfl,_⟩:=h
  rfl
 ·obtain ⟨x,lo,hi,rfl,tm,k⟩:=h
  refine ⟨_,(Jmi (Jn6 (PW.pt (Jt6 (Jnb (Jmq Jnq (by rfl) T.Jas Jmx (So (pv 0) (So (Joc (v:=.ty "bool") (by rfl) T.Jap Juv rfl) Ss)))) (Jrn (Jn7 (Jnb (Jmq Jnq (by rfl) T.Jas Jmx (So (pv 0) (So (Joc (v:=.ty "int") (by rfl) T.Jar Jsc rfl) Ss)))))))) (Jmk (Jms Joi)) Jmu)
   (Jmk (Jms (Jw0 Jq4 Jq4 (pv 1) (pv 0) (pv 2))))),?_⟩
  rcases tm with ⟨i,rfl⟩|⟨t,ty,ht⟩
  ·refine ⟨_,rfl,_,_,_,_,_,rfl,rfl,.of (.int i),(by rfl:Sj K (.type "int") (.type "bool")=some false),_,rfl,Jni ⟨_,rfl,_,_,_,_,_,rfl,rfl,.of (.int i),(by rfl:Sj K (.type "int") (.type "int")=some true),_,rfl,Jni ?_⟩⟩
   refine ⟨_,rfl,_,rfl,_,_,rfl,rfl,_,rfl,?_⟩
   have k':Q (.bl (decide (lo<=i)&&decide (i<=hi))) H:=k
   by_cases h1:lo<=i
   ·rw [decide_eq_true h1] at k'⊢
    exact Jnr ⟨_,rfl,_,_,rfl,rfl,by simpa using k'⟩
   ·rw [decide_eq_false h1] at k'⊢
    exact Jni (by simpa using k')
  ·rw [Yv ty ht] at k
   have e:=Ydf (K:=K) ht
   cases eb:(t== .type "bool") with
   |true=>
    rw [eb] at e
    exact ⟨_,rfl,_,_,_,_,_,rfl,rfl,ty,e.2,_,rfl,Jnr (Jnr k)⟩
   |false=>
    rw [eb] at e
    exact ⟨_,rfl,_,_,_,_,_,rfl,rfl,ty,e.2,_,rfl,Jni ⟨_,rfl,_,_,_,_,_,rfl,rfl,ty,e.1,_,rfl,Jnr k⟩⟩
theorem Sbt:Jmp ["thing","lowest","least","mark"] ["thing","lowest"] (Jml (top 45)):=⟨rfl,rfl,rfl,by decide +kernel,rfl,by decide +kernel,by decide +kernel⟩
theorem Jxk (T:Tx K mg a):Sx P w K mg base CX0 2 a.Jj0 a.Jj1 ["thing","lowest"] (Sqi K):=by
 have Sz:=Jnz (P:=P) (w:=w) (base:=base) T
 refine T.Jk.fn.ok Sbt (λvs H Q E h=>?_) (λcdv A outer s H vs Q E hr h=>?_)
 ·obtain ⟨x,lo,b,rfl,_⟩:=h
  rfl
 ·obtain ⟨x,lo,b,rfl,sh,k⟩:=h
  refine ⟨_,(Jmi (Jn6 (Jn7 (Jnb (Jmq Jvb (by rfl) T.Jas Jmx (So (pv 0) (So (Jnx (So (Joc (v:=.ty "list") (by rfl) T.Jau Jpd rfl) (So (Joc (v:=.ty "tuple") (by rfl) T.Jb1 Jnk rfl) Ss))) Ss))))) (Jmk (Jms Joi)) Jmu)
   (Jmi (Jn6 (Jn7 (Jt4 Jq4 Jq4 Sw (Jmq Jn8 (by rfl) T.Jat Jof (So (pv 0) Ss)) (Jns (by rfl) T.Jae (v:=.int 4) ⟨_,rfl⟩))) (Jmk (Jms Joi)) Jmu)
   (Jmi (Jmt (i:=2) Sbt.nd rfl (ye rfl) (pv 1))
   (Jmi (Jqb PassesOwn.never rfl (Sms (pv 0)) (Jmr (i:=3) Sbt.nd rfl (ye rfl)) (Jmi (Jn6 (Jn7 (Jnb (Jmn T.J0 Sz hr (by decide) (So (pv 3) (So (pv 2) (So (Jns (by rfl) T.Jaf (v:=.int 12) ⟨_,rfl⟩) Ss)))))) (Jmk (Jms Joi)) Jmu)
    (Jmk (Jmt (i:=2) Sbt.nd rfl (ye rfl) (Jn0 Jnp (pv 3) Sw)))))
   (Jmk (Jms Joi)))))),?_⟩
  cases sh with
  | @non t ty e=>
   refine ⟨_,rfl,(show 2<=Sa by decide),λp hp=>⟨_,p,_,_,t,_,rfl,Sv,rfl,ty.same (λb o _ q=>Sn.upd hp b o q) (λb fs q=>Sn.upd hp b _ q),e,_,rfl,Jnr (k _ (Sn.upd hp))⟩⟩
  | @seq xs sq tms=>
   obtain ⟨t,ty,_,e⟩:=sq.ty (K:=K)
   refine ⟨_,rfl,(show 2<=Sa by decide),λp hp=>⟨_,p,_,_,t,_,rfl,Sv,rfl,ty.same (λb o _ q=>Sn.upd hp b o q) (λb fs q=>Sn.upd hp b _ q),e,_,rfl,Jni ?_⟩⟩
   have s1:=Sn.upd (o:=.tup [.ty "list",.ty "tuple"]) hp
   have sq1:=sq.same s1
   obtain ⟨q,rfl⟩:∃q,x= .ref q:=by cases sq <;> exact ⟨_,rfl⟩
   have len:Sy K (upd H p (.tup [.ty "list",.ty "tuple"])) q xs\/SqT K (upd H p (.tup [.ty "list",.ty "tuple"])) q xs:=by
    cases sq1 with
    |lst e=>exact .inl (Sy.of e)
    |tup e=>exact .inr (SqT.of e)
   refine ⟨_,rfl,q,xs,rfl,len,_,_,rfl,rfl,_,rfl,?_⟩
   have no:Jr2 lo xs=false->∀H',Sn H H'->Q (.bl false) H':=λz H' s'=>by
    have:=k H' s'
    rw [z] at this
    exact this
   by_cases h1:(1:Int)<=(xs.length:Int)
   ·rw [decide_eq_true h1]
    refine Jnr ⟨_,_,rfl,rfl,_,rfl,?_⟩
    by_cases h2:(xs.length:Int)<=4
    ·rw [decide_eq_true h2]
     refine Jni ⟨_,rfl,?_⟩
     have lz:decide (1<=xs.length/\xs.length<=4)=true:=decide_eq_true (by omega)
     have ar:Jr2 lo xs=Jo8 lo xs:=by unfold Jr2;rw [lz,ybm]
     refine ⟨_,rfl,q,rfl,Ye0 (xs:=xs) (λi σ H'=>∃(l:Int) (o:Option V),σ= [some (.ref q),some (.int lo),some (.int l),o]/\H'=upd H p (.tup [.ty "list",.ty "tuple"])/\Jo8 lo xs=Jo8 l (xs.drop i)) ⟨lo,_,rfl,rfl,rfl⟩ ?_ ?_ ?_⟩
     ·rcases len with z|z
      ·exact .inl λi σ H' _ ⟨_,_,_,e,_⟩=>by rw [e];exact z
      ·exact .inr λi σ H' _ ⟨_,_,_,e,_⟩=>by rw [e];exact z
     ·rintro i y σ H' hy ⟨l,o,rfl,rfl,em⟩
      have hd:xs.drop i=y::xs.drop (i+1):=by
       obtain ⟨hi,rfl⟩:=yo.mp hy
       exact List.drop_eq_getElem_cons hi
      refine ⟨_,rfl,_,rfl,y,l,12,rfl,(tms y (yy hy)).same s1,_,rfl,?_⟩
      cases z:Jmz y l 12 with
      |false=>
       refine Jnr (no ?_ _ s1)
       rw [ar,em,hd,Juc,z,yav]
      |true=>
       rw [hd,Juc,z,ybm] at em
       cases y with
       |int i'=>exact Jni ⟨_,rfl,_,_,rfl,rfl,i'+1,_,rfl,rfl,em⟩
       |_=>cases z
     ·rintro σ H' ⟨l,o,rfl,rfl,em⟩
      have e:Jr2 lo xs=true:=by rw [ar,em,List.drop_of_length_le (yl _)];rfl
      have:=k _ s1
      rw [e] at this
      exact this
    ·rw [decide_eq_false h2]
     refine Jnr (no ?_ _ s1)
     unfold Jr2
     rw [decide_eq_false (by omega:¬(1<=xs.length/\xs.length<=4)),yav]
   ·rw [decide_eq_false h1]
    refine Jni ⟨_,rfl,Jnr (no ?_ _ s1)⟩
    unfold Jr2
    rw [decide_eq_false (by omega:¬(1<=xs.length/\xs.length<=4)),yav]
theorem Jwn:Jmp ["marks","lowest"] ["marks","lowest"] (Jml (top 46)):=⟨rfl,rfl,rfl,by decide +kernel,rfl,by decide +kernel,by decide +kernel⟩
theorem Jq9 (T:Tx K mg a):Sx P w K mg base (CXX P w) 3 a.Jj2 a.Jj3 ["marks","lowest"] (Sn0 K a):=by
 have Sgi:=Jxk (P:=P) (w:=w) (base:=base) T
 have Sa7:=Jp5 (P:=P) (w:=w) (base:=base) T
 refine T.Jl.fn.okX Jwn (λvs H Q E h=>?_) (λcdv A outer s H vs Q E hr h=>?_)
 ·obtain ⟨x,lo,rfl,_⟩:=h
  rfl
 ·obtain ⟨x,lo,rfl,h⟩:=h
  refine ⟨_,(Jmi (Jn6 (Jn7 (Jnb (Jmn T.Jk Sgi hr (by decide) (So (pv 0) (So (pv 1) Ss))))) (Jmk (Jnl Jnn rfl (Jo4 T.Jda Sa7 hr (by decide) T.Jcg.bd T.Jb5 (So (pv 0) Ss)))) Jmu)
   (Jmk (Jms (Jn3 Jn5 (by rfl) T.Jb1 Jnk (So (pv 0) Ss))))),?_⟩
  rcases h with ⟨xs,sq,tms,e,k⟩|⟨sh,k⟩
  ·have sh:=Shp.seq (lo:=lo) sq tms
   rw [e] at sh
   refine ⟨_,rfl,_,rfl,x,lo,true,rfl,sh,λH1 s1=>⟨_,rfl,Jni ?_⟩⟩
   cases sq with
   |lst e=>exact ⟨_,rfl,_,xs,rfl,.inl ⟨Sy.of (s1 _ _ e),λl hl=>k l _ (s1.trans (Sn.upd hl)) Sv⟩⟩
   |tup e=>exact ⟨_,rfl,_,xs,rfl,.inr ⟨SqT.of (s1 _ _ e),k _ _ s1 (s1 _ _ e)⟩⟩
  ·exact ⟨_,rfl,_,rfl,x,lo,false,rfl,sh,λH1 s1=>⟨_,rfl,Jnr (Jny T.Jda T.Jeq rfl λe dx h1 h2 h3=>k _ _ _ ((Rf.new h1 h2 h3).of s1))⟩⟩
theorem Jru:Jmp ["self","marks"] ["self","marks"] (Jml (Jmw (top 49) 0)):=⟨rfl,rfl,rfl,by decide +kernel,rfl,by decide +kernel,by decide +kernel⟩
theorem Jtw (T:Tx K mg a):Sx P w K mg base (CXX P w) 4 a.Jj6 a.Jj7 ["self","marks"] (Jy6 K a 0):=by
 have Sb9:=Jq9 (P:=P) (w:=w) (base:=base) T
 refine T.Jct.fn.okX Jru (λvs H Q E h=>?_) (λcdv A outer s H vs Q E hr h=>?_)
 ·obtain ⟨p,C,dx,x,rfl,_⟩:=h
  rfl
 ·obtain ⟨p,C,dx,x,rfl,hp,c,n,h⟩:=h
  refine ⟨_,(Jmk (Jnv (pv 0) (Joj T.Jl Sb9 Jnn hr (by decide) (So (pv 1) (So Sw Ss))) rfl)),?_⟩
  rcases h with ⟨xs,sq,tms,e,k⟩|⟨sh,k⟩
  ·exact ⟨_,rfl,x,0,rfl,.inl ⟨xs,sq,tms,e,λt H' s' ht=>⟨_,rfl,p,C,dx,[],rfl,s' _ _ hp,c,n,by simp,k t H' s' ht⟩⟩⟩
  ·exact ⟨_,rfl,x,0,rfl,.inr ⟨sh,k⟩⟩
theorem Jrv:Jmp ["self"] ["self"] (Jml (Jmw (top 49) 1)):=⟨rfl,rfl,rfl,by decide +kernel,rfl,by decide +kernel,by decide +kernel⟩
theorem Jrh (T:Tx K mg a):Sx P w K mg base CX0 1 a.Jj8 a.Jj9 ["self"] (Yd3 a.Jm6):=by
 refine T.Jcu.fn.ok Jrv (λvs H Q E h=>?_) (λcdv A outer s H vs Q E hr h=>?_)
 ·obtain ⟨p,xs,rfl,_⟩:=h
  rfl
 ·obtain ⟨p,xs,rfl,⟨dx,t,h1,h2⟩,k⟩:=h
  refine ⟨_,(Jmk (Jms (Jmq Jn8 (by rfl) T.Jat Jof (So (Jnh (pv 0) (by rfl)) Ss)))),?_⟩
  exact ⟨_,rfl,p,_,dx,_,_,rfl,h1,T.Jds,T.Jf7,rfl,t,xs,rfl,.inr (SqT.of h2),k⟩
theorem Jro:Jmp ["self","marks"] ["self","marks"] (Jml (Jmw (top 50) 0)):=⟨rfl,rfl,rfl,by decide +kernel,rfl,by decide +kernel,by decide +kernel⟩
theorem Jtu (T:Tx K mg a):Sx P w K mg base (CXX P w) 4 a.Jjc a.Jjd ["self","marks"] (Jy6 K a 0):=by
 have Sb9:=Jq9 (P:=P) (w:=w) (base:=base) T
 refine T.Jcw.fn.okX Jro (λvs H Q E h=>?_) (λcdv A outer s H vs Q E hr h=>?_)
 ·obtain ⟨p,C,dx,x,rfl,_⟩:=h
  rfl
 ·obtain ⟨p,C,dx,x,rfl,hp,c,n,h⟩:=h
  refine ⟨_,(Jmk (Jnv (pv 0) (Joj T.Jl Sb9 Jnn hr (by decide) (So (pv 1) (So Sw Ss))) rfl)),?_⟩
  rcases h with ⟨xs,sq,tms,e,k⟩|⟨sh,k⟩
  ·exact ⟨_,rfl,x,0,rfl,.inl ⟨xs,sq,tms,e,λt H' s' ht=>⟨_,rfl,p,C,dx,[],rfl,s' _ _ hp,c,n,by simp,k t H' s' ht⟩⟩⟩
  ·exact ⟨_,rfl,x,0,rfl,.inr ⟨sh,k⟩⟩
theorem Jrp:Jmp ["self"] ["self"] (Jml (Jmw (top 50) 1)):=⟨rfl,rfl,rfl,by decide +kernel,rfl,by decide +kernel,by decide +kernel⟩
theorem Jre (T:Tx K mg a):Sx P w K mg base CX0 1 a.Jje a.Jjf ["self"] (Yd3 a.Jm7):=by
 refine T.Jcx.fn.ok Jrp (λvs H Q E h=>?_) (λcdv A outer s H vs Q E hr h=>?_)
 ·obtain ⟨p,xs,rfl,_⟩:=h
  rfl
 ·obtain ⟨p,xs,rfl,⟨dx,t,h1,h2⟩,k⟩:=h
  refine ⟨_,(Jmk (Jms (Jmq Jn8 (by rfl) T.Jat Jof (So (Jnh (pv 0) (by rfl)) Ss)))),?_⟩
  exact ⟨_,rfl,p,_,dx,_,_,rfl,h1,T.Jdy,T.Jf8,rfl,t,xs,rfl,.inr (SqT.of h2),k⟩
theorem Jrs:Jmp ["self","marks"] ["self","marks"] (Jml (Jmw (top 51) 0)):=⟨rfl,rfl,rfl,by decide +kernel,rfl,by decide +kernel,by decide +kernel⟩
theorem Jtv (T:Tx K mg a):Sx P w K mg base (CXX P w) 4 a.Jji a.Jjj ["self","marks"] (Jy6 K a 1):=by
 have Sb9:=Jq9 (P:=P) (w:=w) (base:=base) T
 refine T.Jcz.fn.okX Jrs (λvs H Q E h=>?_) (λcdv A outer s H vs Q E hr h=>?_)
 ·obtain ⟨p,C,dx,x,rfl,_⟩:=h
  rfl
 ·obtain ⟨p,C,dx,x,rfl,hp,c,n,h⟩:=h
  refine ⟨_,(Jmk (Jnv (pv 0) (Joj T.Jl Sb9 Jnn hr (by decide) (So (pv 1) (So Sw Ss))) rfl)),?_⟩
  rcases h with ⟨xs,sq,tms,e,k⟩|⟨sh,k⟩
  ·exact ⟨_,rfl,x,1,rfl,.inl ⟨xs,sq,tms,e,λt H' s' ht=>⟨_,rfl,p,C,dx,[],rfl,s' _ _ hp,c,n,by simp,k t H' s' ht⟩⟩⟩
  ·exact ⟨_,rfl,x,1,rfl,.inr ⟨sh,k⟩⟩
theorem Jrt:Jmp ["self"] ["self"] (Jml (Jmw (top 51) 1)):=⟨rfl,rfl,rfl,by decide +kernel,rfl,by decide +kernel,by decide +kernel⟩
theorem Jrg (T:Tx K mg a):Sx P w K mg base CX0 1 a.Jjk a.Jjl ["self"] (Yd3 a.Jm8):=by
 refine T.Jd0.fn.ok Jrt (λvs H Q E h=>?_) (λcdv A outer s H vs Q E hr h=>?_)
 ·obtain ⟨p,xs,rfl,_⟩:=h
  rfl
 ·obtain ⟨p,xs,rfl,⟨dx,t,h1,h2⟩,k⟩:=h
  refine ⟨_,(Jmk (Jms (Jmq Jn8 (by rfl) T.Jat Jof (So (Jnh (pv 0) (by rfl)) Ss)))),?_⟩
  exact ⟨_,rfl,p,_,dx,_,_,rfl,h1,T.Je4,T.Jf9,rfl,t,xs,rfl,.inr (SqT.of h2),k⟩
theorem Jr6:Jmp ["self"] ["self"] (Jml (Jmw (top 52) 1)):=⟨rfl,rfl,rfl,by decide +kernel,rfl,by decide +kernel,by decide +kernel⟩
theorem Jr4 (T:Tx K mg a):Sx P w K mg base CX0 1 a.Jjq a.Jjr ["self"] Sqk:=by
 refine T.Jd3.fn.ok Jr6 (λvs H Q E h=>?_) (λcdv A outer s H vs Q E hr h=>?_)
 ·obtain ⟨x,rfl,_⟩:=h
  rfl
 ·obtain ⟨x,rfl,k⟩:=h
  refine ⟨_,(Jmk (Jms Sw)),?_⟩
  exact k
theorem Jot {j:Nat} {σ:L2.St} {H:Hp} {x:V} {n:Nat} {Q:VK} (T:Tx K mg a) (g:GS K a H x n) (k:Q (.int n) H) (hj:1<=j):
  ∃g' C dx fs f fd ps sp k',x= .ref g'/\H g'=some (.ins C dx fs)/\fs.lookup ("settings" :Str)=none/\Cls K C/\Jq8 K C "settings" f/\Sx P w K mg base CX0 k' f fd ps sp/\k'<=j/\Sbg K fd ps []/\Jus σ H λvs H2=>sp (x::vs) H2 Q E0:=by
 cases g with
 | @plain g C xs i ga l=>
  obtain ⟨dx,t,h1,h2⟩:=ga
  rcases i with rfl|rfl|rfl
  ·exact ⟨g,_,dx,_,_,_,_,_,_,rfl,h1,rfl,T.Jds,T.Jdw,Jrh T,hj,T.Jcu.bd,g,xs,rfl,⟨dx,t,h1,h2⟩,k⟩
  ·exact ⟨g,_,dx,_,_,_,_,_,_,rfl,h1,rfl,T.Jdy,T.Je2,Jre T,hj,T.Jcx.bd,g,xs,rfl,⟨dx,t,h1,h2⟩,k⟩
  ·exact ⟨g,_,dx,_,_,_,_,_,_,rfl,h1,rfl,T.Je4,T.Je8,Jrg T,hj,T.Jd0.bd,g,xs,rfl,⟨dx,t,h1,h2⟩,k⟩
 | @stuck g dx x y h1=>exact ⟨g,_,dx,_,_,_,_,_,_,rfl,h1,rfl,T.Jea,T.Jee,Jr4 T,hj,T.Jd3.bd,_,rfl,k⟩
theorem GS.ty {H:Hp} {x:V} {n:Nat} (T:Tx K mg a) (g:GS K a H x n):∃t,TyX K H x t/\Sj K t (.ref a.Jm5)=some true:=by
 cases g with
 |plain i ga l=>
  obtain ⟨dx,t,h1,h2⟩:=ga
  rcases i with rfl|rfl|rfl
  ·exact ⟨_,.of (T.Jdt.ty T.Jds h1),T.Jfr⟩
  ·exact ⟨_,.of (T.Jdz.ty T.Jdy h1),T.Jfs⟩
  ·exact ⟨_,.of (T.Je5.ty T.Je4 h1),T.Jft⟩
 |stuck h1=>exact ⟨_,.of (T.Jeb.ty T.Jea h1),T.Jfu⟩
theorem Sup (x y:V):Jo3 ("setting" :Str) y [(("gate" :Str),x)]= [(("gate" :Str),x),(("setting" :Str),y)]:=by
 have h:¬(("gate" :Str)="setting"):=by decide +kernel
 simp [Jo3,h]
theorem Jr5:Jmp ["self","gate","setting"] ["self","gate","setting"] (Jml (Jmw (top 52) 0)):=⟨rfl,rfl,rfl,by decide +kernel,rfl,by decide +kernel,by decide +kernel⟩
theorem Jsz (T:Tx K mg a):Sx P w K mg base (CXX P w) 4 a.Jjo a.Jjp ["self","gate","setting"] (Yeq K a):=by
 have Sz:=Jnz (P:=P) (w:=w) (base:=base) T
 have Sa7:=Jp5 (P:=P) (w:=w) (base:=base) T
 refine T.Jd2.fn.okX Jr5 (λvs H Q E h=>?_) (λcdv A outer s H vs Q E hr h=>?_)
 ·obtain ⟨p,dx,x,y,rfl,_⟩:=h
  rfl
 ·obtain ⟨p,dx,x,y,rfl,hp,h⟩:=h
  refine ⟨_,(Jmi (Jn6 (Jn7 (Jnb (Jmq Jnq (by rfl) T.Jas Jmx (So (pv 1) (So (Jns (by rfl) T.Jbg (v:=.ref _) rfl) Ss))))) (Jmk (Jnl Jnn rfl (Jo4 T.Jda Sa7 hr (by decide) T.Jcg.bd T.Jb5 (So (pv 1) Ss)))) Jmu)
   (Jmi (Jn6 (Jn7 (Jnb (Jmn T.J0 Sz hr (by decide) (So (pv 2) (So Sw (So (Jn0 Jo9 (Ju2 (pv 1) hr) Sw) Ss)))))) (Jmk (Jnl Jnn rfl (Jo4 T.Jda Sa7 hr (by decide) T.Jcg.bd T.Jb5 (So (pv 2) Ss)))) Jmu)
   (Jmi (Jnv (pv 0) (pv 1) rfl)
   (Jmk (Jnv (pv 0) (pv 2) rfl))))),?_⟩
  rcases h with ⟨t,ty,e,k⟩|⟨n,g,tm,e,k⟩|⟨n,g,tm,e,k⟩
  ·exact ⟨_,rfl,x,_,_,t,_,rfl,rfl,ty,e,_,rfl,Jnr (Jny T.Jda T.Jeq rfl λe dx h1 h2 h3=>k _ _ _ (Rf.new h1 h2 h3))⟩
  ·obtain ⟨t,ty,et⟩:=g.ty T
   refine ⟨_,rfl,x,_,_,t,_,rfl,rfl,ty,et,_,rfl,Jni ⟨_,rfl,_,rfl,Jot T g ⟨_,_,rfl,rfl,y,0,(n:Int) - 1,rfl,tm,_,rfl,?_⟩ (by decide)⟩⟩
   rw [e]
   exact Jnr (Jny T.Jda T.Jeq rfl λe dx h1 h2 h3=>k _ _ _ (Rf.new h1 h2 h3))
  ·obtain ⟨t,ty,et⟩:=g.ty T
   refine ⟨_,rfl,x,_,_,t,_,rfl,rfl,ty,et,_,rfl,Jni ⟨_,rfl,_,rfl,Jot T g ⟨_,_,rfl,rfl,y,0,(n:Int) - 1,rfl,tm,_,rfl,?_⟩ (by decide)⟩⟩
   rw [e]
   refine Jni ⟨_,rfl,_,rfl,p,_,dx,[],rfl,hp,T.Jea,T.Jfa,by simp,_,rfl,_,rfl,p,_,dx,_,rfl,Sv,T.Jea,T.Jfb,by simp [Jo3],?_⟩
   show Q .non _
   rw [Joq]
   exact Sup x y▸k
theorem Jz1:Jmp ["_law_script","_law_k"] ["_law_script","_law_k"] (Jml (top 68)):=⟨rfl,rfl,rfl,by decide +kernel,rfl,by decide +kernel,by decide +kernel⟩
theorem Jyo (T:Tx K mg a):Sx P w K mg base CX0 1 a.Jka a.Jkb ["_law_script","_law_k"] (Smx K):=by
 refine T.Jq.fn.ok Jz1 (λvs H Q E h=>?_) (λcdv A outer s H vs Q E hr h=>?_)
 ·obtain ⟨x,ns,i,rfl,_⟩:=h
  rfl
 ·obtain ⟨x,ns,i,rfl,hS,k⟩:=h
  refine ⟨_,(Jmi (Jn6 (Jna Skm (pv 1) (Jmq Jn8 (by rfl) T.Jat Jof (So (pv 0) Ss)) (Jn4 _)) (Jmk (Jms (Jmv Jnc (pv 0) (pv 1) (λ_ _=>rfl)))) Jmu)
   (Jmk (Jms (Jn0 Jnp (Jn0 Jrj Sw (pv 1)) Sw)))),?_⟩
  refine ⟨_,rfl,_,rfl,x,_,rfl,.inl hS,_,_,rfl,rfl,_,rfl,Sm9 (λq=>?_) (λq=>?_)⟩
  ·have hi:i < ns.length:=by
    have q':=of_decide_eq_true q
    rw [yf] at q'
    omega
   exact ⟨_,rfl,_,rfl,x,_,_,_,rfl,rfl,hS,Jpf hi,k _⟩
  ·exact ⟨_,rfl,_,_,rfl,rfl,.inl ⟨by decide,by decide⟩,_,_,rfl,rfl,k _⟩
theorem Jwp:Jmp ["_law_cell_here"] ["_law_cell_here"] (Jml (top 69)):=⟨rfl,rfl,rfl,by decide +kernel,rfl,by decide +kernel,by decide +kernel⟩
theorem Jsa (T:Tx K mg a):Sx P w K mg base CX0 1 a.Jkc a.Jkd ["_law_cell_here"] Yd4:=by
 refine T.Jr.fn.ok Jwp (λvs H Q E h=>?_) (λcdv A outer s H vs Q E hr h=>?_)
 ·obtain ⟨c,rfl,_⟩:=h
  rfl
 ·obtain ⟨c,rfl,k⟩:=h
  refine ⟨_,(Jmk (Jms (Jnt (So (Jmq (Jp8 rfl) (by rfl) T.Jav Jsd (So Sw (So (Jn0 Jo9 (pv 0) (Jn0 Yce Sw Sw)) Ss))) (So (Jn0 Jri (pv 0) Sw) (So Sw Ss)))))),?_⟩
  refine ⟨_,rfl,_,_,rfl,rfl,⟨by decide,by decide,by decide⟩,_,_,rfl,rfl,_,_,rfl,_,rfl,_,_,rfl,rfl,(by show (0:Int) < 2147483647;decide),Jps _ (by show 3<=2000;decide),λp hp=>?_⟩
  exact k p _ hp (Sn.upd hp) ⟨_,_,_,Sv⟩
theorem Sc8:Jmp ["_law_stream_here","_law_many","_law_digit","_law_number"] ["_law_stream_here","_law_many"] (Jml (top 70)):=⟨rfl,rfl,rfl,by decide +kernel,rfl,by decide +kernel,by decide +kernel⟩
theorem Jon (T:Tx K mg a):Sx P w K mg base CX0 1 a.Jke a.Jkf ["_law_stream_here","_law_many"] Snd:=by
 refine T.Js.fn.ok Sc8 (λvs H Q E h=>?_) (λcdv A outer s H vs Q E hr h=>?_)
 ·obtain ⟨p,m,rfl,_⟩:=h
  rfl
 ·obtain ⟨p,m,rfl,⟨a0,b0,c0,hp⟩,hm,hl,k⟩:=h
  refine ⟨_,(Jmi (Jqa (Jn0 Jnp (Jmv Jnc (pv 0) Sw (λ_ _=>rfl)) Sw) (Ju3 (pv 0) Sw Jpx))
   (Jmi (Jn6 (Jna Jvy (Jmv Jnc (pv 0) Sw (λ_ _=>rfl)) Sw (Jn4 _)) (Jmi (Jmt (i:=2) Sc8.nd rfl (ye rfl) (Jn0 Jri (Jmv Jnc (pv 0) Sw (λ_ _=>rfl)) (pv 1)))
    (Jmi (Jqa (Jn0 Jt0 (Jmv Jnc (pv 0) Sw (λ_ _=>rfl)) (pv 1)) (Ju3 (pv 0) Sw Jpx))
    (Jmk (Jms (pv 2))))) Jmu)
   (Jmi (Jmt (i:=3) Sc8.nd rfl (ye rfl) (Jn0 Jri (Jn0 Jrj (Jn0 Jnp (Jmv Jnc (pv 0) Sw (λ_ _=>rfl)) (Jn0 Jrj Sw (Jmv Jnc (pv 0) Sw (λ_ _=>rfl)))) Sw) Sw))
   (Jmi (Jmt (i:=3) Sc8.nd rfl (ye rfl) (Jn0 Jri (Jn0 Jrj (pv 3) (pv 3)) Sw))
   (Jmk (Jms (Jn0 Jri (Jn0 Jt0 (Jn0 Jri (Jn0 Jnp (Jn0 Jrj (pv 3) (Jn0 Jnp (pv 3) Sw)) (Jn0 Jrj Sw (Jmv Jnc (pv 0) Sw (λ_ _=>rfl)))) Sw) Sw) (pv 1)))))))),?_⟩
  refine ⟨_,rfl,p,_,_,_,rfl,rfl,Sy.of hp,rfl,_,_,rfl,rfl,_,rfl,p,_,_,_,rfl,rfl,hp,rfl,?_⟩
  refine ⟨_,rfl,p,_,_,_,rfl,rfl,Sy.of Sv,rfl,_,_,rfl,rfl,_,rfl,Sm9 (λ_=>?_) (λ_=>?_)⟩
  ·refine ⟨_,rfl,p,_,_,_,rfl,rfl,Sy.of Sv,rfl,_,rfl,_,_,rfl,rfl,hm,?_⟩
   refine ⟨_,rfl,p,_,_,_,rfl,rfl,Sy.of Sv,rfl,_,rfl,_,_,rfl,rfl,⟨hm,hl⟩,_,rfl,p,_,_,_,rfl,rfl,Sv,rfl,?_⟩
   refine ⟨_,rfl,k _ _ (Int.emod_nonneg _ (by omega)) (Int.emod_lt_of_pos _ hm) ⟨λb o ne e=>?_,_,_,_,Sv⟩⟩
   rw [Jmm ne,Jmm ne]
   exact e
  ·refine ⟨_,rfl,p,_,_,_,rfl,rfl,Sy.of Sv,rfl,_,rfl,p,_,_,_,rfl,rfl,Sy.of Sv,rfl,_,_,rfl,rfl,.inl ⟨by decide,by decide⟩,_,_,rfl,rfl,_,_,rfl,rfl,.inr ⟨by decide,by decide⟩,_,_,rfl,rfl,(by show (0:Int) < 2147483629;decide),?_⟩
   have n1:∀x:Int,-(2^64) < x%2147483629/\x%2147483629 < 2^64:=λx=>by
    have h1:=Int.emod_nonneg x (show (2147483629:Int)≠0 by decide)
    have h2:=Int.emod_lt_of_pos x (show (0:Int) < 2147483629 by decide)
    constructor <;> omega
   have n2:∀x:Int,-(2^64) < x%2147483587/\x%2147483587 < 2^64:=λx=>by
    have h1:=Int.emod_nonneg x (show (2147483587:Int)≠0 by decide)
    have h2:=Int.emod_lt_of_pos x (show (0:Int) < 2147483587 by decide)
    constructor <;> omega
   refine ⟨_,rfl,_,rfl,_,_,rfl,rfl,.inl (n1 _),_,_,rfl,rfl,(by show (0:Int) < 2147483587;decide),?_⟩
   refine ⟨_,rfl,_,rfl,_,_,rfl,rfl,_,_,rfl,rfl,.inl (n2 _),_,rfl,p,_,_,_,rfl,rfl,Sy.of Sv,rfl,_,_,rfl,rfl,.inl ⟨by decide,by decide⟩,_,_,rfl,rfl,_,_,rfl,rfl,(by show (0:Int) < 2147483647;decide),_,_,rfl,rfl,⟨by decide,by decide⟩,_,rfl,_,_,rfl,rfl,hm,?_⟩
   refine k _ _ (Int.emod_nonneg _ (by omega)) (Int.emod_lt_of_pos _ hm) ⟨λb o ne e=>?_,_,_,_,Sv⟩
   rw [Jmm ne]
   exact e
theorem Jsq:Jmp ["self","thing"] ["self","thing"] (Jml (Jmw (top 3) 0)):=⟨rfl,rfl,rfl,by decide +kernel,rfl,by decide +kernel,by decide +kernel⟩
theorem Jrf (T:Tx K mg a):Sx P w K mg base CX0 1 a.Jh6 a.Jh7 ["self","thing"] (Jpk K "thing"):=by
 refine T.Jcf.fn.ok Jsq (λvs H Q E h=>?_) (λcdv A outer s H vs Q E hr h=>?_)
 ·obtain ⟨e,C,W,fI,y,rfl,_⟩:=h
  rfl
 ·obtain ⟨e,C,W,fI,y,rfl,q,c,n,k⟩:=h
  refine ⟨_,(Jmk (Jph (pv 0) (pv 1) rfl)),?_⟩
  exact ⟨_,rfl,_,rfl,e,C,W,fI,true,rfl,q,c,n,k⟩
theorem Js2:Jmp ["self","thing"] ["self","thing"] (Jml (Jmw (top 5) 0)):=⟨rfl,rfl,rfl,by decide +kernel,rfl,by decide +kernel,by decide +kernel⟩
theorem Jum (T:Tx K mg a):Sx P w K mg base CX0 1 a.Jha a.Jhb ["self","thing"] (Jpk K "thing"):=by
 refine T.Jch.fn.ok Js2 (λvs H Q E h=>?_) (λcdv A outer s H vs Q E hr h=>?_)
 ·obtain ⟨e,C,W,fI,y,rfl,_⟩:=h
  rfl
 ·obtain ⟨e,C,W,fI,y,rfl,q,c,n,k⟩:=h
  refine ⟨_,(Jmk (Jph (pv 0) (pv 1) rfl)),?_⟩
  exact ⟨_,rfl,_,rfl,e,C,W,fI,true,rfl,q,c,n,k⟩
theorem Jss:Jmp ["self","thing"] ["self","thing"] (Jml (Jmw (top 6) 0)):=⟨rfl,rfl,rfl,by decide +kernel,rfl,by decide +kernel,by decide +kernel⟩
theorem Jvr (T:Tx K mg a):Sx P w K mg base CX0 1 a.Jhc a.Jhd ["self","thing"] (Jpk K "thing"):=by
 refine T.Jci.fn.ok Jss (λvs H Q E h=>?_) (λcdv A outer s H vs Q E hr h=>?_)
 ·obtain ⟨e,C,W,fI,y,rfl,_⟩:=h
  rfl
 ·obtain ⟨e,C,W,fI,y,rfl,q,c,n,k⟩:=h
  refine ⟨_,(Jmk (Jph (pv 0) (pv 1) rfl)),?_⟩
  exact ⟨_,rfl,_,rfl,e,C,W,fI,true,rfl,q,c,n,k⟩
theorem Jwm:Jmp ["text","signs"] ["text","signs"] (Jml (top 17)):=⟨rfl,rfl,rfl,by decide +kernel,rfl,by decide +kernel,by decide +kernel⟩
theorem Jwg (T:Tx K mg a):Sx P w K mg base CX0 1 a.Jhs a.Jht ["text","signs"] Sn4:=by
 refine T.J1.fn.ok Jwm (λvs H Q E h=>?_) (λcdv A outer s H vs Q E hr h=>?_)
 ·obtain ⟨z,g,rfl,_⟩:=h
  rfl
 ·obtain ⟨z,g,rfl,hz,k⟩:=h
  refine ⟨_,(Jmk (Jms (Jmq (Jra rfl) (by rfl) T.Jao Jva (So (Jng (N:=(["sign","signs"]:List Str)) (ini:=[none,some 1]) rfl (Smt (pv 0)) (λ_ _ _ _ _=>(Jmr (i:=0) (by decide +kernel:(["sign","signs"]:List Str).Nodup) rfl (ye rfl))) (λ_ _ _ _ _=>Jnf) (λ_ _ _ _ _=>(Jo1 Yay (pv 0) (pv 1) (by with_unfolding_all rfl)))) Ss)))),?_⟩
  refine ⟨_,rfl,z,rfl,λD hD=>?_⟩
  refine Ybs (z:=z) (D:=D) (λi σ H'=>∃o,σ= [o,some (.str g)]/\H'=upd H D (.lst ((z.cps.toList.take i).map λc=>V.bl (decide (c∈g.cps.toList))))) ?_ ?_ ?_
  ·exact ⟨none,rfl,rfl⟩
  ·rintro i c σ H' hc ⟨o,rfl,rfl⟩
   refine Jo7 ⟨_,rfl,_,rfl,⟨#[c]⟩,g,rfl,rfl,_,Sv,?_,_,rfl,?_⟩
   ·rw [yf,yz,Yt]
    exact Jne (by omega)
   ·rw [Joq,StrLaws.found_one]
    have e:z.cps.toList[i]?=some c:=by simpa using hc
    rw [yag,e]
    simp
  ·rintro σ H' ⟨o,rfl,rfl⟩
   have e:z.cps.toList.take z.cps.size=z.cps.toList:=yaf (by simp)
   refine ⟨D,z.cps.toList.map λc=>decide (c∈g.cps.toList),rfl,Sy.of (by rw [Sv,e,ybb];rfl),?_⟩
   have e2:(z.cps.toList.map λc=>decide (c∈g.cps.toList)).all id=Jwt g z:=by
    unfold Jwt
    rw [List.all_map]
    rfl
   rw [e2]
   exact k _ (Sn.upd hD)
theorem Ye7 {H:Hp} {x:V} (h:Tm K H x) (n:∀z,x≠ .str z):∃t,TyX K H x t/\Sj K t (.type "str")=some false:=by
 rcases h with ⟨i,rfl⟩|⟨t,ty,ht⟩
 ·exact ⟨_,.of (.int i),rfl⟩
 ·refine ⟨t,ty,?_⟩
  unfold tpB at ht
  simp only [List.contains_cons,List.contains_nil,Bool.or_false,Bool.or_eq_true,beq_iff_eq] at ht
  rcases ht with rfl|rfl|rfl|rfl|rfl|rfl
  ·rfl
  ·obtain ⟨z,e⟩:=Snw ty rfl
   exact absurd e (n z)
  ·rfl
  ·rfl
  ·rfl
  ·rfl
theorem Y0:Jmp ["thing"] ["thing"] (Jml (top 18)):=⟨rfl,rfl,rfl,by decide +kernel,rfl,by decide +kernel,by decide +kernel⟩
theorem Jvt (T:Tx K mg a):Sx P w K mg base CX0 2 a.Jhu a.Jhv ["thing"] (Sn5 K):=by
 have Sfz:=Jwg (P:=P) (w:=w) (base:=base) T
 refine T.J2.fn.ok Y0 (λvs H Q E h=>?_) (λcdv A outer s H vs Q E hr h=>?_)
 ·obtain ⟨x,rfl,_⟩:=h
  rfl
 ·obtain ⟨x,rfl,nm,k⟩:=h
  refine ⟨_,(Jmi (Jn6 (Jn7 (Jnb (Jmq Jnq (by rfl) T.Jas Jmx (So (pv 0) (So (Joc (v:=.ty "str") (by rfl) T.Jaz Sm0 rfl) Ss))))) (Jmk (Jms Joi)) Jmu)
   (Jmk (Jms (Jsk (Jw0 Jq4 Jq4 Sw (Jmq Jxb (by rfl) T.Jat Jof (So (pv 0) Ss)) (Jns (by rfl) T.Jac (v:=.int 8) ⟨_,rfl⟩)) (Jsl (Jmn T.J1 Sfz hr (by decide) (So (pv 0) (So (Jns (by rfl) T.Jab (v:=.str "abcdefghijklmnopqrstuvwxyz") ⟨_,rfl⟩) Ss)))))))),?_⟩
  by_cases hx:∃z,x= .str z
  ·obtain ⟨z,rfl⟩:=hx
   have k:∀H',Sn H H'->Q (.bl (Jrd z)) H':=k
   have hz:z.length<=2000:=by have:=(nm.2 z rfl).len;omega
   refine ⟨_,rfl,_,_,_,_,_,rfl,rfl,.of (.str z),(by rfl:Sj K (.type "str") (.type "str")=some true),_,rfl,Jni ?_⟩
   refine ⟨_,rfl,z,rfl,Jps _ hz,_,_,rfl,rfl,_,rfl,?_⟩
   have no:¬(1<=z.length/\z.length<=8)->Q (.bl false) H:=λq=>by
    have k':=k H (Sn.refl H)
    unfold Jrd at k'
    rw [decide_eq_false q,yav] at k'
    exact k'
   by_cases h1:(1:Int)<=(z.length:Int)
   ·rw [decide_eq_true h1]
    refine Jnr ⟨_,_,rfl,rfl,_,rfl,?_⟩
    by_cases h2:(z.length:Int)<=8
    ·rw [decide_eq_true h2]
     refine Jnr ⟨_,rfl,z,_,rfl,hz,λH' s'=>?_⟩
     have e:Jrd z=Jwt LET z:=by
      unfold Jrd
      rw [decide_eq_true (by omega:1<=z.length/\z.length<=8),ybm]
     have k':=k H' s'
     rw [e] at k'
     exact k'
    ·rw [decide_eq_false h2]
     exact Jni (no (by omega))
   ·rw [decide_eq_false h1]
    exact Jni ⟨_,rfl,Jni (no (by omega))⟩
  ·obtain ⟨t,ty,e1⟩:=Ye7 nm.1 λz e=>hx ⟨z,e⟩
   have k':=k H (Sn.refl H)
   have e:Jpn x=false:=by
    cases x with
    |str z=>exact absurd ⟨z,rfl⟩ hx
    |_=>rfl
   rw [e] at k'
   exact ⟨_,rfl,_,_,_,_,_,rfl,rfl,ty,e1,_,rfl,Jnr k'⟩
theorem Jsv:Jmp ["thing","low","high"] ["thing","low","high"] (Jml (top 60)):=⟨rfl,rfl,rfl,by decide +kernel,rfl,by decide +kernel,by decide +kernel⟩
theorem Jsj (T:Tx K mg a):Sx P w K mg base (CXX P w) 3 a.Jju a.Jjv ["thing","low","high"] (Yb9 K a):=by
 have Sz:=Jnz (P:=P) (w:=w) (base:=base) T
 have Sdi:=Jum (P:=P) (w:=w) (base:=base) T
 refine T.Jm.fn.okX Jsv (λvs H Q E h=>?_) (λcdv A outer s H vs Q E hr h=>?_)
 ·obtain ⟨x,lo,hi,rfl,_⟩:=h
  rfl
 ·obtain ⟨x,lo,hi,rfl,tm,h⟩:=h
  refine ⟨_,(Jmk (Jn6 (Jn7 (Jnb (Jmn T.J0 Sz hr (by decide) (So (pv 0) (So (pv 1) (So (pv 2) Ss)))))) (Jmk (Jnl Jnn rfl (Jo4 T.Jdb Sdi hr (by decide) T.Jch.bd T.Jb6 (So (pv 0) Ss)))) Jmu)),?_⟩
  refine ⟨_,rfl,_,rfl,_,rfl,x,lo,hi,rfl,tm,_,rfl,?_⟩
  rcases h with ⟨e,k⟩|⟨e,k⟩
  ·rw [e]
   exact Jni k
  ·rw [e]
   exact Jnr (Jny T.Jdb T.Jer rfl λe dx h1 h2 h3=>k _ _ _ (RfC.new h1 h2 h3))
theorem Jnu {f:Str} {v:V}:∀{fs:List (Str×V)},(fs.map (·.1)).contains f=false->Jo3 f v fs=fs++ [(f,v)]
 | [],_=>rfl
 | (g,x) :: r,h=>by
  rw [ybq,List.contains_cons,Bool.or_eq_false_iff] at h
  have ne:¬g=f:=λe=>by
   have:=h.1
   rw [e] at this
   simp at this
  show (if g=f then (g,v)::r else (g,x)::Jo3 f v r)=_
  rw [if_neg ne,Jnu h.2]
  rfl
theorem Jt8:Jmp ["self","name","low","high","start","rain","gate"] ["self","name","low","high","start","rain","gate"] (Jml (Jmw (top 61) 0)):=⟨rfl,rfl,rfl,by decide +kernel,rfl,by decide +kernel,by decide +kernel⟩
theorem Jwd (T:Tx K mg a):Sx P w K mg base (CXX P w) 4 a.Jjw a.Jjx ["self","name","low","high","start","rain","gate"] (Yeo K a):=by
 have Sd2:=Jvt (P:=P) (w:=w) (base:=base) T
 have Sat:=Jsj (P:=P) (w:=w) (base:=base) T
 have Sas:=Jrf (P:=P) (w:=w) (base:=base) T
 have Sa7:=Jp5 (P:=P) (w:=w) (base:=base) T
 refine T.Jd5.fn.okX Jt8 (λvs H Q E h=>?_) (λcdv A outer s H vs Q E hr h=>?_)
 ·obtain ⟨p,dx,n,lo,hi,st,rn,g,gb,d,rfl,_⟩:=h
  rfl
 ·obtain ⟨p,dx,n,lo,hi,st,rn,g,gb,d,rfl,hp,nm,tlo,thi,tst,trn,gt,du,k⟩:=h
  refine ⟨?t,?B,?C⟩
  case B=>
   refine' Jmi (Jn6 (Jn7 (Jnb (Jmn T.J2 Sd2 hr (by decide) (So (pv 1) Ss)))) (Jmk (Jnl Jnn rfl (Jo4 T.Jd9 Sas hr (by decide) T.Jcf.bd T.Jb4 (So (pv 1) Ss)))) Jmu) ?_
   rotate_left
   refine' Jmi (Jom (Joj T.Jm Sat Jnn hr (by decide) (So (pv 2) (So Sw (So (Jns (by rfl) T.Jah (v:=.int 12) ⟨_,rfl⟩) Ss))))) ?_
   rotate_left
   refine' Jmi (Jom (Joj T.Jm Sat Jnn hr (by decide) (So (pv 3) (So (pv 2) (So (Jns (by rfl) T.Jah (v:=.int 12) ⟨_,rfl⟩) Ss))))) ?_
   rotate_left
   refine' Jmi (Jom (Joj T.Jm Sat Jnn hr (by decide) (So (pv 4) (So (pv 2) (So (pv 3) Ss))))) ?_
   rotate_left
   refine' Jmi (Jom (Joj T.Jm Sat Jnn hr (by decide) (So (pv 5) (So Sw (So (Jns (by rfl) T.Jai (v:=.int 6) ⟨_,rfl⟩) Ss))))) ?_
   rotate_left
   refine' Jmi (Jn6 (Jn7 (Jnb (Jmq Jnq (by rfl) T.Jas Jmx (So (pv 6) (So (Jns (by rfl) T.Jbg (v:=.ref _) rfl) Ss))))) (Jmk (Jnl Jnn rfl (Jo4 T.Jda Sa7 hr (by decide) T.Jcg.bd T.Jb5 (So (pv 6) Ss)))) Jmu) ?_
   rotate_left
   refine' Jmi (Jnv (pv 0) (pv 1) rfl) ?_
   rotate_left
   refine' Jmi (Jnv (pv 0) (pv 2) rfl) ?_
   rotate_left
   refine' Jmi (Jnv (pv 0) (pv 3) rfl) ?_
   rotate_left
   refine' Jmi (Jnv (pv 0) (pv 4) rfl) ?_
   rotate_left
   refine' Jmi (Jnv (pv 0) (pv 5) rfl) ?_
   rotate_left
   exact (Jmk (Jnv (pv 0) (pv 6) rfl))
  refine ⟨_,rfl,n,rfl,nm,λH1 s1=>⟨_,rfl,?_⟩⟩
  cases du with
  |name e=>
   rw [e]
   exact Jnr (Jny T.Jd9 T.Jep rfl λe dx h1 h2 h3=>k _ _ _ ((RfC.new h1 h2 h3).of s1))
  |low e1 e2=>
   rw [e1]
   exact Jni ⟨_,rfl,lo,0,12,rfl,tlo.same s1,.inr ⟨e2,λc eo H' rf=>k c eo H' (rf.of s1)⟩⟩
  |high l e1 e2 e3 e4=>
   subst e2
   rw [e1]
   refine Jni ⟨_,rfl,_,0,12,rfl,tlo.same s1,.inl ⟨e3,?_⟩⟩
   exact ⟨_,rfl,_,rfl,hi,l,12,rfl,thi.same s1,.inr ⟨e4,λc eo H' rf=>k c eo H' (rf.of s1)⟩⟩
  |start l h e1 e2 e3 e4 e5 e6=>
   subst e2 e3
   rw [e1]
   refine Jni ⟨_,rfl,_,0,12,rfl,tlo.same s1,.inl ⟨e4,?_⟩⟩
   refine ⟨_,rfl,_,rfl,_,l,12,rfl,thi.same s1,.inl ⟨e5,?_⟩⟩
   exact ⟨_,rfl,_,rfl,_,rfl,st,l,h,rfl,tst.same s1,.inr ⟨e6,λc eo H' rf=>k c eo H' (rf.of s1)⟩⟩
  |rain l h e1 e2 e3 e4 e5 e6 e7=>
   subst e2 e3
   rw [e1]
   refine Jni ⟨_,rfl,_,0,12,rfl,tlo.same s1,.inl ⟨e4,?_⟩⟩
   refine ⟨_,rfl,_,rfl,_,l,12,rfl,thi.same s1,.inl ⟨e5,?_⟩⟩
   refine ⟨_,rfl,_,rfl,_,rfl,st,l,h,rfl,tst.same s1,.inl ⟨e6,?_⟩⟩
   exact ⟨_,rfl,rn,0,6,rfl,trn.same s1,.inr ⟨e7,λc eo H' rf=>k c eo H' (rf.of s1)⟩⟩
  |gate l h e1 e2 e3 e4 e5 e6 e7 e8=>
   subst e2 e3 e8
   obtain ⟨t,ty,g1,g2,g3⟩:=gt
   rw [e1]
   refine Jni ⟨_,rfl,_,0,12,rfl,tlo.same s1,.inl ⟨e4,?_⟩⟩
   refine ⟨_,rfl,_,rfl,_,l,12,rfl,thi.same s1,.inl ⟨e5,?_⟩⟩
   refine ⟨_,rfl,_,rfl,_,rfl,st,l,h,rfl,tst.same s1,.inl ⟨e6,?_⟩⟩
   refine ⟨_,rfl,rn,0,6,rfl,trn.same s1,.inl ⟨e7,?_⟩⟩
   exact ⟨_,rfl,g,_,_,t,_,rfl,rfl,Jte s1 ty,g1,_,rfl,Jnr (Jny T.Jda T.Jeq rfl λe dx h1 h2 h3=>k _ _ _ ((RfC.new h1 h2 h3).of s1))⟩
  |good l h e1 e2 e3 e4 e5 e6 e7 e8=>
   subst e2 e3 e8
   obtain ⟨t,ty,g1,g2,g3⟩:=gt
   rw [e1]
   refine Jni ⟨_,rfl,_,0,12,rfl,tlo.same s1,.inl ⟨e4,?_⟩⟩
   refine ⟨_,rfl,_,rfl,_,l,12,rfl,thi.same s1,.inl ⟨e5,?_⟩⟩
   refine ⟨_,rfl,_,rfl,_,rfl,st,l,h,rfl,tst.same s1,.inl ⟨e6,?_⟩⟩
   refine ⟨_,rfl,rn,0,6,rfl,trn.same s1,.inl ⟨e7,?_⟩⟩
   refine ⟨_,rfl,g,_,_,t,_,rfl,rfl,Jte s1 ty,g1,_,rfl,Jni ?_⟩
   refine ⟨_,rfl,_,rfl,p,_,dx,[],rfl,s1 _ _ hp,T.Jeg,T.Jfc,by simp,?_⟩
   rw [show Jo3 "name" n []=([("name",n)]:List (Str×V)) from rfl]
   refine ⟨_,rfl,_,rfl,p,_,dx,_,rfl,Sv,T.Jeg,T.Jfd,by simp,?_⟩
   rw [show Jo3 "low" (.int l) [("name",n)]=([("name",n),("low",(.int l))]:List (Str×V)) from Jnu (fs:=[("name",n)]) (show (["name"]:List Str).contains "low" =false by decide +kernel)]
   refine ⟨_,rfl,_,rfl,p,_,dx,_,rfl,Sv,T.Jeg,T.Jfe,by simp,?_⟩
   rw [show Jo3 "high" (.int h) [("name",n),("low",.int l)]=([("name",n),("low",.int l),("high",(.int h))]:List (Str×V)) from Jnu (fs:=[("name",n),("low",.int l)]) (show (["name","low"]:List Str).contains "high" =false by decide +kernel)]
   refine ⟨_,rfl,_,rfl,p,_,dx,_,rfl,Sv,T.Jeg,T.Jff,by simp,?_⟩
   rw [show Jo3 "start" st [("name",n),("low",.int l),("high",.int h)]=([("name",n),("low",.int l),("high",.int h),("start",st)]:List (Str×V)) from Jnu (fs:=[("name",n),("low",.int l),("high",.int h)]) (show (["name","low","high"]:List Str).contains "start" =false by decide +kernel)]
   refine ⟨_,rfl,_,rfl,p,_,dx,_,rfl,Sv,T.Jeg,T.Jfg,by simp,?_⟩
   rw [show Jo3 "rain" rn [("name",n),("low",.int l),("high",.int h),("start",st)]=([("name",n),("low",.int l),("high",.int h),("start",st),("rain",rn)]:List (Str×V)) from Jnu (fs:=[("name",n),("low",.int l),("high",.int h),("start",st)]) (show (["name","low","high","start"]:List Str).contains "rain" =false by decide +kernel)]
   refine ⟨_,rfl,_,rfl,p,_,dx,_,rfl,Sv,T.Jeg,T.Jfh,by simp,?_⟩
   rw [show Jo3 "gate" g [("name",n),("low",.int l),("high",.int h),("start",st),("rain",rn)]=([("name",n),("low",.int l),("high",.int h),("start",st),("rain",rn),("gate",g)]:List (Str×V)) from Jnu (fs:=[("name",n),("low",.int l),("high",.int h),("start",st),("rain",rn)]) (show (["name","low","high","start","rain"]:List Str).contains "gate" =false by decide +kernel)]
   show Q .non _
   simp only [Joq]
   exact k _ s1
theorem Ju4:Jmp ["self","name","basin","want"] ["self","name","basin","want"] (Jml (Jmw (top 62) 0)):=⟨rfl,rfl,rfl,by decide +kernel,rfl,by decide +kernel,by decide +kernel⟩
theorem Jxi (T:Tx K mg a):Sx P w K mg base (CXX P w) 4 a.Jjy a.Jjz ["self","name","basin","want"] (Snf K a):=by
 have Sd2:=Jvt (P:=P) (w:=w) (base:=base) T
 have Sz:=Jnz (P:=P) (w:=w) (base:=base) T
 have Sas:=Jrf (P:=P) (w:=w) (base:=base) T
 have Sdu:=Jvr (P:=P) (w:=w) (base:=base) T
 refine T.Jd6.fn.okX Ju4 (λvs H Q E h=>?_) (λcdv A outer s H vs Q E hr h=>?_)
 ·obtain ⟨p,dx,n,b,wt,d,rfl,_⟩:=h
  rfl
 ·obtain ⟨p,dx,n,b,wt,d,rfl,hp,nm,nb,tw,du,k⟩:=h
  refine ⟨?t,?B,?C⟩
  case B=>
   refine' Jmi (Jn6 (Jn7 (Jnb (Jmn T.J2 Sd2 hr (by decide) (So (pv 1) Ss)))) (Jmk (Jnl Jnn rfl (Jo4 T.Jd9 Sas hr (by decide) T.Jcf.bd T.Jb4 (So (pv 1) Ss)))) Jmu) ?_
   rotate_left
   refine' Jmi (Jn6 (Jn7 (Jnb (Jmn T.J2 Sd2 hr (by decide) (So (pv 2) Ss)))) (Jmk (Jnl Jnn rfl (Jo4 T.Jd9 Sas hr (by decide) T.Jcf.bd T.Jb4 (So (pv 2) Ss)))) Jmu) ?_
   rotate_left
   refine' Jmi (Jn6 (Jn7 (Jnb (Jmn T.J0 Sz hr (by decide) (So (pv 3) (So Sw (So (Jns (by rfl) T.Jaj (v:=.int 6) ⟨_,rfl⟩) Ss)))))) (Jmk (Jnl Jnn rfl (Jo4 T.Jdc Sdu hr (by decide) T.Jci.bd T.Jb7 (So (pv 3) Ss)))) Jmu) ?_
   rotate_left
   refine' Jmi (Jnv (pv 0) (pv 1) rfl) ?_
   rotate_left
   refine' Jmi (Jnv (pv 0) (pv 2) rfl) ?_
   rotate_left
   exact (Jmk (Jnv (pv 0) (pv 3) rfl))
  refine ⟨_,rfl,n,rfl,nm,λH1 s1=>⟨_,rfl,?_⟩⟩
  cases du with
  |name e=>
   rw [e]
   exact Jnr (Jny T.Jd9 T.Jep rfl λe dx h1 h2 h3=>k _ _ _ ((RfC.new h1 h2 h3).of s1))
  |basin e1 e2=>
   rw [e1]
   refine Jni ⟨_,rfl,b,rfl,nb.same s1,λH2 s2=>⟨_,rfl,?_⟩⟩
   rw [e2]
   exact Jnr (Jny T.Jd9 T.Jep rfl λe dx h1 h2 h3=>k _ _ _ ((RfC.new h1 h2 h3).of (s1.trans s2)))
  |want e1 e2 e3=>
   rw [e1]
   refine Jni ⟨_,rfl,b,rfl,nb.same s1,λH2 s2=>⟨_,rfl,?_⟩⟩
   rw [e2]
   refine Jni ⟨_,rfl,wt,1,6,rfl,tw.same (s1.trans s2),_,rfl,?_⟩
   rw [e3]
   exact Jnr (Jny T.Jdc T.Jes rfl λe dx h1 h2 h3=>k _ _ _ ((RfC.new h1 h2 h3).of (s1.trans s2)))
  |good e1 e2 e3=>
   rw [e1]
   refine Jni ⟨_,rfl,b,rfl,nb.same s1,λH2 s2=>⟨_,rfl,?_⟩⟩
   rw [e2]
   refine Jni ⟨_,rfl,wt,1,6,rfl,tw.same (s1.trans s2),_,rfl,?_⟩
   rw [e3]
   refine Jni ⟨_,rfl,_,rfl,p,_,dx,[],rfl,s2 _ _ (s1 _ _ hp),T.Jej,T.Jfi,by simp,?_⟩
   rw [show Jo3 "name" n []=([("name",n)]:List (Str×V)) from rfl]
   refine ⟨_,rfl,_,rfl,p,_,dx,_,rfl,Sv,T.Jej,T.Jfj,by simp,?_⟩
   rw [show Jo3 "basin" b [("name",n)]=([("name",n),("basin",b)]:List (Str×V)) from Jnu (fs:=[("name",n)]) (show (["name"]:List Str).contains "basin" =false by decide +kernel)]
   refine ⟨_,rfl,_,rfl,p,_,dx,_,rfl,Sv,T.Jej,T.Jfk,by simp,?_⟩
   rw [show Jo3 "want" wt [("name",n),("basin",b)]=([("name",n),("basin",b),("want",wt)]:List (Str×V)) from Jnu (fs:=[("name",n),("basin",b)]) (show (["name","basin"]:List Str).contains "want" =false by decide +kernel)]
   show Q .non _
   simp only [Joq]
   exact k _ (s1.trans s2)
theorem ifF {b:Bool} {A B:Prop} (h:b=false) (k:B):if b=true then A else B:=by rw [h];exact Jni k
theorem ifT {b:Bool} {A B:Prop} (h:b=true) (k:A):if b=true then A else B:=by rw [h];exact Jnr k
theorem Jwl:Jmp ["names"] ["names"] (Jml (top 63)):=⟨rfl,rfl,rfl,by decide +kernel,rfl,by decide +kernel,by decide +kernel⟩
theorem Js8 (T:Tx K mg a):Sx P w K mg base CX0 1 a.Jk0 a.Jk1 ["names"] (Yd7 K):=by
 refine T.Jn.fn.ok Jwl (λvs H Q E h=>?_) (λcdv A outer s H vs Q E hr h=>?_)
 ·obtain ⟨l,zs,rfl,_⟩:=h
  rfl
 ·obtain ⟨l,zs,rfl,hq,hz,k⟩:=h
  refine ⟨_,(Jmk (Jms (Jo1 Joe (Jmq Jvc (by rfl) T.Jat Jof (So (Jn3 (Jvd rfl) (by rfl) T.Jay Slz (So (pv 0) Ss)) Ss)) (Jmq Jn8 (by rfl) T.Jat Jof (So (pv 0) Ss)) (Jn4 _)))),?_⟩
  refine ⟨_,rfl,l,zs,rfl,hq,hz,λt ht=>⟨t,zs,rfl,Sv,?_⟩⟩
  have s1:=Sn.upd (o:=TxS P w t zs) ht
  refine ⟨_,rfl,l,_,rfl,.inl (s1.seq hq),rfl,?_⟩
  have e:decide (V.int ((uq zs).length:Nat)=V.int ((zs.map V.str).length:Nat))=decide ((uq zs).length=zs.length):=by
   rw [yf]
   by_cases h:(uq zs).length=zs.length
   ·rw [decide_eq_true h,decide_eq_true (by rw [h])]
   ·rw [decide_eq_false h,decide_eq_false (λq=>h (by have:=V.int.inj q;omega))]
  rw [e]
  exact k _ s1
theorem Jwk:Jmp ["thing"] ["thing"] (Jml (top 64)):=⟨rfl,rfl,rfl,by decide +kernel,rfl,by decide +kernel,by decide +kernel⟩
theorem Jwf (T:Tx K mg a):Sx P w K mg base CX0 2 a.Jk2 a.Jk3 ["thing"] (Ycu K a):=by
 have Scm:=Js8 (P:=P) (w:=w) (base:=base) T
 refine T.Jo.fn.ok Jwk (λvs H Q E h=>?_) (λcdv A outer s H vs Q E hr h=>?_)
 ·obtain ⟨l,os,Bs,rfl,_⟩:=h
  rfl
 ·obtain ⟨l,os,Bs,rfl,hl,bl,hn,nd,k⟩:=h
  have len:=bl.len
  refine ⟨?t,?B,?C⟩
  case B=>
   refine' Jmi ?O0 ?O1
   case O0=>
    refine' Jn6 ?O2 ?O3 ?O4
    case O2=>exact (PW.pt (Jt6 (Jn7 (Jnb (Jmq Jvb (by rfl) T.Jas Jmx (So (pv 0) (So (Jnx (So (Joc (v:=.ty "list") (by rfl) T.Jau Jpd rfl) (So (Joc (v:=.ty "tuple") (by rfl) T.Jb1 Jnk rfl) Ss))) Ss))))) (Jrn (Jn7 (Jt4 Jq4 Jq4 Sw (Jmq Jn8 (by rfl) T.Jat Jof (So (pv 0) Ss)) (Jns (by rfl) T.Jal (v:=.int 16) ⟨_,rfl⟩))))))
    case O3=>
     refine' Jmk ?O5
     case O5=>exact (Jms Joi)
    case O4=>exact Jmu
   case O1=>
   refine' Jmi ?O6 ?O7
   case O6=>
    refine' Jn6 ?O8 ?O9 ?Oa
    case O8=>exact (Jn7 (Jnb (Jmq (Jra rfl) (by rfl) T.Jao Jva (So (Jng (N:=(["basin"]:List Str)) (ini:=[none]) rfl (Jo2 (pv 0)) (λ_ _ _ _ _=>(Jmr (i:=0) (by decide +kernel:(["basin"]:List Str).Nodup) rfl (ye rfl))) (λ_ _ _ _ _=>Jnf) (λ_ _ _ _ _=>(Jmq (Jww (K:=K) rfl) (by rfl) T.Jas Jmx (So (pv 0) (So (Jns (by rfl) T.Jbl (v:=.ref _) rfl) Ss))))) Ss))))
    case O9=>
     refine' Jmk ?Ob
     case Ob=>exact (Jms Joi)
    case Oa=>exact Jmu
   case O7=>
   refine' Jmk ?Oc
   case Oc=>exact (Jms (Jmn T.Jn Scm hr (by decide) (So (Jng (N:=(["basin"]:List Str)) (ini:=[none]) rfl (Jo2 (pv 0)) (λ_ _ _ _ _=>(Jmr (i:=0) (by decide +kernel:(["basin"]:List Str).Nodup) rfl (ye rfl))) (λ_ _ _ _ _=>Jnf) (λ_ _ _ _ _=>(Jou (K:=K) rfl (pv 0) (by rfl)))) Ss)))
  refine ⟨_,rfl,(show 2<=Sa by decide),λp hp=>⟨_,p,_,_,.type "list",true,rfl,Sv,rfl,.of (.lst (Sn.upd hp _ _ hl)),rfl,_,rfl,Jni ?_⟩⟩
  have s1:=Sn.upd (o:=.tup [.ty "list",.ty "tuple"]) hp
  refine ⟨_,rfl,l,_,rfl,.inl (Sy.of (s1 _ _ hl)),_,_,rfl,rfl,_,rfl,ifT (by rw [yf];simp;omega) ⟨_,_,rfl,rfl,_,rfl,ifF (by rw [yf];simp;omega) ?_⟩⟩
  refine ⟨_,rfl,l,rfl,⟨_,Sy.of (s1 _ _ hl)⟩,λD hD=>?_⟩
  refine Jok (K:=K) (a:=l) (xs:=os.map V.ref) (D:=D) (λi σ H'=>∃o,σ= [o]/\H' D=some (.lst ((yt i true).map V.bl))/\Sn (upd H p (.tup [.ty "list",.ty "tuple"])) H') ⟨_,rfl,Sv,Sn.upd hD⟩ (λi σ H' _ ⟨o,_,_,sm⟩=>Sy.of (sm _ _ (s1 _ _ hl))) ?_ ?_
  ·rintro i v σ H' hv ⟨o,rfl,hDs,sm⟩
   obtain ⟨ob,B,rfl,hB,dx,hb,gs⟩:=(bl.same (s1.trans sm)).get hv
   have hi:i < os.length:=by have:=(yo.mp hv).1;rwa [yf] at this
   refine Jo7 ⟨_,rfl,_,_,_,_,true,rfl,rfl,.of (T.Jeh.ty T.Jeg hb),T.Jfv,_,hDs,?_,_,rfl,?_,λc o z=>?_⟩
   ·rw [yf,yat]
    exact Jne (by omega)
   ·rw [Sv,List.replicate_succ',yal]
    rfl
   ·rw [Jmm (Jmo z hD)]
    exact sm _ _ z
  rintro σ H1 ⟨o,rfl,hDs,sm⟩
  refine ⟨D,_,rfl,Sy.of hDs,_,rfl,ifF (by simp) ?_⟩
  have s2:=s1.trans sm
  refine ⟨_,rfl,l,rfl,⟨_,Sy.of (s2 _ _ hl)⟩,λD2 hD2=>?_⟩
  refine Jok (K:=K) (a:=l) (xs:=os.map V.ref) (D:=D2) (λi σ H'=>∃o,σ= [o]/\H' D2=some (.lst (((Bs.take i).map (·.z)).map V.str))/\Sn H1 H') ⟨_,rfl,Sv,Sn.upd hD2⟩ (λi σ H' _ ⟨o,_,_,sm⟩=>Sy.of (sm _ _ (s2 _ _ hl))) ?_ ?_
  ·rintro i v σ H' hv ⟨o,rfl,hDs,sm3⟩
   obtain ⟨ob,B,rfl,hB,dx,hb,gs⟩:=(bl.same (s2.trans sm3)).get hv
   refine Jo7 ⟨_,rfl,ob,_,dx,_,_,rfl,hb,T.Jeg,T.Jfc,rfl,_,hDs,?_,_,rfl,?_,λc o z=>?_⟩
   ·rw [yf,yf,yz]
    exact Jne (by omega)
   ·rw [Sv,yag,hB]
    simp
   ·rw [Jmm (Jmo z hD2)]
    exact sm3 _ _ z
  rintro σ H2 ⟨o,rfl,hDs,sm3⟩
  rw [yf,yaf (by omega)] at hDs
  refine ⟨D2,Bs.map (·.z),rfl,Sy.of hDs,by rw [yf];omega,λH3 s3=>?_⟩
  rw [Jz7 nd,decide_eq_true rfl]
  exact k _ ((s2.trans sm3).trans s3)
theorem Sdx:Jmp ["thing","basins","names"] ["thing","basins"] (Jml (top 65)):=⟨rfl,rfl,rfl,by decide +kernel,rfl,by decide +kernel,by decide +kernel⟩
theorem Jxl (T:Tx K mg a):Sx P w K mg base CX0 2 a.Jk4 a.Jk5 ["thing","basins"] (Yf1 K a):=by
 have Scm:=Js8 (P:=P) (w:=w) (base:=base) T
 refine T.Jp.fn.ok Sdx (λvs H Q E h=>?_) (λcdv A outer s H vs Q E hr h=>?_)
 ·obtain ⟨l,m,os,ts,Bs,Ts,rfl,_⟩:=h
  rfl
 ·obtain ⟨l,m,os,ts,Bs,Ts,rfl,hl,bl,hn,hm,tl,tn,nd,inn,k⟩:=h
  have len:=bl.len
  have tlen:=tl.len
  refine ⟨?t,?B,?C⟩
  case B=>
   refine' Jmi ?O0 ?O1
   case O0=>
    refine' Jn6 ?O2 ?O3 ?O4
    case O2=>exact (PW.pt (Jt6 (Jn7 (Jnb (Jmq Jvb (by rfl) T.Jas Jmx (So (pv 0) (So (Jnx (So (Joc (v:=.ty "list") (by rfl) T.Jau Jpd rfl) (So (Joc (v:=.ty "tuple") (by rfl) T.Jb1 Jnk rfl) Ss))) Ss))))) (Jrn (Jna Jvy (Jmq Jn8 (by rfl) T.Jat Jof (So (pv 0) Ss)) (Jns (by rfl) T.Jam (v:=.int 3) ⟨_,rfl⟩) (Jn4 _)))))
    case O3=>
     refine' Jmk ?O5
     case O5=>exact (Jms Joi)
    case O4=>exact Jmu
   case O1=>
   refine' Jmi ?O6 ?O7
   case O6=>
    refine' Jn6 ?O8 ?O9 ?Oa
    case O8=>exact (Jn7 (Jnb (Jmq (Jra rfl) (by rfl) T.Jao Jva (So (Jng (N:=(["town"]:List Str)) (ini:=[none]) rfl (Jo2 (pv 0)) (λ_ _ _ _ _=>(Jmr (i:=0) (by decide +kernel:(["town"]:List Str).Nodup) rfl (ye rfl))) (λ_ _ _ _ _=>Jnf) (λ_ _ _ _ _=>(Jmq (Jww (K:=K) rfl) (by rfl) T.Jas Jmx (So (pv 0) (So (Jns (by rfl) T.Jbm (v:=.ref _) rfl) Ss))))) Ss))))
    case O9=>
     refine' Jmk ?Ob
     case Ob=>exact (Jms Joi)
    case Oa=>exact Jmu
   case O7=>
   refine' Jmi ?Oc ?Od
   case Oc=>exact (Jmt (i:=2) Sdx.nd rfl (Or.inr rfl) (Jng (N:=(["basin"]:List Str)) (ini:=[none]) rfl (Jo2 (pv 1)) (λ_ _ _ _ _=>(Jmr (i:=0) (by decide +kernel:(["basin"]:List Str).Nodup) rfl (ye rfl))) (λ_ _ _ _ _=>Jnf) (λ_ _ _ _ _=>(Jou (K:=K) rfl (pv 0) (by rfl)))))
   case Od=>
   refine' Jmk ?Oe
   case Oe=>exact (Jms (Jsk (Jmn T.Jn Scm hr (by decide) (So (Jng (N:=(["town"]:List Str)) (ini:=[none]) rfl (Jo2 (pv 0)) (λ_ _ _ _ _=>(Jmr (i:=0) (by decide +kernel:(["town"]:List Str).Nodup) rfl (ye rfl))) (λ_ _ _ _ _=>Jnf) (λ_ _ _ _ _=>(Jou (K:=K) rfl (pv 0) (by rfl)))) Ss)) (Jsl (Jmq (Jra rfl) (by rfl) T.Jao Jva (So (Jng (N:=(["town","names"]:List Str)) (ini:=[none,some 2]) rfl (Jo2 (pv 0)) (λ_ _ _ _ _=>(Jmr (i:=0) (by decide +kernel:(["town","names"]:List Str).Nodup) rfl (ye rfl))) (λ_ _ _ _ _=>Jnf) (λ_ _ _ _ _=>(Jo1 (Jzv (K:=K) rfl) (Jou (K:=K) rfl (pv 0) (by rfl)) (pv 1) (by with_unfolding_all rfl)))) Ss)))))
  refine ⟨_,rfl,(show 2<=Sa by decide),λp hp=>⟨_,p,_,_,.type "list",true,rfl,Sv,rfl,.of (.lst (Sn.upd hp _ _ hm)),rfl,_,rfl,Jni ?_⟩⟩
  have s1:=Sn.upd (o:=.tup [.ty "list",.ty "tuple"]) hp
  refine ⟨_,rfl,m,_,rfl,.inl (Sy.of (s1 _ _ hm)),_,_,rfl,rfl,_,rfl,ifF (by rw [yf];simp;omega) ?_⟩
  refine ⟨_,rfl,m,rfl,⟨_,Sy.of (s1 _ _ hm)⟩,λD hD=>?_⟩
  refine Jok (K:=K) (a:=m) (xs:=ts.map V.ref) (D:=D) (λi σ H'=>∃o,σ= [o]/\H' D=some (.lst ((yt i true).map V.bl))/\Sn (upd H p (.tup [.ty "list",.ty "tuple"])) H') ⟨_,rfl,Sv,Sn.upd hD⟩ (λi σ H' _ ⟨o,_,_,sm⟩=>Sy.of (sm _ _ (s1 _ _ hm))) ?_ ?_
  ·rintro i v σ H' hv ⟨o,rfl,hDs,sm⟩
   obtain ⟨ob,B,rfl,hB,dx,hb⟩:=(tl.same (s1.trans sm)).get hv
   have hi:i < ts.length:=by have:=(yo.mp hv).1;rwa [yf] at this
   refine Jo7 ⟨_,rfl,_,_,_,_,true,rfl,rfl,.of (T.Jek.ty T.Jej hb),T.Jfw,_,hDs,?_,_,rfl,?_,λc o z=>?_⟩
   ·rw [yf,yat]
    exact Jne (by omega)
   ·rw [Sv,List.replicate_succ',yal]
    rfl
   ·rw [Jmm (Jmo z hD)]
    exact sm _ _ z
  rintro σ H1 ⟨o,rfl,hDs,sm⟩
  refine ⟨D,_,rfl,Sy.of hDs,_,rfl,ifF (by simp) ?_⟩
  have s2:=s1.trans sm
  refine ⟨_,rfl,l,rfl,⟨_,Sy.of (s2 _ _ hl)⟩,λD2 hD2=>?_⟩
  refine Jok (K:=K) (a:=l) (xs:=os.map V.ref) (D:=D2) (λi σ H'=>∃o,σ= [o]/\H' D2=some (.lst (((Bs.take i).map (·.z)).map V.str))/\Sn H1 H') ⟨_,rfl,Sv,Sn.upd hD2⟩ (λi σ H' _ ⟨o,_,_,sm⟩=>Sy.of (sm _ _ (s2 _ _ hl))) ?_ ?_
  ·rintro i v σ H' hv ⟨o,rfl,hDs,sm3⟩
   obtain ⟨ob,B,rfl,hB,dx,hb,gs⟩:=(bl.same (s2.trans sm3)).get hv
   refine Jo7 ⟨_,rfl,ob,_,dx,_,_,rfl,hb,T.Jeg,T.Jfc,rfl,_,hDs,?_,_,rfl,?_,λc o z=>?_⟩
   ·rw [yf,yf,yz]
    exact Jne (by omega)
   ·rw [Sv,yag,hB]
    simp
   ·rw [Jmm (Jmo z hD2)]
    exact sm3 _ _ z
  rintro σ H2 ⟨o,rfl,hD2s,sm3⟩
  rw [yf,yaf (by omega)] at hD2s
  have s3:=s2.trans sm3
  refine ⟨_,rfl,m,rfl,⟨_,Sy.of (s3 _ _ hm)⟩,λD3 hD3=>?_⟩
  refine Jok (K:=K) (a:=m) (xs:=ts.map V.ref) (D:=D3) (λi σ H'=>∃o,σ= [o]/\H' D3=some (.lst (((Ts.take i).map (·.z)).map V.str))/\Sn H2 H') ⟨_,rfl,Sv,Sn.upd hD3⟩ (λi σ H' _ ⟨o,_,_,sm⟩=>Sy.of (sm _ _ (s3 _ _ hm))) ?_ ?_
  ·rintro i v σ H' hv ⟨o,rfl,hDs,sm4⟩
   obtain ⟨ob,B,rfl,hB,dx,hb⟩:=(tl.same (s3.trans sm4)).get hv
   refine Jo7 ⟨_,rfl,ob,_,dx,_,_,rfl,hb,T.Jej,T.Jfi,rfl,_,hDs,?_,_,rfl,?_,λc o z=>?_⟩
   ·rw [yf,yf,yz]
    exact Jne (by omega)
   ·rw [Sv,yag,hB]
    simp
   ·rw [Jmm (Jmo z hD3)]
    exact sm4 _ _ z
  rintro σ H3 ⟨o,rfl,hD3s,sm4⟩
  rw [yf,yaf (by omega)] at hD3s
  refine ⟨D3,Ts.map (·.z),rfl,Sy.of hD3s,by rw [yf];omega,λH4 s4=>⟨_,rfl,ifT (by rw [Jz7 nd,decide_eq_true rfl]) ?_⟩⟩
  have s5:=(s3.trans sm4).trans s4
  have hD24:=s4 _ _ (sm4 _ _ hD2s)
  refine ⟨_,rfl,m,rfl,⟨_,Sy.of (s5 _ _ hm)⟩,λD4 hD4=>?_⟩
  refine Jok (K:=K) (a:=m) (xs:=ts.map V.ref) (D:=D4) (λi σ H'=>∃o,σ= [o,some (.ref D2)]/\H' D4=some (.lst ((yt i true).map V.bl))/\Sn H4 H') ⟨_,rfl,Sv,Sn.upd hD4⟩ (λi σ H' _ ⟨o,_,_,sm⟩=>Sy.of (sm _ _ (s5 _ _ hm))) ?_ ?_
  ·rintro i v σ H' hv ⟨o,rfl,hDs,sm6⟩
   obtain ⟨ob,B,rfl,hB,dx,hb⟩:=(tl.same (s5.trans sm6)).get hv
   have hi:i < ts.length:=by have:=(yo.mp hv).1;rwa [yf] at this
   refine Jo7 ⟨_,rfl,ob,_,dx,_,_,rfl,hb,T.Jej,T.Jfj,rfl,_,rfl,D2,_,rfl,.inl (Sy.of (sm6 _ _ hD24)),rfl,by simp [Jpm],?_⟩
   have e:inV (V.str B.b) ((Bs.map (·.z)).map V.str)=true:=by
    obtain ⟨z,hz,ez⟩:=yaj.mp (inn B (yy hB))
    unfold inV
    refine List.any_eq_true.mpr ⟨V.str z.z,yaj.mpr ⟨z.z,yaj.mpr ⟨z,hz,rfl⟩,rfl⟩,?_⟩
    simp [eqV,ez]
   show ∃ys,_
   rw [if_neg yae,e]
   refine ⟨_,hDs,?_,_,rfl,?_,λc o z=>?_⟩
   ·rw [yf,yat]
    exact Jne (by omega)
   ·rw [Sv,List.replicate_succ',yal]
    rfl
   ·rw [Jmm (Jmo z hD4)]
    exact sm6 _ _ z
  rintro σ H5 ⟨o,rfl,hD4s,sm6⟩
  refine ⟨D4,_,rfl,Sy.of hD4s,?_⟩
  rw [show (yt (ts.map V.ref).length true).all id=true by simp]
  exact k _ (s5.trans sm6)
theorem Js3:Jmp ["self","thing"] ["self","thing"] (Jml (Jmw (top 7) 0)):=⟨rfl,rfl,rfl,by decide +kernel,rfl,by decide +kernel,by decide +kernel⟩
theorem Jun (T:Tx K mg a):Sx P w K mg base CX0 1 a.Jhe a.Jhf ["self","thing"] (Jpk K "thing"):=by
 refine T.Jcj.fn.ok Js3 (λvs H Q E h=>?_) (λcdv A outer s H vs Q E hr h=>?_)
 ·obtain ⟨e,C,W,fI,y,rfl,_⟩:=h
  rfl
 ·obtain ⟨e,C,W,fI,y,rfl,q,c,n,k⟩:=h
  refine ⟨_,(Jmk (Jph (pv 0) (pv 1) rfl)),?_⟩
  exact ⟨_,rfl,_,rfl,e,C,W,fI,true,rfl,q,c,n,k⟩
theorem Js4:Jmp ["self","thing"] ["self","thing"] (Jml (Jmw (top 8) 0)):=⟨rfl,rfl,rfl,by decide +kernel,rfl,by decide +kernel,by decide +kernel⟩
theorem Juo (T:Tx K mg a):Sx P w K mg base CX0 1 a.Jhg a.Jhh ["self","thing"] (Jpk K "thing"):=by
 refine T.Jck.fn.ok Js4 (λvs H Q E h=>?_) (λcdv A outer s H vs Q E hr h=>?_)
 ·obtain ⟨e,C,W,fI,y,rfl,_⟩:=h
  rfl
 ·obtain ⟨e,C,W,fI,y,rfl,q,c,n,k⟩:=h
  refine ⟨_,(Jmk (Jph (pv 0) (pv 1) rfl)),?_⟩
  exact ⟨_,rfl,_,rfl,e,C,W,fI,true,rfl,q,c,n,k⟩
theorem Jz6 {H:Hp} {p q:S5} {o u:HO} (h:p≠q):upd (upd H p o) q u=upd (upd H q u) p o:=by
 funext c
 by_cases h1:c=p
 ·subst h1
  rw [Sv,Jmm h,Sv]
 ·rw [Jmm h1]
  by_cases h2:c=q
  ·subst h2
   rw [Sv,Sv]
  ·rw [Jmm h2,Jmm h2,Jmm h1]
def Sjk (c g b t:V):List (Str×V):=[("cloud",c),("gain",g),("basins",b),("towns",t)]
inductive Yez (K:Si) (a:Ad) (vs:List V) (H:Hp) (Q:VK) (z3:XK):Prop where
 |mk (p dx l m:S5) (c g:Int) (os ts:List S5) (Bs:List Bsn) (Ts:List Twn) (_:vs= [.ref p,.int c,.int g,.ref l,.ref m]) (_:H p=some (.ins a.Jmc dx [])) (_:(0<=c/\c<=12)) (_:(0<=g/\g<=c)) (_:H l=some (.lst (os.map V.ref))) (_:Sca K a H os Bs) (_:(1<=Bs.length/\Bs.length<=16)) (_:(Bs.map (·.z)).Nodup) (_:H m=some (.lst (ts.map V.ref))) (_:Sc0 a H ts Ts) (_:Ts.length<=3) (_:(Ts.map (·.z)).Nodup) (_:(∀t∈Ts,t.b∈Bs.map (·.z))) (_:∀H' b t,Sn H H'->H' b=some (.tup (os.map V.ref))->H' t=some (.tup (ts.map V.ref))->b≠p->t≠p->Q .non (upd H' p (.ins a.Jmc dx (Sjk (.int c) (.int g) (.ref b) (.ref t)))))
theorem Jpy {i lo hi:Int} (h1:lo<=i) (h2:i<=hi):Jmz (.int i) lo hi=true:=by
 show (decide (lo<=i)&&decide (i<=hi))=true
 rw [decide_eq_true h1,decide_eq_true h2]
 rfl
theorem Jt9:Jmp ["self","cloud","gain","basins","towns"] ["self","cloud","gain","basins","towns"] (Jml (Jmw (top 66) 0)):=⟨rfl,rfl,rfl,by decide +kernel,rfl,by decide +kernel,by decide +kernel⟩
theorem Jwe (T:Tx K mg a):Sx P w K mg base (CXX P w) 4 a.Jk6 a.Jk7 ["self","cloud","gain","basins","towns"] (Yez K a):=by
 have Sz:=Jnz (P:=P) (w:=w) (base:=base) T
 have Sfy:=Jwf (P:=P) (w:=w) (base:=base) T
 have Sgj:=Jxl (P:=P) (w:=w) (base:=base) T
 have Sbw:=Jun (P:=P) (w:=w) (base:=base) T
 have Sbx:=Juo (P:=P) (w:=w) (base:=base) T
 refine T.Jd7.fn.okX Jt9 (λvs H Q E h=>?_) (λcdv A outer s H vs Q E hr h=>?_)
 ·obtain ⟨p,dx,l,m,c,g,os,ts,Bs,Ts,rfl,_⟩:=h
  rfl
 ·obtain ⟨p,dx,l,m,c,g,os,ts,Bs,Ts,rfl,hp,hc,hg,hl,bl,hn,nd,hm,tl,tn,tnd,inn,k⟩:=h
  refine ⟨?t,?B,?C⟩
  case B=>
   refine' Jmi ?O0 ?O1
   case O0=>
    refine' Jn6 ?O2 ?O3 ?O4
    case O2=>exact (Jn7 (Jnb (Jmn T.J0 Sz hr (by decide) (So (pv 1) (So Sw (So (Jns (by rfl) T.Jak (v:=.int 12) ⟨_,rfl⟩) Ss))))))
    case O3=>
     refine' Jmk ?O5
     case O5=>exact (Jnl Jnn rfl (Jo4 T.Jdd Sbw hr (by decide) T.Jcj.bd T.Jb8 (So (pv 1) Ss)))
    case O4=>exact Jmu
   case O1=>
   refine' Jmi ?O6 ?O7
   case O6=>
    refine' Jn6 ?O8 ?O9 ?Oa
    case O8=>exact (Jn7 (Jnb (Jmn T.J0 Sz hr (by decide) (So (pv 2) (So Sw (So (pv 1) Ss))))))
    case O9=>
     refine' Jmk ?Ob
     case Ob=>exact (Jnl Jnn rfl (Jo4 T.Jdd Sbw hr (by decide) T.Jcj.bd T.Jb8 (So (pv 2) Ss)))
    case Oa=>exact Jmu
   case O7=>
   refine' Jmi ?Oc ?Od
   case Oc=>
    refine' Jn6 ?Oe ?Of ?Og
    case Oe=>exact (Jn7 (Jnb (Jmn T.Jo Sfy hr (by decide) (So (pv 3) Ss))))
    case Of=>
     refine' Jmk ?Oh
     case Oh=>exact (Jnl Jnn rfl (Jo4 T.Jde Sbx hr (by decide) T.Jck.bd T.Jb9 (So (pv 3) Ss)))
    case Og=>exact Jmu
   case Od=>
   refine' Jmi ?Oi ?Oj
   case Oi=>
    refine' Jn6 ?Ok ?Ol ?Om
    case Ok=>exact (Jn7 (Jnb (Jmn T.Jp Sgj hr (by decide) (So (pv 4) (So (pv 3) Ss)))))
    case Ol=>
     refine' Jmk ?On
     case On=>exact (Jnl Jnn rfl (Jo4 T.Jde Sbx hr (by decide) T.Jck.bd T.Jb9 (So (pv 4) Ss)))
    case Om=>exact Jmu
   case Oj=>
   refine' Jmi ?Oo ?Op
   case Oo=>exact (Jnv (pv 0) (pv 1) rfl)
   case Op=>
   refine' Jmi ?Oq ?Or
   case Oq=>exact (Jnv (pv 0) (pv 2) rfl)
   case Or=>
   refine' Jmi ?Os ?Ot
   case Os=>exact (Jnv (pv 0) (Jn3 Jn5 (by rfl) T.Jb1 Jnk (So (pv 3) Ss)) rfl)
   case Ot=>
   refine' Jmk ?Ou
   case Ou=>exact (Jnv (pv 0) (Jn3 Jn5 (by rfl) T.Jb1 Jnk (So (pv 4) Ss)) rfl)
  refine ⟨_,rfl,_,0,12,rfl,.inl ⟨_,rfl⟩,_,rfl,ifF (by rw [Jpy hc.1 hc.2];rfl) ?_⟩
  refine ⟨_,rfl,_,rfl,_,0,c,rfl,.inl ⟨_,rfl⟩,_,rfl,ifF (by rw [Jpy hg.1 hg.2];rfl) ?_⟩
  refine ⟨_,rfl,l,os,Bs,rfl,hl,bl,hn,nd,λH1 s1=>⟨_,rfl,Jni ?_⟩⟩
  refine ⟨_,rfl,_,rfl,l,m,os,ts,Bs,Ts,rfl,s1 _ _ hl,bl.same s1,hn.2,s1 _ _ hm,tl.same s1,tn,tnd,inn,λH2 s2=>⟨_,rfl,Jni ?_⟩⟩
  have s3:=s1.trans s2
  have hp2:=s3 _ _ hp
  refine ⟨_,rfl,_,rfl,p,_,dx,[],rfl,hp2,T.Jem,T.Jfl,by simp,?_⟩
  rw [show Jo3 "cloud" (.int c) []=([("cloud",.int c)]:List (Str×V)) from rfl]
  refine ⟨_,rfl,_,rfl,p,_,dx,_,rfl,Sv,T.Jem,T.Jfm,by simp,?_⟩
  rw [show Jo3 "gain" (.int g) [("cloud",.int c)]=([("cloud",.int c),("gain",.int g)]:List (Str×V)) from Jnu (fs:=[("cloud",.int c)]) (show (["cloud"]:List Str).contains "gain" =false by decide +kernel),Joq]
  have nl:l≠p:=λe=>by subst e;rw [hl] at hp;cases hp
  have nm:m≠p:=λe=>by subst e;rw [hm] at hp;cases hp
  refine ⟨_,rfl,l,_,rfl,.inl ⟨Sy.of (by rw [Jmm nl];exact s3 _ _ hl),λb hb=>?_⟩⟩
  have nb:b≠p:=λe=>by subst e;rw [Sv] at hb;cases hb
  rw [Jmm nb] at hb
  rw [Jz6 nb.symm]
  refine ⟨_,rfl,p,_,dx,_,rfl,Sv,T.Jem,T.Jfn,by simp,?_⟩
  rw [show Jo3 "basins" (.ref b) [("cloud",.int c),("gain",.int g)]=([("cloud",.int c),("gain",.int g),("basins",.ref b)]:List (Str×V)) from Jnu (fs:=[("cloud",.int c),("gain",.int g)]) (show (["cloud","gain"]:List Str).contains "basins" =false by decide +kernel),Joq]
  have s4:=s3.trans (Sn.upd (o:=.tup (os.map V.ref)) hb)
  refine ⟨_,rfl,m,_,rfl,.inl ⟨Sy.of (by rw [Jmm nm];exact s4 _ _ hm),λt ht=>?_⟩⟩
  have nt:t≠p:=λe=>by subst e;rw [Sv] at ht;cases ht
  rw [Jmm nt] at ht
  rw [Jz6 nt.symm]
  refine ⟨_,rfl,p,_,dx,_,rfl,Sv,T.Jem,T.Jfo,by simp,?_⟩
  rw [show Jo3 "towns" (.ref t) [("cloud",.int c),("gain",.int g),("basins",.ref b)]=(Sjk (.int c) (.int g) (.ref b) (.ref t)) from Jnu (fs:=[("cloud",.int c),("gain",.int g),("basins",.ref b)]) (show (["cloud","gain","basins"]:List Str).contains "towns" =false by decide +kernel),Joq]
  have s5:=Sn.upd (o:=.tup (ts.map V.ref)) ht
  exact k _ b t (s4.trans s5) (s5 _ _ Sv) Sv nb nt
def wl:List V->List Int->List Int->List Bool
 |v::vs,l::ls,h::hs=>Jmz v l h::wl vs ls hs
 |_,_,_=>[]
theorem Ydn:∀{vs:List V} {ls hs:List Int},vs.length=ls.length->ls.length=hs.length->(wl vs ls hs).length=vs.length
 | [],_,_,_,_=>rfl
 |_::_,[],_,e,_=>by simp at e
 |_::_,_::_,[],_,e=>by simp at e
 |_::vs,_::ls,_::hs,e1,e2=>by
  show (wl vs ls hs).length+1=vs.length+1
  rw [Ydn (by simpa using e1) (by simpa using e2)]
theorem Ydm:∀{vs:List V} {ls hs:List Int} {i:Nat} {v x y:V},vs[i]?=some v->(ls.map V.int)[i]?=some x->(hs.map V.int)[i]?=some y->∃l h,x= .int l/\y= .int h/\(wl vs ls hs)[i]?=some (Jmz v l h)
 |_::_,l::_,h::_,0,v,x,y,e1,e2,e3=>⟨l,h,by simpa using e2.symm,by simpa using e3.symm,by cases e1;rfl⟩
 |_::vs,_::ls,_::hs,i+1,v,x,y,e1,e2,e3=>by
  obtain ⟨l,h,a1,a2,a3⟩:=Ydm (vs:=vs) (ls:=ls) (hs:=hs) (i:=i) (v:=v) (x:=x) (y:=y) (by simpa using e1) (by simpa using e2) (by simpa using e3)
  exact ⟨l,h,a1,a2,a3⟩
 | [],_,_,_,_,_,_,e,_,_=>by simp at e
 |_::_,[],_,_,_,_,_,_,e,_=>by simp at e
 |_::_,_::_,[],_,_,_,_,_,_,e=>by simp at e
def Sdb (K:Si) (H:Hp) (x:V):Option (List V)->Prop
 |some vs=>∃p,x= .ref p/\H p=some (.tup vs)/\(∀v∈vs,Tm K H v)/\vs.length<=40
 |none=>∃t,TyX K H x t/\Sj K t (.type "tuple")=some false
theorem Sdb.same {K:Si} {H H':Hp} {x:V} (s:Sn H H'):∀{r:Option (List V)},Sdb K H x r->Sdb K H' x r
 |some _,⟨p,e,h1,h2,h3⟩=>⟨p,e,s _ _ h1,λv hv=>(h2 v hv).same s,h3⟩
 |none,⟨t,h1,h2⟩=>⟨t,Jte s h1,h2⟩
def Joy:Option (List V)->List Int->List Int->Bool
 |some vs,ls,hs=>decide (vs.length=ls.length)&&(wl vs ls hs).all id
 |none,_,_=>false
inductive Sql (K:Si) (vs:List V) (H:Hp) (Q:VK) (z3:XK):Prop where
 |mk (x:V) (r:Option (List V)) (l m:S5) (ls hs:List Int) (_:vs= [x,.ref l,.ref m]) (_:Sdb K H x r) (_:H l=some (.lst (ls.map V.int))) (_:H m=some (.lst (hs.map V.int))) (_:ls.length=hs.length) (_:ls.length<=40) (_:∀H',Sn H H'->Q (.bl (Joy r ls hs)) H')
inductive Yf0 (K:Si) (vs:List V) (H:Hp) (Q:VK) (z3:XK):Prop where
 |mk (x:V) (r:Option (List V)) (m:S5) (hs:List Int) (_:vs= [x,.ref m]) (_:Sdb K H x r) (_:H m=some (.lst (hs.map V.int))) (_:hs.length<=40) (_:∀H',Sn H H'->Q (.bl (Joy r (yt hs.length 0) hs)) H')
def Yz:Option (List V)->Bool
 |some vs=>decide (vs.length=2)
 |none=>false
inductive Sn9 (K:Si) (vs:List V) (H:Hp) (Q:VK) (z3:XK):Prop where
 |mk (x:V) (r:Option (List V)) (_:vs= [x]) (_:(match r with|some vs=>∃p,x= .ref p/\H p=some (.tup vs)|none=>∃t,TyX K H x t/\Sj K t (.type "tuple")=some false)) (_:Q (.bl (Yz r)) H)
theorem Yaa {i j k:Nat} {T:S5} {x y u:V} {σ:L2.St} {H:Hp} {A B:L2.St->Hp->Prop} (hT:SqT K H T [x,y,u]) (h:A (((σ.set i (some x)).set j (some y)).set k (some u)) H):
  Sjh K 3 (Ju8 (Jp4 i) (Ju8 (Jp4 j) (Ju8 (Jp4 k) Sm6))) (.ref T) σ H λσ3 H3=>Ya σ3 H3 λb H4=>if b=true then A σ3 H4 else B σ3 H4:=by
 refine ⟨T,_,rfl,hT,rfl,_,_,rfl,_,_,rfl,_,_,rfl,rfl,?_⟩
 show if true=true then A (((σ.set i (some x)).set j (some y)).set k (some u)) H else B (((σ.set i (some x)).set j (some y)).set k (some u)) H
 rw [if_pos rfl]
 exact h
theorem Yb2:Jmp ["thing","lows","highs"] ["thing","lows","highs"] (Jml (top 20)):=⟨rfl,rfl,rfl,by decide +kernel,rfl,by decide +kernel,by decide +kernel⟩
theorem Jx4 (T:Tx K mg a):Sx P w K mg base CX0 2 a.Jhw a.Jhx ["thing","lows","highs"] (Sql K):=by
 have Sz:=Jnz (P:=P) (w:=w) (base:=base) T
 refine T.J3.fn.ok Yb2 (λvs H Q E h=>?_) (λcdv A outer s H vs Q E hr h=>?_)
 ·obtain ⟨x,r,l,m,ls,hs,rfl,_⟩:=h
  rfl
 ·obtain ⟨x,r,l,m,ls,hs,rfl,rt,hl,hm,e1,e2,k⟩:=h
  refine ⟨?t,?B,?C⟩
  case B=>
   refine' Jmi ?O0 ?O1
   case O0=>
    refine' Jn6 ?O2 ?O3 ?O4
    case O2=>exact (PW.pt (Jt6 (Jn7 (Jnb (Jmq Jnq (by rfl) T.Jas Jmx (So (pv 0) (So (Joc (v:=.ty "tuple") (by rfl) T.Jb1 Jnk rfl) Ss))))) (Jrn (Jna Skn (Jmq Jn8 (by rfl) T.Jat Jof (So (pv 0) Ss)) (Jmq Jn8 (by rfl) T.Jat Jof (So (pv 1) Ss)) (Jn4 _)))))
    case O3=>
     refine' Jmk ?O5
     case O5=>exact (Jms Joi)
    case O4=>exact Jmu
   case O1=>
   refine' Jmk ?O6
   case O6=>exact (Jms (Jmq (Jra rfl) (by rfl) T.Jao Jva (So (Jng (N:=(["number","low","high"]:List Str)) (ini:=[none,none,none]) rfl (Jxt true false false (by rfl) T.Jb2 (So (pv 0) (So (pv 1) (So (pv 2) Ss)))) (λ_ _ _ _ _=>(Jqy (K:=K) (n:=3) rfl rfl (Jmy (Jmr (i:=0) (by decide +kernel:(["number","low","high"]:List Str).Nodup) rfl (ye rfl)) (Jmy (Jmr (i:=1) (by decide +kernel:(["number","low","high"]:List Str).Nodup) rfl (ye rfl)) (Jmy (Jmr (i:=2) (by decide +kernel:(["number","low","high"]:List Str).Nodup) rfl (ye rfl)) Jol))))) (λ_ _ _ _ _=>Jnf) (λ_ _ _ _ _=>(Jmn T.J0 Sz hr (by decide) (So (pv 0) (So (pv 1) (So (pv 2) Ss)))))) Ss)))
  cases r with
  |none=>
   obtain ⟨t,ty,ek⟩:=rt
   refine ⟨_,rfl,x,_,_,t,_,rfl,rfl,ty,ek,_,rfl,Jnr ?_⟩
   refine Jnr ?_
   exact k _ (λ_ _ h=>h)
  |some vs=>
   obtain ⟨p,rfl,hp,tms,hn⟩:=rt
   refine ⟨_,rfl,_,_,_,.type "tuple",true,rfl,rfl,.of (.tup hp),rfl,_,rfl,Jni ?_⟩
   refine ⟨_,rfl,p,_,rfl,.inr (SqT.of hp),_,rfl,l,_,rfl,.inl (Sy.of hl),rfl,?_⟩
   by_cases en:vs.length=ls.length
   ·refine ⟨_,rfl,ifF (by simp [en]) ?_⟩
    refine ⟨_,rfl,_,rfl,_,rfl,p,l,m,rfl,⟨_,SqT.of hp⟩,⟨_,Sy.of hl⟩,⟨_,Sy.of hm⟩,λD hD=>?_⟩
    have s0:=Sn.upd (o:=.lst []) hD
    refine Jtn (K:=K) (l1:=p) (l2:=l) (l3:=m) (b1:=true) (b2:=false) (b3:=false) (xs:=vs) (ys:=ls.map V.int) (us:=hs.map V.int) (D:=D) (λi σ H'=>(∃o1 o2 o3,σ= [o1,o2,o3])/\H' D=some (.lst (((wl vs ls hs).take i).map V.bl))/\Sn H H') ⟨⟨_,_,_,rfl⟩,Sv,s0⟩ (λi σ H' _ ⟨_,_,sm⟩=>⟨SqT.of (sm _ _ hp),Sy.of (sm _ _ hl),Sy.of (sm _ _ hm)⟩) (by rw [yf];exact en) (by rw [yf];omega) ?_ ?_
    ·rintro i x y u σ H' Ta hx hy hu ⟨⟨o1,o2,o3,rfl⟩,hDs,sm⟩ hT
     obtain ⟨lo,hi,rfl,rfl,ew⟩:=Ydm hx hy hu
     have sT:=Sn.upd (o:=.tup [x,.int lo,.int hi]) hT
     have hi':i < vs.length:=(yo.mp hx).1
     refine Yaa (SqT.of Sv) ⟨_,rfl,_,rfl,_,rfl,_,lo,hi,rfl,(tms _ (yy hx)).same (sm.trans sT),_,sT _ _ hDs,?_,⟨_,_,_,rfl⟩,?_,?_⟩
     ·rw [yf,yz]
      exact Jne (by omega)
     ·rw [Sv,yag,ew]
      simp
     ·intro c o z
      rw [Jmm (Jmo z hD)]
      exact sT _ _ (sm _ _ z)
    rintro σ H1 ⟨_,hDs,sm⟩
    rw [yaf (by rw [Ydn en e1];omega)] at hDs
    refine ⟨D,_,rfl,Sy.of hDs,?_⟩
    have e:Joy (some vs) ls hs=(wl vs ls hs).all id:=by
     show (decide (vs.length=ls.length)&&_)=_
     rw [decide_eq_true en,ybm]
    rw [<-e]
    exact k _ sm
   ·refine ⟨_,rfl,ifT (by simp;omega) ?_⟩
    have e:Joy (some vs) ls hs=false:=by
     show (decide (vs.length=ls.length)&&_)=_
     rw [decide_eq_false en,yav]
    rw [e] at k
    exact k _ (λ_ _ h=>h)
theorem Jur:Jmp ["thing","highs"] ["thing","highs"] (Jml (top 21)):=⟨rfl,rfl,rfl,by decide +kernel,rfl,by decide +kernel,by decide +kernel⟩
theorem Jr1 (T:Tx K mg a):Sx P w K mg base CX0 3 a.Jhy a.Jhz ["thing","highs"] (Yf0 K):=by
 have Sf2:=Jx4 (P:=P) (w:=w) (base:=base) T
 refine T.J4.fn.ok Jur (λvs H Q E h=>?_) (λcdv A outer s H vs Q E hr h=>?_)
 ·obtain ⟨x,r,m,hs,rfl,_⟩:=h
  rfl
 ·obtain ⟨x,r,m,hs,rfl,rt,hm,e2,k⟩:=h
  refine ⟨?t,?B,?C⟩
  case B=>
   refine' Jmk ?O0
   case O0=>exact (Jms (Jmn T.J3 Sf2 hr (by decide) (So (pv 0) (So (Jng (N:=(["high"]:List Str)) (ini:=[none]) rfl (Jo2 (pv 1)) (λ_ _ _ _ _=>(Jmr (i:=0) (by decide +kernel:(["high"]:List Str).Nodup) rfl (ye rfl))) (λ_ _ _ _ _=>Jnf) (λ_ _ _ _ _=>Sw)) (So (pv 1) Ss)))))
  refine ⟨_,rfl,_,rfl,m,rfl,⟨_,Sy.of hm⟩,λD hD=>?_⟩
  refine Jow ((yt hs.length (0:Int)).map V.int) hD (by simp) (by rw [yf];omega) hm ?_ ?_
  ·intro i x y H' Q' hx hy sm k'
   have e:y= .int 0:=by
    rw [List.map_replicate,ybj] at hy
    split at hy
    ·exact (yw.inj hy).symm
    ·cases hy
   subst e
   exact k' _ (λ_ _ h=>h)
  ·intro H' sm hDs
   refine ⟨_,rfl,x,r,D,m,yt hs.length 0,hs,rfl,rt.same sm,hDs,sm _ _ hm,by simp,by simpa using e2,λH2 s2=>k _ (sm.trans s2)⟩
theorem Y1:Jmp ["thing"] ["thing"] (Jml (top 22)):=⟨rfl,rfl,rfl,by decide +kernel,rfl,by decide +kernel,by decide +kernel⟩
theorem Jvu (T:Tx K mg a):Sx P w K mg base CX0 1 a.Ji0 a.Ji1 ["thing"] (Sn9 K):=by
 refine T.J5.fn.ok Y1 (λvs H Q E h=>?_) (λcdv A outer s H vs Q E hr h=>?_)
 ·obtain ⟨x,r,rfl,_⟩:=h
  rfl
 ·obtain ⟨x,r,rfl,rt,k⟩:=h
  refine ⟨?t,?B,?C⟩
  case B=>
   refine' Jmk ?O0
   case O0=>exact (Jms (Jsk (Jmq Jnq (by rfl) T.Jas Jmx (So (pv 0) (So (Joc (v:=.ty "tuple") (by rfl) T.Jb1 Jnk rfl) Ss))) (Jsl (Jo1 Joe (Jmq Jn8 (by rfl) T.Jat Jof (So (pv 0) Ss)) Sw (Jn4 _)))))
  cases r with
  |none=>
   obtain ⟨t,ty,ek⟩:=rt
   refine ⟨_,rfl,x,_,_,t,_,rfl,rfl,ty,ek,_,rfl,?_⟩
   exact Jni k
  |some vs=>
   obtain ⟨p,rfl,hp⟩:=rt
   refine ⟨_,rfl,_,_,_,.type "tuple",true,rfl,rfl,.of (.tup hp),rfl,_,rfl,Jnr ?_⟩
   refine ⟨_,rfl,p,_,rfl,.inr (SqT.of hp),rfl,?_⟩
   have e:decide (V.int (vs.length:Nat)=V.int 2)=Yz (some vs):=by
    show _=decide (vs.length=2)
    by_cases h:vs.length=2
    ·rw [decide_eq_true h,decide_eq_true (by rw [h];rfl)]
    ·rw [decide_eq_false h,decide_eq_false (λq=>h (by have:=V.int.inj q;omega))]
   rw [e]
   exact k
structure Riv where
 c:Int
 g:Int
 Bs:List Bsn
 Ts:List Twn
def Saz (K:Si) (a:Ad) (H:Hp) (o:S5) (R:Riv):Prop:=∃(dx b t:S5) (os ts:List S5),H o=some (.ins a.Jmc dx (Sjk (.int R.c) (.int R.g) (.ref b) (.ref t)))/\H b=some (.tup (os.map V.ref))/\Sca K a H os R.Bs/\H t=some (.tup (ts.map V.ref))/\Sc0 a H ts R.Ts/\R.Bs.length<=16/\R.Ts.length<=3/\∀B∈R.Bs,0<=B.rn/\B.rn<=6
theorem Saz.same {K:Si} {a:Ad} {H H':Hp} {o:S5} {R:Riv} (s:Sn H H') (h:Saz K a H o R):Saz K a H' o R:=
 let ⟨dx,b,t,os,ts,h1,h2,h3,h4,h5,h6⟩:=h
 ⟨dx,b,t,os,ts,s _ _ h1,s _ _ h2,h3.same s,s _ _ h4,h5.same s,h6⟩
inductive Pr where
 |no
 |oth (vs:List V)
 |two (u w:V) (r:Option (List V))
def PrT (K:Si) (H:Hp) (x:V):Pr->Prop
 | .no=>∃t,TyX K H x t/\Sj K t (.type "tuple")=some false
 | .oth vs=>∃p,x= .ref p/\H p=some (.tup vs)/\vs.length≠2
 | .two u w r=>∃p,x= .ref p/\H p=some (.tup [u,w])/\Sdb K H u r/\Tm K H w
theorem PrT.same {K:Si} {H H':Hp} {x:V} (s:Sn H H'):∀{r:Pr},PrT K H x r->PrT K H' x r
 | .no,⟨t,h1,h2⟩=>⟨t,Jte s h1,h2⟩
 | .oth _,⟨p,e,h1,h2⟩=>⟨p,e,s _ _ h1,h2⟩
 | .two _ _ _,⟨p,e,h1,h2,h3⟩=>⟨p,e,s _ _ h1,h2.same s,h3.same s⟩
def stB (R:Riv):Pr->Bool
 | .two _ w r=>Jmz w 0 R.c&&Joy r (R.Bs.map (·.lo)) (R.Bs.map (·.hi))
 |_=>false
def Jrx (n:Nat):V->Bool
 | .non=>true
 |w=>Jmz w 0 (n - 1)
def chB (R:Riv):Pr->Bool
 | .two _ w r=>Jrx R.Ts.length w&&Joy r (yt R.Bs.length 0) (R.Bs.map λB=>(B.n:Int) - 1)
 |_=>false
inductive Y7 (K:Si) (a:Ad) (vs:List V) (H:Hp) (Q:VK) (z3:XK):Prop where
 |mk (o:S5) (R:Riv) (x:V) (r:Pr) (_:vs= [.ref o,x]) (_:Saz K a H o R) (_:PrT K H x r) (_:∀H',Sn H H'->Q (.bl (stB R r)) H')
inductive Ycx (K:Si) (a:Ad) (vs:List V) (H:Hp) (Q:VK) (z3:XK):Prop where
 |mk (o:S5) (R:Riv) (x:V) (r:Pr) (_:vs= [.ref o,x]) (_:Saz K a H o R) (_:PrT K H x r) (_:∀H',Sn H H'->Q (.bl (chB R r)) H')
theorem Jw2:Jmp ["river","thing"] ["river","thing"] (Jml (top 23)):=⟨rfl,rfl,rfl,by decide +kernel,rfl,by decide +kernel,by decide +kernel⟩
theorem Jp6 (T:Tx K mg a):Sx P w K mg base CX0 3 a.Ji2 a.Ji3 ["river","thing"] (Y7 K a):=by
 have Sf2:=Jx4 (P:=P) (w:=w) (base:=base) T
 have Se6:=Jvu (P:=P) (w:=w) (base:=base) T
 have Sz:=Jnz (P:=P) (w:=w) (base:=base) T
 refine T.J6.fn.ok Jw2 (λvs H Q E h=>?_) (λcdv A outer s H vs Q E hr h=>?_)
 ·obtain ⟨o,R,x,r,rfl,_⟩:=h
  rfl
 ·obtain ⟨o,R,x,r,rfl,ro,rx,k⟩:=h
  refine ⟨?t,?B,?C⟩
  case B=>
   refine' Jmi ?O0 ?O1
   case O0=>
    refine' Jn6 ?O2 ?O3 ?O4
    case O2=>exact (PW.pt (Jt6 (Jn7 (Jnb (Jmn T.J5 Se6 hr (by decide) (So (pv 1) Ss)))) (Jrn (Jn7 (Jnb (Jmn T.J0 Sz hr (by decide) (So (Jmv Jn2 (pv 1) Sw (λ_ _=>rfl)) (So Sw (So (Jnh (pv 0) (by rfl)) Ss)))))))))
    case O3=>
     refine' Jmk ?O5
     case O5=>exact (Jms Joi)
    case O4=>exact Jmu
   case O1=>
   refine' Jmk ?O6
   case O6=>exact (Jms (Jmn T.J3 Sf2 hr (by decide) (So (Jmv Jn2 (pv 1) Sw (λ_ _=>rfl)) (So (Jng (N:=(["basin"]:List Str)) (ini:=[none]) rfl (Jsm (Jnh (pv 0) (by rfl))) (λ_ _ _ _ _=>(Jmr (i:=0) (by decide +kernel:(["basin"]:List Str).Nodup) rfl (ye rfl))) (λ_ _ _ _ _=>Jnf) (λ_ _ _ _ _=>(Jou (K:=K) rfl (pv 0) (by rfl)))) (So (Jng (N:=(["basin"]:List Str)) (ini:=[none]) rfl (Jsm (Jnh (pv 0) (by rfl))) (λ_ _ _ _ _=>(Jmr (i:=0) (by decide +kernel:(["basin"]:List Str).Nodup) rfl (ye rfl))) (λ_ _ _ _ _=>Jnf) (λ_ _ _ _ _=>(Jou (K:=K) rfl (pv 0) (by rfl)))) Ss)))))
  cases r with
  |no=>
   refine ⟨_,rfl,x,none,rfl,rx,_,rfl,Jnr ?_⟩
   exact Jnr (k _ λ_ _ h=>h)
  |oth vs=>
   obtain ⟨p,rfl,hp,ne⟩:=rx
   refine ⟨_,rfl,_,some vs,rfl,⟨p,rfl,hp⟩,_,rfl,ifT (by rw [show Yz (some vs)=false from decide_eq_false ne];rfl) ?_⟩
   exact Jnr (k _ λ_ _ h=>h)
  |two u y r=>
   obtain ⟨p,rfl,hp,rt,ty⟩:=rx
   obtain ⟨dx,b,t,os,ts,ho,hb,bl,ht,tl,n1,n2,n3⟩:=ro
   refine ⟨_,rfl,_,some [u,y],rfl,⟨p,rfl,hp⟩,_,rfl,Jni ?_⟩
   refine ⟨_,rfl,p,_,1,y,rfl,rfl,SqT.of hp,rfl,_,rfl,o,_,dx,_,_,rfl,ho,T.Jem,T.Jfl,rfl,y,0,R.c,rfl,ty,_,rfl,?_⟩
   cases ew:Jmz y 0 R.c with
   |false=>
    have e:stB R (.two u y r)=false:=by
     show (Jmz y 0 R.c&&_)=false
     rw [ew,yav]
    rw [e] at k
    exact Jnr (k _ λ_ _ h=>h)
   |true=>
    have e:stB R (.two u y r)=Joy r (R.Bs.map (·.lo)) (R.Bs.map (·.hi)):=by
     show (Jmz y 0 R.c&&_)=_
     rw [ew,ybm]
    rw [e] at k
    have len:=bl.len
    refine Jni ⟨_,rfl,p,_,0,u,rfl,rfl,SqT.of hp,rfl,?_⟩
    refine ⟨_,rfl,o,_,dx,_,_,rfl,ho,T.Jem,T.Jfn,rfl,b,rfl,⟨_,SqT.of hb⟩,λD hD=>?_⟩
    refine Jp2 ((R.Bs.map (·.lo)).map V.int) hD (by simp [len]) (by rw [yf];omega) hb ?_ ?_
    ·intro i x y H' Q' hx hy sm k'
     obtain ⟨ob,B,rfl,hB,dx,hb,gs⟩:=(bl.same sm).get hx
     rw [yj,yj,hB] at hy
     cases hy
     exact ⟨_,rfl,ob,_,dx,_,_,rfl,hb,T.Jeg,T.Jfd,rfl,k' _ λ_ _ h=>h⟩
    intro H1 s1 hD1
    refine ⟨_,rfl,o,_,dx,_,_,rfl,s1 _ _ ho,T.Jem,T.Jfn,rfl,b,rfl,⟨_,SqT.of (s1 _ _ hb)⟩,λD2 hD2=>?_⟩
    refine Jp2 ((R.Bs.map (·.hi)).map V.int) hD2 (by simp [len]) (by rw [yf];omega) (s1 _ _ hb) ?_ ?_
    ·intro i x y H' Q' hx hy sm k'
     obtain ⟨ob,B,rfl,hB,dx,hb,gs⟩:=(bl.same (s1.trans sm)).get hx
     rw [yj,yj,hB] at hy
     cases hy
     exact ⟨_,rfl,ob,_,dx,_,_,rfl,hb,T.Jeg,T.Jfe,rfl,k' _ λ_ _ h=>h⟩
    intro H2 s2 hD3
    exact ⟨u,r,D,D2,_,_,rfl,rt.same (s1.trans s2),s2 _ _ hD1,hD3,by simp,by rw [yf];omega,λH3 s3=>k _ ((s1.trans s2).trans s3)⟩
theorem Jy2:Jmp ["river","thing"] ["river","thing"] (Jml (top 24)):=⟨rfl,rfl,rfl,by decide +kernel,rfl,by decide +kernel,by decide +kernel⟩
theorem Jqx (T:Tx K mg a):Sx P w K mg base CX0 4 a.Ji4 a.Ji5 ["river","thing"] (Ycx K a):=by
 have Sby:=Jr1 (P:=P) (w:=w) (base:=base) T
 have Se6:=Jvu (P:=P) (w:=w) (base:=base) T
 have Sz:=Jnz (P:=P) (w:=w) (base:=base) T
 refine T.J7.fn.ok Jy2 (λvs H Q E h=>?_) (λcdv A outer s H vs Q E hr h=>?_)
 ·obtain ⟨o,R,x,r,rfl,_⟩:=h
  rfl
 ·obtain ⟨o,R,x,r,rfl,ro,rx,k⟩:=h
  refine ⟨?t,?B,?C⟩
  case B=>
   refine' Jmi ?O0 ?O1
   case O0=>
    refine' Jn6 ?O2 ?O3 ?O4
    case O2=>exact (Jn7 (Jnb (Jmn T.J5 Se6 hr (by decide) (So (pv 1) Ss))))
    case O3=>
     refine' Jmk ?O5
     case O5=>exact (Jms Joi)
    case O4=>exact Jmu
   case O1=>
   refine' Jmi ?O6 ?O7
   case O6=>
    refine' Jn6 ?O8 ?O9 ?Oa
    case O8=>exact (PW.pt (Jsn (Jna Yx (Jmv Jn2 (pv 1) Sw (λ_ _=>rfl)) Joa (Jn4 _)) (Jt5 (Jn7 (Jnb (Jmn T.J0 Sz hr (by decide) (So (Jmv Jn2 (pv 1) Sw (λ_ _=>rfl)) (So Sw (So (Jn0 Jo9 (Jmq Jn8 (by rfl) T.Jat Jof (So (Jnh (pv 0) (by rfl)) Ss)) Sw) Ss)))))))))
    case O9=>
     refine' Jmk ?Ob
     case Ob=>exact (Jms Joi)
    case Oa=>exact Jmu
   case O7=>
   refine' Jmk ?Oc
   case Oc=>exact (Jms (Jmn T.J4 Sby hr (by decide) (So (Jmv Jn2 (pv 1) Sw (λ_ _=>rfl)) (So (Jng (N:=(["basin"]:List Str)) (ini:=[none]) rfl (Jsm (Jnh (pv 0) (by rfl))) (λ_ _ _ _ _=>(Jmr (i:=0) (by decide +kernel:(["basin"]:List Str).Nodup) rfl (ye rfl))) (λ_ _ _ _ _=>Jnf) (λ_ _ _ _ _=>(Jn0 Jo9 (Jzx (P:=P) (w:=w) (K:=K) (mg:=mg) (base:=base) rfl rfl rfl rfl rfl (Jou (K:=K) rfl (pv 0) (by rfl)) hr) Sw))) Ss))))
  cases r with
  |no=>
   refine ⟨_,rfl,x,none,rfl,rx,_,rfl,Jnr ?_⟩
   exact k _ λ_ _ h=>h
  |oth vs=>
   obtain ⟨p,rfl,hp,ne⟩:=rx
   refine ⟨_,rfl,_,some vs,rfl,⟨p,rfl,hp⟩,_,rfl,ifT (by rw [show Yz (some vs)=false from decide_eq_false ne];rfl) ?_⟩
   exact k _ λ_ _ h=>h
  |two u y r=>
   obtain ⟨p,rfl,hp,rt,ty⟩:=rx
   obtain ⟨dx,b,t,os,ts,ho,hb,bl,ht,tl,n1,n2,n3⟩:=ro
   refine ⟨_,rfl,_,some [u,y],rfl,⟨p,rfl,hp⟩,_,rfl,Jni ?_⟩
   refine ⟨_,rfl,p,_,1,y,rfl,rfl,SqT.of hp,rfl,?_⟩
   have len:=bl.len
   have tlen:=tl.len
   by_cases hy:y= .non
   ·have et:Jrx R.Ts.length y=true:=by rw [hy];rfl
    refine ⟨rfl,_,rfl,ifF (by rw [decide_eq_true hy];rfl) ?_⟩
    refine Jni ?_
    have e:chB R (.two u y r)=Joy r (yt R.Bs.length 0) (R.Bs.map λB=>(B.n:Int) - 1):=by
     show (Jrx R.Ts.length y&&_)=_
     rw [et,ybm]
    rw [e] at k
    refine ⟨_,rfl,p,_,0,u,rfl,rfl,SqT.of hp,rfl,?_⟩
    refine ⟨_,rfl,o,_,dx,_,_,rfl,ho,T.Jem,T.Jfn,rfl,b,rfl,⟨_,SqT.of hb⟩,λD hD=>?_⟩
    refine Jp2 ((R.Bs.map λB=>(B.n:Int) - 1).map V.int) hD (by simp [len]) (by rw [yf];omega) hb ?_ ?_
    ·intro i x y H' Q' hx hy sm k'
     obtain ⟨ob,B,rfl,hB,dx,hb,gs⟩:=(bl.same sm).get hx
     rw [yj,yj,hB] at hy
     cases hy
     exact ⟨_,rfl,ob,_,dx,_,_,rfl,hb,T.Jeg,T.Jfh,rfl,Jot T gs ⟨_,_,rfl,rfl,k' _ λ_ _ h=>h⟩ (by decide)⟩
    intro H1 s1 hD1
    exact ⟨u,r,D,_,rfl,rt.same s1,hD1,by rw [yf];omega,λH3 s3=>by rw [yf];exact k _ (s1.trans s3)⟩
   ·refine ⟨rfl,_,rfl,ifT (by rw [decide_eq_false hy];rfl) ?_⟩
    have eT:Jrx R.Ts.length y=Jmz y 0 ((R.Ts.length:Int) - 1):=by
     cases y <;> first|rfl|exact absurd rfl hy
    refine ⟨_,rfl,p,_,1,y,rfl,rfl,SqT.of hp,rfl,?_⟩
    refine ⟨_,rfl,o,_,dx,_,_,rfl,ho,T.Jem,T.Jfo,rfl,t,_,rfl,.inr (SqT.of ht),_,_,rfl,rfl,y,0,(R.Ts.length:Int) - 1,by rw [yf,tlen];rfl,ty,_,rfl,?_⟩
    cases ew:Jmz y 0 ((R.Ts.length:Int) - 1) with
    |false=>
     have e:chB R (.two u y r)=false:=by
      show (Jrx R.Ts.length y&&_)=false
      rw [eT,ew,yav]
     rw [e] at k
     exact Jnr (k _ λ_ _ h=>h)
    |true=>
     have et:=eT.trans ew
     refine Jni ?_
     have e:chB R (.two u y r)=Joy r (yt R.Bs.length 0) (R.Bs.map λB=>(B.n:Int) - 1):=by
      show (Jrx R.Ts.length y&&_)=_
      rw [et,ybm]
     rw [e] at k
     refine ⟨_,rfl,p,_,0,u,rfl,rfl,SqT.of hp,rfl,?_⟩
     refine ⟨_,rfl,o,_,dx,_,_,rfl,ho,T.Jem,T.Jfn,rfl,b,rfl,⟨_,SqT.of hb⟩,λD hD=>?_⟩
     refine Jp2 ((R.Bs.map λB=>(B.n:Int) - 1).map V.int) hD (by simp [len]) (by rw [yf];omega) hb ?_ ?_
     ·intro i x y H' Q' hx hy sm k'
      obtain ⟨ob,B,rfl,hB,dx,hb,gs⟩:=(bl.same sm).get hx
      rw [yj,yj,hB] at hy
      cases hy
      exact ⟨_,rfl,ob,_,dx,_,_,rfl,hb,T.Jeg,T.Jfh,rfl,Jot T gs ⟨_,_,rfl,rfl,k' _ λ_ _ h=>h⟩ (by decide)⟩
     intro H1 s1 hD1
     exact ⟨u,r,D,_,rfl,rt.same s1,hD1,by rw [yf];omega,λH3 s3=>by rw [yf];exact k _ (s1.trans s3)⟩
def Jqr (R:Riv) (wet:Int):Int:=
 if (R.Bs.map (·.rn)).sum < (if 0 > wet+R.g - R.c then 0 else wet+R.g - R.c) then (R.Bs.map (·.rn)).sum else (if 0 > wet+R.g - R.c then 0 else wet+R.g - R.c)
inductive Ycy (K:Si) (a:Ad) (vs:List V) (H:Hp) (Q:VK) (z3:XK):Prop where
 |mk (o:S5) (R:Riv) (wet:Int) (_:vs= [.ref o,.int wet]) (_:Saz K a H o R) (_:∀H',Sn H H'->Q (.int (Jqr R wet)) H')
theorem Yb6 {Bs:List Bsn} (n1:Bs.length<=16) (n3:∀B∈Bs,0<=B.rn/\B.rn<=6):Sml (Bs.map (·.rn)):=by
 refine ⟨by rw [yf];omega,λn hn=>?_⟩
 obtain ⟨B,hB,rfl⟩:=yaj.mp hn
 have:=n3 B hB
 omega
def Jq1:V->Int
 | .int i=>i
 |_=>0
def Jq7:Pr->Int
 | .two _ w _=>Jq1 w
 |_=>0
def Jy7 (vs:List V):Int:=(vs.map Jq1).sum
def rnB (R:Riv) (wet:Int):Option (List V)->Bool
 |some vs=>Joy (some vs) (yt R.Bs.length 0) (R.Bs.map (·.rn))&&(decide (Jqr R wet<=Jy7 vs)&&decide (Jy7 vs<=wet))
 |none=>false
inductive Sna (K:Si) (a:Ad) (vs:List V) (H:Hp) (Q:VK) (E:XK):Prop where
 |mk (o:S5) (R:Riv) (z:V) (q:Pr) (x:V) (r:Option (List V)) (_:vs= [.ref o,z,x]) (_:Saz K a H o R) (_:PrT K H z q) (_:Sdb K H x r) (_:(if stB R q=true then ∀H',Sn H H'->Q (.bl (rnB R (Jq7 q) r)) H' else ∀c eo H',RfC a.Jlz H H' z c eo->E c eo H'))
theorem Sng {R:Riv} {q:Pr} (h:stB R q=true):∃u wt rr,q= .two u (.int wt) rr/\(0<=wt/\wt<=R.c):=by
 cases q with
 |no=>cases h
 |oth vs=>cases h
 |two u w r=>
  have h1:Jmz w 0 R.c=true:=by
   cases e:Jmz w 0 R.c with
   |true=>rfl
   |false=>
    have:(Jmz w 0 R.c&&Joy r (R.Bs.map (·.lo)) (R.Bs.map (·.hi)))=true:=h
    rw [e,yav] at this
    exact this
  obtain ⟨i,rfl⟩:=Jp3 h1
  refine ⟨u,i,r,rfl,?_⟩
  have h2:(decide (0<=i)&&decide (i<=R.c))=true:=h1
  simpa using h2
theorem Yae:∀{vs:List V} {n:Nat} {hs:List Int},vs.length=n->n=hs.length->(wl vs (yt n 0) hs).all id=true->∃ns:List Int,vs=ns.map V.int/\ns.length=n/\∀k∈ns,0<=k/\∃h∈hs,k<=h
 | [],_,_,e,_,_=>⟨[],rfl,e,λ_ h=>nomatch h⟩
 |_::_,0,_,e,_,_=>by simp at e
 |_::_,_+1,[],_,e,_=>by simp at e
 |v::vs,n+1,h::hs,e1,e2,a=>by
  have a':(Jmz v 0 h&&(wl vs (yt n 0) hs).all id)=true:=a
  rw [yx] at a'
  obtain ⟨ns,rfl,l,q⟩:=Yae (vs:=vs) (n:=n) (hs:=hs) (by simpa using e1) (by simpa using e2) a'.2
  obtain ⟨i,rfl⟩:=Jp3 a'.1
  have h2:(decide (0<=i)&&decide (i<=h))=true:=a'.1
  have h3:0<=i/\i<=h:=by simpa using h2
  refine ⟨i::ns,rfl,by rw [yai,l],λk hk=>?_⟩
  rcases yk.mp hk with rfl|hk
  ·exact ⟨h3.1,h,yan ..,h3.2⟩
  ·obtain ⟨g1,x,hx,g2⟩:=q k hk
   exact ⟨g1,x,yac _ hx,g2⟩
theorem Jyz {R:Riv} {r:Option (List V)} (h:Joy r (yt R.Bs.length 0) (R.Bs.map (·.rn))=true) (n1:R.Bs.length<=16) (n3:∀B∈R.Bs,0<=B.rn/\B.rn<=6):∃(vs:List V) (ns:List Int),r=some vs/\vs=ns.map V.int/\Sml ns:=by
 cases r with
 |none=>cases h
 |some vs=>
  have h':(decide (vs.length=(yt R.Bs.length (0:Int)).length)&&(wl vs (yt R.Bs.length 0) (R.Bs.map (·.rn))).all id)=true:=h
  rw [yx] at h'
  have e1:vs.length=R.Bs.length:=by simpa using h'.1
  obtain ⟨ns,rfl,l,q⟩:=Yae e1 (by simp) h'.2
  refine ⟨_,ns,rfl,rfl,by omega,λn hn=>?_⟩
  obtain ⟨g1,x,hx,g2⟩:=q n hn
  obtain ⟨B,hB,rfl⟩:=yaj.mp hx
  have:=n3 B hB
  omega
theorem Jx7 (ns:List Int):Jy7 (ns.map V.int)=ns.sum:=by
 show ((ns.map V.int).map Jq1).sum=_
 rw [ybb]
 congr 1
 exact (List.map_congr_left λ_ _=>rfl).trans (List.map_id _)
theorem Sd0:Jmp ["river","wet","too_many"] ["river","wet"] (Jml (top 25)):=⟨rfl,rfl,rfl,by decide +kernel,rfl,by decide +kernel,by decide +kernel⟩
theorem Jvs (T:Tx K mg a):Sx P w K mg base CX0 1 a.Ji6 a.Ji7 ["river","wet"] (Ycy K a):=by
 refine T.J8.fn.ok Sd0 (λvs H Q E h=>?_) (λcdv A outer s H vs Q E hr h=>?_)
 ·obtain ⟨o,R,wet,rfl,_⟩:=h
  rfl
 ·obtain ⟨o,R,wet,rfl,ro,k⟩:=h
  refine ⟨?t,?B,?C⟩
  case B=>
   refine' Jmi ?O0 ?O1
   case O0=>exact (Jmt (i:=2) Sd0.nd rfl (ye rfl) (Jmq (Jp8 rfl) (by rfl) T.Jav Jsd (So (Jn0 Jo9 (Jn0 Jnp (pv 1) (Jnh (pv 0) (by rfl))) (Jnh (pv 0) (by rfl))) (So Sw Ss))))
   case O1=>
   refine' Jmk ?O2
   case O2=>exact (Jms (Jmq (Jp0 rfl) (by rfl) T.Jaw Jr9 (So (pv 2) (So (Jmq (Jqg rfl) (by rfl) T.Jb0 Jtm (So (Jng (N:=(["basin"]:List Str)) (ini:=[none]) rfl (Jsm (Jnh (pv 0) (by rfl))) (λ_ _ _ _ _=>(Jmr (i:=0) (by decide +kernel:(["basin"]:List Str).Nodup) rfl (ye rfl))) (λ_ _ _ _ _=>Jnf) (λ_ _ _ _ _=>(Jou (K:=K) rfl (pv 0) (by rfl)))) Ss)) Ss))))
  obtain ⟨dx,b,t,os,ts,ho,hb,bl,ht,tl,n1,n2,n3⟩:=ro
  have len:=bl.len
  refine ⟨_,rfl,_,rfl,o,_,dx,_,_,rfl,ho,T.Jem,T.Jfm,rfl,_,_,rfl,rfl,?_⟩
  refine ⟨_,rfl,o,_,dx,_,_,rfl,ho,T.Jem,T.Jfl,rfl,_,_,rfl,rfl,_,_,rfl,?_⟩
  refine ⟨_,rfl,_,rfl,o,_,dx,_,_,rfl,ho,T.Jem,T.Jfn,rfl,b,rfl,⟨_,SqT.of hb⟩,λD hD=>?_⟩
  refine Jp2 ((R.Bs.map (·.rn)).map V.int) hD (by simp [len]) (by rw [yf];omega) hb ?_ ?_
  ·intro i x y H' Q' hx hy sm k'
   obtain ⟨ob,B,rfl,hB,dx,hb,gs⟩:=(bl.same sm).get hx
   rw [yj,yj,hB] at hy
   cases hy
   exact ⟨_,rfl,ob,_,dx,_,_,rfl,hb,T.Jeg,T.Jfg,rfl,k' _ λ_ _ h=>h⟩
  intro H1 s1 hD1
  exact ⟨D,_,rfl,.inl (Sy.of hD1),Yb6 n1 n3,_,_,rfl,k _ s1⟩
theorem Jqz:Jmp ["self","thing"] ["self","thing"] (Jml (Jmw (top 9) 0)):=⟨rfl,rfl,rfl,by decide +kernel,rfl,by decide +kernel,by decide +kernel⟩
theorem Jox (T:Tx K mg a):Sx P w K mg base CX0 1 a.Jhi a.Jhj ["self","thing"] (Jpk K "thing"):=by
 refine T.Jcl.fn.ok Jqz (λvs H Q E h=>?_) (λcdv A outer s H vs Q E hr h=>?_)
 ·obtain ⟨e,C,W,fI,y,rfl,_⟩:=h
  rfl
 ·obtain ⟨e,C,W,fI,y,rfl,q,c,n,k⟩:=h
  refine ⟨_,(Jmk (Jph (pv 0) (pv 1) rfl)),?_⟩
  exact ⟨_,rfl,_,rfl,e,C,W,fI,true,rfl,q,c,n,k⟩
theorem Y2:Jmp ["river","standing","thing"] ["river","standing","thing"] (Jml (top 26)):=⟨rfl,rfl,rfl,by decide +kernel,rfl,by decide +kernel,by decide +kernel⟩
theorem Jvv (T:Tx K mg a):Sx P w K mg base (CXX P w) 4 a.Ji8 a.Ji9 ["river","standing","thing"] (Sna K a):=by
 have Sby:=Jr1 (P:=P) (w:=w) (base:=base) T
 have Saj:=Jp6 (P:=P) (w:=w) (base:=base) T
 have Sff:=Jvs (P:=P) (w:=w) (base:=base) T
 have Saa:=Jox (P:=P) (w:=w) (base:=base) T
 refine T.J9.fn.okX Y2 (λvs H Q E h=>?_) (λcdv A outer s H vs Q E hr h=>?_)
 ·obtain ⟨o,R,z,q,x,r,rfl,_⟩:=h
  rfl
 ·obtain ⟨o,R,z,q,x,r,rfl,ro,pz,rx,k⟩:=h
  refine ⟨?t,?B,?C⟩
  case B=>
   refine' Jmi ?O0 ?O1
   case O0=>
    refine' Jn6 ?O2 ?O3 ?O4
    case O2=>exact (Jn7 (Jnb (Jmn T.J6 Saj hr (by decide) (So (pv 0) (So (pv 1) Ss)))))
    case O3=>
     refine' Jmk ?O5
     case O5=>exact (Jnl Jnn rfl (Jo4 T.Jdf Saa hr (by decide) T.Jcl.bd T.Jba (So (pv 1) Ss)))
    case O4=>exact Jmu
   case O1=>
   refine' Jmi ?O6 ?O7
   case O6=>
    refine' Jn6 ?O8 ?O9 ?Oa
    case O8=>exact (Jn7 (Jnb (Jmn T.J4 Sby hr (by decide) (So (pv 2) (So (Jng (N:=(["basin"]:List Str)) (ini:=[none]) rfl (Jsm (Jnh (pv 0) (by rfl))) (λ_ _ _ _ _=>(Jmr (i:=0) (by decide +kernel:(["basin"]:List Str).Nodup) rfl (ye rfl))) (λ_ _ _ _ _=>Jnf) (λ_ _ _ _ _=>(Jou (K:=K) rfl (pv 0) (by rfl)))) Ss)))))
    case O9=>
     refine' Jmk ?Ob
     case Ob=>exact (Jms Joi)
    case Oa=>exact Jmu
   case O7=>
   refine' Jmk ?Oc
   case Oc=>exact (Jms (Jw0 Jq4 Jq4 (Jmn T.J8 Sff hr (by decide) (So (pv 0) (So (Jmv Jn2 (pv 1) Sw (λ_ _=>rfl)) Ss))) (Jmq (Jqg rfl) (by rfl) T.Jb0 Jtm (So (pv 2) Ss)) (Jmv Jn2 (pv 1) Sw (λ_ _=>rfl))))
  refine ⟨_,rfl,_,rfl,o,R,z,q,rfl,ro,pz,λH1 s1=>⟨_,rfl,?_⟩⟩
  cases es:stB R q with
  |false=>
   rw [es] at k
   exact Jnr (Jny T.Jdf T.Jet rfl λe dx h1 h2 h3=>k _ _ _ ((RfC.new h1 h2 h3).of s1))
  |true=>
   rw [if_pos es] at k
   obtain ⟨u,wt,rr,rfl,ew⟩:∃u wt rr,q= .two u (.int wt) rr/\(0<=wt/\wt<=R.c):=Sng es
   obtain ⟨p,rfl,hp,_,_⟩:=pz
   obtain ⟨dx,b,t,os,ts,ho,hb,bl,ht,tl,n1,n2,n3⟩:=ro.same s1
   have len:=bl.len
   refine Jni ⟨_,rfl,_,rfl,o,_,dx,_,_,rfl,ho,T.Jem,T.Jfn,rfl,b,rfl,⟨_,SqT.of hb⟩,λD hD=>?_⟩
   refine Jp2 ((R.Bs.map (·.rn)).map V.int) hD (by simp [len]) (by rw [yf];omega) hb ?_ ?_
   ·intro i x y H' Q' hx hy sm k'
    obtain ⟨ob,B,rfl,hB,dx,hb,gs⟩:=(bl.same sm).get hx
    rw [yj,yj,hB] at hy
    cases hy
    exact ⟨_,rfl,ob,_,dx,_,_,rfl,hb,T.Jeg,T.Jfg,rfl,k' _ λ_ _ h=>h⟩
   intro H2 s2 hD1
   refine ⟨x,r,D,_,rfl,rx.same (s1.trans s2),hD1,by rw [yf];omega,λH3 s3=>⟨_,rfl,?_⟩⟩
   rw [yf]
   have s13:=(s1.trans s2).trans s3
   cases er:Joy r (yt R.Bs.length 0) (R.Bs.map (·.rn)) with
   |false=>
    have e:rnB R (Jq7 (.two u (.int wt) rr)) r=false:=by
     cases r with
     |none=>rfl
     |some vs=>
      show (Joy (some vs) _ _&&_)=false
      rw [er,yav]
    rw [e] at k
    exact Jnr (k _ s13)
   |true=>
    obtain ⟨vs,ns,rfl,rfl,hns⟩:=Jyz er n1 n3
    obtain ⟨px,rfl,hpx,_,_⟩:=rx
    refine Jni ⟨_,rfl,_,rfl,p,_,1,_,rfl,rfl,SqT.of (s13 _ _ hp),rfl,o,R,wt,rfl,ro.same s13,λH4 s4=>?_⟩
    have s14:=s13.trans s4
    refine ⟨_,rfl,px,ns,rfl,.inr (SqT.of (s14 _ _ hpx)),hns,?_⟩
    have e:rnB R (Jq7 (.two u (.int wt) rr)) (some (ns.map V.int))=(decide (Jqr R wt<=ns.sum)&&decide (ns.sum<=wt)):=by
     show (Joy (some (ns.map V.int)) _ _&&(decide (Jqr R wt<=Jy7 (ns.map V.int))&&decide (Jy7 (ns.map V.int)<=wt)))=_
     rw [er,ybm,Jx7]
    rw [e] at k
    refine ⟨_,_,rfl,rfl,_,rfl,?_⟩
    cases ef:decide (Jqr R wt<=ns.sum) with
    |false=>
     rw [ef,yav] at k
     exact Jni (k _ s14)
    |true=>
     rw [ef,ybm] at k
     exact Jnr ⟨_,rfl,p,_,1,_,rfl,rfl,SqT.of (s14 _ _ hp),rfl,_,_,rfl,rfl,k _ s14⟩
structure Ltr (n:Nat) (z:Str):Prop where
 len:z.length<=n
 inn:∀c∈z.cps.toList,c∈LET.cps.toList
theorem Ltr.app {n m:Nat} {x y:Str} (a:Ltr n x) (b:Ltr m y):Ltr (n+m) (x++y):=by
 refine ⟨by rw [Str.length_append];have:=a.len;have:=b.len;omega,λc hc=>?_⟩
 have e:(x++y).cps=x.cps++y.cps:=rfl
 rw [e,Array.toList_append,ybn] at hc
 exact hc.elim (a.inn c) (b.inn c)
theorem Ltr.wd {n:Nat} {z:Str} (a:Ltr n z):Wd n z:=⟨a.len,λc hc=>So0.low c (a.inn c hc)⟩
theorem Ltr.sign {c:Nat} (h:c∈LET.cps.toList):Ltr 1 (⟨#[c]⟩:Str):=⟨yl 1,λd hd=>by
 have:d=c:=by simpa using hd
 rw [this];exact h⟩
theorem Yca (ys:List Str) (h:∀y∈ys,Ltr 1 y):Ltr ys.length (Txt.join ("" :Str) ys):=by
 have e0:∀l:List Str,(∀y∈l,Ltr 1 y)->Ltr l.length (Str.join ("" :Str) l):=by
  intro l
  induction l with
  |nil=>intro _;exact ⟨yl _,λc hc=>by simp [Str.join,Str.empty] at hc⟩
  |cons y r ih=>
   intro hy
   have hr:=ih λz hz=>hy z (yac _ hz)
   have h1:=hy y yan
   cases r with
   |nil=>exact h1
   |cons z r'=>
    have:Str.join ("" :Str) (y::z::r')=y++("" :Str)++Str.join ("" :Str) (z::r'):=rfl
    rw [this]
    have hE:Ltr 0 ("" :Str):=⟨by decide +kernel,λc hc=>absurd hc (by
     have:("" :Str).cps.toList= []:=by decide +kernel
     rw [this];simp)⟩
    have q:=(h1.app hE).app hr
    exact ⟨yam q.len (by simp only [yai];omega),q.inn⟩
 have e1:Txt.join ("" :Str) ys=Str.join ("" :Str) ys:=by
  have:=join_plain_closes ("" :Str) ys
  exact beq_iff_eq.mp this
 rw [e1]
 exact e0 ys h
def NmK (f:Int) (k:Nat) (z:Str):Prop:=∃(c:Nat) (s:Str),z=(⟨#[c]⟩:Str)++s/\Ltr 7 s/\atI LET.cps.toList ((f+11*(k:Int))%26)=some c
theorem NmK.mem {f:Int} {k:Nat} {z:Str} (h:NmK f k z):Ltr 8 z/\Jrd z=true:=by
 obtain ⟨c,s,rfl,hs,hc⟩:=h
 have hl:LET.length=26:=by decide +kernel
 obtain ⟨c',m,e⟩:=Jzb (g:=LET) (r:=(f+11*(k:Int))%26) (by omega) (by rw [hl];omega)
 rw [hc] at e
 cases e
 have q:=(Ltr.sign m).app hs
 refine ⟨q,?_⟩
 unfold Jrd Jwt
 rw [yx]
 refine ⟨decide_eq_true ⟨?_,q.len⟩,yar.mpr λd hd=>decide_eq_true (q.inn d hd)⟩
 rw [Str.length_append]
 show 1<=1+s.length
 omega
theorem Ye4 {i j:Int} {c:Nat} (i0:0<=i) (i1:i < 26) (j0:0<=j) (j1:j < 26) (hi:atI LET.cps.toList i=some c) (hj:atI LET.cps.toList j=some c):i=j:=by
 have all:(yaz 26).all (λp=>(yaz 26).all λq=>decide (p=q)||!decide (atI LET.cps.toList (p:Int)=atI LET.cps.toList (q:Int)))=true:=by decide +kernel
 obtain ⟨p,rfl⟩:=ybg i0
 obtain ⟨q,rfl⟩:=ybg j0
 have h1:=yar.mp all p (ybh.mpr (by omega))
 have h2:=yar.mp h1 q (ybh.mpr (by omega))
 rw [hi,hj] at h2
 simp at h2
 rw [h2]
theorem NmK.ne {f:Int} {j k:Nat} {z:Str} (hj:j < 26) (hk:k < 26) (a:NmK f j z) (b:NmK f k z):j=k:=by
 obtain ⟨c,s,rfl,_,h1⟩:=a
 obtain ⟨d,t,e,_,h2⟩:=b
 have e1:((⟨#[c]⟩:Str)++s).cps.toList=((⟨#[d]⟩:Str)++t).cps.toList:=by rw [e]
 have e2:∀(x:Nat) (y:Str),((⟨#[x]⟩:Str)++y).cps.toList=x::y.cps.toList:=λx y=>by
  show (#[x]++y.cps).toList=_
  rw [Array.toList_append]
  rfl
 rw [e2,e2] at e1
 cases List.head_eq_of_cons_eq e1
 have:=Ye4 (by omega) (by omega) (by omega) (by omega) h1 h2
 omega
def Nms (f:Int) (zs:List Str):Prop:=∀k z,zs[k]?=some z->NmK f k z
theorem Nms.nodup {f:Int} {zs:List Str} (h:Nms f zs) (hl:zs.length<=26):zs.Nodup:=by
 unfold List.Nodup
 rw [List.pairwise_iff_getElem]
 intro i j hi hj hij e
 have a:=h i zs[i] (yh hi)
 have b:=h j zs[j] (yh hj)
 rw [<-e] at b
 have:=NmK.ne (by omega) (by omega) a b
 omega
theorem Jyi (ys:List Str) (lo hi:Option Int):∃us:List Str,Jxe (ys.map V.str) lo hi=us.map V.str/\us.Sublist ys:=by
 unfold Jxe
 refine ⟨(ys.drop (HT.sIx (ys.map V.str).length 0 lo)).take (HT.sIx (ys.map V.str).length (ys.map V.str).length hi - HT.sIx (ys.map V.str).length 0 lo),?_,(List.take_sublist _ _).trans (List.drop_sublist _ _)⟩
 rw [List.map_take,List.map_drop]
inductive Yev (vs:List V) (H:Hp) (Q:VK) (z3:XK):Prop where
 |mk (p:S5) (m:Nat) (_:vs= [.ref p,.int m]) (_:Sbb H p) (_:m<=26) (_:∀(l:S5) (f:Int) (zs:List Str) (H':Hp),H l=none->But p H H'->H' l=some (.lst (zs.map V.str))->zs.length=m->Nms f zs->Q (.ref l) H')
theorem Sbe:Jmp ["_law_stream_here","_law_many","_law_letters","_law_first","_law_base","_law_cut"] ["_law_stream_here","_law_many"] (Jml (top 71)):=⟨rfl,rfl,rfl,by decide +kernel,rfl,by decide +kernel,by decide +kernel⟩
theorem Jxo (T:Tx K mg a):Sx P w K mg base CX0 2 a.Jkg a.Jkh ["_law_stream_here","_law_many"] Yev:=by
 have Sr:=Jon (P:=P) (w:=w) (base:=base) T
 refine T.Jt.fn.ok Sbe (λvs H Q E h=>?_) (λcdv A outer s H vs Q E hr h=>?_)
 ·obtain ⟨p,m,rfl,_⟩:=h
  rfl
 ·obtain ⟨p,m,rfl,st,hm,k⟩:=h
  refine ⟨?t,?B,?C⟩
  case B=>
   refine' Jmi ?O0 ?O1
   case O0=>exact (Jmt (i:=2) Sbe.nd rfl (Or.inr rfl) Joo)
   case O1=>
   refine' Jmi ?O2 ?O3
   case O2=>exact (Jmt (i:=3) Sbe.nd rfl (Or.inr rfl) (Jmn T.Js Sr hr (by decide) (So (pv 0) (So Sw Ss))))
   case O3=>
   refine' Jmi ?O4 ?O5
   case O4=>exact (Jmt (i:=4) Sbe.nd rfl (Or.inr rfl) (Jng (N:=(["_law_k","_law_letters","_law_stream_here"]:List Str)) (ini:=[none,some 2,some 0]) rfl (Jpb (by rfl) T.Jax (So Sw Ss)) (λ_ _ _ _ _=>(Jmr (i:=0) (by decide +kernel:(["_law_k","_law_letters","_law_stream_here"]:List Str).Nodup) rfl (ye rfl))) (λ_ _ _ _ _=>Jnf) (λ_ _ _ _ _=>(Jmv Yc9 (pv 1) (Jmn T.Js Sr hr (by decide) (So (pv 2) (So Sw Ss))) (λ_ _=>rfl)))))
   case O5=>
   refine' Jmi ?O6 ?O7
   case O6=>exact (Jmt (i:=5) Sbe.nd rfl (Or.inr rfl) (Jmn T.Js Sr hr (by decide) (So (pv 0) (So Sw Ss))))
   case O7=>
   refine' Jmk ?O8
   case O8=>exact (Jms (Jng (N:=(["_law_k","_law_letters","_law_base","_law_first","_law_cut"]:List Str)) (ini:=[none,some 2,some 4,some 3,some 5]) rfl (Jpb (by rfl) T.Jax (So (pv 1) Ss)) (λ_ _ _ _ _=>(Jmr (i:=0) (by decide +kernel:(["_law_k","_law_letters","_law_base","_law_first","_law_cut"]:List Str).Nodup) rfl (ye rfl))) (λ_ _ _ _ _=>Jnf) (λ_ _ _ _ _=>(Jn0 Jzt (Jmv Yc9 (pv 1) (Jn0 Jri (Jn0 Jnp (pv 3) (Jn0 Jrj Sw (pv 0))) Sw) (λ_ _=>rfl)) (Smq (K:=K) rfl F.plainAttrs_str F.slot_str_join F.type_str_join (Ycd (K:=K) rfl) Joo (So (Jt3 (Ycs (K:=K) rfl) (pv 2) Jv1 (Jv2 (Jn0 Jri (Jn0 Jnp (pv 4) (Jn0 Jrj Sw (pv 0))) Sw))) Ss))))))
  refine ⟨_,rfl,p,26,rfl,st,by decide,by decide,λf H1 f0 f1 b1=>⟨_,rfl,by omega,by omega,λD hD=>?_⟩⟩
  have neD:D≠p:=b1.2.ne hD
  refine Jse (D:=D) (λi σ H'=>∃(o:Option V) (ys:List Str),σ= [o,some (.str LET),some (.ref p)]/\H' D=some (.lst (ys.map V.str))/\ys.length=i/\(∀y∈ys,Ltr 1 y)/\But p H1 H')
   ?_ ?_ ?_
  ·exact ⟨none,[],rfl,Sv,rfl,(λy hy=>absurd hy (by simp)),But.of b1.2 (Sn.upd hD)⟩
  ·rintro i σ H' hi ⟨o,ys,rfl,hDs,hl,hw,b⟩
   refine Jo7 ⟨_,rfl,_,rfl,p,26,rfl,b.2,by decide,by decide,λr H2 r0 r1 b2=>?_⟩
   obtain ⟨c,hc,hat⟩:=Jzb (g:=LET) r0 (by
    have:LET.length=26:=by decide +kernel
    omega)
   refine ⟨LET,r,c,rfl,rfl,Jps _ (by decide +kernel),hat,ys.map V.str,b2.1 D _ neD hDs,?_,_,ys++ [⟨#[c]⟩],rfl,?_,?_,?_,(b.trans b2).new hD b1.2⟩
   ·rw [yf]
    exact Jne (by omega)
   ·rw [Sv,yal]
    rfl
   ·rw [yah]
    show ys.length+1=i+1
    omega
   ·intro y hy
    rcases ybn.mp hy with hy|hy
    ·exact hw y hy
    ·rw [yca.mp hy]
     exact Ltr.sign hc
  rintro σ H2 ⟨o,ys,rfl,hDs,hl,hw,b⟩
  have b2:=b1.trans b
  refine ⟨_,rfl,p,8,rfl,b2.2,by decide,by decide,λct H3 c0 c1 b3=>?_⟩
  have hD3:=b3.1 D _ neD hDs
  have b4:=b2.trans b3
  refine ⟨_,rfl,_,rfl,by omega,by omega,λD2 hD2=>?_⟩
  have ne2:D≠D2:=λe=>by rw [e,hD2] at hD3;cases hD3
  refine Jse (D:=D2) (λi σ H'=>∃(o:Option V) (zs:List Str),σ= [o,some (.str LET),some (.ref D),some (.int f),some (.int ct)]/\H' D2=some (.lst (zs.map V.str))/\zs.length=i/\Nms f zs/\Sn H3 H')
   ⟨none,[],rfl,Sv,rfl,λk z e=>by simp at e,Sn.upd hD2⟩ ?_ ?_
  ·rintro i σ H' hi ⟨o,zs,rfl,hDs2,hl2,hz,sm⟩
   obtain ⟨c,hc,hat⟩:=Jzb (g:=LET) (r:=(f+11*(0+(i:Int)))%26) (by omega) (by
    have:LET.length=26:=by decide +kernel
    omega)
   refine Jo7 ⟨_,rfl,_,rfl,_,rfl,_,_,rfl,rfl,.inl (by decide),_,_,rfl,rfl,_,_,rfl,rfl,(show (0:Int) < 26 by decide),LET,_,c,rfl,rfl,Jps _ (by decide +kernel),hat,?_⟩
   refine ⟨rfl,_,rfl,_,rfl,_,rfl,_,_,rfl,rfl,.inl (by decide),_,_,rfl,rfl,_,_,rfl,rfl,(show (0:Int) < 8 by decide),_,rfl,D,_,rfl,Sy.of (sm _ _ hD3),λq hq=>?_⟩
   obtain ⟨us,eu,hus⟩:=Jyi ys none (some ((ct+3*(0+(i:Int)))%8))
   have hu1:∀y∈us,Ltr 1 y:=λy hy=>hw y (hus.subset hy)
   have hul:us.length<=7:=by
    have:=hus.length_le
    omega
   have hs1:=Ya8 us λy hy=>(hu1 y hy).wd
   have jl:=Yca us hu1
   have sq:=Sn.upd (o:=.lst (Jxe (ys.map V.str) none (some ((ct+3*(0+(i:Int)))%8)))) hq
   refine ⟨"",q,us,rfl,rfl,Sy.of (by rw [Sv,eu]),?_,_,_,rfl,rfl,?_,_,sq _ _ hDs2,?_,_,zs++ [(⟨#[c]⟩:Str)++Txt.join ("" :Str) us],rfl,?_,?_,?_,?_⟩
   ·have:("" :Str).length=0:=by decide +kernel
    rw [this]
    omega
   ·have:=jl.len
    show 1+_<=Sa
    exact Jps _ (by omega)
   ·rw [yf]
    exact Jne (by omega)
   ·rw [Sv,yal]
    rfl
   ·rw [yah]
    show zs.length+1=i+1
    omega
   ·intro j z ej
    rw [List.getElem?_append] at ej
    split at ej
    ·exact hz j z ej
    ·have hj:j=i:=by
      have:=(yo.mp ej).1
      simp at this
      omega
     subst hj
     rw [hl2,Nat.sub_self] at ej
     cases ej
     refine ⟨c,_,rfl,⟨yam jl.len hul,jl.inn⟩,?_⟩
     rw [<-hat,Int.zero_add]
   ·intro b o e
    rw [Jmm (Jmo e hD2)]
    exact sq _ _ (sm _ _ e)
  ·rintro σ H4 ⟨o,zs,rfl,hDs2,hl2,hz,sm⟩
   have hn:H D2=none:=by
    cases e:H D2 with
    |none=>rfl
    |some u=>
     by_cases hp:D2=p
     ·subst hp
      obtain ⟨_,_,_,q⟩:=b4.2
      rw [hD2] at q
      cases q
     ·rw [b4.1 _ _ hp e] at hD2
      cases hD2
   exact k D2 f zs H4 hn (b4.same sm) hDs2 (by omega) hz
theorem Jue:∀(ns:List Int) (lo m n:Int),Jo8 lo (ns.map V.int)=true->ns.getLast?=some m->m+1<=n->n<=12->Jo8 lo ((ns++ [n]).map V.int)=true
 | [],_,_,_,_,h,_,_=>by simp at h
 | [x],lo,m,n,h,hl,h1,h2=>by
  have e:x=m:=by simpa using hl
  subst e
  simp [Jo8] at h⊢
  omega
 |x::y::r,lo,m,n,h,hl,h1,h2=>by
  have hl':(y::r).getLast?=some m:=by simpa using hl
  have h':((decide (lo<=x)&&decide (x<=12))&&Jo8 (x+1) ((y::r).map V.int))=true:=h
  rw [yx] at h'
  have ih:=Jue (y::r) (x+1) m n h'.2 hl' h1 h2
  show ((decide (lo<=x)&&decide (x<=12))&&Jo8 (x+1) (((y::r)++ [n]).map V.int))=true
  rw [h'.1,ih]
  rfl
theorem Jud:∀(ns:List Int) (lo m:Int),Jo8 lo (ns.map V.int)=true->ns.getLast?=some m->lo<=m/\m<=12
 | [],_,_,_,h=>by simp at h
 | [x],lo,m,h,hl=>by
  have e:x=m:=by simpa using hl
  subst e
  simpa [Jo8] using h
 |x::y::r,lo,m,h,hl=>by
  have hl':(y::r).getLast?=some m:=by simpa using hl
  have h':((decide (lo<=x)&&decide (x<=12))&&Jo8 (x+1) ((y::r).map V.int))=true:=h
  rw [yx,yx,decide_eq_true_eq,decide_eq_true_eq] at h'
  have ih:=Jud (y::r) (x+1) m h'.2 hl'
  omega
structure Jnd where
 kd:Str
 ns:List Int
 sv:Option Int
def svV:Option Int->V
 |some i=>.int i
 |none=>.non
structure Sbh (G:Jnd):Prop where
 kd:Knd G.kd
 ns:Jr2 (Jpj G.kd) (G.ns.map V.int)=true
 sv:∀i,G.sv=some i->0<=i/\i < G.ns.length
def Sd6 (p:S5) (H:Hp) (x:V) (G:Jnd):Prop:=∃t m:S5,x= .ref t/\H t=some (.tup [.str G.kd,.ref m,svV G.sv])/\H m=some (.lst (G.ns.map V.int))/\m≠p
theorem Sd6.same {p:S5} {H H':Hp} {x:V} {G:Jnd} (s:Sn H H') (h:Sd6 p H x G):Sd6 p H' x G:=by obtain ⟨t,m,e,h1,h2,n⟩:=h;exact ⟨t,m,e,s _ _ h1,s _ _ h2,n⟩
theorem Sd6.but {p:S5} {H H':Hp} {x:V} {G:Jnd} (st:Sbb H p) (b:But p H H') (h:Sd6 p H x G):Sd6 p H' x G:=
 let ⟨t,m,e,h1,h2,n⟩:=h
 ⟨t,m,e,b.1 _ _ (Jq2 st h1 (λ_ _ _ z=>by cases z)) h1,b.1 _ _ n h2,n⟩
theorem Sd6.move {p q:S5} {H:Hp} {x:V} {G:Jnd} (hq:H q=none) (h:Sd6 p H x G):Sd6 q H x G:=
 let ⟨t,m,e,h1,h2,_⟩:=h
 ⟨t,m,e,h1,h2,λz=>by rw [z,hq] at h2;cases h2⟩
inductive Yer (vs:List V) (H:Hp) (Q:VK) (z3:XK):Prop where
 |mk (p:S5) (_:vs= [.ref p]) (_:Sbb H p) (_:∀(x:V) (G:Jnd) (H':Hp),But p H H'->Sd6 p H' x G->Sbh G->Q x H')
theorem San:Jmp ["_law_stream_here","_law_kind_here","_law_mark","_law_marks","_law_k","_law_stuck"] ["_law_stream_here"] (Jml (top 72)):=⟨rfl,rfl,rfl,by decide +kernel,rfl,by decide +kernel,by decide +kernel⟩
theorem Jyp (T:Tx K mg a):Sx P w K mg base CX0 2 a.Jki a.Jkj ["_law_stream_here"] Yer:=by
 have Sr:=Jon (P:=P) (w:=w) (base:=base) T
 refine T.Ju.fn.ok San (λvs H Q E h=>?_) (λcdv A outer s H vs Q E hr h=>?_)
 ·obtain ⟨p,rfl,_⟩:=h
  rfl
 ·obtain ⟨p,rfl,st,k⟩:=h
  refine ⟨?t,?B,?C⟩
  case B=>
   refine' Jmi ?O0 ?O1
   case O0=>exact (Jmt (i:=1) San.nd rfl (ye rfl) (Jmv Jnc (Jnt (So Joo (So Joo (So Joo Ss)))) (Jmn T.Js Sr hr (by decide) (So (pv 0) (So Sw Ss))) (λ_ _=>rfl)))
   case O1=>
   refine' Jmi ?O2 ?O3
   case O2=>exact (Jmt (i:=2) San.nd rfl (ye rfl) (Jn0 Jnp (Jmn T.Js Sr hr (by decide) (So (pv 0) (So (Jn0 Jo9 Sw (Jn3 Jqf (by rfl) T.Jar Jsc (So (Jo1 Joe (pv 1) Joo (Jn4 _)) Ss))) Ss))) (Jn3 Jqf (by rfl) T.Jar Jsc (So (Jo1 Joe (pv 1) Joo (Jn4 _)) Ss))))
   case O3=>
   refine' Jmi ?O4 ?O5
   case O4=>exact (Jmt (i:=3) San.nd rfl (ye rfl) (Jnt (So (pv 2) Ss)))
   case O5=>
   refine' Jmi ?O6 ?O7
   case O6=>
    refine' Jqb ?O8 ?O9 ?Oa ?Ob ?Oc
    case O8=>exact PassesOwn.never
    case O9=>exact rfl
    case Oa=>exact (Jpb (by rfl) T.Jax (So (Jmn T.Js Sr hr (by decide) (So (pv 0) (So Sw Ss))) Ss))
    case Ob=>exact (Jmr (i:=4) San.nd rfl (ye rfl))
    case Oc=>
    refine' Jmi ?Od ?Oe
    case Od=>exact (Jmt (i:=2) San.nd rfl (ye rfl) (Jn0 Jnp (Jn0 Jnp (pv 2) Sw) (Jmn T.Js Sr hr (by decide) (So (pv 0) (So Sw Ss)))))
    case Oe=>
    refine' Jmk ?Of
    case Of=>exact (Jom (Jrl F.plainAttrs_list F.slot_list_append F.type_list_append Jop (pv 3) (So (pv 2) Ss)))
   case O7=>
   refine' Jmi ?Og ?Oh
   case Og=>exact (Jmt (i:=5) San.nd rfl (ye rfl) Joa)
   case Oh=>
   refine' Jmi ?Oi ?Oj
   case Oi=>
    refine' Jn6 ?Ok ?Ol ?Om
    case Ok=>exact (Jna Joe (Jmn T.Js Sr hr (by decide) (So (pv 0) (So Sw Ss))) Sw (Jn4 _))
    case Ol=>
     refine' Jmk ?On
     case On=>exact (Jmt (i:=5) San.nd rfl (ye rfl) (Jmn T.Js Sr hr (by decide) (So (pv 0) (So (Jmq Jn8 (by rfl) T.Jat Jof (So (pv 3) Ss)) Ss))))
    case Om=>exact Jmu
   case Oj=>
   refine' Jmk ?Oo
   case Oo=>exact (Jms (Jnx (So (pv 1) (So (pv 3) (So (pv 5) Ss)))))
  refine ⟨(show 3<=Sa by decide),λL hL=>?_⟩
  have sL:=Sn.upd (o:=.lst [.str "step",.str "flap",.str "part"]) hL
  have bL:=But.of st sL
  have nL:L≠p:=st.ne hL
  refine ⟨_,rfl,p,3,rfl,bL.2,by decide,by decide,λr H1 r0 r1 b1=>?_⟩
  obtain ⟨kd,hat,hk⟩:∃kd:Str,atI [V.str "step",.str "flap",.str "part"] r=some (.str kd)/\Knd kd:=by
   have cs:r=0\/r=1\/r=2:=by omega
   rcases cs with rfl|rfl|rfl
   ·exact ⟨_,rfl,.inl rfl⟩
   ·exact ⟨_,rfl,.inr (.inl rfl)⟩
   ·exact ⟨_,rfl,.inr (.inr rfl)⟩
  refine ⟨L,_,r,_,rfl,rfl,Sy.of (b1.1 _ _ nL Sv),hat,?_⟩
  have bK:=bL.trans b1
  have el:Jpj kd=if decide (V.str kd=V.str "part")=true then 1 else 0:=by
   unfold Jpj
   by_cases h:kd=("part" :Str)
   ·rw [if_pos h,if_pos (decide_eq_true (by rw [h]))]
   ·rw [if_neg h,if_neg (by rw [decide_eq_false (λe=>h (V.str.inj e))];decide)]
  have hlo:Jpj kd=0\/Jpj kd=1:=by unfold Jpj;split <;> simp
  refine ⟨_,rfl,_,rfl,rfl,.inr ⟨_,rfl,_,_,rfl,rfl,?_⟩⟩
  rw [<-el]
  have hm:(0:Int) < 4 - Jpj kd/\(4 - Jpj kd).natAbs.log2 < 9000:=by rcases hlo with e|e <;> rw [e] <;> decide
  refine ⟨p,4 - Jpj kd,rfl,bK.2,hm.1,hm.2,λr2 H2 s0 s1 b2=>?_⟩
  refine ⟨_,rfl,rfl,.inr ⟨_,rfl,_,_,rfl,rfl,?_⟩⟩
  rw [<-el]
  have b02:=bK.trans b2
  refine ⟨_,rfl,(show 1<=Sa by decide),λl hl=>?_⟩
  have hl0:H l=none:=But.free st b02 hl
  have nlp:l≠p:=st.ne hl0
  have b3:But p H (upd H2 l (.lst [.int (r2+Jpj kd)])):=b02.updD hl0 nlp
  refine ⟨_,rfl,p,4,rfl,b3.2,by decide,by decide,λj H3 j0 j1 b4=>⟨j,rfl,by omega,by omega,?_⟩⟩
  refine Jqi (λi σ H'=>∃(o o':Option V) (ns:List Int) (m:Int),σ= [some (.ref p),some (.str kd),some (.int m),some (.ref l),o,o']/\But p H H'/\H' l=some (.lst (ns.map V.int))/\Jo8 (Jpj kd) (ns.map V.int)=true/\ns.getLast?=some m/\ns.length=i+1/\m<=3+3*i)
   ⟨_,_,[r2+Jpj kd],r2+Jpj kd,rfl,b3.trans b4,b4.1 _ _ nlp Sv,?_,rfl,by simp,by omega⟩ ?_ ?_
  ·simp [Jo8]
   omega
  ·rintro i σ H4 hi ⟨o,o',ns,m,rfl,b5,h5,hmk,hla,hle,hmi⟩
   have hb:=Jud ns (Jpj kd) m hmk hla
   refine ⟨_,rfl,_,_,rfl,rfl,_,rfl,p,3,rfl,b5.2,by decide,by decide,λr' H5 t0 t1 b6=>?_⟩
   refine ⟨_,_,rfl,rfl,?_⟩
   have h6:=b6.1 _ _ nlp h5
   refine ⟨_,rfl,.inl ⟨rfl,_,Sy.of h6⟩,_,rfl,l,_,_,rfl,rfl,h6,by rw [yf];exact Jne (by omega),?_⟩
   refine ⟨_,_,ns++ [m+1+r'],m+1+r',rfl,(b5.trans b6).updD hl0 nlp,?_,Jue ns (Jpj kd) m _ hmk hla (by omega) (by omega),by simp,by simp;omega,by omega⟩
   rw [Sv]
   simp
  ·rintro σ H4 ⟨o,o',ns,m,rfl,b5,h5,hmk,hla,hle,hmi⟩
   have har:Jr2 (Jpj kd) (ns.map V.int)=true:=by
    unfold Jr2
    rw [hmk,Bool.and_true,yf]
    exact decide_eq_true (by omega)
   refine ⟨_,rfl,p,6,rfl,b5.2,by decide,by decide,λr6 H6 _ _ b6=>⟨rfl,_,rfl,Sm9 (λ_=>?_) (λ_=>?_)⟩⟩
   ·have h6:=b6.1 _ _ nlp h5
    refine ⟨_,rfl,_,rfl,l,_,rfl,.inl (Sy.of h6),p,_,rfl,(b5.trans b6).2,by rw [yf];omega,?_,λr7 H7 u0 u1 b7=>?_⟩
    ·rw [yf]
     have:((ns.length:Int)).natAbs<=4:=by omega
     exact Nat.lt_of_le_of_lt (Nat.log2_le_self _) (by omega)
    rw [yf] at u1
    have h7:=b7.1 _ _ nlp h6
    refine ⟨_,rfl,_,rfl,_,rfl,(show 3<=Sa by decide),λt ht=>?_⟩
    have sT:=Sn.upd (o:=.tup [.str kd,.ref l,svV (some r7)]) ht
    refine k (.ref t) ⟨kd,ns,some r7⟩ _ (((b5.trans b6).trans b7).same sT) ⟨t,l,rfl,Sv,sT _ _ h7,nlp⟩ ⟨hk,har,λi e=>?_⟩
    cases e
    exact ⟨u0,u1⟩
   ·have h6:=b6.1 _ _ nlp h5
    refine ⟨_,rfl,_,rfl,_,rfl,(show 3<=Sa by decide),λt ht=>?_⟩
    have sT:=Sn.upd (o:=.tup [.str kd,.ref l,svV (none)]) ht
    refine k (.ref t) ⟨kd,ns,none⟩ _ ((b5.trans b6).same sT) ⟨t,l,rfl,Sv,sT _ _ h6,nlp⟩ ⟨hk,har,λi e=>?_⟩
    cases e
structure Joz where
 z:Str
 lo:Int
 hi:Int
 st:Int
 rn:Int
 G:Jnd
structure Jwr (B:Joz):Prop where
 lo:0<=B.lo/\B.lo<=12
 hi:B.lo<=B.hi/\B.hi<=12
 st:B.lo<=B.st/\B.st<=B.hi
 rn:0<=B.rn/\B.rn<=6
 G:Sbh B.G
def Scq (p:S5) (H:Hp) (x:V) (B:Joz):Prop:=∃(t:S5) (g:V),x= .ref t/\H t=some (.tup [.str B.z,.int B.lo,.int B.hi,.int B.st,.int B.rn,g])/\Sd6 p H g B.G
theorem Scq.same {p:S5} {H H':Hp} {x:V} {B:Joz} (s:Sn H H') (h:Scq p H x B):Scq p H' x B:=by obtain ⟨t,g,e,h1,h2⟩:=h;exact ⟨t,g,e,s _ _ h1,h2.same s⟩
theorem Scq.but {p:S5} {H H':Hp} {x:V} {B:Joz} (st:Sbb H p) (b:But p H H') (h:Scq p H x B):Scq p H' x B:=
 let ⟨t,g,e,h1,h2⟩:=h
 ⟨t,g,e,b.1 _ _ (Jq2 st h1 (λ_ _ _ z=>by cases z)) h1,h2.but st b⟩
theorem Scq.move {p q:S5} {H:Hp} {x:V} {B:Joz} (hq:H q=none) (h:Scq p H x B):Scq q H x B:=
 let ⟨t,g,e,h1,h2⟩:=h
 ⟨t,g,e,h1,h2.move hq⟩
inductive Ycz (vs:List V) (H:Hp) (Q:VK) (z3:XK):Prop where
 |mk (p:S5) (z:Str) (_:vs= [.ref p,.str z]) (_:Sbb H p) (_:∀(x:V) (B:Joz) (H':Hp),But p H H'->Scq p H' x B->Jwr B->B.z=z->Q x H')
theorem Jsx {i:Int} (h:i.natAbs<=1000):i.natAbs.log2 < 9000:=Nat.lt_of_le_of_lt (Nat.log2_le_self _) (by omega)
theorem Sbu:Jmp ["_law_stream_here","_law_name","_law_low","_law_high","_law_start"] ["_law_stream_here","_law_name"] (Jml (top 73)):=⟨rfl,rfl,rfl,by decide +kernel,rfl,by decide +kernel,by decide +kernel⟩
theorem Jxn (T:Tx K mg a):Sx P w K mg base CX0 3 a.Jkk a.Jkl ["_law_stream_here","_law_name"] Ycz:=by
 have Sr:=Jon (P:=P) (w:=w) (base:=base) T
 have Sgd:=Jyp (P:=P) (w:=w) (base:=base) T
 refine T.Jv.fn.ok Sbu (λvs H Q E h=>?_) (λcdv A outer s H vs Q E hr h=>?_)
 ·obtain ⟨p,z,rfl,_⟩:=h
  rfl
 ·obtain ⟨p,z,rfl,st,k⟩:=h
  refine ⟨?t,?B,?C⟩
  case B=>
   refine' Jmi ?O0 ?O1
   case O0=>exact (Jmt (i:=2) Sbu.nd rfl (ye rfl) (Jmn T.Js Sr hr (by decide) (So (pv 0) (So Sw Ss))))
   case O1=>
   refine' Jmi ?O2 ?O3
   case O2=>exact (Jmt (i:=3) Sbu.nd rfl (ye rfl) (Jn0 Jnp (pv 2) (Jmn T.Js Sr hr (by decide) (So (pv 0) (So (Jn0 Jo9 Sw (pv 2)) Ss)))))
   case O3=>
   refine' Jmi ?O4 ?O5
   case O4=>exact (Jmt (i:=4) Sbu.nd rfl (ye rfl) (Jn0 Jnp (pv 2) (Jmn T.Js Sr hr (by decide) (So (pv 0) (So (Jn0 Jnp (Jn0 Jo9 (pv 3) (pv 2)) Sw) Ss)))))
   case O5=>
   refine' Jmk ?O6
   case O6=>
   refine' Jms ?O7
   case O7=>
   refine' Jnx ?O8
   case O8=>
   refine' pa6 ?O9 ?Oa ?Ob ?Oc ?Od ?Oe
   case O9=>exact (pv 1)
   case Oa=>exact (pv 2)
   case Ob=>exact (pv 3)
   case Oc=>exact (pv 4)
   case Od=>exact (Jmn T.Js Sr hr (by decide) (So (pv 0) (So Sw Ss)))
   case Oe=>exact (Jmn T.Ju Sgd hr (by decide) (So (pv 0) Ss))
  refine ⟨_,rfl,p,13,rfl,st,by decide,by decide,λlo H1 l0 l1 b1=>?_⟩
  refine ⟨_,rfl,_,rfl,_,rfl,_,_,rfl,rfl,p,13 - lo,rfl,b1.2,by omega,Jsx (by omega),λhi H2 h0 h1 b2=>⟨_,_,rfl,rfl,?_⟩⟩
  refine ⟨_,rfl,_,rfl,_,rfl,_,rfl,_,_,rfl,rfl,_,_,rfl,rfl,p,lo+hi - lo+1,rfl,b2.2,by omega,Jsx (by omega),λsv H3 s0 s1 b3=>⟨_,_,rfl,rfl,?_⟩⟩
  refine ⟨_,rfl,_,rfl,_,rfl,_,rfl,_,rfl,p,7,rfl,b3.2,by decide,by decide,λrn H4 n0 n1 b4=>?_⟩
  refine ⟨_,rfl,p,rfl,b4.2,λg G H5 b5 gt gg=>?_⟩
  refine ⟨(show 6<=Sa by decide),λt ht=>?_⟩
  have sT:=Sn.upd (o:=.tup [.str z,.int lo,.int (lo+hi),.int (lo+sv),.int rn,g]) ht
  exact k (.ref t) ⟨z,lo,lo+hi,lo+sv,rn,G⟩ _ (((((b1.trans b2).trans b3).trans b4).trans b5).same sT) ⟨t,g,rfl,Sv,gt.same sT⟩ ⟨by dsimp only;omega,by dsimp only;omega,by dsimp only;omega,by dsimp only;omega,gg⟩ rfl
theorem Yei {bs:List V} {ns:List Int} (h:∀b∈bs,∃o,b=V.ref o) (hn:1<=ns.length):bs≠ns.map V.int:=by
 intro e
 cases ns with
 |nil=>simp at hn
 |cons n r=>
  obtain ⟨o,q⟩:=h (.int n) (by rw [e];simp)
  cases q
theorem Sbh.len {G:Jnd} (h:Sbh G):1<=G.ns.length/\G.ns.length<=4:=by
 have q:=h.ns
 unfold Jr2 at q
 rw [yx,decide_eq_true_eq,yf] at q
 exact q.1
theorem Sd6.put {p D:S5} {H:Hp} {x:V} {G:Jnd} {bs:List V} {o:HO} (g:Sbh G) (hD:H D=some (.lst bs)) (hb:∀b∈bs,∃o,b=V.ref o) (h:Sd6 p H x G):Sd6 p (upd H D o) x G:=by
 obtain ⟨t,m,e,h1,h2,n⟩:=h
 refine ⟨t,m,e,?_,?_,n⟩
 ·rw [Jmm (λz=>by rw [z,hD] at h1;cases h1)]
  exact h1
 ·rw [Jmm (λz=>by rw [z,hD] at h2;cases h2;exact Yei hb g.len.1 rfl)]
  exact h2
theorem Scq.put {p D:S5} {H:Hp} {x:V} {B:Joz} {bs:List V} {o:HO} (g:Jwr B) (hD:H D=some (.lst bs)) (hb:∀b∈bs,∃o,b=V.ref o) (h:Scq p H x B):Scq p (upd H D o) x B:=by
 obtain ⟨t,y,e,h1,h2⟩:=h
 refine ⟨t,y,e,?_,h2.put g.G hD hb⟩
 rw [Jmm (λz=>by rw [z,hD] at h1;cases h1)]
 exact h1
def BTL (p:S5) (H:Hp):List V->List Joz->Prop
 | [],[]=>True
 |x::xs,B::Bs=>Scq p H x B/\BTL p H xs Bs
 |_,_=>False
theorem BTL.map {p q:S5} {H H':Hp} (f:∀x B,Jwr B->Scq p H x B->Scq q H' x B):∀{xs:List V} {Bs:List Joz},(∀B∈Bs,Jwr B)->BTL p H xs Bs->BTL q H' xs Bs:=by
 intro xs
 induction xs with
 |nil=>
  intro Bs g h
  cases Bs with
  |nil=>exact True.intro
  |cons B Bs=>exact False.elim h
 |cons x xs ih=>
  intro Bs g h
  cases Bs with
  |nil=>exact False.elim h
  |cons B Bs=>exact ⟨f _ _ (g _ yan) (yao h),ih (λB hB=>g B (yac _ hB)) (yap h)⟩
theorem BTL.snoc {p:S5} {H:Hp} {x:V} {B:Joz} (h:Scq p H x B):∀{xs:List V} {Bs:List Joz},BTL p H xs Bs->BTL p H (xs++ [x]) (Bs++ [B]):=by
 intro xs
 induction xs with
 |nil=>
  intro Bs q
  cases Bs with
  |nil=>exact ⟨h,True.intro⟩
  |cons B Bs=>exact False.elim q
 |cons x xs ih=>
  intro Bs q
  cases Bs with
  |nil=>exact False.elim q
  |cons B Bs=>exact ⟨yao q,ih (yap q)⟩
theorem BTL.refs {p:S5} {H:Hp}:∀{xs:List V} {Bs:List Joz},BTL p H xs Bs->∀b∈xs,∃o,b=V.ref o
 | [],[],_,b,hb=>by simp at hb
 |x::xs,B::Bs,⟨⟨t,g,e,_⟩,tl⟩,b,hb=>by
  rcases yk.mp hb with rfl|hb
  ·exact ⟨t,e⟩
  ·exact BTL.refs tl b hb
theorem BTL.len {p:S5} {H:Hp}:∀{xs:List V} {Bs:List Joz},BTL p H xs Bs->xs.length=Bs.length
 | [],[],_=>rfl
 |_::_,_::_,⟨_,t⟩=>by rw [yai,yai,BTL.len t]
structure Jr0 where
 z:Str
 b:Str
 wt:Int
def Sdn (H:Hp) (x:V) (B:Jr0):Prop:=∃t:S5,x= .ref t/\H t=some (.tup [.str B.z,.str B.b,.int B.wt])
theorem Sdn.same {H H':Hp} {x:V} {B:Jr0} (s:Sn H H') (h:Sdn H x B):Sdn H' x B:=by obtain ⟨t,e,h1⟩:=h;exact ⟨t,e,s _ _ h1⟩
theorem Sdn.but {p:S5} {H H':Hp} {x:V} {B:Jr0} (st:Sbb H p) (b:But p H H') (h:Sdn H x B):Sdn H' x B:=
 let ⟨t,e,h1⟩:=h
 ⟨t,e,b.1 _ _ (Jq2 st h1 (λ_ _ _ z=>by cases z)) h1⟩
theorem Sdn.put {D:S5} {H:Hp} {x:V} {B:Jr0} {bs:List V} {o:HO} (hD:H D=some (.lst bs)) (h:Sdn H x B):Sdn (upd H D o) x B:=by
 obtain ⟨t,e,h1⟩:=h
 refine ⟨t,e,?_⟩
 rw [Jmm (λz=>by rw [z,hD] at h1;cases h1)]
 exact h1
def TTL (H:Hp):List V->List Jr0->Prop
 | [],[]=>True
 |x::xs,B::Bs=>Sdn H x B/\TTL H xs Bs
 |_,_=>False
theorem TTL.map {H H':Hp} (f:∀x B,Sdn H x B->Sdn H' x B):∀{xs:List V} {Bs:List Jr0},TTL H xs Bs->TTL H' xs Bs:=by
 intro xs
 induction xs with
 |nil=>
  intro Bs h
  cases Bs with
  |nil=>exact True.intro
  |cons B Bs=>exact False.elim h
 |cons x xs ih=>
  intro Bs h
  cases Bs with
  |nil=>exact False.elim h
  |cons B Bs=>exact ⟨f _ _ (yao h),ih (yap h)⟩
theorem TTL.snoc {H:Hp} {x:V} {B:Jr0} (h:Sdn H x B):∀{xs:List V} {Bs:List Jr0},TTL H xs Bs->TTL H (xs++ [x]) (Bs++ [B]):=by
 intro xs
 induction xs with
 |nil=>
  intro Bs q
  cases Bs with
  |nil=>exact ⟨h,True.intro⟩
  |cons B Bs=>exact False.elim q
 |cons x xs ih=>
  intro Bs q
  cases Bs with
  |nil=>exact False.elim q
  |cons B Bs=>exact ⟨yao q,ih (yap q)⟩
theorem TTL.len {H:Hp}:∀{xs:List V} {Bs:List Jr0},TTL H xs Bs->xs.length=Bs.length
 | [],[],_=>rfl
 |_::_,_::_,⟨_,t⟩=>by rw [yai,yai,TTL.len t]
structure Jn1 where
 c:Int
 g:Int
 Bs:List Joz
 Ts:List Jr0
structure Jor (R:Jn1):Prop where
 c:0<=R.c/\R.c<=12
 g:0<=R.g/\R.g<=R.c
 n:1<=R.Bs.length/\R.Bs.length<=16
 Bs:∀B∈R.Bs,Jwr B/\Jrd B.z=true/\Ltr 8 B.z
 nd:(R.Bs.map (·.z)).Nodup
 tn:R.Ts.length<=3
 Ts:∀B∈R.Ts,Jrd B.z=true/\Ltr 8 B.z/\B.b∈R.Bs.map (·.z)/\1<=B.wt/\B.wt<=6
 td:(R.Ts.map (·.z)).Nodup
def Sci (p:S5) (H:Hp) (x:V) (R:Jn1):Prop:=∃(t lb lt:S5) (bs ts:List V),x= .ref t/\H t=some (.tup [.int R.c,.int R.g,.ref lb,.ref lt])/\H lb=some (.lst bs)/\BTL p H bs R.Bs/\H lt=some (.lst ts)/\TTL H ts R.Ts/\lb≠p/\lt≠p
inductive Yd0 (vs:List V) (H:Hp) (Q:VK) (z3:XK):Prop where
 |mk (c:Int) (_:vs= [.int c]) (_:∀(x:V) (R:Jn1) (p:S5) (H':Hp),H p=none->Sn H H'->Sbb H' p->Sci p H' x R->Jor R->Q x H')
theorem Saf:Jmp ["_law_cell_here","_law_stream_here","_law_many","_law_cloud","_law_gain","_law_names_here","_law_basins","_law_towns","_law_name"] ["_law_cell_here"] (Jml (top 74)):=⟨rfl,rfl,rfl,by decide +kernel,rfl,by decide +kernel,by decide +kernel⟩
theorem Jxq (T:Tx K mg a):Sx P w K mg base CX0 4 a.Jkm a.Jkn ["_law_cell_here"] Yd0:=by
 have Sr:=Jon (P:=P) (w:=w) (base:=base) T
 have Sdv:=Jxo (P:=P) (w:=w) (base:=base) T
 have Sfv:=Jxn (P:=P) (w:=w) (base:=base) T
 have Scc:=Jsa (P:=P) (w:=w) (base:=base) T
 refine T.Jw.fn.ok Saf (λvs H Q E h=>?_) (λcdv A outer s H vs Q E hr h=>?_)
 ·obtain ⟨c,rfl,_⟩:=h
  rfl
 ·obtain ⟨c,rfl,k⟩:=h
  refine ⟨?t,?B,?C⟩
  case B=>
   refine' Jmi ?O0 ?O1
   case O0=>exact (Jmt (i:=1) Saf.nd rfl (Or.inr rfl) (Jmn T.Jr Scc hr (by decide) (So (pv 0) Ss)))
   case O1=>
   refine' Jmi ?O2 ?O3
   case O2=>exact (Jmt (i:=2) Saf.nd rfl (ye rfl) (Jmv Jnc (Jnt (pa8 Sw Sw Sw Sw Sw Sw (Jn0 Jnp Sw (Jmn T.Js Sr hr (by decide) (So (pv 1) (So Sw Ss)))) (Jn0 Jnp Sw (Jmn T.Js Sr hr (by decide) (So (pv 1) (So Sw Ss)))))) (Jmn T.Js Sr hr (by decide) (So (pv 1) (So Sw Ss))) (λ_ _=>rfl)))
   case O3=>
   refine' Jmi ?O4 ?O5
   case O4=>exact (Jmt (i:=3) Saf.nd rfl (ye rfl) (Jmn T.Js Sr hr (by decide) (So (pv 1) (So Sw Ss))))
   case O5=>
   refine' Jmi ?O6 ?O7
   case O6=>exact (Jmt (i:=4) Saf.nd rfl (ye rfl) (Jmn T.Js Sr hr (by decide) (So (pv 1) (So (Jn0 Jnp (pv 3) Sw) Ss))))
   case O7=>
   refine' Jmi ?O8 ?O9
   case O8=>exact (Jmt (i:=5) Saf.nd rfl (ye rfl) (Jmn T.Jt Sdv hr (by decide) (So (pv 1) (So (pv 2) Ss))))
   case O9=>
   refine' Jmi ?Oa ?Ob
   case Oa=>exact (Jxx (i:=6) (N:=(["_law_name","_law_stream_here"]:List Str)) (ini:=[none,some 1]) Saf.nd rfl (ye rfl) rfl (Jo2 (pv 5)) (λ_ _ _ _ _=>(Jmr (i:=0) (by decide +kernel:(["_law_name","_law_stream_here"]:List Str).Nodup) rfl (ye rfl))) (λ_ _ _ _ _=>Jnf) (λ_ _ _ _ _=>(Jmn T.Jv Sfv hr (by decide) (So (pv 1) (So (pv 0) Ss)))))
   case Ob=>
   refine' Jmi ?Oc ?Od
   case Oc=>exact (Jmt (i:=7) Saf.nd rfl (ye rfl) (Jnt Ss))
   case Od=>
   refine' Jmi ?Oe ?Of
   case Oe=>
    refine' Jqb ?Og ?Oh ?Oi ?Oj ?Ok
    case Og=>exact PassesOwn.never
    case Oh=>exact rfl
    case Oi=>exact (Jo2 (Jt3 Ya5 (Jmn T.Jt Sdv hr (by decide) (So (pv 1) (So Sw Ss))) Jv1 (Jv2 (Jmn T.Js Sr hr (by decide) (So (pv 1) (So Sw Ss))))))
    case Oj=>exact (Jmr (i:=8) Saf.nd rfl (ye rfl))
    case Ok=>
    refine' Jmk ?Ol
    case Ol=>exact (Jom (Jrl F.plainAttrs_list F.slot_list_append F.type_list_append Jop (pv 7) (So (Jnx (So (pv 8) (So (Jmv Jnc (pv 5) (Jmn T.Js Sr hr (by decide) (So (pv 1) (So (pv 2) Ss))) (λ_ _=>rfl)) (So (Jn0 Jnp Sw (Jmn T.Js Sr hr (by decide) (So (pv 1) (So Sw Ss)))) Ss)))) Ss)))
   case Of=>
   refine' Jmk ?Om
   case Om=>
   refine' Jms ?On
   case On=>
   refine' Jnx ?Oo
   case Oo=>
   refine' pa4 ?Op ?Oq ?Or ?Os
   case Op=>exact (pv 3)
   case Oq=>exact (pv 4)
   case Or=>exact (pv 6)
   case Os=>exact (pv 7)
  refine ⟨_,rfl,c,rfl,λp H1 hp s1 st=>?_⟩
  refine ⟨_,rfl,p,12,rfl,st,by decide,by decide,λr1 H2 r10 r11 b1=>⟨_,_,rfl,rfl,?_⟩⟩
  refine ⟨_,rfl,p,16,rfl,b1.2,by decide,by decide,λr2 H3 r20 r21 b2=>⟨_,_,rfl,rfl,(show 8<=Sa by decide),λL hL=>?_⟩⟩
  have b12:=b1.trans b2
  have nL:L≠p:=b12.2.ne hL
  have b3:=But.of b12.2 (Sn.upd (o:=.lst [V.int 1,V.int 2,V.int 3,V.int 4,V.int 2,V.int 3,V.int (5+r1),V.int (1+r2)]) hL)
  refine ⟨_,rfl,p,8,rfl,b3.2,by decide,by decide,λr3 H4 r30 r31 b4=>?_⟩
  obtain ⟨n,hat,n1,n16⟩:∃n:Nat,atI [V.int 1,V.int 2,V.int 3,V.int 4,V.int 2,V.int 3,V.int (5+r1),V.int (1+r2)] r3=some (.int n)/\1<=n/\n<=16:=by
   have cs:r3=0\/r3=1\/r3=2\/r3=3\/r3=4\/r3=5\/r3=6\/r3=7:=by omega
   rcases cs with rfl|rfl|rfl|rfl|rfl|rfl|rfl|rfl
   ·exact ⟨1,rfl,by omega,by omega⟩
   ·exact ⟨2,rfl,by omega,by omega⟩
   ·exact ⟨3,rfl,by omega,by omega⟩
   ·exact ⟨4,rfl,by omega,by omega⟩
   ·exact ⟨2,rfl,by omega,by omega⟩
   ·exact ⟨3,rfl,by omega,by omega⟩
   ·refine ⟨(5+r1).toNat,?_,by omega,by omega⟩
    rw [Int.toNat_of_nonneg (by omega)]
    rfl
   ·refine ⟨(1+r2).toNat,?_,by omega,by omega⟩
    rw [Int.toNat_of_nonneg (by omega)]
    rfl
  refine ⟨L,_,r3,_,rfl,rfl,Sy.of (b4.1 _ _ nL Sv),hat,?_⟩
  have b5:=(b12.trans b3).trans b4
  refine ⟨_,rfl,p,13,rfl,b5.2,by decide,by decide,λcl H5 c0 c1 b6=>?_⟩
  refine ⟨_,rfl,_,rfl,_,_,rfl,rfl,p,cl+1,rfl,b6.2,by omega,Jsx (by omega),λgn H6 g0 g1 b7=>?_⟩
  refine ⟨_,rfl,_,rfl,p,n,rfl,b7.2,by omega,λl f zs H7 hl b8 hl7 len nms=>?_⟩
  have b57:=(b5.trans b6).trans (b7.trans b8)
  have nlp:l≠p:=b7.2.ne hl
  refine ⟨_,rfl,l,rfl,⟨_,Sy.of hl7⟩,λD hD=>?_⟩
  have nD:D≠p:=b57.2.ne hD
  refine Jok (K:=K) (a:=l) (xs:=zs.map V.str) (D:=D) (λi σ H'=>∃(o:Option V) (bs:List V) (Bs:List Joz),σ= [o,some (.ref p)]/\H' D=some (.lst bs)/\BTL p H' bs Bs/\Bs.length=i/\(∀B∈Bs,Jwr B)/\Bs.map (·.z)=zs.take i/\But p H7 H') ?_ ?_ ?_ ?_
  ·exact ⟨_,[],[],rfl,Sv,True.intro,rfl,λB hB=>absurd hB (by simp),rfl,But.of b57.2 (Sn.upd hD)⟩
  ·rintro i σ H' _ ⟨o,bs,Bs,rfl,_,_,_,_,_,b⟩
   exact Sy.of (b.1 _ _ nlp hl7)
  ·rintro i x σ H' hx ⟨o,bs,Bs,rfl,hDs,btl,hln,good,names,b⟩
   rw [yj] at hx
   cases ez:zs[i]? with
   |none=>rw [ez] at hx;cases hx
   |some z=>
    rw [ez] at hx
    cases hx
    have hi:i < zs.length:=(yo.mp ez).1
    refine Jo7 ⟨_,rfl,_,rfl,p,z,rfl,b.2,λx B H8 b9 bt bg bz=>?_⟩
    have btl8:=BTL.map (λx B _ h=>h.but b.2 b9) good btl
    have hD8:=b9.1 _ _ nD hDs
    have blen:=btl.len
    refine ⟨bs,hD8,Jne (by omega),_,bs++ [x],Bs++ [B],rfl,Sv,?_,by rw [yah];show Bs.length+1=i+1;omega,?_,?_,(b.trans b9).updD hD nD⟩
    ·exact BTL.snoc (bt.put bg hD8 btl.refs) (BTL.map (λx B g h=>h.put g hD8 btl.refs) good btl8)
    ·intro B' hB'
     rcases ybn.mp hB' with h|h
     ·exact good B' h
     ·rw [yca.mp h]
      exact bg
    ·rw [yal,names,yag,ez,List.map_singleton,bz]
     rfl
  rintro σ H8 ⟨o,bs,Bs,rfl,hDs,btl,hln,good,names,b9⟩
  rw [yf] at hln names
  rw [List.take_length] at names
  have st8:Sbb H8 p:=b9.2
  have hl8:=b9.1 _ _ nlp hl7
  refine ⟨(show 0<=Sa by decide),λlt hlt=>?_⟩
  have nlt:lt≠p:=st8.ne hlt
  have sA:=Sn.upd (o:=.lst []) hlt
  have bA:=But.of st8 sA
  refine ⟨_,rfl,p,3,rfl,bA.2,by omega,λl2 f2 ys HB hl2 bB hB len2 nms2=>?_⟩
  have nl2:l2≠p:=bA.2.ne hl2
  refine ⟨_,rfl,p,4,rfl,bB.2,by decide,by decide,λr4 HC r40 r41 bC=>⟨_,rfl,l2,_,rfl,Sy.of (bC.1 _ _ nl2 hB),λq hq=>?_⟩⟩
  obtain ⟨us,eu,hus⟩:=Jyi ys none (some r4)
  rw [eu]
  have bD:=(bA.trans bB).trans bC
  have nq:q≠p:=bD.2.ne hq
  have hltC:HC lt=some (.lst []):=bC.1 _ _ nlt (bB.1 _ _ nlt Sv)
  have nql:q≠lt:=λe=>by rw [e,hltC] at hq;cases hq
  have sq:=Sn.upd (o:=.lst (us.map V.str)) hq
  have ul:us.length<=3:=by
   have:=hus.length_le
   omega
  refine ⟨q,rfl,⟨_,Sy.of Sv⟩,?_⟩
  refine Jvf (xs:=us.map V.str) (λi σ H'=>∃(o:Option V) (ts:List V) (Ts:List Jr0),σ= [some (.int c),some (.ref p),some (.int n),some (.int cl),some (.int gn),some (.ref l),some (.ref D),some (.ref lt),o]/\H' lt=some (.lst ts)/\TTL H' ts Ts/\Ts.length=i/\Ts.map (·.z)=us.take i/\(∀B∈Ts,B.b∈zs/\1<=B.wt/\B.wt<=6)/\But p H8 H'/\H' q=some (.lst (us.map V.str))) ?_ ?_ ?_ ?_
  ·exact ⟨_,[],[],rfl,sq _ _ hltC,True.intro,rfl,rfl,λB hB=>absurd hB (by simp),bD.same sq,Sv⟩
  ·rintro i σ H' _ ⟨_,_,_,_,_,_,_,_,_,_,h⟩
   exact Sy.of h
  ·rintro i x σ H' hx ⟨o,ts,Ts,rfl,hts,ttl,tln,tnm,tgd,b,hq'⟩
   rw [yj] at hx
   cases ez:us[i]? with
   |none=>rw [ez] at hx;cases hx
   |some u=>
    rw [ez] at hx
    cases hx
    have hi:i < us.length:=(yo.mp ez).1
    have tlen:=ttl.len
    refine ⟨_,rfl,.inl ⟨rfl,_,Sy.of hts⟩,_,rfl,_,rfl,_,rfl,_,rfl,p,n,rfl,b.2,by omega,Jsx (by omega),λr5 HE e0 e1 bE=>?_⟩
    have hr5:r5.toNat < zs.length:=by omega
    refine ⟨l,_,r5,.str zs[r5.toNat],rfl,rfl,Sy.of (bE.1 _ _ nlp (b.1 _ _ nlp hl8)),Slv (j:=r5.toNat) (by omega) (by rw [yj,yh hr5];rfl),?_⟩
    refine ⟨_,rfl,p,6,rfl,bE.2,by decide,by decide,λr6 HF f0 f1 bF=>⟨_,_,rfl,rfl,(show 3<=Sa by decide),λt ht=>?_⟩⟩
    have bG:=bE.trans bF
    have htsF:=bG.1 _ _ nlt hts
    have sT:=Sn.upd (o:=.tup [.str u,.str zs[r5.toNat],.int (1+r6)]) ht
    refine ⟨lt,_,_,rfl,rfl,sT _ _ htsF,Jne (by omega),?_⟩
    refine ⟨_,ts++ [.ref t],Ts++ [⟨u,zs[r5.toNat],1+r6⟩],rfl,Sv,?_,by rw [yah];show Ts.length+1=i+1;omega,?_,?_,((b.trans bG).same sT).updD hlt nlt,?_⟩
    ·refine TTL.snoc ?_ (TTL.map (λx B h=>(((h.but b.2 bG).same sT).put (sT _ _ htsF))) ttl)
     exact Sdn.put (sT _ _ htsF) ⟨t,rfl,Sv⟩
    ·rw [yal,tnm,yag,ez]
     rfl
    ·intro B hB
     rcases ybn.mp hB with h|h
     ·exact tgd B h
     ·rw [yca.mp h]
      exact ⟨yba hr5,by dsimp only;omega,by dsimp only;omega⟩
    ·rw [Jmm nql]
     exact sT _ _ (bG.1 _ _ nq hq')
  ·rintro σ HZ ⟨o,ts,Ts,rfl,hts,ttl,tln,tnm,tgd,b,_⟩
   rw [yf] at tln tnm
   rw [List.take_length] at tnm
   refine ⟨_,rfl,_,rfl,_,rfl,_,rfl,(show 4<=Sa by decide),λt ht=>?_⟩
   have sT:=Sn.upd (o:=.tup [.int cl,.int gn,.ref D,.ref lt]) ht
   have bZ:=((b57.trans b9).trans b).same sT
   refine k (.ref t) ⟨cl,gn,Bs,Ts⟩ p _ hp (λx u e=>bZ.1 _ _ (Jmo e hp) (s1 _ _ e)) bZ.2 ⟨t,D,lt,bs,ts,rfl,Sv,sT _ _ (b.1 _ _ nD hDs),BTL.map (λx B _ h=>(h.but st8 b).same sT) good btl,sT _ _ hts,TTL.map (λx B h=>h.same sT) ttl,nD,nlt⟩ ?_
   have nameOf:∀(f:Int) (zs:List Str),Nms f zs->∀z∈zs,Jrd z=true/\Ltr 8 z:=λf zs h z hz=>by
    obtain ⟨k,hk,rfl⟩:=List.mem_iff_getElem.mp hz
    have:=(h k _ (yh hk)).mem
    exact ⟨this.2,this.1⟩
   refine ⟨by dsimp only;omega,by dsimp only;omega,by dsimp only;omega,λB hB=>⟨good B hB,nameOf f zs nms _ (by rw [<-names];exact ybl hB)⟩,by dsimp only;rw [names];exact nms.nodup (by omega),by dsimp only;omega,λB hB=>?_,?_⟩
   ·have hu:B.z∈us:=by rw [<-tnm];exact ybl hB
    have h1:=nameOf f2 ys nms2 _ (hus.subset hu)
    have h2:=tgd B hB
    exact ⟨h1.1,h1.2,by dsimp only;rw [names];exact h2.1,h2.2⟩
   ·dsimp only
    rw [tnm]
    exact hus.nodup (nms2.nodup (by omega))
def nOf (G:Jnd):Nat:=match G.sv with
 |some _=>1
 |none=>G.ns.length
def GX (a:Ad) (H:Hp) (x:V) (G:Jnd):Prop:=∃(g:S5),Sbo (cOf a G.kd) H g (G.ns.map V.int)/\match G.sv with
 |none=>x= .ref g
 |some j=>∃s dx,x= .ref s/\H s=some (.ins a.Jm9 dx [("gate",.ref g),("setting",.int j)])
theorem GX.same {a:Ad} {H H':Hp} {x:V} {G:Jnd} (s:Sn H H') (h:GX a H x G):GX a H' x G:=by
 obtain ⟨g,ga,r⟩:=h
 refine ⟨g,ga.same s,?_⟩
 cases e:G.sv with
 |none=>rw [e] at r;exact r
 |some j=>
  rw [e] at r
  obtain ⟨q,dx,r1,r2⟩:=r
  exact ⟨q,dx,r1,s _ _ r2⟩
theorem GX.gs {K:Si} {a:Ad} {H:Hp} {x:V} {G:Jnd} (gg:Sbh G) (h:GX a H x G):GS K a H x (nOf G):=by
 obtain ⟨g,ga,r⟩:=h
 unfold nOf
 cases e:G.sv with
 |none=>
  rw [e] at r
  subst r
  have q:=GS.plain (K:=K) Ybp ga (by rw [yf];exact gg.len.2)
  rw [yf] at q
  exact q
 |some j=>
  rw [e] at r
  obtain ⟨q,dx,rfl,r2⟩:=r
  exact .stuck r2
inductive Sv2 (K:Si) (a:Ad) (vs:List V) (H:Hp) (Q:VK) (z3:XK):Prop where
 |mk (p:S5) (x:V) (G:Jnd) (_:vs= [x]) (_:Sd6 p H x G) (_:Sbh G) (_:∀(g:V) (H':Hp),Sn H H'->GX a H' g G->Q g H')
theorem Jov {t1 t2:TS} {D:Sch} {σ:L2.St} {H:Hp} (Mid:L2.St->Hp->Prop) (h1:∀R,(∀σ H,Mid σ H->R σ H)->t1 {D with nx:=R} σ H) (h2:∀σ H,Mid σ H->t2 D σ H):Snn t1 t2 D σ H:=h1 _ h2
theorem Jq5 {H:Hp} {ns:List Int} {y:V} (h:y∈ns.map V.int):Tm K H y:=by
 obtain ⟨i,_,rfl⟩:=yaj.mp h
 exact .inl ⟨i,rfl⟩
theorem Jvh {C:S5} {lo:Int} {x:V} {H:Hp} {Q1:Hp->Prop} {E:XK} {g dx:S5} (c:Cls K C) (n:NoAttr K C "marks") (hg:H g=none) (hd:H dx=none) (ne:dx≠g)
  (h:∃xs,Sq H x xs/\(∀y∈xs,Tm K H y)/\Jr2 lo xs=true/\∀H',Sn H H'->Sbo C H' g xs->Q1 H'):
  Jy6 K a lo [.ref g,x] (upd (upd H dx (.own g)) g (.ins C dx [])) (λv H2=>v= .non/\Q1 H2) E:=by
 have s1:Sn H (upd (upd H dx (.own g)) g (.ins C dx [])):=λb o e=>by rw [Jmm (Jmo e hg),Jmm (Jmo e hd)];exact e
 refine ⟨g,C,dx,x,rfl,Sv,c,n,?_⟩
 obtain ⟨xs,sq,tms,e,k⟩:=h
 refine .inl ⟨xs,sq.same s1,λy hy=>(tms y hy).same s1,e,λt H' s' ht=>⟨rfl,?_⟩⟩
 have ng:t≠g:=Sq3 ht (s' _ _ Sv) (by intro z;cases z)
 exact k _ (λb o e=>by rw [Jmm (Jmo e hg)];exact s' _ _ (s1 _ _ e)) ⟨dx,t,Sv,by rw [Jmm ng];exact ht⟩
theorem Sab:Jmp ["_law_told_here","_law_kind_here","_law_marks","_law_stuck","_law_gate_here"] ["_law_told_here"] (Jml (top 75)):=⟨rfl,rfl,rfl,by decide +kernel,rfl,by decide +kernel,by decide +kernel⟩
theorem Jty (T:Tx K mg a):Sx P w K mg base CX0 6 a.Jko a.Jkp ["_law_told_here"] (Sv2 K a):=by
 have Sd9:=Jtw (P:=P) (w:=w) (base:=base) T
 have Sd7:=Jtu (P:=P) (w:=w) (base:=base) T
 have Sd8:=Jtv (P:=P) (w:=w) (base:=base) T
 have Scu:=Jsz (P:=P) (w:=w) (base:=base) T
 refine T.Jx.fn.ok Sab (λvs H Q E h=>?_) (λcdv A outer s H vs Q E hr h=>?_)
 ·obtain ⟨p,x,G,rfl,_⟩:=h
  rfl
 ·obtain ⟨p,x,⟨kd,ns,sv⟩,rfl,⟨t,m,rfl,ht,hm,_⟩,gg,k⟩:=h
  refine ⟨?t,?B,?C⟩
  case B=>
   refine' Jmi ?O0 ?O1
   case O0=>exact (Jqa (pv 0) (Jrm rfl (Jmy (Jmr (i:=1) Sab.nd rfl (ye rfl)) (Jmy (Jmr (i:=2) Sab.nd rfl (ye rfl)) (Jmy (Jmr (i:=3) Sab.nd rfl (ye rfl)) Jol)))))
   case O1=>
   refine' Jmi ?O2 ?O3
   case O2=>
    refine' Jn6 ?O4 ?O5 ?O6
    case O4=>exact (Jna Joe (pv 1) Joo (Jn4 _))
    case O5=>
     refine' Jmk ?O7
     case O7=>exact (Jmt (i:=4) Sab.nd rfl (ye rfl) (Jpq T.Jdu Sd9.calm (hr.mono (by decide)) (by rfl) T.Jbh T.Jct.bd .nil Jqn (So (Jn3 Jog (by rfl) T.Jau Jpd (So (pv 2) Ss)) Ss)))
    case O6=>
    refine' Jmk ?O8
    case O8=>
    refine' Jn6 ?O9 ?Oa ?Ob
    case O9=>exact (Jna Joe (pv 1) Joo (Jn4 _))
    case Oa=>
     refine' Jmk ?Oc
     case Oc=>exact (Jmt (i:=4) Sab.nd rfl (ye rfl) (Jpq T.Je0 Sd7.calm (hr.mono (by decide)) (by rfl) T.Jbi T.Jcw.bd .nil Jqn (So (Jn3 Jog (by rfl) T.Jau Jpd (So (pv 2) Ss)) Ss)))
    case Ob=>
    refine' Jmk ?Od
    case Od=>exact (Jmt (i:=4) Sab.nd rfl (ye rfl) (Jpq T.Je6 Sd8.calm (hr.mono (by decide)) (by rfl) T.Jbj T.Jcz.bd .nil Jqn (So (Jn3 Jog (by rfl) T.Jau Jpd (So (pv 2) Ss)) Ss)))
   case O3=>
   refine' Jmi ?Oe ?Of
   case Oe=>
    refine' Jn6 ?Og ?Oh ?Oi
    case Og=>exact (Jna Ju0 (pv 3) Joa (Jn4 _))
    case Oh=>
     refine' Jmk ?Oj
     case Oj=>exact (Jms (pv 4))
    case Oi=>exact Jmu
   case Of=>
   refine' Jmk ?Ok
   case Ok=>exact (Jms (Jpq T.Jec Scu.calm (hr.mono (by decide)) (by rfl) T.Jbk T.Jd2.bd .nil Jqn (So (pv 4) (So (pv 3) Ss))))
  have hkd:Knd kd:=gg.kd
  have har:Jr2 (Jpj kd) (ns.map V.int)=true:=gg.ns
  have hsv:∀i,sv=some i->0<=i/\i < (ns.length:Int):=gg.sv
  have hlen:=gg.len
  dsimp only at ht hm hlen
  refine ⟨_,rfl,t,_,rfl,SqT.of ht,rfl,_,_,rfl,_,_,rfl,_,_,rfl,rfl,?_⟩
  dsimp only
  refine Jov (λσ H1=>∃g:S5,σ= [some (.ref t),some (.str kd),some (.ref m),some (svV sv),some (.ref g)]/\Sn H H1/\Sbo (cOf a kd) H1 g (ns.map V.int)) (λR hR=>?_) ?_
  ·rcases hkd with rfl|rfl|rfl
   ·have e1:Jpj "step" =0:=if_neg Sq4
    have e2:cOf a "step" =a.Jm6:=if_pos rfl
    have hr':Jr2 (0) (ns.map V.int)=true:=by rw [<-e1];exact har
    refine ⟨_,rfl,rfl,_,rfl,Jyk rfl ⟨_,rfl,m,_,rfl,.inl (Sy.of hm),λl hl g dx hg hd ne=>Jvh T.Jds T.Jf7 hg hd ne ⟨ns.map V.int,.lst Sv,λy hy=>Jq5 hy,hr',λH' s' ga=>?_⟩⟩⟩
    exact hR _ _ ⟨g,rfl,(Sn.upd hl).trans s',by rw [e2];exact ga⟩
   ·have e1:Jpj "flap" =0:=if_neg Sq2
    have e2:cOf a "flap" =a.Jm7:=by unfold cOf;rw [if_neg Jug,if_pos rfl]
    have hr':Jr2 (0) (ns.map V.int)=true:=by rw [<-e1];exact har
    refine ⟨_,rfl,rfl,_,rfl,Jwa (Ybc Jug) ⟨_,rfl,rfl,_,rfl,Jyk rfl ⟨_,rfl,m,_,rfl,.inl (Sy.of hm),λl hl g dx hg hd ne=>Jvh T.Jdy T.Jf8 hg hd ne ⟨ns.map V.int,.lst Sv,λy hy=>Jq5 hy,hr',λH' s' ga=>?_⟩⟩⟩⟩
    exact hR _ _ ⟨g,rfl,(Sn.upd hl).trans s',by rw [e2];exact ga⟩
   ·have e1:Jpj "part" =1:=if_pos rfl
    have e2:cOf a "part" =a.Jm8:=by unfold cOf;rw [if_neg Jui,if_neg Juh]
    have hr':Jr2 (1) (ns.map V.int)=true:=by rw [<-e1];exact har
    refine ⟨_,rfl,rfl,_,rfl,Jwa (Ybc Jui) ⟨_,rfl,rfl,_,rfl,Jwa (Ybc Juh) ⟨_,rfl,m,_,rfl,.inl (Sy.of hm),λl hl g dx hg hd ne=>Jvh T.Je4 T.Jf9 hg hd ne ⟨ns.map V.int,.lst Sv,λy hy=>Jq5 hy,hr',λH' s' ga=>?_⟩⟩⟩⟩
    exact hR _ _ ⟨g,rfl,(Sn.upd hl).trans s',by rw [e2];exact ga⟩
  ·rintro σ H1 ⟨g,rfl,s1,ga⟩
   have gs:GS K a H1 (.ref g) ns.length:=by
    have q:=GS.plain (K:=K) Ybp ga (by rw [yf];exact hlen.2)
    rw [yf] at q
    exact q
   cases sv with
   |none=>exact ⟨_,rfl,rfl,_,rfl,Jyk rfl ⟨_,rfl,k _ _ s1 ⟨g,ga,rfl⟩⟩⟩
   |some j=>
    have hj:=hsv j rfl
    refine ⟨_,rfl,rfl,_,rfl,Jwa (λz=>by cases z) ⟨_,rfl,_,rfl,λx dx hx hdx ne=>?_⟩⟩
    have sn:Sn H1 (upd (upd H1 dx (.own x)) x (.ins a.Jm9 dx [])):=λb o e=>by rw [Jmm (Jmo e hx),Jmm (Jmo e hdx)];exact e
    refine ⟨x,dx,_,.int j,rfl,Sv,.inr (.inr ⟨ns.length,gs.same sn,.inl ⟨j,rfl⟩,by simp [Jmz];omega,rfl,?_⟩)⟩
    have sx:Sn H1 (upd (upd (upd H1 dx (.own x)) x (.ins a.Jm9 dx [])) x (.ins a.Jm9 dx [("gate",.ref g),("setting",.int j)])):=by
     rw [Joq]
     exact λb o e=>by rw [Jmm (Jmo e hx),Jmm (Jmo e hdx)];exact e
    exact k _ _ (s1.trans sx) ⟨g,ga.same sx,x,dx,rfl,Sv⟩
theorem GS.put {K:Si} {a:Ad} {H:Hp} {x:V} {n:Nat} {D:S5} {bs:List V} {o:HO} (hD:H D=some (.lst bs)) (h:GS K a H x n):GS K a (upd H D o) x n:=by
 cases h with
 |plain i g l=>
  obtain ⟨dx,t,h1,h2⟩:=g
  exact .plain i ⟨dx,t,by rw [Jmm (λz=>by rw [z,hD] at h1;cases h1)];exact h1,by rw [Jmm (λz=>by rw [z,hD] at h2;cases h2)];exact h2⟩ l
 |stuck e=>exact .stuck (by rw [Jmm (λz=>by rw [z,hD] at e;cases e)];exact e)
theorem Sbv.put {K:Si} {a:Ad} {H:Hp} {b D:S5} {B:Bsn} {bs:List V} {o:HO} (hD:H D=some (.lst bs)) (h:Sbv K a H b B):Sbv K a (upd H D o) b B:=by
 obtain ⟨dx,h1,h2⟩:=h
 exact ⟨dx,by rw [Jmm (λz=>by rw [z,hD] at h1;cases h1)];exact h1,h2.put hD⟩
theorem Sca.map {K:Si} {a:Ad} {H H':Hp} (f:∀x B,Sbv K a H x B->Sbv K a H' x B):∀{xs:List S5} {Bs:List Bsn},Sca K a H xs Bs->Sca K a H' xs Bs:=by
 intro xs
 induction xs with
 |nil=>
  intro Bs h
  cases Bs with
  |nil=>exact True.intro
  |cons B Bs=>exact False.elim h
 |cons x xs ih=>
  intro Bs h
  cases Bs with
  |nil=>exact False.elim h
  |cons B Bs=>exact ⟨f _ _ (yao h),ih (yap h)⟩
theorem Sca.snoc {K:Si} {a:Ad} {H:Hp} {x:S5} {B:Bsn} (h:Sbv K a H x B):∀{xs:List S5} {Bs:List Bsn},Sca K a H xs Bs->Sca K a H (xs++ [x]) (Bs++ [B]):=by
 intro xs
 induction xs with
 |nil=>
  intro Bs q
  cases Bs with
  |nil=>exact ⟨h,True.intro⟩
  |cons B Bs=>exact False.elim q
 |cons x xs ih=>
  intro Bs q
  cases Bs with
  |nil=>exact False.elim q
  |cons B Bs=>exact ⟨yao q,ih (yap q)⟩
theorem Sbr.put {a:Ad} {H:Hp} {b D:S5} {B:Twn} {bs:List V} {o:HO} (hD:H D=some (.lst bs)) (h:Sbr a H b B):Sbr a (upd H D o) b B:=by
 obtain ⟨dx,h1⟩:=h
 exact ⟨dx,by rw [Jmm (λz=>by rw [z,hD] at h1;cases h1)];exact h1⟩
theorem Sc0.map {a:Ad} {H H':Hp} (f:∀x B,Sbr a H x B->Sbr a H' x B):∀{xs:List S5} {Bs:List Twn},Sc0 a H xs Bs->Sc0 a H' xs Bs:=by
 intro xs
 induction xs with
 |nil=>
  intro Bs h
  cases Bs with
  |nil=>exact True.intro
  |cons B Bs=>exact False.elim h
 |cons x xs ih=>
  intro Bs h
  cases Bs with
  |nil=>exact False.elim h
  |cons B Bs=>exact ⟨f _ _ (yao h),ih (yap h)⟩
theorem Sc0.snoc {a:Ad} {H:Hp} {x:S5} {B:Twn} (h:Sbr a H x B):∀{xs:List S5} {Bs:List Twn},Sc0 a H xs Bs->Sc0 a H (xs++ [x]) (Bs++ [B]):=by
 intro xs
 induction xs with
 |nil=>
  intro Bs q
  cases Bs with
  |nil=>exact ⟨h,True.intro⟩
  |cons B Bs=>exact False.elim q
 |cons x xs ih=>
  intro Bs q
  cases Bs with
  |nil=>exact False.elim q
  |cons B Bs=>exact ⟨yao q,ih (yap q)⟩
theorem BTL.get {p:S5} {H:Hp}:∀{xs:List V} {Bs:List Joz} {i:Nat} {x:V},BTL p H xs Bs->xs[i]?=some x->∃B,Bs[i]?=some B/\Scq p H x B:=by
 intro xs
 induction xs with
 |nil=>intro Bs i x h e;simp at e
 |cons x xs ih=>
  intro Bs i y h e
  cases Bs with
  |nil=>exact False.elim h
  |cons B Bs=>
   cases i with
   |zero=>cases e;exact ⟨B,rfl,yao h⟩
   |succ i=>exact @ih Bs i _ (yap h) (by simpa using e)
theorem TTL.get {H:Hp}:∀{xs:List V} {Bs:List Jr0} {i:Nat} {x:V},TTL H xs Bs->xs[i]?=some x->∃B,Bs[i]?=some B/\Sdn H x B:=by
 intro xs
 induction xs with
 |nil=>intro Bs i x h e;simp at e
 |cons x xs ih=>
  intro Bs i y h e
  cases Bs with
  |nil=>exact False.elim h
  |cons B Bs=>
   cases i with
   |zero=>cases e;exact ⟨B,rfl,yao h⟩
   |succ i=>exact @ih Bs i _ (yap h) (by simpa using e)
theorem GX.put {a:Ad} {H:Hp} {x:V} {G:Jnd} {D:S5} {bs:List V} {o:HO} (hD:H D=some (.lst bs)) (h:GX a H x G):GX a (upd H D o) x G:=by
 obtain ⟨g,⟨dx,t,h1,h2⟩,r⟩:=h
 refine ⟨g,⟨dx,t,by rw [Jmm (λz=>by rw [z,hD] at h1;cases h1)];exact h1,by rw [Jmm (λz=>by rw [z,hD] at h2;cases h2)];exact h2⟩,?_⟩
 cases e:G.sv with
 |none=>rw [e] at r;exact r
 |some j=>
  rw [e] at r
  obtain ⟨q,dx,r1,r2⟩:=r
  exact ⟨q,dx,r1,by rw [Jmm (λz=>by rw [z,hD] at r2;cases r2)];exact r2⟩
def GXL (a:Ad) (H:Hp):List V->List Jnd->Prop
 | [],[]=>True
 |x::xs,G::Gs=>GX a H x G/\GXL a H xs Gs
 |_,_=>False
theorem GXL.map {a:Ad} {H H':Hp} (f:∀x G,GX a H x G->GX a H' x G):∀{xs:List V} {Gs:List Jnd},GXL a H xs Gs->GXL a H' xs Gs:=by
 intro xs
 induction xs with
 |nil=>
  intro Bs h
  cases Bs with
  |nil=>exact True.intro
  |cons B Bs=>exact False.elim h
 |cons x xs ih=>
  intro Bs h
  cases Bs with
  |nil=>exact False.elim h
  |cons B Bs=>exact ⟨f _ _ (yao h),ih (yap h)⟩
theorem GXL.snoc {a:Ad} {H:Hp} {x:V} {G:Jnd} (h:GX a H x G):∀{xs:List V} {Gs:List Jnd},GXL a H xs Gs->GXL a H (xs++ [x]) (Gs++ [G]):=by
 intro xs
 induction xs with
 |nil=>
  intro Bs q
  cases Bs with
  |nil=>exact ⟨h,True.intro⟩
  |cons B Bs=>exact False.elim q
 |cons x xs ih=>
  intro Bs q
  cases Bs with
  |nil=>exact False.elim q
  |cons B Bs=>exact ⟨yao q,ih (yap q)⟩
theorem GXL.get {a:Ad} {H:Hp}:∀{xs:List V} {Gs:List Jnd} {i:Nat} {x:V},GXL a H xs Gs->xs[i]?=some x->∃G,Gs[i]?=some G/\GX a H x G:=by
 intro xs
 induction xs with
 |nil=>intro Bs i x h e;simp at e
 |cons x xs ih=>
  intro Bs i y h e
  cases Bs with
  |nil=>exact False.elim h
  |cons B Bs=>
   cases i with
   |zero=>cases e;exact ⟨B,rfl,yao h⟩
   |succ i=>exact @ih Bs i _ (yap h) (by simpa using e)
theorem GXL.same {a:Ad} {H H':Hp} {xs:List V} {Gs:List Jnd} (s:Sn H H') (h:GXL a H xs Gs):GXL a H' xs Gs:=h.map λ_ _ h=>h.same s
def Jsb (B:Bsn):Str×Int×Int×Int×Int×Nat:=(B.z,B.lo,B.hi,B.st,B.rn,B.n)
def Jw4 (B:Joz):Str×Int×Int×Int×Int×Nat:=(B.z,B.lo,B.hi,B.st,B.rn,nOf B.G)
structure Jqe (R:Jn1) (S:Riv):Prop where
 c:S.c=R.c
 g:S.g=R.g
 Bs:S.Bs.map Jsb=R.Bs.map Jw4
 Ts:S.Ts.map (λB=>(B.z,B.b,B.wt))=R.Ts.map (λB=>(B.z,B.b,B.wt))
inductive Yet (K:Si) (a:Ad) (vs:List V) (H:Hp) (Q:VK) (z3:XK):Prop where
 |mk (p:S5) (x:V) (R:Jn1) (_:vs= [x]) (_:Sci p H x R) (_:Jor R) (_:∀(o:S5) (S:Riv) (H':Hp),Sn H H'->Saz K a H' o S->Jqe R S->GXL a H' (S.Bs.map (·.g)) (R.Bs.map (·.G))->Q (.ref o) H')
theorem GS.gti {H:Hp} {x:V} {n:Nat} (T:Tx K mg a) (g:GS K a H x n):GtI K a H x true:=by
 cases g with
 |plain i ga l=>
  obtain ⟨dx,t,h1,h2⟩:=ga
  rcases i with rfl|rfl|rfl
  ·exact ⟨_,.of (T.Jdt.ty T.Jds h1),T.Jfr,T.Jg1,_,T.Jfx,λ_=>rfl,by intro w';cases w'⟩
  ·exact ⟨_,.of (T.Jdz.ty T.Jdy h1),T.Jfs,T.Jg2,_,T.Jfy,λ_=>rfl,by intro w';cases w'⟩
  ·exact ⟨_,.of (T.Je5.ty T.Je4 h1),T.Jft,T.Jg3,_,T.Jfz,λ_=>rfl,by intro w';cases w'⟩
 |stuck h1=>exact ⟨_,.of (T.Jeb.ty T.Jea h1),T.Jfu,T.Jg4,_,T.Jg0,λ_=>rfl,by intro w';cases w'⟩
theorem Jzo {H:Hp} {z:Str} (h:Ltr 8 z):Nmd K H (.str z):=⟨.inr ⟨_,.of (.str z),rfl⟩,λy e=>by cases e;exact ⟨yam h.len (by omega),h.wd.low⟩⟩
theorem Sao:Jmp ["_law_told_here","_law_basins","_law_name","_law_low","_law_high","_law_start","_law_rain_here","_law_gate_here"] ["_law_told_here"] (Jml (top 76)):=⟨rfl,rfl,rfl,by decide +kernel,rfl,by decide +kernel,by decide +kernel⟩
theorem Jys (T:Tx K mg a):Sx P w K mg base CX0 7 a.Jkq a.Jkr ["_law_told_here"] (Yet K a):=by
 have Se5:=Jty (P:=P) (w:=w) (base:=base) T
 have Se3:=Jwd (P:=P) (w:=w) (base:=base) T
 have Seh:=Jxi (P:=P) (w:=w) (base:=base) T
 have Se4:=Jwe (P:=P) (w:=w) (base:=base) T
 refine T.Jy.fn.ok Sao (λvs H Q E h=>?_) (λcdv A outer s H vs Q E hr h=>?_)
 ·obtain ⟨p,x,R,rfl,_⟩:=h
  rfl
 ·obtain ⟨p,x,R,rfl,⟨t,lb,lt,bs,ts,rfl,ht,hb,btl,htt,ttl,_,_⟩,rg,k⟩:=h
  refine ⟨?t,?B,?C⟩
  case B=>
   refine' Jmi ?O0 ?O1
   case O0=>exact (Jmt (i:=1) Sao.nd rfl (ye rfl) (Jnt Ss))
   case O1=>
   refine' Jmi ?O2 ?O3
   case O2=>
    refine' Jqb ?O4 ?O5 ?O6 ?O7 ?O8
    case O4=>exact PassesOwn.never
    case O5=>exact rfl
    case O6=>exact (Jo2 (Jmv Jn2 (pv 0) Sw (λ_ _=>rfl)))
    case O7=>exact (Jrm rfl (Jmy (Jmr (i:=2) Sao.nd rfl (ye rfl)) (Jmy (Jmr (i:=3) Sao.nd rfl (ye rfl)) (Jmy (Jmr (i:=4) Sao.nd rfl (ye rfl)) (Jmy (Jmr (i:=5) Sao.nd rfl (ye rfl)) (Jmy (Jmr (i:=6) Sao.nd rfl (ye rfl)) (Jmy (Jmr (i:=7) Sao.nd rfl (ye rfl)) Jol)))))))
    case O8=>
    refine' Jmk ?O9
    case O9=>exact (Jom (Jrl F.plainAttrs_list F.slot_list_append F.type_list_append Jop (pv 1) (So (Jpq T.Jei Se3.calm (hr.mono (by decide)) (by rfl) T.Jbl T.Jd5.bd .nil Jqn (pa6 (pv 2) (pv 3) (pv 4) (pv 5) (pv 6) (Jmn T.Jx Se5 hr (by decide) (So (pv 7) Ss)))) Ss)))
   case O3=>
   refine' Jmk ?Oa
   case Oa=>
   refine' Jms ?Ob
   case Ob=>exact (Jpq T.Jen Se4.calm (hr.mono (by decide)) (by rfl) T.Jbn T.Jd7.bd .nil Jqn (pa4 (Jmv Jn2 (pv 0) Sw (λ_ _=>rfl)) (Jmv Jn2 (pv 0) Sw (λ_ _=>rfl)) (pv 1) (Jng (N:=(["_law_name","_law_basin_here","_law_want"]:List Str)) (ini:=[none,none,none]) rfl (Jo2 (Jmv Jn2 (pv 0) Sw (λ_ _=>rfl))) (λ_ _ _ _ _=>(Jqy (K:=K) (n:=3) rfl rfl (Jmy (Jmr (i:=0) (by decide +kernel:(["_law_name","_law_basin_here","_law_want"]:List Str).Nodup) rfl (ye rfl)) (Jmy (Jmr (i:=1) (by decide +kernel:(["_law_name","_law_basin_here","_law_want"]:List Str).Nodup) rfl (ye rfl)) (Jmy (Jmr (i:=2) (by decide +kernel:(["_law_name","_law_basin_here","_law_want"]:List Str).Nodup) rfl (ye rfl)) Jol))))) (λ_ _ _ _ _=>Jnf) (λ_ _ _ _ _=>(Jpq T.Jel Seh.calm (hr.mono (by decide)) (by rfl) T.Jbm T.Jd6.bd .nil Jqn (So (pv 0) (So (pv 1) (So (pv 2) Ss))))))))
  refine ⟨(show 0<=Sa by decide),λnb hnb=>?_⟩
  have s0:=Sn.upd (o:=.lst []) hnb
  refine ⟨_,rfl,t,_,2,_,rfl,rfl,SqT.of (s0 _ _ ht),rfl,lb,rfl,⟨_,Sy.of (s0 _ _ hb)⟩,?_⟩
  have blen:=btl.len
  refine Jvf (xs:=bs) (λi σ H'=>∃(o1 o2 o3 o4 o5 o6:Option V) (os:List S5) (Bs:List Bsn),σ= [some (.ref t),some (.ref nb),o1,o2,o3,o4,o5,o6]/\H' nb=some (.lst (os.map V.ref))/\Sca K a H' os Bs/\Bs.length=i/\Bs.map Jsb=(R.Bs.take i).map Jw4/\GXL a H' (Bs.map (·.g)) ((R.Bs.take i).map (·.G))/\Sn H H') ?_ ?_ ?_ ?_
  ·exact ⟨_,_,_,_,_,_,[],[],rfl,Sv,True.intro,rfl,rfl,True.intro,s0⟩
  ·rintro i σ H' _ ⟨_,_,_,_,_,_,_,_,_,_,_,_,_,_,sm⟩
   exact Sy.of (sm _ _ hb)
  ·rintro i x σ H' hx ⟨o1,o2,o3,o4,o5,o6,os,Bs,rfl,hnbs,bl,bln,bkey,gxl,sm⟩
   obtain ⟨B,eB,⟨tb,g,rfl,htb,gt⟩⟩:=btl.get hx
   have hB:B∈R.Bs:=yy eB
   obtain ⟨bg,bnm,blt⟩:=rg.Bs B hB
   have olen:=bl.len
   have hi:i < R.Bs.length:=(yo.mp eB).1
   have hn:=rg.n
   refine ⟨tb,_,rfl,SqT.of (sm _ _ htb),rfl,_,_,rfl,_,_,rfl,_,_,rfl,_,_,rfl,_,_,rfl,_,_,rfl,rfl,?_⟩
   refine ⟨_,rfl,.inl ⟨rfl,_,Sy.of hnbs⟩,_,rfl,_,rfl,_,rfl,_,rfl,_,rfl,_,rfl,p,g,B.G,rfl,gt.same sm,bg.G,λgv H1 s1 gx=>?_⟩
   have gs:GS K a H1 gv (nOf B.G):=gx.gs bg.G
   intro x dx hx1 hd1 ne
   have sn:Sn H1 (upd (upd H1 dx (.own x)) x (.ins a.Jma dx [])):=λb o e=>by rw [Jmm (Jmo e hx1),Jmm (Jmo e hd1)];exact e
   refine ⟨x,dx,.str B.z,.int B.lo,.int B.hi,.int B.st,.int B.rn,gv,true,none,rfl,Sv,Jzo blt,.inl ⟨_,rfl⟩,.inl ⟨_,rfl⟩,.inl ⟨_,rfl⟩,.inl ⟨_,rfl⟩,(gs.gti T).same sn,.good B.lo B.hi bnm rfl rfl (Jpy bg.lo.1 bg.lo.2) (Jpy bg.hi.1 bg.hi.2) (Jpy bg.st.1 bg.st.2) (Jpy bg.rn.1 bg.rn.2) rfl,λH2 s2=>⟨rfl,?_⟩⟩
   have s3:Sn H1 (upd H2 x (.ins a.Jma dx (Slw (.str B.z) (.int B.lo) (.int B.hi) (.int B.st) (.int B.rn) gv))):=λb o e=>by rw [Jmm (Jmo e hx1)];exact s2 _ _ (sn _ _ e)
   have s13:=s1.trans s3
   have hnb3:=s13 _ _ hnbs
   refine ⟨nb,_,_,rfl,rfl,hnb3,by rw [yf];exact Jne (by omega),?_⟩
   refine ⟨_,_,_,_,_,_,os++ [x],Bs++ [⟨B.z,B.lo,B.hi,B.st,B.rn,gv,nOf B.G⟩],rfl,by rw [Sv,yal];rfl,?_,by rw [yah];show Bs.length+1=i+1;omega,?_,?_,?_⟩
   ·exact Sca.snoc (Sbv.put hnb3 ⟨dx,Sv,gs.same s3⟩) (Sca.map (λx B h=>(h.same s13).put hnb3) bl)
   ·rw [yal,bkey,yag,eB,yal]
    rfl
   ·rw [yal,yag,eB,yal]
    exact GXL.snoc (GX.put hnb3 (gx.same s3)) (GXL.map (λx G h=>(h.same s13).put hnb3) gxl)
   ·intro b o e
    rw [Jmm (Jmo e hnb)]
    exact s13 _ _ (sm _ _ e)
  ·rintro σ H1 ⟨o1,o2,o3,o4,o5,o6,os,Bs,rfl,hnbs,bl,bln,bkey,gxl,sm⟩
   rw [yaf (by omega)] at bkey gxl
   refine ⟨_,rfl,t,_,0,_,rfl,rfl,SqT.of (sm _ _ ht),rfl,?_⟩
   refine ⟨_,rfl,t,_,1,_,rfl,rfl,SqT.of (sm _ _ ht),rfl,?_⟩
   refine ⟨_,rfl,_,rfl,t,_,3,_,rfl,rfl,SqT.of (sm _ _ ht),rfl,lt,rfl,⟨_,Sy.of (sm _ _ htt)⟩,λD hD=>?_⟩
   have tlen:=ttl.len
   refine Jok (K:=K) (a:=lt) (xs:=ts) (D:=D) (λi σ H'=>∃(o1 o2 o3:Option V) (ws:List S5) (Ws:List Twn),σ= [o1,o2,o3]/\H' D=some (.lst (ws.map V.ref))/\Sc0 a H' ws Ws/\Ws.length=i/\Ws.map (λB=>(B.z,B.b,B.wt))=(R.Ts.take i).map (λB=>(B.z,B.b,B.wt))/\Sn H1 H') ?_ ?_ ?_ ?_
   ·exact ⟨_,_,_,[],[],rfl,Sv,True.intro,rfl,rfl,Sn.upd hD⟩
   ·rintro i σ H' _ ⟨_,_,_,_,_,_,_,_,_,_,s1⟩
    exact Sy.of (s1 _ _ (sm _ _ htt))
   ·rintro i x σ H' hx ⟨p1,p2,p3,ws,Ws,rfl,hDs,wl,wln,wkey,s1⟩
    obtain ⟨B,eB,⟨tb,rfl,htb⟩⟩:=ttl.get hx
    obtain ⟨bnm,blt,bin,bw⟩:=rg.Ts B (yy eB)
    have hi:i < R.Ts.length:=(yo.mp eB).1
    have h3:=rg.tn
    have wlen:=wl.len
    obtain ⟨Bb,hBb,ebb⟩:=yaj.mp bin
    have blb:Ltr 8 B.b:=by rw [<-ebb];exact (rg.Bs Bb hBb).2.2
    have bnb:Jrd B.b=true:=by rw [<-ebb];exact (rg.Bs Bb hBb).2.1
    refine Yaa (SqT.of (s1 _ _ (sm _ _ htb))) ⟨_,rfl,_,rfl,_,rfl,λx dx hx1 hd1 ne=>?_⟩
    have sn:Sn H' (upd (upd H' dx (.own x)) x (.ins a.Jmb dx [])):=λb o e=>by rw [Jmm (Jmo e hx1),Jmm (Jmo e hd1)];exact e
    refine ⟨x,dx,.str B.z,.str B.b,.int B.wt,none,rfl,Sv,Jzo blt,Jzo blb,.inl ⟨_,rfl⟩,.good bnm bnb (Jpy bw.1 bw.2),λH2 s2=>⟨rfl,?_⟩⟩
    have s3:Sn H' (upd H2 x (.ins a.Jmb dx (twnF (.str B.z) (.str B.b) (.int B.wt)))):=λb o e=>by rw [Jmm (Jmo e hx1)];exact s2 _ _ (sn _ _ e)
    have hD3:=s3 _ _ hDs
    refine ⟨_,hD3,by rw [yf];exact Jne (by omega),_,_,_,ws++ [x],Ws++ [⟨B.z,B.b,B.wt⟩],rfl,by rw [Sv,yal];rfl,?_,by rw [yah];show Ws.length+1=i+1;omega,?_,?_⟩
    ·exact Sc0.snoc (Sbr.put hD3 ⟨dx,Sv⟩) (Sc0.map (λx B h=>(h.same s3).put hD3) wl)
    ·rw [yal,wkey,yag,eB,yal]
     rfl
    ·intro b o e
     rw [Jmm (Jmo e hD)]
     exact s3 _ _ (s1 _ _ e)
   ·rintro σ H2 ⟨p1,p2,p3,ws,Ws,rfl,hDs,wl,wln,wkey,s1⟩
    rw [yaf (by omega)] at wkey
    intro x dx hx1 hd1 ne
    have sn:Sn H2 (upd (upd H2 dx (.own x)) x (.ins a.Jmc dx [])):=λb o e=>by rw [Jmm (Jmo e hx1),Jmm (Jmo e hd1)];exact e
    have hz:Bs.map (·.z)=R.Bs.map (·.z):=by
     have:=congrArg (List.map (·.1)) bkey
     simpa [ybb,Jsb,Jw4,ybv] using this
    have hr:Bs.map (·.rn)=R.Bs.map (·.rn):=by
     have:=congrArg (List.map (·.2.2.2.2.1)) bkey
     simpa [ybb,Jsb,Jw4,ybv] using this
    have hw:Ws.map (·.z)=R.Ts.map (·.z):=by
     have:=congrArg (List.map (·.1)) wkey
     simpa [ybb,ybv] using this
    have hwb:Ws.map (·.b)=R.Ts.map (·.b):=by
     have:=congrArg (List.map (·.2.1)) wkey
     simpa [ybb,ybv] using this
    have n1:=rg.n
    have n2:=rg.tn
    refine ⟨x,dx,nb,D,R.c,R.g,os,ws,Bs,Ws,rfl,Sv,rg.c,rg.g,sn _ _ (s1 _ _ hnbs),(bl.same s1).same sn,by omega,by rw [hz];exact rg.nd,sn _ _ hDs,wl.same sn,by omega,by rw [hw];exact rg.td,λB hB=>?_,λH3 b t s3 hb3 ht3 nb3 nt3=>⟨rfl,?_⟩⟩
    ·have:B.b∈R.Ts.map (·.b):=by rw [<-hwb];exact ybl hB
     obtain ⟨C,hC,e⟩:=yaj.mp this
     rw [hz,<-e]
     exact (rg.Ts C hC).2.2.1
    ·have s4:Sn H2 (upd H3 x (.ins a.Jmc dx (Sjk (.int R.c) (.int R.g) (.ref b) (.ref t)))):=λb o e=>by rw [Jmm (Jmo e hx1)];exact s3 _ _ (sn _ _ e)
     refine k x ⟨R.c,R.g,Bs,Ws⟩ _ ((sm.trans s1).trans s4) ⟨dx,b,t,os,ws,Sv,by rw [Jmm nb3];exact hb3,(bl.same s1).same s4,by rw [Jmm nt3];exact ht3,wl.same s4,by dsimp only;omega,by dsimp only;omega,λB hB=>?_⟩ ⟨rfl,rfl,bkey,wkey⟩ ((gxl.same s1).same s4)
     have:B.rn∈R.Bs.map (·.rn):=by rw [<-hr];exact ybl hB
     obtain ⟨C,hC,e⟩:=yaj.mp this
     rw [<-e]
     exact (rg.Bs C hC).1.rn
theorem Jzd {K:Si} {p a D:S5} {xs:List V} {te:TE} {R:Hp->Prop} {H:Hp} {o:Option V} {rest:List (Option V)} (Pr:Nat->V->Prop) (st:Sbb H p) (hD:H D=none) (sz:xs.length<=2000) (hq:H a=some (.lst xs)) (na:a≠p)
  (he:∀(i:Nat) (x:V) (H':Hp) (Q:VK),xs[i]?=some x->But p H H'->(∀y H5,But p H' H5->Pr i y->Q y H5)->te (some x::rest) H' Q) (hd:∀ys H',But p H H'->H' D=some (.lst ys)->ys.length=xs.length->(∀i y,ys[i]?=some y->Pr i y)->R H'):
  ∃W:Nat->Nat->L2.St->Hp->Prop,(∃m,W 0 m (o::rest) (upd H D (.lst [])))/\∀i m σ' H',W i m σ' H'->((Itl K a).stop i H'/\R H')\/((Itl K a).go i H'/\∃N:L2.St->Hp->Prop,(∀σ2 H2,N σ2 H2->∃m',m' < m/\W (i+1) m' σ2 H2)/\
   ∀x H2,(Itl K a).yld i H' x H2->Jp4 0 x σ' H2 λσ3 H3=>Ya σ3 H3 λb H4=>if b=true then te σ3 H4 (λv H5=>∃ys,H5 D=some (.lst ys)/\ys.length < Sa/\N σ3 (upd H5 D (.lst (ys++ [v])))) else N σ3 H4):=by
 have nD:D≠p:=st.ne hD
 refine Jok (λi σ H'=>(∃o,σ=o::rest)/\(∃ys,H' D=some (.lst ys)/\ys.length=i/\∀j y,ys[j]?=some y->Pr j y)/\But p H H') ⟨⟨_,rfl⟩,⟨[],Sv,rfl,λj y e=>by simp at e⟩,But.of st (Sn.upd hD)⟩ (λi σ H' _ ⟨_,_,b⟩=>Sy.of (b.1 _ _ na hq)) ?_ ?_
 ·rintro i x σ H' hx ⟨⟨o,rfl⟩,⟨ys,hDs,hl,hy⟩,b⟩
  have hi:i < xs.length:=(yo.mp hx).1
  refine Jo7 (he i x H' _ hx b λy H5 b5 py=>⟨ys,b5.1 _ _ nD hDs,Jne (by omega),⟨_,rfl⟩,⟨ys++ [y],Sv,by rw [yah];show ys.length+1=i+1;omega,λj z ej=>?_⟩,(b.trans b5).updD hD nD⟩)
  rw [List.getElem?_append] at ej
  split at ej
  ·exact hy j z ej
  ·have hj:j=i:=by
    have:=(yo.mp ej).1
    simp at this
    omega
   subst hj
   rw [hl,Nat.sub_self] at ej
   cases ej
   exact py
 ·rintro σ H' ⟨_,⟨ys,hDs,hl,hy⟩,b⟩
  exact hd ys H' b hDs hl hy
theorem Sci.but {p:S5} {H H':Hp} {x:V} {R:Jn1} (rg:Jor R) (st:Sbb H p) (b:But p H H') (h:Sci p H x R):Sci p H' x R:=
 let ⟨t,lb,lt,bs,ts,e,h1,h2,h3,h4,h5,n1,n2⟩:=h
 ⟨t,lb,lt,bs,ts,e,b.1 _ _ (Jq2 st h1 (λ_ _ _ z=>by cases z)) h1,b.1 _ _ n1 h2,BTL.map (λ_ _ _ h=>h.but st b) (λB hB=>(rg.Bs B hB).1) h3,b.1 _ _ n2 h4,TTL.map (λ_ _ h=>h.but st b) h5,n1,n2⟩
theorem Sci.same {p:S5} {H H':Hp} {x:V} {R:Jn1} (rg:Jor R) (s:Sn H H') (h:Sci p H x R):Sci p H' x R:=
 let ⟨t,lb,lt,bs,ts,e,h1,h2,h3,h4,h5,n1,n2⟩:=h
 ⟨t,lb,lt,bs,ts,e,s _ _ h1,s _ _ h2,BTL.map (λ_ _ _ h=>h.same s) (λB hB=>(rg.Bs B hB).1) h3,s _ _ h4,TTL.map (λ_ _ h=>h.same s) h5,n1,n2⟩
theorem Ye3 {Pr:Nat->Int->Prop}:∀{ys:List V},(∀i y,ys[i]?=some y->∃n:Int,y= .int n/\Pr i n)->∃ns:List Int,ys=ns.map V.int/\∀i n,ns[i]?=some n->Pr i n:=by
 intro ys h
 refine ⟨ys.map Jq1,?_,λi n e=>?_⟩
 ·rw [ybb]
  refine List.ext_getElem? λi=>?_
  rw [yj]
  cases e:ys[i]? with
  |none=>rfl
  |some y=>
   obtain ⟨n,rfl,_⟩:=h i y e
   rfl
 ·rw [yj] at e
  cases ey:ys[i]? with
  |none=>rw [ey] at e;cases e
  |some y=>
   rw [ey] at e
   obtain ⟨m,rfl,pm⟩:=h i y ey
   cases e
   exact pm
def Saw (H:Hp) (x:V) (R:Jn1) (ls:List Int) (wt:Int):Prop:=(∃y u:S5,x= .ref y/\H y=some (.tup [.ref u,.int wt])/\H u=some (.tup (ls.map V.int)))/\ls.length=R.Bs.length/\(∀(i:Nat) (n:Int),ls[i]?=some n->∃B,R.Bs[i]?=some B/\B.lo<=n/\n<=B.hi)/\0<=wt/\wt<=R.c
inductive Yd1 (vs:List V) (H:Hp) (Q:VK) (z3:XK):Prop where
 |mk (p:S5) (x:V) (R:Jn1) (_:vs= [.ref p,x]) (_:Sbb H p) (_:Sci p H x R) (_:Jor R) (_:∀(y:V) (ls:List Int) (wt:Int) (H':Hp),But p H H'->Saw H' y R ls wt->Q y H')
theorem Scp:Jmp ["_law_stream_here","_law_told_here","_law_levels"] ["_law_stream_here","_law_told_here"] (Jml (top 78)):=⟨rfl,rfl,rfl,by decide +kernel,rfl,by decide +kernel,by decide +kernel⟩
theorem Jup (T:Tx K mg a):Sx P w K mg base CX0 2 a.Jks a.Jkt ["_law_stream_here","_law_told_here"] Yd1:=by
 have Sr:=Jon (P:=P) (w:=w) (base:=base) T
 refine T.Jz.fn.ok Scp (λvs H Q E h=>?_) (λcdv A outer s H vs Q E hr h=>?_)
 ·obtain ⟨p,x,R,rfl,_⟩:=h
  rfl
 ·obtain ⟨p,x,R,rfl,st,rt,rg,k⟩:=h
  refine ⟨?t,?B,?C⟩
  case B=>
   refine' Jmi ?O0 ?O1
   case O0=>exact (Jmt (i:=2) Scp.nd rfl (ye rfl) (Jn3 Jn5 (by rfl) T.Jb1 Jnk (So (Jng (N:=(["_law_one","_law_stream_here"]:List Str)) (ini:=[none,some 0]) rfl (Jo2 (Jmv Jn2 (pv 1) Sw (λ_ _=>rfl))) (λ_ _ _ _ _=>(Jmr (i:=0) (by decide +kernel:(["_law_one","_law_stream_here"]:List Str).Nodup) rfl (ye rfl))) (λ_ _ _ _ _=>Jnf) (λ_ _ _ _ _=>(Jn0 Jnp (Jmv (Jpg (K:=K) rfl) (pv 0) Sw (λ_ _=>rfl)) (Jmn T.Js Sr hr (by decide) (So (pv 1) (So (Jn0 Jnp (Jn0 Jo9 (Jmv (Jpg (K:=K) rfl) (pv 0) Sw (λ_ _=>rfl)) (Jmv (Jpg (K:=K) rfl) (pv 0) Sw (λ_ _=>rfl))) Sw) Ss)))))) Ss)))
   case O1=>
   refine' Jmk ?O2
   case O2=>exact (Jms (Jnx (So (pv 2) (So (Jmn T.Js Sr hr (by decide) (So (pv 0) (So (Jn0 Jnp (Jmv Jn2 (pv 1) Sw (λ_ _=>rfl)) Sw) Ss))) Ss))))
  obtain ⟨t,lb,lt,bs,ts,rfl,ht,hb,btl,htt,ttl,nb,nt⟩:=rt
  refine ⟨_,rfl,t,_,2,_,rfl,rfl,SqT.of ht,rfl,lb,rfl,⟨_,Sy.of hb⟩,λD hD=>?_⟩
  have blen:=btl.len
  have hn:=rg.n
  refine Jzd (p:=p) (λi y=>∃n:Int,y= .int n/\∃B,R.Bs[i]?=some B/\B.lo<=n/\n<=B.hi) st hD (by omega) hb nb ?_ ?_
  ·intro i x H' Q' hx b k'
   obtain ⟨B,eB,tb,g,rfl,htb,gt⟩:=btl.get hx
   have bg:=(rg.Bs B (yy eB)).1
   have htb':=b.1 _ _ (Jq2 st htb (λ_ _ _ z=>by cases z)) htb
   have q1:=bg.lo
   have q2:=bg.hi
   refine ⟨_,rfl,tb,_,1,_,rfl,rfl,SqT.of htb',rfl,_,rfl,_,rfl,tb,_,2,_,rfl,rfl,SqT.of htb',rfl,_,rfl,tb,_,1,_,rfl,rfl,SqT.of htb',rfl,_,_,rfl,rfl,_,_,rfl,rfl,p,_,rfl,b.2,by omega,Jsx (by omega),λr H5 r0 r1 b5=>⟨_,_,rfl,rfl,k' _ _ b5 ⟨_,rfl,B,eB,by omega,by omega⟩⟩⟩
  ·intro ys H1 b1 hD1 hl1 hy
   obtain ⟨ns,rfl,hns⟩:=Ye3 hy
   rw [yf] at hl1
   have nD:D≠p:=st.ne hD
   refine ⟨D,_,rfl,.inl ⟨Sy.of hD1,λu hu=>?_⟩⟩
   have su:=Sn.upd (o:=.tup (ns.map V.int)) hu
   have b2:=b1.same su
   have ht2:=b2.1 _ _ (Jq2 st ht (λ_ _ _ z=>by cases z)) ht
   have hc:=rg.c
   refine ⟨_,rfl,_,rfl,_,rfl,t,_,0,_,rfl,rfl,SqT.of ht2,rfl,_,_,rfl,rfl,p,_,rfl,b2.2,by omega,Jsx (by omega),λr H5 r0 r1 b5=>⟨(show 2<=Sa by decide),λy hy=>?_⟩⟩
   have sy:=Sn.upd (o:=.tup [.ref u,.int r]) hy
   have hu5:H5 u=some (.tup (ns.map V.int)):=b5.1 _ _ (Jq2 b2.2 Sv (λ_ _ _ z=>by cases z)) Sv
   exact k (.ref y) ns r _ ((b2.trans b5).same sy) ⟨⟨y,u,rfl,Sv,sy _ _ hu5⟩,by omega,hns,r0,by omega⟩
def Jrk (kd:Str) (m lv:Int):Int:=if kd=("step" :Str) then (if lv < m then lv else m) else if kd=("flap" :Str) then (if 0 > lv - m then 0 else lv - m) else lv/m
def lvG (G:Jnd) (s lv:Int):Int:=Jrk G.kd (G.ns.getD (match G.sv with|some j=>j|none=>s).toNat 0) lv
inductive Y6 (C:S5) (lo:Int) (f:Int->Int->Int) (vs:List V) (H:Hp) (Q:VK) (z3:XK):Prop where
 |mk (g:S5) (ns:List Int) (s lv:Int) (_:vs= [.ref g,.int s,.int lv]) (_:Sbo C H g (ns.map V.int)) (_:(0<=s/\s < ns.length)) (_:(∀n∈ns,lo<=n/\n<=12)) (_:(0<=lv/\lv<=1000)) (_:Q (.int (f (ns.getD s.toNat 0) lv)) H)
theorem Juy {ns:List Int} {s:Int} (h:0<=s/\s < ns.length):atI (ns.map V.int) s=some (.int (ns.getD s.toNat 0))/\ns.getD s.toNat 0∈ns:=by
 obtain ⟨i,rfl⟩:=ybg h.1
 have hi:i < ns.length:=by omega
 have e:ns.getD (i:Int).toNat 0=ns[i]:=by simp [ybo,hi]
 rw [e]
 exact ⟨Jpf hi,yba hi⟩
theorem Jsu:Jmp ["self","setting","level"] ["self","setting","level"] (Jml (Jmw (top 49) 2)):=⟨rfl,rfl,rfl,by decide +kernel,rfl,by decide +kernel,by decide +kernel⟩
theorem Jsi (T:Tx K mg a):Sx P w K mg base CX0 1 a.Jja a.Jjb ["self","setting","level"] (Y6 a.Jm6 0 λm lv=>if lv < m then lv else m):=by
 refine T.Jcv.fn.ok Jsu (λvs H Q E h=>?_) (λcdv A outer s H vs Q E hr h=>?_)
 ·obtain ⟨g,ns,s,lv,rfl,_⟩:=h
  rfl
 ·obtain ⟨g,ns,s,lv,rfl,⟨dx,t,hg,ht⟩,hs,hn,hl,k⟩:=h
  obtain ⟨hat,hin⟩:=Juy hs
  refine ⟨?t,?B,?C⟩
  case B=>
   refine' Jmk ?O0
   case O0=>exact (Jms (Jmq (Jp0 rfl) (by rfl) T.Jaw Jr9 (So (Jmv Jn2 (Jnh (pv 0) (by rfl)) (pv 1) (λ_ _=>rfl)) (So (pv 2) Ss))))
  exact ⟨_,rfl,g,_,dx,_,_,rfl,hg,T.Jds,T.Jf7,rfl,_,rfl,t,_,_,_,rfl,rfl,SqT.of ht,hat,_,rfl,_,_,rfl,k⟩
theorem Jso:Jmp ["self","setting","level"] ["self","setting","level"] (Jml (Jmw (top 50) 2)):=⟨rfl,rfl,rfl,by decide +kernel,rfl,by decide +kernel,by decide +kernel⟩
theorem Jsg (T:Tx K mg a):Sx P w K mg base CX0 1 a.Jjg a.Jjh ["self","setting","level"] (Y6 a.Jm7 0 λm lv=>if 0 > lv - m then 0 else lv - m):=by
 refine T.Jcy.fn.ok Jso (λvs H Q E h=>?_) (λcdv A outer s H vs Q E hr h=>?_)
 ·obtain ⟨g,ns,s,lv,rfl,_⟩:=h
  rfl
 ·obtain ⟨g,ns,s,lv,rfl,⟨dx,t,hg,ht⟩,hs,hn,hl,k⟩:=h
  obtain ⟨hat,hin⟩:=Juy hs
  refine ⟨?t,?B,?C⟩
  case B=>
   refine' Jmk ?O0
   case O0=>exact (Jms (Jmq (Jp8 rfl) (by rfl) T.Jav Jsd (So (Jn0 Jo9 (pv 2) (Jmv Jn2 (Jnh (pv 0) (by rfl)) (pv 1) (λ_ _=>rfl))) (So Sw Ss))))
  exact ⟨_,rfl,_,rfl,g,_,dx,_,_,rfl,hg,T.Jdy,T.Jf8,rfl,_,rfl,t,_,_,_,rfl,rfl,SqT.of ht,hat,_,_,rfl,rfl,_,_,rfl,k⟩
theorem Jst:Jmp ["self","setting","level"] ["self","setting","level"] (Jml (Jmw (top 51) 2)):=⟨rfl,rfl,rfl,by decide +kernel,rfl,by decide +kernel,by decide +kernel⟩
theorem Jsh (T:Tx K mg a):Sx P w K mg base CX0 1 a.Jjm a.Jjn ["self","setting","level"] (Y6 a.Jm8 1 λm lv=>lv/m):=by
 refine T.Jd1.fn.ok Jst (λvs H Q E h=>?_) (λcdv A outer s H vs Q E hr h=>?_)
 ·obtain ⟨g,ns,s,lv,rfl,_⟩:=h
  rfl
 ·obtain ⟨g,ns,s,lv,rfl,⟨dx,t,hg,ht⟩,hs,hn,hl,k⟩:=h
  obtain ⟨hat,hin⟩:=Juy hs
  refine ⟨?t,?B,?C⟩
  case B=>
   refine' Jmk ?O0
   case O0=>exact (Jms (Jn0 Jt0 (pv 2) (Jmv Jn2 (Jnh (pv 0) (by rfl)) (pv 1) (λ_ _=>rfl))))
  have hm:=hn _ hin
  refine ⟨_,rfl,_,rfl,g,_,dx,_,_,rfl,hg,T.Je4,T.Jf9,rfl,_,rfl,t,_,_,_,rfl,rfl,SqT.of ht,hat,?_⟩
  exact ⟨_,_,rfl,rfl,⟨by omega,Jsx (by omega)⟩,k⟩
theorem Jx1:∀{ns:List Int} {lo:Int},Jo8 lo (ns.map V.int)=true->∀n∈ns,lo<=n/\n<=12
 | [],_,_=>λ_ h=>nomatch h
 |x::r,lo,h=>by
  have h':((decide (lo<=x)&&decide (x<=12))&&Jo8 (x+1) (r.map V.int))=true:=h
  rw [yx,yx,decide_eq_true_eq,decide_eq_true_eq] at h'
  intro n hn
  rcases yk.mp hn with rfl|hn
  ·exact h'.1
  ·have:=Jx1 h'.2 n hn
   omega
theorem Sbh.marks {G:Jnd} (h:Sbh G):∀n∈G.ns,Jpj G.kd<=n/\n<=12:=by
 have q:(decide (1<=(G.ns.map V.int).length/\(G.ns.map V.int).length<=4)&&Jo8 (Jpj G.kd) (G.ns.map V.int))=true:=h.ns
 rw [yx] at q
 exact Jx1 q.2
theorem Juj {H:Hp} {g:S5} {kd:Str} {ns:List Int} {s lv:Int} {Q:VK} (T:Tx K mg a) (hk:Knd kd) (ga:Sbo (cOf a kd) H g (ns.map V.int)) (hs:0<=s/\s < ns.length) (hn:∀n∈ns,Jpj kd<=n/\n<=12) (hl:0<=lv/\lv<=1000) (k:Q (.int (Jrk kd (ns.getD s.toNat 0) lv)) H):
  ∃C dx fs f fd ps sp,H g=some (.ins C dx fs)/\fs.lookup ("passes" :Str)=none/\Cls K C/\Jq8 K C "passes" f/\Sx P w K mg base CX0 1 f fd ps sp/\Sbg K fd ps []/\sp [.ref g,.int s,.int lv] H Q E0:=by
 obtain ⟨dx,t,h1,h2⟩:=id ga
 rcases hk with rfl|rfl|rfl
 ·have e2:cOf a "step" =a.Jm6:=if_pos rfl
  rw [e2] at h1 ga
  exact ⟨_,dx,_,_,_,_,_,h1,rfl,T.Jds,T.Jdx,Jsi T,T.Jcv.bd,g,ns,s,lv,rfl,ga,hs,hn,hl,k⟩
 ·have e2:cOf a "flap" =a.Jm7:=by unfold cOf;rw [if_neg Jug,if_pos rfl]
  rw [e2] at h1 ga
  have ek:Jrk "flap" (ns.getD s.toNat 0) lv=(if 0 > lv - ns.getD s.toNat 0 then 0 else lv - ns.getD s.toNat 0):=by unfold Jrk;rw [if_neg Jug,if_pos rfl]
  rw [ek] at k
  exact ⟨_,dx,_,_,_,_,_,h1,rfl,T.Jdy,T.Je3,Jsg T,T.Jcy.bd,g,ns,s,lv,rfl,ga,hs,hn,hl,k⟩
 ·have e2:cOf a "part" =a.Jm8:=by unfold cOf;rw [if_neg Jui,if_neg Juh]
  rw [e2] at h1 ga
  have ek:Jrk "part" (ns.getD s.toNat 0) lv=lv/ns.getD s.toNat 0:=by unfold Jrk;rw [if_neg Jui,if_neg Juh]
  rw [ek] at k
  exact ⟨_,dx,_,_,_,_,_,h1,rfl,T.Je4,T.Je9,Jsh T,T.Jd1.bd,g,ns,s,lv,rfl,ga,hs,hn,hl,k⟩
theorem Ycl {H:Hp} {g:S5} {kd:Str} {xs:List V} (T:Tx K mg a) (hk:Knd kd) (ga:Sbo (cOf a kd) H g xs):∃t,TyX K H (.ref g) t/\Sj K t (.ref a.Jm9)=some false:=by
 obtain ⟨dx,t,h1,h2⟩:=ga
 rcases hk with rfl|rfl|rfl
 ·rw [show cOf a "step" =a.Jm6 from if_pos rfl] at h1
  exact ⟨_,.of (T.Jdt.ty T.Jds h1),T.Jg5⟩
 ·rw [show cOf a "flap" =a.Jm7 by unfold cOf;rw [if_neg Jug,if_pos rfl]] at h1
  exact ⟨_,.of (T.Jdz.ty T.Jdy h1),T.Jg6⟩
 ·rw [show cOf a "part" =a.Jm8 by unfold cOf;rw [if_neg Jui,if_neg Juh]] at h1
  exact ⟨_,.of (T.Je5.ty T.Je4 h1),T.Jg7⟩
inductive Yew (a:Ad) (vs:List V) (H:Hp) (Q:VK) (z3:XK):Prop where
 |mk (x g dx:S5) (y:V) (kd:Str) (ns:List Int) (j lv:Int) (_:vs= [.ref x,y,.int lv]) (_:H x=some (.ins a.Jm9 dx [("gate",.ref g),("setting",.int j)])) (_:Knd kd) (_:Sbo (cOf a kd) H g (ns.map V.int)) (_:(0<=j/\j < ns.length)) (_:(∀n∈ns,Jpj kd<=n/\n<=12)) (_:(0<=lv/\lv<=1000)) (_:Q (.int (Jrk kd (ns.getD j.toNat 0) lv)) H)
theorem Sb3:Jmp ["self","setting","level","inner"] ["self","setting","level"] (Jml (Jmw (top 52) 2)):=⟨rfl,rfl,rfl,by decide +kernel,rfl,by decide +kernel,by decide +kernel⟩
theorem Js0 (T:Tx K mg a):Sx P w K mg base CX0 2 a.Jjs a.Jjt ["self","setting","level"] (Yew a):=by
 refine T.Jd4.fn.ok Sb3 (λvs H Q E h=>?_) (λcdv A outer s H vs Q E hr h=>?_)
 ·obtain ⟨x,g,dx,y,kd,ns,j,lv,rfl,_⟩:=h
  rfl
 ·obtain ⟨x,g,dx,y,kd,ns,j,lv,rfl,hx,hk,ga,hj,hn,hl,k⟩:=h
  refine ⟨?t,?B,?C⟩
  case B=>
   refine' Jmi ?O0 ?O1
   case O0=>exact (Jmt (i:=3) Sb3.nd rfl (ye rfl) (pv 0))
   case O1=>
   refine' Jmi ?O2 ?O3
   case O2=>exact (Ycm PassesOwn.never (Jnb (Jmq Jnq (by rfl) T.Jas Jmx (So (Jnh (pv 3) (by rfl)) (So (Jns (by rfl) T.Jbk (v:=.ref _) rfl) Ss)))) (Jmk (Jmt (i:=3) Sb3.nd rfl (ye rfl) (Jnh (pv 3) (by rfl)))))
   case O3=>
   refine' Jmk ?O4
   case O4=>exact (Jms (Jt2 (Jnh (pv 3) (by rfl)) hr (So (Jnh (pv 3) (by rfl)) (So (pv 2) Ss))))
  obtain ⟨t,tg,et⟩:=Ycl T hk ga
  obtain ⟨C,dx',fs,f,fd,ps,sp,h1,h2,c,m,ok,bd,hsp⟩:=Juj (P:=P) (w:=w) (base:=base) (Q:=Q) T hk ga hj hn hl k
  refine ⟨_,rfl,λ_ σ' H'=>σ'= [some (.ref x),some y,some (.int lv),some (.ref x)]/\H'=H,⟨0,rfl,rfl⟩,?_⟩
  rintro n σ' H' ⟨rfl,rfl⟩
  refine ⟨_,rfl,x,_,dx,_,_,rfl,hx,T.Jea,T.Jfa,rfl,_,_,_,t,false,rfl,rfl,tg,et,_,rfl,Jni ?_⟩
  exact ⟨_,rfl,x,_,dx,_,_,rfl,hx,T.Jea,T.Jfa,rfl,g,C,dx',fs,f,fd,ps,sp,1,rfl,h1,h2,c,m,ok,by decide,bd,_,rfl,x,_,dx,_,_,rfl,hx,T.Jea,T.Jfb,rfl,_,rfl,hsp⟩
theorem GX.passes {H:Hp} {x:V} {G:Jnd} {s lv:Int} {Q:VK} (T:Tx K mg a) (gg:Sbh G) (gx:GX a H x G) (hs:0<=s/\s < (nOf G:Int)) (hl:0<=lv/\lv<=1000) (k:Q (.int (lvG G s lv)) H):
  ∃o C dx fs f fd ps sp k',x= .ref o/\H o=some (.ins C dx fs)/\fs.lookup ("passes" :Str)=none/\Cls K C/\Jq8 K C "passes" f/\Sx P w K mg base CX0 k' f fd ps sp/\k'<=2/\Sbg K fd ps []/\sp [x,.int s,.int lv] H Q E0:=by
 obtain ⟨g,ga,r⟩:=gx
 unfold lvG at k
 unfold nOf at hs
 cases e:G.sv with
 |none=>
  rw [e] at r k hs
  subst r
  obtain ⟨C,dx',fs,f,fd,ps,sp,h1,h2,c,m,ok,bd,hsp⟩:=Juj (P:=P) (w:=w) (base:=base) (Q:=Q) T gg.kd ga hs gg.marks hl k
  exact ⟨g,C,dx',fs,f,fd,ps,sp,1,rfl,h1,h2,c,m,ok,by decide,bd,hsp⟩
 |some j=>
  rw [e] at r k
  obtain ⟨q,dx,rfl,r2⟩:=r
  exact ⟨q,_,dx,_,_,_,_,_,2,rfl,r2,rfl,T.Jea,T.Jef,Js0 T,by decide,T.Jd4.bd,q,g,dx,.int s,G.kd,G.ns,j,lv,rfl,r2,gg.kd,ga,gg.sv j e,gg.marks,hl,k⟩
inductive Yd2 (a:Ad) (vs:List V) (H:Hp) (Q:VK) (z3:XK):Prop where
 |mk (x:V) (G:Jnd) (s lv:Int) (_:vs= [x,.int s,.int lv]) (_:GX a H x G) (_:Sbh G) (_:(0<=s/\s < (nOf G:Int))) (_:(0<=lv/\lv<=1000)) (_:Q (.int (lvG G s lv)) H)
theorem Jrr:Jmp ["self","thing"] ["self","thing"] (Jml (Jmw (top 12) 0)):=⟨rfl,rfl,rfl,by decide +kernel,rfl,by decide +kernel,by decide +kernel⟩
theorem Jql (T:Tx K mg a):Sx P w K mg base CX0 1 a.Jho a.Jhp ["self","thing"] (Jpk K "thing"):=by
 refine T.Jco.fn.ok Jrr (λvs H Q E h=>?_) (λcdv A outer s H vs Q E hr h=>?_)
 ·obtain ⟨e,C,W,fI,y,rfl,_⟩:=h
  rfl
 ·obtain ⟨e,C,W,fI,y,rfl,q,c,n,k⟩:=h
  refine ⟨_,(Jmk (Jph (pv 0) (pv 1) rfl)),?_⟩
  exact ⟨_,rfl,_,rfl,e,C,W,fI,true,rfl,q,c,n,k⟩
theorem Jy0:Jmp ["self","setting","level"] ["self","setting","level"] (Jml (Jmw (top 48) 0)):=⟨rfl,rfl,rfl,by decide +kernel,rfl,by decide +kernel,by decide +kernel⟩
theorem Jpp (T:Tx K mg a):Sx P w K mg base (CXX P w) 3 a.Jj4 a.Jj5 ["self","setting","level"] (Yd2 a):=by
 have Sz:=Jnz (P:=P) (w:=w) (base:=base) T
 have Sa7:=Jp5 (P:=P) (w:=w) (base:=base) T
 have Sb1:=Jql (P:=P) (w:=w) (base:=base) T
 refine T.Jcs.fn.okX Jy0 (λvs H Q E h=>?_) (λcdv A outer s H vs Q E hr h=>?_)
 ·obtain ⟨x,G,s,lv,rfl,_⟩:=h
  rfl
 ·obtain ⟨x,G,s,lv,rfl,gx,gg,hs,hl,k⟩:=h
  refine ⟨?t,?B,?C⟩
  case B=>
   refine' Jmi ?O0 ?O1
   case O0=>
    refine' Jn6 ?O2 ?O3 ?O4
    case O2=>exact (Jn7 (Jnb (Jmn T.J0 Sz hr (by decide) (So (pv 1) (So Sw (So (Jn0 Jo9 (Ju2 (pv 0) hr) Sw) Ss))))))
    case O3=>
     refine' Jmk ?O5
     case O5=>exact (Jnl Jnn rfl (Jo4 T.Jda Sa7 hr (by decide) T.Jcg.bd T.Jb5 (So (pv 1) Ss)))
    case O4=>exact Jmu
   case O1=>
   refine' Jmi ?O6 ?O7
   case O6=>
    refine' Jn6 ?O8 ?O9 ?Oa
    case O8=>exact (Jn7 (Jnb (Jmn T.J0 Sz hr (by decide) (So (pv 2) (So Sw (So (Jns (by rfl) T.Jag (v:=.int 1000) ⟨_,rfl⟩) Ss))))))
    case O9=>
     refine' Jmk ?Ob
     case Ob=>exact (Jnl Jnn rfl (Jo4 T.Jdl Sb1 hr (by decide) T.Jco.bd T.Jbd (So (pv 2) Ss)))
    case Oa=>exact Jmu
   case O7=>
   refine' Jmk ?Oc
   case Oc=>exact (Jms (Jt2 (pv 0) hr (So (pv 1) (So (pv 2) Ss))))
  have gs:GS K a H x (nOf G):=gx.gs gg
  obtain ⟨o,C,dx',fs,f,fd,ps,sp,k',rfl,h1,h2,c,m,ok,hk,bd,hsp⟩:=gx.passes (P:=P) (w:=w) (base:=base) (Q:=Q) T gg hs hl k
  refine ⟨_,rfl,_,rfl,Jot T gs ⟨_,_,rfl,rfl,.int s,0,(nOf G:Int) - 1,rfl,.inl ⟨s,rfl⟩,_,rfl,ifF (by simp [Jmz];omega) ?_⟩ (by decide)⟩
  refine ⟨_,rfl,.int lv,0,1000,rfl,.inl ⟨lv,rfl⟩,_,rfl,ifF (by simp [Jmz];omega) ?_⟩
  exact ⟨_,rfl,o,C,dx',fs,f,fd,ps,sp,k',rfl,h1,h2,c,m,ok,hk,bd,_,rfl,_,rfl,hsp⟩
def plc (S:Riv) (z:Str):Nat:=(S.Bs.map (·.z)).idxOf z
inductive Yex (K:Si) (a:Ad) (vs:List V) (H:Hp) (Q:VK) (z3:XK):Prop where
 |mk (o:S5) (S:Riv) (z:Str) (_:vs= [.ref o,.str z]) (_:Saz K a H o S) (_:z∈S.Bs.map (·.z)) (_:∀H',Sn H H'->Q (.int (plc S z)) H')
def TIn (S:Riv):Prop:=∀T∈S.Ts,T.b∈S.Bs.map (·.z)/\1<=T.wt/\T.wt<=6
inductive Yep (K:Si) (a:Ad) (vs:List V) (H:Hp) (Q:VK) (z3:XK):Prop where
 |mk (o:S5) (S:Riv) (t:Int) (T:Twn) (_:vs= [.ref o,.int t]) (_:Saz K a H o S) (_:TIn S) (_:0<=t) (_:S.Ts[t.toNat]?=some T) (_:∀H',Sn H H'->Q (.int (plc S T.b)) H')
theorem Sc0.at {a:Ad} {H:Hp}:∀{xs:List S5} {Bs:List Twn} {i:Nat} {B:Twn},Sc0 a H xs Bs->Bs[i]?=some B->∃o,xs[i]?=some o/\Sbr a H o B
 |o::_,_::_,0,_,⟨h,_⟩,e=>by cases e;exact ⟨o,rfl,h⟩
 |_::_,_::_,i+1,_,⟨_,t⟩,e=>Sc0.at (i:=i) t (by simpa using e)
 | [],[],i,_,_,e=>by simp at e
theorem Yc7:∀{l:List Str} {i:Nat} {z:Str},l[i]?=some z->(∀j,j < i->l[j]?≠some z)->l.idxOf z=i
 | [],_,_,h,_=>by simp at h
 |x::l,0,z,h,_=>by
  have e:x=z:=by simpa using h
  rw [e]
  simp
 |x::l,i+1,z,h,n=>by
  have hx:x≠z:=λe=>n 0 (by omega) (by simp [e])
  have ih:=Yc7 (l:=l) (i:=i) (z:=z) (by simpa using h) (λj hj=>by have:=n (j+1) (by omega);simpa using this)
  have hb:(x==z)=false:=beq_false_of_ne hx
  simp [List.idxOf_cons,hb,ih]
theorem Sbc:Jmp ["self","name","place","basin"] ["self","name"] (Jml (Jmw (top 66) 1)):=⟨rfl,rfl,rfl,by decide +kernel,rfl,by decide +kernel,by decide +kernel⟩
theorem Jsy (T:Tx K mg a):Sx P w K mg base CX0 1 a.Jk8 a.Jk9 ["self","name"] (Yex K a):=by
 refine T.Jd8.fn.ok Sbc (λvs H Q E h=>?_) (λcdv A outer s H vs Q E hr h=>?_)
 ·obtain ⟨o,S,z,rfl,_⟩:=h
  rfl
 ·obtain ⟨o,S,z,rfl,ro,hz,k⟩:=h
  refine ⟨?t,?B,?C⟩
  case B=>
   refine' Jmi ?O0 ?O1
   case O0=>
    refine' Jqb ?O2 ?O3 ?O4 ?O5 ?O6
    case O2=>exact PassesOwn.never
    case O3=>exact rfl
    case O4=>exact (Jyw (by rfl) T.Jaq (So (Jnh (pv 0) (by rfl)) Ss))
    case O5=>exact (Jrm rfl (Jmy (Jmr (i:=2) Sbc.nd rfl (ye rfl)) (Jmy (Jmr (i:=3) Sbc.nd rfl (ye rfl)) Jol)))
    case O6=>
    refine' Jmk ?O7
    case O7=>
    refine' Jn6 ?O8 ?O9 ?Oa
    case O8=>exact (Jna Joe (Jnh (pv 3) (by rfl)) (pv 1) (Jn4 _))
    case O9=>
     refine' Jmk ?Ob
     case Ob=>exact (Jms (pv 2))
    case Oa=>exact Jmu
   case O1=>
   refine' Jmk ?Oc
   case Oc=>exact (Jms Joa)
  obtain ⟨dx,b,t,os,ts,ho,hb,bl,ht,tl,n1,n2,n3⟩:=ro
  have len:=bl.len
  refine ⟨_,rfl,o,_,dx,_,_,rfl,ho,T.Jem,T.Jfn,rfl,b,rfl,⟨_,SqT.of hb⟩,?_⟩
  refine Yc4 (xs:=os.map V.ref) (λi σ H'=>(∃o1 o2,σ= [some (.ref o),some (.str z),o1,o2])/\Sn H H'/\∀j,j < i->∀B,S.Bs[j]?=some B->B.z≠z) ⟨⟨_,_,rfl⟩,Sn.refl _,λj hj=>absurd hj (Nat.not_lt_zero j)⟩ (λi σ H' _ ⟨_,sm,_⟩=>SqT.of (sm _ _ hb)) ?_ ?_
  ·rintro i x σ H' Ta hx ⟨⟨o1,o2,rfl⟩,sm,no⟩ hT
   obtain ⟨ob,B,rfl,hB,dxb,hob,gs⟩:=(bl.same sm).get hx
   have sT:=Sn.upd (o:=.tup [.int i,.ref ob]) hT
   refine ⟨Ta,_,rfl,SqT.of Sv,rfl,_,_,rfl,_,_,rfl,rfl,?_⟩
   refine ⟨_,rfl,ob,_,dxb,_,_,rfl,sT _ _ hob,T.Jeg,T.Jfc,rfl,_,rfl,rfl,_,rfl,?_⟩
   by_cases e:B.z=z
   ·refine ifT (by simp [e]) ⟨_,rfl,?_⟩
    have ei:plc S z=i:=by
     refine Yc7 (by rw [yj,hB,<-e];rfl) λj hj z'=>?_
     rw [yj] at z'
     obtain ⟨B',hB',ez⟩:=yak.mp z'
     exact no j hj B' hB' ez
    have k':=k _ (sm.trans sT)
    rw [ei] at k'
    exact k'
   ·refine ifF (by simp [e]) ⟨⟨_,_,rfl⟩,sm.trans sT,λj hj B' hB'=>?_⟩
    by_cases ej:j=i
    ·subst ej
     rw [hB] at hB'
     cases hB'
     exact e
    ·exact no j (by omega) B' hB'
  ·rintro σ H' ⟨_,sm,no⟩
   exfalso
   have hm:(S.Bs.map (·.z)).idxOf z < (S.Bs.map (·.z)).length:=List.idxOf_lt_length_of_mem hz
   have hj:(S.Bs.map (·.z)).idxOf z < S.Bs.length:=by rw [yf] at hm;exact hm
   have g:=List.getElem_idxOf hm
   rw [List.getElem_map] at g
   exact no _ (by rw [yf,len];exact hj) _ (yh hj) g
theorem Js5:Jmp ["river","town"] ["river","town"] (Jml (top 28)):=⟨rfl,rfl,rfl,by decide +kernel,rfl,by decide +kernel,by decide +kernel⟩
theorem Jpo (T:Tx K mg a):Sx P w K mg base CX0 2 a.Jic a.Jid ["river","town"] (Yep K a):=by
 refine T.Jb.fn.ok Js5 (λvs H Q E h=>?_) (λcdv A outer s H vs Q E hr h=>?_)
 ·obtain ⟨o,S,t,W,rfl,_⟩:=h
  rfl
 ·obtain ⟨o,S,t,W,rfl,ro,ti,h0,hW,k⟩:=h
  refine ⟨?t,?B,?C⟩
  case B=>
   refine' Jmk ?O0
   case O0=>exact (Jms (Jt2 (pv 0) hr (So (Jnh (Jmv Jn2 (Jnh (pv 0) (by rfl)) (pv 1) (λ_ _=>rfl)) (by rfl)) Ss)))
  obtain ⟨dx,b,tt,os,ts,ho,hb,bl,ht,tl,n1,n2,n3⟩:=id ro
  obtain ⟨ow,how,dw,hw⟩:=tl.at hW
  obtain ⟨i,rfl⟩:=ybg h0
  have hat:atI (ts.map V.ref) (i:Int)=some (.ref ow):=Jpc (by rw [yj];simp at how;rw [how];rfl)
  refine ⟨_,rfl,o,_,dx,_,_,_,_,_,1,rfl,ho,rfl,T.Jem,T.Jeo,Jsy T,by decide,T.Jd8.bd,?_⟩
  refine ⟨_,rfl,o,_,dx,_,_,rfl,ho,T.Jem,T.Jfo,rfl,_,rfl,tt,_,_,_,rfl,rfl,SqT.of ht,hat,ow,_,dw,_,_,rfl,hw,T.Jej,T.Jfj,rfl,o,S,W.b,rfl,ro,(ti W (yy hW)).1,k⟩
def drw (S:Riv) (ls:List Int):V->Int
 | .int t=>match S.Ts[t.toNat]? with
  |some T=>if ls.getD (plc S T.b) 0≥T.wt then T.wt else 0
  |none=>0
 |_=>0
def Shj (S:Riv) (v:V):Prop:=v= .non\/∃j:Int,v= .int j/\0<=j/\j < S.Ts.length
def StA (H:Hp) (x:V) (S:Riv) (ls:List Int) (wt:Int):Prop:=∃y u:S5,x= .ref y/\H y=some (.tup [.ref u,.int wt])/\H u=some (.tup (ls.map V.int))/\ls.length=S.Bs.length
def ChA (H:Hp) (x:V) (S:Riv) (cs:List Int) (tv:V):Prop:=∃y u:S5,x= .ref y/\H y=some (.tup [.ref u,tv])/\H u=some (.tup (cs.map V.int))/\cs.length=S.Bs.length/\Shj S tv
theorem StA.same {H H':Hp} {x:V} {S:Riv} {ls:List Int} {wt:Int} (s:Sn H H') (h:StA H x S ls wt):StA H' x S ls wt:=by obtain ⟨y,u,e,h1,h2,h3⟩:=h;exact ⟨y,u,e,s _ _ h1,s _ _ h2,h3⟩
theorem ChA.same {H H':Hp} {x:V} {S:Riv} {cs:List Int} {tv:V} (s:Sn H H') (h:ChA H x S cs tv):ChA H' x S cs tv:=by obtain ⟨y,u,e,h1,h2,h3⟩:=h;exact ⟨y,u,e,s _ _ h1,s _ _ h2,h3⟩
theorem Jxv {S:Riv} {z:Str} (h:z∈S.Bs.map (·.z)):plc S z < S.Bs.length:=by
 have hm:(S.Bs.map (·.z)).idxOf z < (S.Bs.map (·.z)).length:=List.idxOf_lt_length_of_mem h
 rw [yf] at hm
 exact hm
theorem Jrz {ns:List Int} {i:Nat} (h:i < ns.length):atI (ns.map V.int) (i:Int)=some (.int (ns.getD i 0)):=by
 have e:ns.getD i 0=ns[i]:=by simp [ybo,h]
 rw [e]
 exact Jpf h
inductive Smy (K:Si) (a:Ad) (vs:List V) (H:Hp) (Q:VK) (z3:XK):Prop where
 |mk (o:S5) (S:Riv) (x c:V) (ls cs:List Int) (wt:Int) (tv:V) (_:vs= [.ref o,x,c]) (_:Saz K a H o S) (_:TIn S) (_:StA H x S ls wt) (_:ChA H c S cs tv) (_:∀H',Sn H H'->Q (.int (drw S ls tv)) H')
theorem Sg6:Jmp ["river","standing","choice","town","want"] ["river","standing","choice"] (Jml (top 29)):=⟨rfl,rfl,rfl,by decide +kernel,rfl,by decide +kernel,by decide +kernel⟩
theorem Yea (T:Tx K mg a):Sx P w K mg base CX0 3 a.Jie a.Jif ["river","standing","choice"] (Smy K a):=by
 have Sb5:=Jpo (P:=P) (w:=w) (base:=base) T
 refine T.Jc.fn.ok Sg6 (λvs H Q E h=>?_) (λcdv A outer s H vs Q E hr h=>?_)
 ·obtain ⟨o,S,x,c,ls,cs,wt,tv,rfl,_⟩:=h
  rfl
 ·obtain ⟨o,S,x,c,ls,cs,wt,tv,rfl,ro,ti,⟨y,u,rfl,hy,hu,lu⟩,⟨z,v,rfl,hz,hv,lv,tw⟩,k⟩:=h
  refine ⟨?t,?B,?C⟩
  case B=>
   refine' Jmi ?O0 ?O1
   case O0=>exact (Jmt (i:=3) Sg6.nd rfl (ye rfl) (Jmv Jn2 (pv 2) Sw (λ_ _=>rfl)))
   case O1=>
   refine' Jmi ?O2 ?O3
   case O2=>
    refine' Jn6 ?O4 ?O5 ?O6
    case O4=>exact (Jna Ju0 (pv 3) Joa (Jn4 _))
    case O5=>
     refine' Jmk ?O7
     case O7=>exact (Jms Sw)
    case O6=>exact Jmu
   case O3=>
   refine' Jmi ?O8 ?O9
   case O8=>exact (Jmt (i:=4) Sg6.nd rfl (ye rfl) (Jnh (Jmv Jn2 (Jnh (pv 0) (by rfl)) (pv 3) (λ_ _=>rfl)) (by rfl)))
   case O9=>
   refine' Jmk ?Oa
   case Oa=>exact (Jms (Ycg (Jna Skl (Jmv Jn2 (Jmv Jn2 (pv 1) Sw (λ_ _=>rfl)) (Jmn T.Jb Sb5 hr (by decide) (So (pv 0) (So (pv 3) Ss))) (λ_ _=>rfl)) (pv 4) (Jn4 _)) (pv 4) Sw))
  obtain ⟨dx,b,tt,os,ts,ho,hb,bl,ht,tl,n1,n2,n3⟩:=id ro
  refine ⟨_,rfl,z,_,1,tv,rfl,rfl,SqT.of hz,rfl,?_⟩
  rcases tw with rfl|⟨j,rfl,j0,j1⟩
  ·exact ⟨_,rfl,rfl,_,rfl,Jyk rfl (k _ λ_ _ h=>h)⟩
  ·obtain ⟨i,rfl⟩:=ybg j0
   have hi:i < S.Ts.length:=by omega
   obtain ⟨ow,how,dw,hw⟩:=tl.at (i:=i) (B:=S.Ts[i]) (yh hi)
   have hat:atI (ts.map V.ref) (i:Int)=some (.ref ow):=Jpc (by rw [yj,how];rfl)
   have pin:=(ti _ (yba hi)).1
   have pl:=Jxv pin
   have e:drw S ls (.int (i:Int))=if ls.getD (plc S S.Ts[i].b) 0≥S.Ts[i].wt then S.Ts[i].wt else 0:=by
    show (match S.Ts[(i:Int).toNat]? with|some T=>_|none=>_)=_
    rw [ybc,yh hi]
   rw [e] at k
   refine ⟨_,rfl,rfl,_,rfl,Jwa (λz=>by cases z) ?_⟩
   refine ⟨_,rfl,o,_,dx,_,_,rfl,ho,T.Jem,T.Jfo,rfl,_,rfl,tt,_,_,_,rfl,rfl,SqT.of ht,hat,ow,_,dw,_,_,rfl,hw,T.Jej,T.Jfk,rfl,?_⟩
   refine ⟨_,rfl,y,_,0,_,rfl,rfl,SqT.of hy,rfl,_,rfl,_,rfl,o,S,(i:Int),S.Ts[i],rfl,ro,ti,j0,(by simp [hi]),λH1 s1=>?_⟩
   refine ⟨u,_,_,_,rfl,rfl,SqT.of (s1 _ _ hu),Jrz (by omega),_,rfl,_,_,rfl,rfl,_,rfl,?_⟩
   by_cases q:S.Ts[i].wt<=ls.getD (plc S S.Ts[i].b) 0
   ·have k':=k _ s1
    rw [if_pos q] at k'
    exact ifT (decide_eq_true q) ⟨_,rfl,k'⟩
   ·have k':=k _ s1
    rw [if_neg q] at k'
    exact ifF (decide_eq_false q) k'
def Jxu (S:Riv):V->Nat
 | .int t=>match S.Ts[t.toNat]? with
  |some T=>plc S T.b
  |none=>0
 |_=>0
def lft (S:Riv) (ls:List Int) (tv:V):List Int:=if drw S ls tv > 0 then ls.set (Jxu S tv) (ls.getD (Jxu S tv) 0 - drw S ls tv) else ls
inductive Sn3 (K:Si) (a:Ad) (vs:List V) (H:Hp) (Q:VK) (z3:XK):Prop where
 |mk (o:S5) (S:Riv) (x c:V) (ls cs:List Int) (wt:Int) (tv:V) (_:vs= [.ref o,x,c,.int (drw S ls tv)]) (_:Saz K a H o S) (_:TIn S) (_:StA H x S ls wt) (_:ChA H c S cs tv) (_:∀l H',H l=none->Sn H H'->H' l=some (.lst ((lft S ls tv).map V.int))->Q (.ref l) H')
theorem Sd1:Jmp ["river","standing","choice","drawn","left"] ["river","standing","choice","drawn"] (Jml (top 30)):=⟨rfl,rfl,rfl,by decide +kernel,rfl,by decide +kernel,by decide +kernel⟩
theorem Jvx (T:Tx K mg a):Sx P w K mg base CX0 3 a.Jig a.Jih ["river","standing","choice","drawn"] (Sn3 K a):=by
 have Sb5:=Jpo (P:=P) (w:=w) (base:=base) T
 refine T.Jd.fn.ok Sd1 (λvs H Q E h=>?_) (λcdv A outer s H vs Q E hr h=>?_)
 ·obtain ⟨o,S,x,c,ls,cs,wt,tv,rfl,_⟩:=h
  rfl
 ·obtain ⟨o,S,x,c,ls,cs,wt,tv,rfl,ro,ti,⟨y,u,rfl,hy,hu,lu⟩,⟨z,v,rfl,hz,hv,lv,tw⟩,k⟩:=h
  refine ⟨?t,?B,?C⟩
  case B=>
   refine' Jmi ?O0 ?O1
   case O0=>exact (Jmt (i:=4) Sd1.nd rfl (ye rfl) (Jn3 Jog (by rfl) T.Jau Jpd (So (Jmv Jn2 (pv 1) Sw (λ_ _=>rfl)) Ss)))
   case O1=>
   refine' Jmi ?O2 ?O3
   case O2=>
    refine' Jn6 ?O4 ?O5 ?O6
    case O4=>exact (Jna Jvy (pv 3) Sw (Jn4 _))
    case O5=>
     refine' Jmk ?O7
     case O7=>exact (Yef (pv 4) (Jmn T.Jb Sb5 hr (by decide) (So (pv 0) (So (Jmv Jn2 (pv 2) Sw (λ_ _=>rfl)) Ss))) Yc5 (pv 3) Sm8 Jpx)
    case O6=>exact Jmu
   case O3=>
   refine' Jmk ?O8
   case O8=>exact (Jms (pv 4))
  refine ⟨_,rfl,y,_,0,_,rfl,rfl,SqT.of hy,rfl,u,_,rfl,.inr (SqT.of hu),λl hl=>?_⟩
  have s1:=Sn.upd (o:=.lst (ls.map V.int)) hl
  refine ⟨_,rfl,_,_,rfl,rfl,_,rfl,?_⟩
  by_cases hd:drw S ls tv > 0
  ·refine ifT (decide_eq_true hd) ?_
   obtain ⟨j,rfl,j0,j1⟩:∃j:Int,tv= .int j/\0<=j/\j < S.Ts.length:=by
    rcases tw with rfl|h
    ·exact absurd (show (0:Int) > 0 from hd) (by decide)
    ·exact h
   obtain ⟨i,rfl⟩:=ybg j0
   have hi:i < S.Ts.length:=by omega
   have pin:=(ti _ (yba hi)).1
   have pl:=Jxv pin
   have ep:Jxu S (.int (i:Int))=plc S S.Ts[i].b:=by
    show (match S.Ts[(i:Int).toNat]? with|some T=>_|none=>_)=_
    rw [ybc,yh hi]
   refine ⟨_,rfl,_,rfl,_,rfl,z,_,1,_,rfl,rfl,SqT.of (s1 _ _ hz),rfl,o,S,(i:Int),S.Ts[i],rfl,ro.same s1,ti,j0,(by simp [hi]),λH1 s2=>?_⟩
   have hl1:=s2 _ _ (Sv (H:=H) (a:=l) (o:=.lst (ls.map V.int)))
   have pl':plc S S.Ts[i].b < ls.length:=by omega
   have hix:ixN (ls.map V.int).length ((plc S S.Ts[i].b:Nat):Int)=some (plc S S.Ts[i].b):=by
    unfold ixN
    rw [if_pos (by omega),if_pos (by rw [yf];omega)]
    rfl
   refine ⟨l,_,_,_,rfl,rfl,Sy.of hl1,by omega,Jrz pl',_,rfl,_,_,rfl,rfl,l,_,_,_,rfl,rfl,hl1,hix,_,rfl,?_⟩
   have e:lft S ls (.int (i:Int))=ls.set (plc S S.Ts[i].b) (ls.getD (plc S S.Ts[i].b) 0 - drw S ls (.int (i:Int))):=by
    unfold lft
    rw [if_pos hd,ep]
   rw [e,List.map_set] at k
   exact k l _ hl (λb o e=>by rw [Jmm (Jmo e hl)];exact (s1.trans s2) _ _ e) Sv
  ·refine ifF (decide_eq_false hd) ?_
   have e:lft S ls tv=ls:=if_neg hd
   rw [e] at k
   exact ⟨_,rfl,k l _ hl s1 Sv⟩
def Jvz:List Jnd->List Int->List Int->List Int
 |G::Gs,c::cs,l::ls=>lvG G c l::Jvz Gs cs ls
 |_,_,_=>[]
theorem Jqm:∀{Gs:List Jnd} {cs ls:List Int},Gs.length=cs.length->cs.length=ls.length->(Jvz Gs cs ls).length=Gs.length
 | [],_,_,_,_=>rfl
 |_::_,[],_,e,_=>by simp at e
 |_::_,_::_,[],_,e=>by simp at e
 |_::Gs,_::cs,_::ls,e1,e2=>by
  show (Jvz Gs cs ls).length+1=Gs.length+1
  rw [Jqm (by simpa using e1) (by simpa using e2)]
theorem Ju1:∀{Gs:List Jnd} {cs ls:List Int} {i:Nat} {G:Jnd} {c l:Int},Gs[i]?=some G->cs[i]?=some c->ls[i]?=some l->(Jvz Gs cs ls)[i]?=some (lvG G c l)
 |_::_,_::_,_::_,0,_,_,_,h1,h2,h3=>by cases h1;cases h2;cases h3;rfl
 |_::Gs,_::cs,_::ls,i+1,_,_,_,h1,h2,h3=>Ju1 (Gs:=Gs) (cs:=cs) (ls:=ls) (i:=i) (by simpa using h1) (by simpa using h2) (by simpa using h3)
 | [],_,_,_,_,_,_,h,_,_=>by simp at h
 |_::_,[],_,_,_,_,_,_,h,_=>by simp at h
 |_::_,_::_,[],_,_,_,_,_,_,h=>by simp at h
def Sbj:List Jnd->List Int->List Int->Prop
 | [],[],[]=>True
 |G::Gs,c::cs,l::ls=>(Sbh G/\(0<=c/\c < (nOf G:Int))/\(0<=l/\l<=1000))/\Sbj Gs cs ls
 |_,_,_=>False
theorem Sbj.len:∀{Gs:List Jnd} {cs ls:List Int},Sbj Gs cs ls->Gs.length=cs.length/\cs.length=ls.length
 | [],[],[],_=>⟨rfl,rfl⟩
 |_::Gs,_::cs,_::ls,⟨_,t⟩=>by
  have:=t.len
  simp
  omega
theorem Sbj.get:∀{Gs:List Jnd} {cs ls:List Int} {i:Nat} {G:Jnd} {c l:Int},Sbj Gs cs ls->Gs[i]?=some G->cs[i]?=some c->ls[i]?=some l->Sbh G/\(0<=c/\c < (nOf G:Int))/\(0<=l/\l<=1000)
 |_::_,_::_,_::_,0,_,_,_,⟨h,_⟩,h1,h2,h3=>by cases h1;cases h2;cases h3;exact h
 |_::Gs,_::cs,_::ls,i+1,_,_,_,⟨_,t⟩,h1,h2,h3=>t.get (i:=i) (by simpa using h1) (by simpa using h2) (by simpa using h3)
 | [],[],[],_,_,_,_,_,h,_,_=>by simp at h
inductive Sn8 (K:Si) (a:Ad) (vs:List V) (H:Hp) (Q:VK) (z3:XK):Prop where
 |mk (o v l:S5) (S:Riv) (Gs:List Jnd) (cs ls:List Int) (_:vs= [.ref o,.ref v,.ref l]) (_:Saz K a H o S) (_:GXL a H (S.Bs.map (·.g)) Gs) (_:Sbj Gs cs ls) (_:S.Bs.length=Gs.length) (_:H v=some (.tup (cs.map V.int))) (_:H l=some (.lst (ls.map V.int))) (_:∀u H',Sn H H'->H' u=some (.tup ((Jvz Gs cs ls).map V.int))->Q (.ref u) H')
def Jyf:Int->List Int->List Int->List Int->List Int
 |g,l::ls,o::os,r::rs=>(l - o+g+r)::Jyf o ls os rs
 |_,_,_,_=>[]
theorem Jr8:∀{g:Int} {ls os rs:List Int},ls.length=os.length->ls.length=rs.length->(Jyf g ls os rs).length=ls.length
 |_,[],_,_,_,_=>rfl
 |_,_::_,[],_,e,_=>by simp at e
 |_,_::_,_::_,[],_,e=>by simp at e
 |_,_::ls,o::os,_::rs,e1,e2=>by
  show (Jyf o ls os rs).length+1=ls.length+1
  rw [Jr8 (by simpa using e1) (by simpa using e2)]
theorem Jv8:∀{g:Int} {ls os rs:List Int} {i:Nat} {l o f r:Int},ls[i]?=some l->os[i]?=some o->(g::os)[i]?=some f->rs[i]?=some r->(Jyf g ls os rs)[i]?=some (l - o+f+r)
 |_,_::_,_::_,_::_,0,_,_,_,_,h1,h2,h3,h4=>by cases h1;cases h2;cases h3;cases h4;rfl
 |_,_::ls,o::os,_::rs,i+1,_,_,_,_,h1,h2,h3,h4=>Jv8 (g:=o) (ls:=ls) (os:=os) (rs:=rs) (i:=i) (by simpa using h1) (by simpa using h2) (by simpa using h3) (by simpa using h4)
 |_,[],_,_,_,_,_,_,_,h,_,_,_=>by simp at h
 |_,_::_,[],_,_,_,_,_,_,_,h,_,_=>by simp at h
 |_,_::_,_::_,[],_,_,_,_,_,_,_,_,h=>by simp at h
inductive Ycv (vs:List V) (H:Hp) (Q:VK) (z3:XK):Prop where
 |mk (l u r:S5) (ls os rs:List Int) (_:vs= [.ref l,.ref u,.ref r]) (_:H l=some (.lst (ls.map V.int))) (_:H u=some (.tup (os.map V.int))) (_:H r=some (.tup (rs.map V.int))) (_:ls.length=os.length) (_:ls.length=rs.length) (_:(1<=ls.length/\ls.length<=16)) (_:∀w H',Sn H H'->H' w=some (.tup ((Jyf 0 ls os rs).map V.int))->Q (.ref w) H')
def Jos:Nat->List Bsn->List Int->List Int
 |k,B::Bs,l::ls=>if B.lo<=l/\l<=B.hi then Jos (k+1) Bs ls else (k:Int)::Jos (k+1) Bs ls
 |_,_,_=>[]
theorem Jtl:∀{k:Nat} {Bs:List Bsn} {ls:List Int} {B:Bsn} {l:Int},Bs.length=ls.length->Jos k (Bs++ [B]) (ls++ [l])=Jos k Bs ls++(if B.lo<=l/\l<=B.hi then [] else [((k+Bs.length:Nat):Int)])
 |k,[],[],B,l,_=>by
  show (if B.lo<=l/\l<=B.hi then _ else _)=_
  split <;> rfl
 |_,[],_::_,_,_,e=>by simp at e
 |_,_::_,[],_,_,e=>by simp at e
 |k,B'::Bs,l'::ls,B,l,e=>by
  have ih:=Jtl (k:=k+1) (Bs:=Bs) (ls:=ls) (B:=B) (l:=l) (by simpa using e)
  have ek:k+1+Bs.length=k+(B'::Bs).length:=by rw [yai];omega
  rw [ek] at ih
  show (if B'.lo<=l'/\l'<=B'.hi then Jos (k+1) (Bs++ [B]) (ls++ [l]) else (k:Int)::Jos (k+1) (Bs++ [B]) (ls++ [l]))=(if B'.lo<=l'/\l'<=B'.hi then Jos (k+1) Bs ls else (k:Int)::Jos (k+1) Bs ls)++_
  rw [ih]
  split <;> rfl
theorem Jv9:∀{k:Nat} {Bs:List Bsn} {ls:List Int},(Jos k Bs ls).length<=Bs.length
 |_,[],_=>by simp [Jos]
 |_,_::_,[]=>by simp [Jos]
 |k,B::Bs,l::ls=>by
  have:=Jv9 (k:=k+1) (Bs:=Bs) (ls:=ls)
  show (if B.lo<=l/\l<=B.hi then Jos (k+1) Bs ls else (k:Int)::Jos (k+1) Bs ls).length<=_
  split <;> simp <;> omega
inductive Ycw (K:Si) (a:Ad) (vs:List V) (H:Hp) (Q:VK) (z3:XK):Prop where
 |mk (o u:S5) (S:Riv) (ls:List Int) (_:vs= [.ref o,.ref u]) (_:Saz K a H o S) (_:H u=some (.tup (ls.map V.int))) (_:ls.length=S.Bs.length) (_:∀w H',Sn H H'->H' w=some (.tup ((Jos 0 S.Bs ls).map V.int))->Q (.ref w) H')
theorem GX.lets {H:Hp} {x:V} {G:Jnd} {s lv:Int} (T:Tx K mg a) (gg:Sbh G) (gx:GX a H x G) (hs:0<=s/\s < (nOf G:Int)) (hl:0<=lv/\lv<=1000):
  ∃o C dx fs f fd ps sp k',x= .ref o/\H o=some (.ins C dx fs)/\fs.lookup ("lets" :Str)=none/\Cls K C/\Jq8 K C "lets" f/\Sx P w K mg base CX0 k' f fd ps sp/\k'<=3/\Sbg K fd ps []/\∀Q:VK,Q (.int (lvG G s lv)) H->sp [x,.int s,.int lv] H Q E0:=by
 have sp:∀Q:VK,Q (.int (lvG G s lv)) H->Yd2 a [x,.int s,.int lv] H Q E0:=λQ k=>⟨x,G,s,lv,rfl,gx,gg,hs,hl,k⟩
 obtain ⟨g,ga,r⟩:=gx
 obtain ⟨dx,t,h1,h2⟩:=id ga
 cases e:G.sv with
 |none=>
  rw [e] at r
  subst r
  rcases gg.kd with q|q|q
  ·rw [q,show cOf a "step" =a.Jm6 from if_pos rfl] at h1
   exact ⟨g,_,dx,_,_,_,_,_,3,rfl,h1,rfl,T.Jds,T.Jdv,(Jpp T).calm,by decide,T.Jcs.bd,sp⟩
  ·rw [q,show cOf a "flap" =a.Jm7 by unfold cOf;rw [if_neg Jug,if_pos rfl]] at h1
   exact ⟨g,_,dx,_,_,_,_,_,3,rfl,h1,rfl,T.Jdy,T.Je1,(Jpp T).calm,by decide,T.Jcs.bd,sp⟩
  ·rw [q,show cOf a "part" =a.Jm8 by unfold cOf;rw [if_neg Jui,if_neg Juh]] at h1
   exact ⟨g,_,dx,_,_,_,_,_,3,rfl,h1,rfl,T.Je4,T.Je7,(Jpp T).calm,by decide,T.Jcs.bd,sp⟩
 |some j=>
  rw [e] at r
  obtain ⟨q,dq,rfl,r2⟩:=r
  exact ⟨q,_,dq,_,_,_,_,_,3,rfl,r2,rfl,T.Jea,T.Jed,(Jpp T).calm,by decide,T.Jcs.bd,sp⟩
theorem Y3:Jmp ["river","settings","levels"] ["river","settings","levels"] (Jml (top 31)):=⟨rfl,rfl,rfl,by decide +kernel,rfl,by decide +kernel,by decide +kernel⟩
theorem Jzs (T:Tx K mg a):Sx P w K mg base CX0 4 a.Jii a.Jij ["river","settings","levels"] (Sn8 K a):=by
 refine T.Je.fn.ok Y3 (λvs H Q E h=>?_) (λcdv A outer s H vs Q E hr h=>?_)
 ·obtain ⟨o,v,l,S,Gs,cs,ls,rfl,_⟩:=h
  rfl
 ·obtain ⟨o,v,l,S,Gs,cs,ls,rfl,ro,gxl,so,ln,hv,hl,k⟩:=h
  refine ⟨?t,?B,?C⟩
  case B=>
   refine' Jmk ?O0
   case O0=>exact (Jms (Jn3 Jn5 (by rfl) T.Jb1 Jnk (So (Jng (N:=(["basin","setting","level"]:List Str)) (ini:=[none,none,none]) rfl (Jxt true true false (by rfl) T.Jb2 (So (Jnh (pv 0) (by rfl)) (So (pv 1) (So (pv 2) Ss)))) (λ_ _ _ _ _=>(Jqy (K:=K) (n:=3) rfl rfl (Jmy (Jmr (i:=0) (by decide +kernel:(["basin","setting","level"]:List Str).Nodup) rfl (ye rfl)) (Jmy (Jmr (i:=1) (by decide +kernel:(["basin","setting","level"]:List Str).Nodup) rfl (ye rfl)) (Jmy (Jmr (i:=2) (by decide +kernel:(["basin","setting","level"]:List Str).Nodup) rfl (ye rfl)) Jol))))) (λ_ _ _ _ _=>Jnf) (λ_ _ _ _ _=>(Yaz (P:=P) (w:=w) (K:=K) (mg:=mg) (base:=base) rfl rfl rfl rfl rfl (Jou (K:=K) rfl (pv 0) (by rfl)) hr (So (pv 1) (So (pv 2) Ss))))) Ss)))
  obtain ⟨dx,b,tt,os,ts,ho,hb,bl,ht,tl,n1,n2,n3⟩:=id ro
  have len:=bl.len
  have sl:=so.len
  refine ⟨_,rfl,o,_,dx,_,_,rfl,ho,T.Jem,T.Jfn,rfl,_,rfl,_,rfl,b,v,l,rfl,⟨_,SqT.of hb⟩,⟨_,SqT.of hv⟩,⟨_,Sy.of hl⟩,λD hD=>?_⟩
  have s0:=Sn.upd (o:=.lst []) hD
  refine Jtn (K:=K) (l1:=b) (l2:=v) (l3:=l) (b1:=true) (b2:=true) (b3:=false) (xs:=os.map V.ref) (ys:=cs.map V.int) (us:=ls.map V.int) (D:=D) (λi σ H'=>(∃o1 o2 o3,σ= [o1,o2,o3])/\H' D=some (.lst (((Jvz Gs cs ls).take i).map V.int))/\Sn H H') ⟨⟨_,_,_,rfl⟩,Sv,s0⟩ (λi σ H' _ ⟨_,_,sm⟩=>⟨SqT.of (sm _ _ hb),SqT.of (sm _ _ hv),Sy.of (sm _ _ hl)⟩) (by rw [yf,yf];omega) (by rw [yf,yf];omega) ?_ ?_
  ·rintro i x y u σ H' Ta hx hy hu ⟨⟨o1,o2,o3,rfl⟩,hDs,sm⟩ hT
   obtain ⟨ob,B,rfl,hB,dxb,hob,gs⟩:=(bl.same sm).get hx
   rw [yj] at hy hu
   obtain ⟨c,hc,rfl⟩:=yak.mp hy
   obtain ⟨lv,hlv,rfl⟩:=yak.mp hu
   obtain ⟨G,hG,gx⟩:=(gxl.same sm).get (i:=i) (x:=B.g) (by rw [yj,hB];rfl)
   obtain ⟨gg,hs,hl'⟩:=so.get hG hc hlv
   have sT:=Sn.upd (o:=.tup [.ref ob,.int c,.int lv]) hT
   have hi:i < os.length:=by have:=(yo.mp hx).1;rw [yf] at this;exact this
   refine Yaa (SqT.of Sv) ⟨_,rfl,ob,_,dxb,_,_,rfl,sT _ _ hob,T.Jeg,T.Jfh,rfl,?_⟩
   obtain ⟨q,C,dxq,fs,f,fd,ps,sp,k',eq,h1,h2,c',m,ok,hk,bd,hsp⟩:=GX.lets (P:=P) (w:=w) (base:=base) T gg (gx.same sT) hs hl'
   refine ⟨q,C,dxq,fs,f,fd,ps,sp,k',eq,h1,h2,c',m,ok,hk,bd,_,rfl,_,rfl,hsp _ ⟨_,sT _ _ hDs,?_,⟨_,_,_,rfl⟩,?_,?_⟩⟩
   ·rw [yf,yz]
    exact Jne (by omega)
   ·rw [Sv,yag,Ju1 hG hc hlv]
    simp
   ·intro c o z
    rw [Jmm (Jmo z hD)]
    exact sT _ _ (sm _ _ z)
  rintro σ H1 ⟨_,hDs,sm⟩
  rw [yaf (by rw [Jqm sl.1 sl.2,yf];omega)] at hDs
  exact ⟨D,_,rfl,.inl ⟨Sy.of hDs,λu hu=>k u _ (sm.trans (Sn.upd hu)) Sv⟩⟩
theorem Ybu (xs:List V) (h:1<=xs.length):Jxe xs none (some (-1))=xs.dropLast:=by
 unfold Jxe
 rw [HT.sIx_none]
 have e:HT.sIx xs.length xs.length (some (-1))=xs.length - 1:=by
  show (if (-1:Int) < 0 then ((-1:Int)+(xs.length:Int)).toNat else min (-1:Int).toNat xs.length)=_
  rw [if_pos (by decide)]
  omega
 rw [e,List.dropLast_eq_take]
 rfl
theorem Jvp {n:Nat} (h:1<=n):¬(HT.sIx n 0 none=0/\HT.sIx n n (some (-1))=n):=by
 have e:HT.sIx n n (some (-1))=n - 1:=by
  show (if (-1:Int) < 0 then ((-1:Int)+(n:Int)).toNat else min (-1:Int).toNat n)=_
  rw [if_pos (by decide)]
  omega
 rw [e]
 omega
theorem Scl:Jmp ["left","outs","rain","from_above"] ["left","outs","rain"] (Jml (top 32)):=⟨rfl,rfl,rfl,by decide +kernel,rfl,by decide +kernel,by decide +kernel⟩
theorem Jtz (T:Tx K mg a):Sx P w K mg base CX0 1 a.Jik a.Jil ["left","outs","rain"] Ycv:=by
 refine T.Jf.fn.ok Scl (λvs H Q E h=>?_) (λcdv A outer s H vs Q E hr h=>?_)
 ·obtain ⟨l,u,r,ls,os,rs,rfl,_⟩:=h
  rfl
 ·obtain ⟨l,u,r,ls,os,rs,rfl,hl,hu,hr0,e1,e2,n,k⟩:=h
  refine ⟨?t,?B,?C⟩
  case B=>
   refine' Jmi ?O0 ?O1
   case O0=>exact (Jmt (i:=3) Scl.nd rfl (ye rfl) (Jn0 Jxs (Jnx (So Sw Ss)) (Jt3 Yct (pv 1) Jv1 (Jv2 (Yci Yd Sw)))))
   case O1=>
   refine' Jmk ?O2
   case O2=>
   refine' Jms ?O3
   case O3=>exact (Jn3 Jn5 (by rfl) T.Jb1 Jnk (So (Jng (N:=(["level","out","gained","cubes"]:List Str)) (ini:=[none,none,none,none]) rfl (Yee false true true true (by rfl) T.Jb2 (pa4 (pv 0) (pv 1) (pv 3) (pv 2))) (λ_ _ _ _ _=>(Jqy (K:=K) (n:=4) rfl rfl (Jmy (Jmr (i:=0) (by decide +kernel:(["level","out","gained","cubes"]:List Str).Nodup) rfl (ye rfl)) (Jmy (Jmr (i:=1) (by decide +kernel:(["level","out","gained","cubes"]:List Str).Nodup) rfl (ye rfl)) (Jmy (Jmr (i:=2) (by decide +kernel:(["level","out","gained","cubes"]:List Str).Nodup) rfl (ye rfl)) (Jmy (Jmr (i:=3) (by decide +kernel:(["level","out","gained","cubes"]:List Str).Nodup) rfl (ye rfl)) Jol)))))) (λ_ _ _ _ _=>Jnf) (λ_ _ _ _ _=>(Jn0 Jnp (Jn0 Jnp (Jn0 Jo9 (pv 0) (pv 1)) (pv 2)) (pv 3)))) Ss))
  refine ⟨(show 1<=Sa by decide),λq1 h1=>?_⟩
  have s1:=Sn.upd (o:=.tup [.int 0]) h1
  refine ⟨_,rfl,_,rfl,_,rfl,u,_,rfl,SqT.of (s1 _ _ hu),Jvp (by rw [yf];omega),λq2 h2=>?_⟩
  rw [Ybu _ (by rw [yf];omega)]
  have s2:=Sn.upd (o:=.tup (os.map V.int).dropLast) h2
  refine ⟨q1,q2,_,_,rfl,rfl,s2 _ _ Sv,Sv,Jps _ (by simp;omega),λf H3 s3 hf=>?_⟩
  have s13:=(s1.trans s2).trans s3
  have ef: [V.int 0]++(os.map V.int).dropLast=((0:Int)::os.dropLast).map V.int:=by rw [ybq,List.map_dropLast];rfl
  rw [ef] at hf
  refine ⟨_,rfl,_,rfl,_,rfl,_,rfl,l,u,f,r,rfl,⟨_,Sy.of (s13 _ _ hl)⟩,⟨_,SqT.of (s13 _ _ hu)⟩,⟨_,SqT.of hf⟩,⟨_,SqT.of (s13 _ _ hr0)⟩,λD hD=>?_⟩
  have s0:=Sn.upd (o:=.lst []) hD
  refine Yan (K:=K) (l1:=l) (l2:=u) (l3:=f) (l4:=r) (b1:=false) (b2:=true) (b3:=true) (b4:=true) (xs:=ls.map V.int) (ys:=os.map V.int) (us:=((0:Int)::os.dropLast).map V.int) (vs:=rs.map V.int) (D:=D) (λi σ H'=>(∃o1 o2 o3 o4,σ= [o1,o2,o3,o4])/\H' D=some (.lst (((Jyf 0 ls os rs).take i).map V.int))/\Sn H3 H') ⟨⟨_,_,_,_,rfl⟩,Sv,s0⟩ (λi σ H' _ ⟨_,_,sm⟩=>⟨Sy.of (sm _ _ (s13 _ _ hl)),SqT.of (sm _ _ (s13 _ _ hu)),SqT.of (sm _ _ hf),SqT.of (sm _ _ (s13 _ _ hr0))⟩) (by simp;omega) (by simp;omega) (by simp;omega) ?_ ?_
  ·rintro i x y z v σ H' Ta hx hy hz hv ⟨⟨o1,o2,o3,o4,rfl⟩,hDs,sm⟩ hT
   rw [yj] at hx hy hz hv
   obtain ⟨lv,hlv,rfl⟩:=yak.mp hx
   obtain ⟨ov,hov,rfl⟩:=yak.mp hy
   obtain ⟨fv,hfv,rfl⟩:=yak.mp hz
   obtain ⟨rv,hrv,rfl⟩:=yak.mp hv
   have hi:i < ls.length:=(yo.mp hlv).1
   have hfv':((0:Int)::os)[i]?=some fv:=by
    cases i with
    |zero=>simpa using hfv
    |succ j=>
     have e:os.dropLast[j]?=some fv:=by simpa using hfv
     rw [List.dropLast_eq_take,List.getElem?_take] at e
     split at e
     ·simpa using e
     ·cases e
   have sT:=Sn.upd (o:=.tup [.int lv,.int ov,.int fv,.int rv]) hT
   refine Sr2 (SqT.of Sv) ⟨_,rfl,_,rfl,_,_,rfl,rfl,_,rfl,_,_,rfl,rfl,_,rfl,_,_,rfl,rfl,_,sT _ _ hDs,?_,⟨_,_,_,_,rfl⟩,?_,?_⟩
   ·rw [yf,yz]
    exact Jne (by omega)
   ·rw [Sv,yag,Jv8 hlv hov hfv' hrv]
    simp
   ·intro c o z
    rw [Jmm (Jmo z hD)]
    exact sT _ _ (sm _ _ z)
  rintro σ H4 ⟨_,hDs,sm⟩
  rw [yaf (by rw [Jr8 e1 e2,yf];omega)] at hDs
  exact ⟨D,_,rfl,.inl ⟨Sy.of hDs,λq hq=>k q _ ((s13.trans sm).trans (Sn.upd hq)) Sv⟩⟩
theorem Jy1:Jmp ["river","levels"] ["river","levels"] (Jml (top 33)):=⟨rfl,rfl,rfl,by decide +kernel,rfl,by decide +kernel,by decide +kernel⟩
theorem Jxm (T:Tx K mg a):Sx P w K mg base CX0 1 a.Jim a.Jin ["river","levels"] (Ycw K a):=by
 refine T.Jg.fn.ok Jy1 (λvs H Q E h=>?_) (λcdv A outer s H vs Q E hr h=>?_)
 ·obtain ⟨o,u,S,ls,rfl,_⟩:=h
  rfl
 ·obtain ⟨o,u,S,ls,rfl,ro,hu,ln,k⟩:=h
  refine ⟨?t,?B,?C⟩
  case B=>
   refine' Jmk ?O0
   case O0=>exact (Jms (Jn3 Jn5 (by rfl) T.Jb1 Jnk (So (Jng (N:=(["place","basin","levels"]:List Str)) (ini:=[none,none,some 1]) rfl (Jyw (by rfl) T.Jaq (So (Jnh (pv 0) (by rfl)) Ss)) (λ_ _ _ _ _=>(Jqy (K:=K) (n:=2) rfl rfl (Jmy (Jmr (i:=0) (by decide +kernel:(["place","basin","levels"]:List Str).Nodup) rfl (ye rfl)) (Jmy (Jmr (i:=1) (by decide +kernel:(["place","basin","levels"]:List Str).Nodup) rfl (ye rfl)) Jol)))) (λ_ _ _ _ _=>(Ya3 (Jn7 (Jt4 Jq4 Jq4 (Jou (K:=K) rfl (pv 1) (by rfl)) (Jmv (Jpg (K:=K) rfl) (pv 2) (pv 0) (λ_ _=>rfl)) (Jou (K:=K) rfl (pv 1) (by rfl)))))) (λ_ _ _ _ _=>(pv 0))) Ss)))
  obtain ⟨dx,b,tt,os,ts,ho,hb,bl,ht,tl,n1,n2,n3⟩:=id ro
  have len:=bl.len
  refine ⟨_,rfl,o,_,dx,_,_,rfl,ho,T.Jem,T.Jfn,rfl,b,rfl,⟨_,SqT.of hb⟩,λD hD=>?_⟩
  have s0:=Sn.upd (o:=.lst []) hD
  refine Yam (K:=K) (a:=b) (xs:=os.map V.ref) (D:=D) (λi σ H'=>(∃o1 o2,σ= [o1,o2,some (.ref u)])/\H' D=some (.lst ((Jos 0 (S.Bs.take i) (ls.take i)).map V.int))/\Sn H H') ⟨⟨_,_,rfl⟩,Sv,s0⟩ (λi σ H' _ ⟨_,_,sm⟩=>SqT.of (sm _ _ hb)) ?_ ?_
  ·rintro i x σ H' Ta hx ⟨⟨o1,o2,rfl⟩,hDs,sm⟩ hT
   obtain ⟨ob,B,rfl,hB,dxb,hob,gs⟩:=(bl.same sm).get hx
   have sT:=Sn.upd (o:=.tup [.int i,.ref ob]) hT
   have hi:i < S.Bs.length:=(yo.mp hB).1
   have hil:i < ls.length:=by omega
   have hob':=sT _ _ hob
   have hu':=sT _ _ (sm _ _ hu)
   have nx:Jos 0 (S.Bs.take (i+1)) (ls.take (i+1))=Jos 0 (S.Bs.take i) (ls.take i)++(if B.lo<=ls[i]/\ls[i]<=B.hi then [] else [(i:Int)]):=by
    have q:=Jtl (k:=0) (Bs:=S.Bs.take i) (ls:=ls.take i) (B:=B) (l:=ls[i]) (by rw [yz,yz];omega)
    rw [yz,Nat.min_eq_left (by omega),Nat.zero_add] at q
    rw [yag,hB,yag,yh hil]
    exact q
   refine ⟨Ta,_,rfl,SqT.of Sv,rfl,_,_,rfl,_,_,rfl,rfl,?_⟩
   have bad:¬(B.lo<=ls[i]/\ls[i]<=B.hi)->∃vs,(upd H' Ta (.tup [.int i,.ref ob])) D=some (.lst vs)/\vs.length < Sa/\(∃p1 p2,[some (V.int i),some (.ref ob),some (.ref u)]= [p1,p2,some (V.ref u)])/\upd (upd H' Ta (.tup [.int i,.ref ob])) D (.lst (vs++ [.int i])) D=some (.lst ((Jos 0 (S.Bs.take (i+1)) (ls.take (i+1))).map V.int))/\Sn H (upd (upd H' Ta (.tup [.int i,.ref ob])) D (.lst (vs++ [.int i]))):=λq=>by
    refine ⟨_,sT _ _ hDs,?_,⟨_,_,rfl⟩,?_,?_⟩
    ·have:=Jv9 (k:=0) (Bs:=S.Bs.take i) (ls:=ls.take i)
     rw [yz] at this
     rw [yf]
     exact Jne (by omega)
    ·rw [Sv,nx,if_neg q,yal]
     rfl
    ·intro c o z
     rw [Jmm (Jmo z hD)]
     exact sT _ _ (sm _ _ z)
   refine ⟨_,rfl,ob,_,dxb,_,_,rfl,hob',T.Jeg,T.Jfd,rfl,_,rfl,_,rfl,u,_,_,_,rfl,rfl,SqT.of hu',Jpf hil,_,_,rfl,rfl,_,rfl,?_⟩
   by_cases h1:B.lo<=ls[i]
   ·rw [decide_eq_true h1]
    refine Jnr ⟨_,rfl,ob,_,dxb,_,_,rfl,hob',T.Jeg,T.Jfe,rfl,_,_,rfl,rfl,_,rfl,?_⟩
    by_cases h2:ls[i]<=B.hi
    ·rw [decide_eq_true h2]
     refine Jni ⟨⟨_,_,rfl⟩,?_,sm.trans sT⟩
     rw [nx,if_pos ⟨h1,h2⟩,yaq]
     exact sT _ _ hDs
    ·rw [decide_eq_false h2]
     exact Jnr ⟨_,rfl,bad λz=>h2 z.2⟩
   ·rw [decide_eq_false h1]
    exact Jni ⟨_,rfl,Jnr ⟨_,rfl,bad λz=>h1 z.1⟩⟩
  rintro σ H1 ⟨_,hDs,sm⟩
  rw [yaf (by rw [yf];omega),yaf (by rw [yf];omega)] at hDs
  exact ⟨D,_,rfl,.inl ⟨Sy.of hDs,λq hq=>k q _ (sm.trans (Sn.upd hq)) Sv⟩⟩
def Sns (c r:V) (d:Int) (u lv:S5) (wt:Int) (q:S5):List (Str×V):=[("choice",c),("rain",r),("drawn",.int d),("paid",.bl (decide (d > 0))),("outs",.ref u),("levels",.ref lv),("wet",.int wt),("broken",.ref q)]
structure Shi (K:Si) (a:Ad) (H:Hp) (o:S5) (S:Riv) (Gs:List Jnd) (x c:V) (ls cs:List Int) (wt:Int) (tv:V) (ra:S5) (rn:List Int):Prop where
 ro:Saz K a H o S
 ti:TIn S
 gx:GXL a H (S.Bs.map (·.g)) Gs
 ln:S.Bs.length=Gs.length
 st:StA H x S ls wt
 ch:ChA H c S cs tv
 hr:H ra=some (.tup (rn.map V.int))
 rl:rn.length=S.Bs.length
 sm:Sml rn
 so:Sbj Gs cs (lft S ls tv)
 n1:1<=S.Bs.length
theorem Shi.same {K:Si} {a:Ad} {H H':Hp} {o:S5} {S:Riv} {Gs:List Jnd} {x c:V} {ls cs:List Int} {wt:Int} {tv:V} {ra:S5} {rn:List Int} (s:Sn H H') (h:Shi K a H o S Gs x c ls cs wt tv ra rn):Shi K a H' o S Gs x c ls cs wt tv ra rn:=
 ⟨h.ro.same s,h.ti,h.gx.same s,h.ln,h.st.same s,h.ch.same s,s _ _ h.hr,h.rl,h.sm,h.so,h.n1⟩
def Jpw (S:Riv) (Gs:List Jnd) (ls cs:List Int) (tv:V):List Int:=Jvz Gs cs (lft S ls tv)
def Jr3 (S:Riv) (Gs:List Jnd) (ls cs:List Int) (tv:V) (rn:List Int):List Int:=Jyf 0 (lft S ls tv) (Jpw S Gs ls cs tv) rn
def Jtf (S:Riv) (wt:Int) (rn:List Int):Int:=if S.c < wt - rn.sum+S.g then S.c else wt - rn.sum+S.g
def Sfr (a:Ad) (H:Hp) (p:S5) (c r:V) (S:Riv) (Gs:List Jnd) (ls cs:List Int) (wt:Int) (tv:V) (rn:List Int):Prop:=∃dx u lv q,H p=some (.ins a.Jm3 dx (Sns c r (drw S ls tv) u lv (Jtf S wt rn) q))/\H u=some (.tup ((Jpw S Gs ls cs tv).map V.int))/\H lv=some (.tup ((Jr3 S Gs ls cs tv rn).map V.int))/\H q=some (.tup ((Jos 0 S.Bs (Jr3 S Gs ls cs tv rn)).map V.int))
inductive Yf2 (K:Si) (a:Ad) (vs:List V) (H:Hp) (Q:VK) (z3:XK):Prop where
 |mk (p dx o ra:S5) (H0:Hp) (S:Riv) (Gs:List Jnd) (x c:V) (ls cs rn:List Int) (wt:Int) (tv:V) (_:vs= [.ref p,.ref o,x,c,.ref ra]) (_:H0 p=none) (_:Sn H0 H) (_:H p=some (.ins a.Jm3 dx [])) (_:Shi K a H0 o S Gs x c ls cs wt tv ra rn) (_:∀H',Sn H0 H'->Sfr a H' p c (.ref ra) S Gs ls cs wt tv rn->Q .non H')
theorem Jux {S:Riv} {ls:List Int} {tv:V}:(lft S ls tv).length=ls.length:=by
 unfold lft
 split
 ·rw [List.length_set]
 ·rfl
def fs2 (c r:V):List (Str×V):=[("choice",c),("rain",r)]
def fs3 (c r:V) (d:Int):List (Str×V):=[("choice",c),("rain",r),("drawn",.int d)]
def fs4 (c r:V) (d:Int):List (Str×V):=[("choice",c),("rain",r),("drawn",.int d),("paid",.bl (decide (d > 0)))]
def fs5 (c r:V) (d:Int) (u:S5):List (Str×V):=[("choice",c),("rain",r),("drawn",.int d),("paid",.bl (decide (d > 0))),("outs",.ref u)]
def fs6 (c r:V) (d:Int) (u lv:S5):List (Str×V):=[("choice",c),("rain",r),("drawn",.int d),("paid",.bl (decide (d > 0))),("outs",.ref u),("levels",.ref lv)]
def fs7 (c r:V) (d:Int) (u lv:S5) (wt:Int):List (Str×V):=[("choice",c),("rain",r),("drawn",.int d),("paid",.bl (decide (d > 0))),("outs",.ref u),("levels",.ref lv),("wet",.int wt)]
theorem pf2 (c r:V):Jo3 "rain" r (Jo3 "choice" c [])=fs2 c r:=Jnu (show (["choice"]:List Str).contains "rain" =false by decide +kernel)
theorem pf3 (c r:V) (d:Int):Jo3 "drawn" (.int d) (fs2 c r)=fs3 c r d:=Jnu (show (["choice","rain"]:List Str).contains "drawn" =false by decide +kernel)
theorem pf4 (c r:V) (d:Int):Jo3 "paid" (.bl (decide (0 < d))) (fs3 c r d)=fs4 c r d:=Jnu (show (["choice","rain","drawn"]:List Str).contains "paid" =false by decide +kernel)
theorem pf5 (c r:V) (d:Int) (u:S5):Jo3 "outs" (.ref u) (fs4 c r d)=fs5 c r d u:=Jnu (show (["choice","rain","drawn","paid"]:List Str).contains "outs" =false by decide +kernel)
theorem pf6 (c r:V) (d:Int) (u lv:S5):Jo3 "levels" (.ref lv) (fs5 c r d u)=fs6 c r d u lv:=Jnu (show (["choice","rain","drawn","paid","outs"]:List Str).contains "levels" =false by decide +kernel)
theorem pf7 (c r:V) (d:Int) (u lv:S5) (wt:Int):Jo3 "wet" (.int wt) (fs6 c r d u lv)=fs7 c r d u lv wt:=Jnu (show (["choice","rain","drawn","paid","outs","levels"]:List Str).contains "wet" =false by decide +kernel)
theorem pf8 (c r:V) (d:Int) (u lv:S5) (wt:Int) (q:S5):Jo3 "broken" (.ref q) (fs7 c r d u lv wt)=Sns c r d u lv wt q:=Jnu (show (["choice","rain","drawn","paid","outs","levels","wet"]:List Str).contains "broken" =false by decide +kernel)
theorem Sck:Jmp ["self","river","standing","choice","rain","left"] ["self","river","standing","choice","rain"] (Jml (Jmw (top 34) 0)):=⟨rfl,rfl,rfl,by decide +kernel,rfl,by decide +kernel,by decide +kernel⟩
theorem Jxj (T:Tx K mg a):Sx P w K mg base CX0 5 a.Jio a.Jip ["self","river","standing","choice","rain"] (Yf2 K a):=by
 have Skx:=Yea (P:=P) (w:=w) (base:=base) T
 have Sfg:=Jvx (P:=P) (w:=w) (base:=base) T
 have Shq:=Jzs (P:=P) (w:=w) (base:=base) T
 have Sel:=Jtz (P:=P) (w:=w) (base:=base) T
 have Sgk:=Jxm (P:=P) (w:=w) (base:=base) T
 refine T.Jcp.fn.ok Sck (λvs H Q E h=>?_) (λcdv A outer s H vs Q E hr h=>?_)
 ·obtain ⟨p,dx,o,ra,H0,S,Gs,x,c,ls,cs,rn,wt,tv,rfl,_⟩:=h
  rfl
 ·obtain ⟨p,dx,o,ra,H0,S,Gs,x,c,ls,cs,rn,wt,tv,rfl,np,s0,hp,ti,k⟩:=h
  refine ⟨?t,?B,?C⟩
  case B=>
   refine' Jmi ?O0 ?O1
   case O0=>exact (Jnv (pv 0) (pv 3) rfl)
   case O1=>
   refine' Jmi ?O2 ?O3
   case O2=>exact (Jnv (pv 0) (pv 4) rfl)
   case O3=>
   refine' Jmi ?O4 ?O5
   case O4=>exact (Jnv (pv 0) (Jmn T.Jc Skx hr (by decide) (So (pv 1) (So (pv 2) (So (pv 3) Ss)))) rfl)
   case O5=>
   refine' Jmi ?O6 ?O7
   case O6=>exact (Jnv (pv 0) (Jo1 Jvy (Jnh (pv 0) (by rfl)) Sw (Jn4 _)) rfl)
   case O7=>
   refine' Jmi ?O8 ?O9
   case O8=>exact (Jmt (i:=5) Sck.nd rfl (ye rfl) (Jmn T.Jd Sfg hr (by decide) (pa4 (pv 1) (pv 2) (pv 3) (Jnh (pv 0) (by rfl)))))
   case O9=>
   refine' Jmi ?Oa ?Ob
   case Oa=>exact (Jnv (pv 0) (Jmn T.Je Shq hr (by decide) (So (pv 1) (So (Jmv Jn2 (pv 3) Sw (λ_ _=>rfl)) (So (pv 5) Ss)))) rfl)
   case Ob=>
   refine' Jmi ?Oc ?Od
   case Oc=>exact (Jnv (pv 0) (Jmn T.Jf Sel hr (by decide) (So (pv 5) (So (Jnh (pv 0) (by rfl)) (So (pv 4) Ss)))) rfl)
   case Od=>
   refine' Jmi ?Oe ?Of
   case Oe=>exact (Jnv (pv 0) (Jmq (Jp0 rfl) (by rfl) T.Jaw Jr9 (So (Jn0 Jnp (Jn0 Jo9 (Jmv Jn2 (pv 2) Sw (λ_ _=>rfl)) (Jmq (Jqg rfl) (by rfl) T.Jb0 Jtm (So (pv 4) Ss))) (Jnh (pv 1) (by rfl))) (So (Jnh (pv 1) (by rfl)) Ss))) rfl)
   case Of=>
   refine' Jmk ?Og
   case Og=>exact (Jnv (pv 0) (Jmn T.Jg Sgk hr (by decide) (So (pv 1) (So (Jnh (pv 0) (by rfl)) Ss))) rfl)
  have new:∀{Ha:Hp} {ob:HO},Sn H0 Ha->Sn H0 (upd Ha p ob):=λs b oo e=>by rw [Jmm (Jmo e np)];exact s _ _ e
  refine ⟨_,rfl,_,rfl,p,_,dx,[],rfl,hp,T.Jdn,T.Jex,by simp,?_⟩
  refine ⟨_,rfl,_,rfl,p,_,dx,_,rfl,Sv,T.Jdn,T.Jey,by simp [Jo3],?_⟩
  rw [Joq,pf2]
  have h2:Sn H0 (upd H p (.ins a.Jm3 dx (fs2 c (.ref ra)))):=new s0
  have ti2:=ti.same h2
  refine ⟨_,rfl,_,rfl,_,rfl,o,S,x,c,ls,cs,wt,tv,rfl,ti2.ro,ti2.ti,ti2.st,ti2.ch,λH3 s3=>?_⟩
  have p3:=s3 _ _ (Sv (H:=H) (a:=p) (o:=.ins a.Jm3 dx (fs2 c (.ref ra))))
  have h3:=h2.trans s3
  refine ⟨_,rfl,p,_,dx,_,rfl,p3,T.Jdn,T.Jez,by simp [fs2],?_⟩
  rw [pf3]
  refine ⟨_,rfl,p,_,dx,_,_,rfl,Sv,T.Jdn,T.Jez,rfl,_,_,rfl,rfl,?_⟩
  refine ⟨_,rfl,p,_,dx,_,rfl,Sv,T.Jdn,T.Jf0,by simp [fs3],?_⟩
  rw [Joq,pf4]
  have h4:Sn H0 (upd H3 p (.ins a.Jm3 dx (fs4 c (.ref ra) (drw S ls tv)))):=new h3
  have ti4:=ti.same h4
  refine ⟨_,rfl,_,rfl,_,rfl,_,rfl,p,_,dx,_,_,rfl,Sv,T.Jdn,T.Jez,rfl,o,S,x,c,ls,cs,wt,tv,rfl,ti4.ro,ti4.ti,ti4.st,ti4.ch,λl H5 hl0 s5 hl5=>?_⟩
  have p5:=s5 _ _ (Sv (H:=H3) (a:=p) (o:=.ins a.Jm3 dx (fs4 c (.ref ra) (drw S ls tv))))
  have h5:=h4.trans s5
  have ti5:=ti.same h5
  obtain ⟨y,yu,rfl,hy,hyu,ly⟩:=ti5.st
  obtain ⟨z,v,rfl,hz,hv,lc,tw⟩:=ti5.ch
  have sol:=ti.so.len
  refine ⟨_,rfl,_,rfl,z,_,0,_,rfl,rfl,SqT.of hz,rfl,_,rfl,o,v,l,S,Gs,cs,lft S ls tv,rfl,ti5.ro,ti5.gx,ti5.so,ti5.ln,hv,hl5,λu H6 s6 hu6=>?_⟩
  have p6:=s6 _ _ p5
  have np6:∀{b:S5} {ob:HO},H6 b=some ob->(∀C d fs,ob≠ .ins C d fs)->b≠p:=λhb n e=>by rw [e,p6] at hb;exact n _ _ _ (yw.inj hb).symm
  refine ⟨_,rfl,p,_,dx,_,rfl,p6,T.Jdn,T.Jf1,by simp [fs4],?_⟩
  rw [pf5]
  have h6:Sn H0 (upd H6 p (.ins a.Jm3 dx (fs5 (.ref z) (.ref ra) (drw S ls tv) u))):=new (h5.trans s6)
  have ti6:=ti.same h6
  have u6:(upd H6 p (.ins a.Jm3 dx (fs5 (.ref z) (.ref ra) (drw S ls tv) u))) u=some (.tup ((Jpw S Gs ls cs tv).map V.int)):=by rw [Jmm (np6 hu6 (λ_ _ _ z=>by cases z))];exact hu6
  have l6:(upd H6 p (.ins a.Jm3 dx (fs5 (.ref z) (.ref ra) (drw S ls tv) u))) l=some (.lst ((lft S ls tv).map V.int)):=by rw [Jmm (np6 (s6 _ _ hl5) (λ_ _ _ z=>by cases z))];exact s6 _ _ hl5
  have n16:S.Bs.length<=16:=by obtain ⟨_,_,_,_,_,_,_,_,_,_,q,_⟩:=ti.ro;exact q
  have el:(lft S ls tv).length=S.Bs.length:=by rw [Jux];exact ly
  have eo:(Jpw S Gs ls cs tv).length=S.Bs.length:=by unfold Jpw;rw [Jqm sol.1 sol.2];exact ti.ln.symm
  have rl:=ti.rl
  have n1:=ti.n1
  refine ⟨_,rfl,_,rfl,p,_,dx,_,_,rfl,Sv,T.Jdn,T.Jf1,rfl,_,rfl,l,u,ra,_,_,rn,rfl,l6,u6,ti6.hr,by omega,by omega,by omega,λlv H7 s7 hlv7=>?_⟩
  have p7:=s7 _ _ (Sv (H:=H6) (a:=p) (o:=.ins a.Jm3 dx (fs5 (.ref z) (.ref ra) (drw S ls tv) u)))
  have np7:∀{b:S5} {ob:HO},H7 b=some ob->(∀C d fs,ob≠ .ins C d fs)->b≠p:=λhb n e=>by rw [e,p7] at hb;exact n _ _ _ (yw.inj hb).symm
  refine ⟨_,rfl,p,_,dx,_,rfl,p7,T.Jdn,T.Jf2,by simp [fs5],?_⟩
  rw [pf6]
  have h7:Sn H0 (upd H7 p (.ins a.Jm3 dx (fs6 (.ref z) (.ref ra) (drw S ls tv) u lv))):=new (h6.trans s7)
  have ti7:=ti.same h7
  obtain ⟨dxr,b,tt,os,ts,ho,hb,bl,ht,tl,m1,m2,m3⟩:=id ti7.ro
  obtain ⟨y7,yu7,ey,hy7,hyu7,ly7⟩:=ti7.st
  obtain rfl:y=y7:=V.ref.inj ey
  refine ⟨_,rfl,y,_,1,_,rfl,rfl,SqT.of hy7,rfl,_,rfl,ra,rn,rfl,.inr (SqT.of ti7.hr),ti.sm,_,_,rfl,rfl,_,rfl,o,_,dxr,_,_,rfl,ho,T.Jem,T.Jfm,rfl,_,_,rfl,rfl,_,rfl,o,_,dxr,_,_,rfl,ho,T.Jem,T.Jfl,rfl,_,_,rfl,?_⟩
  refine ⟨_,rfl,p,_,dx,_,rfl,Sv,T.Jdn,T.Jf3,by simp [fs6],?_⟩
  rw [Joq,pf7]
  have h8:Sn H0 (upd H7 p (.ins a.Jm3 dx (fs7 (.ref z) (.ref ra) (drw S ls tv) u lv (Jtf S wt rn)))):=new (h6.trans s7)
  have ti8:=ti.same h8
  have lv8:(upd H7 p (.ins a.Jm3 dx (fs7 (.ref z) (.ref ra) (drw S ls tv) u lv (Jtf S wt rn)))) lv=some (.tup ((Jr3 S Gs ls cs tv rn).map V.int)):=by rw [Jmm (np7 hlv7 (λ_ _ _ z=>by cases z))];exact hlv7
  have u8:(upd H7 p (.ins a.Jm3 dx (fs7 (.ref z) (.ref ra) (drw S ls tv) u lv (Jtf S wt rn)))) u=some (.tup ((Jpw S Gs ls cs tv).map V.int)):=by rw [Jmm (np7 (s7 _ _ u6) (λ_ _ _ z=>by cases z))];exact s7 _ _ u6
  have e8:(Jr3 S Gs ls cs tv rn).length=S.Bs.length:=by unfold Jr3;rw [Jr8 (by omega) (by omega)];exact el
  refine ⟨_,rfl,_,rfl,p,_,dx,_,_,rfl,Sv,T.Jdn,T.Jf2,rfl,o,lv,S,_,rfl,ti8.ro,lv8,e8,λq H9 s9 hq9=>?_⟩
  have p9:=s9 _ _ (Sv (H:=H7) (a:=p) (o:=.ins a.Jm3 dx (fs7 (.ref z) (.ref ra) (drw S ls tv) u lv (Jtf S wt rn))))
  have np9:∀{b:S5} {ob:HO},H9 b=some ob->(∀C d fs,ob≠ .ins C d fs)->b≠p:=λhb n e=>by rw [e,p9] at hb;exact n _ _ _ (yw.inj hb).symm
  refine ⟨_,rfl,p,_,dx,_,rfl,p9,T.Jdn,T.Jf4,by simp [fs7],?_⟩
  rw [pf8]
  have keep:∀{b:S5} {ob ox:HO},H9 b=some ob->(∀C d fs,ob≠ .ins C d fs)->upd H9 p ox b=some ob:=λhb n=>by rw [Jmm (np9 hb n)];exact hb
  exact k _ (new (h8.trans s9)) ⟨dx,u,lv,q,Sv,keep (s9 _ _ u8) (λ_ _ _ z=>by cases z),keep (s9 _ _ lv8) (λ_ _ _ z=>by cases z),keep hq9 (λ_ _ _ z=>by cases z)⟩
theorem Ydl:∀{vs:List V} {ls hs:List Int},vs.length=ls.length->ls.length=hs.length->(wl vs ls hs).all id=true->∃ns:List Int,vs=ns.map V.int/\ns.length=ls.length/\∀(i:Nat) (n l h:Int),ns[i]?=some n->ls[i]?=some l->hs[i]?=some h->l<=n/\n<=h
 | [],[],_,_,_,_=>⟨[],rfl,rfl,λi n l h e=>by simp at e⟩
 | [],_::_,_,e,_,_=>by simp at e
 |_::_,[],_,e,_,_=>by simp at e
 |_::_,_::_,[],_,e,_=>by simp at e
 |v::vs,l::ls,h::hs,e1,e2,a=>by
  have a':(Jmz v l h&&(wl vs ls hs).all id)=true:=a
  rw [yx] at a'
  obtain ⟨ns,rfl,ln,q⟩:=Ydl (vs:=vs) (ls:=ls) (hs:=hs) (by simpa using e1) (by simpa using e2) a'.2
  obtain ⟨i,rfl⟩:=Jp3 a'.1
  have h2:(decide (l<=i)&&decide (i<=h))=true:=a'.1
  have h3:l<=i/\i<=h:=by simpa using h2
  refine ⟨i::ns,rfl,by simp [ln],λj n l' h' q1 q2 q3=>?_⟩
  cases j with
  |zero=>cases q1;cases q2;cases q3;exact h3
  |succ j=>exact q j n l' h' (by simpa using q1) (by simpa using q2) (by simpa using q3)
theorem Jv4 {r:Option (List V)} {ls hs:List Int} (e:ls.length=hs.length) (h:Joy r ls hs=true):∃ns:List Int,r=some (ns.map V.int)/\ns.length=ls.length/\∀(i:Nat) (n l h:Int),ns[i]?=some n->ls[i]?=some l->hs[i]?=some h->l<=n/\n<=h:=by
 cases r with
 |none=>cases h
 |some vs=>
  have h':(decide (vs.length=ls.length)&&(wl vs ls hs).all id)=true:=h
  rw [yx,decide_eq_true_eq] at h'
  obtain ⟨ns,rfl,q⟩:=Ydl h'.1 e h'.2
  exact ⟨ns,rfl,q⟩
structure RvX (K:Si) (a:Ad) (H:Hp) (o:S5) (S:Riv) (Gs:List Jnd):Prop where
 ro:Saz K a H o S
 gx:GXL a H (S.Bs.map (·.g)) Gs
 ln:S.Bs.length=Gs.length
 ti:TIn S
 n1:1<=S.Bs.length
 ok:∀(i:Nat) (B:Bsn) (G:Jnd),S.Bs[i]?=some B->Gs[i]?=some G->Sbh G/\B.n=nOf G/\0<=B.lo/\B.hi<=12
theorem RvX.same {K:Si} {a:Ad} {H H':Hp} {o:S5} {S:Riv} {Gs:List Jnd} (s:Sn H H') (h:RvX K a H o S Gs):RvX K a H' o S Gs:=⟨h.ro.same s,h.gx.same s,h.ln,h.ti,h.n1,h.ok⟩
def Slo (S:Riv) (ls:List Int):Prop:=∀(i:Nat) (n:Int) (B:Bsn),ls[i]?=some n->S.Bs[i]?=some B->B.lo<=n/\n<=B.hi
def Skv (S:Riv) (cs:List Int):Prop:=∀(i:Nat) (n:Int) (B:Bsn),cs[i]?=some n->S.Bs[i]?=some B->0<=n/\n<=(B.n:Int) - 1
theorem Sqo {K:Si} {H:Hp} {x:V} {S:Riv} {q:Pr} (h:stB S q=true) (p:PrT K H x q):∃(ls:List Int) (wt:Int),StA H x S ls wt/\Slo S ls/\(0<=wt/\wt<=S.c)/\Jq7 q=wt:=by
 cases q with
 |no=>cases h
 |oth=>cases h
 |two u w r=>
  have h':(Jmz w 0 S.c&&Joy r (S.Bs.map (·.lo)) (S.Bs.map (·.hi)))=true:=h
  rw [yx] at h'
  obtain ⟨wt,rfl⟩:=Jp3 h'.1
  have h2:(decide (0<=wt)&&decide (wt<=S.c))=true:=h'.1
  obtain ⟨ls,rfl,ln,b⟩:=Jv4 (by simp) h'.2
  obtain ⟨y,rfl,hy,⟨uu,rfl,hu,_,_⟩,_⟩:=p
  refine ⟨ls,wt,⟨y,uu,rfl,hy,hu,by simpa using ln⟩,λi n B e1 e2=>b i n B.lo B.hi e1 (by simp [e2]) (by simp [e2]),by simpa using h2,rfl⟩
theorem Sps {K:Si} {H:Hp} {x:V} {S:Riv} {q:Pr} (h:chB S q=true) (p:PrT K H x q):∃(cs:List Int) (tv:V),ChA H x S cs tv/\Skv S cs:=by
 cases q with
 |no=>cases h
 |oth=>cases h
 |two u w r=>
  have h':(Jrx S.Ts.length w&&Joy r (yt S.Bs.length 0) (S.Bs.map λB=>(B.n:Int) - 1))=true:=h
  rw [yx] at h'
  obtain ⟨cs,rfl,ln,b⟩:=Jv4 (by simp) h'.2
  obtain ⟨y,rfl,hy,⟨uu,rfl,hu,_,_⟩,tw⟩:=p
  have ln':cs.length=S.Bs.length:=by simpa using ln
  refine ⟨cs,w,⟨y,uu,rfl,hy,hu,ln',?_⟩,λi n B e1 e2=>b i n 0 ((B.n:Int) - 1) e1 ?_ (by simp [e2])⟩
  ·by_cases hw:w= .non
   ·exact .inl hw
   ·have e:Jrx S.Ts.length w=Jmz w 0 ((S.Ts.length:Int) - 1):=by cases w <;> first|rfl|exact absurd rfl hw
    rw [e] at h'
    obtain ⟨j,rfl⟩:=Jp3 h'.1
    have h2:(decide (0<=j)&&decide (j<=(S.Ts.length:Int) - 1))=true:=h'.1
    have h3:0<=j/\j<=(S.Ts.length:Int) - 1:=by simpa using h2
    exact .inr ⟨j,rfl,h3.1,by omega⟩
  ·have hi:i < S.Bs.length:=(yo.mp e2).1
   simp [ybj,hi]
theorem Sqg {K:Si} {a:Ad} {H:Hp} {x:V} {o:S5} {S:Riv} {wet:Int} {r:Option (List V)} (ro:Saz K a H o S) (h:rnB S wet r=true) (p:Sdb K H x r):∃(ra:S5) (rn:List Int),x= .ref ra/\H ra=some (.tup (rn.map V.int))/\rn.length=S.Bs.length/\Sml rn:=by
 obtain ⟨dx,b,t,os,ts,ho,hb,bl,ht,tl,n1,n2,n3⟩:=ro
 cases r with
 |none=>cases h
 |some vs=>
  have h':(Joy (some vs) (yt S.Bs.length 0) (S.Bs.map (·.rn))&&(decide (Jqr S wet<=Jy7 vs)&&decide (Jy7 vs<=wet)))=true:=h
  rw [yx] at h'
  obtain ⟨ns,e,ln,q⟩:=Jv4 (by simp) h'.1
  cases e
  obtain ⟨_,ms,e',em,sm⟩:=Jyz h'.1 n1 n3
  cases e'
  have e2:ns=ms:=by
   have:=congrArg (List.map Jq1) em
   simpa [ybb,ybv,Jq1] using this
  subst e2
  obtain ⟨ra,rfl,hr,_,_⟩:=p
  exact ⟨ra,ns,rfl,hr,by simpa using ln,sm⟩
theorem Sbj.of:∀{Gs:List Jnd} {cs ls:List Int},Gs.length=cs.length->cs.length=ls.length->(∀(i:Nat) (G:Jnd) (c l:Int),Gs[i]?=some G->cs[i]?=some c->ls[i]?=some l->Sbh G/\(0<=c/\c < (nOf G:Int))/\(0<=l/\l<=1000))->Sbj Gs cs ls
 | [],[],[],_,_,_=>True.intro
 |G::Gs,c::cs,l::ls,e1,e2,h=>⟨h 0 G c l rfl rfl rfl,Sbj.of (by simpa using e1) (by simpa using e2) λi G c l q1 q2 q3=>h (i+1) G c l (by simpa using q1) (by simpa using q2) (by simpa using q3)⟩
 | [],_::_,_,e,_,_=>by simp at e
 |_::_,[],_,e,_,_=>by simp at e
 | [],[],_::_,_,e,_=>by simp at e
 |_::_,_::_,[],_,e,_=>by simp at e
theorem Yby {S:Riv} {ls:List Int} {tv:V} (ti:TIn S):0<=drw S ls tv/\(drw S ls tv > 0->drw S ls tv<=ls.getD (Jxu S tv) 0):=by
 cases tv with
 |int t=>
  show 0<=(match S.Ts[t.toNat]? with|some T=>if ls.getD (plc S T.b) 0≥T.wt then T.wt else 0|none=>0)/\((match S.Ts[t.toNat]? with|some T=>if ls.getD (plc S T.b) 0≥T.wt then T.wt else 0|none=>0) > 0->(match S.Ts[t.toNat]? with|some T=>if ls.getD (plc S T.b) 0≥T.wt then T.wt else 0|none=>0)<=ls.getD (match S.Ts[t.toNat]? with|some T=>plc S T.b|none=>0) 0)
  cases e:S.Ts[t.toNat]? with
  |none=>simp
  |some T=>
   have:=ti T (yy e)
   dsimp only
   split <;> omega
 |_=>exact ⟨Int.le_refl 0,λh=>absurd (show (0:Int) > 0 from h) (by decide)⟩
theorem Smf {S:Riv} {ls:List Int} {tv:V} (ti:TIn S) (h0:∀n∈ls,0<=n/\n<=12):∀n∈lft S ls tv,0<=n/\n<=12:=by
 have d:=Yby (ls:=ls) (tv:=tv) ti
 unfold lft
 split
 ·rename_i hd
  intro n hn
  rcases List.mem_or_eq_of_mem_set hn with h|h
  ·exact h0 n h
  ·by_cases hp:Jxu S tv < ls.length
   ·have e:ls.getD (Jxu S tv) 0=ls[Jxu S tv]:=by simp [ybo,hp]
    have:=h0 _ (yba hp)
    rw [e] at h d
    have:=d.2 hd
    omega
   ·have e:ls.getD (Jxu S tv) 0=0:=by simp [ybo,hp]
    rw [e] at d
    have:=d.2 hd
    omega
 ·exact h0
theorem RvX.sets {K:Si} {a:Ad} {H:Hp} {o:S5} {S:Riv} {Gs:List Jnd} {ls cs:List Int} {tv:V} (h:RvX K a H o S Gs) (l1:ls.length=S.Bs.length) (l2:cs.length=S.Bs.length) (hl:Slo S ls) (hc:Skv S cs):Sbj Gs cs (lft S ls tv):=by
 have ln:=h.ln
 have all:∀n∈ls,0<=n/\n<=12:=λn hn=>by
  obtain ⟨i,hi⟩:=ybu hn
  have hi':i < ls.length:=(yo.mp hi).1
  have b:=hl i n S.Bs[i] hi (yh (by omega))
  have k:=h.ok i S.Bs[i] (Gs[i]'(by omega)) (yh (by omega)) (yh (by omega))
  omega
 refine .of (by omega) (by rw [Jux];omega) λi G c l q1 q2 q3=>?_
 have hi:i < Gs.length:=(yo.mp q1).1
 have k:=h.ok i S.Bs[i] G (yh (by omega)) q1
 have b:=hc i c S.Bs[i] q2 (yh (by omega))
 have f:=Smf (tv:=tv) h.ti all l (yy q3)
 exact ⟨k.1,by rw [<-k.2.1];omega,by omega⟩
def Yah (a:Ad) (S:Riv) (H:Hp) (x c:V) (q r:Pr) (E:XK) (k:Prop):Prop:=if stB S q=true then (if chB S r=true then k else ∀cl eo H',RfC a.Jm0 H H' c cl eo->E cl eo H') else ∀cl eo H',RfC a.Jlz H H' x cl eo->E cl eo H'
inductive Snb (K:Si) (a:Ad) (vs:List V) (H:Hp) (Q:VK) (E:XK):Prop where
 |mk (o:S5) (S:Riv) (x c:V) (q r:Pr) (_:vs= [.ref o,x,c]) (_:Saz K a H o S) (_:PrT K H x q) (_:PrT K H c r) (_:Yah a S H x c q r E (∀H',Sn H H'->Q .non H'))
inductive Yd6 (K:Si) (a:Ad) (vs:List V) (H:Hp) (Q:VK) (E:XK):Prop where
 |mk (o:S5) (S:Riv) (Gs:List Jnd) (x c y:V) (q r:Pr) (rr:Option (List V)) (_:vs= [.ref o,x,c,y]) (_:RvX K a H o S Gs) (_:PrT K H x q) (_:PrT K H c r) (_:Sdb K H y rr) (_:Yah a S H x c q r E (if rnB S (Jq7 q) rr=true then ∀ls cs rn wt tv ra p H',StA H x S ls wt->ChA H c S cs tv->y= .ref ra->H ra=some (.tup (rn.map V.int))->Sn H H'->Sfr a H' p c y S Gs ls cs wt tv rn->Q (.ref p) H' else ∀cl eo H',RfC a.Jm1 H H' y cl eo->E cl eo H'))
theorem Jrq:Jmp ["self","thing"] ["self","thing"] (Jml (Jmw (top 10) 0)):=⟨rfl,rfl,rfl,by decide +kernel,rfl,by decide +kernel,by decide +kernel⟩
theorem Jqk (T:Tx K mg a):Sx P w K mg base CX0 1 a.Jhk a.Jhl ["self","thing"] (Jpk K "thing"):=by
 refine T.Jcm.fn.ok Jrq (λvs H Q E h=>?_) (λcdv A outer s H vs Q E hr h=>?_)
 ·obtain ⟨e,C,W,fI,y,rfl,_⟩:=h
  rfl
 ·obtain ⟨e,C,W,fI,y,rfl,q,c,n,k⟩:=h
  refine ⟨_,(Jmk (Jph (pv 0) (pv 1) rfl)),?_⟩
  exact ⟨_,rfl,_,rfl,e,C,W,fI,true,rfl,q,c,n,k⟩
theorem Jsr:Jmp ["self","thing"] ["self","thing"] (Jml (Jmw (top 11) 0)):=⟨rfl,rfl,rfl,by decide +kernel,rfl,by decide +kernel,by decide +kernel⟩
theorem Jvq (T:Tx K mg a):Sx P w K mg base CX0 1 a.Jhm a.Jhn ["self","thing"] (Jpk K "thing"):=by
 refine T.Jcn.fn.ok Jsr (λvs H Q E h=>?_) (λcdv A outer s H vs Q E hr h=>?_)
 ·obtain ⟨e,C,W,fI,y,rfl,_⟩:=h
  rfl
 ·obtain ⟨e,C,W,fI,y,rfl,q,c,n,k⟩:=h
  refine ⟨_,(Jmk (Jph (pv 0) (pv 1) rfl)),?_⟩
  exact ⟨_,rfl,_,rfl,e,C,W,fI,true,rfl,q,c,n,k⟩
theorem Js6:Jmp ["river","standing","choice"] ["river","standing","choice"] (Jml (top 27)):=⟨rfl,rfl,rfl,by decide +kernel,rfl,by decide +kernel,by decide +kernel⟩
theorem Js1 (T:Tx K mg a):Sx P w K mg base (CXX P w) 5 a.Jia a.Jib ["river","standing","choice"] (Snb K a):=by
 have Saj:=Jp6 (P:=P) (w:=w) (base:=base) T
 have Sbm:=Jqx (P:=P) (w:=w) (base:=base) T
 have Saa:=Jox (P:=P) (w:=w) (base:=base) T
 have Sb0:=Jqk (P:=P) (w:=w) (base:=base) T
 refine T.Ja.fn.okX Js6 (λvs H Q E h=>?_) (λcdv A outer s H vs Q E hr h=>?_)
 ·obtain ⟨o,S,x,c,q,r,rfl,_⟩:=h
  rfl
 ·obtain ⟨o,S,x,c,q,r,rfl,ro,px,pc,k⟩:=h
  refine ⟨?t,?B,?C⟩
  case B=>
   refine' Jmi ?O0 ?O1
   case O0=>
    refine' Jn6 ?O2 ?O3 ?O4
    case O2=>exact (Jn7 (Jnb (Jmn T.J6 Saj hr (by decide) (So (pv 0) (So (pv 1) Ss)))))
    case O3=>
     refine' Jmk ?O5
     case O5=>exact (Jnl Jnn rfl (Jo4 T.Jdf Saa hr (by decide) T.Jcl.bd T.Jba (So (pv 1) Ss)))
    case O4=>exact Jmu
   case O1=>
   refine' Jmk ?O6
   case O6=>
   refine' Jn6 ?O7 ?O8 ?O9
   case O7=>exact (Jn7 (Jnb (Jmn T.J7 Sbm hr (by decide) (So (pv 0) (So (pv 2) Ss)))))
   case O8=>
    refine' Jmk ?Oa
    case Oa=>exact (Jnl Jnn rfl (Jo4 T.Jdh Sb0 hr (by decide) T.Jcm.bd T.Jbb (So (pv 2) Ss)))
   case O9=>exact Jmu
  unfold Yah at k
  refine ⟨_,rfl,_,rfl,o,S,x,q,rfl,ro,px,λH1 s1=>⟨_,rfl,?_⟩⟩
  cases es:stB S q with
  |false=>
   rw [es] at k
   exact Jnr (Jny T.Jdf T.Jet rfl λe dx h1 h2 h3=>k _ _ _ ((RfC.new h1 h2 h3).of s1))
  |true=>
   rw [if_pos es] at k
   refine Jni ⟨_,rfl,_,rfl,o,S,c,r,rfl,ro.same s1,pc.same s1,λH2 s2=>⟨_,rfl,?_⟩⟩
   have s12:=s1.trans s2
   cases ec:chB S r with
   |false=>
    rw [ec] at k
    exact Jnr (Jny T.Jdh T.Jeu rfl λe dx h1 h2 h3=>k _ _ _ ((RfC.new h1 h2 h3).of s12))
   |true=>
    rw [if_pos ec] at k
    exact Jni (k _ s12)
theorem Yb3:Jmp ["river","standing","choice","rain"] ["river","standing","choice","rain"] (Jml (top 35)):=⟨rfl,rfl,rfl,by decide +kernel,rfl,by decide +kernel,by decide +kernel⟩
theorem Yaw (T:Tx K mg a):Sx P w K mg base (CXX P w) 7 a.Jis a.Jit ["river","standing","choice","rain"] (Yd6 K a):=by
 have Sdj:=Js1 (P:=P) (w:=w) (base:=base) T
 have Se7:=Jvv (P:=P) (w:=w) (base:=base) T
 have Sdt:=Jvq (P:=P) (w:=w) (base:=base) T
 have Sei:=Jxj (P:=P) (w:=w) (base:=base) T
 refine T.Jh.fn.okX Yb3 (λvs H Q E h=>?_) (λcdv A outer s H vs Q E hr h=>?_)
 ·obtain ⟨o,S,Gs,x,c,y,q,r,rr,rfl,_⟩:=h
  rfl
 ·obtain ⟨o,S,Gs,x,c,y,q,r,rr,rfl,rv,px,pc,py,k⟩:=h
  refine ⟨?t,?B,?C⟩
  case B=>
   refine' Jmi ?O0 ?O1
   case O0=>exact (Jom (Joj T.Ja Sdj Jnn hr (by decide) (So (pv 0) (So (pv 1) (So (pv 2) Ss)))))
   case O1=>
   refine' Jmi ?O2 ?O3
   case O2=>
    refine' Jn6 ?O4 ?O5 ?O6
    case O4=>exact (Jn7 (Jnb (Joj T.J9 Se7 Jnn hr (by decide) (So (pv 0) (So (pv 1) (So (pv 3) Ss))))))
    case O5=>
     refine' Jmk ?O7
     case O7=>exact (Jnl Jnn rfl (Jo4 T.Jdj Sdt hr (by decide) T.Jcn.bd T.Jbc (So (pv 3) Ss)))
    case O6=>exact Jmu
   case O3=>
   refine' Jmk ?O8
   case O8=>
   refine' Jms ?O9
   case O9=>exact (Jpq T.Jdo Sei (hr.mono (by decide)) (by rfl) T.Jbe T.Jcp.bd .nil Jqn (pa4 (pv 0) (pv 1) (pv 2) (pv 3)))
  refine ⟨_,rfl,_,rfl,_,rfl,o,S,x,c,q,r,rfl,rv.ro,px,pc,?_⟩
  unfold Yah at k⊢
  cases es:stB S q with
  |false=>
   rw [es] at k
   exact k
  |true=>
   rw [if_pos es] at k
   rw [if_pos rfl]
   cases ec:chB S r with
   |false=>
    rw [ec] at k
    exact k
   |true=>
    rw [if_pos ec] at k
    rw [if_pos rfl]
    intro H1 s1
    refine ⟨_,rfl,_,rfl,_,rfl,o,S,x,q,y,rr,rfl,rv.ro.same s1,px.same s1,py.same s1,?_⟩
    rw [if_pos es]
    intro H2 s2
    have s12:=s1.trans s2
    refine ⟨_,rfl,?_⟩
    cases er:rnB S (Jq7 q) rr with
    |false=>
     rw [er] at k
     exact Jnr (Jny T.Jdj T.Jev rfl λe dx h1 h2 h3=>k _ _ _ ((RfC.new h1 h2 h3).of s12))
    |true=>
     rw [if_pos er] at k
     obtain ⟨ls,wt,sa,lvi,_,_⟩:=Sqo es px
     obtain ⟨cs,tv,ca,csi⟩:=Sps ec pc
     obtain ⟨ra,rn,rfl,hra,rl,sm⟩:=Sqg rv.ro er py
     refine Jni ⟨_,rfl,_,rfl,_,rfl,_,rfl,λp dx hp hd ne=>?_⟩
     have sn:Sn H2 (upd (upd H2 dx (.own p)) p (.ins a.Jm3 dx [])):=λb ob e=>by rw [Jmm (Jmo e hp),Jmm (Jmo e hd)];exact e
     have la:ls.length=S.Bs.length:=by obtain ⟨_,_,_,_,_,z⟩:=sa;exact z
     have lc:cs.length=S.Bs.length:=by obtain ⟨_,_,_,_,_,z,_⟩:=ca;exact z
     have rv2:=rv.same s12
     refine ⟨p,dx,o,ra,H2,S,Gs,x,c,ls,cs,rn,wt,tv,rfl,hp,sn,Sv,⟨rv2.ro,rv2.ti,rv2.gx,rv2.ln,sa.same s12,ca.same s12,s12 _ _ hra,rl,sm,rv2.sets la lc lvi csi,rv2.n1⟩,λH3 s3 ta=>⟨rfl,?_⟩⟩
     exact k ls cs rn wt tv ra p H3 sa ca rfl hra (s12.trans s3) ta
def Slt (R:Jn1) (v:V):Prop:=v= .non\/∃j:Int,v= .int j/\0<=j/\j < R.Ts.length
def Sdc (H:Hp) (x:V) (R:Jn1) (ns:List Int) (tv:V):Prop:=(∃y u:S5,x= .ref y/\H y=some (.tup [.ref u,tv])/\H u=some (.tup (ns.map V.int)))/\ns.length=R.Bs.length/\(∀(i:Nat) (n:Int),ns[i]?=some n->0<=n/\n<=4/\∃B,R.Bs[i]?=some B/\n < (nOf B.G:Int))/\Slt R tv
theorem Smh {G:Jnd} (h:Sbh G):1<=nOf G/\nOf G<=4:=by
 have:=h.len
 unfold nOf
 split <;> omega
def Jo0 (R:Jn1) (wet:Int):Int:=
 if (if wet+R.g - R.c > 0 then wet+R.g - R.c else 0) < (R.Bs.map (·.rn)).sum then (if wet+R.g - R.c > 0 then wet+R.g - R.c else 0) else (R.Bs.map (·.rn)).sum
inductive Yb7 (vs:List V) (H:Hp) (Q:VK) (z3:XK):Prop where
 |mk (p:S5) (x:V) (R:Jn1) (wet:Int) (_:vs= [x,.int wet]) (_:Sci p H x R) (_:Jor R) (_:∀H',Sn H H'->Q (.int (Jo0 R wet)) H')
theorem Jwo:Jmp ["_law_told_here","_law_wet"] ["_law_told_here","_law_wet"] (Jml (top 80)):=⟨rfl,rfl,rfl,by decide +kernel,rfl,by decide +kernel,by decide +kernel⟩
theorem Jwh (T:Tx K mg a):Sx P w K mg base CX0 1 a.Jku a.Jkv ["_law_told_here","_law_wet"] Yb7:=by
 refine T.Ja0.fn.ok Jwo (λvs H Q E h=>?_) (λcdv A outer s H vs Q E hr h=>?_)
 ·obtain ⟨p,x,R,wet,rfl,_⟩:=h
  rfl
 ·obtain ⟨p,x,R,wet,rfl,rt,rg,k⟩:=h
  refine ⟨?t,?B,?C⟩
  case B=>
   refine' Jmk ?O0
   case O0=>exact (Jms (Jmq (Jp0 rfl) (by rfl) T.Jaw Jr9 (So (Jmq (Jqg rfl) (by rfl) T.Jb0 Jtm (So (Jng (N:=(["_law_one"]:List Str)) (ini:=[none]) rfl (Jo2 (Jmv Jn2 (pv 0) Sw (λ_ _=>rfl))) (λ_ _ _ _ _=>(Jmr (i:=0) (by decide +kernel:(["_law_one"]:List Str).Nodup) rfl (ye rfl))) (λ_ _ _ _ _=>Jnf) (λ_ _ _ _ _=>(Jmv (Jpg (K:=K) rfl) (pv 0) Sw (λ_ _=>rfl)))) Ss)) (So (Jmq (Jp8 rfl) (by rfl) T.Jav Jsd (So Sw (So (Jn0 Jo9 (Jn0 Jnp (pv 1) (Jmv Jn2 (pv 0) Sw (λ_ _=>rfl))) (Jmv Jn2 (pv 0) Sw (λ_ _=>rfl))) Ss))) Ss))))
  obtain ⟨t,lb,lt,bs,ts,rfl,ht,hb,btl,htt,ttl,nb,nt⟩:=rt
  have blen:=btl.len
  have hn:=rg.n
  refine ⟨_,rfl,t,_,2,_,rfl,rfl,SqT.of ht,rfl,lb,rfl,⟨_,Sy.of hb⟩,λD hD=>?_⟩
  refine Jow ((R.Bs.map (·.rn)).map V.int) hD (by simp [blen]) (by omega) hb ?_ ?_
  ·intro i x y H' Q' hx hy sm k'
   obtain ⟨B,eB,tb,g,rfl,htb,gt⟩:=btl.get hx
   rw [yj,yj,eB] at hy
   cases hy
   exact ⟨_,rfl,tb,_,4,_,rfl,rfl,SqT.of (sm _ _ htb),rfl,k' _ λ_ _ h=>h⟩
  intro H1 s1 hD1
  refine ⟨D,_,rfl,.inl (Sy.of hD1),⟨by rw [yf];omega,λn hn=>?_⟩,?_⟩
  ·obtain ⟨B,hB,rfl⟩:=yaj.mp hn
   have:=(rg.Bs B hB).1.rn
   omega
  refine ⟨_,rfl,_,rfl,t,_,1,_,rfl,rfl,SqT.of (s1 _ _ ht),rfl,_,_,rfl,rfl,_,rfl,t,_,0,_,rfl,rfl,SqT.of (s1 _ _ ht),rfl,_,_,rfl,rfl,_,_,rfl,_,_,rfl,k _ s1⟩
def Slr (n:Nat) (ms:List Int):Prop:=ms.length=n/\∀m∈ms,0<=m/\m<=6
theorem Slr.sml {n:Nat} {ms:List Int} (h:Slr n ms) (hn:n<=16):Sml ms:=⟨by have:=h.1;omega,λm hm=>by have:=h.2 m hm;omega⟩
def RnB (R:Jn1) (ms:List Int):Prop:=∀(i:Nat) (m:Int) (B:Joz),ms[i]?=some m->R.Bs[i]?=some B->0<=m/\m<=B.rn
def Sil (R:Jn1) (wet:Int) (ms:List Int):Prop:=ms.length=R.Bs.length/\RnB R ms/\ms.sum<=wet/\Jo0 R wet<=ms.sum
theorem RnB.row6 {R:Jn1} {ms:List Int} (rg:Jor R) (ln:ms.length=R.Bs.length) (h:RnB R ms):Slr R.Bs.length ms:=⟨ln,λm hm=>by
 obtain ⟨i,hi⟩:=ybu hm
 have hi':i < R.Bs.length:=by have:=(yo.mp hi).1;omega
 have q:=h i m R.Bs[i] hi (yh hi')
 have:=(rg.Bs R.Bs[i] (yba hi')).1.rn
 omega⟩
theorem Ya4:∀{ms:List Int} {i:Nat} {v:Int} (h:i < ms.length),(ms.set i v).sum=ms.sum - ms[i]+v
 |m::ms,0,v,_=>by
  show (v::ms).sum=(m::ms).sum - m+v
  rw [ybp,ybp]
  omega
 |m::ms,i+1,v,h=>by
  have ih:=Ya4 (ms:=ms) (i:=i) (v:=v) (by simpa using h)
  show (m::ms.set i v).sum=(m::ms).sum - ms[i]'(by simpa using h)+v
  rw [ybp,ybp,ih]
  omega
theorem Yao {R:Jn1} {wet:Int} (rg:Jor R) (hw:0<=wet):Jo0 R wet<=wet/\Jo0 R wet<=(R.Bs.map (·.rn)).sum:=by
 have:=rg.g
 unfold Jo0
 split <;> split <;> omega
def rsR (R:Jn1):List Int:=R.Bs.map (·.rn)
theorem Yek {R:Jn1} {i:Nat} {B:Joz} (h:R.Bs[i]?=some B):(rsR R).getD i 0=B.rn:=by unfold rsR;simp [h]
def mn (a b:Int):Int:=if b < a then b else a
def Ski (R:Jn1) (wet:Int) (ns:List Int):Int:=if Jo0 R wet - ns.sum > 0 then Jo0 R wet - ns.sum else 0
def upG (R:Jn1) (wet:Int) (ns:List Int):Nat->List Int
 |0=>ns
 |i+1=>(upG R wet ns i).set i ((upG R wet ns i).getD i 0+mn ((rsR R).getD i 0 - (upG R wet ns i).getD i 0) (Ski R wet (upG R wet ns i)))
def zsN (n:Nat):List Int:=yt n 0
def rzG (R:Jn1) (wet:Int):List Int:=upG R wet (zsN R.Bs.length) R.Bs.length
inductive Y5 (vs:List V) (H:Hp) (Q:VK) (z3:XK):Prop where
 |mk (p:S5) (x:V) (R:Jn1) (wet:Int) (r:S5) (_:vs= [x,.int wet,.ref r]) (_:Sci p H x R) (_:Jor R) (_:0<=wet) (_:H r=some (.tup ((zsN R.Bs.length).map V.int))) (_:∀(u:S5) (H':Hp),Sn H H'->H' u=some (.tup ((rzG R wet).map V.int))->Sil R wet (rzG R wet)->Q (.ref u) H')
theorem Ydw:∀n:Nat,(zsN n).sum=0
 |0=>rfl
 |n+1=>by
  show (0::zsN n).sum=0
  rw [ybp,Ydw n]
  rfl
theorem Ydv {n i:Nat} {m:Int} (h:(zsN n)[i]?=some m):m=0:=by
 unfold zsN at h
 rw [ybj] at h
 split at h
 ·cases h;rfl
 ·cases h
theorem Sbl:Jmp ["_law_told_here","_law_wet","_law_row","_law_found","_law_k","_law_one"] ["_law_told_here","_law_wet","_law_row"] (Jml (top 81)):=⟨rfl,rfl,rfl,by decide +kernel,rfl,by decide +kernel,by decide +kernel⟩
theorem Js9 (T:Tx K mg a):Sx P w K mg base CX0 2 a.Jkw a.Jkx ["_law_told_here","_law_wet","_law_row"] Y5:=by
 have Sfd:=Jwh (P:=P) (w:=w) (base:=base) T
 refine T.Ja1.fn.ok Sbl (λvs H Q E h=>?_) (λcdv A outer s H vs Q E hr h=>?_)
 ·obtain ⟨p,x,R,wet,r,rfl,_⟩:=h
  rfl
 ·obtain ⟨p,x,R,wet,r,rfl,rt,rg,hw,hr0,k⟩:=h
  refine ⟨?t,?B,?C⟩
  case B=>
   refine' Jmi ?O0 ?O1
   case O0=>exact (Jmt (i:=3) Sbl.nd rfl (ye rfl) (Jn3 Jog (by rfl) T.Jau Jpd (So (pv 2) Ss)))
   case O1=>
   refine' Jmi ?O2 ?O3
   case O2=>
    refine' Jqb ?O4 ?O5 ?O6 ?O7 ?O8
    case O4=>exact PassesOwn.never
    case O5=>exact rfl
    case O6=>exact (Ya2 (by rfl) T.Jaq (So (Jmv Jn2 (pv 0) Sw (λ_ _=>rfl)) Ss))
    case O7=>exact (Jrm rfl (Jmy (Jmr (i:=4) Sbl.nd rfl (ye rfl)) (Jmy (Jmr (i:=5) Sbl.nd rfl (ye rfl)) Jol)))
    case O8=>
    refine' Jmk ?O9
    case O9=>exact (Jqa (Jn0 Jnp (Jmv Jnc (pv 3) (pv 4) (λ_ _=>rfl)) (Jmq (Jp0 rfl) (by rfl) T.Jaw Jr9 (So (Jn0 Jo9 (Jmv Jn2 (pv 5) Sw (λ_ _=>rfl)) (Jmv Jnc (pv 3) (pv 4) (λ_ _=>rfl))) (So (Jmq (Jp8 rfl) (by rfl) T.Jav Jsd (So Sw (So (Jn0 Jo9 (Jmn T.Ja0 Sfd hr (by decide) (So (pv 0) (So (pv 1) Ss))) (Jmq (Jqg rfl) (by rfl) T.Jb0 Jtm (So (pv 3) Ss))) Ss))) Ss)))) (Ju3 (pv 3) (pv 4) Jpx))
   case O3=>
   refine' Jmk ?Oa
   case Oa=>exact (Jms (Jn3 Jn5 (by rfl) T.Jb1 Jnk (So (pv 3) Ss)))
  obtain ⟨t,lb,lt,bs,ts,rfl,ht,hb,btl,htt,ttl,nb,nt⟩:=id rt
  have blen:=btl.len
  have hn:=rg.n
  have fl:=Yao rg hw
  have rb0:RnB R (zsN R.Bs.length):=λi m B hm hB=>by
   have:=(rg.Bs B (yy hB)).1.rn
   have:=Ydv hm
   omega
  refine ⟨_,rfl,r,_,rfl,.inr (SqT.of hr0),λF hF=>?_⟩
  have s1:=Sn.upd (o:=.lst ((zsN R.Bs.length).map V.int)) hF
  refine ⟨_,rfl,t,_,2,_,rfl,rfl,SqT.of (s1 _ _ ht),rfl,?_⟩
  refine ⟨lb,rfl,⟨_,Sy.of (s1 _ _ hb)⟩,?_⟩
  refine Ydz (xs:=bs) (λi σ H'=>∃(o1 o2:Option V) (ms:List Int),σ= [some (.ref t),some (.int wet),some (.ref r),some (.ref F),o1,o2]/\H' F=some (.lst (ms.map V.int))/\ms=upG R wet (zsN R.Bs.length) i/\ms.length=R.Bs.length/\RnB R ms/\(0<=ms.sum/\ms.sum<=wet)/\(Jo0 R wet<=ms.sum\/∀j,j < i->∀B,R.Bs[j]?=some B->ms[j]?=some B.rn)/\Sn H H') ?_ ?_ ?_ ?_
  ·exact ⟨_,_,_,rfl,Sv,rfl,by simp [zsN],rb0,by rw [Ydw];omega,.inr λj hj=>absurd hj (Nat.not_lt_zero j),s1⟩
  ·rintro i σ H' _ ⟨_,_,_,_,_,_,_,_,_,_,sm⟩
   exact Sy.of (sm _ _ hb)
  ·rintro i x σ H' Ta hx ⟨o1,o2,ms,rfl,hFs,up,ln,rb,sw,dj,sm⟩ hT
   obtain ⟨B,eB,tb,g,rfl,htb,gt⟩:=btl.get hx
   have bg:=(rg.Bs B (yy eB)).1
   have sT:=Sn.upd (o:=.tup [.int i,.ref tb]) hT
   have hi:i < R.Bs.length:=(yo.mp eB).1
   have hi':i < ms.length:=by omega
   have htb':=sT _ _ (sm _ _ htb)
   have hFT:=sT _ _ hFs
   have hat:atI (ms.map V.int) (i:Int)=some (.int ms[i]):=Jpf hi'
   have b6:=rb i ms[i] B (yh hi') eB
   have q6:=rb.row6 rg ln
   refine ⟨Ta,_,rfl,SqT.of Sv,rfl,_,_,rfl,_,_,rfl,rfl,?_⟩
   refine ⟨_,rfl,_,rfl,F,_,_,_,rfl,rfl,Sy.of hFT,hat,?_⟩
   refine ⟨_,rfl,tb,_,4,_,rfl,rfl,SqT.of htb',rfl,_,rfl,_,rfl,F,_,_,_,rfl,rfl,Sy.of hFT,hat,_,_,rfl,rfl,?_⟩
   refine ⟨_,rfl,_,rfl,p,_,R,wet,rfl,rt.same rg (sm.trans sT),rg,λH2 s2=>?_⟩
   refine ⟨_,rfl,F,ms,rfl,.inl (Sy.of (s2 _ _ hFT)),q6.sml hn.2,_,_,rfl,rfl,_,_,rfl,_,_,rfl,_,_,rfl,rfl,?_⟩
   have s3:=sm.trans (sT.trans s2)
   have hF2:=s2 _ _ hFT
   have hix:ixN (ms.map V.int).length (i:Int)=some i:=by
    unfold ixN
    rw [if_pos (by omega),if_pos (by rw [yf];omega)]
    rfl
   refine ⟨_,rfl,_,rfl,F,_,_,i,rfl,rfl,hF2,hix,?_⟩
   generalize ev:(if (if Jo0 R wet - ms.sum > 0 then Jo0 R wet - ms.sum else 0) < B.rn - ms[i] then if Jo0 R wet - ms.sum > 0 then Jo0 R wet - ms.sum else 0 else B.rn - ms[i])=v
   have ev':mn (B.rn - ms[i]) (Ski R wet ms)=v:=ev
   have ss:=Ya4 (ms:=ms) (i:=i) (v:=ms[i]+v) hi'
   have hv:0<=v/\ms[i]+v<=B.rn/\(v=0\/ms.sum+v<=Jo0 R wet)/\(Jo0 R wet<=ms.sum+v\/ms[i]+v=B.rn):=by
    rw [<-ev]
    split <;> split <;> omega
   have get_set:∀(j:Nat),(ms.set i (ms[i]+v))[j]?=if i=j then some (ms[i]+v) else ms[j]?:=λj=>by
    rw [List.getElem?_set]
    by_cases e:i=j
    ·subst e
     rw [if_pos rfl,if_pos rfl,if_pos hi']
    ·rw [if_neg e,if_neg e]
   refine ⟨_,_,ms.set i (ms[i]+v),rfl,by rw [Sv,List.map_set],?_,by rw [List.length_set];exact ln,λj m B' hm hB'=>?_,by rw [ss];omega,?_,λb o e=>?_⟩
   ·rw [upG,<-up,Yek eB]
    have e0:ms.getD i 0=ms[i]:=by simp [ybo,hi']
    rw [e0,ev']
   ·rw [get_set] at hm
    split at hm
    ·rename_i e
     subst e
     rw [eB] at hB'
     cases hB'
     cases hm
     exact ⟨by omega,hv.2.1⟩
    ·exact rb j m B' hm hB'
   ·rw [ss]
    rcases hv.2.2.2 with h|h
    ·exact .inl (by omega)
    ·by_cases nf:Jo0 R wet<=ms.sum
     ·exact .inl (by omega)
     ·refine .inr λj hj B' hB'=>?_
      rw [get_set]
      split
      ·rename_i e
       subst e
       rw [eB] at hB'
       cases hB'
       rw [h]
      ·rename_i e
       rcases dj with d|d
       ·exact absurd d nf
       ·exact d j (by omega) B' hB'
   ·rw [Jmm (Jmo e hF)]
    exact s3 _ _ e
  ·rintro σ H1 ⟨o1,o2,ms,rfl,hFs,up,ln,rb,sw,dj,sm⟩
   have em:ms=rzG R wet:=by
    unfold rzG
    rw [up,blen]
   have fin:Jo0 R wet<=ms.sum:=by
    rcases dj with d|d
    ·exact d
    ·have e:ms=R.Bs.map (·.rn):=by
      refine List.ext_getElem? λj=>?_
      by_cases hj:j < R.Bs.length
      ·rw [d j (by omega) R.Bs[j] (yh hj),yj,yh hj]
       rfl
      ·rw [List.getElem?_eq_none (by omega),List.getElem?_eq_none (by rw [yf];omega)]
     rw [e]
     exact fl.2
   exact ⟨_,rfl,F,_,rfl,.inl ⟨Sy.of hFs,λu hu=>k u _ (sm.trans (Sn.upd hu)) (by rw [<-em];exact Sv) (by rw [<-em];exact ⟨ln,rb,sw.2,fin⟩)⟩⟩
def LL (H H':Hp):Prop:=∀b o,H b=some o->H' b=some o\/((∃xs,o= .lst xs)/\∃ys,H' b=some (.lst ys))
theorem LL.but {p:S5} {H H':Hp} (st:Sbb H p) (b:But p H H'):LL H H':=λc o e=>by
 by_cases z:c=p
 ·subst z
  obtain ⟨x,y,w',q⟩:=st
  obtain ⟨x',y',w'',q'⟩:=b.2
  rw [q] at e
  exact .inr ⟨⟨_,(yw.inj e).symm⟩,_,q'⟩
 ·exact .inl (b.1 c o z e)
theorem LL.upd {H:Hp} {l:S5} {xs ys:List V} (h:H l=some (.lst xs)):LL H (upd H l (.lst ys)):=λc o e=>by
 by_cases z:c=l
 ·subst z
  rw [h] at e
  exact .inr ⟨⟨_,(yw.inj e).symm⟩,ys,Sv⟩
 ·exact .inl (by rw [Jmm z];exact e)
theorem LL.get {H H':Hp} (s:LL H H') {b:S5} {o:HO} (n:∀xs,o≠ .lst xs) (e:H b=some o):H' b=some o:=by
 rcases s b o e with h|⟨⟨xs,w'⟩,_⟩
 ·exact h
 ·exact absurd w' (n xs)
theorem Ydi {H H':Hp} {x:V} {t:S6} (s:LL H H') (h:TyX K H x t):TyX K H' x t:=by
 cases h with
 |exc q qd c=>exact .exc (s.get (by intro _ z;cases z) q) (s.get (by intro _ z;cases z) qd) c
 |of ty=>
  refine .of ?_
  cases ty with
  |non=>exact .non
  |bl b=>exact .bl b
  |int i=>exact .int i
  |str z=>exact .str z
  |flt z=>exact .flt z
  |lst e=>
   rcases s _ _ e with h|⟨_,ys,h⟩
   ·exact .lst h
   ·exact .lst h
  |frz e=>exact .frz (s.get (by intro _ z;cases z) e)
  |tup e=>exact .tup (s.get (by intro _ z;cases z) e)
  |dK e=>exact .dK (s.get (by intro _ z;cases z) e)
  |dT e=>exact .dT (s.get (by intro _ z;cases z) e)
  |ins e a b c d f=>exact .ins (s.get (by intro _ z;cases z) e) a b c d f
theorem Skt {H H':Hp} {x:V} (s:LL H H') (h:Tm K H x):Tm K H' x:=by
 rcases h with h|⟨t,ty,e⟩
 ·exact .inl h
 ·exact .inr ⟨t,Ydi s ty,e⟩
theorem Ybm {xs:List V} {r:Int} (h0:0<=r) (h1:r < xs.length):∃v,v∈xs/\atI xs r=some v:=by
 obtain ⟨n,rfl⟩:=ybg h0
 have hn:n < xs.length:=by omega
 exact ⟨xs[n],yba hn,Jpc (yh hn)⟩
theorem Jry {p:S5} {H H':Hp} (st:Sbb H p) (b:But p H H') {c:S5} {o:HO} (g:H c=some o) (n:∀x y z:Int,o≠ .lst [.int x,.int y,.int z]):H' c=some o:=b.1 _ _ (Jq2 st g n) g
theorem Yy {H:Hp} {p:S5} {vs:List V} (h:H p=some (.tup vs)) (n:∀v∈vs,Jx2 v):Own H (.ref p):=.inr ⟨p,rfl,.inl ⟨vs,.inr h,n⟩⟩
theorem Juz {H:Hp} {p:S5} {vs:List V} (h:H p=some (.lst vs)) (n:∀v∈vs,Jx2 v):Own H (.ref p):=.inr ⟨p,rfl,.inl ⟨vs,.inl h,n⟩⟩
theorem GS.ll {K:Si} {a:Ad} {H H':Hp} {x:V} {n:Nat} (s:LL H H') (h:GS K a H x n):GS K a H' x n:=by
 cases h with
 |plain i g l=>
  obtain ⟨dx,t,h1,h2⟩:=g
  exact .plain i ⟨dx,t,s.get (by intro _ z;cases z) h1,s.get (by intro _ z;cases z) h2⟩ l
 |stuck e=>exact .stuck (s.get (by intro _ z;cases z) e)
theorem Sbv.ll {K:Si} {a:Ad} {H H':Hp} {b:S5} {B:Bsn} (s:LL H H') (h:Sbv K a H b B):Sbv K a H' b B:=by
 obtain ⟨dx,h1,h2⟩:=h
 exact ⟨dx,s.get (by intro _ z;cases z) h1,h2.ll s⟩
theorem Sbr.ll {a:Ad} {H H':Hp} {b:S5} {B:Twn} (s:LL H H') (h:Sbr a H b B):Sbr a H' b B:=by
 obtain ⟨dx,h1⟩:=h
 exact ⟨dx,s.get (by intro _ z;cases z) h1⟩
theorem Saz.ll {K:Si} {a:Ad} {H H':Hp} {o:S5} {R:Riv} (s:LL H H') (h:Saz K a H o R):Saz K a H' o R:=by
 obtain ⟨dx,b,t,os,ts,h1,h2,h3,h4,h5,h6⟩:=h
 exact ⟨dx,b,t,os,ts,s.get (by intro _ z;cases z) h1,s.get (by intro _ z;cases z) h2,h3.map λ_ _ h=>h.ll s,s.get (by intro _ z;cases z) h4,h5.map λ_ _ h=>h.ll s,h6⟩
theorem Sdb.ll {K:Si} {H H':Hp} {x:V} (s:LL H H'):∀{r:Option (List V)},Sdb K H x r->Sdb K H' x r
 |some _,⟨p,e,h1,h2,h3⟩=>⟨p,e,s.get (by intro _ z;cases z) h1,λv hv=>Skt s (h2 v hv),h3⟩
 |none,⟨t,h1,h2⟩=>⟨t,Ydi s h1,h2⟩
theorem PrT.ll {K:Si} {H H':Hp} {x:V} (s:LL H H'):∀{r:Pr},PrT K H x r->PrT K H' x r
 | .no,⟨t,h1,h2⟩=>⟨t,Ydi s h1,h2⟩
 | .oth _,⟨p,e,h1,h2⟩=>⟨p,e,s.get (by intro _ z;cases z) h1,h2⟩
 | .two _ _ _,⟨p,e,h1,h2,h3⟩=>⟨p,e,s.get (by intro _ z;cases z) h1,h2.ll s,Skt s h3⟩
theorem Own.but {p:S5} {H H':Hp} {x:V} (st:Sbb H p) (b:But p H H') (h:Own H x):Own H' x:=by
 rcases h with h|⟨c,rfl,⟨vs,h|h,hv⟩|h|⟨k,v,h⟩⟩
 ·exact .inl h
 ·by_cases z:c=p
  ·subst z
   obtain ⟨x,y,z,q⟩:=b.2
   refine .inr ⟨c,rfl,.inl ⟨_,.inl q,λv hv=>?_⟩⟩
   simp only [yk,yp,or_false] at hv
   rcases hv with rfl|rfl|rfl <;> exact .inl rfl
  ·exact .inr ⟨c,rfl,.inl ⟨vs,.inl (b.1 _ _ z h),hv⟩⟩
 ·exact .inr ⟨c,rfl,.inl ⟨vs,.inr (Jry st b h (by intro _ _ _ z;cases z)),hv⟩⟩
 ·exact .inr ⟨c,rfl,.inr (.inl (Jry st b h (by intro _ _ _ z;cases z)))⟩
 ·exact .inr ⟨c,rfl,.inr (.inr ⟨k,v,Jry st b h (by intro _ _ _ z;cases z)⟩)⟩
theorem Own.same {H H':Hp} {x:V} (s:Sn H H') (h:Own H x):Own H' x:=by
 rcases h with h|⟨c,rfl,⟨vs,h|h,hv⟩|h|⟨k,v,h⟩⟩
 ·exact .inl h
 ·exact .inr ⟨c,rfl,.inl ⟨vs,.inl (s _ _ h),hv⟩⟩
 ·exact .inr ⟨c,rfl,.inl ⟨vs,.inr (s _ _ h),hv⟩⟩
 ·exact .inr ⟨c,rfl,.inr (.inl (s _ _ h))⟩
 ·exact .inr ⟨c,rfl,.inr (.inr ⟨k,v,s _ _ h⟩)⟩
theorem Jrb {α:Type} {R:Jn1} {S:Riv} (h:Jqe R S) (f:Str×Int×Int×Int×Int×Nat->α):S.Bs.map (λB=>f (Jsb B))=R.Bs.map (λB=>f (Jw4 B)):=by
 have e1:S.Bs.map (λB=>f (Jsb B))=(S.Bs.map Jsb).map f:=by rw [ybb];rfl
 have e2:R.Bs.map (λB=>f (Jw4 B))=(R.Bs.map Jw4).map f:=by rw [ybb];rfl
 rw [e1,e2,h.Bs]
theorem Jod {R:Jn1} {S:Riv} (h:Jqe R S):S.Bs.length=R.Bs.length:=by
 have:=congrArg List.length h.Bs
 simpa using this
theorem Jqj {R:Jn1} {S:Riv} (h:Jqe R S):S.Ts.length=R.Ts.length:=by
 have:=congrArg List.length h.Ts
 simpa using this
inductive Yes (vs:List V) (H:Hp) (Q:VK) (z3:XK):Prop where
 |mk (p:S5) (x:V) (G:Jnd) (s lv:Int) (_:vs= [x,.int s,.int lv]) (_:Sd6 p H x G) (_:Sbh G) (_:(0<=s/\s < (nOf G:Int))) (_:(0<=lv/\lv<=1000)) (_:∀H',Sn H H'->Q (.int (lvG G s lv)) H')
inductive Yeu (vs:List V) (H:Hp) (Q:VK) (z3:XK):Prop where
 |mk (p:S5) (td:V) (R:Jn1) (S:Riv) (L:S5) (ls:List Int) (tv:V) (_:vs= [td,.ref L,tv]) (_:Sci p H td R) (_:Jor R) (_:Jqe R S) (_:H L=some (.lst (ls.map V.int))) (_:ls.length=R.Bs.length) (_:Slt R tv) (_:∀H',Sn H H'->Q (.bl (decide (drw S ls tv > 0))) H')
theorem Sbn:Jmp ["_law_gate_here","_law_setting","_law_level","_law_kind_here","_law_marks","_law_stuck","_law_mark"] ["_law_gate_here","_law_setting","_law_level"] (Jml (top 83)):=⟨rfl,rfl,rfl,by decide +kernel,rfl,by decide +kernel,by decide +kernel⟩
theorem Jyr (T:Tx K mg a):Sx P w K mg base CX0 1 a.Jky a.Jkz ["_law_gate_here","_law_setting","_law_level"] Yes:=by
 refine T.Ja2.fn.ok Sbn (λvs H Q E h=>?_) (λcdv A outer s H vs Q E hr h=>?_)
 ·obtain ⟨p,x,G,s,lv,rfl,_⟩:=h
  rfl
 ·obtain ⟨p,x,G,s,lv,rfl,⟨t,m,rfl,ht,hm,_⟩,gg,hs,hl,k⟩:=h
  refine ⟨?t,?B,?C⟩
  case B=>
   refine' Jmi ?O0 ?O1
   case O0=>exact (Jqa (pv 0) (Jrm rfl (Jmy (Jmr (i:=3) Sbn.nd rfl (ye rfl)) (Jmy (Jmr (i:=4) Sbn.nd rfl (ye rfl)) (Jmy (Jmr (i:=5) Sbn.nd rfl (ye rfl)) Jol)))))
   case O1=>
   refine' Jmi ?O2 ?O3
   case O2=>exact (Jmt (i:=6) Sbn.nd rfl (ye rfl) (Jmv Jnc (pv 4) (Jmv Jnc (Jnt (So (pv 1) (So (pv 5) Ss))) (Jn3 Jqf (by rfl) T.Jar Jsc (So (Jo1 Yx (pv 5) Joa (Jn4 _)) Ss)) (λ_ _=>rfl)) (λ_ _=>rfl)))
   case O3=>
   refine' Jmi ?O4 ?O5
   case O4=>
    refine' Jn6 ?O6 ?O7 ?O8
    case O6=>exact (Jna Joe (pv 3) Joo (Jn4 _))
    case O7=>
     refine' Jmk ?O9
     case O9=>exact (Jms (Jmq (Jp0 rfl) (by rfl) T.Jaw Jr9 (So (pv 6) (So (pv 2) Ss))))
    case O8=>exact Jmu
   case O5=>
   refine' Jmi ?Oa ?Ob
   case Oa=>
    refine' Jn6 ?Oc ?Od ?Oe
    case Oc=>exact (Jna Joe (pv 3) Joo (Jn4 _))
    case Od=>
     refine' Jmk ?Of
     case Of=>exact (Jms (Jmq (Jp8 rfl) (by rfl) T.Jav Jsd (So Sw (So (Jn0 Jo9 (pv 2) (pv 6)) Ss))))
    case Oe=>exact Jmu
   case Ob=>
   refine' Jmk ?Og
   case Og=>exact (Jms (Jn0 Jt0 (pv 2) (pv 6)))
  refine ⟨_,rfl,t,_,rfl,SqT.of ht,rfl,_,_,rfl,_,_,rfl,_,_,rfl,rfl,?_⟩
  have hk:=gg.kd
  have mk:=gg.marks
  obtain ⟨j,hj,ej⟩:∃j:Int,(0<=j/\j < G.ns.length)/\atI [V.int s,svV G.sv] (if (!decide (svV G.sv=V.non))=true then 1 else 0)=some (.int j)/\lvG G s lv=Jrk G.kd (G.ns.getD j.toNat 0) lv:=by
   unfold lvG
   unfold nOf at hs
   cases e:G.sv with
   |none=>
    rw [e] at hs
    exact ⟨s,hs,rfl,rfl⟩
   |some j=>exact ⟨j,gg.sv j e,rfl,rfl⟩
  obtain ⟨hat,hin⟩:=Juy hj
  have hb:=mk _ hin
  rw [ej.2] at k
  refine ⟨_,rfl,_,rfl,_,rfl,(show 2<=Sa by decide),λD hD=>⟨_,rfl,rfl,.inr ⟨_,rfl,D,_,_,_,rfl,rfl,Sy.of Sv,ej.1,m,_,_,_,rfl,rfl,Sy.of (Sn.upd hD _ _ hm),hat,?_⟩⟩⟩
  have k1:=k _ (Sn.upd (o:=.lst [.int s,svV G.sv]) hD)
  rcases hk with q|q|q
  ·rw [q] at k1
   refine ⟨_,rfl,rfl,_,rfl,Jyk (by rw [q]) ⟨_,rfl,_,rfl,_,_,rfl,?_⟩⟩
   unfold Jrk at k1
   rw [if_pos rfl] at k1
   exact k1
  ·rw [q] at k1
   refine ⟨_,rfl,rfl,_,rfl,Jwa (by rw [q];exact Ybc Jug) ⟨_,rfl,rfl,_,rfl,Jyk (by rw [q]) ⟨_,rfl,_,rfl,_,_,rfl,rfl,_,_,rfl,?_⟩⟩⟩
   unfold Jrk at k1
   rw [if_neg Jug,if_pos rfl] at k1
   have e:(if lv - G.ns.getD j.toNat 0 > 0 then lv - G.ns.getD j.toNat 0 else 0)=(if 0 > lv - G.ns.getD j.toNat 0 then 0 else lv - G.ns.getD j.toNat 0):=by
    split <;> split <;> omega
   rw [<-e] at k1
   exact k1
  ·rw [q] at k1 hb
   have lo:Jpj "part" =1:=if_pos rfl
   rw [lo] at hb
   refine ⟨_,rfl,rfl,_,rfl,Jwa (by rw [q];exact Ybc Jui) ⟨_,rfl,rfl,_,rfl,Jwa (by rw [q];exact Ybc Juh) ⟨_,rfl,_,rfl,_,_,rfl,rfl,⟨by omega,Jsx (by omega)⟩,?_⟩⟩⟩
   unfold Jrk at k1
   rw [if_neg Jui,if_neg Juh] at k1
   exact k1
theorem Sc7:Jmp ["_law_told_here","_law_levels","_law_town","_law_name","_law_basin_here","_law_want"] ["_law_told_here","_law_levels","_law_town"] (Jml (top 84)):=⟨rfl,rfl,rfl,by decide +kernel,rfl,by decide +kernel,by decide +kernel⟩
theorem Jyt (T:Tx K mg a):Sx P w K mg base CX0 1 a.Jl0 a.Jl1 ["_law_told_here","_law_levels","_law_town"] Yeu:=by
 refine T.Ja3.fn.ok Sc7 (λvs H Q E h=>?_) (λcdv A outer s H vs Q E hr h=>?_)
 ·obtain ⟨p,td,R,S,L,ls,tv,rfl,_⟩:=h
  rfl
 ·obtain ⟨p,td,R,S,L,ls,tv,rfl,rt,rg,lk,hL,ln,tw,k⟩:=h
  refine ⟨?t,?B,?C⟩
  case B=>
   refine' Jmi ?O0 ?O1
   case O0=>
    refine' Jn6 ?O2 ?O3 ?O4
    case O2=>exact (Jna Ju0 (pv 2) Joa (Jn4 _))
    case O3=>
     refine' Jmk ?O5
     case O5=>exact (Jms Joi)
    case O4=>exact Jmu
   case O1=>
   refine' Jmi ?O6 ?O7
   case O6=>exact (Jqa (Jmv Jnc (Jmv Jn2 (pv 0) Sw (λ_ _=>rfl)) (pv 2) (λ_ _=>rfl)) (Jrm rfl (Jmy (Jmr (i:=3) Sc7.nd rfl (ye rfl)) (Jmy (Jmr (i:=4) Sc7.nd rfl (ye rfl)) (Jmy (Jmr (i:=5) Sc7.nd rfl (ye rfl)) Jol)))))
   case O7=>
   refine' Jmk ?O8
   case O8=>exact (Jms (Jo1 Skl (Jmv Jnc (pv 1) (Jrl F.plainAttrs_list F.slot_list_index F.type_list_index Jym (Jng (N:=(["_law_one"]:List Str)) (ini:=[none]) rfl (Jo2 (Jmv Jn2 (pv 0) Sw (λ_ _=>rfl))) (λ_ _ _ _ _=>(Jmr (i:=0) (by decide +kernel:(["_law_one"]:List Str).Nodup) rfl (ye rfl))) (λ_ _ _ _ _=>Jnf) (λ_ _ _ _ _=>(Jmv (Jpg (K:=K) rfl) (pv 0) Sw (λ_ _=>rfl)))) (So (pv 4) Ss)) (λ_ _=>rfl)) (pv 5) (Jn4 _)))
  obtain ⟨t,lb,lt,bs,ts,rfl,ht,hb,btl,htt,ttl,nb,nt⟩:=id rt
  have blen:=btl.len
  have tlen:=ttl.len
  have hn:=rg.n
  rcases tw with rfl|⟨j,rfl,j0,j1⟩
  ·refine ⟨_,rfl,rfl,_,rfl,Jyk rfl ?_⟩
   have k1:=k _ (Sn.refl H)
   exact k1
  ·obtain ⟨i,rfl⟩:=ybg j0
   have hi:i < R.Ts.length:=by omega
   have hit:i < ts.length:=by omega
   obtain ⟨C,eC,tc,ec,htc⟩:=ttl.get (i:=i) (x:=ts[i]) (yh hit)
   have hat:atI ts (i:Int)=some (.ref tc):=Jpc (by rw [yh hit,ec])
   have hC:=rg.Ts C (yy eC)
   refine ⟨_,rfl,rfl,_,rfl,Jwa (λz=>by cases z) ?_⟩
   refine ⟨_,rfl,t,_,3,_,rfl,rfl,SqT.of ht,rfl,_,rfl,lt,_,_,_,rfl,rfl,Sy.of htt,hat,tc,_,rfl,SqT.of htc,rfl,_,_,rfl,_,_,rfl,_,_,rfl,rfl,?_⟩
   refine ⟨_,rfl,_,rfl,t,_,2,_,rfl,rfl,SqT.of ht,rfl,lb,rfl,⟨_,Sy.of hb⟩,λD hD=>?_⟩
   refine Jow ((R.Bs.map (·.z)).map V.str) hD (by simp [blen]) (by omega) hb ?_ ?_
   ·intro i x y H' Q' hx hy sm k'
    obtain ⟨B,eB,tb,g,rfl,htb,gt⟩:=btl.get hx
    rw [yj,yj,eB] at hy
    cases hy
    exact ⟨_,rfl,tb,_,0,_,rfl,rfl,SqT.of (sm _ _ htb),rfl,k' _ λ_ _ h=>h⟩
   intro H1 s1 hD1
   have hz:S.Bs.map (·.z)=R.Bs.map (·.z):=Jrb lk (·.1)
   have pl:plc S C.b < ls.length:=by
    have:=Jxv (S:=S) (z:=C.b) (by rw [hz];exact hC.2.2.1)
    rw [Jod lk] at this
    omega
   have ep:((R.Bs.map (·.z)).idxOf C.b:Nat)=plc S C.b:=by unfold plc;rw [hz]
   refine ⟨.inl ⟨rfl,_,Sy.of hD1⟩,_,rfl,D,_,C.b,rfl,rfl,hD1,hC.2.2.1,?_⟩
   rw [ep]
   refine ⟨L,_,_,_,rfl,rfl,Sy.of (s1 _ _ hL),Jrz pl,_,rfl,_,_,rfl,rfl,?_⟩
   have k1:=k _ s1
   have ed:decide (drw S ls (.int (i:Int)) > 0)=decide (C.wt<=ls.getD (plc S C.b) 0):=by
    have eT:(S.Ts.map (λB=>(B.z,B.b,B.wt)))[i]?=some (C.z,C.b,C.wt):=by rw [lk.Ts,yj,eC];rfl
    rw [yj] at eT
    obtain ⟨W,hW,eW⟩:=yak.mp eT
    have e1:W.b=C.b:=congrArg (·.2.1) eW
    have e2:W.wt=C.wt:=congrArg (·.2.2) eW
    have e3:drw S ls (.int (i:Int))=if ls.getD (plc S C.b) 0≥C.wt then C.wt else 0:=by
     show (match S.Ts[(i:Int).toNat]? with|some T=>_|none=>_)=_
     rw [ybc,hW]
     show (if ls.getD (plc S W.b) 0≥W.wt then W.wt else 0)=_
     rw [e1,e2]
    rw [e3]
    by_cases q:C.wt<=ls.getD (plc S C.b) 0
    ·rw [if_pos q,decide_eq_true q,decide_eq_true (by omega)]
    ·rw [if_neg q,decide_eq_false q]
     rfl
   rw [ed] at k1
   exact k1
def Soz (H:Hp) (y:V) (S:Riv) (Gs:List Jnd) (ls cs:List Int) (wt:Int) (tv:V) (rn:List Int):Prop:=∃t u1 u2 u3:S5,y= .ref t/\H t=some (.tup [.ref u1,.int (Jtf S wt rn),.ref u2,.int (drw S ls tv),.bl (decide (drw S ls tv > 0)),.ref u3])/\H u1=some (.tup ((Jr3 S Gs ls cs tv rn).map V.int))/\H u2=some (.tup ((Jpw S Gs ls cs tv).map V.int))/\H u3=some (.tup ((Jos 0 S.Bs (Jr3 S Gs ls cs tv rn)).map V.int))
structure Sij (p:S5) (H:Hp) (td:V) (R:Jn1) (S:Riv) (x c:V) (ls cs:List Int) (wt:Int) (tv:V) (ra:S5) (rn:List Int):Prop where
 rt:Sci p H td R
 rg:Jor R
 lk:Jqe R S
 st:StA H x S ls wt
 ch:ChA H c S cs tv
 hr:H ra=some (.tup (rn.map V.int))
 rl:rn.length=S.Bs.length
 sm:Sml rn
 so:Sbj (R.Bs.map (·.G)) cs (lft S ls tv)
theorem Sij.same {p:S5} {H H':Hp} {td:V} {R:Jn1} {S:Riv} {x c:V} {ls cs:List Int} {wt:Int} {tv:V} {ra:S5} {rn:List Int} (s:Sn H H') (h:Sij p H td R S x c ls cs wt tv ra rn):Sij p H' td R S x c ls cs wt tv ra rn:=⟨h.rt.same h.rg s,h.rg,h.lk,h.st.same s,h.ch.same s,s _ _ h.hr,h.rl,h.sm,h.so⟩
inductive Yb8 (vs:List V) (H:Hp) (Q:VK) (z3:XK):Prop where
 |mk (p:S5) (td:V) (R:Jn1) (S:Riv) (x c:V) (ls cs:List Int) (wt:Int) (tv:V) (ra:S5) (rn:List Int) (_:vs= [td,x,c,.ref ra]) (_:Sij p H td R S x c ls cs wt tv ra rn) (_:∀y H',Sn H H'->Soz H' y S (R.Bs.map (·.G)) ls cs wt tv rn->Q y H')
theorem Shj.told {R:Jn1} {S:Riv} {tv:V} (lk:Jqe R S) (h:Shj S tv):Slt R tv:=by
 rcases h with h|⟨j,h,j0,j1⟩
 ·exact .inl h
 ·exact .inr ⟨j,h,j0,by rw [<-Jqj lk];exact j1⟩
theorem Jqc {α:Type}:∀{a b:List α} {i:Nat} {v:α},a.length=b.length->a[i]?=some v->(a.take i++b.drop i).set i v=a.take (i+1)++b.drop (i+1)
 |x::a,y::b,0,v,_,h=>by
  cases h
  rfl
 |x::a,y::b,i+1,v,e,h=>by
  have ih:=Jqc (a:=a) (b:=b) (i:=i) (v:=v) (by simpa using e) (by simpa using h)
  show x::(a.take i++b.drop i).set i v=x::(a.take (i+1)++b.drop (i+1))
  rw [ih]
 | [],_,_,_,_,h=>by simp at h
 |_::_,[],_,_,e,_=>by simp at e
theorem Jtc {α:Type}:∀{a b:List α} {i:Nat},a.length=b.length->(a.take i++b.drop i)[i]?=b[i]?
 | [],[],_,_=>by simp
 |x::a,y::b,0,_=>rfl
 |x::a,y::b,i+1,e=>by
  have ih:=Jtc (a:=a) (b:=b) (i:=i) (by simpa using e)
  show (x::(a.take i++b.drop i))[i+1]?=(y::b)[i+1]?
  simpa using ih
 | [],_::_,_,e=>by simp at e
 |_::_,[],_,e=>by simp at e
theorem Snr {R:Jn1} {S:Riv} (lk:Jqe R S) (rg:Jor R):TIn S:=λT hT=>by
 have hz:S.Bs.map (·.z)=R.Bs.map (·.z):=Jrb lk (·.1)
 have:(T.z,T.b,T.wt)∈R.Ts.map (λB=>(B.z,B.b,B.wt)):=by rw [<-lk.Ts];exact ybl (f:=λB:Twn=>(B.z,B.b,B.wt)) hT
 obtain ⟨C,hC,e⟩:=yaj.mp this
 have q:=rg.Ts C hC
 have e2:C.b=T.b:=congrArg (·.2.1) e
 have e3:C.wt=T.wt:=congrArg (·.2.2) e
 rw [hz,<-e2,<-e3]
 exact ⟨q.2.2.1,q.2.2.2.1,q.2.2.2.2⟩
theorem Sa5:Jmp ["_law_told_here","_law_standing_here","_law_choice_here","_law_rain_here","_law_levels","_law_paid","_law_drawn","_law_name","_law_basin_here","_law_place","_law_outs","_law_k","_law_broken","_law_wet"] ["_law_told_here","_law_standing_here","_law_choice_here","_law_rain_here"] (Jml (top 85)):=⟨rfl,rfl,rfl,by decide +kernel,rfl,by decide +kernel,by decide +kernel⟩
theorem Jwi (T:Tx K mg a):Sx P w K mg base CX0 2 a.Jl2 a.Jl3 ["_law_told_here","_law_standing_here","_law_choice_here","_law_rain_here"] Yb8:=by
 have Sgg:=Jyt (P:=P) (w:=w) (base:=base) T
 have Sge:=Jyr (P:=P) (w:=w) (base:=base) T
 refine T.Ja4.fn.ok Sa5 (λvs H Q E h=>?_) (λcdv A outer s H vs Q E hr h=>?_)
 ·obtain ⟨p,td,R,S,x,c,ls,cs,wt,tv,ra,rn,rfl,_⟩:=h
  rfl
 ·obtain ⟨p,td,R,S,x,c,ls,cs,wt,tv,ra,rn,rfl,li,k⟩:=h
  refine ⟨?t,?B,?C⟩
  case B=>
   refine' Jmi ?O0 ?O1
   case O0=>exact (Jmt (i:=4) Sa5.nd rfl (Or.inr rfl) (Jn3 Jog (by rfl) T.Jau Jpd (So (Jmv Jn2 (pv 1) Sw (λ_ _=>rfl)) Ss)))
   case O1=>
   refine' Jmi ?O2 ?O3
   case O2=>exact (Jmt (i:=5) Sa5.nd rfl (ye rfl) (Jmn T.Ja3 Sgg hr (by decide) (So (pv 0) (So (pv 4) (So (Jmv Jn2 (pv 2) Sw (λ_ _=>rfl)) Ss)))))
   case O3=>
   refine' Jmi ?O4 ?O5
   case O4=>exact (Jmt (i:=6) Sa5.nd rfl (ye rfl) Sw)
   case O5=>
   refine' Jmi ?O6 ?O7
   case O6=>
    refine' Jn6 ?O8 ?O9 ?Oa
    case O8=>exact (Ycn (pv 5) (λ_=>rfl))
    case O9=>
     refine' Jmi ?Ob ?Oc
     case Ob=>exact (Jqa (Jmv Jnc (Jmv Jn2 (pv 0) Sw (λ_ _=>rfl)) (Jmv Jn2 (pv 2) Sw (λ_ _=>rfl)) (λ_ _=>rfl)) (Jrm rfl (Jmy (Jmr (i:=7) Sa5.nd rfl (ye rfl)) (Jmy (Jmr (i:=8) Sa5.nd rfl (ye rfl)) (Jmy (Jmr (i:=6) Sa5.nd rfl (ye rfl)) Jol)))))
     case Oc=>
     refine' Jmi ?Od ?Oe
     case Od=>exact (Jmt (i:=9) Sa5.nd rfl (ye rfl) (Jrl F.plainAttrs_list F.slot_list_index F.type_list_index Jym (Jng (N:=(["_law_one"]:List Str)) (ini:=[none]) rfl (Jo2 (Jmv Jn2 (pv 0) Sw (λ_ _=>rfl))) (λ_ _ _ _ _=>(Jmr (i:=0) (by decide +kernel:(["_law_one"]:List Str).Nodup) rfl (ye rfl))) (λ_ _ _ _ _=>Jnf) (λ_ _ _ _ _=>(Jmv (Jpg (K:=K) rfl) (pv 0) Sw (λ_ _=>rfl)))) (So (pv 8) Ss)))
     case Oe=>
     refine' Jmk ?Of
     case Of=>exact (Jqa (Jn0 Jo9 (Jmv Jnc (pv 4) (pv 9) (λ_ _=>rfl)) (pv 6)) (Ju3 (pv 4) (pv 9) Jpx))
    case Oa=>exact Jmu
   case O7=>
   refine' Jmi ?Og ?Oh
   case Og=>exact (Jxx (i:=10) (N:=(["_law_one","_law_setting","_law_level"]:List Str)) (ini:=[none,none,none]) Sa5.nd rfl (ye rfl) rfl (Jxt false true false (by rfl) T.Jb2 (So (Jmv Jn2 (pv 0) Sw (λ_ _=>rfl)) (So (Jmv Jn2 (pv 2) Sw (λ_ _=>rfl)) (So (pv 4) Ss)))) (λ_ _ _ _ _=>(Jqy (K:=K) (n:=3) rfl rfl (Jmy (Jmr (i:=0) (by decide +kernel:(["_law_one","_law_setting","_law_level"]:List Str).Nodup) rfl (ye rfl)) (Jmy (Jmr (i:=1) (by decide +kernel:(["_law_one","_law_setting","_law_level"]:List Str).Nodup) rfl (ye rfl)) (Jmy (Jmr (i:=2) (by decide +kernel:(["_law_one","_law_setting","_law_level"]:List Str).Nodup) rfl (ye rfl)) Jol))))) (λ_ _ _ _ _=>Jnf) (λ_ _ _ _ _=>(Jmn T.Ja2 Sge hr (by decide) (So (Jmv (Jpg (K:=K) rfl) (pv 0) Sw (λ_ _=>rfl)) (So (pv 1) (So (pv 2) Ss))))))
   case Oh=>
   refine' Jmi ?Oi ?Oj
   case Oi=>
    refine' Jqb ?Ok ?Ol ?Om ?On ?Oo
    case Ok=>exact PassesOwn.never
    case Ol=>exact rfl
    case Om=>exact (Jpb (by rfl) T.Jax (So (Jmq Jn8 (by rfl) T.Jat Jof (So (pv 4) Ss)) Ss))
    case On=>exact (Jmr (i:=11) Sa5.nd rfl (ye rfl))
    case Oo=>
    refine' Jmi ?Op ?Oq
    case Op=>exact (Jqa (Jn0 Jnp (Jn0 Jo9 (Jmv Jnc (pv 4) (pv 11) (λ_ _=>rfl)) (Jmv Jnc (pv 10) (pv 11) (λ_ _=>rfl))) (Jmv Jn2 (pv 3) (pv 11) (λ_ _=>rfl))) (Ju3 (pv 4) (pv 11) Jpx))
    case Oq=>
    refine' Jmk ?Or
    case Or=>
    refine' Jn6 ?Os ?Ot ?Ou
    case Os=>exact (Jna Jvy (pv 11) Sw (Jn4 _))
    case Ot=>
     refine' Jmk ?Ov
     case Ov=>exact (Jqa (Jn0 Jnp (Jmv Jnc (pv 4) (pv 11) (λ_ _=>rfl)) (Jmv Jnc (pv 10) (Jn0 Jo9 (pv 11) Sw) (λ_ _=>rfl))) (Ju3 (pv 4) (pv 11) Jpx))
    case Ou=>exact Jmu
   case Oj=>
   refine' Jmi ?Ow ?Ox
   case Ow=>exact (Jxx (i:=12) (N:=(["_law_k","_law_one","_law_levels"]:List Str)) (ini:=[none,none,some 4]) Sa5.nd rfl (ye rfl) rfl (Ya2 (by rfl) T.Jaq (So (Jmv Jn2 (pv 0) Sw (λ_ _=>rfl)) Ss)) (λ_ _ _ _ _=>(Jqy (K:=K) (n:=2) rfl rfl (Jmy (Jmr (i:=0) (by decide +kernel:(["_law_k","_law_one","_law_levels"]:List Str).Nodup) rfl (ye rfl)) (Jmy (Jmr (i:=1) (by decide +kernel:(["_law_k","_law_one","_law_levels"]:List Str).Nodup) rfl (ye rfl)) Jol)))) (λ_ _ _ _ _=>(Ya3 (PW.pt (Jt6 (Jna Skm (Jmv (Jvl (K:=K) rfl) (pv 2) (pv 0) (λ_ _=>rfl)) (Jmv (Jpg (K:=K) rfl) (pv 1) Sw (λ_ _=>rfl)) (Jn4 _)) (Jrn (Jna Jvy (Jmv (Jvl (K:=K) rfl) (pv 2) (pv 0) (λ_ _=>rfl)) (Jmv (Jpg (K:=K) rfl) (pv 1) Sw (λ_ _=>rfl)) (Jn4 _))))))) (λ_ _ _ _ _=>(pv 0)))
   case Ox=>
   refine' Jmi ?Oy ?Oz
   case Oy=>exact (Jmt (i:=13) Sa5.nd rfl (ye rfl) (Jmq (Jp0 rfl) (by rfl) T.Jaw Jr9 (So (Jmv Jn2 (pv 0) Sw (λ_ _=>rfl)) (So (Jn0 Jnp (Jn0 Jo9 (Jmv Jn2 (pv 1) Sw (λ_ _=>rfl)) (Jmq (Jqg rfl) (by rfl) T.Jb0 Jtm (So (pv 3) Ss))) (Jmv Jn2 (pv 0) Sw (λ_ _=>rfl))) Ss))))
   case Oz=>
   refine' Jmk ?U0
   case U0=>
   refine' Jms ?U1
   case U1=>
   refine' Jnx ?U2
   case U2=>
   refine' pa6 ?U3 ?U4 ?U5 ?U6 ?U7 ?U8
   case U3=>exact (Jn3 Jn5 (by rfl) T.Jb1 Jnk (So (pv 4) Ss))
   case U4=>exact (pv 13)
   case U5=>exact (Jn3 Jn5 (by rfl) T.Jb1 Jnk (So (pv 10) Ss))
   case U6=>exact (pv 6)
   case U7=>exact (pv 5)
   case U8=>exact (Jn3 Jn5 (by rfl) T.Jb1 Jnk (So (pv 12) Ss))
  obtain ⟨y,yu,rfl,hy,hyu,ly⟩:=li.st
  obtain ⟨z,zu,rfl,hz,hzu,lz,tw⟩:=li.ch
  obtain ⟨t,lb,lt,bs,ts,rfl,ht,hb,btl,htt,ttl,nb,nt⟩:=id li.rt
  have rg:=li.rg
  have lk:=li.lk
  have blen:=btl.len
  have tlen:=ttl.len
  have hn:=rg.n
  have sl:=Jod lk
  refine ⟨_,rfl,y,_,0,_,rfl,rfl,SqT.of hy,rfl,yu,_,rfl,.inr (SqT.of hyu),λL hL=>?_⟩
  have s1:=Sn.upd (o:=.lst (ls.map V.int)) hL
  have li1:=li.same s1
  refine ⟨_,rfl,_,rfl,_,rfl,z,_,1,_,rfl,rfl,SqT.of (s1 _ _ hz),rfl,p,_,R,S,L,ls,tv,rfl,li1.rt,rg,lk,Sv,by omega,tw.told lk,λH2 s2=>?_⟩
  have s12:=s1.trans s2
  have hL2:=s2 _ _ (Sv (H:=H) (a:=L) (o:=.lst (ls.map V.int)))
  dsimp only [Jp4]
  refine Jov (λσ H1=>σ= [some (.ref t),some (.ref y),some (.ref z),some (.ref ra),some (.ref L),some (.bl (decide (drw S ls tv > 0))),some (.int 0),none,none,none,none,none,none,none]/\H1=H2) (λR' hR=>hR _ _ ⟨rfl,rfl⟩) ?_
  rintro σ H1' ⟨rfl,rfl⟩
  refine Jov (λσ H1=>∃o7 o8 o9 o10 o11 o12 o13,σ= [some (.ref t),some (.ref y),some (.ref z),some (.ref ra),some (.ref L),some (.bl (decide (drw S ls tv > 0))),some (.int (drw S ls tv)),o7,o8,o9,o10,o11,o12,o13]/\H1 L=some (.lst ((lft S ls tv).map V.int))/\Sn H H1) (λR' hR=>?_) ?_
  ·refine ⟨_,rfl,_,rfl,?_⟩
   by_cases hd:drw S ls tv > 0
   ·refine ifT (decide_eq_true hd) ?_
    obtain ⟨j,rfl,j0,j1⟩:∃j:Int,tv= .int j/\0<=j/\j < S.Ts.length:=by
     rcases tw with rfl|h
     ·exact absurd (show (0:Int) > 0 from hd) (by decide)
     ·exact h
    obtain ⟨i,rfl⟩:=ybg j0
    have tl:=Jqj lk
    have hi:i < R.Ts.length:=by omega
    have hit:i < ts.length:=by omega
    obtain ⟨C,eC,tc,ec,htc⟩:=ttl.get (i:=i) (x:=ts[i]) (yh hit)
    have hat:atI ts (i:Int)=some (.ref tc):=Jpc (by rw [yh hit,ec])
    have hC:=rg.Ts C (yy eC)
    have hzn:S.Bs.map (·.z)=R.Bs.map (·.z):=Jrb lk (·.1)
    have eT:(S.Ts.map (λB=>(B.z,B.b,B.wt)))[i]?=some (C.z,C.b,C.wt):=by rw [lk.Ts,yj,eC];rfl
    rw [yj] at eT
    obtain ⟨W,hW,eW⟩:=yak.mp eT
    have e1:W.b=C.b:=congrArg (·.2.1) eW
    have e2:W.wt=C.wt:=congrArg (·.2.2) eW
    have e3:drw S ls (.int (i:Int))=if ls.getD (plc S C.b) 0≥C.wt then C.wt else 0:=by
     show (match S.Ts[(i:Int).toNat]? with|some T=>_|none=>_)=_
     rw [ybc,hW]
     show (if ls.getD (plc S W.b) 0≥W.wt then W.wt else 0)=_
     rw [e1,e2]
    have e4:drw S ls (.int (i:Int))=C.wt:=by
     rw [e3] at hd⊢
     split at hd
     ·rename_i q
      rw [if_pos q]
     ·exact absurd hd (by decide)
    have e5:Jxu S (.int (i:Int))=plc S C.b:=by
     show (match S.Ts[(i:Int).toNat]? with|some T=>_|none=>_)=_
     rw [ybc,hW]
     show plc S W.b=_
     rw [e1]
    have pl:plc S C.b < ls.length:=by
     have:=Jxv (S:=S) (z:=C.b) (by rw [hzn];exact hC.2.2.1)
     omega
    have ep:((R.Bs.map (·.z)).idxOf C.b:Nat)=plc S C.b:=by unfold plc;rw [hzn]
    refine ⟨_,rfl,t,_,3,_,rfl,rfl,SqT.of (s12 _ _ ht),rfl,_,rfl,z,_,1,_,rfl,rfl,SqT.of (s12 _ _ hz),rfl,lt,_,_,_,rfl,rfl,Sy.of (s12 _ _ htt),hat,tc,_,rfl,SqT.of (s12 _ _ htc),rfl,_,_,rfl,_,_,rfl,_,_,rfl,rfl,?_⟩
    refine ⟨_,rfl,t,_,2,_,rfl,rfl,SqT.of (s12 _ _ ht),rfl,lb,rfl,⟨_,Sy.of (s12 _ _ hb)⟩,λD hD=>?_⟩
    refine Jow ((R.Bs.map (·.z)).map V.str) hD (by simp [blen]) (by omega) (s12 _ _ hb) ?_ ?_
    ·intro i x y H' Q' hx hy sm k'
     obtain ⟨B,eB,tb,g,rfl,htb,gt⟩:=btl.get hx
     rw [yj,yj,eB] at hy
     cases hy
     exact ⟨_,rfl,tb,_,0,_,rfl,rfl,SqT.of (sm _ _ (s12 _ _ htb)),rfl,k' _ λ_ _ h=>h⟩
    intro H3 s3 hD3
    refine ⟨.inl ⟨rfl,_,Sy.of hD3⟩,_,rfl,D,_,C.b,rfl,rfl,hD3,hC.2.2.1,?_⟩
    rw [ep]
    have hL3:=s3 _ _ hL2
    have hix:ixN (ls.map V.int).length ((plc S C.b:Nat):Int)=some (plc S C.b):=by
     unfold ixN
     rw [if_pos (by omega),if_pos (by rw [yf];omega)]
     rfl
    refine ⟨_,rfl,_,rfl,L,_,_,_,rfl,rfl,Sy.of hL3,Jrz pl,_,rfl,_,_,rfl,rfl,_,rfl,_,rfl,L,_,_,_,rfl,rfl,hL3,hix,hR _ _ ⟨some (.str C.z),some (.str C.b),some (.int (plc S C.b)),none,none,none,none,?_,?_,?_⟩⟩
    ·rw [e4]
     rfl
    ·rw [Sv]
     unfold lft
     rw [if_pos hd,e5,e4,List.map_set]
    ·intro b o e
     rw [Jmm (Jmo e hL)]
     exact s3 _ _ (s12 _ _ e)
   ·refine ifF (decide_eq_false hd) (hR _ _ ⟨none,none,none,none,none,none,none,?_,?_,s12⟩)
    ·have:=(Yby (S:=S) (ls:=ls) (tv:=tv) (Snr lk rg)).1
     have e:drw S ls tv=0:=by omega
     rw [e]
    ·have e:lft S ls tv=ls:=if_neg hd
     rw [e]
     exact hL2
  ·rintro σ H3 ⟨o7,o8,o9,o10,o11,o12,o13,rfl,hL3,s3⟩
   have li3:=li.same s3
   have sol:=li.so.len
   have gl:(R.Bs.map (·.G)).length=R.Bs.length:=yf ..
   refine ⟨_,rfl,t,_,2,_,rfl,rfl,SqT.of (s3 _ _ ht),rfl,_,rfl,z,_,0,_,rfl,rfl,SqT.of (s3 _ _ hz),rfl,_,rfl,lb,zu,L,rfl,⟨_,Sy.of (s3 _ _ hb)⟩,⟨_,SqT.of (s3 _ _ hzu)⟩,⟨_,Sy.of hL3⟩,λD hD=>?_⟩
   have sD:=Sn.upd (o:=.lst []) hD
   refine Jtn (K:=K) (l1:=lb) (l2:=zu) (l3:=L) (b1:=false) (b2:=true) (b3:=false) (xs:=bs) (ys:=cs.map V.int) (us:=(lft S ls tv).map V.int) (D:=D) (λi σ H'=>(∃o1 o2 o3,σ= [o1,o2,o3])/\H' D=some (.lst (((Jpw S (R.Bs.map (·.G)) ls cs tv).take i).map V.int))/\Sn H3 H') ⟨⟨_,_,_,rfl⟩,Sv,sD⟩ (λi σ H' _ ⟨_,_,sm⟩=>⟨Sy.of (sm _ _ (s3 _ _ hb)),SqT.of (sm _ _ (s3 _ _ hzu)),Sy.of (sm _ _ hL3)⟩) (by rw [yf];omega) (by rw [yf];omega) ?_ ?_
   ·rintro i x y' u σ H' Ta hx hy hu ⟨⟨p1,p2,p3,rfl⟩,hDs,sm⟩ hT
    obtain ⟨B,eB,tb,g,rfl,htb,gt⟩:=btl.get hx
    rw [yj] at hy hu
    obtain ⟨c,hc,rfl⟩:=yak.mp hy
    obtain ⟨lv,hlv,rfl⟩:=yak.mp hu
    have hG:(R.Bs.map (·.G))[i]?=some B.G:=by rw [yj,eB];rfl
    obtain ⟨gg,hs,hl'⟩:=li.so.get hG hc hlv
    have sT:=Sn.upd (o:=.tup [.ref tb,.int c,.int lv]) hT
    have s4:=(s3.trans sm).trans sT
    refine Yaa (SqT.of Sv) ⟨_,rfl,tb,_,5,_,rfl,rfl,SqT.of (s4 _ _ htb),rfl,_,rfl,_,rfl,p,g,B.G,c,lv,rfl,gt.same s4,gg,hs,hl',λH5 s5=>⟨_,s5 _ _ (sT _ _ hDs),?_,⟨_,_,_,rfl⟩,?_,?_⟩⟩
    ·rw [yf,yz]
     have hi:i < bs.length:=(yo.mp hx).1
     exact Jne (by omega)
    ·rw [Sv,yag]
     unfold Jpw
     rw [Ju1 hG hc hlv]
     simp
    ·intro c o z
     rw [Jmm (Jmo z hD)]
     exact s5 _ _ (sT _ _ (sm _ _ z))
   rintro σ' H4 ⟨_,hDs,sm⟩
   have el:(lft S ls tv).length=S.Bs.length:=by rw [Jux];exact ly
   have eo:(Jpw S (R.Bs.map (·.G)) ls cs tv).length=S.Bs.length:=by unfold Jpw;rw [Jqm sol.1 sol.2];omega
   have rl:=li.rl
   have e8:(Jr3 S (R.Bs.map (·.G)) ls cs tv rn).length=S.Bs.length:=by unfold Jr3;rw [Jr8 (by omega) (by omega)];exact el
   rw [yaf (by omega)] at hDs
   have s4:=s3.trans sm
   have hL4:=sm _ _ hL3
   generalize hGs:R.Bs.map (·.G)=Gs at*
   generalize hlf:lft S ls tv=lf at*
   have elv:Jr3 S Gs ls cs tv rn=Jyf 0 lf (Jpw S Gs ls cs tv) rn:=by unfold Jr3;rw [hlf]
   generalize hlv:Jr3 S Gs ls cs tv rn=lvv at*
   generalize hos:Jpw S Gs ls cs tv=os at*
   refine ⟨_,rfl,L,_,rfl,.inl (Sy.of hL4),_,rfl,by rw [yf];omega,by rw [yf];omega,?_⟩
   refine Jqi (λi σ H'=>∃p11,σ= [some (.ref t),some (.ref y),some (.ref z),some (.ref ra),some (.ref L),some (.bl (decide (drw S ls tv > 0))),some (.int (drw S ls tv)),o7,o8,o9,some (.ref D),p11,o12,o13]/\H' L=some (.lst ((lvv.take i++lf.drop i).map V.int))/\H' D=some (.lst (os.map V.int))/\Sn H H') ⟨_,rfl,by simpa using hL4,hDs,s4⟩ ?_ ?_
   ·rintro i σ H5 hi ⟨p11,rfl,hL5,hD5,s5⟩
    have hi':i < lf.length:=by rw [yf] at hi;omega
    have e0:(0:Int)+(i:Int)=(i:Int):=by omega
    have clen:(lvv.take i++lf.drop i).length=lf.length:=by rw [yah,yz,List.length_drop];omega
    have cat:(lvv.take i++lf.drop i)[i]?=some lf[i]:=by rw [Jtc (by omega)];exact yh hi'
    have a1:atI ((lvv.take i++lf.drop i).map V.int) ((0:Int)+(i:Int))=some (.int lf[i]):=by rw [e0];exact Jpc (by rw [yj,cat];rfl)
    have hio:i < os.length:=by omega
    have hir:i < rn.length:=by omega
    have a2:atI (os.map V.int) ((0:Int)+(i:Int))=some (.int os[i]):=by rw [e0];exact Jpf hio
    have a3:atI (rn.map V.int) ((0:Int)+(i:Int))=some (.int rn[i]):=by rw [e0];exact Jpf hir
    have hix:∀{ms:List Int},ms.length=lf.length->ixN (ms.map V.int).length ((0:Int)+(i:Int))=some i:=λe=>by
     rw [e0]
     unfold ixN
     rw [if_pos (by omega),if_pos (by rw [yf];omega)]
     rfl
    have keep:∀{Ha:Hp} {ob:HO},Sn H Ha->Sn H (upd Ha L ob):=λs b oo e=>by rw [Jmm (Jmo e hL)];exact s _ _ e
    have nDL:D≠L:=λe=>by rw [e,hL3] at hD;cases hD
    refine ⟨_,rfl,_,rfl,L,_,_,_,rfl,rfl,Sy.of hL5,a1,_,rfl,_,rfl,D,_,_,_,rfl,rfl,Sy.of hD5,a2,_,_,rfl,rfl,_,rfl,_,rfl,ra,_,_,_,rfl,rfl,SqT.of (s5 _ _ li.hr),a3,_,_,rfl,rfl,?_⟩
    refine ⟨_,rfl,_,rfl,L,_,_,_,rfl,rfl,hL5,hix clen,?_⟩
    refine ⟨_,rfl,_,_,rfl,rfl,_,rfl,?_⟩
    have hf:∀f:Int,((0:Int)::os)[i]?=some f->lvv[i]?=some (lf[i] - os[i]+f+rn[i]):=λf h=>by
     rw [elv]
     exact Jv8 (yh hi') (yh hio) h (yh hir)
    by_cases h0:(0:Int) < 0+(i:Int)
    ·refine ifT (decide_eq_true h0) ?_
     have hp:i - 1 < os.length:=by omega
     have fv:((0:Int)::os)[i]?=some os[i - 1]:=by
      cases i with
      |zero=>exact absurd h0 (by decide)
      |succ n=>simp
     have a4:atI (((lvv.take i++lf.drop i).map V.int).set i (.int (lf[i] - os[i]+rn[i]))) ((0:Int)+(i:Int))=some (.int (lf[i] - os[i]+rn[i])):=by
      rw [e0]
      refine Jpc ?_
      rw [List.getElem?_set,if_pos rfl,if_pos (by rw [yf];omega)]
     have a5:atI (os.map V.int) ((0:Int)+(i:Int) - 1)=some (.int os[i - 1]):=by
      rw [show (0:Int)+(i:Int) - 1=((i - 1:Nat):Int) by omega]
      exact Jpf hp
     have hix2:ixN (((lvv.take i++lf.drop i).map V.int).set i (.int (lf[i] - os[i]+rn[i]))).length ((0:Int)+(i:Int))=some i:=by
      rw [List.length_set]
      exact hix clen
     refine ⟨_,rfl,_,rfl,L,_,_,_,rfl,rfl,Sy.of Sv,a4,_,rfl,_,rfl,_,_,rfl,rfl,D,_,_,_,rfl,rfl,Sy.of (by rw [Jmm nDL];exact hD5),a5,_,_,rfl,rfl,_,rfl,_,rfl,L,_,_,_,rfl,rfl,Sv,hix2,?_⟩
     refine ⟨_,rfl,?_,by rw [Jmm nDL,Jmm nDL];exact hD5,keep (keep s5)⟩
     rw [Sv,List.set_set,<-List.map_set,<-Jqc (by omega) (hf _ fv)]
     have e:lf[i] - os[i]+rn[i]+os[i - 1]=lf[i] - os[i]+os[i - 1]+rn[i]:=by omega
     rw [<-e,List.map_set]
    ·refine ifF (decide_eq_false h0) ⟨_,rfl,?_,by rw [Jmm nDL];exact hD5,keep s5⟩
     have ez:i=0:=by omega
     subst ez
     rw [Sv,<-Jqc (by omega) (hf 0 rfl),List.map_set]
     have e:V.int (lf[0] - os[0]+rn[0])=V.int (lf[0] - os[0]+0+rn[0]):=by rw [show lf[0] - os[0]+rn[0]=lf[0] - os[0]+0+rn[0] by omega]
     show some (HO.lst (List.set _ 0 (V.int (lf[0] - os[0]+rn[0]))))=_
     rw [e]
     rfl
   rintro σ H5 ⟨p11,rfl,hL5,hD5,s5⟩
   rw [yf,show ((lf.length:Nat):Int).toNat=lf.length by omega,yaf (by omega),List.drop_of_length_le (by omega),yaq] at hL5
   refine ⟨_,rfl,t,_,2,_,rfl,rfl,SqT.of (s5 _ _ ht),rfl,lb,rfl,⟨_,Sy.of (s5 _ _ hb)⟩,λF hF=>?_⟩
   have sF:=Sn.upd (o:=.lst []) hF
   refine Ybr (K:=K) (a:=lb) (xs:=bs) (D:=F) (λi σ H'=>(∃q1 q2,σ= [q1,q2,some (.ref L)])/\H' F=some (.lst ((Jos 0 (S.Bs.take i) (lvv.take i)).map V.int))/\Sn H5 H') ⟨⟨_,_,rfl⟩,Sv,sF⟩ (λi σ H' _ ⟨_,_,sm⟩=>Sy.of (sm _ _ (s5 _ _ hb))) ?_ ?_
   ·rintro i x σ H' Ta hx ⟨⟨q1,q2,rfl⟩,hFs,sm'⟩ hT
    obtain ⟨B,eB,tb,g,rfl,htb,gt⟩:=btl.get hx
    have hi:i < S.Bs.length:=by have:=(yo.mp eB).1;omega
    have hil:i < lvv.length:=by omega
    obtain ⟨B',hB',elo,ehi⟩:∃B',S.Bs[i]?=some B'/\B'.lo=B.lo/\B'.hi=B.hi:=by
     have k1:(S.Bs.map Jsb)[i]?=some (Jw4 B):=by rw [lk.Bs,yj,eB];rfl
     rw [yj] at k1
     obtain ⟨B',h1,h2⟩:=yak.mp k1
     exact ⟨B',h1,congrArg (·.2.1) h2,congrArg (·.2.2.1) h2⟩
    have sT:=Sn.upd (o:=.tup [.int i,.ref tb]) hT
    have s6:=(s5.trans sm').trans sT
    have hL6:=sT _ _ (sm' _ _ hL5)
    have nx:Jos 0 (S.Bs.take (i+1)) (lvv.take (i+1))=Jos 0 (S.Bs.take i) (lvv.take i)++(if B.lo<=lvv[i]/\lvv[i]<=B.hi then [] else [(i:Int)]):=by
     have q:=Jtl (k:=0) (Bs:=S.Bs.take i) (ls:=lvv.take i) (B:=B') (l:=lvv[i]) (by rw [yz,yz];omega)
     rw [yz,Nat.min_eq_left (by omega),Nat.zero_add,elo,ehi] at q
     rw [yag,hB',yag,yh hil]
     exact q
    have bad:¬(B.lo<=lvv[i]/\lvv[i]<=B.hi)->∃vs,(upd H' Ta (.tup [.int i,.ref tb])) F=some (.lst vs)/\vs.length < Sa/\(∃p1 p2,[some (V.int i),some (.ref tb),some (.ref L)]= [p1,p2,some (V.ref L)])/\upd (upd H' Ta (.tup [.int i,.ref tb])) F (.lst (vs++ [.int i])) F=some (.lst ((Jos 0 (S.Bs.take (i+1)) (lvv.take (i+1))).map V.int))/\Sn H5 (upd (upd H' Ta (.tup [.int i,.ref tb])) F (.lst (vs++ [.int i]))):=λq=>by
     refine ⟨_,sT _ _ hFs,?_,⟨_,_,rfl⟩,?_,?_⟩
     ·have:=Jv9 (k:=0) (Bs:=S.Bs.take i) (ls:=lvv.take i)
      rw [yz] at this
      rw [yf]
      exact Jne (by omega)
     ·rw [Sv,nx,if_neg q,yal]
      rfl
     ·intro c o z
      rw [Jmm (Jmo z hF)]
      exact sT _ _ (sm' _ _ z)
    refine ⟨Ta,_,rfl,SqT.of Sv,rfl,_,_,rfl,_,_,rfl,rfl,?_⟩
    refine ⟨_,rfl,_,rfl,L,_,_,_,rfl,rfl,Sy.of hL6,Jpf hil,_,rfl,tb,_,1,_,rfl,rfl,SqT.of (s6 _ _ htb),rfl,_,_,rfl,rfl,_,rfl,?_⟩
    by_cases h1:lvv[i] < B.lo
    ·exact ifT (decide_eq_true h1) (Jnr ⟨_,rfl,bad λz=>by omega⟩)
    ·refine ifF (decide_eq_false h1) ⟨_,rfl,_,rfl,L,_,_,_,rfl,rfl,Sy.of hL6,Jpf hil,_,rfl,tb,_,2,_,rfl,rfl,SqT.of (s6 _ _ htb),rfl,_,_,rfl,rfl,_,rfl,?_⟩
     by_cases h2:B.hi < lvv[i]
     ·exact ifT (decide_eq_true h2) ⟨_,rfl,bad λz=>by omega⟩
     ·refine ifF (decide_eq_false h2) ⟨⟨_,_,rfl⟩,?_,sm'.trans sT⟩
      rw [nx,if_pos ⟨by omega,by omega⟩,yaq]
      exact sT _ _ hFs
   rintro σ H6 ⟨_,hFs,sm'⟩
   rw [yaf (by omega),yaf (by omega)] at hFs
   have s6:=s5.trans sm'
   have ew:(if wt - rn.sum+R.g < R.c then wt - rn.sum+R.g else R.c)=Jtf S wt rn:=by
    unfold Jtf
    rw [lk.c,lk.g]
    split <;> split <;> omega
   refine ⟨_,rfl,t,_,0,_,rfl,rfl,SqT.of (s6 _ _ ht),rfl,_,rfl,y,_,1,_,rfl,rfl,SqT.of (s6 _ _ hy),rfl,_,rfl,ra,rn,rfl,.inr (SqT.of (s6 _ _ li.hr)),li.sm,_,_,rfl,rfl,_,rfl,t,_,1,_,rfl,rfl,SqT.of (s6 _ _ ht),rfl,_,_,rfl,rfl,_,_,rfl,?_⟩
   refine ⟨_,rfl,L,_,rfl,.inl ⟨Sy.of (sm' _ _ hL5),λu1 h1=>?_⟩⟩
   have t1:=Sn.upd (o:=.tup (lvv.map V.int)) h1
   refine ⟨_,rfl,_,rfl,D,_,rfl,.inl ⟨Sy.of (t1 _ _ (sm' _ _ hD5)),λu2 h2=>?_⟩⟩
   have t2:=Sn.upd (o:=.tup (os.map V.int)) h2
   refine ⟨_,rfl,_,rfl,_,rfl,F,_,rfl,.inl ⟨Sy.of (t2 _ _ (t1 _ _ hFs)),λu3 h3=>?_⟩⟩
   have t3:=Sn.upd (o:=.tup ((Jos 0 S.Bs lvv).map V.int)) h3
   refine ⟨(show 6<=Sa by decide),λq hq=>?_⟩
   have t4:=Sn.upd (o:=.tup [.ref u1,.int (if wt - rn.sum+R.g < R.c then wt - rn.sum+R.g else R.c),.ref u2,.int (drw S ls tv),.bl (decide (drw S ls tv > 0)),.ref u3]) hq
   refine k _ _ (s6.trans (((t1.trans t2).trans t3).trans t4)) ⟨q,u1,u2,u3,rfl,?_,?_,?_,?_⟩
   ·rw [<-ew]
    exact Sv
   ·rw [hlv]
    exact t4 _ _ (t3 _ _ (t2 _ _ Sv))
   ·rw [hos]
    exact t4 _ _ (t3 _ _ Sv)
   ·rw [hlv]
    exact t4 _ _ Sv
theorem Ycp:∀{ns los his:List Int},ns.length=los.length->los.length=his.length->(∀(i:Nat) (n l h:Int),ns[i]?=some n->los[i]?=some l->his[i]?=some h->l<=n/\n<=h)->(wl (ns.map V.int) los his).all id=true
 | [],[],_,_,_,_=>rfl
 | [],_::_,_,e,_,_=>by simp at e
 |_::_,[],_,e,_,_=>by simp at e
 |_::_,_::_,[],_,e,_=>by simp at e
 |n::ns,l::los,h::his,e1,e2,f=>by
  have ih:=Ycp (ns:=ns) (los:=los) (his:=his) (by simpa using e1) (by simpa using e2) λi n l h q1 q2 q3=>f (i+1) n l h (by simpa using q1) (by simpa using q2) (by simpa using q3)
  have q:=f 0 n l h rfl rfl rfl
  show ((decide (l<=n)&&decide (n<=h))&&(wl (ns.map V.int) los his).all id)=true
  rw [ih,decide_eq_true q.1,decide_eq_true q.2]
  rfl
theorem Jt7 {ns los his:List Int} (e1:ns.length=los.length) (e2:los.length=his.length) (f:∀(i:Nat) (n l h:Int),ns[i]?=some n->los[i]?=some l->his[i]?=some h->l<=n/\n<=h):Joy (some (ns.map V.int)) los his=true:=by
 show (decide ((ns.map V.int).length=los.length)&&(wl (ns.map V.int) los his).all id)=true
 rw [Ycp e1 e2 f,yf,decide_eq_true e1]
 rfl
theorem Ybn:∀{k:Nat} {Bs:List Bsn} {ls:List Int},Jos k Bs ls= []->∀(i:Nat) (n:Int) (B:Bsn),ls[i]?=some n->Bs[i]?=some B->B.lo<=n/\n<=B.hi
 |k,B::Bs,l::ls,h,i,n,C,e1,e2=>by
  have h':(if B.lo<=l/\l<=B.hi then Jos (k+1) Bs ls else (k:Int)::Jos (k+1) Bs ls)= []:=h
  split at h'
  ·rename_i q
   cases i with
   |zero=>cases e1;cases e2;exact q
   |succ i=>exact Ybn h' i n C (by simpa using e1) (by simpa using e2)
  ·cases h'
 |_,[],_,_,_,_,_,_,e=>by simp at e
 |_,_::_,[],_,_,_,_,e,_=>by simp at e
theorem Jyl {R:Jn1} {S:Riv} (h:Jqe R S) (wet:Int):Jqr S wet=Jo0 R wet:=by
 unfold Jqr Jo0
 rw [h.c,h.g,show S.Bs.map (·.rn)=R.Bs.map (·.rn) from Jrb h (·.2.2.2.2.1)]
 generalize (R.Bs.map (·.rn)).sum=m
 generalize wet+R.g - R.c=n
 split <;> split <;> split <;> (try split) <;> omega
inductive Yd5 (a:Ad) (vs:List V) (H:Hp) (Q:VK) (z3:XK):Prop where
 |mk (p dx u lv q:S5) (c r:V) (d wt:Int) (_:vs= [.ref p]) (_:H p=some (.ins a.Jm3 dx (Sns c r d u lv wt q))) (_:∀t H',Sn H H'->H' t=some (.tup [.ref lv,.int wt])->Q (.ref t) H')
theorem Jvi {as bs:List Int} (h:as.map V.int=bs.map V.int):as=bs:=by
 have:=congrArg (List.map Jq1) h
 simpa [ybb,ybv,Jq1] using this
theorem StA.inj {H:Hp} {x:V} {S:Riv} {ls ls':List Int} {wt wt':Int} (h:StA H x S ls wt) (h':StA H x S ls' wt'):ls'=ls/\wt'=wt:=by
 obtain ⟨y,u,rfl,h1,h2,_⟩:=h
 obtain ⟨y',u',e,h1',h2',_⟩:=h'
 cases e
 rw [h1] at h1'
 cases h1'
 rw [h2] at h2'
 have e:ls.map V.int=ls'.map V.int:=by simpa using h2'
 exact ⟨(Jvi e).symm,rfl⟩
theorem ChA.inj {H:Hp} {x:V} {S:Riv} {ls ls':List Int} {wt wt':V} (h:ChA H x S ls wt) (h':ChA H x S ls' wt'):ls'=ls/\wt'=wt:=by
 obtain ⟨y,u,rfl,h1,h2,_⟩:=h
 obtain ⟨y',u',e,h1',h2',_⟩:=h'
 cases e
 rw [h1] at h1'
 cases h1'
 rw [h2] at h2'
 have e:ls.map V.int=ls'.map V.int:=by simpa using h2'
 exact ⟨(Jvi e).symm,rfl⟩
theorem Jpv {R:Jn1} {S:Riv} (lk:Jqe R S) {i:Nat} {B:Bsn} {C:Joz} (h1:S.Bs[i]?=some B) (h2:R.Bs[i]?=some C):Jsb B=Jw4 C:=by
 have k1:(S.Bs.map Jsb)[i]?=some (Jsb B):=by rw [yj,h1];rfl
 rw [lk.Bs,yj,h2] at k1
 exact (yw.inj k1).symm
structure Sik (K:Si) (a:Ad) (p:S5) (H:Hp) (o:S5) (td:V) (R:Jn1) (S:Riv) (x c:V) (ls cs:List Int) (wt:Int) (tv:V) (ra:S5) (rn:List Int) (q r:Pr):Prop where
 rv:RvX K a H o S (R.Bs.map (·.G))
 li:Sij p H td R S x c ls cs wt tv ra rn
 px:PrT K H x q
 sb:stB S q=true
 wq:Jq7 q=wt
 pc:PrT K H c r
 cb:chB S r=true
 rr:Sdb K H (.ref ra) (some (rn.map V.int))
 rb:rnB S wt (some (rn.map V.int))=true
 w0:0<=Jtf S wt rn/\Jtf S wt rn<=S.c
 lb:∀n∈ls,0<=n/\n<=12
 rd:∀n∈rn,0<=n/\n<=6
theorem Sik.of {K:Si} {a:Ad} {p o:S5} {H:Hp} {td:V} {R:Jn1} {S:Riv} {x c:V} {ls cs:List Int} {wt:Int} {tv:V} {ra:S5} {rn:List Int} (rt:Sci p H td R) (rg:Jor R) (lk:Jqe R S) (rv:RvX K a H o S (R.Bs.map (·.G))) (sd:Saw H x R ls wt) (ch:Sdc H c R cs tv) (hra:H ra=some (.tup (rn.map V.int))) (ri:Sil R wt rn):∃q r,Sik K a p H o td R S x c ls cs wt tv ra rn q r:=by
 have hl:=Jod lk
 have hn:=rg.n
 obtain ⟨⟨y,u,rfl,hy,hu⟩,lls,lin,w0,w1⟩:=id sd
 obtain ⟨⟨z,zu,rfl,hz,hzu⟩,lcs,cin,tw⟩:=id ch
 obtain ⟨rl,rb,rs,rf⟩:=ri
 have twS:Shj S tv:=by
  rcases tw with h|⟨j,h,j0,j1⟩
  ·exact .inl h
  ·exact .inr ⟨j,h,j0,by rw [Jqj lk];exact j1⟩
 have lvi:Slo S ls:=λi n B e1 e2=>by
  obtain ⟨C,eC,b⟩:=lin i n e1
  have q:=Jpv lk e2 eC
  have q1:B.lo=C.lo:=congrArg (·.2.1) q
  have q2:B.hi=C.hi:=congrArg (·.2.2.1) q
  rw [q1,q2]
  exact b
 have csi:Skv S cs:=λi n B e1 e2=>by
  obtain ⟨n0,_,C,eC,b⟩:=cin i n e1
  have q:=Jpv lk e2 eC
  have q1:B.n=nOf C.G:=congrArg (·.2.2.2.2.2) q
  omega
 have rd:∀n∈rn,0<=n/\n<=6:=λn hn=>by
  obtain ⟨i,hi⟩:=ybu hn
  have hi':i < rn.length:=(yo.mp hi).1
  have e:R.Bs[i]?=some (R.Bs[i]'(by omega)):=yh (by omega)
  have:=rb i n _ hi e
  have:=(rg.Bs _ (yy e)).1.rn
  omega
 have sm:Sml rn:=⟨by omega,λn hn=>by
  have:=rd n hn
  omega⟩
 have lb:∀n∈ls,0<=n/\n<=12:=λn hn=>by
  obtain ⟨i,hi⟩:=ybu hn
  obtain ⟨C,eC,b⟩:=lin i n hi
  have g:=(rg.Bs _ (yy eC)).1
  have:=g.lo
  have:=g.hi
  omega
 have st:StA H (.ref y) S ls wt:=⟨y,u,rfl,hy,hu,by omega⟩
 have chA:ChA H (.ref z) S cs tv:=⟨z,zu,rfl,hz,hzu,by omega,twS⟩
 have so:=rv.sets (tv:=tv) (ls:=ls) (cs:=cs) (by omega) (by omega) lvi csi
 refine ⟨.two (.ref u) (.int wt) (some (ls.map V.int)),.two (.ref zu) tv (some (cs.map V.int)),rv,⟨rt,rg,lk,st,chA,hra,by omega,sm,so⟩,⟨y,rfl,hy,⟨u,rfl,hu,λv hv=>Jq5 hv,by rw [yf];omega⟩,.inl ⟨wt,rfl⟩⟩,?_,rfl,⟨z,rfl,hz,⟨zu,rfl,hzu,λv hv=>Jq5 hv,by rw [yf];omega⟩,?_⟩,?_,⟨ra,rfl,hra,λv hv=>Jq5 hv,by rw [yf];omega⟩,?_,?_,lb,rd⟩
 ·show ((decide (0<=wt)&&decide (wt<=S.c))&&Joy (some (ls.map V.int)) (S.Bs.map (·.lo)) (S.Bs.map (·.hi)))=true
  rw [Jt7 (by rw [yf];omega) (by simp),decide_eq_true w0,decide_eq_true (by rw [lk.c];exact w1)]
  ·rfl
  ·intro i n l h e1 e2 e3
   rw [yj] at e2 e3
   obtain ⟨B,hB,rfl⟩:=yak.mp e2
   rw [hB] at e3
   cases e3
   exact lvi i n B e1 hB
 ·rcases tw with rfl|⟨j,rfl,_⟩
  ·exact Ya9 rfl
  ·exact .inl ⟨j,rfl⟩
 ·show (Jrx S.Ts.length tv&&Joy (some (cs.map V.int)) (yt S.Bs.length 0) (S.Bs.map λB=>(B.n:Int) - 1))=true
  rw [Jt7 (by rw [yat];omega) (by simp)]
  ·rcases twS with rfl|⟨j,rfl,j0,j1⟩
   ·rfl
   ·show ((decide (0<=j)&&decide (j<=(S.Ts.length:Int) - 1))&&true)=true
    rw [decide_eq_true j0,decide_eq_true (show j<=(S.Ts.length:Int) - 1 by omega)]
    rfl
  ·intro i n l h e1 e2 e3
   rw [yj] at e3
   obtain ⟨B,hB,rfl⟩:=yak.mp e3
   rw [ybj] at e2
   split at e2
   ·cases e2
    exact csi i n B e1 hB
   ·cases e2
 ·show (Joy (some (rn.map V.int)) (yt S.Bs.length 0) (S.Bs.map (·.rn))&&(decide (Jqr S wt<=Jy7 (rn.map V.int))&&decide (Jy7 (rn.map V.int)<=wt)))=true
  rw [Jt7 (by rw [yat];omega) (by simp),Jx7,Jyl lk,decide_eq_true rs,decide_eq_true rf]
  ·rfl
  ·intro i n l h e1 e2 e3
   rw [yj] at e3
   obtain ⟨B,hB,rfl⟩:=yak.mp e3
   have hi:i < S.Bs.length:=(yo.mp hB).1
   rw [ybj,if_pos hi] at e2
   cases e2
   have eC:R.Bs[i]?=some (R.Bs[i]'(by omega)):=yh (by omega)
   have q1:B.rn=(R.Bs[i]'(by omega)).rn:=congrArg (·.2.2.2.2.1) (Jpv lk hB eC)
   rw [q1]
   exact rb i n _ e1 eC
 ·have:=rg.c
  have:=rg.g
  unfold Jtf
  rw [lk.c,lk.g]
  split <;> omega
theorem Jyj {K:Si} {H:Hp}:∀ns:List Int,Scg K H (ns.map V.int) (ns.map PyData.int)
 | []=>.nil
 |_::r=>.cons (.int _) (Jyj r)
theorem Jy4 (ns:List Int):SeqAt.shaped (.tuple (ns.map PyData.int))=true:=by
 have e1:∀l:List Int,PyData.canLayAll0 (l.map PyData.int)=true:=by
  intro l
  induction l with
  |nil=>rfl
  |cons c r ih=>simp only [ybq,PyData.canLayAll0,PyData.canLay0,ih,Bool.and_self]
 have e2:∀l:List Int,PyData.depthAll (l.map PyData.int)=0:=by
  intro l
  induction l with
  |nil=>rfl
  |cons c r ih=>simp [PyData.depthAll,PyData.depth,ih]
 simp [SeqAt.shaped,PyData.canLay0,PyData.depth,e1 ns,e2]
theorem Yc3 (ns:List Int):PyData.eqv (.tuple (ns.map PyData.int)) (.tuple [])=decide (ns= []):=by
 cases ns <;> rfl
theorem Ju5:Jmp ["self"] ["self"] (Jml (Jmw (top 34) 1)):=⟨rfl,rfl,rfl,by decide +kernel,rfl,by decide +kernel,by decide +kernel⟩
theorem Jtx (T:Tx K mg a):Sx P w K mg base CX0 1 a.Jiq a.Jir ["self"] (Yd5 a):=by
 refine T.Jcq.fn.ok Ju5 (λvs H Q E h=>?_) (λcdv A outer s H vs Q E hr h=>?_)
 ·obtain ⟨p,dx,u,lv,q,c,r,d,wt,rfl,_⟩:=h
  rfl
 ·obtain ⟨p,dx,u,lv,q,c,r,d,wt,rfl,hp,k⟩:=h
  refine ⟨?t,?B,?C⟩
  case B=>
   refine' Jmk ?O0
   case O0=>exact (Jms (Jnx (So (Jnh (pv 0) (by rfl)) (So (Jnh (pv 0) (by rfl)) Ss))))
  refine ⟨_,rfl,p,_,dx,_,_,rfl,hp,T.Jdn,T.Jf2,rfl,_,rfl,p,_,dx,_,_,rfl,hp,T.Jdn,T.Jf3,rfl,(show 2<=Sa by decide),λt ht=>k t _ (Sn.upd ht) Sv⟩
theorem Smv {K:Si} {a:Ad} {H:Hp} {o:S5} {S:Riv} {R:Jn1} (ro:Saz K a H o S) (lk:Jqe R S) (rg:Jor R) (gx:GXL a H (S.Bs.map (·.g)) (R.Bs.map (·.G))):RvX K a H o S (R.Bs.map (·.G)):=by
 have hl:=Jod lk
 have hz:S.Bs.map (·.z)=R.Bs.map (·.z):=Jrb lk (·.1)
 refine ⟨ro,gx,by rw [yf];exact hl,λT hT=>?_,by have:=rg.n;omega,λi B G hB hG=>?_⟩
 ·have:(T.z,T.b,T.wt)∈R.Ts.map (λB=>(B.z,B.b,B.wt)):=by rw [<-lk.Ts];exact ybl (f:=λB:Twn=>(B.z,B.b,B.wt)) hT
  obtain ⟨C,hC,e⟩:=yaj.mp this
  have q:=rg.Ts C hC
  have e2:C.b=T.b:=congrArg (·.2.1) e
  have e3:C.wt=T.wt:=congrArg (·.2.2) e
  rw [hz,<-e2,<-e3]
  exact ⟨q.2.2.1,q.2.2.2.1,q.2.2.2.2⟩
 ·rw [yj] at hG
  obtain ⟨C,hC,rfl⟩:=yak.mp hG
  have k1:(S.Bs.map Jsb)[i]?=some (Jsb B):=by rw [yj,hB];rfl
  rw [lk.Bs,yj,hC] at k1
  have e:Jw4 C=Jsb B:=yw.inj k1
  have bg:=(rg.Bs C (yy hC)).1
  have e1:C.lo=B.lo:=congrArg (·.2.1) e
  have e2:C.hi=B.hi:=congrArg (·.2.2.1) e
  have e3:nOf C.G=B.n:=congrArg (·.2.2.2.2.2) e
  exact ⟨bg.G,e3.symm,by rw [<-e1];exact bg.lo.1,by rw [<-e2];exact bg.hi.2⟩
theorem Sci.move {p q:S5} {H:Hp} {x:V} {R:Jn1} (rg:Jor R) (hq:H q=none) (h:Sci p H x R):Sci q H x R:=by
 obtain ⟨t,lb,lt,bs,ts,e,ht,hb,btl,htt,ttl,nb,nt⟩:=h
 exact ⟨t,lb,lt,bs,ts,e,ht,hb,btl.map (λ_ _ _ h=>h.move hq) (λB hB=>(rg.Bs B hB).1),htt,ttl,Jmo hb hq,Jmo htt hq⟩
theorem GXL.ll {a:Ad} {H H':Hp} {xs:List V} {Gs:List Jnd} (s:LL H H') (h:GXL a H xs Gs):GXL a H' xs Gs:=h.map λx G h=>by
 obtain ⟨g,⟨dx,t,h1,h2⟩,r⟩:=h
 refine ⟨g,⟨dx,t,s.get (by intro _ z;cases z) h1,s.get (by intro _ z;cases z) h2⟩,?_⟩
 cases e:G.sv with
 |none=>rw [e] at r;exact r
 |some j=>
  rw [e] at r
  obtain ⟨q,dx,r1,r2⟩:=r
  exact ⟨q,dx,r1,s.get (by intro _ z;cases z) r2⟩
theorem RvX.ll {K:Si} {a:Ad} {H H':Hp} {o:S5} {S:Riv} {Gs:List Jnd} (s:LL H H') (h:RvX K a H o S Gs):RvX K a H' o S Gs:=⟨h.ro.ll s,h.gx.ll s,h.ln,h.ti,h.n1,h.ok⟩
theorem Saw.but {p:S5} {H H':Hp} {x:V} {R:Jn1} {ls:List Int} {wt:Int} (st:Sbb H p) (b:But p H H') (h:Saw H x R ls wt):Saw H' x R ls wt:=
 let ⟨⟨y,u,e,h1,h2⟩,r⟩:=h
 ⟨⟨y,u,e,Jry st b h1 (by intro _ _ _ z;cases z),Jry st b h2 (by intro _ _ _ z;cases z)⟩,r⟩
abbrev lb__law_told:Array (Nat×Nat×Str):=#[((Jpi (nst (top 88) 1)).line,(Jpi (nst (top 88) 1)).col,"_law_told.<locals>._law_keeper"),((Jpi (nst (top 88) 2)).line,(Jpi (nst (top 88) 2)).col,"_law_told.<locals>._law_sky")]
theorem Jpz:∀q,((Jpi (nst (top 88) 1)).line,(Jpi (nst (top 88) 1)).col,q)∈lb__law_told->q="_law_told.<locals>._law_keeper" :=λq h=>by
 rcases yk.mp (Array.mem_toList_iff.mpr h) with e|h
 ·exact congrArg (·.2.2) e
 ·have e:=yca.mp h
  exact absurd (show (Jpi (nst (top 88) 1)).line=(Jpi (nst (top 88) 2)).line from congrArg (·.1) e) (by decide +kernel)
theorem Jqs:∀q,((Jpi (nst (top 88) 2)).line,(Jpi (nst (top 88) 2)).col,q)∈lb__law_told->q="_law_told.<locals>._law_sky" :=λq h=>by
 rcases yk.mp (Array.mem_toList_iff.mpr h) with e|h
 ·exact absurd (show (Jpi (nst (top 88) 1)).line=(Jpi (nst (top 88) 2)).line from (congrArg (·.1) e).symm) (by decide +kernel)
 ·have e:=yca.mp h
  exact congrArg (·.2.2) e
structure WX (K:Si) (a:Ad) (p o:S5) (H:Hp) (td:V) (R:Jn1) (S:Riv):Prop where
 rt:Sci p H td R
 rg:Jor R
 lk:Jqe R S
 rv:RvX K a H o S (R.Bs.map (·.G))
theorem WX.same {K:Si} {a:Ad} {p o:S5} {H H':Hp} {td:V} {R:Jn1} {S:Riv} (s:Sn H H') (h:WX K a p o H td R S):WX K a p o H' td R S:=⟨h.rt.same h.rg s,h.rg,h.lk,h.rv.same s⟩
theorem WX.move {K:Si} {a:Ad} {p q o:S5} {H:Hp} {td:V} {R:Jn1} {S:Riv} (hq:H q=none) (h:WX K a p o H td R S):WX K a q o H td R S:=⟨h.rt.move h.rg hq,h.rg,h.lk,h.rv⟩
theorem WX.but {K:Si} {a:Ad} {p o:S5} {H H':Hp} {td:V} {R:Jn1} {S:Riv} (st:Sbb H p) (b:But p H H') (h:WX K a p o H td R S):WX K a p o H' td R S:=⟨h.rt.but h.rg st b,h.rg,h.lk,h.rv.ll (LL.but st b)⟩
theorem Sdc.same {H H':Hp} {x:V} {R:Jn1} {ls:List Int} {tv:V} (s:Sn H H') (h:Sdc H x R ls tv):Sdc H' x R ls tv:=
 let ⟨⟨y,u,e,h1,h2⟩,r⟩:=h
 ⟨⟨y,u,e,s _ _ h1,s _ _ h2⟩,r⟩
theorem Saw.same {H H':Hp} {x:V} {R:Jn1} {ls:List Int} {wt:Int} (s:Sn H H') (h:Saw H x R ls wt):Saw H' x R ls wt:=
 let ⟨⟨y,u,e,h1,h2⟩,r⟩:=h
 ⟨⟨y,u,e,s _ _ h1,s _ _ h2⟩,r⟩
def Exc (A:S5) (H H':Hp):Prop:=∀b o,b≠A->H b=some o->H' b=some o
theorem Exc.refl {A:S5} {H:Hp}:Exc A H H:=λ_ _ _ e=>e
theorem Exc.same {A:S5} {H H':Hp} (s:Sn H H'):Exc A H H':=λ_ _ _ e=>s _ _ e
theorem Exc.trans {A:S5} {H H' H'':Hp} (h:Exc A H H') (k:Exc A H' H''):Exc A H H'':=λb o n e=>k b o n (h b o n e)
theorem Exc.upd {A:S5} {H:Hp} {o:HO}:Exc A H (upd H A o):=λ_ _ n e=>by rw [Jmm n];exact e
theorem Exc.of {A:S5} {H0 H H':Hp} (n:H0 A=none) (s:Sn H0 H) (x:Exc A H H'):Sn H0 H':=λb o e=>x b o (Jmo e n) (s b o e)
theorem Exc.get {A:S5} {H H':Hp} {b:S5} {o:HO} {as:List V} (hA:H A=some (.lst as)) (x:Exc A H H') (h:H b=some o) (n:∀xs,o≠ .lst xs):H' b=some o:=x b o (λz=>by rw [z,hA] at h;exact n as (yw.inj h).symm) h
theorem Saw.exc {A:S5} {H H':Hp} {x:V} {R:Jn1} {ls:List Int} {wt:Int} {as:List V} (hA:H A=some (.lst as)) (e:Exc A H H') (h:Saw H x R ls wt):Saw H' x R ls wt:=
 let ⟨⟨y,u,e1,h1,h2⟩,r⟩:=h
 ⟨⟨y,u,e1,e.get hA h1 (by intro _ z;cases z),e.get hA h2 (by intro _ z;cases z)⟩,r⟩
theorem Sdc.exc {A:S5} {H H':Hp} {x:V} {R:Jn1} {ls:List Int} {tv:V} {as:List V} (hA:H A=some (.lst as)) (e:Exc A H H') (h:Sdc H x R ls tv):Sdc H' x R ls tv:=
 let ⟨⟨y,u,e1,h1,h2⟩,r⟩:=h
 ⟨⟨y,u,e1,e.get hA h1 (by intro _ z;cases z),e.get hA h2 (by intro _ z;cases z)⟩,r⟩
theorem Saw.ll {H H':Hp} {x:V} {R:Jn1} {ls:List Int} {wt:Int} (s:LL H H') (h:Saw H x R ls wt):Saw H' x R ls wt:=
 let ⟨⟨y,u,e,h1,h2⟩,r⟩:=h
 ⟨⟨y,u,e,s.get (by intro _ z;cases z) h1,s.get (by intro _ z;cases z) h2⟩,r⟩
theorem Sfr.ll {a:Ad} {H H':Hp} {p:S5} {c r:V} {S:Riv} {Gs:List Jnd} {ls cs:List Int} {wt:Int} {tv:V} {rn:List Int} (s:LL H H') (h:Sfr a H p c r S Gs ls cs wt tv rn):Sfr a H' p c r S Gs ls cs wt tv rn:=by
 obtain ⟨dx,u,lv,q,h1,h2,h3,h4⟩:=h
 exact ⟨dx,u,lv,q,s.get (by intro _ z;cases z) h1,s.get (by intro _ z;cases z) h2,s.get (by intro _ z;cases z) h3,s.get (by intro _ z;cases z) h4⟩
theorem Exc.ll {A:S5} {H H':Hp} {as as':List V} (hA:H A=some (.lst as)) (hA':H' A=some (.lst as')) (x:Exc A H H'):LL H H':=λc o e=>by
 by_cases z:c=A
 ·subst z
  rw [hA] at e
  exact .inr ⟨⟨_,(yw.inj e).symm⟩,_,hA'⟩
 ·exact .inl (x c o z e)
theorem Sc4.ll {H H':Hp} {f:S5} {name qual:Str} {st:Sf} {caps:List (Str×V)} (s:LL H H') (h:Sc4 H f name qual st caps):Sc4 H' f name qual st caps:=by
 obtain ⟨clos,c,a,b,d,e,g,k⟩:=h
 have ce:∀b v,Scf H b v->Scf H' b v:=λb v ⟨o,u,q1,q2,q3⟩=>⟨o,u,s.get (by intro _ z;cases z) q1,q2,q3⟩
 exact ⟨clos,c,s.get (by intro _ z;cases z) a,s.get (by intro _ z;cases z) b,d,e,λx b z=>let ⟨v,q⟩:=g x b z;⟨v,ce _ _ q⟩,λx v z=>let ⟨b,q1,q2⟩:=k x v z;⟨b,q1,ce _ _ q2⟩⟩
def Ybj (H:Hp) (f A:S5) (way t0:Int) (bad:V) (rw':S5):Prop:=Sc4 H f "_law_keeper" "_law_told.<locals>._law_keeper" (nst (top 88) 1) [("_law_bad",bad),("_law_row",.ref rw'),("_law_asked",.ref A),("_law_way",.int way),("_law_at",.int t0)]
def Skd (H:Hp) (f A:S5) (td:V) (way t0:Int) (bad:V) (rw':S5):Prop:=Sc4 H f "_law_sky" "_law_told.<locals>._law_sky" (nst (top 88) 2) [("_law_bad",bad),("_law_told_here",td),("_law_row",.ref rw'),("_law_asked",.ref A),("_law_way",.int way),("_law_at",.int t0)]
inductive Smz (cs:List V) (vs:List V) (H:Hp) (Q:VK) (z4:XK):Prop where
 |mk (A rw':S5) (as:List V) (bad x:V) (way t0 k:Int) (_:cs= [bad,.ref rw', .ref A,.int way,.int t0]) (_:vs= [x,.int k]) (_:H A=some (.lst as)) (_:as.length<=1000) (_:(way=0/\k=t0->∀H',Exc A H H'->H' A=some (.lst (as++ [.str "keeper"]))->Q bad H')) (_:(¬(way=0/\k=t0)->∀c H',Exc A H H'->H' A=some (.lst (as++ [.str "keeper"]))->H' c=some (.tup [.ref rw', .non])->Q (.ref c) H'))
inductive Sqn (K:Si) (a:Ad) (cs:List V) (vs:List V) (H:Hp) (Q:VK) (z4:XK):Prop where
 |mk (A rw':S5) (as:List V) (H0:Hp) (p o:S5) (td:V) (R:Jn1) (S:Riv) (bad x y:V) (ls:List Int) (wt way t0 k:Int) (_:cs= [bad,td,.ref rw', .ref A,.int way,.int t0]) (_:vs= [x,y,.int k]) (_:H A=some (.lst as)) (_:as.length<=1000) (_:H0 A=none) (_:Sn H0 H) (_:WX K a p o H0 td R S) (_:H rw'=some (.tup ((zsN R.Bs.length).map V.int))) (_:Saw H x R ls wt) (_:(way=1/\k=t0->∀H',Exc A H H'->H' A=some (.lst (as++ [.str "sky"]))->Q bad H')) (_:(¬(way=1/\k=t0)->∀u H',Exc A H H'->H' A=some (.lst (as++ [.str "sky"]))->H' u=some (.tup ((rzG R wt).map V.int))->Sil R wt (rzG R wt)->Q (.ref u) H'))
inductive Sne (a:Ad) (vs:List V) (H:Hp) (Q:VK) (z3:XK):Prop where
 |mk (p:S5) (way t0:Int) (td bad:V) (A:S5) (R:Jn1) (_:vs= [.int way,td,.ref A,bad,.int t0]) (_:Sci p H td R) (_:Jor R) (_:H a.Jme=some (.tbl lb__law_told)) (_:∀(L f g rw':S5) (H':Hp),Sn H H'->H' L=some (.lst [.ref f,.ref g])->H' rw'=some (.tup ((zsN R.Bs.length).map V.int))->Ybj H' f A way t0 bad rw'->Skd H' g A td way t0 bad rw'->Q (.ref L) H')
theorem Jyb:∀{α:Type} (l:List α),(l.map λ_=>V.int 0)=(zsN l.length).map V.int
 |_,[]=>rfl
 |_,_::r=>congrArg (V.int 0::·) (Jyb r)
theorem Jqo:Jr7 ["_law_standing_here","_law_k","_law_bad","_law_row","_law_asked","_law_way","_law_at"] ["_law_standing_here","_law_k"] ["_law_bad","_law_row","_law_asked","_law_way","_law_at"] (Jml (nst (top 88) 1)):=⟨rfl,rfl,rfl,by decide +kernel,rfl,by decide +kernel,by decide +kernel,by decide +kernel⟩
theorem Yav (T:Tx K mg a) (f:S5):Jws P w K mg base CX0 1 f (Ya6 "_law_keeper" "_law_told.<locals>._law_keeper" (nst (top 88) 1) ["_law_bad","_law_row","_law_asked","_law_way","_law_at"] Smz f):=by
 refine Yj Jqo (λ_ _ _ _ _ us hl=>match us,hl with| [_,_],_=>rfl) (λcs vs H Q E h=>?_) (λf c clos A outer s H vs cs Q E hr h=>?_) f
 ·obtain ⟨A,rw',as,bad,x,way,t0,k,rfl,rfl,_⟩:=h
  exact ⟨rfl,rfl⟩
 ·obtain ⟨A,rw',as,bad,x,way,t0,kk,rfl,rfl,hA,la,k1,k2⟩:=h
  refine ⟨?t,?B,?C⟩
  case B=>
   refine' Jmi ?O0 ?O1
   case O0=>exact (Jom (Jrl F.plainAttrs_list F.slot_list_append F.type_list_append Jop (pv 4) (So Joo Ss)))
   case O1=>
   refine' Jmi ?O2 ?O3
   case O2=>
    refine' Jn6 ?O4 ?O5 ?O6
    case O4=>exact (PW.pt (Jsn (Jna Joe (pv 5) Sw (Jn4 _)) (Jt5 (Jna Joe (pv 1) (pv 6) (Jn4 _)))))
    case O5=>
     refine' Jmk ?O7
     case O7=>exact (Jms (pv 2))
    case O6=>exact Jmu
   case O3=>
   refine' Jmk ?O8
   case O8=>exact (Jms (Jnx (So (pv 3) (So Joa Ss))))
  refine ⟨_,rfl,.inl ⟨rfl,_,Sy.of hA⟩,A,_,_,rfl,rfl,hA,Jne (by omega),?_⟩
  have no:¬(way=0/\kk=t0)->∀c,upd H A (.lst (as++ [.str "keeper"])) c=none->Q (.ref c) (upd (upd H A (.lst (as++ [.str "keeper"]))) c (.tup [.ref rw', .non])):=λhw c hc=>by
   have nc:A≠c:=λz=>by rw [<-z,Sv] at hc;cases hc
   exact k2 hw c _ (Exc.upd.trans (Exc.same (Sn.upd hc))) (by rw [Jmm nc];exact Sv) Sv
  refine ⟨_,rfl,rfl,_,rfl,?_⟩
  by_cases h0:way=0
  ·subst h0
   refine ifT (decide_eq_true rfl) ⟨_,rfl,_,rfl,rfl,_,rfl,?_⟩
   by_cases h1:kk=t0
   ·subst h1
    exact ifT (decide_eq_true rfl) ⟨_,rfl,k1 ⟨rfl,rfl⟩ _ Exc.upd Sv⟩
   ·refine ifF (decide_eq_false λz=>h1 (V.int.inj z)) ?_
    exact ⟨_,rfl,(show 2<=Sa by decide),λc hc=>no (λz=>h1 z.2) c hc⟩
  ·refine ifF (decide_eq_false λz=>h0 (V.int.inj z)) (Jni ?_)
   exact ⟨_,rfl,(show 2<=Sa by decide),λc hc=>no (λz=>h0 z.1) c hc⟩
theorem Jrw:Jr7 ["_law_standing_here","_law_choice_here","_law_k","_law_bad","_law_told_here","_law_row","_law_asked","_law_way","_law_at"] ["_law_standing_here","_law_choice_here","_law_k"] ["_law_bad","_law_told_here","_law_row","_law_asked","_law_way","_law_at"] (Jml (nst (top 88) 2)):=⟨rfl,rfl,rfl,by decide +kernel,rfl,by decide +kernel,by decide +kernel,by decide +kernel⟩
theorem Smj (T:Tx K mg a) (f:S5):Jws P w K mg base CX0 3 f (Ya6 "_law_sky" "_law_told.<locals>._law_sky" (nst (top 88) 2) ["_law_bad","_law_told_here","_law_row","_law_asked","_law_way","_law_at"] (Sqn K a) f):=by
 have Scb:=Js9 (P:=P) (w:=w) (base:=base) T
 refine Yj Jrw (λ_ _ _ _ _ us hl=>match us,hl with| [_,_,_],_=>rfl) (λcs vs H Q E h=>?_) (λf c clos A outer s H vs cs Q E hr h=>?_) f
 ·obtain ⟨A,rw',as,H0,p,o,td,R,S,bad,x,y,ls,wt,way,t0,k,rfl,rfl,_⟩:=h
  exact ⟨rfl,rfl⟩
 ·obtain ⟨A,rw',as,H0,p,o,td,R,S,bad,x,y,ls,wt,way,t0,kk,rfl,rfl,hA,la,n0,s0,wx,hrw,sd,k1,k2⟩:=h
  refine ⟨?t,?B,?C⟩
  case B=>
   refine' Jmi ?O0 ?O1
   case O0=>exact (Jom (Jrl F.plainAttrs_list F.slot_list_append F.type_list_append Jop (pv 6) (So Joo Ss)))
   case O1=>
   refine' Jmi ?O2 ?O3
   case O2=>
    refine' Jn6 ?O4 ?O5 ?O6
    case O4=>exact (PW.pt (Jsn (Jna Joe (pv 7) Sw (Jn4 _)) (Jt5 (Jna Joe (pv 2) (pv 8) (Jn4 _)))))
    case O5=>
     refine' Jmk ?O7
     case O7=>exact (Jms (pv 3))
    case O6=>exact Jmu
   case O3=>
   refine' Jmk ?O8
   case O8=>exact (Jms (Jmn T.Ja1 Scb hr (by decide) (So (pv 4) (So (Jmv Jn2 (pv 0) Sw (λ_ _=>rfl)) (So (pv 5) Ss)))))
  refine ⟨_,rfl,.inl ⟨rfl,_,Sy.of hA⟩,A,_,_,rfl,rfl,hA,Jne (by omega),?_⟩
  have e1:Exc A H (upd H A (.lst (as++ [.str "sky"]))):=Exc.upd
  have wx1:=wx.same (e1.of n0 s0)
  have sd1:=sd.exc hA e1
  have hrw1:=e1.get hA hrw (by intro _ z;cases z)
  have hA1:=Sv (H:=H) (a:=A) (o:=.lst (as++ [.str "sky"]))
  generalize upd H A (.lst (as++ [.str "sky"]))=H1 at*
  obtain ⟨⟨y',u,rfl,hy,hu⟩,_,_,w0,_⟩:=id sd1
  refine ⟨_,rfl,rfl,_,rfl,?_⟩
  by_cases h0:way=1
  ·subst h0
   refine ifT (decide_eq_true rfl) ⟨_,rfl,_,rfl,rfl,_,rfl,?_⟩
   by_cases h1:kk=t0
   ·subst h1
    exact ifT (decide_eq_true rfl) ⟨_,rfl,k1 ⟨rfl,rfl⟩ _ e1 hA1⟩
   ·refine ifF (decide_eq_false λz=>h1 (V.int.inj z)) ?_
    exact ⟨_,rfl,_,rfl,y',_,1,_,rfl,rfl,SqT.of hy,rfl,_,rfl,p,td,R,wt,rw',rfl,wx1.rt,wx.rg,w0,hrw1,λv H' s' hv ri=>k2 (λz=>h1 z.2) v H' (e1.trans (Exc.same s')) (s' _ _ hA1) hv ri⟩
  ·refine ifF (decide_eq_false λz=>h0 (V.int.inj z)) (Jni ?_)
   exact ⟨_,rfl,_,rfl,y',_,1,_,rfl,rfl,SqT.of hy,rfl,_,rfl,p,td,R,wt,rw',rfl,wx1.rt,wx.rg,w0,hrw1,λv H' s' hv ri=>k2 (λz=>h0 z.1) v H' (e1.trans (Exc.same s')) (s' _ _ hA1) hv ri⟩
theorem Sc9:Jmp ["_law_way","_law_told_here","_law_asked","_law_bad","_law_at","_law_row","_law_keeper","_law_sky"] ["_law_way","_law_told_here","_law_asked","_law_bad","_law_at"] (Jml (top 88)):=⟨rfl,rfl,rfl,by decide +kernel,rfl,by decide +kernel,by decide +kernel⟩
theorem Jyu (T:Tx K mg a) (B:Bmn mg base):Sx P w K mg base CX0 1 a.Jl8 a.Jl9 ["_law_way","_law_told_here","_law_asked","_law_bad","_law_at"] (Sne a):=by
 refine T.Ja7.fn.okN T.Jfp Sc9 (λvs H Q E h=>?_) (λA outer s H vs Q E hr h=>?_)
 ·obtain ⟨p,way,t0,td,bad,A,R,rfl,_⟩:=h
  rfl
 ·obtain ⟨p,way,t0,td,bad,A,R,rfl,rt,rg,ht,k⟩:=h
  refine ⟨?t,PB.nox ?B,?C⟩
  case B=>
   refine' Yec ?O0 ?O1
   case O0=>exact (Jmt (i:=5) Sc9.nd rfl (Or.inr rfl) (Jn3 Jn5 (by rfl) T.Jb1 Jnk (So (Jng (N:=(["_law_one"]:List Str)) (ini:=[none]) rfl (Jo2 (Jmv Jn2 (pv 1) Sw (λ_ _=>rfl))) (λ_ _ _ _ _=>(Jmr (i:=0) (by decide +kernel:(["_law_one"]:List Str).Nodup) rfl (ye rfl))) (λ_ _ _ _ _=>Jnf) (λ_ _ _ _ _=>Sw)) Ss)))
   case O1=>
   refine' Smp (caps:=[("_law_way",0),("_law_told_here",1),("_law_asked",2),("_law_bad",3),("_law_at",4),("_law_row",5)]) (by intro y hy;simp only [yk,yp,or_false] at hy;rcases hy with rfl|rfl|rfl|rfl|rfl|rfl <;> exact ⟨rfl,rfl,rfl⟩) ?O2
   case O2=>
   refine' Ya0 (st:=nst (top 88) 1) (name:="_law_keeper") (qual:="_law_told.<locals>._law_keeper") (i:=6) (lb:=lb__law_told) (caps:=["_law_bad","_law_row","_law_asked","_law_way","_law_at"]) T.Jfp B rfl rfl rfl rfl rfl (by rfl) (by unfold lb__law_told;simp) Jpz Sc9.nd rfl rfl (by decide +kernel) (by decide +kernel) ?O3
   case O3=>
   refine' Ya0 (st:=nst (top 88) 2) (name:="_law_sky") (qual:="_law_told.<locals>._law_sky") (i:=7) (lb:=lb__law_told) (caps:=["_law_bad","_law_told_here","_law_row","_law_asked","_law_way","_law_at"]) T.Jfp B rfl rfl rfl rfl rfl (by rfl) (by unfold lb__law_told;simp) Jqs Sc9.nd rfl rfl (by decide +kernel) (by decide +kernel) ?O4
   case O4=>
   refine' PSs.pb ?O5
   case O5=>
   refine' Jmk ?O6
   case O6=>exact (Jms (Jnt (So (pv 6) (So (pv 7) Ss))))
  obtain ⟨t,lb,lt,bs,ts,rfl,htt,hb,btl,_⟩:=id rt
  have blen:=btl.len
  have hn:=rg.n
  refine ⟨_,rfl,t,_,2,_,rfl,rfl,SqT.of htt,rfl,lb,rfl,⟨_,Sy.of hb⟩,λD hD=>?_⟩
  refine Jow (bs.map λ_=>V.int 0) hD (by simp) (by omega) hb ?_ ?_
  ·intro i x y H' Q' hx hy sm k'
   rw [yj,hx] at hy
   cases hy
   exact k' _ λ_ _ h=>h
  intro H1 s1 hD1
  refine ⟨D,_,rfl,.inl ⟨Sy.of hD1,λu hu=>?_⟩⟩
  have s2:=s1.trans (Sn.upd (o:=.tup (bs.map λ_=>V.int 0)) hu)
  have hu2:=Sv (H:=H1) (a:=u) (o:=.tup (bs.map λ_=>V.int 0))
  generalize upd H1 u (.tup (bs.map λ_=>V.int 0))=H2 at*
  rw [Jyb,blen] at hu2
  refine ⟨[.int way,.ref t,.ref A,bad,.int t0,.ref u],?_,rfl,λH3 s3 ce=>?_⟩
  ·intro y hy
   simp only [List.zip_cons_cons,List.zip_nil_right,yk,yp,or_false] at hy
   rcases hy with rfl|rfl|rfl|rfl|rfl|rfl <;> rfl
  have s13:=s2.trans s3
  refine ⟨s13 _ _ ht,[bad,.ref u,.ref A,.int way,.int t0],ce.sub rfl (by simp),λf H4 s4 nf clo=>?_⟩
  have s14:=s13.trans s4
  refine ⟨s14 _ _ ht,[bad,.ref t,.ref u,.ref A,.int way,.int t0],(ce.same s4).sub rfl (by simp),λg H5 s5 ng clo2=>?_⟩
  refine ⟨_,rfl,_,rfl,(show 2<=Sa by decide),λL hL=>?_⟩
  have s6:=Sn.upd (o:=.lst [.ref f,.ref g]) hL
  exact k L f g u _ ((s14.trans s5).trans s6) Sv (s6 _ _ (s5 _ _ (s4 _ _ (s3 _ _ hu2)))) ((clo.same s5).same s6) (clo2.same s6)
section
variable (R:Jn1) (S:Riv) (ls:List Int) (wt:Int)
def stG:Nat->List Int×Int
 |0=>(ls,wt)
 |i+1=>(Jr3 S (R.Bs.map (·.G)) (stG i).1 (zsN R.Bs.length) .non (rzG R (stG i).2),Jtf S (stG i).2 (rzG R (stG i).2))
def gL (i:Nat):List Int:=(stG R S ls wt i).1
def gW (i:Nat):Int:=(stG R S ls wt i).2
def gV (i:Nat):List Int:=Jr3 S (R.Bs.map (·.G)) (gL R S ls wt i) (zsN R.Bs.length) .non (rzG R (gW R S ls wt i))
def gB (i:Nat):List Int:=Jos 0 S.Bs (gV R S ls wt i)
theorem Yo (i:Nat):gL R S ls wt (i+1)=gV R S ls wt i:=by simp only [gL,gV,gW,stG]
theorem Yp (i:Nat):gW R S ls wt (i+1)=Jtf S (gW R S ls wt i) (rzG R (gW R S ls wt i)):=by simp only [gW,stG]
def Si9 (way t0:Int) (i:Nat):Prop:=¬(way=0/\(i:Int)=t0)/\¬(way=1/\(i:Int)=t0)
def Sfc (n:Nat) (way t0:Int) (i r:Nat):Prop:=i<=n/\(∀j,j < i->Si9 way t0 j)/\(∀j,j+1 < i->gB R S ls wt j= [])/\
 (r=0/\i < n/\way=0/\(i:Int)=t0/\(∀j,j < i->gB R S ls wt j= [])\/r=1/\i < n/\way=1/\(i:Int)=t0/\(∀j,j < i->gB R S ls wt j= [])\/r=2/\(i=n/\(∀j,j < i->gB R S ls wt j= [])\/∃j,i=j+1/\gB R S ls wt j≠ []))
end
theorem Sfc.uniq {R:Jn1} {S:Riv} {ls:List Int} {wt:Int} {n:Nat} {way t0:Int} {i r i' r':Nat} (h:Sfc R S ls wt n way t0 i r) (k:Sfc R S ls wt n way t0 i' r'):i=i'/\r=r':=by
 have lt:∀{i r i' r':Nat},Sfc R S ls wt n way t0 i r->Sfc R S ls wt n way t0 i' r'->¬i < i':=λ{i r i' r'} h k z=>by
  obtain ⟨_,_,_,h3⟩:=h
  obtain ⟨k1,k2,k3,_⟩:=k
  have c:=k2 i z
  rcases h3 with ⟨_,_,w,e,_⟩|⟨_,_,w,e,_⟩|⟨_,⟨e,_⟩|⟨j,rfl,ne⟩⟩
  ·exact c.1 ⟨w,e⟩
  ·exact c.2 ⟨w,e⟩
  ·omega
  ·exact ne (k3 j z)
 have e:i=i':=by
  rcases Nat.lt_trichotomy i i' with z|z|z
  ·exact absurd z (lt h k)
  ·exact z
  ·exact absurd z (lt k h)
 subst e
 refine ⟨rfl,?_⟩
 obtain ⟨_,_,_,h3⟩:=h
 obtain ⟨_,_,_,k3⟩:=k
 rcases h3 with ⟨e1,a1,w1,_,b1⟩|⟨e1,a1,w1,_,b1⟩|⟨e1,b1⟩ <;> rcases k3 with ⟨e2,a2,w2,_,b2⟩|⟨e2,a2,w2,_,b2⟩|⟨e2,b2⟩
 ·omega
 ·omega
 ·rcases b2 with ⟨z,_⟩|⟨j,rfl,ne⟩
  ·omega
  ·exact absurd (b1 j (by omega)) ne
 ·omega
 ·omega
 ·rcases b2 with ⟨z,_⟩|⟨j,rfl,ne⟩
  ·omega
  ·exact absurd (b1 j (by omega)) ne
 ·rcases b1 with ⟨z,_⟩|⟨j,rfl,ne⟩
  ·omega
  ·exact absurd (b2 j (by omega)) ne
 ·rcases b1 with ⟨z,_⟩|⟨j,rfl,ne⟩
  ·omega
  ·exact absurd (b2 j (by omega)) ne
 ·omega
def Jp7:Nat->List V
 |0=>[]
 |i+1=>Jp7 i++ [.str "keeper",.str "sky"]
def Yai (r:Nat):List V:=if r=0 then [.str "keeper"] else if r=1 then [.str "keeper",.str "sky"] else []
theorem Jv7:∀i:Nat,(Jp7 i).length=2*i
 |0=>rfl
 |i+1=>by rw [Jp7,yah,Jv7 i];rfl
def Jzj:Pr->List Int
 | .two _ _ (some vs)=>vs.map Jq1
 |_=>[]
theorem Yd8 {K:Si} {H:Hp} {x:V} {R:Jn1} {S:Riv} {q:Pr} (lk:Jqe R S) (h:stB S q=true) (p:PrT K H x q):Saw H x R (Jzj q) (Jq7 q):=by
 have hl:=Jod lk
 cases q with
 |no=>cases h
 |oth=>cases h
 |two u w r=>
  have h':(Jmz w 0 S.c&&Joy r (S.Bs.map (·.lo)) (S.Bs.map (·.hi)))=true:=h
  rw [yx] at h'
  obtain ⟨wt,rfl⟩:=Jp3 h'.1
  have h2:(decide (0<=wt)&&decide (wt<=S.c))=true:=h'.1
  have h3:0<=wt/\wt<=S.c:=by simpa using h2
  obtain ⟨ls,rfl,ln,b⟩:=Jv4 (by simp) h'.2
  obtain ⟨y,rfl,hy,⟨uu,rfl,hu,_,_⟩,_⟩:=p
  have e1:Jzj (.two (.ref uu) (.int wt) (some (ls.map V.int)))=ls:=by
   show (ls.map V.int).map Jq1=ls
   simp [ybb,ybv,Jq1]
  have e2:Jq7 (.two (.ref uu) (.int wt) (some (ls.map V.int)))=wt:=rfl
  rw [e1,e2]
  have ln':ls.length=S.Bs.length:=by simpa using ln
  refine ⟨⟨y,uu,rfl,hy,hu⟩,by omega,λi n e=>?_,h3.1,by rw [<-lk.c];exact h3.2⟩
  have hi:i < ls.length:=(yo.mp e).1
  have eB:S.Bs[i]?=some (S.Bs[i]'(by omega)):=yh (by omega)
  have eC:R.Bs[i]?=some (R.Bs[i]'(by omega)):=yh (by omega)
  have q:=Jpv lk eB eC
  have q1:(S.Bs[i]'(by omega)).lo=(R.Bs[i]'(by omega)).lo:=congrArg (·.2.1) q
  have q2:(S.Bs[i]'(by omega)).hi=(R.Bs[i]'(by omega)).hi:=congrArg (·.2.2.1) q
  have bb:(S.Bs[i]'(by omega)).lo<=n/\n<=(S.Bs[i]'(by omega)).hi:=b i n _ _ e (by rw [yj,eB];rfl) (by rw [yj,eB];rfl)
  exact ⟨_,eC,by omega,by omega⟩
structure Ask (K:Si) (a:Ad) (p o:S5) (H:Hp) (td:V) (R:Jn1) (S:Riv) (x:V) (q:Pr) (bad:V) (bq:Pr) (rr:Option (List V)):Prop where
 wx:WX K a p o H td R S
 px:PrT K H x q
 pb:PrT K H bad bq
 rb:Sdb K H bad rr
 nc:chB S bq=false
 nr:∀wet,rnB S wet rr=false
theorem Ask.same {K:Si} {a:Ad} {p o:S5} {H H':Hp} {td:V} {R:Jn1} {S:Riv} {x:V} {q:Pr} {bad:V} {bq:Pr} {rr:Option (List V)} (s:Sn H H') (h:Ask K a p o H td R S x q bad bq rr):Ask K a p o H' td R S x q bad bq rr:=⟨h.wx.same s,h.px.same s,h.pb.same s,h.rb.same s,h.nc,h.nr⟩
def Sbz (H:Hp) (v:V):Prop:=(∃n:Int,v= .int n)\/v= .bl true\/v= .non\/v= .str "3" \/∃l,v= .ref l/\H l=some (.lst [.int 2])
theorem Sbz.same {H H':Hp} {v:V} (s:Sn H H') (h:Sbz H v):Sbz H' v:=by
 rcases h with h|h|h|h|⟨l,e,h⟩
 ·exact .inl h
 ·exact .inr (.inl h)
 ·exact .inr (.inr (.inl h))
 ·exact .inr (.inr (.inr (.inl h)))
 ·exact .inr (.inr (.inr (.inr ⟨l,e,s _ _ h⟩)))
theorem Sbz.tm {K:Si} {H:Hp} {v:V} (h:Sbz H v):Tm K H v:=by
 rcases h with h|rfl|rfl|rfl|⟨l,rfl,h⟩
 ·exact .inl h
 ·exact .inr ⟨_,.of (.bl _),rfl⟩
 ·exact .inr ⟨_,.of .non,rfl⟩
 ·exact .inr ⟨_,.of (.str _),rfl⟩
 ·exact .inr ⟨_,.of (.lst h),rfl⟩
theorem Sbz.own {H:Hp} {v:V} (h:Sbz H v):Own H v:=by
 rcases h with ⟨n,rfl⟩|rfl|rfl|rfl|⟨l,rfl,h⟩
 ·exact .inl rfl
 ·exact .inl rfl
 ·exact .inl rfl
 ·exact .inl rfl
 ·exact Juz h λv hv=>by rw [yca.mp hv];exact .inl rfl
def Sdh (R:Jn1) (S:Riv) (x:V) (q:Pr) (mv bad:V) (way t0:Int) (D:Option (Nat×V)) (as:List V):Prop:=
 Jmz mv 0 200=false/\D=some (0,mv)/\as= []\/Jmz mv 0 200=true/\stB S q=false/\D=some (1,x)/\as= []\/
 Jmz mv 0 200=true/\stB S q=true/\∃i r,Sfc R S (Jzj q) (Jq7 q) (Jq1 mv).toNat way t0 i r/\D=(if r=0 then some (2,bad) else if r=1 then some (3,bad) else none)/\as=Jp7 i++Yai r
theorem Sdh.uniq {R:Jn1} {S:Riv} {x:V} {q:Pr} {mv bad:V} {way t0:Int} {D D':Option (Nat×V)} {as as':List V} (h:Sdh R S x q mv bad way t0 D as) (k:Sdh R S x q mv bad way t0 D' as'):D=D'/\as=as':=by
 rcases h with ⟨h1,h2,h3⟩|⟨h1,h2,h3,h4⟩|⟨h1,h2,i,r,h3,h4,h5⟩ <;> rcases k with ⟨k1,k2,k3⟩|⟨k1,k2,k3,k4⟩|⟨k1,k2,i',r',k3,k4,k5⟩
 ·exact ⟨h2.trans k2.symm,h3.trans k3.symm⟩
 ·rw [h1] at k1;cases k1
 ·rw [h1] at k1;cases k1
 ·rw [h1] at k1;cases k1
 ·exact ⟨h3.trans k3.symm,h4.trans k4.symm⟩
 ·rw [h2] at k2;cases k2
 ·rw [h1] at k1;cases k1
 ·rw [h2] at k2;cases k2
 ·obtain ⟨rfl,rfl⟩:=h3.uniq k3
  exact ⟨h4.trans k4.symm,h5.trans k5.symm⟩
theorem Jz3 {H:Hp} {y u:S5} {R:Jn1} {S:Riv} {lv:List Int} {wet:Int} (lk:Jqe R S) (l:lv.length=S.Bs.length) (hb:Jos 0 S.Bs lv= []) (w:0<=wet/\wet<=S.c) (h1:H y=some (.tup [.ref u,.int wet])) (h2:H u=some (.tup (lv.map V.int))):Saw H (.ref y) R lv wet:=by
 have hl':=Jod lk
 refine ⟨⟨y,u,rfl,h1,h2⟩,by omega,λn v e1=>?_,w.1,by rw [<-lk.c];exact w.2⟩
 have hn:n < lv.length:=(yo.mp e1).1
 have eB:S.Bs[n]?=some (S.Bs[n]'(by omega)):=yh (by omega)
 have eC:R.Bs[n]?=some (R.Bs[n]'(by omega)):=yh (by omega)
 have q:=Ybn hb n v _ e1 eB
 have key:=Jpv lk eB eC
 have q1:(S.Bs[n]'(by omega)).lo=(R.Bs[n]'(by omega)).lo:=congrArg (·.2.1) key
 have q2:(S.Bs[n]'(by omega)).hi=(R.Bs[n]'(by omega)).hi:=congrArg (·.2.2.1) key
 exact ⟨_,eC,by omega,by omega⟩
theorem Yu {S:Riv} {Gs:List Jnd} {ls cs rn:List Int} {tv:V} (l:ls.length=S.Bs.length) (so:Sbj Gs cs (lft S ls tv)) (r:rn.length=S.Bs.length):(Jpw S Gs ls cs tv).length=S.Bs.length/\(Jr3 S Gs ls cs tv rn).length=S.Bs.length:=by
 have e:=so.len
 have fl:(lft S ls tv).length=ls.length:=Jux
 have ol:(Jpw S Gs ls cs tv).length=Gs.length:=Jqm e.1 e.2
 refine ⟨by omega,?_⟩
 have:(Jr3 S Gs ls cs tv rn).length=(lft S ls tv).length:=Jr8 (by omega) (by omega)
 omega
theorem Y8 {K:Si} {H:Hp} {x:V} {R:Jn1} {S:Riv} {ls:List Int} {wt:Int} (rg:Jor R) (lk:Jqe R S) (h:Saw H x R ls wt):∃q,PrT K H x q/\stB S q=true:=by
 have hl:=Jod lk
 have hn:=rg.n
 obtain ⟨⟨y,u,rfl,hy,hu⟩,lls,lin,w0,w1⟩:=h
 refine ⟨.two (.ref u) (.int wt) (some (ls.map V.int)),⟨y,rfl,hy,⟨u,rfl,hu,λv hv=>Jq5 hv,by rw [yf];omega⟩,.inl ⟨wt,rfl⟩⟩,?_⟩
 show ((decide (0<=wt)&&decide (wt<=S.c))&&Joy (some (ls.map V.int)) (S.Bs.map (·.lo)) (S.Bs.map (·.hi)))=true
 rw [Jt7 (by rw [yf];omega) (by simp),decide_eq_true w0,decide_eq_true (by rw [lk.c];exact w1)]
 ·rfl
 ·intro i n l h e1 e2 e3
  rw [yj] at e2 e3
  obtain ⟨B,hB,rfl⟩:=yak.mp e2
  rw [hB] at e3
  cases e3
  obtain ⟨C,eC,b⟩:=lin i n e1
  have q:=Jpv lk hB eC
  have q1:B.lo=C.lo:=congrArg (·.2.1) q
  have q2:B.hi=C.hi:=congrArg (·.2.2.1) q
  show B.lo<=n/\n<=B.hi
  rw [q1,q2]
  exact b
def Sqf (b:V) (t:S5):List (Str×V):=[("begin",b),("turns",.ref t)]
theorem pfR (b:V) (t:S5):Jo3 "turns" (.ref t) (Jo3 "begin" b [])=Sqf b t:=Jnu (show (["begin"]:List Str).contains "turns" =false by decide +kernel)
inductive Snc (a:Ad) (vs:List V) (H:Hp) (Q:VK) (z3:XK):Prop where
 |mk (p dx L:S5) (H0:Hp) (b:V) (ts:List V) (_:vs= [.ref p,b,.ref L]) (_:H0 p=none) (_:Sn H0 H) (_:H p=some (.ins a.Jm4 dx [])) (_:H L=some (.lst ts)) (_:∀t H',Sn H0 H'->H' p=some (.ins a.Jm4 dx (Sqf b t))->H' t=some (.tup ts)->Q .non H')
structure RnX (K:Si) (a:Ad) (H:Hp) (A f g rw' p o:S5) (H0:Hp) (td:V) (R:Jn1) (S:Riv) (x:V) (q:Pr) (bad:V) (bq:Pr) (rr:Option (List V)) (way t0:Int):Prop where
 n0:H0 A=none
 s0:Sn H0 H
 ask:Ask K a p o H0 td R S x q bad bq rr
 z:H rw'=some (.tup ((zsN R.Bs.length).map V.int))
 kp:Ybj H f A way t0 bad rw'
 sk:Skd H g A td way t0 bad rw'
theorem RnX.exc {K:Si} {a:Ad} {H H':Hp} {A f g rw' p o:S5} {H0:Hp} {td:V} {R:Jn1} {S:Riv} {x:V} {q:Pr} {bad:V} {bq:Pr} {rr:Option (List V)} {way t0:Int} {as as':List V} (hA:H A=some (.lst as)) (hA':H' A=some (.lst as')) (e:Exc A H H') (h:RnX K a H A f g rw' p o H0 td R S x q bad bq rr way t0):RnX K a H' A f g rw' p o H0 td R S x q bad bq rr way t0:=⟨h.n0,e.of h.n0 h.s0,h.ask,e.get hA h.z (by intro _ z;cases z),Sc4.ll (e.ll hA hA') h.kp,Sc4.ll (e.ll hA hA') h.sk⟩
theorem RfC.sm {C:S5} {H H':Hp} {x:V} {c:S6} {eo:Option S5} (h:RfC C H H' x c eo):Sn H H':=by obtain ⟨_,_,_,_,s,_⟩:=h;exact s
def RfA (C A:S5) (H H':Hp) (x:V) (c:S6) (eo:Option S5):Prop:=∃H1,Exc A H H1/\RfC C H1 H' x c eo
theorem RfA.pre {C A:S5} {H0 H H':Hp} {x:V} {c:S6} {eo:Option S5} (e:Exc A H0 H) (h:RfA C A H H' x c eo):RfA C A H0 H' x c eo:=by obtain ⟨H1,e1,r⟩:=h;exact ⟨H1,e.trans e1,r⟩
inductive Sn6 (K:Si) (a:Ad) (vs:List V) (H:Hp) (Q:VK) (E:XK):Prop where
 |mk (A f g rw' p o:S5) (as:List V) (H0:Hp) (td:V) (R:Jn1) (S:Riv) (x0:V) (q:Pr) (bad:V) (bq:Pr) (rr:Option (List V)) (way t0:Int) (x:V) (ls:List Int) (wt k:Int) (_:vs= [.ref o,x,.ref f,.ref g,.int k]) (_:H A=some (.lst as)) (_:as.length<=900) (_:RnX K a H A f g rw' p o H0 td R S x0 q bad bq rr way t0) (_:Saw H x R ls wt) (_:(way=0/\k=t0->∀cl eo H',RfA a.Jm0 A H H' bad cl eo->H' A=some (.lst (as++ [.str "keeper"]))->E cl eo H')) (_:(way=1/\k=t0->∀cl eo H',RfA a.Jm1 A H H' bad cl eo->H' A=some (.lst (as++ [.str "keeper",.str "sky"]))->E cl eo H')) (_:(¬(way=0/\k=t0)->¬(way=1/\k=t0)->∀(t:S5) (c:V) (r:S5) (H':Hp),Exc A H H'->H' A=some (.lst (as++ [.str "keeper",.str "sky"]))->Sfr a H' t c (.ref r) S (R.Bs.map (·.G)) ls (zsN R.Bs.length) wt .non (rzG R wt)->Sdc H' c R (zsN R.Bs.length) .non->H' r=some (.tup ((rzG R wt).map V.int))->Sil R wt (rzG R wt)->Q (.ref t) H'))
theorem Ybq {K:Si} {H:Hp} {c:V} {R:Jn1} {S:Riv} {cs:List Int} {tv:V} (rg:Jor R) (lk:Jqe R S) (h:Sdc H c R cs tv):∃r,PrT K H c r/\chB S r=true:=by
 have hl:=Jod lk
 have hn:=rg.n
 obtain ⟨⟨z,zu,rfl,hz,hzu⟩,lcs,cin,tw⟩:=h
 refine ⟨.two (.ref zu) tv (some (cs.map V.int)),⟨z,rfl,hz,⟨zu,rfl,hzu,λv hv=>Jq5 hv,by rw [yf];omega⟩,?_⟩,?_⟩
 ·rcases tw with rfl|⟨j,rfl,_⟩
  ·exact Ya9 rfl
  ·exact .inl ⟨j,rfl⟩
 ·show (Jrx S.Ts.length tv&&Joy (some (cs.map V.int)) (yt S.Bs.length 0) (S.Bs.map λB=>(B.n:Int) - 1))=true
  rw [Jt7 (by rw [yat];omega) (by simp)]
  ·rcases tw with rfl|⟨j,rfl,j0,j1⟩
   ·rfl
   ·show ((decide (0<=j)&&decide (j<=(S.Ts.length:Int) - 1))&&true)=true
    rw [decide_eq_true j0,decide_eq_true (show j<=(S.Ts.length:Int) - 1 by rw [Jqj lk];omega)]
    rfl
  ·intro i n l h e1 e2 e3
   rw [yj] at e3
   obtain ⟨B,hB,rfl⟩:=yak.mp e3
   rw [ybj] at e2
   split at e2
   ·cases e2
    obtain ⟨n0,_,C,eC,b⟩:=cin i n e1
    have q1:B.n=nOf C.G:=congrArg (·.2.2.2.2.2) (Jpv lk hB eC)
    omega
   ·cases e2
theorem Ydu {H:Hp} {c u:S5} {R:Jn1} (rg:Jor R) (hc:H c=some (.tup [.ref u,.non])) (hu:H u=some (.tup ((zsN R.Bs.length).map V.int))):Sdc H (.ref c) R (zsN R.Bs.length) .non:=by
 have l:(zsN R.Bs.length).length=R.Bs.length:=yat
 refine ⟨⟨c,u,rfl,hc,hu⟩,l,λi n e=>?_,.inl rfl⟩
 have e0:=Ydv e
 have hi:i < (zsN R.Bs.length).length:=(yo.mp e).1
 have eB:R.Bs[i]?=some (R.Bs[i]'(by omega)):=yh (by omega)
 have:=Smh (rg.Bs _ (yy eB)).1.G
 exact ⟨by omega,by omega,_,eB,by omega⟩
theorem Juq:Jmp ["self","begin","turns"] ["self","begin","turns"] (Jml (Jmw (top 38) 0)):=⟨rfl,rfl,rfl,by decide +kernel,rfl,by decide +kernel,by decide +kernel⟩
theorem Jyn (T:Tx K mg a):Sx P w K mg base CX0 1 a.Jiu a.Jiv ["self","begin","turns"] (Snc a):=by
 refine T.Jcr.fn.ok Juq (λvs H Q E h=>?_) (λcdv A outer s H vs Q E hr h=>?_)
 ·obtain ⟨p,dx,L,H0,b,ts,rfl,_⟩:=h
  rfl
 ·obtain ⟨p,dx,L,H0,b,ts,rfl,np,s0,hp,hL,k⟩:=h
  refine ⟨?t,?B,?C⟩
  case B=>
   refine' Jmi ?O0 ?O1
   case O0=>exact (Jnv (pv 0) (pv 1) rfl)
   case O1=>
   refine' Jmk ?O2
   case O2=>exact (Jnv (pv 0) (Jn3 Jn5 (by rfl) T.Jb1 Jnk (So (pv 2) Ss)) rfl)
  have nL:L≠p:=λz=>by rw [z,hp] at hL;cases hL
  have new:∀{Ha:Hp} {ob:HO},Sn H0 Ha->Sn H0 (upd Ha p ob):=λs b oo e=>by rw [Jmm (Jmo e np)];exact s _ _ e
  refine ⟨_,rfl,_,rfl,p,_,dx,[],rfl,hp,T.Jdq,T.Jf5,by simp,?_⟩
  refine ⟨_,rfl,L,_,rfl,.inl ⟨Sy.of (by rw [Jmm nL];exact hL),λt ht=>?_⟩⟩
  have nt:p≠t:=λz=>by rw [<-z,Sv] at ht;cases ht
  refine ⟨_,rfl,p,_,dx,_,rfl,(by rw [Jmm nt];exact Sv),T.Jdq,T.Jf6,by simp [Jo3],?_⟩
  rw [pfR]
  exact k t _ (new ((new s0).trans (Sn.upd ht))) Sv (by rw [Jmm nt.symm];exact Sv)
theorem Sdy:Jmp ["river","standing","keeper","sky","k","choice"] ["river","standing","keeper","sky","k"] (Jml (top 39)):=⟨rfl,rfl,rfl,by decide +kernel,rfl,by decide +kernel,by decide +kernel⟩
theorem Jxr (T:Tx K mg a):Sx P w K mg base (CXX P w) 8 a.Jiw a.Jix ["river","standing","keeper","sky","k"] (Sn6 K a):=by
 have Sib:=Yav (P:=P) (w:=w) (base:=base) T
 have Sp2:=Smj (P:=P) (w:=w) (base:=base) T
 have Sbm:=Jqx (P:=P) (w:=w) (base:=base) T
 have Sb0:=Jqk (P:=P) (w:=w) (base:=base) T
 have Sic:=Yaw (P:=P) (w:=w) (base:=base) T
 refine T.Ji.fn.okX Sdy (λvs H Q E h=>?_) (λcdv A outer s H vs Q E hr h=>?_)
 ·obtain ⟨A,f,g,rw',p,o,as,H0,td,R,S,x0,q,bad,bq,rr,way,t0,x,ls,wt,k,rfl,_⟩:=h
  rfl
 ·obtain ⟨A,f,g,rw',p,o,as,H0,td,R,S,x0,q,bad,bq,rr,way,t0,x,ls,wt,kk,rfl,hA,la,rx,sd,k1,k2,k3⟩:=h
  refine ⟨?t,?B,?C⟩
  case B=>
   refine' Jmi ?O0 ?O1
   case O0=>exact (Jmt (i:=5) Sdy.nd rfl (ye rfl) (Jyv Sib hr (by decide) 2 (So (pv 1) (So (pv 4) Ss))))
   case O1=>
   refine' Jmi ?O2 ?O3
   case O2=>
    refine' Jn6 ?O4 ?O5 ?O6
    case O4=>exact (Jn7 (Jnb (Jmn T.J7 Sbm hr (by decide) (So (pv 0) (So (pv 5) Ss)))))
    case O5=>
     refine' Jmk ?O7
     case O7=>exact (Jnl Jnn rfl (Jo4 T.Jdh Sb0 hr (by decide) T.Jcm.bd T.Jbb (So (pv 5) Ss)))
    case O6=>exact Jmu
   case O3=>
   refine' Jmk ?O8
   case O8=>
   refine' Jms ?O9
   case O9=>exact (Joj T.Jh Sic Jnn hr (by decide) (pa4 (pv 0) (pv 1) (pv 5) (Jyv Sp2 hr (by decide) 3 (So (pv 1) (So (pv 5) (So (pv 4) Ss))))))
  refine ⟨f,rfl,_,rfl,_,rfl,[bad,.ref rw', .ref A,.int way,.int t0],rx.kp,A,rw',as,bad,x,way,t0,kk,rfl,rfl,hA,by omega,λhw H1 e1 hA1=>?_,λhw c H1 e1 hA1 hc=>?_⟩
  ·have rx1:=rx.exc hA hA1 e1
   have ask1:=rx1.ask.same rx1.s0
   refine ⟨_,rfl,_,rfl,o,S,bad,bq,rfl,ask1.wx.rv.ro,ask1.pb,λH2 s2=>⟨_,rfl,?_⟩⟩
   rw [ask1.nc]
   have k1':∀cl eo H',RfC a.Jm0 H1 H' bad cl eo->E cl eo H':=λcl eo H' rf=>k1 hw cl eo H' ⟨H1,e1,rf⟩ (rf.sm _ _ hA1)
   exact Jnr (Jny T.Jdh T.Jeu rfl λe dx h1 h2 h3=>k1' _ _ _ ((RfC.new h1 h2 h3).of s2))
  ·have rx1:=rx.exc hA hA1 e1
   have ask1:=rx1.ask.same rx1.s0
   have wx1:=ask1.wx
   have sd1:=sd.exc hA e1
   have ch1:=Ydu wx1.rg hc rx1.z
   obtain ⟨q2,pq2,cb2⟩:=Ybq (K:=K) wx1.rg wx1.lk ch1
   refine ⟨_,rfl,_,rfl,o,S,.ref c,q2,rfl,wx1.rv.ro,pq2,λH2 s2=>⟨_,rfl,?_⟩⟩
   rw [cb2]
   refine Jni ?_
   have hA2:=s2 _ _ hA1
   have rx2:=rx1.exc hA1 hA2 (Exc.same s2)
   have sd2:=sd1.same s2
   have e12:=e1.trans (Exc.same s2)
   refine ⟨_,rfl,_,rfl,_,rfl,g,rfl,_,rfl,_,rfl,_,rfl,[bad,td,.ref rw', .ref A,.int way,.int t0],rx2.sk,A,rw',_,H0,p,o,td,R,S,bad,x,.ref c,ls,wt,way,t0,kk,rfl,rfl,hA2,(by rw [yah];show as.length+1<=1000;omega),rx2.n0,rx2.s0,rx2.ask.wx,rx2.z,sd2,λhw1 H3 e3 hA3=>?_,λhw1 r H3 e3 hA3 hr3 ri=>?_⟩
   ·have rx3:=rx2.exc hA2 hA3 e3
    have ask3:=rx3.ask.same rx3.s0
    have wx3:=ask3.wx
    have sd3:=sd2.exc hA2 e3
    have ch3:=(ch1.same s2).exc hA2 e3
    obtain ⟨q3,pq3,cb3⟩:=Ybq (K:=K) wx3.rg wx3.lk ch3
    obtain ⟨q4,pq4,sb4⟩:=Y8 (K:=K) wx3.rg wx3.lk sd3
    refine ⟨o,S,_,x,.ref c,bad,q4,q3,rr,rfl,wx3.rv,pq4,pq3,ask3.rb,?_⟩
    unfold Yah
    rw [if_pos sb4,if_pos cb3,if_neg (by rw [ask3.nr];decide)]
    intro cl eo H' rf
    refine k2 hw1 cl eo H' ⟨H3,e12.trans e3,rf⟩ ?_
    have:=rf.sm _ _ hA3
    rw [List.append_assoc] at this
    exact this
   ·have rx3:=rx2.exc hA2 hA3 e3
    have wx3:=(rx3.ask.same rx3.s0).wx
    have sd3:=sd2.exc hA2 e3
    have ch3:=(ch1.same s2).exc hA2 e3
    obtain ⟨q,r',g3⟩:=Sik.of wx3.rt wx3.rg wx3.lk wx3.rv sd3 ch3 hr3 ri
    refine ⟨o,S,_,x,.ref c,.ref r,q,r',_,rfl,wx3.rv,g3.px,g3.pc,g3.rr,?_⟩
    unfold Yah
    rw [if_pos g3.sb,if_pos g3.cb,g3.wq,if_pos g3.rb]
    intro ls' cs' rn' wt' tv' ra' t H4 st' ch' er hr' s4 tr
    obtain ⟨rfl,rfl⟩:=StA.inj g3.li.st st'
    obtain ⟨rfl,rfl⟩:=ChA.inj g3.li.ch ch'
    cases er
    rw [hr3] at hr'
    obtain rfl:=Jvi (show (rzG R wt').map V.int=rn'.map V.int by simpa using hr')
    refine k3 hw hw1 t (.ref c) r H4 (e12.trans (e3.trans (Exc.same s4))) ?_ tr (ch3.same s4) (s4 _ _ hr3) ri
    have:=s4 _ _ hA3
    rw [List.append_assoc] at this
    exact this
def Jxc (a:Ad):Nat->S5
 |0=>a.Jm2
 |1=>a.Jlz
 |2=>a.Jm0
 |_=>a.Jm1
inductive Sqm (K:Si) (a:Ad) (vs:List V) (H:Hp) (Q:VK) (E:XK):Prop where
 |mk (A f g rw' p o:S5) (H0:Hp) (td:V) (R:Jn1) (S:Riv) (x:V) (q:Pr) (bad:V) (bq:Pr) (rr:Option (List V)) (way t0:Int) (mv:V) (_:vs= [.ref o,x,.ref f,.ref g,mv]) (_:H A=some (.lst [])) (_:RnX K a H A f g rw' p o H0 td R S x q bad bq rr way t0) (_:Sbz H0 mv) (_:(∀k cl eo H' y as,Sdh R S x q mv bad way t0 (some (k,y)) as->RfA (Jxc a k) A H H' y cl eo->H' A=some (.lst as)->E cl eo H')) (_:(∀v H' as,Sdh R S x q mv bad way t0 none as->Exc A H H'->H' A=some (.lst as)->Q v H'))
theorem Seb:Jmp ["river","standing","keeper","sky","many","turns","now","k","turn"] ["river","standing","keeper","sky","many"] (Jml (top 40)):=⟨rfl,rfl,rfl,by decide +kernel,rfl,by decide +kernel,by decide +kernel⟩
theorem Smi (T:Tx K mg a):Sx P w K mg base (CXX P w) 9 a.Jiy a.Jiz ["river","standing","keeper","sky","many"] (Sqm K a):=by
 have Sgl:=Jxr (P:=P) (w:=w) (base:=base) T
 have Sz:=Jnz (P:=P) (w:=w) (base:=base) T
 have Saj:=Jp6 (P:=P) (w:=w) (base:=base) T
 have Sb1:=Jql (P:=P) (w:=w) (base:=base) T
 have Saa:=Jox (P:=P) (w:=w) (base:=base) T
 have Sej:=Jtx (P:=P) (w:=w) (base:=base) T
 have Sez:=Jyn (P:=P) (w:=w) (base:=base) T
 refine T.Jj.fn.okX Seb (λvs H Q E h=>?_) (λcdv A outer s H vs Q E hr h=>?_)
 ·obtain ⟨A,f,g,rw',p,o,H0,td,R,S,x,q,bad,bq,rr,way,t0,mv,rfl,_⟩:=h
  rfl
 ·obtain ⟨A,f,g,rw',p,o,H0,td,R,S,x,q,bad,bq,rr,way,t0,mv,rfl,hA,rx,mm,kE,kQ⟩:=h
  refine ⟨?t,?B,?C⟩
  case B=>
   refine' Jmi ?O0 ?O1
   case O0=>
    refine' Jn6 ?O2 ?O3 ?O4
    case O2=>exact (Jn7 (Jnb (Jmn T.J0 Sz hr (by decide) (So (pv 4) (So Sw (So (Jns (by rfl) T.Jad (v:=.int 200) ⟨_,rfl⟩) Ss))))))
    case O3=>
     refine' Jmk ?O5
     case O5=>exact (Jnl Jnn rfl (Jo4 T.Jdl Sb1 hr (by decide) T.Jco.bd T.Jbd (So (pv 4) Ss)))
    case O4=>exact Jmu
   case O1=>
   refine' Jmi ?O6 ?O7
   case O6=>
    refine' Jn6 ?O8 ?O9 ?Oa
    case O8=>exact (Jn7 (Jnb (Jmn T.J6 Saj hr (by decide) (So (pv 0) (So (pv 1) Ss)))))
    case O9=>
     refine' Jmk ?Ob
     case Ob=>exact (Jnl Jnn rfl (Jo4 T.Jdf Saa hr (by decide) T.Jcl.bd T.Jba (So (pv 1) Ss)))
    case Oa=>exact Jmu
   case O7=>
   refine' Jmi ?Oc ?Od
   case Oc=>exact (Jmt (i:=5) Seb.nd rfl (ye rfl) (Jnt Ss))
   case Od=>
   refine' Jmi ?Oe ?Of
   case Oe=>exact (Jmt (i:=6) Seb.nd rfl (ye rfl) (pv 1))
   case Of=>
   refine' Jmi ?Og ?Oh
   case Og=>
    refine' Jqb ?Oi ?Oj ?Ok ?Ol ?Om
    case Oi=>exact PassesOwn.leaving
    case Oj=>exact rfl
    case Ok=>exact (Jpb (by rfl) T.Jax (So (pv 4) Ss))
    case Ol=>exact (Jmr (i:=7) Seb.nd rfl (ye rfl))
    case Om=>
    refine' Jmi ?On ?Oo
    case On=>exact (Jmt (i:=8) Seb.nd rfl (ye rfl) (Joj T.Ji Sgl Jnn hr (by decide) (pa5 (pv 0) (pv 6) (pv 2) (pv 3) (pv 7))))
    case Oo=>
    refine' Jmi ?Op ?Oq
    case Op=>exact (Jom (Jrl F.plainAttrs_list F.slot_list_append F.type_list_append Jop (pv 5) (So (pv 8) Ss)))
    case Oq=>
    refine' Jmi ?Or ?Os
    case Or=>
     refine' Jn6 ?Ot ?Ou ?Ov
     case Ot=>exact (Jna Jvy (Jmq Jn8 (by rfl) T.Jat Jof (So (Jnh (pv 8) (by rfl)) Ss)) Sw (Jn4 _))
     case Ou=>
      refine' Jmk ?Ow
      case Ow=>exact Jyx
     case Ov=>exact Jmu
    case Os=>
    refine' Jmk ?Ox
    case Ox=>exact (Jmt (i:=6) Seb.nd rfl (ye rfl) (Ych (pv 8) T.Jdn T.Jdp Sej (hr.mono (by decide)) T.Jcq.bd .nil Jqn))
   case Oh=>
   refine' Jmk ?Oy
   case Oy=>exact (Jms (Jpq T.Jdr Sez (hr.mono (by decide)) (by rfl) T.Jbf T.Jcr.bd .nil Jqn (So (pv 1) (So (pv 5) Ss))))
  have ask:=rx.ask.same rx.s0
  have wx:=ask.wx
  have rn:=wx.rg.n
  refine ⟨_,rfl,mv,0,200,rfl,(mm.same rx.s0).tm,_,rfl,?_⟩
  cases wh:Jmz mv 0 200 with
  |false=>
   have k':∀cl eo H',RfC a.Jm2 H H' mv cl eo->E cl eo H':=λcl eo H' rf=>kE 0 cl eo H' mv [] (.inl ⟨wh,rfl,rfl⟩) ⟨H,Exc.refl,rf⟩ (rf.sm _ _ hA)
   exact Jnr (Jny T.Jdl T.Jew rfl λe dx h1 h2 h3=>k' _ _ _ (RfC.new h1 h2 h3))
  |true=>
  refine Jni ⟨_,rfl,_,rfl,o,S,x,q,rfl,wx.rv.ro,ask.px,λH1 s1=>⟨_,rfl,?_⟩⟩
  cases sq:stB S q with
  |false=>
   have k':∀cl eo H',RfC a.Jlz H H' x cl eo->E cl eo H':=λcl eo H' rf=>kE 1 cl eo H' x [] (.inr (.inl ⟨wh,sq,rfl,rfl⟩)) ⟨H,Exc.refl,rf⟩ (rf.sm _ _ hA)
   exact Jnr (Jny T.Jdf T.Jet rfl λe dx h1 h2 h3=>k' _ _ _ ((RfC.new h1 h2 h3).of s1))
  |true=>
  have sd:=Yd8 wx.lk sq ask.px
  obtain ⟨n,rfl,hn⟩:∃n:Nat,mv= .int n/\n<=200:=by
   obtain ⟨i,rfl⟩:=Jp3 wh
   have h2:(decide (0<=i)&&decide (i<=200))=true:=wh
   have h3:0<=i/\i<=200:=by simpa using h2
   exact ⟨i.toNat,by rw [Int.toNat_of_nonneg h3.1],by omega⟩
  have en':(Jq1 (.int (n:Int))).toNat=n:=ybc n
  have dE:∀{i r:Nat},Sfc R S (Jzj q) (Jq7 q) n way t0 i r->Sdh R S x q (.int n) bad way t0 (if r=0 then some (2,bad) else if r=1 then some (3,bad) else none) (Jp7 i++Yai r):=λ{i r} h=>.inr (.inr ⟨wh,sq,i,r,by rw [en'];exact h,rfl,rfl⟩)
  refine Jni ⟨(show 0<=Sa by decide),λL hL=>?_⟩
  generalize Jzj q=ls at*
  generalize Jq7 q=wt at*
  have hA1:=s1 _ _ hA
  have nLA:L≠A:=λz=>by rw [z,hA1] at hL;cases hL
  have s2:=Sn.upd (o:=.lst []) hL
  refine ⟨_,rfl,?_⟩
  dsimp only [Jp4]
  refine Jov (λσ H'=>∃(o6 o7 o8:Option V) (m:Nat) (ts:List V),σ= [some (.ref o),some x,some (.ref f),some (.ref g),some (.int n),some (.ref L),o6,o7,o8]/\Exc A H1 H'/\H' L=some (.lst ts)/\Sfc R S ls wt n way t0 m 2/\H' A=some (.lst (Jp7 m))) (λR' hR=>?_) ?_
  ·refine ⟨_,rfl,n,rfl,by omega,by omega,?_⟩
   refine Jqi (λi σ H'=>∃(o7 o8:Option V) (nv:V) (ts:List V),σ= [some (.ref o),some x,some (.ref f),some (.ref g),some (.int n),some (.ref L),some nv,o7,o8]/\Exc A H1 H'/\H' L=some (.lst ts)/\ts.length=i/\(∀j,j < i->gB R S ls wt j= []/\Si9 way t0 j)/\H' A=some (.lst (Jp7 i))/\Saw H' nv R (gL R S ls wt i) (gW R S ls wt i)) ⟨_,_,_,[],rfl,Exc.same s2,Sv,rfl,(λj hj=>absurd hj (Nat.not_lt_zero j)),s2 _ _ hA1,(sd.same s1).same s2⟩ ?_ ?_
   ·rintro i σ H' hi ⟨o7,o8,nv,ts,rfl,e1,hL',tl,gd,hA',sdi⟩
    have hi':i < n:=by omega
    have e01:=(Exc.same (A:=A) s1).trans e1
    have rx':=rx.exc hA hA' e01
    have al':=Jv7 i
    refine ⟨_,rfl,_,rfl,_,rfl,_,rfl,_,rfl,A,f,g,rw',p,o,_,H0,td,R,S,x,q,bad,bq,rr,way,t0,nv,gL R S ls wt i,gW R S ls wt i,i,?_,hA',by omega,rx',sdi,λhw cl eo H2 rf hA2=>?_,λhw cl eo H2 rf hA2=>?_,λh0 h1 t c r H2 e2 hA2 tr ch hr2 ri=>?_⟩
    ·rw [Int.zero_add]
    ·exact kE 2 cl eo H2 bad _ (dE (i:=i) (r:=0) ⟨by omega,λj hj=>(gd j hj).2,λj hj=>(gd j (by omega)).1,.inl ⟨rfl,hi',hw.1,hw.2,λj hj=>(gd j hj).1⟩⟩) (rf.pre e01) hA2
    ·exact kE 3 cl eo H2 bad _ (dE (i:=i) (r:=1) ⟨by omega,λj hj=>(gd j hj).2,λj hj=>(gd j (by omega)).1,.inr (.inl ⟨rfl,hi',hw.1,hw.2,λj hj=>(gd j hj).1⟩)⟩) (rf.pre e01) hA2
    have rx2:=rx'.exc hA' hA2 e2
    have wx2:=(rx2.ask.same rx2.s0).wx
    have sd2:=sdi.exc hA' e2
    obtain ⟨_,_,g2⟩:=Sik.of wx2.rt wx2.rg wx2.lk wx2.rv sd2 ch hr2 ri
    have ll2:=e2.ll hA' hA2
    have hL2:=e2 _ _ nLA hL'
    have lla:=Yu (show (gL R S ls wt i).length=S.Bs.length by rw [sdi.2.1];exact (Jod wx2.lk).symm) g2.li.so g2.li.rl
    refine ⟨_,rfl,.inl ⟨rfl,_,Sy.of hL2⟩,_,rfl,L,_,_,rfl,rfl,hL2,Jne (by omega),?_⟩
    have ll3:=LL.upd (ys:=ts++ [.ref t]) hL2
    have e3:Exc A H1 (upd H2 L (.lst (ts++ [.ref t]))):=λb ob nb e=>by
     have hb:b≠L:=λz=>by rw [z,hL] at e;cases e
     rw [Jmm hb]
     exact e2 _ _ nb (e1 _ _ nb e)
    have hA3:upd H2 L (.lst (ts++ [.ref t])) A=some (.lst (Jp7 (i+1))):=by rw [Jmm nLA.symm];exact hA2
    obtain ⟨dx,u,lv,b,hq,hu,hlv,hb⟩:=tr.ll ll3
    refine ⟨_,rfl,t,_,dx,_,_,rfl,hq,T.Jdn,T.Jf4,rfl,b,_,rfl,.inr (SqT.of hb),_,_,rfl,rfl,_,rfl,?_⟩
    have cm:Si9 way t0 i:=⟨h0,h1⟩
    by_cases hbk:gB R S ls wt i= []
    ·have e0:(List.map V.int (Jos 0 S.Bs (Jr3 S (List.map (·.G) R.Bs) (gL R S ls wt i) (zsN R.Bs.length) .non (rzG R (gW R S ls wt i))))).length=0:=by
      rw [yf]
      exact List.length_eq_zero_iff.mpr hbk
     refine ifF (decide_eq_false (by rw [e0];decide)) ?_
     refine ⟨_,rfl,t,dx,_,rfl,hq,rfl,t,dx,u,lv,b,_,_,_,_,rfl,hq,λv H4 s4 hv=>?_⟩
     exact ⟨_,_,.ref v,ts++ [.ref t],rfl,e3.trans (Exc.same s4),s4 _ _ Sv,by rw [yah,tl];rfl,λj hj=>(by
      by_cases z:j < i
      ·exact gd j z
      ·obtain rfl:j=i:=by omega
       exact ⟨hbk,cm⟩),s4 _ _ hA3,(by
      rw [Yo,Yp]
      exact Jz3 wx2.lk lla.2 hbk g2.w0 hv (s4 _ _ hlv))⟩
    ·have e0:(List.map V.int (Jos 0 S.Bs (Jr3 S (List.map (·.G) R.Bs) (gL R S ls wt i) (zsN R.Bs.length) .non (rzG R (gW R S ls wt i))))).length≠0:=by
      rw [yf]
      exact λz=>hbk (List.length_eq_zero_iff.mp z)
     refine ifT (decide_eq_true (by omega)) ?_
     exact hR _ _ ⟨_,_,_,i+1,ts++ [.ref t],rfl,e3,Sv,⟨by omega,λj hj=>(by
      by_cases z:j < i
      ·exact (gd j z).2
      ·obtain rfl:j=i:=by omega
       exact cm),λj hj=>(gd j (by omega)).1,.inr (.inr ⟨rfl,.inr ⟨i,rfl,hbk⟩⟩)⟩,hA3⟩
   ·rintro σ H' ⟨o7,o8,nv,ts,rfl,e1,hL',tl,gd,hA',sdi⟩
    rw [show ((n:Int)).toNat=n from ybc n] at*
    exact hR _ _ ⟨_,_,_,n,ts,rfl,e1,hL',⟨yl _,λj hj=>(gd j hj).2,λj hj=>(gd j (by omega)).1,.inr (.inr ⟨rfl,.inl ⟨rfl,λj hj=>(gd j hj).1⟩⟩)⟩,hA'⟩
  ·rintro σ H2 ⟨o6,o7,o8,m,ts,rfl,e2,hL2,en,hA2⟩
   refine ⟨_,rfl,_,rfl,λr dx hr hd ne=>?_⟩
   have sn:Sn H2 (upd (upd H2 dx (.own r)) r (.ins a.Jm4 dx [])):=λb ob e=>by rw [Jmm (Jmo e hr),Jmm (Jmo e hd)];exact e
   refine ⟨r,dx,L,H2,x,ts,rfl,hr,sn,Sv,sn _ _ hL2,λt H3 s3 h3 ht3=>⟨rfl,?_⟩⟩
   have hA3:=s3 _ _ hA2
   exact kQ _ H3 _ (dE en) ((Exc.same s1).trans (e2.trans (Exc.same s3))) (by rw [show Jp7 m++Yai 2=Jp7 m from yaq _];exact hA3)
def Sh5 (K:Si) (H:Hp) (R:Jn1) (x:V):Prop:=∃(q:Pr) (rr:Option (List V)),PrT K H x q/\Sdb K H x rr/\Own H x/\∀S,Jqe R S->chB S q=false/\∀wet,rnB S wet rr=false
theorem Sh5.but {K:Si} {p:S5} {H H':Hp} {R:Jn1} {x:V} (st:Sbb H p) (b:But p H H') (h:Sh5 K H R x):Sh5 K H' R x:=by obtain ⟨q,rr,h1,h2,h3,h4⟩:=h;exact ⟨q,rr,h1.ll (LL.but st b),h2.ll (LL.but st b),Own.but st b h3,h4⟩
theorem Jqw {K:Si} {H:Hp} {R:Jn1} {x:V} {t:S6} (h:TyX K H x t) (e:Sj K t (.type "tuple")=some false) (o:Own H x):Sh5 K H R x:=⟨.no,none,⟨t,h,e⟩,⟨t,h,e⟩,o,λ_ _=>⟨rfl,λ_=>rfl⟩⟩
theorem Jxy {vs:List V} {ls hs:List Int} (h:vs.length≠ls.length):Joy (some vs) ls hs=false:=by
 show (decide (vs.length=ls.length)&&(wl vs ls hs).all id)=false
 rw [decide_eq_false h]
 rfl
theorem Yej {v:V} {vs:List V} {ls hs:List Int} (e:ls.length=hs.length) (b:∀l h,l∈ls->h∈hs->Jmz v l h=false):Joy (some (v::vs)) ls hs=false:=by
 cases ls with
 |nil=>exact Jxy (by simp)
 |cons l ls=>
  cases hs with
  |nil=>simp at e
  |cons h hs=>
   show (decide ((v::vs).length=(l::ls).length)&&(Jmz v l h&&(wl vs ls hs).all id))=false
   rw [b l h yan yan,yav,Bool.and_false]
theorem Jzz {S:Riv} {v:V} {vs:List V} (b:∀B∈S.Bs,Jmz v 0 B.rn=false) (wet:Int):rnB S wet (some (v::vs))=false:=by
 show (Joy (some (v::vs)) (yt S.Bs.length 0) (S.Bs.map (·.rn))&&_)=false
 rw [Yej (by simp) λl h hl hh=>?_,yav]
 obtain ⟨B,hB,rfl⟩:=yaj.mp hh
 rw [List.eq_of_mem_replicate hl]
 exact b B hB
theorem Yco {S:Riv} {vs:List V} (h:vs.length≠S.Bs.length) (wet:Int):rnB S wet (some vs)=false:=by
 show (Joy (some vs) (yt S.Bs.length 0) (S.Bs.map (·.rn))&&_)=false
 rw [Jxy (by rw [yat];exact h),yav]
theorem Jq3 {K:Si} {H:Hp} {R:Jn1} {p:S5} {vs:List V} {q:Pr} (h:H p=some (.tup vs)) (l:vs.length<=40) (t:∀v∈vs,Tm K H v/\Jx2 v) (pq:PrT K H (.ref p) q) (b:∀S,Jqe R S->chB S q=false/\∀wet,rnB S wet (some vs)=false):Sh5 K H R (.ref p):=
 ⟨q,some vs,pq,⟨p,rfl,h,λv hv=>(t v hv).1,l⟩,Yy h λv hv=>(t v hv).2,b⟩
theorem Jxw {K:Si} {H:Hp} {p:S5} {vs:List V} (h:H p=some (.tup vs)) (t:∀v∈vs,Tm K H v/\∃t,TyX K H v t/\Sj K t (.type "tuple")=some false):∃q,PrT K H (.ref p) q/\∀S,chB S q=false:=by
 by_cases l:vs.length=2
 ·match vs,l with
  | [u,w],_=>exact ⟨.two u w none,⟨p,rfl,h,(t u (by simp)).2,(t w (by simp)).1⟩,λS=>by
    show (Jrx S.Ts.length w&&false)=false
    rw [Bool.and_false]⟩
 ·exact ⟨.oth vs,⟨p,rfl,h,l⟩,λ_=>rfl⟩
theorem Jpr {K:Si} {H:Hp} {ns:List Int}:∀v∈ns.map V.int,Tm K H v/\∃t,TyX K H v t/\Sj K t (.type "tuple")=some false:=λv hv=>by
 obtain ⟨n,_,rfl⟩:=yaj.mp hv
 exact ⟨.inl ⟨n,rfl⟩,_,.of (.int n),rfl⟩
theorem Jtr {ns:List Int}:∀v∈ns.map V.int,Jx2 v:=λv hv=>by
 obtain ⟨n,_,rfl⟩:=yaj.mp hv
 exact .inl rfl
theorem So8 (n:Nat):(zsN n).map V.int++ [V.int 0]=(zsN (n+1)).map V.int:=by
 unfold zsN
 rw [List.replicate_succ',yal]
 rfl
def NON (l:List V):List V:=l.map λ_=>V.non
def SEV (l:List V):List V:=l.map λ_=>V.int 7
theorem Jz2:∀l:List V,SEV l=(yt l.length (7:Int)).map V.int
 | []=>rfl
 |_::r=>congrArg (V.int 7::·) (Jz2 r)
section
variable {K:Si} {H:Hp} {R:Jn1} {t0 l0 d0 u t1 t2 l1 q1 F t7 tN q2 t6 t8:S5}
theorem Ye8 (rg:Jor R) (g0:H t0=some (.tup [])) (g1:H l0=some (.lst [])) (g2:H d0=some (.dK [])) (gu:H u=some (.tup ((zsN R.Bs.length).map V.int))) (g3:H t1=some (.tup [.ref u,.int 9])) (g4:H t2=some (.tup [.ref u,.bl true])) (g5:H l1=some (.lst [.ref u,.non])) (g6:H q1=some (.tup ((zsN (R.Bs.length+1)).map V.int))) (g7:H F=some (.lst ((zsN R.Bs.length).map V.int))) (g8:H t7=some (.tup (SEV ((zsN R.Bs.length).map V.int)))) (g9:H tN=some (.tup (NON ((zsN R.Bs.length).map V.int)))) (g10:H q2=some (.tup ((zsN (R.Bs.length+1)).map V.int))) (g11:H t6=some (.tup [.ref q2,.non])) (g12:H t8=some (.tup [.ref u,.non,.int 0])):
  ∀v∈ [V.non,.int 5,.bl true,.str "",.ref t0,.ref l0,.ref d0,.ref t1,.ref t2,.ref l1,.ref q1,.ref F]++ [.ref t7,.ref tN,.ref t6,.ref t8,.int (-1)],Sh5 K H R v:=by
 have hn:=rg.n
 have zl:∀n,(zsN n).length=n:=λn=>yat
 have tmn:Tm K H .non:=.inr ⟨_,.of .non,rfl⟩
 have tmu:Tm K H (.ref u):=.inr ⟨_,.of (.tup gu),rfl⟩
 have ru:Sdb K H (.ref u) (some ((zsN R.Bs.length).map V.int)):=⟨u,rfl,gu,λv hv=>(Jpr v hv).1,by rw [yf,zl];omega⟩
 have bad:∀{vs:List V} {x:S5} {S:Riv},Jqe R S->∀wet,rnB S wet (some (.ref x::vs))=false:=λ_=>Jzz λ_ _=>rfl
 intro v hv
 simp only [List.cons_append,List.nil_append,yk,yp,or_false] at hv
 rcases hv with rfl|rfl|rfl|rfl|rfl|rfl|rfl|rfl|rfl|rfl|rfl|rfl|rfl|rfl|rfl|rfl|rfl
 ·exact Jqw (.of .non) rfl (.inl rfl)
 ·exact Jqw (.of (.int _)) rfl (.inl rfl)
 ·exact Jqw (.of (.bl _)) rfl (.inl rfl)
 ·exact Jqw (.of (.str _)) rfl (.inl rfl)
 ·exact Jq3 (q:=.oth []) g0 (by simp) (λ_ h=>nomatch h) ⟨t0,rfl,g0,by simp⟩ λS lk=>⟨rfl,Yco (by have:=Jod lk;simp;omega)⟩
 ·exact Jqw (.of (.lst g1)) rfl (Juz g1 λ_ h=>nomatch h)
 ·exact Jqw (.of (.dK g2)) rfl (.inr ⟨_,rfl,.inr (.inl g2)⟩)
 ·refine Jq3 (q:=.two (.ref u) (.int 9) _) g3 (by simp) (λv hv=>?_) ⟨t1,rfl,g3,ru,.inl ⟨_,rfl⟩⟩ λS lk=>⟨?_,bad lk⟩
  ·simp only [yk,yp,or_false] at hv
   rcases hv with rfl|rfl
   ·exact ⟨tmu,.inr ⟨_,rfl⟩⟩
   ·exact ⟨.inl ⟨_,rfl⟩,.inl rfl⟩
  ·show ((decide ((0:Int)<=9)&&decide ((9:Int)<=(S.Ts.length:Int) - 1))&&_)=false
   have:=Jqj lk
   have:=rg.tn
   rw [decide_eq_false (show ¬(9:Int)<=(S.Ts.length:Int) - 1 by omega),Bool.and_false,yav]
 ·refine Jq3 (q:=.two (.ref u) (.bl true) _) g4 (by simp) (λv hv=>?_) ⟨t2,rfl,g4,ru,.inr ⟨_,.of (.bl _),rfl⟩⟩ λS lk=>⟨rfl,bad lk⟩
  simp only [yk,yp,or_false] at hv
  rcases hv with rfl|rfl
  ·exact ⟨tmu,.inr ⟨_,rfl⟩⟩
  ·exact ⟨.inr ⟨_,.of (.bl _),rfl⟩,.inl rfl⟩
 ·refine Jqw (.of (.lst g5)) rfl (Juz g5 λv hv=>?_)
  simp only [yk,yp,or_false] at hv
  rcases hv with rfl|rfl
  ·exact .inr ⟨_,rfl⟩
  ·exact .inl rfl
 ·obtain ⟨q,pq,cq⟩:=Jxw (K:=K) g6 Jpr
  exact Jq3 g6 (by rw [yf,zl];omega) (λv hv=>⟨(Jpr v hv).1,Jtr v hv⟩) pq λS lk=>⟨cq S,Yco (by rw [yf,zl,Jod lk];omega)⟩
 ·exact Jqw (.of (.lst g7)) rfl (Juz g7 Jtr)
 ·rw [Jz2] at g8
  obtain ⟨q,pq,cq⟩:=Jxw (K:=K) g8 Jpr
  refine Jq3 g8 (by rw [yf,yat,yf,zl];omega) (λv hv=>⟨(Jpr v hv).1,Jtr v hv⟩) pq λS lk=>⟨cq S,?_⟩
  obtain ⟨m,hm⟩:∃m,((zsN R.Bs.length).map V.int).length=m+1:=⟨R.Bs.length - 1,by rw [yf,zl];omega⟩
  rw [hm]
  refine Jzz λB hB=>?_
  have:(Jsb B)∈R.Bs.map Jw4:=by rw [<-lk.Bs];exact ybl hB
  obtain ⟨C,hC,e⟩:=yaj.mp this
  have e1:C.rn=B.rn:=congrArg (·.2.2.2.2.1) e
  have:=(rg.Bs C hC).1.rn
  show (decide ((0:Int)<=7)&&decide ((7:Int)<=B.rn))=false
  rw [decide_eq_false (show ¬(7:Int)<=B.rn by omega),Bool.and_false]
 ·have fl:∀v∈NON ((zsN R.Bs.length).map V.int),v= .non:=λv hv=>by
   obtain ⟨n,_,e⟩:=yaj.mp hv
   exact e.symm
  obtain ⟨q,pq,cq⟩:=Jxw (K:=K) g9 λv hv=>by rw [fl v hv];exact ⟨tmn,_,.of .non,rfl⟩
  refine Jq3 g9 (by unfold NON;rw [yf,yf,zl];omega) (λv hv=>by rw [fl v hv];exact ⟨tmn,.inl rfl⟩) pq λS lk=>⟨cq S,?_⟩
  obtain ⟨m,hm⟩:∃m,R.Bs.length=m+1:=⟨R.Bs.length - 1,by omega⟩
  rw [hm]
  exact Jzz λ_ _=>rfl
 ·refine Jq3 (q:=.two (.ref q2) .non (some ((zsN (R.Bs.length+1)).map V.int))) g11 (by simp) (λv hv=>?_) ⟨t6,rfl,g11,⟨q2,rfl,g10,λv hv=>(Jpr v hv).1,by rw [yf,zl];omega⟩,tmn⟩ λS lk=>⟨?_,bad lk⟩
  ·simp only [yk,yp,or_false] at hv
   rcases hv with rfl|rfl
   ·exact ⟨.inr ⟨_,.of (.tup g10),rfl⟩,.inr ⟨_,rfl⟩⟩
   ·exact ⟨tmn,.inl rfl⟩
  ·show (true&&Joy (some ((zsN (R.Bs.length+1)).map V.int)) (yt S.Bs.length 0) _)=false
   rw [Jxy (by rw [yf,zl,yat,Jod lk];omega)]
   rfl
 ·refine Jq3 (q:=.oth _) g12 (by simp) (λv hv=>?_) ⟨t8,rfl,g12,by simp⟩ λS lk=>⟨rfl,bad lk⟩
  simp only [yk,yp,or_false] at hv
  rcases hv with rfl|rfl|rfl
  ·exact ⟨tmu,.inr ⟨_,rfl⟩⟩
  ·exact ⟨tmn,.inl rfl⟩
  ·exact ⟨.inl ⟨_,rfl⟩,.inl rfl⟩
 ·exact Jqw (.of (.int _)) rfl (.inl rfl)
end
inductive Sn2 (K:Si) (vs:List V) (H:Hp) (Q:VK) (z3:XK):Prop where
 |mk (p:S5) (td:V) (R:Jn1) (_:vs= [.ref p,td]) (_:Sbb H p) (_:Sci p H td R) (_:Jor R) (_:∀(x:V) (H':Hp),Sh5 K H' R x->But p H H'->Q x H')
theorem Scn:Jmp ["_law_stream_here","_law_told_here","_law_row","_law_some"] ["_law_stream_here","_law_told_here"] (Jml (top 86)):=⟨rfl,rfl,rfl,by decide +kernel,rfl,by decide +kernel,by decide +kernel⟩
theorem Jzr (T:Tx K mg a):Sx P w K mg base CX0 2 a.Jl4 a.Jl5 ["_law_stream_here","_law_told_here"] (Sn2 K):=by
 have Sr:=Jon (P:=P) (w:=w) (base:=base) T
 refine T.Ja5.fn.ok Scn (λvs H Q E h=>?_) (λcdv A outer s H vs Q E hr h=>?_)
 ·obtain ⟨p,td,R,rfl,_⟩:=h
  rfl
 ·obtain ⟨p,td,R,rfl,st,rt,rg,k⟩:=h
  refine ⟨?t,?B,?C⟩
  case B=>
   refine' Jmi ?O0 ?O1
   case O0=>exact (Jmt (i:=2) Scn.nd rfl (ye rfl) (Jn3 Jn5 (by rfl) T.Jb1 Jnk (So (Jng (N:=(["_law_one"]:List Str)) (ini:=[none]) rfl (Jo2 (Jmv Jn2 (pv 1) Sw (λ_ _=>rfl))) (λ_ _ _ _ _=>(Jmr (i:=0) (by decide +kernel:(["_law_one"]:List Str).Nodup) rfl (ye rfl))) (λ_ _ _ _ _=>Jnf) (λ_ _ _ _ _=>Sw)) Ss)))
   case O1=>
   refine' Jmi ?O2 ?O3
   case O2=>
    refine' Jmt (i:=3) ?O4 ?O5 ?O6 ?O7 ?O8 ?O9
    case O4=>exact Scn.nd
    case O5=>exact rfl
    case O6=>exact (ye rfl)
    case O8=>exact Y9
    case O9=>first|exact .inl rfl|exact .inr rfl
    case O7=>
    refine' Jnt ?Oa
    case Oa=>
    refine' Sun ?Ob ?Oc ?Od ?Oe ?Of ?Og ?Oh ?Oi ?Oj ?Ok ?Ol ?Om
    case Ob=>exact Joa
    case Oc=>exact Sw
    case Od=>exact Joi
    case Oe=>exact Joo
    case Of=>exact (Jnx Ss)
    case Og=>exact (Jnt Ss)
    case Oh=>exact Ycf
    case Oi=>exact (Jnx (So (pv 2) (So Sw Ss)))
    case Oj=>exact (Jnx (So (pv 2) (So Joi Ss)))
    case Ok=>exact (Jnt (So (pv 2) (So Joa Ss)))
    case Ol=>exact (Jn0 Jxs (pv 2) (Jnx (So Sw Ss)))
    case Om=>exact (Jn3 Jog (by rfl) T.Jau Jpd (So (pv 2) Ss))
   case O3=>
   refine' Jmi ?On ?Oo
   case On=>
    refine' Jmt (i:=3) ?Op ?Oq ?Or ?Os ?Ot ?Ou
    case Op=>exact Scn.nd
    case Oq=>exact rfl
    case Or=>exact (ye rfl)
    case Ot=>exact Yda
    case Ou=>first|exact .inl rfl|exact .inr rfl
    case Os=>
    refine' Jn0 Jzu ?Ov ?Ow
    case Ov=>exact (pv 3)
    case Ow=>
    refine' Jnt ?Ox
    case Ox=>
    refine' pa5 ?Oy ?Oz ?U0 ?U1 ?U2
    case Oy=>exact (Jn3 Jn5 (by rfl) T.Jb1 Jnk (So (Jng (N:=(["_law_one"]:List Str)) (ini:=[none]) rfl (Jsm (pv 2)) (λ_ _ _ _ _=>(Jmr (i:=0) (by decide +kernel:(["_law_one"]:List Str).Nodup) rfl (ye rfl))) (λ_ _ _ _ _=>Jnf) (λ_ _ _ _ _=>Sw)) Ss))
    case Oz=>exact (Jn3 Jn5 (by rfl) T.Jb1 Jnk (So (Jng (N:=(["_law_one"]:List Str)) (ini:=[none]) rfl (Jsm (pv 2)) (λ_ _ _ _ _=>(Jmr (i:=0) (by decide +kernel:(["_law_one"]:List Str).Nodup) rfl (ye rfl))) (λ_ _ _ _ _=>Jnf) (λ_ _ _ _ _=>Joa)) Ss))
    case U0=>exact (Jnx (So (Jn0 Jxs (pv 2) (Jnx (So Sw Ss))) (So Joa Ss)))
    case U1=>exact (Jnx (So (pv 2) (So Joa (So Sw Ss))))
    case U2=>exact (Yci Yd Sw)
   case Oo=>
   refine' Jmk ?U3
   case U3=>exact (Jms (Jmv Jnc (pv 3) (Jmn T.Js Sr hr (by decide) (So (pv 0) (So (Jmq Jn8 (by rfl) T.Jat Jof (So (pv 3) Ss)) Ss))) (λ_ _=>rfl)))
  obtain ⟨t,lb,lt,bs,ts,rfl,htt,hb,btl,_⟩:=id rt
  have blen:=btl.len
  have hn:=rg.n
  refine ⟨_,rfl,t,_,2,_,rfl,rfl,SqT.of htt,rfl,lb,rfl,⟨_,Sy.of hb⟩,λD hD=>?_⟩
  refine Jow (bs.map λ_=>V.int 0) hD (by simp) (by omega) hb ?_ ?_
  ·intro i x y H' Q' hx hy sm k'
   rw [yj,hx] at hy
   cases hy
   exact k' _ λ_ _ h=>h
  intro H1 s1 hD1
  refine ⟨D,_,rfl,.inl ⟨Sy.of hD1,λu hu=>?_⟩⟩
  have s2:=s1.trans (Sn.upd (o:=.tup (bs.map λ_=>V.int 0)) hu)
  have gu:=Sv (H:=H1) (a:=u) (o:=.tup (bs.map λ_=>V.int 0))
  generalize upd H1 u (.tup (bs.map λ_=>V.int 0))=H2 at*
  rw [Jyb,blen] at gu
  have zl:((zsN R.Bs.length).map V.int).length=R.Bs.length:=by rw [yf];exact yat
  have g_u:=gu
  refine ⟨(show 0<=Sa by decide),λt0 n_t0=>?_⟩
  have m2:=Sn.upd (o:=.tup []) n_t0
  have g_t0:=Sv (H:=H2) (a:=t0) (o:=.tup [])
  generalize upd H2 t0 (.tup [])=H3 at*
  replace g_u:=m2 _ _ g_u
  refine ⟨(show 0<=Sa by decide),λl0 n_l0=>?_⟩
  have m3:=Sn.upd (o:=.lst []) n_l0
  have g_l0:=Sv (H:=H3) (a:=l0) (o:=.lst [])
  generalize upd H3 l0 (.lst [])=H4 at*
  replace g_u:=m3 _ _ g_u
  replace g_t0:=m3 _ _ g_t0
  refine λd0 n_d0=>?_
  have m4:=Sn.upd (o:=.dK []) n_d0
  have g_d0:=Sv (H:=H4) (a:=d0) (o:=.dK [])
  generalize upd H4 d0 (.dK [])=H5 at*
  replace g_u:=m4 _ _ g_u
  replace g_t0:=m4 _ _ g_t0
  replace g_l0:=m4 _ _ g_l0
  refine ⟨_,rfl,(show 2<=Sa by decide),λt1 n_t1=>?_⟩
  have m5:=Sn.upd (o:=.tup [.ref u,.int 9]) n_t1
  have g_t1:=Sv (H:=H5) (a:=t1) (o:=.tup [.ref u,.int 9])
  generalize upd H5 t1 (.tup [.ref u,.int 9])=H6 at*
  replace g_u:=m5 _ _ g_u
  replace g_t0:=m5 _ _ g_t0
  replace g_l0:=m5 _ _ g_l0
  replace g_d0:=m5 _ _ g_d0
  refine ⟨_,rfl,(show 2<=Sa by decide),λt2 n_t2=>?_⟩
  have m6:=Sn.upd (o:=.tup [.ref u,.bl true]) n_t2
  have g_t2:=Sv (H:=H6) (a:=t2) (o:=.tup [.ref u,.bl true])
  generalize upd H6 t2 (.tup [.ref u,.bl true])=H7 at*
  replace g_u:=m6 _ _ g_u
  replace g_t0:=m6 _ _ g_t0
  replace g_l0:=m6 _ _ g_l0
  replace g_d0:=m6 _ _ g_d0
  replace g_t1:=m6 _ _ g_t1
  refine ⟨_,rfl,(show 2<=Sa by decide),λl1 n_l1=>?_⟩
  have m7:=Sn.upd (o:=.lst [.ref u,.non]) n_l1
  have g_l1:=Sv (H:=H7) (a:=l1) (o:=.lst [.ref u,.non])
  generalize upd H7 l1 (.lst [.ref u,.non])=H8 at*
  replace g_u:=m7 _ _ g_u
  replace g_t0:=m7 _ _ g_t0
  replace g_l0:=m7 _ _ g_l0
  replace g_d0:=m7 _ _ g_d0
  replace g_t1:=m7 _ _ g_t1
  replace g_t2:=m7 _ _ g_t2
  refine ⟨_,rfl,(show 1<=Sa by decide),λa1 n_a1=>?_⟩
  have m8:=Sn.upd (o:=.tup [.int 0]) n_a1
  have g_a1:=Sv (H:=H8) (a:=a1) (o:=.tup [.int 0])
  generalize upd H8 a1 (.tup [.int 0])=H9 at*
  replace g_u:=m8 _ _ g_u
  replace g_t0:=m8 _ _ g_t0
  replace g_l0:=m8 _ _ g_l0
  replace g_d0:=m8 _ _ g_d0
  replace g_t1:=m8 _ _ g_t1
  replace g_t2:=m8 _ _ g_t2
  replace g_l1:=m8 _ _ g_l1
  refine ⟨u,a1,_,_,rfl,rfl,g_u,g_a1,(by rw [zl];exact ybd (Jne (by show R.Bs.length+1<=2000;omega))),λq1 H10 m9 g_q1=>?_⟩
  replace g_u:=m9 _ _ g_u
  replace g_t0:=m9 _ _ g_t0
  replace g_l0:=m9 _ _ g_l0
  replace g_d0:=m9 _ _ g_d0
  replace g_t1:=m9 _ _ g_t1
  replace g_t2:=m9 _ _ g_t2
  replace g_l1:=m9 _ _ g_l1
  replace g_a1:=m9 _ _ g_a1
  refine ⟨_,rfl,u,_,rfl,.inr (SqT.of g_u),λF n_F=>?_⟩
  have m10:=Sn.upd (o:=.lst ((zsN R.Bs.length).map V.int)) n_F
  have g_F:=Sv (H:=H10) (a:=F) (o:=.lst ((zsN R.Bs.length).map V.int))
  generalize upd H10 F (.lst ((zsN R.Bs.length).map V.int))=H11 at*
  replace g_u:=m10 _ _ g_u
  replace g_t0:=m10 _ _ g_t0
  replace g_l0:=m10 _ _ g_l0
  replace g_d0:=m10 _ _ g_d0
  replace g_t1:=m10 _ _ g_t1
  replace g_t2:=m10 _ _ g_t2
  replace g_l1:=m10 _ _ g_l1
  replace g_a1:=m10 _ _ g_a1
  replace g_q1:=m10 _ _ g_q1
  refine ⟨(show 12<=Sa by decide),λL n_L=>?_⟩
  have m11:=Sn.upd (o:=.lst [.non,.int 5,.bl true,.str "",.ref t0,.ref l0,.ref d0,.ref t1,.ref t2,.ref l1,.ref q1,.ref F]) n_L
  have g_L:=Sv (H:=H11) (a:=L) (o:=.lst [.non,.int 5,.bl true,.str "",.ref t0,.ref l0,.ref d0,.ref t1,.ref t2,.ref l1,.ref q1,.ref F])
  generalize upd H11 L (.lst [.non,.int 5,.bl true,.str "",.ref t0,.ref l0,.ref d0,.ref t1,.ref t2,.ref l1,.ref q1,.ref F])=H12 at*
  replace g_u:=m11 _ _ g_u
  replace g_t0:=m11 _ _ g_t0
  replace g_l0:=m11 _ _ g_l0
  replace g_d0:=m11 _ _ g_d0
  replace g_t1:=m11 _ _ g_t1
  replace g_t2:=m11 _ _ g_t2
  replace g_l1:=m11 _ _ g_l1
  replace g_a1:=m11 _ _ g_a1
  replace g_q1:=m11 _ _ g_q1
  replace g_F:=m11 _ _ g_F
  refine ⟨_,rfl,?_⟩
  refine ⟨_,rfl,u,rfl,⟨_,SqT.of g_u⟩,λD7 n_D7=>?_⟩
  refine Jp2 (SEV ((zsN R.Bs.length).map V.int)) n_D7 (by unfold SEV;simp) (by omega) g_u ?_ ?_
  ·intro i x y H' Q' hx hy sm k'
   unfold SEV at hy
   rw [yj,hx] at hy
   cases hy
   exact k' _ λ_ _ h=>h
  intro H13 m12 g_D7
  replace g_u:=m12 _ _ g_u
  replace g_t0:=m12 _ _ g_t0
  replace g_l0:=m12 _ _ g_l0
  replace g_d0:=m12 _ _ g_d0
  replace g_t1:=m12 _ _ g_t1
  replace g_t2:=m12 _ _ g_t2
  replace g_l1:=m12 _ _ g_l1
  replace g_a1:=m12 _ _ g_a1
  replace g_q1:=m12 _ _ g_q1
  replace g_F:=m12 _ _ g_F
  replace g_L:=m12 _ _ g_L
  refine ⟨D7,_,rfl,.inl ⟨Sy.of g_D7,λt7 n_t7=>?_⟩⟩
  have m13:=Sn.upd (o:=.tup (SEV ((zsN R.Bs.length).map V.int))) n_t7
  have g_t7:=Sv (H:=H13) (a:=t7) (o:=.tup (SEV ((zsN R.Bs.length).map V.int)))
  generalize upd H13 t7 (.tup (SEV ((zsN R.Bs.length).map V.int)))=H14 at*
  replace g_u:=m13 _ _ g_u
  replace g_t0:=m13 _ _ g_t0
  replace g_l0:=m13 _ _ g_l0
  replace g_d0:=m13 _ _ g_d0
  replace g_t1:=m13 _ _ g_t1
  replace g_t2:=m13 _ _ g_t2
  replace g_l1:=m13 _ _ g_l1
  replace g_a1:=m13 _ _ g_a1
  replace g_q1:=m13 _ _ g_q1
  replace g_F:=m13 _ _ g_F
  replace g_L:=m13 _ _ g_L
  replace g_D7:=m13 _ _ g_D7
  refine ⟨_,rfl,u,rfl,⟨_,SqT.of g_u⟩,λDN n_DN=>?_⟩
  refine Jp2 (NON ((zsN R.Bs.length).map V.int)) n_DN (by unfold NON;simp) (by omega) g_u ?_ ?_
  ·intro i x y H' Q' hx hy sm k'
   unfold NON at hy
   rw [yj,hx] at hy
   cases hy
   exact k' _ λ_ _ h=>h
  intro H15 m14 g_DN
  replace g_u:=m14 _ _ g_u
  replace g_t0:=m14 _ _ g_t0
  replace g_l0:=m14 _ _ g_l0
  replace g_d0:=m14 _ _ g_d0
  replace g_t1:=m14 _ _ g_t1
  replace g_t2:=m14 _ _ g_t2
  replace g_l1:=m14 _ _ g_l1
  replace g_a1:=m14 _ _ g_a1
  replace g_q1:=m14 _ _ g_q1
  replace g_F:=m14 _ _ g_F
  replace g_L:=m14 _ _ g_L
  replace g_D7:=m14 _ _ g_D7
  replace g_t7:=m14 _ _ g_t7
  refine ⟨DN,_,rfl,.inl ⟨Sy.of g_DN,λtN n_tN=>?_⟩⟩
  have m15:=Sn.upd (o:=.tup (NON ((zsN R.Bs.length).map V.int))) n_tN
  have g_tN:=Sv (H:=H15) (a:=tN) (o:=.tup (NON ((zsN R.Bs.length).map V.int)))
  generalize upd H15 tN (.tup (NON ((zsN R.Bs.length).map V.int)))=H16 at*
  replace g_u:=m15 _ _ g_u
  replace g_t0:=m15 _ _ g_t0
  replace g_l0:=m15 _ _ g_l0
  replace g_d0:=m15 _ _ g_d0
  replace g_t1:=m15 _ _ g_t1
  replace g_t2:=m15 _ _ g_t2
  replace g_l1:=m15 _ _ g_l1
  replace g_a1:=m15 _ _ g_a1
  replace g_q1:=m15 _ _ g_q1
  replace g_F:=m15 _ _ g_F
  replace g_L:=m15 _ _ g_L
  replace g_D7:=m15 _ _ g_D7
  replace g_t7:=m15 _ _ g_t7
  replace g_DN:=m15 _ _ g_DN
  refine ⟨_,rfl,(show 1<=Sa by decide),λa2 n_a2=>?_⟩
  have m16:=Sn.upd (o:=.tup [.int 0]) n_a2
  have g_a2:=Sv (H:=H16) (a:=a2) (o:=.tup [.int 0])
  generalize upd H16 a2 (.tup [.int 0])=H17 at*
  replace g_u:=m16 _ _ g_u
  replace g_t0:=m16 _ _ g_t0
  replace g_l0:=m16 _ _ g_l0
  replace g_d0:=m16 _ _ g_d0
  replace g_t1:=m16 _ _ g_t1
  replace g_t2:=m16 _ _ g_t2
  replace g_l1:=m16 _ _ g_l1
  replace g_a1:=m16 _ _ g_a1
  replace g_q1:=m16 _ _ g_q1
  replace g_F:=m16 _ _ g_F
  replace g_L:=m16 _ _ g_L
  replace g_D7:=m16 _ _ g_D7
  replace g_t7:=m16 _ _ g_t7
  replace g_DN:=m16 _ _ g_DN
  replace g_tN:=m16 _ _ g_tN
  refine ⟨u,a2,_,_,rfl,rfl,g_u,g_a2,(by rw [zl];exact ybd (Jne (by show R.Bs.length+1<=2000;omega))),λq2 H18 m17 g_q2=>?_⟩
  replace g_u:=m17 _ _ g_u
  replace g_t0:=m17 _ _ g_t0
  replace g_l0:=m17 _ _ g_l0
  replace g_d0:=m17 _ _ g_d0
  replace g_t1:=m17 _ _ g_t1
  replace g_t2:=m17 _ _ g_t2
  replace g_l1:=m17 _ _ g_l1
  replace g_a1:=m17 _ _ g_a1
  replace g_q1:=m17 _ _ g_q1
  replace g_F:=m17 _ _ g_F
  replace g_L:=m17 _ _ g_L
  replace g_D7:=m17 _ _ g_D7
  replace g_t7:=m17 _ _ g_t7
  replace g_DN:=m17 _ _ g_DN
  replace g_tN:=m17 _ _ g_tN
  replace g_a2:=m17 _ _ g_a2
  refine ⟨(show 2<=Sa by decide),λt6 n_t6=>?_⟩
  have m18:=Sn.upd (o:=.tup [.ref q2,.non]) n_t6
  have g_t6:=Sv (H:=H18) (a:=t6) (o:=.tup [.ref q2,.non])
  generalize upd H18 t6 (.tup [.ref q2,.non])=H19 at*
  replace g_u:=m18 _ _ g_u
  replace g_t0:=m18 _ _ g_t0
  replace g_l0:=m18 _ _ g_l0
  replace g_d0:=m18 _ _ g_d0
  replace g_t1:=m18 _ _ g_t1
  replace g_t2:=m18 _ _ g_t2
  replace g_l1:=m18 _ _ g_l1
  replace g_a1:=m18 _ _ g_a1
  replace g_q1:=m18 _ _ g_q1
  replace g_F:=m18 _ _ g_F
  replace g_L:=m18 _ _ g_L
  replace g_D7:=m18 _ _ g_D7
  replace g_t7:=m18 _ _ g_t7
  replace g_DN:=m18 _ _ g_DN
  replace g_tN:=m18 _ _ g_tN
  replace g_a2:=m18 _ _ g_a2
  replace g_q2:=m18 _ _ g_q2
  refine ⟨_,rfl,(show 3<=Sa by decide),λt8 n_t8=>?_⟩
  have m19:=Sn.upd (o:=.tup [.ref u,.non,.int 0]) n_t8
  have g_t8:=Sv (H:=H19) (a:=t8) (o:=.tup [.ref u,.non,.int 0])
  generalize upd H19 t8 (.tup [.ref u,.non,.int 0])=H20 at*
  replace g_u:=m19 _ _ g_u
  replace g_t0:=m19 _ _ g_t0
  replace g_l0:=m19 _ _ g_l0
  replace g_d0:=m19 _ _ g_d0
  replace g_t1:=m19 _ _ g_t1
  replace g_t2:=m19 _ _ g_t2
  replace g_l1:=m19 _ _ g_l1
  replace g_a1:=m19 _ _ g_a1
  replace g_q1:=m19 _ _ g_q1
  replace g_F:=m19 _ _ g_F
  replace g_L:=m19 _ _ g_L
  replace g_D7:=m19 _ _ g_D7
  replace g_t7:=m19 _ _ g_t7
  replace g_DN:=m19 _ _ g_DN
  replace g_tN:=m19 _ _ g_tN
  replace g_a2:=m19 _ _ g_a2
  replace g_q2:=m19 _ _ g_q2
  replace g_t6:=m19 _ _ g_t6
  refine ⟨_,rfl,?_⟩
  refine ⟨(show 5<=Sa by decide),λM n_M=>?_⟩
  have m20:=Sn.upd (o:=.lst [.ref t7,.ref tN,.ref t6,.ref t8,.int (-1)]) n_M
  have g_M:=Sv (H:=H20) (a:=M) (o:=.lst [.ref t7,.ref tN,.ref t6,.ref t8,.int (-1)])
  generalize upd H20 M (.lst [.ref t7,.ref tN,.ref t6,.ref t8,.int (-1)])=H21 at*
  replace g_u:=m20 _ _ g_u
  replace g_t0:=m20 _ _ g_t0
  replace g_l0:=m20 _ _ g_l0
  replace g_d0:=m20 _ _ g_d0
  replace g_t1:=m20 _ _ g_t1
  replace g_t2:=m20 _ _ g_t2
  replace g_l1:=m20 _ _ g_l1
  replace g_a1:=m20 _ _ g_a1
  replace g_q1:=m20 _ _ g_q1
  replace g_F:=m20 _ _ g_F
  replace g_L:=m20 _ _ g_L
  replace g_D7:=m20 _ _ g_D7
  replace g_t7:=m20 _ _ g_t7
  replace g_DN:=m20 _ _ g_DN
  replace g_tN:=m20 _ _ g_tN
  replace g_a2:=m20 _ _ g_a2
  replace g_q2:=m20 _ _ g_q2
  replace g_t6:=m20 _ _ g_t6
  replace g_t8:=m20 _ _ g_t8
  refine ⟨L,M,_,_,rfl,rfl,g_L,g_M,(show 12+5<=Sa by decide),λN n_N=>?_⟩
  have m21:=Sn.upd (o:=.lst ([V.non,.int 5,.bl true,.str "",.ref t0,.ref l0,.ref d0,.ref t1,.ref t2,.ref l1,.ref q1,.ref F]++ [.ref t7,.ref tN,.ref t6,.ref t8,.int (-1)])) n_N
  have g_N:=Sv (H:=H21) (a:=N) (o:=.lst ([V.non,.int 5,.bl true,.str "",.ref t0,.ref l0,.ref d0,.ref t1,.ref t2,.ref l1,.ref q1,.ref F]++ [.ref t7,.ref tN,.ref t6,.ref t8,.int (-1)]))
  generalize upd H21 N (.lst ([V.non,.int 5,.bl true,.str "",.ref t0,.ref l0,.ref d0,.ref t1,.ref t2,.ref l1,.ref q1,.ref F]++ [.ref t7,.ref tN,.ref t6,.ref t8,.int (-1)]))=H22 at*
  replace g_u:=m21 _ _ g_u
  replace g_t0:=m21 _ _ g_t0
  replace g_l0:=m21 _ _ g_l0
  replace g_d0:=m21 _ _ g_d0
  replace g_t1:=m21 _ _ g_t1
  replace g_t2:=m21 _ _ g_t2
  replace g_l1:=m21 _ _ g_l1
  replace g_a1:=m21 _ _ g_a1
  replace g_q1:=m21 _ _ g_q1
  replace g_F:=m21 _ _ g_F
  replace g_L:=m21 _ _ g_L
  replace g_D7:=m21 _ _ g_D7
  replace g_t7:=m21 _ _ g_t7
  replace g_DN:=m21 _ _ g_DN
  replace g_tN:=m21 _ _ g_tN
  replace g_a2:=m21 _ _ g_a2
  replace g_q2:=m21 _ _ g_q2
  replace g_t6:=m21 _ _ g_t6
  replace g_t8:=m21 _ _ g_t8
  replace g_M:=m21 _ _ g_M
  have b:=But.of st (((((((((((((((((((((s2).trans m2).trans m3).trans m4).trans m5).trans m6).trans m7).trans m8).trans m9).trans m10).trans m11).trans m12).trans m13).trans m14).trans m15).trans m16).trans m17).trans m18).trans m19).trans m20).trans m21)
  rw [So8] at g_q1 g_q2
  have all:=Ye8 (K:=K) rg g_t0 g_l0 g_d0 g_u g_t1 g_t2 g_l1 g_q1 g_F g_t7 g_tN g_q2 g_t6 g_t8
  have nN:N≠p:=λz=>by
   obtain ⟨_,_,_,q⟩:=b.2
   rw [<-z,g_N] at q
   cases q
  refine ⟨_,rfl,_,rfl,_,rfl,N,_,rfl,.inl (Sy.of g_N),p,_,rfl,b.2,by simp,Jsx (i:=17) (by decide),λr H' r0 r1 b5=>?_⟩
  obtain ⟨v,hv,hat⟩:=Ybm (xs:=[V.non,.int 5,.bl true,.str "",.ref t0,.ref l0,.ref d0,.ref t1,.ref t2,.ref l1,.ref q1,.ref F]++ [.ref t7,.ref tN,.ref t6,.ref t8,.int (-1)]) r0 r1
  exact ⟨N,_,_,v,rfl,rfl,Sy.of (b5.1 _ _ nN g_N),hat,k v H' ((all v hv).but b.2 b5) (b.trans b5)⟩
theorem Jw9:bootBuiltins "ValueError" =some (.type "ValueError"):=by decide +kernel
def Jzi (k:Nat):List Bool:=[k==0,k==1,k==2,k==3,true]
def OV (D:Option (Nat×V)) (H:Hp) (v:V):Prop:=match D with
 |none=>v= .non
 |some (k,x)=>∃t l,v= .ref t/\H t=some (.tup [.ref l,x])/\H l=some (.lst ((Jzi k).map V.bl))
theorem OV.same {D:Option (Nat×V)} {H H':Hp} {v:V} (s:Sn H H') (h:OV D H v):OV D H' v:=by
 cases D with
 |none=>exact h
 |some kx=>
  obtain ⟨t,l,e,h1,h2⟩:=h
  exact ⟨t,l,e,s _ _ h1,s _ _ h2⟩
theorem Sdh.lt {R:Jn1} {S:Riv} {x:V} {q:Pr} {mv bad:V} {way t0:Int} {k:Nat} {y:V} {as:List V} (h:Sdh R S x q mv bad way t0 (some (k,y)) as):k < 4:=by
 rcases h with ⟨_,e,_⟩|⟨_,_,e,_⟩|⟨_,_,i,r,_,e,_⟩
 ·cases e;decide
 ·cases e;decide
 ·split at e
  ·cases e;decide
  ·split at e
   ·cases e;decide
   ·cases e
inductive Sn1 (K:Si) (a:Ad) (vs:List V) (H:Hp) (Q:VK) (z3:XK):Prop where
 |mk (e dx:S5) (k:Nat) (fs:List (Str×V)) (fr:Bool) (_:vs= [.ref e]) (_:k < 4) (_:H e=some (XO e (Jxc a k) (some dx) fr)) (_:H dx=some (XD dx fs)) (_:∀l H',Sn H H'->H' l=some (.lst ((Jzi k).map V.bl))->Q (.ref l) H')
inductive Sn7 (K:Si) (a:Ad) (vs:List V) (H:Hp) (Q:VK) (z3:XK):Prop where
 |mk (A f g rw' p o L:S5) (H0:Hp) (td:V) (R:Jn1) (S:Riv) (x:V) (q:Pr) (bad:V) (bq:Pr) (rr:Option (List V)) (way t0:Int) (mv:V) (_:vs= [.ref o,x,.ref L,mv]) (_:H A=some (.lst [])) (_:H L=some (.lst [.ref f,.ref g])) (_:RnX K a H A f g rw' p o H0 td R S x q bad bq rr way t0) (_:Sbz H0 mv) (_:∀v H' D as,Sdh R S x q mv bad way t0 D as->Exc A H H'->H' A=some (.lst as)->OV D H' v->Q v H')
theorem Sef:Jmp ["_law_e","_law_kinds"] ["_law_e"] (Jml (top 87)):=⟨rfl,rfl,rfl,by decide +kernel,rfl,by decide +kernel,by decide +kernel⟩
theorem Jyq (T:Tx K mg a):Ybi P w K mg base 1 a.Jl6 a.Jl7 ["_law_e"] (Sn1 K a):=by
 refine T.Ja6.fn.okC Sef (λvs H Q E h=>?_) (λer cdv A outer s H vs Q E hr h=>?_)
 ·obtain ⟨e,dx,k,fs,fr,rfl,_⟩:=h
  rfl
 ·obtain ⟨e,dx,c,fs,fr,rfl,hc,h1,h2,k⟩:=h
  refine ⟨?t,?B,?C⟩
  case B=>
   refine' Jmi ?O0 ?O1
   case O0=>exact (Jmt (i:=1) Sef.nd rfl (ye rfl) (Jnt (pa4 (Jmq Jnq (by rfl) T.Jas Jmx (So (pv 0) (So (Jns (by rfl) T.Jbd (v:=.ref _) rfl) Ss))) (Jmq Jnq (by rfl) T.Jas Jmx (So (pv 0) (So (Jns (by rfl) T.Jba (v:=.ref _) rfl) Ss))) (Jmq Jnq (by rfl) T.Jas Jmx (So (pv 0) (So (Jns (by rfl) T.Jbb (v:=.ref _) rfl) Ss))) (Jmq Jnq (by rfl) T.Jas Jmx (So (pv 0) (So (Jns (by rfl) T.Jbc (v:=.ref _) rfl) Ss))))))
   case O1=>
   refine' Jmk ?O2
   case O2=>exact (Jms (Jn0 Jzu (pv 1) (Jnt (So (Jsk (Jmq Jnq (by rfl) T.Jas Jmx (So (pv 0) (So (Jns (by rfl) T.Jb3 (v:=.ref _) rfl) Ss))) (Jsl (Jmq Jnq (by rfl) T.Jas Jmx (So (pv 0) (So (Joc (v:=.ty "ValueError") (by rfl) T.Jan Jw9 rfl) Ss))))) Ss))))
  have cs:c=0\/c=1\/c=2\/c=3:=by omega
  have ty:∀{H'},Sn H H'->TyX K H' (.ref e) (.ref (Jxc a c)):=λs=>by
   rcases cs with rfl|rfl|rfl|rfl
   ·exact .exc (s _ _ h1) (s _ _ h2) T.Jdl
   ·exact .exc (s _ _ h1) (s _ _ h2) T.Jdf
   ·exact .exc (s _ _ h1) (s _ _ h2) T.Jdh
   ·exact .exc (s _ _ h1) (s _ _ h2) T.Jdj
  have F:Sj K (.ref (Jxc a c)) (.ref a.Jm2)=some (c==0)/\Sj K (.ref (Jxc a c)) (.ref a.Jlz)=some (c==1)/\Sj K (.ref (Jxc a c)) (.ref a.Jm0)=some (c==2)/\Sj K (.ref (Jxc a c)) (.ref a.Jm1)=some (c==3)/\Sj K (.ref (Jxc a c)) (.ref a.Jls)=some true/\Sj K (.ref (Jxc a c)) (.type "ValueError")=some true:=by
   rcases cs with rfl|rfl|rfl|rfl
   ·exact ⟨T.Jg8,T.Jg9,T.Jga,T.Jgb,T.Jgo,T.Jgs⟩
   ·exact ⟨T.Jgc,T.Jgd,T.Jge,T.Jgf,T.Jgp,T.Jgt⟩
   ·exact ⟨T.Jgg,T.Jgh,T.Jgi,T.Jgj,T.Jgq,T.Jgu⟩
   ·exact ⟨T.Jgk,T.Jgl,T.Jgm,T.Jgn,T.Jgr,T.Jgv⟩
  obtain ⟨f0,f1,f2,f3,fw,fv⟩:=F
  refine ⟨_,rfl,_,_,_,_,_,rfl,rfl,ty (Sn.refl H),f0,_,rfl,_,_,_,_,_,rfl,rfl,ty (Sn.refl H),f1,_,rfl,_,_,_,_,_,rfl,rfl,ty (Sn.refl H),f2,_,rfl,_,_,_,_,_,rfl,rfl,ty (Sn.refl H),f3,(show 4<=Sa by decide),λl hl=>?_⟩
  have s1:=Sn.upd (o:=.lst [.bl (c==0),.bl (c==1),.bl (c==2),.bl (c==3)]) hl
  refine ⟨_,rfl,_,rfl,_,_,_,_,_,rfl,rfl,ty s1,fw,_,rfl,Jnr ⟨_,rfl,_,_,_,_,_,rfl,rfl,ty s1,fv,(show 1<=Sa by decide),λl2 hl2=>?_⟩⟩
  have s2:=Sn.upd (o:=.lst [.bl true]) hl2
  exact ⟨l,l2,_,_,rfl,rfl,s2 _ _ Sv,Sv,(show 4+1<=Sa by decide),λl3 hl3=>k l3 _ ((s1.trans s2).trans (Sn.upd hl3)) Sv⟩
theorem Sa9:Jmp ["_law_river_here","_law_standing_here","_law_some","_law_many","_law_found","_law_e"] ["_law_river_here","_law_standing_here","_law_some","_law_many"] (Jml (top 89)):=⟨rfl,rfl,rfl,by decide +kernel,rfl,by decide +kernel,by decide +kernel⟩
theorem Jvw (T:Tx K mg a):Sx P w K mg base CX0 10 a.Jla a.Jlb ["_law_river_here","_law_standing_here","_law_some","_law_many"] (Sn7 K a):=by
 have C__law_kind:=Jyq (P:=P) (w:=w) (base:=base) T
 have Sp1:=Smi (P:=P) (w:=w) (base:=base) T
 refine T.Ja8.fn.ok Sa9 (λvs H Q E h=>?_) (λcdv A outer s H vs Q E hr h=>?_)
 ·obtain ⟨A,f,g,rw',p,o,L,H0,td,R,S,x,q,bad,bq,rr,way,t0,mv,rfl,_⟩:=h
  rfl
 ·obtain ⟨A,f,g,rw',p,o,L,H0,td,R,S,x,q,bad,bq,rr,way,t0,mv,rfl,hA,hL,rx,mm,k⟩:=h
  refine ⟨?t,?B,?C⟩
  case B=>
   refine' Jmi ?O0 ?O1
   case O0=>exact (Jmt (i:=4) Sa9.nd rfl (ye rfl) Joa)
   case O1=>
   refine' Jmi ?O2 ?O3
   case O2=>exact (Smu ⟨rfl,rfl⟩ (λ_ _ hw=>(Jmk (Jom (Joj T.Jj Sp1 hw hr (by decide) (pa5 (pv 0) (pv 1) (Jmv Jnc (pv 2) Sw (λ_ _=>rfl)) (Jmv Jnc (pv 2) Sw (λ_ _=>rfl)) (pv 3)))))) (by exact Ya1 T.Jdm T.Jbd Sa9.nd (i:=5) rfl rfl (λ_=>(Jmk (Jmt (i:=4) Sa9.nd rfl (ye rfl) (Jnx (So (Jt1 T.Ja6 C__law_kind hr (by decide) (So (pv 5) Ss)) (So (Jv0 (pv 5) (by rfl)) Ss)))))) (by exact Ya1 T.Jdg T.Jba Sa9.nd (i:=5) rfl rfl (λ_=>(Jmk (Jmt (i:=4) Sa9.nd rfl (ye rfl) (Jnx (So (Jt1 T.Ja6 C__law_kind hr (by decide) (So (pv 5) Ss)) (So (Jv0 (pv 5) (by rfl)) Ss)))))) (by exact Ya1 T.Jdi T.Jbb Sa9.nd (i:=5) rfl rfl (λ_=>(Jmk (Jmt (i:=4) Sa9.nd rfl (ye rfl) (Jnx (So (Jt1 T.Ja6 C__law_kind hr (by decide) (So (pv 5) Ss)) (So (Jv0 (pv 5) (by rfl)) Ss)))))) (by exact Ya1 T.Jdk T.Jbc Sa9.nd (i:=5) rfl rfl (λ_=>(Jmk (Jmt (i:=4) Sa9.nd rfl (ye rfl) (Jnx (So (Jt1 T.Ja6 C__law_kind hr (by decide) (So (pv 5) Ss)) (So (Jv0 (pv 5) (by rfl)) Ss)))))) Smr)))))
   case O3=>
   refine' Jmk ?O4
   case O4=>exact (Jms (pv 4))
  refine λpins=>?_
  refine ⟨_,rfl,_,rfl,_,rfl,L,_,0,_,rfl,rfl,Sy.of hL,rfl,_,rfl,L,_,1,_,rfl,rfl,Sy.of hL,rfl,_,rfl,A,f,g,rw',p,o,H0,td,R,S,x,q,bad,bq,rr,way,t0,mv,rfl,hA,rx,mm,?_,λv H' as dd e hA'=>⟨_,rfl,k _ _ _ _ dd e hA' rfl⟩⟩
  rintro c cl eo H' y as dd ⟨H1,e1,e,dx',rfl,rfl,s',q1,q2⟩ hA'
  have fin:∀(t l:S5) (H2:Hp),Sn H' H2->H2 t=some (.tup [.ref l,y])->H2 l=some (.lst ((Jzi c).map V.bl))->Q (.ref t) H2:=λt l H2 s2 ht hl=>k _ _ _ _ dd (e1.trans (Exc.same (s'.trans s2))) (s2 _ _ hA') ⟨t,l,rfl,ht,hl⟩
  have cs:c=0\/c=1\/c=2\/c=3:=by have:=dd.lt;omega
  rcases cs with rfl|rfl|rfl|rfl
  ·exact ⟨e,_,true,rfl,rfl,T.Jgw,Jnr ⟨_,rfl,e,dx',0,_,_,rfl,by decide,q1,q2,λl H2 s2 hl=>⟨_,rfl,e,_,_,_,dx',_,_,_,rfl,s2 _ _ q1,s2 _ _ q2,T.Jdl,T.Jew,rfl,(show 2<=Sa by decide),λt ht=>⟨_,rfl,fin t l _ (s2.trans (Sn.upd ht)) Sv (Sn.upd ht _ _ hl)⟩⟩⟩⟩
  ·exact ⟨e,_,false,rfl,rfl,T.Jgx,Jni ⟨e,_,true,rfl,rfl,T.Jgy,Jnr ⟨_,rfl,e,dx',1,_,_,rfl,by decide,q1,q2,λl H2 s2 hl=>⟨_,rfl,e,_,_,_,dx',_,_,_,rfl,s2 _ _ q1,s2 _ _ q2,T.Jdf,T.Jet,rfl,(show 2<=Sa by decide),λt ht=>⟨_,rfl,fin t l _ (s2.trans (Sn.upd ht)) Sv (Sn.upd ht _ _ hl)⟩⟩⟩⟩⟩
  ·exact ⟨e,_,false,rfl,rfl,T.Jgz,Jni ⟨e,_,false,rfl,rfl,T.Jh0,Jni ⟨e,_,true,rfl,rfl,T.Jh1,Jnr ⟨_,rfl,e,dx',2,_,_,rfl,by decide,q1,q2,λl H2 s2 hl=>⟨_,rfl,e,_,_,_,dx',_,_,_,rfl,s2 _ _ q1,s2 _ _ q2,T.Jdh,T.Jeu,rfl,(show 2<=Sa by decide),λt ht=>⟨_,rfl,fin t l _ (s2.trans (Sn.upd ht)) Sv (Sn.upd ht _ _ hl)⟩⟩⟩⟩⟩⟩
  ·exact ⟨e,_,false,rfl,rfl,T.Jh2,Jni ⟨e,_,false,rfl,rfl,T.Jh3,Jni ⟨e,_,false,rfl,rfl,T.Jh4,Jni ⟨e,_,true,rfl,rfl,T.Jh5,Jnr ⟨_,rfl,e,dx',3,_,_,rfl,by decide,q1,q2,λl H2 s2 hl=>⟨_,rfl,e,_,_,_,dx',_,_,_,rfl,s2 _ _ q1,s2 _ _ q2,T.Jdj,T.Jev,rfl,(show 2<=Sa by decide),λt ht=>⟨_,rfl,fin t l _ (s2.trans (Sn.upd ht)) Sv (Sn.upd ht _ _ hl)⟩⟩⟩⟩⟩⟩⟩
def DV (D:Option (Nat×V)) (kv yv:V):Prop:=match D with
 |none=>kv= .non/\yv= .non
 |some (k,y)=>kv= .int k/\yv=y
inductive Sqj (K:Si) (a:Ad) (vs:List V) (H:Hp) (Q:VK) (z3:XK):Prop where
 |mk (p o:S5) (td:V) (R:Jn1) (S:Riv) (x:V) (q:Pr) (bad:V) (bq:Pr) (rr:Option (List V)) (way t0:Int) (mv:V) (_:vs= [td,.ref o,x,mv,.int way,bad,.int t0]) (_:Ask K a p o H td R S x q bad bq rr) (_:Sbz H mv) (_:∀D as d l kv yv H',Sdh R S x q mv bad way t0 D as->Sn H H'->H' d=some (.lst [kv,yv,.ref l])->H' l=some (.lst as)->DV D kv yv->Q (.ref d) H')
theorem Sax:Jmp ["_law_told_here","_law_river_here","_law_standing_here","_law_many","_law_way","_law_bad","_law_at","_law_row","_law_asked","_law_k","_law_choice_here","_law_rain_here","_law_due_here"] ["_law_told_here","_law_river_here","_law_standing_here","_law_many","_law_way","_law_bad","_law_at"] (Jml (top 90)):=⟨rfl,rfl,rfl,by decide +kernel,rfl,by decide +kernel,by decide +kernel⟩
theorem Jzq (T:Tx K mg a):Sx P w K mg base CX0 8 a.Jlc a.Jld ["_law_told_here","_law_river_here","_law_standing_here","_law_many","_law_way","_law_bad","_law_at"] (Sqj K a):=by
 have Saj:=Jp6 (P:=P) (w:=w) (base:=base) T
 have Sbm:=Jqx (P:=P) (w:=w) (base:=base) T
 have Se7:=Jvv (P:=P) (w:=w) (base:=base) T
 have Scb:=Js9 (P:=P) (w:=w) (base:=base) T
 have Sfe:=Jwi (P:=P) (w:=w) (base:=base) T
 refine T.Ja9.fn.ok Sax (λvs H Q E h=>?_) (λcdv A outer s H vs Q E hr h=>?_)
 ·obtain ⟨p,o,td,R,S,x,q,bad,bq,rr,way,t0,mv,rfl,_⟩:=h
  rfl
 ·obtain ⟨p,o,td,R,S,x,q,bad,bq,rr,way,t0,mv,rfl,ask,mm,k⟩:=h
  have hu64:=Jxh hr
  refine ⟨?t,?B,?C⟩
  case B=>
   refine' Jmi ?O0 ?O1
   case O0=>exact (Jmt (i:=7) Sax.nd rfl (ye rfl) (Jn3 Jn5 (by rfl) T.Jb1 Jnk (So (Jng (N:=(["_law_one"]:List Str)) (ini:=[none]) rfl (Jo2 (Jmv Jn2 (pv 0) Sw (λ_ _=>rfl))) (λ_ _ _ _ _=>(Jmr (i:=0) (by decide +kernel:(["_law_one"]:List Str).Nodup) rfl (ye rfl))) (λ_ _ _ _ _=>Jnf) (λ_ _ _ _ _=>Sw)) Ss)))
   case O1=>
   refine' Jmi ?O2 ?O3
   case O2=>
    refine' Jn6 ?O4 ?O5 ?O6
    case O4=>exact (PW.pt (Jt6 (Jn7 (Jnb (Jmq Jnq (by rfl) T.Jas Jmx (So (pv 3) (So (Joc (v:=.ty "int") (by rfl) T.Jar Jsc rfl) Ss))))) (Jt6 (Jnb (Jmq Jnq (by rfl) T.Jas Jmx (So (pv 3) (So (Joc (v:=.ty "bool") (by rfl) T.Jap Juv rfl) Ss)))) (Jrn (Jn7 (Jt4 Jq4 Jq4 Sw (pv 3) Sw))))))
    case O5=>
     refine' Jmk ?O7
     case O7=>exact (Jms (Jnt (So Sw (So (pv 3) (So (Jnt Ss) Ss)))))
    case O6=>exact Jmu
   case O3=>
   refine' Jmi ?O8 ?O9
   case O8=>
    refine' Jn6 ?Oa ?Ob ?Oc
    case Oa=>exact (Jn7 (Jnb (Jmn T.J6 Saj hr (by decide) (So (pv 1) (So (pv 2) Ss)))))
    case Ob=>
     refine' Jmk ?Od
     case Od=>exact (Jms (Jnt (So Sw (So (pv 2) (So (Jnt Ss) Ss)))))
    case Oc=>exact Jmu
   case O9=>
   refine' Jmi ?Oe ?Of
   case Oe=>exact (Jmt (i:=8) Sax.nd rfl (ye rfl) (Jnt Ss))
   case Of=>
   refine' Jmi ?Og ?Oh
   case Og=>
    refine' Jqb ?Oi ?Oj ?Ok ?Ol ?Om
    case Oi=>exact PassesOwn.never
    case Oj=>exact rfl
    case Ok=>exact (Jpb (by rfl) T.Jax (So (pv 3) Ss))
    case Ol=>exact (Jmr (i:=9) Sax.nd rfl (ye rfl))
    case Om=>
    refine' Jmi ?On ?Oo
    case On=>exact (Jom (Jrl F.plainAttrs_list F.slot_list_append F.type_list_append Jop (pv 8) (So Joo Ss)))
    case Oo=>
    refine' Jmi ?Op ?Oq
    case Op=>
     refine' Jn6 ?Or ?Os ?Ot
     case Or=>exact (PW.pt (Jsn (Jna Joe (pv 4) Sw (Jn4 _)) (Jsn (Jna Joe (pv 9) (pv 6) (Jn4 _)) (Jt5 (Jn7 (Jnb (Jmn T.J7 Sbm hr (by decide) (So (pv 1) (So (pv 5) Ss)))))))))
     case Os=>
      refine' Jmk ?Ou
      case Ou=>exact (Jms (Jnt (So Sw (So (pv 5) (So (pv 8) Ss)))))
     case Ot=>exact Jmu
    case Oq=>
    refine' Jmi ?Ov ?Ow
    case Ov=>exact (Jom (Jrl F.plainAttrs_list F.slot_list_append F.type_list_append Jop (pv 8) (So Joo Ss)))
    case Ow=>
    refine' Jmi ?Ox ?Oy
    case Ox=>
     refine' Jn6 ?Oz ?U0 ?U1
     case Oz=>exact (PW.pt (Jsn (Jna Joe (pv 4) Sw (Jn4 _)) (Jsn (Jna Joe (pv 9) (pv 6) (Jn4 _)) (Jt5 (Jn7 (Jnb (Jmn T.J9 Se7.calm hr (by decide) (So (pv 1) (So (pv 2) (So (pv 5) Ss))))))))))
     case U0=>
      refine' Jmk ?U2
      case U2=>exact (Jms (Jnt (So Sw (So (pv 5) (So (pv 8) Ss)))))
     case U1=>exact Jmu
    case Oy=>
    refine' Jmi ?U3 ?U4
    case U3=>exact (Jmt (i:=10) Sax.nd rfl (ye rfl) (Jmv Jnc (Jnt (So (Jnx (So (pv 7) (So Joa Ss))) (So (pv 5) Ss))) (Jn3 Jqf (by rfl) T.Jar Jsc (So (Jsk (Jo1 Joe (pv 4) Sw (Jn4 _)) (Jsl (Jo1 Joe (pv 9) (pv 6) (Jn4 _)))) Ss)) (λ_ _=>rfl)))
    case U4=>
    refine' Jmi ?U5 ?U6
    case U5=>exact (Jmt (i:=11) Sax.nd rfl (ye rfl) (Jmv Jnc (Jnt (So (Jmn T.Ja1 Scb hr (by decide) (So (pv 0) (So (Jmv Jn2 (pv 2) Sw (λ_ _=>rfl)) (So (pv 7) Ss)))) (So (pv 5) Ss))) (Jn3 Jqf (by rfl) T.Jar Jsc (So (Jsk (Jo1 Joe (pv 4) Sw (Jn4 _)) (Jsl (Jo1 Joe (pv 9) (pv 6) (Jn4 _)))) Ss)) (λ_ _=>rfl)))
    case U6=>
    refine' Jmi ?U7 ?U8
    case U7=>exact (Jmt (i:=12) Sax.nd rfl (ye rfl) (Jmn T.Ja4 Sfe hr (by decide) (pa4 (pv 0) (pv 2) (pv 10) (pv 11))))
    case U8=>
    refine' Jmi ?U9 ?Ua
    case U9=>exact (Jmt (i:=2) Sax.nd rfl (ye rfl) (Jt3 Yct (pv 12) Jv1 (Jv2 Sw)))
    case Ua=>
    refine' Jmk ?Ub
    case Ub=>
    refine' Jn6 ?Uc ?Ud ?Ue
    case Uc=>exact (Jna (Jzw hu64) (Jmv Jn2 (pv 12) Sw (λ_ _=>rfl)) (Jnx Ss) (Jn4 _))
    case Ud=>
     refine' Jmk ?Uf
     case Uf=>exact Jyx
    case Ue=>exact Jmu
   case Oh=>
   refine' Jmk ?Ug
   case Ug=>exact (Jms (Jnt (So Joa (So Joa (So (pv 8) Ss)))))
  have wx:=ask.wx
  have rg:=wx.rg
  have hn:=rg.n
  obtain ⟨t,lb,lt,bs,ts,rfl,htt,hb,btl,_⟩:=id wx.rt
  have blen:=btl.len
  refine ⟨_,rfl,t,_,2,_,rfl,rfl,SqT.of htt,rfl,lb,rfl,⟨_,Sy.of hb⟩,λD hD=>?_⟩
  refine Jow (bs.map λ_=>V.int 0) hD (by simp) (by omega) hb ?_ ?_
  ·intro i x y H' Q' hx hy sm k'
   rw [yj,hx] at hy
   cases hy
   exact k' _ λ_ _ h=>h
  intro H1 s1 hD1
  refine ⟨D,_,rfl,.inl ⟨Sy.of hD1,λu hu=>?_⟩⟩
  have s2:=s1.trans (Sn.upd (o:=.tup (bs.map λ_=>V.int 0)) hu)
  have gu:=Sv (H:=H1) (a:=u) (o:=.tup (bs.map λ_=>V.int 0))
  generalize upd H1 u (.tup (bs.map λ_=>V.int 0))=H2 at*
  rw [Jyb,blen] at gu
  have ret:Jmz mv 0 200=false->∀e,H2 e=none->∀d,upd H2 e (.lst []) d=none->Q (.ref d) (upd (upd H2 e (.lst [])) d (.lst [.int 0,mv,.ref e])):=λwh e he d hd=>by
   have m1:=Sn.upd (o:=.lst []) he
   have m2:=Sn.upd (o:=.lst [.int 0,mv,.ref e]) hd
   exact k _ _ d e _ _ _ (.inl ⟨wh,rfl,rfl⟩) ((s2.trans m1).trans m2) Sv (m2 _ _ Sv) ⟨rfl,rfl⟩
  dsimp only [Jp4]
  refine Jov (λσ H'=>σ= [some (.ref t),some (.ref o),some x,some mv,some (.int way),some bad,some (.int t0),some (.ref u),none,none,none,none,none]/\H'=H2/\Jmz mv 0 200=true) (λR' hR=>?_) ?_
  ·rcases (mm.tm (K:=K)).same s2 with ⟨i,rfl⟩|⟨tt,ty,ht⟩
   ·refine ⟨_,rfl,_,_,_,_,_,rfl,rfl,.of (.int i),(by rfl:Sj K (.type "int") (.type "int")=some true),_,rfl,Jni ⟨_,rfl,_,_,_,_,_,rfl,rfl,.of (.int i),(by rfl:Sj K (.type "int") (.type "bool")=some false),_,rfl,Jni ?_⟩⟩
    refine ⟨_,rfl,_,_,rfl,rfl,_,rfl,?_⟩
    have wd:Jmz (.int i) 0 200=(decide (0<=i)&&decide (i<=200)):=rfl
    by_cases h1:0<=i
    ·refine ifT (decide_eq_true h1) ⟨_,_,rfl,rfl,_,rfl,?_⟩
     by_cases h2:i<=200
     ·rw [decide_eq_true h2]
      exact Jni (hR _ _ ⟨rfl,rfl,by rw [wd,decide_eq_true h1,decide_eq_true h2];rfl⟩)
     ·rw [decide_eq_false h2]
      exact Jnr ⟨_,rfl,(show 0<=Sa by decide),λe he=>⟨(show 3<=Sa by decide),λd hd=>ret (by rw [wd,decide_eq_true h1,decide_eq_false h2];rfl) e he d hd⟩⟩
    ·refine ifF (decide_eq_false h1) ⟨_,rfl,?_⟩
     exact Jnr ⟨_,rfl,(show 0<=Sa by decide),λe he=>⟨(show 3<=Sa by decide),λd hd=>ret (by rw [wd,decide_eq_false h1];rfl) e he d hd⟩⟩
   ·have ni:=Yv (lo:=0) (hi:=200) ty ht
    have e:=Ydf (K:=K) ht
    cases eb:(tt== .type "bool") with
    |true=>
     rw [eb] at e
     exact ⟨_,rfl,_,_,_,_,_,rfl,rfl,ty,e.1,_,rfl,Jni ⟨_,rfl,_,_,_,_,_,rfl,rfl,ty,e.2,_,rfl,Jnr (Jnr ⟨_,rfl,(show 0<=Sa by decide),λe he=>⟨(show 3<=Sa by decide),λd hd=>ret ni e he d hd⟩⟩)⟩⟩
    |false=>
     rw [eb] at e
     exact ⟨_,rfl,_,_,_,_,_,rfl,rfl,ty,e.1,_,rfl,Jnr (Jnr ⟨_,rfl,(show 0<=Sa by decide),λe he=>⟨(show 3<=Sa by decide),λd hd=>ret ni e he d hd⟩⟩)⟩
  rintro σ Hx ⟨rfl,rfl,wh⟩
  have ask2':=ask.same s2
  refine ⟨_,rfl,_,rfl,o,S,x,q,rfl,ask2'.wx.rv.ro,ask2'.px,λH3 s3=>⟨_,rfl,?_⟩⟩
  have s13:=s2.trans s3
  cases sq:stB S q with
  |false=>
   refine Jnr ⟨_,rfl,(show 0<=Sa by decide),λe he=>⟨(show 3<=Sa by decide),λd hd=>?_⟩⟩
   have m1:=Sn.upd (o:=.lst []) he
   have m2:=Sn.upd (o:=.lst [.int 1,x,.ref e]) hd
   exact k _ _ d e _ _ _ (.inr (.inl ⟨wh,sq,rfl,rfl⟩)) ((s13.trans m1).trans m2) Sv (m2 _ _ Sv) ⟨rfl,rfl⟩
  |true=>
  refine Jni ⟨(show 0<=Sa by decide),λA0 hA0=>?_⟩
  have sd:=Yd8 wx.lk sq (ask.px.same s13)
  have ask3:=ask.same s13
  replace gu:=s3 _ _ gu
  obtain ⟨n,rfl,hn2⟩:∃n:Nat,mv= .int n/\n<=200:=by
   obtain ⟨i,rfl⟩:=Jp3 wh
   have h2:(decide (0<=i)&&decide (i<=200))=true:=wh
   have h3:0<=i/\i<=200:=by simpa using h2
   exact ⟨i.toNat,by rw [Int.toNat_of_nonneg h3.1],by omega⟩
  have en':(Jq1 (.int (n:Int))).toNat=n:=ybc n
  have dE:∀{i r:Nat},Sfc R S (Jzj q) (Jq7 q) n way t0 i r->Sdh R S x q (.int n) bad way t0 (if r=0 then some (2,bad) else if r=1 then some (3,bad) else none) (Jp7 i++Yai r):=λ{i r} h=>.inr (.inr ⟨wh,sq,i,r,by rw [en'];exact h,rfl,rfl⟩)
  generalize Jzj q=ls at*
  generalize Jq7 q=wt at*
  have s4:=Sn.upd (o:=.lst []) hA0
  have hA1:=Sv (H:=H3) (a:=A0) (o:=.lst [])
  have keep:∀{Ha:Hp} {xs:List V},Sn H3 Ha->Sn H3 (upd Ha A0 (.lst xs)):=λ{Ha xs} s b ob e=>by rw [Jmm (Jmo e hA0)];exact s _ _ e
  dsimp only [Jp4]
  refine Jov (λσ H'=>∃(v2:V) (o9 o10 o11 o12:Option V) (m:Nat),σ= [some (.ref t),some (.ref o),some v2,some (.int n),some (.int way),some bad,some (.int t0),some (.ref u),some (.ref A0),o9,o10,o11,o12]/\Sn H3 H'/\H' A0=some (.lst (Jp7 m))/\Sfc R S ls wt n way t0 m 2) (λR' hR=>?_) ?_
  ·refine ⟨_,rfl,n,rfl,by omega,by omega,?_⟩
   refine Jqi (λi σ H'=>∃(nv:V) (o9 o10 o11 o12:Option V),σ= [some (.ref t),some (.ref o),some nv,some (.int n),some (.int way),some bad,some (.int t0),some (.ref u),some (.ref A0),o9,o10,o11,o12]/\Sn H3 H'/\H' A0=some (.lst (Jp7 i))/\(∀j,j < i->gB R S ls wt j= []/\Si9 way t0 j)/\Saw H' nv R (gL R S ls wt i) (gW R S ls wt i)) ⟨_,_,_,_,_,rfl,s4,hA1,(λj hj=>absurd hj (Nat.not_lt_zero j)),sd.same s4⟩ ?_ ?_
   ·rintro i σ H' hi ⟨nv,o9,o10,o11,o12,rfl,sH,hA',gd,sdi⟩
    have hi':i < n:=by omega
    have al':=Jv7 i
    rw [Int.zero_add]
    refine ⟨_,rfl,.inl ⟨rfl,_,Sy.of hA'⟩,A0,_,_,rfl,rfl,hA',Jne (by omega),?_⟩
    have sH1:=keep (xs:=Jp7 i++ [.str "keeper"]) sH
    have hA5:=Sv (H:=H') (a:=A0) (o:=.lst (Jp7 i++ [.str "keeper"]))
    have sd5:=sdi.ll (LL.upd (ys:=Jp7 i++ [.str "keeper"]) hA')
    generalize upd H' A0 (.lst (Jp7 i++ [.str "keeper"]))=H5 at*
    have ask5:=ask3.same sH1
    have al5:(Jp7 i++ [V.str "keeper"]).length=2*i+1:=by rw [yah,al'];rfl
    unfold Skr
    dsimp only
    refine Jov (λσ Hm=>σ= [some (.ref t),some (.ref o),some nv,some (.int n),some (.int way),some bad,some (.int t0),some (.ref u),some (.ref A0),some (.int i),o10,o11,o12]/\Hm=H5/\¬(way=0/\(i:Int)=t0)) (λR2 hR2=>?_) ?_
    ·refine ⟨_,rfl,rfl,_,rfl,?_⟩
     by_cases h0:way=0
     ·refine ifT (decide_eq_true (by rw [h0])) ⟨_,rfl,_,rfl,rfl,_,rfl,?_⟩
      by_cases h1:(i:Int)=t0
      ·refine ifT (decide_eq_true (by rw [h1])) ⟨_,rfl,_,rfl,o,S,bad,bq,rfl,ask5.wx.rv.ro,ask5.pb,λH6 s6=>⟨_,rfl,?_⟩⟩
       rw [ask.nc]
       refine Jnr ⟨_,rfl,_,rfl,(show 3<=Sa by decide),λd hd=>?_⟩
       have m2:=Sn.upd (o:=.lst [.int 2,bad,.ref A0]) hd
       exact k _ _ d A0 _ _ _ (dE (i:=i) (r:=0) ⟨by omega,λj hj=>(gd j hj).2,λj hj=>(gd j (by omega)).1,.inl ⟨rfl,hi',h0,h1,λj hj=>(gd j hj).1⟩⟩) (s13.trans (sH1.trans (s6.trans m2))) Sv (m2 _ _ (s6 _ _ hA5)) ⟨rfl,rfl⟩
      ·exact ifF (decide_eq_false λz=>h1 (V.int.inj z)) (Jni (hR2 _ _ ⟨rfl,rfl,λz=>h1 z.2⟩))
     ·exact ifF (decide_eq_false λz=>h0 (V.int.inj z)) (Jni (hR2 _ _ ⟨rfl,rfl,λz=>h0 z.1⟩))
    rintro σ Hm ⟨rfl,rfl,c0⟩
    refine ⟨_,rfl,.inl ⟨rfl,_,Sy.of hA5⟩,A0,_,_,rfl,rfl,hA5,Jne (by omega),?_⟩
    rw [List.append_assoc]
    have sH2:=keep (xs:=Jp7 (i+1)) sH1
    have hA6:=Sv (H:=Hm) (a:=A0) (o:=.lst (Jp7 (i+1)))
    have sd6:=sd5.ll (LL.upd (ys:=Jp7 (i+1)) hA5)
    have ask6:=ask3.same sH2
    dsimp only
    have eA:Jp7 i++([V.str "keeper"]++ [V.str "sky"])=Jp7 (i+1):=rfl
    rw [eA]
    generalize upd Hm A0 (.lst (Jp7 (i+1)))=H6 at*
    refine Jov (λσ Hm=>σ= [some (.ref t),some (.ref o),some nv,some (.int n),some (.int way),some bad,some (.int t0),some (.ref u),some (.ref A0),some (.int i),o10,o11,o12]/\Hm=H6/\¬(way=1/\(i:Int)=t0)) (λR2 hR2=>?_) ?_
    ·refine ⟨_,rfl,rfl,_,rfl,?_⟩
     by_cases h0:way=1
     ·refine ifT (decide_eq_true (by rw [h0])) ⟨_,rfl,_,rfl,rfl,_,rfl,?_⟩
      by_cases h1:(i:Int)=t0
      ·obtain ⟨q6,pq6,sb6⟩:=Y8 (K:=K) rg wx.lk sd6
       refine ifT (decide_eq_true (by rw [h1])) ⟨_,rfl,_,rfl,_,rfl,o,S,nv,q6,bad,rr,rfl,ask6.wx.rv.ro,pq6,ask6.rb,?_⟩
       rw [if_pos sb6]
       intro H7 s7
       refine ⟨_,rfl,?_⟩
       rw [ask.nr]
       refine Jnr ⟨_,rfl,_,rfl,(show 3<=Sa by decide),λd hd=>?_⟩
       have m2:=Sn.upd (o:=.lst [.int 3,bad,.ref A0]) hd
       exact k _ _ d A0 _ _ _ (dE (i:=i) (r:=1) ⟨by omega,λj hj=>(gd j hj).2,λj hj=>(gd j (by omega)).1,.inr (.inl ⟨rfl,hi',h0,h1,λj hj=>(gd j hj).1⟩)⟩) (s13.trans (sH2.trans (s7.trans m2))) Sv (m2 _ _ (s7 _ _ hA6)) ⟨rfl,rfl⟩
      ·exact ifF (decide_eq_false λz=>h1 (V.int.inj z)) (Jni (hR2 _ _ ⟨rfl,rfl,λz=>h1 z.2⟩))
     ·exact ifF (decide_eq_false λz=>h0 (V.int.inj z)) (Jni (hR2 _ _ ⟨rfl,rfl,λz=>h0 z.1⟩))
    rintro σ Hm' ⟨rfl,rfl,c1⟩
    have gu6:=sH2 _ _ gu
    refine Jov (λσ Hn=>∃c:S5,σ= [some (.ref t),some (.ref o),some nv,some (.int n),some (.int way),some bad,some (.int t0),some (.ref u),some (.ref A0),some (.int i),some (.ref c),o11,o12]/\Sn Hm' Hn/\Hn c=some (.tup [.ref u,.non])) (λR2 hR2=>?_) ?_
    ·refine ⟨_,rfl,(show 2<=Sa by decide),λc n_c=>⟨_,rfl,(show 2<=Sa by decide),λL n_L=>?_⟩⟩
     have m1:=Sn.upd (o:=.tup [.ref u,.non]) n_c
     have m2:=Sn.upd (o:=.lst [.ref c,bad]) n_L
     have fin:=hR2 [some (.ref t),some (.ref o),some nv,some (.int n),some (.int way),some bad,some (.int t0),some (.ref u),some (.ref A0),some (.int i),some (.ref c),o11,o12] _ ⟨c,rfl,m1.trans m2,m2 _ _ Sv⟩
     refine ⟨_,rfl,rfl,_,rfl,?_⟩
     by_cases h0:way=0
     ·refine ifT (decide_eq_true (by rw [h0])) ⟨_,rfl,_,rfl,rfl,.inr ⟨_,rfl,?_⟩⟩
      rw [decide_eq_false (λz=>c0 ⟨h0,V.int.inj z⟩)]
      exact ⟨L,_,_,_,rfl,rfl,Sy.of Sv,rfl,fin⟩
     ·exact ifF (decide_eq_false λz=>h0 (V.int.inj z)) (.inr ⟨_,rfl,L,_,_,_,rfl,rfl,Sy.of Sv,rfl,fin⟩)
    rintro σ H7 ⟨c,rfl,s7,hc7⟩
    have sH3:=sH2.trans s7
    have sd7:=sd6.same s7
    have ask7:=ask6.same s7
    have gu7:=s7 _ _ gu6
    refine Jov (λσ Hn=>∃r:S5,σ= [some (.ref t),some (.ref o),some nv,some (.int n),some (.int way),some bad,some (.int t0),some (.ref u),some (.ref A0),some (.int i),some (.ref c),some (.ref r),o12]/\Sn H7 Hn/\Hn r=some (.tup ((rzG R (gW R S ls wt i)).map V.int))/\Sil R (gW R S ls wt i) (rzG R (gW R S ls wt i))) (λR2 hR2=>?_) ?_
    ·obtain ⟨⟨y',uu,rfl,hy,huu⟩,_,_,w0,_⟩:=id sd7
     refine ⟨_,rfl,_,rfl,y',_,1,_,rfl,rfl,SqT.of hy,rfl,_,rfl,p,_,R,_,u,rfl,ask7.wx.rt,rg,w0,gu7,λr H8 s8 hr8 ri=>?_⟩
     refine ⟨_,rfl,(show 2<=Sa by decide),λL n_L=>?_⟩
     have m2:=Sn.upd (o:=.lst [.ref r,bad]) n_L
     have fin:=hR2 [some (.ref t),some (.ref o),some (.ref y'),some (.int n),some (.int way),some bad,some (.int t0),some (.ref u),some (.ref A0),some (.int i),some (.ref c),some (.ref r),o12] _ ⟨r,rfl,s8.trans m2,m2 _ _ hr8,ri⟩
     refine ⟨_,rfl,rfl,_,rfl,?_⟩
     by_cases h0:way=1
     ·refine ifT (decide_eq_true (by rw [h0])) ⟨_,rfl,_,rfl,rfl,.inr ⟨_,rfl,?_⟩⟩
      rw [decide_eq_false (λz=>c1 ⟨h0,V.int.inj z⟩)]
      exact ⟨L,_,_,_,rfl,rfl,Sy.of Sv,rfl,fin⟩
     ·exact ifF (decide_eq_false λz=>h0 (V.int.inj z)) (.inr ⟨_,rfl,L,_,_,_,rfl,rfl,Sy.of Sv,rfl,fin⟩)
    rintro σ H8 ⟨r,rfl,s8,hr8,ri⟩
    have sH4:=sH3.trans s8
    have sd8:=sd7.same s8
    have ask8:=ask7.same s8
    have ch8:=Ydu rg (s8 _ _ hc7) (s8 _ _ gu7)
    obtain ⟨_,_,g8⟩:=Sik.of ask8.wx.rt rg wx.lk ask8.wx.rv sd8 ch8 hr8 ri
    refine ⟨_,rfl,_,rfl,_,rfl,_,rfl,p,.ref t,R,S,nv,.ref c,_,_,_,_,r,_,rfl,g8.li,λdv H9 s9 du=>?_⟩
    obtain ⟨d,u1,u2,u3,rfl,hd,h1,h2,h3⟩:=id du
    refine ⟨_,rfl,_,rfl,d,_,rfl,SqT.of hd,(show ¬(HT.sIx 6 0 none=0/\HT.sIx 6 6 (some 2)=6) by decide),λx2 hx2=>?_⟩
    have s10:=Sn.upd (o:=.tup [.ref u1,.int (Jtf S (gW R S ls wt i) (rzG R (gW R S ls wt i)))]) hx2
    refine ⟨_,rfl,d,_,5,_,rfl,rfl,SqT.of (s10 _ _ hd),rfl,(show 0<=Sa by decide),λe he=>?_⟩
    have s11:=Sn.upd (o:=.tup []) he
    have s1011:=s10.trans s11
    have s911:=s9.trans s1011
    refine ⟨_,_,.tup (SqT.of (s1011 _ _ h3)) (Jyj _),.tup (SqT.of Sv) .nil,Jy4 _,rfl,_,rfl,?_⟩
    rw [if_pos rfl,Yc3]
    have cm:Si9 way t0 i:=⟨c0,c1⟩
    have hA11:=s911 _ _ (s8 _ _ (s7 _ _ hA6))
    by_cases hbk:gB R S ls wt i= []
    ·refine ifF (congrArg not (decide_eq_true hbk)) ⟨.ref x2,_,_,_,_,rfl,sH4.trans s911,hA11,λj hj=>?_,?_⟩
     ·by_cases z:j < i
      ·exact gd j z
      ·obtain rfl:j=i:=by omega
       exact ⟨hbk,cm⟩
     ·rw [Yo,Yp]
      have gl:(gL R S ls wt i).length=S.Bs.length:=by rw [sdi.2.1];exact (Jod wx.lk).symm
      exact Jz3 wx.lk (Yu gl g8.li.so g8.li.rl).2 hbk g8.w0 (s11 _ _ Sv) (s1011 _ _ h1)
    ·exact ifT (congrArg not (decide_eq_false hbk)) (hR _ _ ⟨_,_,_,_,_,i+1,rfl,sH4.trans s911,hA11,⟨by omega,λj hj=>(by
      by_cases z:j < i
      ·exact (gd j z).2
      ·obtain rfl:j=i:=by omega
       exact cm),λj hj=>(gd j (by omega)).1,.inr (.inr ⟨rfl,.inr ⟨i,rfl,hbk⟩⟩)⟩⟩)
   ·rintro σ H' ⟨nv,o9,o10,o11,o12,rfl,sH,hA',gd,sdi⟩
    rw [show ((n:Int)).toNat=n from ybc n] at*
    exact hR _ _ ⟨_,_,_,_,_,n,rfl,sH,hA',⟨yl _,λj hj=>(gd j hj).2,λj hj=>(gd j (by omega)).1,.inr (.inr ⟨rfl,.inl ⟨rfl,λj hj=>(gd j hj).1⟩⟩)⟩⟩
  ·rintro σ H' ⟨v2,o9,o10,o11,o12,m,rfl,sH,hA',en⟩
   refine ⟨_,rfl,(show 3<=Sa by decide),λd hd=>?_⟩
   have m2:=Sn.upd (o:=.lst [.non,.non,.ref A0]) hd
   exact k _ _ d A0 _ _ _ (dE en) ((s13.trans sH).trans m2) Sv (by rw [show Jp7 m++Yai 2=Jp7 m from yaq _];exact m2 _ _ hA') ⟨rfl,rfl⟩
def OkD (n:Nat) (d:PyData):Prop:=d.canLay0=true/\d.depth<=n
theorem Skj {n:Nat}:∀{ds:List PyData},(∀d∈ds,OkD n d)->PyData.canLayAll0 ds=true/\PyData.depthAll ds<=n
 | [],_=>⟨rfl,yad _⟩
 |d::ds,h=>by
  have ih:=Skj (ds:=ds) λe he=>h e (yac _ he)
  have h0:=h d yan
  refine ⟨?_,?_⟩
  ·rw [PyData.canLayAll0,h0.1,ih.1]
   rfl
  ·rw [PyData.depthAll]
   exact Nat.max_le.mpr ⟨h0.2,ih.2⟩
theorem Skk {n:Nat} {z:Str} (h:PyData.strOk z=true):OkD n (.str z):=⟨by rw [PyData.canLay0];exact h,yad _⟩
theorem Jto {K:Si} {H:Hp}:∀bs:List Bool,Scg K H (bs.map V.bl) (bs.map PyData.bool)
 | []=>.nil
 |_::r=>.cons (.bl _) (Jto r)
theorem Jve {K:Si} {H:Hp}:∀bs:List Str,Scg K H (bs.map V.str) (bs.map PyData.str)
 | []=>.nil
 |_::r=>.cons (.str _) (Jve r)
theorem Sme (k:Nat):SeqAt.shaped (.list ((Jzi k).map PyData.bool))=true/\PyData.eqv (.list ((Jzi k).map PyData.bool)) (.list ((Jzi k).map PyData.bool))=true:=by
 show SeqAt.shaped (.list [.bool (k==0),.bool (k==1),.bool (k==2),.bool (k==3),.bool true])=true/\PyData.eqv (.list [.bool (k==0),.bool (k==1),.bool (k==2),.bool (k==3),.bool true]) (.list [.bool (k==0),.bool (k==1),.bool (k==2),.bool (k==3),.bool true])=true
 generalize (k==0)=b0
 generalize (k==1)=b1
 generalize (k==2)=b2
 generalize (k==3)=b3
 cases b0 <;> cases b1 <;> cases b2 <;> cases b3 <;> exact ⟨by kernel_rfl,by kernel_rfl⟩
theorem Smo {K:Si} {H:Hp} {x:V} (h:Own H x):∃t c,TyX K H x t/\Sj K t (.type "bool")=some c:=by
 rcases h with h|⟨p,rfl,⟨vs,h|h,hv⟩|h|⟨k,v,h⟩⟩
 ·cases x with
  |non=>exact ⟨_,false,.of .non,rfl⟩
  |bl b=>exact ⟨_,true,.of (.bl b),rfl⟩
  |int i=>exact ⟨_,false,.of (.int i),rfl⟩
  |str z=>exact ⟨_,false,.of (.str z),rfl⟩
  |_=>cases h
 ·exact ⟨_,false,.of (.lst h),rfl⟩
 ·exact ⟨_,false,.of (.tup h),rfl⟩
 ·exact ⟨_,false,.of (.dK h),rfl⟩
 ·exact ⟨_,false,.of (.dK h),rfl⟩
def Shm (as:List V):Prop:=∀v∈as,v= .str "keeper" \/v= .str "sky"
theorem Ybl:∀i,Shm (Jp7 i)
 |0,_,h=>nomatch h
 |i+1,v,h=>by
  rw [Jp7] at h
  rcases ybn.mp h with h|h
  ·exact Ybl i v h
  ·simpa using h
theorem Sdh.asks {R:Jn1} {S:Riv} {x:V} {q:Pr} {mv bad:V} {way t0:Int} {D:Option (Nat×V)} {as:List V} (h:Sdh R S x q mv bad way t0 D as):Shm as:=by
 rcases h with ⟨_,_,rfl⟩|⟨_,_,_,rfl⟩|⟨_,_,i,r,_,_,rfl⟩
 ·exact λ_ h=>nomatch h
 ·exact λ_ h=>nomatch h
 ·intro v h
  rcases ybn.mp h with h|h
  ·exact Ybl i v h
  ·unfold Yai at h
   split at h
   ·exact .inl (by simpa using h)
   ·split at h
    ·simpa using h
    ·exact nomatch h
theorem Shm.strs:∀{as:List V},Shm as->∃ss:List Str,as=ss.map V.str/\∀s∈ss,s="keeper" \/s="sky"
 | [],_=>⟨[],rfl,λ_ h=>nomatch h⟩
 |v::as,h=>by
  obtain ⟨ss,rfl,q⟩:=Shm.strs (as:=as) λv hv=>h v (yac _ hv)
  rcases h v yan with rfl|rfl
  ·exact ⟨"keeper" ::ss,rfl,λs hs=>by
    rcases yk.mp hs with rfl|hs
    ·exact .inl rfl
    ·exact q s hs⟩
  ·exact ⟨"sky" ::ss,rfl,λs hs=>by
    rcases yk.mp hs with rfl|hs
    ·exact .inr rfl
    ·exact q s hs⟩
theorem Yf4 {ss:List Str} (h:∀s∈ss,s="keeper" \/s="sky"):SeqAt.shaped (.list (ss.map PyData.str))=true/\PyData.eqv (.list (ss.map PyData.str)) (.list (ss.map PyData.str))=true:=by
 have q:=Skj (n:=0) (ds:=ss.map PyData.str) λd hd=>by
  obtain ⟨s,hs,rfl⟩:=yaj.mp hd
  rcases h s hs with rfl|rfl
  ·exact Skk (by decide +kernel)
  ·exact Skk (by decide +kernel)
 have c:(PyData.list (ss.map PyData.str)).canLay0=true:=by rw [PyData.canLay0];exact q.1
 refine ⟨?_,SeqAt.eqv_refl _ c⟩
 unfold SeqAt.shaped
 rw [c,decide_eq_true (by rw [PyData.depth];have:=q.2;omega)]
 rfl
inductive Yey (vs:List V) (H:Hp) (Q:VK) (z3:XK):Prop where
 |mk (v kv yv:V) (A d l:S5) (D:Option (Nat×V)) (as:List V) (_:vs= [v,.ref A,.ref d]) (_:OV D H v) (_:H A=some (.lst as)) (_:H d=some (.lst [kv,yv,.ref l])) (_:H l=some (.lst as)) (_:DV D kv yv) (_:Shm as) (_:(∀k y,D=some (k,y)->k < 4/\Own H y)) (_:∀H',Sn H H'->Q (.bl true) H')
theorem Jy3:Jmp ["_law_found","_law_asked","_law_due_here"] ["_law_found","_law_asked","_law_due_here"] (Jml (top 91)):=⟨rfl,rfl,rfl,by decide +kernel,rfl,by decide +kernel,by decide +kernel⟩
theorem Jxp (T:Tx K mg a):Sx P w K mg base CX0 1 a.Jle a.Jlf ["_law_found","_law_asked","_law_due_here"] Yey:=by
 refine T.Jaa.fn.ok Jy3 (λvs H Q E h=>?_) (λcdv A outer s H vs Q E hr h=>?_)
 ·obtain ⟨v,kv,yv,A,d,l,D,as,rfl,_⟩:=h
  rfl
 ·obtain ⟨v,kv,yv,A,d,l,D,as,rfl,ov,hA,hd,hl,dv,sa,od,k⟩:=h
  have hu64:=Jxh hr
  refine ⟨?t,?B,?C⟩
  case B=>
   refine' Jmi ?O0 ?O1
   case O0=>
    refine' Jn6 ?O2 ?O3 ?O4
    case O2=>exact (PW.pt (Jt6 (Jna (Jzw hu64) (pv 1) (Jmv Jnc (pv 2) Sw (λ_ _=>rfl)) (Jn4 _)) (Jrn (Jna Skn (Jo1 Ju0 (pv 0) Joa (Jn4 _)) (Jo1 Ju0 (Jmv Jnc (pv 2) Sw (λ_ _=>rfl)) Joa (Jn4 _)) (Jn4 _)))))
    case O3=>
     refine' Jmk ?O5
     case O5=>exact (Jms Joi)
    case O4=>exact Jmu
   case O1=>
   refine' Jmi ?O6 ?O7
   case O6=>
    refine' Jn6 ?O8 ?O9 ?Oa
    case O8=>exact (Jna Ju0 (pv 0) Joa (Jn4 _))
    case O9=>
     refine' Jmk ?Ob
     case Ob=>exact (Jms Joi)
    case Oa=>exact Jmu
   case O7=>
   refine' Jmi ?Oc ?Od
   case Oc=>
    refine' Jn6 ?Oe ?Of ?Og
    case Oe=>exact (Jna (Jzw hu64) (Jmv Jn2 (pv 0) Sw (λ_ _=>rfl)) (Jn0 Jzu (Jng (N:=(["_law_kind_here","_law_due_here"]:List Str)) (ini:=[none,some 2]) rfl (Jpb (by rfl) T.Jax (So Sw Ss)) (λ_ _ _ _ _=>(Jmr (i:=0) (by decide +kernel:(["_law_kind_here","_law_due_here"]:List Str).Nodup) rfl (ye rfl))) (λ_ _ _ _ _=>Jnf) (λ_ _ _ _ _=>(Jo1 Joe (pv 0) (Jmv (Jvl (K:=K) rfl) (pv 1) Sw (λ_ _=>rfl)) (Jn4 _)))) (Jnt (So Joi Ss))) (Jn4 _))
    case Of=>
     refine' Jmk ?Oh
     case Oh=>exact (Jms Joi)
    case Og=>exact Jmu
   case Od=>
   refine' Jmk ?Oi
   case Oi=>exact (Jms (Jsk (Jo1 Joe (Jmq Jnq (by rfl) T.Jas Jmx (So (Jmv Jn2 (pv 0) Sw (λ_ _=>rfl)) (So (Joc (v:=.ty "bool") (by rfl) T.Jap Juv rfl) Ss))) (Jmq Jnq (by rfl) T.Jas Jmx (So (Jmv Jnc (pv 2) Sw (λ_ _=>rfl)) (So (Joc (v:=.ty "bool") (by rfl) T.Jap Juv rfl) Ss))) (Jn4 _)) (Jsl (Jo1 (Smm hu64) (Jmv Jn2 (pv 0) Sw (λ_ _=>rfl)) (Jmv Jnc (pv 2) Sw (λ_ _=>rfl)) (Jn4 _)))))
  obtain ⟨ss,rfl,hss⟩:=sa.strs
  have so:=Yf4 hss
  refine ⟨_,rfl,_,rfl,d,_,2,_,rfl,rfl,Sy.of hd,rfl,_,_,.lst (Sy.of hA) (Jve ss),.lst (Sy.of hl) (Jve ss),so.1,so.1,_,rfl,?_⟩
  rw [if_pos rfl,so.2]
  refine Jni ?_
  cases D with
  |none=>
   obtain rfl:v= .non:=ov
   obtain ⟨rfl,rfl⟩:kv= .non/\yv= .non:=dv
   refine ⟨_,rfl,rfl,_,rfl,d,_,0,_,rfl,rfl,Sy.of hd,rfl,rfl,rfl,_,rfl,ifF (by simp) ?_⟩
   exact ⟨_,rfl,rfl,_,rfl,Jyk rfl (k _ (Sn.refl H))⟩
  |some kx=>
   obtain ⟨n,x⟩:=kx
   obtain ⟨t,l',rfl,ht,hl'⟩:=ov
   obtain ⟨rfl,rfl⟩:kv= .int n/\yv=x:=dv
   obtain ⟨hn,ox⟩:=od n yv rfl
   refine ⟨_,rfl,rfl,_,rfl,d,_,0,_,rfl,rfl,Sy.of hd,rfl,rfl,rfl,_,rfl,ifF (by simp) ?_⟩
   refine ⟨_,rfl,rfl,_,rfl,Jwa (λz=>by cases z) ?_⟩
   refine ⟨_,rfl,t,_,0,_,rfl,rfl,SqT.of ht,rfl,4,rfl,by decide,by decide,λD hD=>?_⟩
   refine Jse (lo:=0) (λi σ H'=>(∃o,σ= [o,some (.ref d)])/\H' D=some (.lst ((yaz i).map λj:Nat=>V.bl (decide (V.int (j:Int)=V.int n))))/\Sn H H') ⟨⟨_,rfl⟩,Sv,Sn.upd hD⟩ ?_ ?_
   ·rintro i σ H' hi ⟨⟨o,rfl⟩,hD',sm⟩
    rw [Int.zero_add]
    refine Jo7 ⟨_,rfl,_,rfl,d,_,0,_,rfl,rfl,Sy.of (sm _ _ hd),rfl,rfl,_,hD',by rw [yf,List.length_range];exact Jne (by omega),⟨_,rfl⟩,?_,λb ob e=>?_⟩
    ·rw [Sv,List.range_succ,yal]
     rfl
    ·rw [Jmm (Jmo e hD)]
     exact sm _ _ e
   rintro σ H2 ⟨_,hD2,s2⟩
   refine ⟨(show 1<=Sa by decide),λM hM=>?_⟩
   have s3:=Sn.upd (o:=.lst [.bl true]) hM
   refine ⟨D,M,_,_,rfl,rfl,s3 _ _ hD2,Sv,(show 4+1<=Sa by decide),λN hN=>?_⟩
   have el:((yaz 4).map λj:Nat=>V.bl (decide (V.int (j:Int)=V.int n)))++ [V.bl true]=(Jzi n).map V.bl:=by
    have cs:n=0\/n=1\/n=2\/n=3:=by omega
    rcases cs with rfl|rfl|rfl|rfl <;> rfl
   have ko:=Sme n
   have s4:=Sn.upd (o:=.lst (((yaz 4).map λj:Nat=>V.bl (decide (V.int (j:Int)=V.int n)))++ [V.bl true])) hN
   have hN4:=Sv (H:=upd H2 M (.lst [.bl true])) (a:=N) (o:=.lst (((yaz 4).map λj:Nat=>V.bl (decide (V.int (j:Int)=V.int n)))++ [V.bl true]))
   have s5:=s2.trans (s3.trans s4)
   replace hN4:=hN4.trans (congrArg (λz=>some (HO.lst z)) el)
   refine ⟨_,_,.lst (Sy.of (s5 _ _ hl')) (Jto _),.lst (Sy.of hN4) (Jto _),ko.1,ko.1,_,rfl,?_⟩
   rw [if_pos rfl,ko.2]
   refine Jni ?_
   have ox5:=Own.same s5 ox
   obtain ⟨ty,b,tb,eb⟩:=Smo (K:=K) ox5
   refine ⟨_,rfl,t,_,1,_,rfl,rfl,SqT.of (s5 _ _ ht),rfl,_,_,_,ty,b,rfl,rfl,tb,eb,_,rfl,d,_,1,_,rfl,rfl,Sy.of (s5 _ _ hd),rfl,_,_,_,ty,b,rfl,rfl,tb,eb,rfl,?_⟩
   rw [decide_eq_true rfl]
   exact ⟨_,rfl,Jnr ⟨_,rfl,t,_,1,_,rfl,rfl,SqT.of (s5 _ _ ht),rfl,_,rfl,d,_,1,_,rfl,rfl,Sy.of (s5 _ _ hd),rfl,rfl,ox5,k _ s5⟩⟩
inductive spLaw (K:Si) (a:Ad) (vs:List V) (H:Hp) (Q:VK) (z3:XK):Prop where
 |mk (x:S5) (ns:List Int) (_:vs= [.ref x]) (_:Sy K H x (ns.map V.int)) (_:ns.length<=63) (_:H a.Jme=some (.tbl lb__law_told)) (_:∀H',Q (.bl true) H')
theorem Sdh.own {R:Jn1} {S:Riv} {x:V} {q:Pr} {mv bad:V} {way t0:Int} {k:Nat} {y:V} {as:List V} {H:Hp} (h:Sdh R S x q mv bad way t0 (some (k,y)) as) (o1:Own H mv) (o2:Own H x) (o3:Own H bad):Own H y:=by
 rcases h with ⟨_,e,_⟩|⟨_,_,e,_⟩|⟨_,_,i,r,_,e,_⟩
 ·cases e;exact o1
 ·cases e;exact o2
 ·split at e
  ·cases e;exact o3
  ·split at e
   ·cases e;exact o3
   ·cases e
theorem Saw.own {H:Hp} {x:V} {R:Jn1} {ls:List Int} {wt:Int} (h:Saw H x R ls wt):Own H x:=by
 obtain ⟨⟨y,u,rfl,hy,_⟩,_⟩:=h
 refine Yy hy λv hv=>?_
 simp only [yk,yp,or_false] at hv
 rcases hv with rfl|rfl
 ·exact .inr ⟨_,rfl⟩
 ·exact .inl rfl
theorem Ycc {H:Hp} {l1:S5} (h:H l1=some (.lst [.int 2])):∀v∈ [V.int (-1),.int 201,.bl true,.non,.str "3",.int (10^(50:Int).toNat),.ref l1,.int 200],Sbz H v:=by
 intro v hv
 simp only [yk,yp,or_false] at hv
 rcases hv with rfl|rfl|rfl|rfl|rfl|rfl|rfl|rfl
 ·exact .inl ⟨_,rfl⟩
 ·exact .inl ⟨_,rfl⟩
 ·exact .inr (.inl rfl)
 ·exact .inr (.inr (.inl rfl))
 ·exact .inr (.inr (.inr (.inl rfl)))
 ·exact .inl ⟨_,rfl⟩
 ·exact .inr (.inr (.inr (.inr ⟨_,rfl,h⟩)))
 ·exact .inl ⟨_,rfl⟩
theorem Sbz.but {p:S5} {H H':Hp} {v:V} (st:Sbb H p) (b:But p H H') (h:Sbz H v):Sbz H' v:=by
 rcases h with h|h|h|h|⟨l,e,h⟩
 ·exact .inl h
 ·exact .inr (.inl h)
 ·exact .inr (.inr (.inl h))
 ·exact .inr (.inr (.inr (.inl h)))
 ·exact .inr (.inr (.inr (.inr ⟨l,e,Jry st b h (by intro _ _ _ z;cases z)⟩)))
theorem Sbd:Jmp ["_law_script","_law_told_here","_law_river_here","_law_k","_law_stream_here","_law_standing_here","_law_many","_law_way","_law_bad","_law_at","_law_asked","_law_found"] ["_law_script"] (Jml (top 92)):=⟨rfl,rfl,rfl,by decide +kernel,rfl,by decide +kernel,by decide +kernel⟩
theorem ok_law (T:Tx K mg a) (B:Bmn mg base):Sx P w K mg base CX0 11 a.a_law a.d_law ["_law_script"] (spLaw K a):=by
 have Sed:=Jyo (P:=P) (w:=w) (base:=base) T
 have Scc:=Jsa (P:=P) (w:=w) (base:=base) T
 have Sr:=Jon (P:=P) (w:=w) (base:=base) T
 have Sfx:=Jxq (P:=P) (w:=w) (base:=base) T
 have Sgf:=Jys (P:=P) (w:=w) (base:=base) T
 have Sek:=Jup (P:=P) (w:=w) (base:=base) T
 have Sf0:=Jzr (P:=P) (w:=w) (base:=base) T
 have Sgh:=Jyu (P:=P) (w:=w) (base:=base) T B
 have Sf1:=Jvw (P:=P) (w:=w) (base:=base) T
 have Sgy:=Jzq (P:=P) (w:=w) (base:=base) T
 have Sfw:=Jxp (P:=P) (w:=w) (base:=base) T
 refine T.f_law.fn.ok Sbd (λvs H Q E h=>?_) (λcdv A outer s H vs Q E hr h=>?_)
 ·obtain ⟨x,ns,rfl,_⟩:=h
  rfl
 ·obtain ⟨x,ns,rfl,hS,hl,htk,k⟩:=h
  have hu64:=Jxh hr
  refine ⟨?t,?B,?C⟩
  case B=>
   refine' Jmi ?O0 ?O1
   case O0=>exact (Jmt (i:=1) Sbd.nd rfl (ye rfl) (Jmn T.Jw Sfx hr (by decide) (So (Jmn T.Jq Sed hr (by decide) (So (pv 0) (So Sw Ss))) Ss)))
   case O1=>
   refine' Jmi ?O2 ?O3
   case O2=>exact (Jmt (i:=2) Sbd.nd rfl (ye rfl) (Jmn T.Jy Sgf hr (by decide) (So (pv 1) Ss)))
   case O3=>
   refine' Jmi ?O4 ?O5
   case O4=>
    refine' Jqb ?O6 ?O7 ?O8 ?O9 ?Oa
    case O6=>exact PassesOwn.never
    case O7=>exact rfl
    case O8=>exact (Yb0 (by rfl) T.Jax (So Sw (So (Jmq (Jp8 rfl) (by rfl) T.Jav Jsd (So Sw (So (Jmq (Jp0 rfl) (by rfl) T.Jaw Jr9 (So (Jmq Jn8 (by rfl) T.Jat Jof (So (pv 0) Ss)) (So Sw Ss))) Ss))) Ss)))
    case O9=>exact (Jmr (i:=3) Sbd.nd rfl (ye rfl))
    case Oa=>
    refine' Jmi ?Ob ?Oc
    case Ob=>exact (Jmt (i:=4) Sbd.nd rfl (ye rfl) (Jmn T.Jr Scc hr (by decide) (So (Jmn T.Jq Sed hr (by decide) (So (pv 0) (So (pv 3) Ss))) Ss)))
    case Oc=>
    refine' Jmi ?Od ?Oe
    case Od=>exact (Jmt (i:=5) Sbd.nd rfl (ye rfl) (Jmn T.Jz Sek hr (by decide) (So (pv 4) (So (pv 1) Ss))))
    case Oe=>
    refine' Jmi ?Of ?Og
    case Of=>
     refine' Jn6 ?Oh ?Oi ?Oj
     case Oh=>exact (Jna Joe (Jmn T.Js Sr hr (by decide) (So (pv 4) (So Sw Ss))) Sw (Jn4 _))
     case Oi=>
      refine' Jmk ?Ok
      case Ok=>exact (Jmt (i:=5) Sbd.nd rfl (ye rfl) (Jmn T.Ja5 Sf0 hr (by decide) (So (pv 4) (So (pv 1) Ss))))
     case Oj=>exact Jmu
    case Og=>
    refine' Jmi ?Ol ?Om
    case Ol=>exact (Jmt (i:=6) Sbd.nd rfl (ye rfl) (Jmn T.Js Sr hr (by decide) (So (pv 4) (So Sw Ss))))
    case Om=>
    refine' Jmi ?On ?Oo
    case On=>
     refine' Jn6 ?Op ?Oq ?Or
     case Op=>exact (Jna Joe (Jmn T.Js Sr hr (by decide) (So (pv 4) (So Sw Ss))) Sw (Jn4 _))
     case Oq=>
      refine' Jmk ?Os
      case Os=>exact (Jmt (i:=6) Sbd.nd rfl (ye rfl) (Jmv Jnc (Jnt (pa8 (Yci Yd Sw) Sw Joi Joa Joo (Jn0 Yce Sw Sw) (Jnt (So Sw Ss)) Sw)) (Jmn T.Js Sr hr (by decide) (So (pv 4) (So Sw Ss))) (λ_ _=>rfl)))
     case Or=>exact Jmu
    case Oo=>
    refine' Jmi ?Ot ?Ou
    case Ot=>exact (Jmt (i:=7) Sbd.nd rfl (ye rfl) (Jmn T.Js Sr hr (by decide) (So (pv 4) (So Sw Ss))))
    case Ou=>
    refine' Jmi ?Ov ?Ow
    case Ov=>exact (Jmt (i:=8) Sbd.nd rfl (ye rfl) (Jmn T.Ja5 Sf0 hr (by decide) (So (pv 4) (So (pv 1) Ss))))
    case Ow=>
    refine' Jmi ?Ox ?Oy
    case Ox=>exact (Jmt (i:=9) Sbd.nd rfl (ye rfl) (Jmn T.Js Sr hr (by decide) (So (pv 4) (So Sw Ss))))
    case Oy=>
    refine' Jmi ?Oz ?U0
    case Oz=>exact (Jmt (i:=10) Sbd.nd rfl (ye rfl) (Jnt Ss))
    case U0=>
    refine' Jmi ?U1 ?U2
    case U1=>exact (Jmt (i:=11) Sbd.nd rfl (ye rfl) (Jmn T.Ja8 Sf1 hr (by decide) (pa4 (pv 2) (pv 5) (Jmn T.Ja7 Sgh hr (by decide) (pa5 (pv 7) (pv 1) (pv 10) (pv 8) (pv 9))) (pv 6))))
    case U2=>
    refine' Jmk ?U3
    case U3=>
    refine' Jn6 ?U4 ?U5 ?U6
    case U4=>exact (Jn7 (Jnb (Jmn T.Jaa Sfw hr (by decide) (So (pv 11) (So (pv 10) (So (Jmn T.Ja9 Sgy hr (by decide) (pa7 (pv 1) (pv 2) (pv 5) (pv 6) (pv 7) (pv 8) (pv 9))) Ss))))))
    case U5=>
     refine' Jmk ?U7
     case U7=>exact (Jms Joi)
    case U6=>exact Jmu
   case O5=>
   refine' Jmk ?U8
   case U8=>exact (Jms Joi)
  refine ⟨_,rfl,x,ns,0,rfl,hS,λc0=>⟨c0,rfl,λtd R p0 H1 hp0 s1 st0 rt rg=>?_⟩⟩
  refine ⟨_,rfl,p0,td,R,rfl,rt,rg,λo S H2 s2 ro lk gx=>?_⟩
  have s12:=s1.trans s2
  have rv2:=Smv ro lk rg gx
  have wx2:WX K a p0 o H2 td R S:=⟨rt.same rg s2,rg,lk,rv2⟩
  refine ⟨_,rfl,x,_,rfl,.inl (s12.seq hS),_,_,rfl,_,_,rfl,_,_,rfl,⟨by decide,by decide,?_,?_⟩,?_⟩
  ·split <;> split <;> omega
  ·split <;> split <;> omega
  refine Jqi (λi σ H'=>∃o3 o4 o5 o6 o7 o8 o9 o10 o11,σ= [some (.ref x),some td,some (.ref o),o3,o4,o5,o6,o7,o8,o9,o10,o11]/\Sn H2 H') ⟨_,_,_,_,_,_,_,_,_,rfl,Sn.refl _⟩ ?_ ?_
  ·rintro i σ Hs hi ⟨o3,o4,o5,o6,o7,o8,o9,o10,o11,rfl,sH⟩
   refine ⟨_,rfl,_,rfl,x,ns,1+i,by simp,(s12.trans sH).seq hS,λcl=>⟨cl,rfl,λp H3 hp s3 st=>?_⟩⟩
   have wx3:=((wx2.same sH).move hp).same s3
   refine ⟨_,rfl,_,rfl,p,td,R,rfl,st,wx3.rt,rg,λsv ls wt H4 b4 sd=>?_⟩
   dsimp only [Jp4]
   refine Jov (λσ H'=>∃(xv:V) (q:Pr),σ= [some (.ref x),some td,some (.ref o),some (.int (1+i)),some (.ref p),some xv,o6,o7,o8,o9,o10,o11]/\But p H3 H'/\PrT K H' xv q/\Own H' xv) (λR' hR=>?_) ?_
   ·refine ⟨_,rfl,p,5,rfl,b4.2,by decide,by decide,λr5 H5 r0 r1 b5=>⟨rfl,_,rfl,?_⟩⟩
    have b45:=b4.trans b5
    by_cases h5:r5=0
    ·refine ifT (decide_eq_true (by rw [h5])) ⟨_,rfl,_,rfl,p,td,R,rfl,b5.2,(wx3.but st b45).rt,rg,λxv H6 ⟨q,rr,px,_,ow,_⟩ b6=>?_⟩
     exact hR _ _ ⟨xv,q,rfl,b45.trans b6,px,ow⟩
    ·refine ifF (decide_eq_false λz=>h5 (V.int.inj z)) ?_
     have sd5:=sd.but b4.2 b5
     obtain ⟨q,pq,_⟩:=Y8 (K:=K) rg lk sd5
     exact hR _ _ ⟨sv,q,rfl,b45,pq,sd5.own⟩
   rintro σ H5 ⟨xv,q,rfl,b5,px,ox⟩
   refine ⟨_,rfl,p,12,rfl,b5.2,by decide,by decide,λm H6 m0 m1 b6=>?_⟩
   have px6:=px.ll (LL.but b5.2 b6)
   have ox6:=Own.but b5.2 b6 ox
   have b56:=b5.trans b6
   dsimp only [Jp4]
   refine Jov (λσ H'=>∃(mv:V),σ= [some (.ref x),some td,some (.ref o),some (.int (1+i)),some (.ref p),some xv,some mv,o7,o8,o9,o10,o11]/\But p H6 H'/\Sbz H' mv) (λR' hR=>?_) ?_
   ·refine ⟨_,rfl,p,5,rfl,b6.2,by decide,by decide,λr5 H7 r0 r1 b7=>⟨rfl,_,rfl,?_⟩⟩
    by_cases h5:r5=0
    ·refine ifT (decide_eq_true (by rw [h5])) ⟨_,rfl,_,_,rfl,rfl,⟨by decide,by decide,by decide⟩,(show 1<=Sa by decide),λl1 n_l1=>⟨(show 8<=Sa by decide),λL n_L=>?_⟩⟩
     have m1:=Sn.upd (o:=.lst [.int 2]) n_l1
     have g1:=Sv (H:=H7) (a:=l1) (o:=.lst [.int 2])
     generalize upd H7 l1 (.lst [.int 2])=H8 at*
     have m2:=Sn.upd (o:=.lst [V.int (-1),.int 201,.bl true,.non,.str "3",.int (10^(50:Int).toNat),.ref l1,.int 200]) n_L
     have g2:=Sv (H:=H8) (a:=L) (o:=.lst [V.int (-1),.int 201,.bl true,.non,.str "3",.int (10^(50:Int).toNat),.ref l1,.int 200])
     replace g1:=m2 _ _ g1
     have b8:=But.of b7.2 (m1.trans m2)
     have nL:L≠p:=(But.of b7.2 m1).2.ne n_L
     generalize upd H8 L (.lst [V.int (-1),.int 201,.bl true,.non,.str "3",.int (10^(50:Int).toNat),.ref l1,.int 200])=H9 at*
     refine ⟨_,rfl,p,8,rfl,b8.2,by decide,by decide,λr H10 r0 r1 b9=>?_⟩
     obtain ⟨v,hv,hat⟩:=Ybm (xs:=[V.int (-1),.int 201,.bl true,.non,.str "3",.int (10^(50:Int).toNat),.ref l1,.int 200]) r0 r1
     exact ⟨L,_,_,v,rfl,rfl,Sy.of (b9.1 _ _ nL g2),hat,hR _ _ ⟨v,rfl,(b7.trans b8).trans b9,(Ycc g1 v hv).but b8.2 b9⟩⟩
    ·exact ifF (decide_eq_false λz=>h5 (V.int.inj z)) (hR _ _ ⟨.int m,rfl,b7,.inl ⟨m,rfl⟩⟩)
   rintro σ H7 ⟨mv,rfl,b7,mm⟩
   refine ⟨_,rfl,p,3,rfl,b7.2,by decide,by decide,λway H8 w0 w1 b8=>?_⟩
   have b38:=(b56.trans b7).trans b8
   refine ⟨_,rfl,_,rfl,p,td,R,rfl,b8.2,(wx3.but st b38).rt,rg,λbad H9 od b9=>?_⟩
   refine ⟨_,rfl,p,4,rfl,b9.2,by decide,by decide,λt0 H10 t00 t01 b10=>?_⟩
   obtain ⟨bq,rr,pb,rb,ob,nn⟩:=od.but b9.2 b10
   have b610:=((b7.trans b8).trans b9).trans b10
   have b710:=(b8.trans b9).trans b10
   have px10:=px6.ll (LL.but b6.2 b610)
   have ox10:=Own.but b6.2 b610 ox6
   have mm10:=mm.but b7.2 b710
   have b310:=b56.trans b610
   have wx10:=wx3.but st b310
   have s10:Sn Hs H10:=λc ob e=>b310.1 _ _ (Jmo e hp) (s3 _ _ e)
   have ask:Ask K a p o H10 td R S xv q bad bq rr:=⟨wx10,px10,pb,rb,(nn S lk).1,(nn S lk).2⟩
   refine ⟨(show 0<=Sa by decide),λA hA=>?_⟩
   have a1:=Sn.upd (o:=.lst []) hA
   have hA1:=Sv (H:=H10) (a:=A) (o:=.lst [])
   have tk:Sn H H10:=(s12.trans sH).trans s10
   generalize upd H10 A (.lst [])=H11 at*
   refine ⟨_,rfl,_,rfl,_,rfl,_,rfl,_,rfl,_,rfl,_,rfl,p,way,t0,td,bad,A,R,rfl,wx10.rt.same rg a1,rg,a1 _ _ (tk _ _ htk),λL f g rw' H12 s12' hL hrw kf kg=>?_⟩
   have s0:=a1.trans s12'
   refine ⟨_,rfl,A,f,g,rw',p,o,L,H10,td,R,S,xv,q,bad,bq,rr,way,t0,mv,rfl,s12' _ _ hA1,hL,⟨hA,s0,ask,hrw,kf,kg⟩,mm10,λv H13 D as dd e hA2 ov=>?_⟩
   have s13:=e.of hA s0
   refine ⟨_,rfl,_,rfl,_,rfl,_,rfl,_,rfl,_,rfl,_,rfl,_,rfl,_,rfl,p,o,td,R,S,xv,q,bad,bq,rr,way,t0,mv,rfl,ask.same s13,mm10.same s13,λD' as' d l kv yv H14 dd' s14 hd hl dv=>?_⟩
   obtain ⟨rfl,rfl⟩:=dd.uniq dd'
   have s1014:=s13.trans s14
   refine ⟨v,kv,yv,A,d,l,D,as,rfl,ov.same s14,s14 _ _ hA2,hd,hl,dv,dd.asks,λkk y e=>?_,λH15 s15=>⟨_,rfl,Jni ⟨_,_,_,_,_,_,_,_,_,rfl,sH.trans (s10.trans (s1014.trans s15))⟩⟩⟩
   subst e
   exact ⟨dd.lt,dd.own (Own.same s1014 mm10.own) (Own.same s1014 ox10) (Own.same s1014 ob)⟩
  ·rintro σ H' _
   exact k _
end
end K16
namespace PySem.W.Fast
def tw3438949661169878454:=()
def tw17467798161114507675:=()
def tw12442697677860164213:=()
def tw17089389926021373683:=()
def tw2424948026831539056:=()
def tw16609156631302076925:=()
def tw16071412245466801642:=()
def tw3029496442426617589:=()
def tw17217744148069012040:=()
def tw1761804300030394069:=()
def tw17569776839723896902:=()
def tw5926603932005105731:=()
def tw12979412599368881982:=()
def tw11024584331716043090:=()
def tw8044554112753967547:=()
def tw1007446711621799592:=()
def tw4080256017784623594:=()
def tw8733546710962247196:=()
def tw4023763021177496636:=()
def tw14611689419767982870:=()
def tw6235810800009295032:=()
def tw13596005891984552227:=()
def tw13922260669964547875:=()
def tw17391426996863848722:=()
def tw11250478542183410829:=()
def tw5093414453657153743:=()
def tw1706301163349025306:=()
def tw9246055483915833206:=()
def tw947651203683955960:=()
def tw1650014516661771589:=()
def tw17645507588861843164:=()
def tw14596543234630865777:=()
def tw9467673623449660237:=()
def tw12533340155248079785:=()
def tw15218178703235955703:=()
def tw1109013526999499372:=()
def tw11874310743239372843:=()
def tw2971135994280601602:=()
def tw5046930748912554397:=()
def tw11327103022367852529:=()
def tw17813647239421680938:=()
def tw671016748251150536:=()
def tw13902060163409056842:=()
def tw13915702286544867003:=()
def tw12399574147865262566:=()
def tw15069565819442456105:=()
def tw13118040333063192130:=()
def tw3526175703449275197:=()
def tw11264026736677956671:=()
def tw8223522704370970876:=()
def tw9858209971121643664:=()
def tw2229850887118625196:=()
def tw13785935819804470184:=()
def tw5652871185328292779:=()
def tw4724123572860343717:=()
def tw16692764855456018056:=()
def tw13133972086351541273:=()
def tw3053944124926455574:=()
def tw15960705684772581654:=()
def tw17609484374257865654:=()
def tw1615092932659048356:=()
def tw5457991148721033101:=()
def tw18162664336146661146:=()
def tw16180875666162378896:=()
def tw2952384535810040604:=()
def tw16512112712762680050:=()
def tw8029841063662487171:=()
def tw9360876861128638372:=()
def tw6621829672029466913:=()
def tw6602362680110418049:=()
def tw5708098801632861533:=()
def tw18259157467185859641:=()
def tw15079602114336379935:=()
def tw17901241642575917801:=()
def tw18180966043334992440:=()
def tw3110290572123244399:=()
def tw16783775341432077589:=()
def tw6839549799060951617:=()
def tw13512788943222203611:=()
def tw10348218189177181341:=()
def tw2360999652878799566:=()
def tw8920529392467969791:=()
def tw10269916893597168505:=()
def tw5429600711979973184:=()
def tw4250358461966432652:=()
def tw7057088743930321065:=()
def tw6050797804938586336:=()
def tw374433962829262570:=()
def tw16511409223124333331:=()
def tw7161160580852239734:=()
def tw9625219023112497375:=()
def tw6343564461003995481:=()
def tw14393981647366489408:=()
def tw9437366320616181327:=()
def tw3084137634582050328:=()
def tw11006397123574054571:=()
def tw9097968349923406569:=()
def tw11469981833087781669:=()
def tw12001189043676567362:=()
def tw15177244171831532855:=()
def tw15718845124641570760:=()
def tw18021542508659992203:=()
def tw10275767176144888843:=()
def tw7024792659825689749:=()
def tw15691938253164098131:=()
def tw15527212036485579986:=()
def tw630021634090489929:=()
def tw9064344684294041177:=()
def tw17215560120066951:=()
def tw1244070526294215706:=()
def tw1472593438180484051:=()
def tw16954671378595039056:=()
def tw17433634069815485617:=()
def tw9814126950053787714:=()
def tw17529468677328050036:=()
def tw15472499611428904875:=()
def tw15126640800235994195:=()
def tw1227309518775013036:=()
def tw6961889975274320299:=()
def tw1381224855946690846:=()
def tw14079428927044393195:=()
def tw6327015108336465066:=()
def tw14407023157159417015:=()
def tw17564878943364829712:=()
def tw14267776572558633620:=()
def tw11052118953710538886:=()
def tw484688364802979297:=()
def tw12706969998301445346:=()
def tw6202114379775903314:=()
def tw17518294316490312116:=()
def tw4093288115020145188:=()
def tw12259907435740981609:=()
def tw16837078516304344190:=()
def tw13932626569535280666:=()
def tw8021423993846426163:=()
def tw2759875824709735209:=()
def tw6056020112596390622:=()
def tw18104025592225900822:=()
def tw1140855124295087414:=()
def tw5448807037427829162:=()
def tw13658379896558660471:=()
def tw5367268529795430684:=()
def tw8004523328866981179:=()
def tw17625680510072987560:=()
def tw16762127213491037030:=()
def tw2339217899894504161:=()
def tw17215985001131735720:=()
def tw6045214094948941790:=()
def tw11988153943607728618:=()
def tw4473531447870408069:=()
def tw1254111570391843991:=()
def tw8181437997190851850:=()
def tw817408331771209144:=()
def tw10039924746549456686:=()
def tw13517726554580231650:=()
def tw17104355530287644704:=()
def tw18268307889157029551:=()
def tw17630183786382520395:=()
def tw14098718358671885731:=()
def tw5502759630280951412:=()
def tw9644042823750930120:=()
def tw5520330787455371402:=()
def tw2054930261695756273:=()
def tw8140521206761060769:=()
def tw12682360542526153222:=()
def tw7670892937369218164:=()
def tw3410882691951226033:=()
def tw10807604305327188648:=()
def tw7875130175558267820:=()
def tw14268517174415879195:=()
def tw9024308441320979067:=()
def tw7634624713694565845:=()
def tw13244447949812664238:=()
def tw18071761232026825783:=()
def tw10218391364314024065:=()
def tw2112885293644760200:=()
def tw15411403403503446625:=()
def tw10652586597763019234:=()
def tw14318502023295520090:=()
def tw146012703725554502:=()
def tw7042054705683409229:=()
def tw17412839091749834064:=()
def tw17608101115240057610:=()
def tw9853634326062448641:=()
def tw16991606919733505702:=()
def tw8934801483794958364:=()
def tw12181643395285803059:=()
def tw7146024633372926274:=()
def tw11720924819520692420:=()
def tw6435078576216605171:=()
def tw17284036174070119160:=()
def tw56749392519505100:=()
def tw16157559221015293421:=()
def tw3956940535638465650:=()
def tw5618555615019351682:=()
def tw2781592740586850912:=()
def tw9609168174312909061:=()
def tw18139030240152040838:=()
def tw1528171605129342816:=()
def tw8368770142283899205:=()
def tw5678964760866017941:=()
def tw17104890939193814722:=()
def tw10403341222288179551:=()
def tw12332445139732070038:=()
def tw5714328074514382916:=()
def tw3001202146679422275:=()
def tw11182932872793210556:=()
def tw3378686510697518628:=()
def tw14290104682808623602:=()
def tw13232668988923424656:=()
def tw14627052753385211467:=()
def tw15614730598791870226:=()
def tw10663226567611257429:=()
def tw15385714072507480055:=()
def tw2345003129908574535:=()
def tw14395451967532281063:=()
def tw7166399021545490340:=()
def tw4668079685915324044:=()
def tw2060577442014535252:=()
def tw17793545587510147188:=()
def tw11405981707497567632:=()
def tw3334552627197941650:=()
def tw826030587340825343:=()
def tw3688820015197600844:=()
def tw16478610143740475683:=()
def tw1512550039550351955:=()
def tw1390405602034779188:=()
def tw7933847901850881990:=()
def tw14672399709542270018:=()
def tw15453301957141233565:=()
def tw3059142486619600811:=()
def tw16844289142915916636:=()
def tw9303615565353046483:=()
def tw1451778981562276691:=()
def tw7400460235510857091:=()
def tw7575293932941710605:=()
def tw14421268059267644235:=()
def tw16323173809749633527:=()
def tw3094285473476794637:=()
def tw8856602157714533963:=()
def tw2670004198255739211:=()
def tw8562020781850661747:=()
def tw14421951289591858141:=()
def tw7422557062594949804:=()
def tw7649048139457408650:=()
def tw15503144463111310669:=()
def tw17083407932875760958:=()
def tw17477552205952456489:=()
def tw14827050508812179208:=()
def tw11511203003469690285:=()
def tw11645708983355866683:=()
def tw15734559209707439870:=()
def tw754915200332982084:=()
def tw2124999256744544113:=()
def tw7314695596693881181:=()
def tw2724681055348658403:=()
def tw16744970090843961823:=()
def tw3104041038951181462:=()
def tw4691284188803875196:=()
def tw3339054815380259272:=()
def tw1012519427811482073:=()
def tw7814153502257094655:=()
def tw5745347116964290553:=()
def tw5913213722483311471:=()
def tw15789477079058880590:=()
def tw104341788813885233:=()
def tw14327529478318512854:=()
def tw9219866415120456878:=()
def tw10904138087040413579:=()
def tw8691173142873496759:=()
def tw12004490026230929850:=()
def tw7274348272443973031:=()
def tw1981901973120071315:=()
def tw15385531707194392957:=()
def tw4945672505893839979:=()
def tw8328999821315204267:=()
def tw15799346796651428645:=()
def tw8019820151432825585:=()
def tw13984300191197073546:=()
def tw3189611217997410711:=()
def tw3868725967435315926:=()
def tw17523423861345119456:=()
def tw14911780616669759179:=()
def tw7475707691054135910:=()
def tw11950134316145911611:=()
def tw5558128612068891222:=()
def tw17251742465579309325:=()
def tw13031643925112394709:=()
def tw5419060778800557467:=()
def tw5389362823123564409:=()
def tw949239854655064052:=()
def tw3691173791125911928:=()
def tw616164690597839649:=()
def tw9381582521807516986:=()
def tw18224626465138931629:=()
def tw3488384263169351964:=()
def tw1230526742769447170:=()
def tw9153333538953372945:=()
def tw14259270679025055438:=()
def tw2216990761492564805:=()
def tw11658811784834724514:=()
def tw3543194481723811569:=()
def tw7806393073220772296:=()
def tw16738334761819795183:=()
def tw5194437491712574168:=()
def tw5400407530039421363:=()
def tw8248157766305671732:=()
def tw14489296190150527103:=()
def tw10341153964188500288:=()
def tw5811520320539849530:=()
def tw11124809150299995949:=()
def tw5538511138324567495:=()
def tw16096838614483607921:=()
def tw10013789075242921487:=()
def tw11885285439873672080:=()
def tw18436036286956943297:=()
def tw3032959919137038354:=()
def tw11846951478735077571:=()
def tw8701572387992865926:=()
def tw14749137522981472280:=()
def tw16630497533175200452:=()
def tw6127379863120818235:=()
def tw15871812919154530628:=()
def tw15048129202879550039:=()
def tw15079023138816212946:=()
def tw2243914688215612576:=()
def tw13020546073958085172:=()
def tw5245467019313245403:=()
def tw3802588311449774744:=()
def tw17579841684857595501:=()
def tw4971070371029515604:=()
def tw12870096937409894161:=()
def tw5305728147205096958:=()
def tw988630867653307179:=()
def tw10809524753103042155:=()
def tw509916227235725461:=()
def tw17226231914063549585:=()
def tw14354795442391813950:=()
def tw16828085424311688582:=()
def tw440851118967179582:=()
def tw17855969879578384615:=()
def tw10111931655627687011:=()
def tw7320316344829735757:=()
def tw2666487229765744919:=()
def tw7931107918332908295:=()
def tw5869143120438741806:=()
def tw3678891402513836266:=()
def tw9622065625406672357:=()
def tw16314283539739704178:=()
def tw906354568658376982:=()
def tw7301568273020837350:=()
def tw10828670045957574539:=()
def tw17778340539222773052:=()
def tw9191257587169840679:=()
def tw13448662443684846644:=()
def tw10965072396637108835:=()
def tw17005564702824637182:=()
def tw16057015708910884914:=()
def tw17452665025474076181:=()
def tw3590617315125392956:=()
def tw9197629634093151128:=()
def tw10494759516375347063:=()
def tw5940697371312736307:=()
def tw18180710287048271584:=()
def tw11794710140614750279:=()
def tw922808344587491092:=()
def tw14122513126906508553:=()
def tw10584070917264946531:=()
def tw6197637806216503641:=()
def tw15777239490180084553:=()
def tw6664907190047622936:=()
def tw16969247359370845817:=()
def tw4493178690998982645:=()
def tw14869862222307503522:=()
def tw8182648381256009466:=()
def tw3666280115482786953:=()
def tw8264398911651951523:=()
def tw2976291411450023276:=()
def tw14624182875397797527:=()
def tw3840406338188704988:=()
def tw15879123596863530827:=()
def tw4009657119856072422:=()
def tw15829333968505159723:=()
def tw8818092993757609102:=()
def tw8931675029832551638:=()
def tw15022053154788618:=()
def tw18245219909134498389:=()
def tw4293173725508699875:=()
def tw14928652790421425597:=()
def tw2740281019724997897:=()
def tw16332247234916331679:=()
def tw4148530030902563449:=()
def tw11780493457120263554:=()
def tw17151109963448153137:=()
def tw14315233073364368430:=()
def tw14344709074408791490:=()
def tw6198261840440361127:=()
def tw5412528716411795158:=()
def tw10181770774098452705:=()
def tw7389796330264401404:=()
def tw2102003411297633385:=()
def tw15129349621270154816:=()
def tw8047433948479918470:=()
def tw14300740789764888069:=()
def tw16961305236474389196:=()
def tw12139779712325316495:=()
def tw1324741258893413902:=()
def tw1488352011201676282:=()
def tw7956058950355956548:=()
def tw15008511920630085144:=()
def tw10691868481440651258:=()
def tw4037260637825025691:=()
def tw12530119181307251487:=()
def tw1648312397709579063:=()
def tw801200592934239317:=()
def tw16277582568992047869:=()
def tw12786767589428266491:=()
def tw17257711882218405879:=()
def tw2966697667215548875:=()
def tw14004317541247575289:=()
def tw11446260866073433115:=()
end PySem.W.Fast
open PySem PySem.W PyProof.Rows
set_option maxRecDepth 100000 in
set_option maxHeartbeats 0 in
theorem PySem.Challenge.cw_weirwatch_k16_runs_refused_holds : PySem.Challenge.rw_weirwatch_k16_runs_refused.Holds := by
 w_on;o_law;k_head;(case hw=>w_witness2)
 k_fill
 refine L2.walk_ofT (l:=PySem.Challenge.rw_weirwatch_k16_runs_refused) (n:=63) (k:=11) (x:="_law_script") (CX:=L2.CX0) rfl (by decide) rfl ⟨rfl,by decide,by decide⟩ (λw h Y=>PySem.W.km_in_of Y) ?K ?F ?C
 case K=>intro w;kernel_rfl
 case F=>
  intro w mg fa h KX G TB hmg
  have T:∃a:K16.Ad,(∀(s:S7) (v:S6),BindsTo s a.d_law ⟨[v],[]⟩ [("_law_script",v)])/\K16.Tx (L2.KOf KX) mg a:=by
   have hh:=λaa ab ac ad ae af ag ah ai aj ak al am an ao ap aq ar au av aw ax ay az ba bb bc bd be bf bg bh bi bj bk bl bm bn bo bp bq br bs bt bu bv bw bx bz ca cb cc cd ce cf cg ch ci cj ck cl cm cn co cp cq cr cs ct cu cv cw cx cy cz da db dc dd de df dg dh di dj dk dl dm dn dp dq dr ds dt du dv dw dx dy dz ea eb ec ed ee ef eg eh ei ej ek el em en eo ep eq er es et eu ev ew ex ey ez fb fc fd fe ff fg fh fi fj fk fl fm fn fo fp fq fr fs ft fu fv fw fx fy fz ga gb gc gd ge gf gg gh gi gj gk gl gm gn go gp gq gr gs gt gu gv gw gx gy gz ha hb hc hd he hf hg hh hi hj hk hl hm hn=>@K16.Tx.mk (L2.KOf KX) mg ⟨aa,ab,ac,ad,ae,af,ag,ah,ai,aj,ak,al,am,an,ao,ap,aq,ar,au,av,aw,ax,ay,az,ba,bb,bc,bd,be,bf,bg,bh,bi,bj,bk,bl,bm,bn,bo,bp,bq,br,bs,bt,bu,bv,bw,bx,bz,ca,cb,cc,cd,ce,cf,cg,ch,ci,cj,ck,cl,cm,cn,co,cp,cq,cr,cs,ct,cu,cv,cw,cx,cy,cz,da,db,dc,dd,de,df,dg,dh,di,dj,dk,dl,dm,dn,dp,dq,dr,ds,dt,du,dv,dw,dx,dy,dz,ea,eb,ec,ed,ee,ef,eg,eh,ei,ej,ek,el,em,en,eo,ep,eq,er,es,et,eu,ev,ew,ex,ey,ez,fb,fc,fd,fe,ff,fg,fh,fi,fj,fk,fl,fm,fn,fo,fp,fq,fr,fs,ft,fu,fv,fw,fx,fy,fz,ga,gb,gc,gd,ge,gf,gg,gh,gi,gj,gk,gl,gm,gn,go,gp,gq,gr,gs,gt,gu,gv,gw,gx,gy,gz,ha,hb,hc,hd,he,hf,hg,hh,hi,hj,hk,hl,hm,hn⟩
   dsimp only [L2.KOf,L2.NoAttr] at hh⊢
   apply Exists.intro
   refine' ⟨?bb,?tx⟩
   case tx=>
    apply hh
    iterate 48 (refine' L2.ft_mk KX G ?a ?b ?c ?d ?e;(case a=>k_is);(case b=>k_is);(case c=>k_is);(case d=>k_is);(case e=>first|(intro _ _ _ _ _ _ u h;obtain ⟨_,rfl⟩:=L2.lv1 u h;rfl)|(intro _ _ _ _ _ _ u h;obtain ⟨_,_,rfl⟩:=L2.lv2 u h;rfl)|(intro _ _ _ _ _ _ u h;obtain ⟨_,_,_,rfl⟩:=L2.lv3 u h;rfl)|(intro _ _ _ _ _ _ u h;obtain ⟨_,_,_,_,rfl⟩:=L2.lv4 u h;rfl)|(intro _ _ _ _ _ _ u h;obtain ⟨_,_,_,_,_,rfl⟩:=L2.lv5 u h;rfl)|(intro _ _ _ _ _ _ u h;obtain ⟨_,_,_,_,_,_,_,rfl⟩:=L2.lv7 u h;rfl)))
    iterate 12 (refine' PySem.W.mg_of KX G ?a;(case a=>k_is))
    iterate 16 (refine' PySem.W.mg_none_of KX G ?a;(case a=>k_is))
    iterate 21 (refine' PySem.W.mg_of KX G ?a;(case a=>k_is))
    iterate 30 (k_is)
    iterate 30 (refine' L2.fm_mk ?a ?b ?c ?d;(case a=>k_is);(case b=>k_is);(case c=>k_is);(case d=>first|(intro _ _ _ _ _ _ u h;obtain ⟨_,rfl⟩:=L2.lv1 u h;rfl)|(intro _ _ _ _ _ _ u h;obtain ⟨_,_,rfl⟩:=L2.lv2 u h;rfl)|(intro _ _ _ _ _ _ u h;obtain ⟨_,_,_,rfl⟩:=L2.lv3 u h;rfl)|(intro _ _ _ _ _ _ u h;obtain ⟨_,_,_,_,rfl⟩:=L2.lv4 u h;rfl)|(intro _ _ _ _ _ _ u h;obtain ⟨_,_,_,_,_,rfl⟩:=L2.lv5 u h;rfl)|(intro _ _ _ _ _ _ u h;obtain ⟨_,_,_,_,_,_,_,rfl⟩:=L2.lv7 u h;rfl)))
    iterate 7 (refine' L2.xc_mk ?a ?b ?c;(case a=>k_is);(case b=>kernel_rfl);(case c=>kernel_rfl))
    refine' L2.ec_mk ?a ?b;(case a=>k_is);(case b=>k_is)
    refine' L2.xc_mk ?a ?b ?c;(case a=>k_is);(case b=>kernel_rfl);(case c=>kernel_rfl)
    refine' L2.ec_mk ?a ?b;(case a=>k_is);(case b=>k_is)
    refine' L2.xc_mk ?a ?b ?c;(case a=>k_is);(case b=>kernel_rfl);(case c=>kernel_rfl)
    refine' L2.ec_mk ?a ?b;(case a=>k_is);(case b=>k_is)
    refine' L2.xc_mk ?a ?b ?c;(case a=>k_is);(case b=>kernel_rfl);(case c=>kernel_rfl)
    refine' L2.ec_mk ?a ?b;(case a=>k_is);(case b=>k_is)
    iterate 38 (constructor <;> k_is)
    iterate 36 (k_is)
    refine' L2.nst_mk ?a ?b ?c ?d ?e;(case a=>k_is);(case b=>rfl);(case c=>k_is);(case d=>rfl);(case e=>rfl)
    kernel_rfl
    decide
    iterate 51 (kernel_rfl)
   case bb=>exact λs v=>.of_eq rfl
  obtain ⟨a,b,T⟩:=T
  have e:=hmg.symm.trans T.f_law.mgx
  cases e
  exact ⟨a.d_law,K16.spLaw (L2.KOf KX) a,[(a.Jme,K16.lb__law_told)],b,List.forall_mem_cons.mpr ⟨L2.tab_kn (y:="_law_told") TB rfl T.Jfq,λ_ z=>nomatch z⟩,T.tnd,λbase kb nb B=>K16.ok_law T B,λH x ns hl ht hS=>⟨x,ns,rfl,hS,hl,ht _ (.head _),λ_=>rfl⟩⟩
 case C=>exact λ_ _ _ _ z=>z
#print axioms PySem.Challenge.cw_weirwatch_k16_runs_refused_holds
