import PyProof.Rows.All
import Wide.All
import OpenK.AllK
import Wide.FinOn
import Lean
import PyProof.EqAt
import PyProof.EqKinds
import PyProof.TupleCall
import PySem.Challenge.RW_weirwatch_k76_local_keepers_asked
open PySem renaming Addr → S5, Value → S6, Shared → S7, wpAny_bind → S8, wpAny_pure → S9, sizeLine → Sa, Program → Sb, FuncData → Sc, World → Sd, Around → Se, Stmt → Sf, Heap → Sg, wpAny → Sh
open PySem.W renaming Frag → Si, kitOne → Sj, findIn → Sk, mroIn → Sl, instObj → Sm
open Or renaming inl → ye, inr → yal
open List renaming length_map → yf, getElem?_map → ym, mem_cons → yn, getElem?_eq_getElem → yp, getElem?_eq_some_iff → yq, map_append → yt, size_toArray → yu, range → yv, replicate → yw, not_mem_nil → yx, mem_of_getElem? → yad, mem_range → yae, length_take → yah, length_append → yai, getD_eq_getElem?_getD → yaj, take_add_one → yan, mem_cons_of_mem → yaq, mem_cons_self → yar, map_cons → yas, take_of_length_le → yat, all_eq_true → yau, length_range → yaw, append_nil → yay, nodup_cons → yaz, lookup_cons → yba, mem_map → ybc, mem_singleton → ybd, mem_append → ybf, length_cons → ybg, length_filter_le → ybi, mem_append_right → ybm, nodup_nil → ybo, range_succ → ybq, filter_append → ybr, mem_filter → ybs, lookup → ybt, length_replicate → ybv, replicate_succ → ybw, countP_cons → yby, filter_cons → ybz, getElem?_append_right → ycc, getElem?_append_left → ycd, Pairwise → ycf, getElem_mem → ycg, find?_cons → ycj, forIn_cons → yck, take_length → ycl, any_eq_true → ycm, filterMap_cons → ycq, getElem?_set_ne → ycr, flatten_cons → ycs, contains_iff_mem → ycu, replicate_succ' → ycv, getElem?_replicate → ycw, getElem?_zip_eq_some → ycx, countP_le_length → ycy
open Nat renaming le_refl → yg, ne_of_lt → yr, le_trans → yab, zero_le → yam, lt_of_lt_of_le → yao, le_of_lt → yap, not_lt → yav, ne_of_gt → yax, lt_irrefl → ybe, lt_succ_self → ybl, lt_trans → ybu, lt_succ_of_lt → ybx, le_of_eq → yca, not_lt_zero → ycn, lt_of_le_of_lt → yct
open Ne renaming symm → yi
open PySem.Heap renaming get?_push_of_some → yj, lt_size → yk, get?_push_size → yo, size_push → yaf, SameBut → yak, get?_update_other → ybb, get?_update_self → ybn
open Option renaming map_eq_some_iff → yy, some → yac, isSome_iff_exists → ycb
open Bool renaming false_ne_true → yz, and_eq_true → yag, eq_iff_iff → ybk, or_false → yce, false_and → yci
open Sum renaming inl → yaa
open Int renaming toNat_natCast → ybh, eq_ofNat_of_zero_le → ycp
open Array renaming length_toList → ybj, getD → ybp, getElem?_eq_some_iff → ych, getElem?_eq_getElem → yco
set_option Elab.async false
set_option linter.all false
set_option maxRecDepth 100000
namespace L2
open PySem PySem.Spec PyProof.Rows
abbrev Key:=Sum Int Str
def Jrx:Key->S6->Bool
 | .inl k,v=>Value.isInt k v
 | .inr x,v=>Value.isStrOf x v
def Sth (w:Sd):Key->Int
 | .inl k=>hashInt k
 | .inr x=>hashStr w x
theorem Jlr:∀{k:Key} {v:S6},Jrx k v=true->(∃i t,k=yaa i/\v=Value.int i t)\/(∃x t,k=Sum.inr x/\v=Value.str x t)
 | .inl i,v,h=>by
  obtain ⟨t,e⟩:=Value.isInt_shape (k:=i) (v:=v) h
  exact .inl ⟨i,t,rfl,e⟩
 | .inr x,v,h=>by
  obtain ⟨t,e⟩:=Value.isStrOf_shape (x:=x) (v:=v) h
  exact .inr ⟨x,t,rfl,e⟩
theorem Yd (i:Int) (t:Tok):Jrx (.inl i) (.int i t)=true:=by simp [Jrx,Value.isInt]
theorem Ye (x:Str) (t:Tok):Jrx (.inr x) (.str x t)=true:=by simp [Jrx,Value.isStrOf]
theorem Slj (a b:Int):decide ((yaa a:Key)=yaa b)=(a==b):=by
 by_cases e:a=b
 ·subst e;simp
 ·have h:¬(yaa a:Key)=yaa b:=λq=>e (yaa.inj q)
  rw [decide_eq_false h]
  exact (beq_eq_false_iff_ne.mpr e).symm
theorem Slm (a b:Str):decide ((Sum.inr a:Key)=Sum.inr b)=decide (a=b):=by
 by_cases e:a=b
 ·subst e;simp
 ·have h:¬(Sum.inr a:Key)=Sum.inr b:=λq=>e (Sum.inr.inj q)
  rw [decide_eq_false h,decide_eq_false e]
theorem Slk (a:Int) (b:Str):decide ((yaa a:Key)=Sum.inr b)=false:=decide_eq_false (λq=>nomatch q)
theorem Sll (a:Str) (b:Int):decide ((Sum.inr a:Key)=yaa b)=false:=decide_eq_false (λq=>nomatch q)
def Jkj (prog:Sb) (w:Sd):PySem.KeyKind prog w Key where
 is:=Jrx
 hash:=Sth w
 inj:=λv a b ha hb=>by
  rcases Jlr ha with ⟨i,t,rfl,rfl⟩|⟨x,t,rfl,rfl⟩
  ·rcases Jlr hb with ⟨j,u,rfl,e⟩|⟨y,u,rfl,e⟩
   ·injection e with e1 _;rw [e1]
   ·exact nomatch e
  ·rcases Jlr hb with ⟨j,u,rfl,e⟩|⟨y,u,rfl,e⟩
   ·exact nomatch e
   ·injection e with e1 _;rw [e1]
 byValue:=λk v h=>by
  rcases Jlr h with ⟨i,t,rfl,rfl⟩|⟨x,t,rfl,rfl⟩ <;> rfl
 pyHash:=λhv h=>by
  rcases Jlr hv with ⟨i,t,rfl,rfl⟩|⟨x,t,rfl,rfl⟩
  ·exact wpAny_pyHash_int h
  ·exact wpAny_pyHash_str h
 eqBool:=λhu hv h=>by
  rcases Jlr hu with ⟨i,t,rfl,rfl⟩|⟨x,t,rfl,rfl⟩
  ·rcases Jlr hv with ⟨j,u,rfl,rfl⟩|⟨y,u,rfl,rfl⟩
   ·rw [Slj] at h;exact wpAny_eqBool_int h
   ·rw [Slk] at h;exact SeqAt.EqAt.int_str i t y u _ _ _ _ h
  ·rcases Jlr hv with ⟨j,u,rfl,rfl⟩|⟨y,u,rfl,rfl⟩
   ·rw [Sll] at h;exact SeqAt.EqAt.str_int x t j u _ _ _ _ h
   ·rw [Slm] at h;exact wpAny_eqBool_str h
 «strs»:=λk x t v h=>by
  rcases Jlr h with ⟨i,u,rfl,e⟩|⟨y,u,rfl,e⟩
  ·exact nomatch e
  ·injection e with e1 _
   subst e1
   cases v <;> rfl
theorem Jyi (prog:Sb) (w:Sd) (k:Key) (v:S6):(Jkj prog w).is k v=Jrx k v:=rfl
theorem Jov (prog:Sb) (w:Sd) (i:Int) (t:Tok):(Jkj prog w).is (.inl i) (.int i t)=true:=Yd i t
theorem Jow (prog:Sb) (w:Sd) (x:Str) (t:Tok):(Jkj prog w).is (.inr x) (.str x t)=true:=Ye x t
inductive V where
 |non|bl (b:Bool)|int (i:Int)|str (x:Str)|byt (b:Array UInt8)|flt (b:UInt64)|ref (a:S5)|ty (n:String)
 deriving DecidableEq
def Sa2:V->S6->Prop
 | .non,u=>u=Value.none
 | .bl b,u=>u=Value.bool b
 | .int i,u=>∃t,u=Value.int i t
 | .str x,u=>∃t,u=Value.str x t
 | .byt b,u=>∃t,u=Value.bytes b t
 | .flt b,u=>∃t,u=Value.float b t
 | .ref a,u=>u=Value.ref a
 | .ty n,u=>u=Value.type n
abbrev Sa0:List V->List S6->Prop:=Paired Sa2
theorem Sa0.length {xs:List V} {us:List S6} (r:Sa0 xs us):xs.length=us.length:=Paired.length r
theorem Sa0.get:∀{xs:List V} {us:List S6} {i:Nat} {x:V},Sa0 xs us->xs[i]?=some x->∃u,us[i]?=some u/\Sa2 x u
 |_,_,_,_,.nil,e=>by simp at e
 |_,_,0,_,.cons r _,e=>by simp at e;subst e;exact ⟨_,rfl,r⟩
 |_,_,i+1,x,.cons _ t,e=>by
  obtain ⟨u,h1,h2⟩:=Sa0.get (i:=i) (x:=x) t (by simpa using e)
  exact ⟨u,by simpa using h1,h2⟩
theorem Sa0.set {x:V} {u:S6} (r:Sa2 x u):∀{xs:List V} {us:List S6} (i:Nat),Sa0 xs us->Sa0 (xs.set i x) (us.set i u)
 |_,_,_,.nil=>.nil
 |_,_,0,.cons _ t=>.cons r t
 |_,_,i+1,.cons q t=>.cons q (Sa0.set r i t)
theorem Sa0.append:∀{xs ys:List V} {us ws:List S6},Sa0 xs us->Sa0 ys ws->Sa0 (xs++ys) (us++ws)
 |_,_,_,_,.nil,s=>s
 |_,_,_,_,.cons r t,s=>.cons r (Sa0.append t s)
theorem Sa0.take:∀{xs:List V} {us:List S6} (n:Nat),Sa0 xs us->Sa0 (xs.take n) (us.take n)
 |_,_,0,_=>.nil
 |_,_,_+1,.nil=>.nil
 |_,_,n+1,.cons r t=>.cons r (Sa0.take n t)
theorem Sa0.drop:∀{xs:List V} {us:List S6} (n:Nat),Sa0 xs us->Sa0 (xs.drop n) (us.drop n)
 |_,_,0,r=>r
 |_,_,_+1,.nil=>.nil
 |_,_,n+1,.cons _ t=>Sa0.drop n t
def Sc7:Option V->Option S6->Prop
 |some v,some u=>Sa2 v u
 |none,none=>True
 |_,_=>False
def KV {κ:Type}:List (κ×V)->List (κ×S6)->Prop:=Paired λ(p:κ×V) (q:κ×S6)=>p.1=q.1/\Sa2 p.2 q.2
def kV:Key->V
 | .inl i=>.int i
 | .inr x=>.str x
inductive HO where
 |lst (xs:List V)
 |tup (xs:List V)
 |dK (kvs:List (Key×V))|dT (kvs:List (List Key×V))
 |set (S:Int->Bool) (n:Nat)
 |ins (C dx:S5) (fs:List (Str×V))
 |own (x:S5)
 |xd (fs:List (Str×V))
 |cod (q:Str)
 |rng (lo hi:Int)
 |frz (o:Obj) (u:HO)
 |tbl (ps:Array (Nat×Nat×Str))
 |ext (φ:Sg->Prop)
abbrev Hp:=S5->Option HO
def upd (H:Hp) (a:S5) (o:HO):Hp:=λb=>if b=a then some o else H b
theorem Sv {H:Hp} {a:S5} {o:HO}:upd H a o a=some o:=by unfold upd;rw [if_pos rfl]
theorem Sz {H:Hp} {a b:S5} {o:HO} (h:b≠a):upd H a o b=H b:=by unfold upd;rw [if_neg h]
theorem Jn8 {H:Hp} {a:S5} {o u:HO}:upd (upd H a o) a u=upd H a u:=by
 funext b;unfold upd;split <;> rfl
theorem Sk4 {H:Hp} {a b:S5} {o u:HO} (h:H a=some o) (h':H b=some u) (d:o≠u):a≠b:=by
 intro e;subst e;rw [h] at h';exact d (yac.inj h')
theorem Jkb {H:Hp} {a b:S5} {o:HO} (h:H a=some o) (h':H b=none):a≠b:=by
 intro e;subst e;rw [h] at h';cases h'
def Sif (o:Obj):HO:=.frz o (.ext λ_=>True)
def Scq (H:Hp) (lb:Array (Nat×Nat×Str)):List S6->Prop
 | []=>True
 | .int l _:: .int c _::v::r=>(∃(n m:Nat) (q:Str) (a:S5),(n,m,q)∈lb/\l=n/\c=m/\v= .ref a/\H a=some (.cod q))/\Scq H lb r
 |_=>False
theorem Scq.mono {H H':Hp} {lb:Array (Nat×Nat×Str)} (k:∀b q,H b=some (.cod q)->H' b=some (.cod q)) {l:List S6} (x:Scq H lb l):Scq H' lb l:=by
 fun_induction Scq H lb l with
 |case1=>exact True.intro
 |case2 l _ c _ v r ih=>
  obtain ⟨⟨n,m,q,a,h1,h2,h3,h4,h5⟩,h6⟩:=x
  exact ⟨⟨n,m,q,a,h1,h2,h3,h4,k _ _ h5⟩,ih h6⟩
 |case3=>exact x.elim
section
variable (P:Sb) (w:Sd)
def Sa7 (H:Hp) (h:Sg) (a:S5):HO->Prop
 | .lst xs=>xs.length<=Sa/\∃(its:List S6) (n:Nat),Sa0 xs its/\h.get? a=some {cls:=.type "list",data:=.seq its.toArray n}
 | .tup xs=>xs.length<=Sa/\∃its:List S6,Sa0 xs its/\IsTup h a its.toArray
 | .dK kvs=>kvs.length<=Sa/\(a==sysModules)=false/\∃vs,KV kvs vs/\h.DictOf (Jkj P w) a vs
 | .dT kvs=>kvs.length<=Sa/\(a==sysModules)=false/\∃xs:List (List Key×S5×S6),
   Paired (λ(p:List Key×V) (q:List Key×S5×S6)=>p.1=q.1/\H q.2.1=some (.tup (p.1.map kV))/\Sa2 p.2 q.2.2) kvs xs/\
   ∃o es ep,h.get? a=some o/\o.ExactDict/\o.data= .dict es ep/\es.toList=xs.map (entryOfKey (tupleKind (Jkj P w)))/\(xs.map (·.1)).Nodup
 | .set S n=>h.SetOf (intKind P w) a S n
 | .ins C dx fs=>H dx=some (.own a)/\fs.length<=1000/\dx≠a/\h.get? a=some (Sm C dx)/\
   ∃mA,h.Ns1 dx mA/\(∀f,Sc7 (fs.lookup f) (mA f))/\PySem.Within mA (fs.map (·.1))
 | .own _=>∃o,h.get? a=some o
 | .xd fs=>∃mA,h.Ns1 a mA/\∀f,Sc7 (fs.lookup f) (mA f)
 | .rng lo hi=>∃t u v,h.get? a=some {cls:=.type "range",data:=.fields #[.int lo t,.int hi u,.int 1 v]}
 | .frz o u=>h.get? a=some o/\Sa7 H h a u
 | .tbl lb=>∃ts:Array S6,h.get? a=some ⟨.none,none,.fields ts,#[]⟩/\Scq H lb ts.toList
 | .cod q=>h.CodeRec (.ref a) q
 | .ext φ=>φ h/\(∃o,h.get? a=some o)/\∀h1 h2:Sg,φ h1->(∀o,h1.get? a=some o->h2.get? a=some o)->φ h2
def HOk (H:Hp) (h:Sg):Prop:=∀a o,H a=some o->Sa7 P w H h a o
end
section
variable {P:Sb} {w:Sd} {H H':Hp} {h h':Sg} {a:S5} {o:HO}
theorem Sa7.lt (x:Sa7 P w H h a o):a < h.objs.size:=by
 cases o with
 |lst xs=>obtain ⟨_,_,_,_,e⟩:=x;exact yk e
 |tup xs=>obtain ⟨_,_,_,p⟩:=x;exact p.lt
 |dK kvs=>obtain ⟨_,_,_,_,o,_,_,e,_⟩:=x;exact yk e
 |dT kvs=>obtain ⟨_,_,_,_,o,_,_,e,_⟩:=x;exact yk e
 |set S n=>obtain ⟨o,_,_,_,e,_⟩:=x;exact yk e
 |ins C dx fs=>obtain ⟨_,_,_,e,_⟩:=x;exact yk e
 |own y=>obtain ⟨_,e⟩:=x;exact yk e
 |xd fs=>obtain ⟨_,⟨_,_,_,e,_⟩,_⟩:=x;exact yk e
 |rng lo hi=>obtain ⟨_,_,_,e⟩:=x;exact yk e
 |frz ob u=>obtain ⟨e,_⟩:=x;exact yk e
 |tbl lb=>obtain ⟨_,e,_⟩:=x;exact yk e
 |cod q=>obtain ⟨_,_,_,_,e1,e2,_⟩:=x;cases e1;exact yk e2
 |ext φ=>obtain ⟨_,⟨_,e⟩,_⟩:=x;exact yk e
theorem Paired.mapP {α β:Type} {F G:α->β->Prop}:∀{l₁:List α} {l₂:List β},Paired F l₁ l₂->(∀a b,F a b->G a b)->Paired G l₁ l₂
 |_,_,.nil,_=>.nil
 |_,_,.cons r t,f=>.cons (f _ _ r) (Paired.mapP t f)
theorem Sa7.stay (x:Sa7 P w H h a o) (k:∀b u,(b=a\/H b=some (.own a))->h.get? b=some u->h'.get? b=some u)
  (ho:∀b,H b=some (.own a)->H' b=some (.own a)) (ht:∀b xs,H b=some (.tup xs)->H' b=some (.tup xs)) (hc:∀b q,H b=some (.cod q)->H' b=some (.cod q)):Sa7 P w H' h' a o:=by
 induction o with
 |lst xs=>obtain ⟨z,its,n,r,e⟩:=x;exact ⟨z,its,n,r,k _ _ (.inl rfl) e⟩
 |tup xs=>obtain ⟨z,its,r,ob,e,c⟩:=x;exact ⟨z,its,r,ob,k _ _ (.inl rfl) e,c⟩
 |dK kvs=>obtain ⟨z,y,vs,r,ob,es,ep,e,c⟩:=x;exact ⟨z,y,vs,r,ob,es,ep,k _ _ (.inl rfl) e,c⟩
 |dT kvs=>
  obtain ⟨z,y,xs,r,ob,es,ep,e,c⟩:=x
  exact ⟨z,y,xs,Paired.mapP r λp q z=>⟨z.1,ht _ _ z.2.1,z.2.2⟩,ob,es,ep,k _ _ (.inl rfl) e,c⟩
 |set S n=>obtain ⟨ob,es,ep,t,e,c⟩:=x;exact ⟨ob,es,ep,t,k _ _ (.inl rfl) e,c⟩
 |ins C dx fs=>
  obtain ⟨d,z,ne,e,mA,⟨od,es,ep,e2,c⟩,r⟩:=x
  exact ⟨ho _ d,z,ne,k _ _ (.inl rfl) e,mA,⟨od,es,ep,k _ _ (.inr d) e2,c⟩,r⟩
 |own y=>obtain ⟨ob,e⟩:=x;exact ⟨ob,k _ _ (.inl rfl) e⟩
 |xd fs=>obtain ⟨mA,⟨od,es,ep,e,c⟩,r⟩:=x;exact ⟨mA,⟨od,es,ep,k _ _ (.inl rfl) e,c⟩,r⟩
 |rng lo hi=>obtain ⟨t,u,v,e⟩:=x;exact ⟨t,u,v,k _ _ (.inl rfl) e⟩
 |frz ob u ih=>obtain ⟨e,q⟩:=x;exact ⟨k _ _ (.inl rfl) e,ih q⟩
 |tbl lb=>obtain ⟨ts,e,r⟩:=x;exact ⟨ts,k _ _ (.inl rfl) e,r.mono hc⟩
 |cod q=>obtain ⟨c,o,vs,t,e1,e2,e3,e4⟩:=x;cases e1;exact ⟨_,o,vs,t,rfl,k _ _ (.inl rfl) e2,e3,e4⟩
 |ext φ=>obtain ⟨p,⟨o,e⟩,st⟩:=x;exact ⟨st _ _ p λo q=>k _ _ (.inl rfl) q,⟨o,k _ _ (.inl rfl) e⟩,st⟩
theorem HOk.lt (x:HOk P w H h) (e:H a=some o):a < h.objs.size:=(x a o e).lt
theorem HOk.fresh (x:HOk P w H h) (e:h.objs.size<=a):H a=none:=by
 cases q:H a with
 |none=>rfl
 |some u=>exact absurd (yao (x.lt q) e) (ybe _)
theorem HOk.kept (x:HOk P w H h) (k:∀b u,h.get? b=some u->h'.get? b=some u):HOk P w H h':=λa o e=>
 (x a o e).stay (λb u _ q=>k b u q) (λ_ q=>q) (λ_ _ q=>q) λ_ _ q=>q
theorem HOk.laid (x:HOk P w H h) (k:∀b u,h.get? b=some u->h'.get? b=some u) (hp:h.objs.size<=a) (new:Sa7 P w (upd H a o) h' a o):HOk P w (upd H a o) h':=λb u e=>by
 have hn:=x.fresh hp
 by_cases hb:b=a
 ·subst hb;rw [Sv] at e;cases e;exact new
 ·rw [Sz hb] at e
  exact (x b u e).stay (λc v _ q=>k c v q) (λc q=>by rw [Sz (Jkb q hn)];exact q) (λc xs q=>by rw [Sz (Jkb q hn)];exact q) λc xs q=>by rw [Sz (Jkb q hn)];exact q
end
def Rd (H:Hp) (a:S5) (u:HO):Prop:=H a=some u\/∃o,H a=some (.frz o u)
theorem Rd.ok {P:Sb} {w:Sd} {H:Hp} {h:Sg} {a:S5} {u:HO} (r:Rd H a u) (x:HOk P w H h):Sa7 P w H h a u:=by
 rcases r with r|⟨o,r⟩
 ·exact x a u r
 ·obtain ⟨_,q⟩:=x a _ r
  exact q
def Mut:Option HO->Prop
 |some (.lst _)=>True
 |some (.dK _)=>True
 |some (.dT _)=>True
 |some (.set _ _)=>True
 |some (.ins _ _ _)=>True
 |some (.ext _)=>True
 |_=>False
section
variable {P:Sb} {w:Sd} {H:Hp} {h h':Sg} {x e:S5} {o':HO}
theorem HOk.write (ok:HOk P w H h) (mu:Mut (H x)) (he:e=x\/H e=some (.own x)) (k:∀b u,b≠e->h.get? b=some u->h'.get? b=some u) (heo:∃u,h'.get? e=some u)
  (new:Sa7 P w (upd H x o') h' x o'):HOk P w (upd H x o') h':=λb u q=>by
 have nown:∀c y,H c=some (.own y)->c≠x:=λc y r z=>by subst z;rw [r] at mu;exact mu
 have ntup:∀c xs,H c=some (.tup xs)->c≠x:=λc xs r z=>by subst z;rw [r] at mu;exact mu
 by_cases hb:b=x
 ·subst hb;rw [Sv] at q;cases q;exact new
 ·rw [Sz hb] at q
  by_cases hbe:b=e
  ·have q':H b=some (.own x):=by
    rcases he with z|z
    ·exact absurd (hbe.trans z) hb
    ·rw [hbe];exact z
   rw [q] at q';cases q'
   obtain ⟨v,hv⟩:=heo
   exact ⟨v,by rw [hbe];exact hv⟩
  ·refine (ok b u q).stay (λc v hc r=>k c v ?_ r) (λc r=>by rw [Sz (nown c b r)];exact r) (λc xs r=>by rw [Sz (ntup c xs r)];exact r) λc xs r=>by rw [Sz λz=>by subst z;rw [r] at mu;exact mu];exact r
   rcases hc with rfl|hc
   ·exact hbe
   ·rintro rfl
    rcases he with z|z
    ·exact nown c b hc z
    ·rw [hc] at z;cases z;exact hb rfl
end
structure Un (fs ex:List S5) (H H':Hp) (h h':Sg):Prop where
 keep:∀b o,h.get? b=some o->H b=none->b∉fs->b∉ex->h'.get? b=some o
 slot:∀b o,h.get? b=some o->H b=none->b∈fs->b∉ex->∃sl,h'.get? b=some {o with slots:=sl}
 free:∀b o,h.get? b=some o->H b=none->b∉ex->H' b=none
 there:∀b o,h.get? b=some o->b∉ex->∃o',h'.get? b=some o'
 tups:∀b xs,H b=some (.tup xs)->H' b=some (.tup xs)
 frzs:∀b o u,H b=some (.frz o u)->H' b=some (.frz o u)
 tbls:∀b ps,H b=some (.tbl ps)->∃more,H' b=some (.tbl (ps++more))
section
variable {fs fs' ex ex':List S5} {H H1 H2:Hp} {h h1 h2 h':Sg} {a x e:S5} {o:HO}
theorem Un.any (u:Un fs ex H H1 h h1) {b:S5} {ob:Obj} (q:h.get? b=some ob) (n:H b=none) (hx:b∉ex):∃sl,h1.get? b=some {ob with slots:=sl}:=by
 by_cases hb:b∈fs
 ·exact u.slot b ob q n hb hx
 ·exact ⟨ob.slots,u.keep b ob q n hb hx⟩
theorem Un.trans (a:Un fs ex H H1 h h1) (b:Un fs ex H1 H2 h1 h2):Un fs ex H H2 h h2 where
 keep:=λc ob q n hc hx=>b.keep c ob (a.keep c ob q n hc hx) (a.free c ob q n hx) hc hx
 slot:=λc ob q n hc hx=>by
  obtain ⟨sl,e1⟩:=a.slot c ob q n hc hx
  obtain ⟨sl',e2⟩:=b.slot c _ e1 (a.free c ob q n hx) hc hx
  exact ⟨sl',e2⟩
 free:=λc ob q n hx=>by
  obtain ⟨o',e1⟩:=a.there c ob q hx
  exact b.free c o' e1 (a.free c ob q n hx) hx
 there:=λc ob q hx=>by
  obtain ⟨o',e1⟩:=a.there c ob q hx
  exact b.there c o' e1 hx
 tups:=λc xs q=>b.tups c xs (a.tups c xs q)
 frzs:=λc ob xs q=>b.frzs c ob xs (a.frzs c ob xs q)
 tbls:=λc ps q=>by
  obtain ⟨m1,e1⟩:=a.tbls c ps q
  obtain ⟨m2,e2⟩:=b.tbls c _ e1
  exact ⟨m1++m2,by rw [e2,Array.append_assoc]⟩
theorem Un.kept (k:∀b u,h.get? b=some u->h'.get? b=some u):Un fs ex H H h h':=
 ⟨λb ob q _ _ _=>k b ob q,λb ob q _ _ _=>⟨ob.slots,k b ob q⟩,λ_ _ _ n _=>n,λb ob q _=>⟨ob,k b ob q⟩,λ_ _ q=>q,λ_ _ _ q=>q,λ_ ps q=>⟨#[],by rw [q];simp⟩⟩
theorem Un.refl:Un fs ex H H h h:=Un.kept λ_ _ q=>q
theorem Un.laid (k:∀b u,h.get? b=some u->h'.get? b=some u) (hp:h.objs.size<=a) (hn:H a=none):Un fs ex H (upd H a o) h h' where
 keep:=λb u q _ _ _=>k b u q
 slot:=λb u q _ _ _=>⟨u.slots,k b u q⟩
 free:=λb u q n _=>by rw [Sz (yr (yao (yk q) hp))];exact n
 there:=λb u q _=>⟨u,k b u q⟩
 tups:=λb xs q=>by rw [Sz (Jkb q hn)];exact q
 frzs:=λb u xs q=>by rw [Sz (Jkb q hn)];exact q
 tbls:=λb ps q=>⟨#[],by rw [Sz (Jkb q hn),q];simp⟩
theorem Un.write (mu:Mut (H x)) (he:e=x\/H e=some (.own x)) (k:∀b u,b≠e->h.get? b=some u->h'.get? b=some u) (heo:∃u,h'.get? e=some u):Un fs ex H (upd H x o) h h':=by
 have hx:∀b,H b=none->b≠x:=λb n z=>by subst z;rw [n] at mu;exact mu
 have hb:∀b,H b=none->b≠e:=λb n z=>by
  subst z
  rcases he with r|r
  ·exact hx b n r
  ·rw [n] at r;cases r
 have hm:∀b u,H b=some u->¬Mut (some u)->b≠x:=λb u q nm z=>by subst z;rw [q] at mu;exact nm mu
 refine ⟨λb u q n _ _=>k b u (hb b n) q,λb u q n _ _=>⟨u.slots,k b u (hb b n) q⟩,λb u q n _=>by rw [Sz (hx b n)];exact n,λb u q _=>?_,
  λb xs q=>by rw [Sz (hm b _ q λz=>z)];exact q,λb u xs q=>by rw [Sz (hm b _ q λz=>z)];exact q,λb ps q=>⟨#[],by rw [Sz (hm b _ q λz=>z),q];simp⟩⟩
 by_cases hbe:b=e
 ·subst hbe;exact heo
 ·exact ⟨u,k b u hbe q⟩
end
def trk (h:Sg) (H:Hp):List S5:=(yv h.objs.size).filter λa=>(H a).isSome
def Jvs (h:Sg) (H:Hp):Sg:=PySem.W.hideAll h (trk h H)
theorem Y7 (h:Sg) (H:Hp):(Jvs h H).objs.size=h.objs.size:=PySem.W.hideAll_size _ _
theorem Jsy {h:Sg} {H:Hp} {b:S5} {o:Obj} (e:h.get? b=some o) (n:H b=none):(Jvs h H).get? b=some o:=
 PySem.W.hideAll_get _ e λhm=>by
  have q:(H b).isSome=true:=(ybs.mp hm).2
  rw [n] at q;simp at q
theorem Yds {h:Sg} {H:Hp} {b:S5} {o:Obj} (e:(Jvs h H).get? b=some o):h.get? b=some o/\H b=none:=by
 have e':h.get? b=some o:=PySem.W.of_hideAll (trk h H) e
 refine ⟨e',?_⟩
 cases q:H b with
 |none=>rfl
 |some x=>
  have hm:b∈trk h H:=ybs.mpr ⟨yae.mpr (yk e'),by simp [q]⟩
  have z:(Jvs h H).get? b=none:=PySem.W.hideAll_none (trk h H) hm
  rw [z] at e;cases e
structure Mod (K:Si) (mg:Str->Option S6) (base:Sg):Prop where
 kin:K.In base
 glob:base.Ns mainGlobals mg
 blt:∃mb,base.Ns builtinsNs mb/\∀x:Str,x≠"__name__" ->mb x=bootBuiltins x
 nolimit:base.NoLimit
structure Cx where
 prog:Sb
 w:Sd
 K:Si
 mg:Str->Option S6
 base:Sg
 A:Se
 N:List Str
 s₀:S7
 H₀:Hp
 env:Env
 outer:List Env
 stack:List Env
 ex:List S5
 fn:Str->Bool
 calm:Bool
 pn:List (S5×Obj)
 xe:S6->S7->Prop
def frs (l:List Env):List S5:=l.filterMap (·.frame)
abbrev Cx.fs (X:Cx):List S5:=frs X.outer
def Vis (sc:Scope) (x:Str):Prop:=sc.names.lookup x=some .local\/sc.names.lookup x=some .cell\/sc.names.lookup x=some .free
def Loc (sc:Scope) (x:Str):Prop:=sc.names.lookup x=some .local\/sc.names.lookup x=some .cell
def Sst (env:Env) (h:Sg) (m:Str->Option S6) (x:Str) (u:S6):Prop:=
 (env.kindOf x=some .local/\m x=some u)\/((env.kindOf x=some .cell\/env.kindOf x=some .free)/\∃c,env.cells.lookup x=some c/\h.IsCell c (some u))
structure Cx.Ok (X:Cx):Prop where
 mod:Mod X.K X.mg X.base
 kind:X.env.scope.kind= .function
 glob:X.env.globals=mainGlobals
 blt:X.env.builtins=builtinsNs
 above:X.s₀.heap.objs.size<=X.env.locals
 inj:∀x y c,X.env.cells.lookup x=some c->X.env.cells.lookup y=some c->x=y
 has:∀x,(X.env.kindOf x=some .cell\/X.env.kindOf x=some .free)->∃c,X.env.cells.lookup x=some c
 cab:∀x c,X.fn x=true->X.env.cells.lookup x=some c->X.s₀.heap.objs.size<=c
 hd:X.calm=true->X.A.handled=none
 frames:X.A.frames=some X.stack
 stk:X.stack=X.outer\/(X.stack=X.env::X.outer/\X.env.frame=some X.env.locals)
 exf:∀b∈X.ex,b≠X.env.locals/\∀x c,X.env.cells.lookup x=some c->c≠b
 bs:∀b o,X.base.get? b=some o->X.s₀.heap.get? b=some o/\X.H₀ b=none
 bsz:X.base.objs.size<=X.s₀.heap.objs.size
 noex:∀b o,X.base.get? b=some o->b∉X.ex
 exfs:∀b∈X.ex,b∉X.fs
 funs:X.s₀.heap.FunFrames X.base X.outer
 frf:∀b∈X.fs,X.H₀ b=none
structure Su (X:Cx) (pins:List (S5×Obj)) (σ:List (Option V)) (H:Hp) (s:S7):Prop where
 ok:X.Ok
 os:s.os=X.s₀.os
 bare:AllBare s.gens
 base:Un X.fs X.ex X.H₀ H X.s₀.heap s.heap
 loc:∃m,s.heap.Ns X.env.locals m/\∀(i:Nat) (x:Str) (v:V),X.N[i]?=some x->σ[i]?=some (some v)->Vis X.env.scope x->∃u,Sa2 v u/\Sst X.env s.heap m x u
 cell:∀x c,X.env.cells.lookup x=some c->∃v,s.heap.IsCell c v
 free:H X.env.locals=none
 freeC:∀x c,X.env.cells.lookup x=some c->H c=none\/(X.fn x=false/\∃o,H c=some (Sif o))
 pin:∀p∈X.pn++pins,s.heap.get? p.1=some p.2/\H p.1=none/\p.1≠X.env.locals/\p.1∉X.fs/\∀v,p.2.data≠ .cell v
 hok:HOk X.prog X.w H s.heap
 len:σ.length=X.N.length
section
variable {X:Cx} {pins:List (S5×Obj)} {σ:List (Option V)} {H H':Hp} {s:S7} {h':Sg}
theorem Cx.Ok.nofr (ok:X.Ok) {b:S5} {o:Obj} (e:X.base.get? b=some o):b∉X.fs:=λhb=>by
 have:=(ok.funs.mem hb).1
 rw [e] at this;cases this
theorem Su.bs (I:Su X pins σ H s):∀b o,X.base.get? b=some o->s.heap.get? b=some o/\H b=none:=λb o e=>
 ⟨I.base.keep b o (I.ok.bs b o e).1 (I.ok.bs b o e).2 (I.ok.nofr e) (I.ok.noex b o e),I.base.free b o (I.ok.bs b o e).1 (I.ok.bs b o e).2 (I.ok.noex b o e)⟩
theorem Su.bk (I:Su X pins σ H s):∀b o,X.base.get? b=some o->s.heap.get? b=some o:=λb o e=>(I.bs b o e).1
theorem Su.mod (I:Su X pins σ H s):Mod X.K X.mg X.base:=I.ok.mod
theorem Su.kIn (I:Su X pins σ H s):X.K.In s.heap:=I.ok.mod.kin.keeps I.bk
theorem Su.lt (I:Su X pins σ H s):X.env.locals < s.heap.objs.size:=let ⟨_,hn,_⟩:=I.loc;hn.lt
theorem Su.sz (I:Su X pins σ H s):X.s₀.heap.objs.size<=s.heap.objs.size:=yab I.ok.above (yap I.lt)
theorem Su.nofs (I:Su X pins σ H s) {a:S5} (h:s.heap.objs.size<=a):a∉X.fs:=λhb=>by
 obtain ⟨_,o,ho,_⟩:=I.ok.funs.mem hb
 exact absurd (yao (yk ho) (yab I.sz h)) (ybe _)
theorem Su.cne (I:Su X pins σ H s):∀x c,X.env.cells.lookup x=some c->c≠X.env.locals:=λx c e z=>by
 obtain ⟨v,o,ho,hd⟩:=I.cell x c e
 obtain ⟨m,⟨o',es,ep,ho',hd',_⟩,_⟩:=I.loc
 rw [z,ho'] at ho;cases ho;rw [hd'] at hd;cases hd
theorem Su.funs (I:Su X pins σ H s):s.heap.FunFrames X.base X.outer:=by
 have all:∀(l:List Env),(∀b∈frs l,b∈X.fs)->X.s₀.heap.FunFrames X.base l->s.heap.FunFrames X.base l:=by
  intro l
  induction l with
  |nil=>intro _ _;trivial
  |cons env r ih=>
   intro hs hl
   obtain ⟨hk,⟨L,o,hf,hn,ho,hd⟩,hr⟩:=hl
   have hL:L∈X.fs:=hs L (by unfold frs;rw [ycq,hf];exact yar)
   obtain ⟨sl,e⟩:=I.base.slot L o ho (I.ok.frf L hL) hL λz=>I.ok.exfs L z hL
   exact ⟨hk,⟨L,_,hf,hn,e,hd⟩,ih (λb hb=>hs b (by unfold frs;rw [ycq,hf];exact yaq _ hb)) hr⟩
 exact all X.outer (λ_ hb=>hb) I.ok.funs
theorem Su.stack (I:Su X pins σ H s):s.heap.FunFrames X.base X.stack:=by
 rcases I.ok.stk with e|⟨e,hf⟩
 ·rw [e];exact I.funs
 ·rw [e]
  obtain ⟨m,hn,_⟩:=I.loc
  refine .cons (by rw [I.ok.kind];decide) hf hn ?_ I.funs
  exact Heap.get?_none_of_le (yab I.ok.bsz I.ok.above)
theorem Su.stkSub (I:Su X pins σ H s):∀b∈frs X.stack,b∈X.env.locals::X.fs:=λb hb=>by
 rcases I.ok.stk with e|⟨e,hf⟩
 ·rw [e] at hb;exact yaq _ hb
 ·rw [e] at hb
  unfold frs at hb
  rw [ycq,hf] at hb
  exact hb
theorem Su.stkFree (I:Su X pins σ H s):∀b∈frs X.stack,H b=none:=λb hb=>by
 rcases yn.mp (I.stkSub b hb) with e|hb
 ·rw [e];exact I.free
 ·obtain ⟨_,o,ho,_⟩:=I.ok.funs.mem hb
  exact I.base.free b o ho (I.ok.frf b hb) λz=>I.ok.exfs b z hb
theorem Su.step {g':Array GenState} {t':Nat} {d':Drawn} {ch:List S5} (I:Su X pins σ H s)
  (hch:∀b∈ch,(b∈X.ex\/X.s₀.heap.objs.size<=b)/\b≠X.env.locals/\(∀x c,X.env.cells.lookup x=some c->c≠b)/\∀p∈X.pn++pins,p.1≠b)
  (keep:∀b o,b≠X.env.locals->b∉X.fs->b∉ch->s.heap.get? b=some o->H b=none->h'.get? b=some o)
  (slot:∀b o,b≠X.env.locals->b∈X.fs->b∉ch->s.heap.get? b=some o->H b=none->∃sl,h'.get? b=some {o with slots:=sl}) (free:∀b o,b∉ch->s.heap.get? b=some o->H b=none->H' b=none)
  (there:∀b o,b∉ch->s.heap.get? b=some o->∃o',h'.get? b=some o')
  (tups:∀b xs,H b=some (.tup xs)->H' b=some (.tup xs)) (frzs:∀b o u,H b=some (.frz o u)->H' b=some (.frz o u)) (tbls:∀b ps,H b=some (.tbl ps)->∃more,H' b=some (.tbl (ps++more)))
  (ns:∀m,s.heap.Ns X.env.locals m->h'.Ns X.env.locals m) (hok:HOk X.prog X.w H' h') (hg:AllBare g'):
  Su X pins σ H' {s with heap:=h',gens:=g',drawn:=d',toks:=t'}:=by
 have neL:∀b o,X.s₀.heap.get? b=some o->b≠X.env.locals:=λb o e=>yr (yao (yk e) I.ok.above)
 have neC:∀b o,X.s₀.heap.get? b=some o->b∉X.ex->b∉ch:=λb o e hx hb=>by
  rcases (hch b hb).1 with z|z
  ·exact hx z
  ·exact absurd (yao (yk e) z) (ybe _)
 have cellK:∀x c,X.env.cells.lookup x=some c->∀v,s.heap.IsCell c v->h'.IsCell c v:=λx c e v ⟨o,ho,hd⟩=>by
  have nch:c∉ch:=λz=>(hch c z).2.2.1 x c e rfl
  rcases I.freeC x c e with n|⟨_,ob,q⟩
  ·by_cases hc:c∈X.fs
   ·obtain ⟨sl,q⟩:=slot c o (I.cne x c e) hc nch ho n
    exact ⟨_,q,hd⟩
   ·exact ⟨o,keep c o (I.cne x c e) hc nch ho n,hd⟩
  ·obtain ⟨e1,_⟩:=I.hok c _ q
   obtain ⟨e2,_⟩:=hok c _ (frzs c ob _ q)
   rw [ho] at e1;cases e1
   exact ⟨_,e2,hd⟩
 refine ⟨I.ok,I.os,hg,⟨λb o e n hb hx=>?_,λb o e n hb hx=>?_,λb o e n hx=>?_,λb o e hx=>?_,λb xs e=>tups b xs (I.base.tups b xs e),λb o xs e=>frzs b o xs (I.base.frzs b o xs e),λb ps e=>?_⟩,?_,λx c e=>?_,?_,λx c e=>?_,λp hp=>?_,hok,I.len⟩
 ·exact keep b o (neL b o e) hb (neC b o e hx) (I.base.keep b o e n hb hx) (I.base.free b o e n hx)
 ·obtain ⟨sl,e1⟩:=I.base.slot b o e n hb hx
  obtain ⟨sl',e2⟩:=slot b _ (neL b o e) hb (neC b o e hx) e1 (I.base.free b o e n hx)
  exact ⟨sl',e2⟩
 ·obtain ⟨o',e1⟩:=I.base.there b o e hx
  exact free b o' (neC b o e hx) e1 (I.base.free b o e n hx)
 ·obtain ⟨o',e1⟩:=I.base.there b o e hx
  exact there b o' (neC b o e hx) e1
 ·obtain ⟨m1,e1⟩:=I.base.tbls b ps e
  obtain ⟨m2,e2⟩:=tbls b _ e1
  exact ⟨m1++m2,by rw [e2,Array.append_assoc]⟩
 ·obtain ⟨m,hn,hl⟩:=I.loc
  refine ⟨m,ns m hn,λi x v e1 e2 e3=>?_⟩
  obtain ⟨u,r,l⟩:=hl i x v e1 e2 e3
  refine ⟨u,r,?_⟩
  rcases l with l|⟨k,c,e,z⟩
  ·exact .inl l
  ·exact .inr ⟨k,c,e,cellK x c e _ z⟩
 ·obtain ⟨v,z⟩:=I.cell x c e
  exact ⟨v,cellK x c e v z⟩
 ·obtain ⟨m,⟨o,_,_,ho,_⟩,_⟩:=I.loc
  exact free _ o (λz=>(hch _ z).2.1 rfl) ho I.free
 ·obtain ⟨v,o,ho,hd⟩:=I.cell x c e
  rcases I.freeC x c e with n|⟨hf,ob,q⟩
  ·exact .inl (free c o (λz=>(hch c z).2.2.1 x c e rfl) ho n)
  ·exact .inr ⟨hf,ob,frzs c ob _ q⟩
 ·obtain ⟨e,n,ne,nf,d⟩:=I.pin p hp
  have nch:p.1∉ch:=λz=>(hch p.1 z).2.2.2 p hp rfl
  exact ⟨keep p.1 p.2 ne nf nch e n,free p.1 p.2 nch e n,ne,nf,d⟩
theorem Su.un {t':Nat} (I:Su X pins σ H s) (u:Un X.fs [] H H' s.heap h') (hok:HOk X.prog X.w H' h'):Su X pins σ H' {s with heap:=h',toks:=t'}:=by
 obtain ⟨m,⟨o,es,ep,ho,r⟩,_⟩:=id I.loc
 obtain ⟨sl,hL⟩:=u.any ho I.free (by simp)
 exact I.step (g':=s.gens) (d':=s.drawn) (ch:=[]) (λ_ z=>nomatch z) (λb o _ hb _ e n=>u.keep b o e n hb (by simp)) (λb o _ hb _ e n=>u.slot b o e n hb (by simp)) (λb o _ e n=>u.free b o e n (by simp)) (λb o _ e=>u.there b o e (by simp)) u.tups u.frzs u.tbls (λm' hm=>by
  obtain ⟨o',es',ep',ho',r'⟩:=hm
  rw [ho] at ho';cases ho'
  exact ⟨_,es',ep',hL,r'⟩) hok I.bare
theorem Su.call {g':Array GenState} {t':Nat} {d':Drawn} {ch:List S5} (I:Su X pins σ H s) (u:Un (frs X.stack) ch H H' s.heap h') (hok:HOk X.prog X.w H' h') (hg:AllBare g')
  (hch:∀b∈ch,(b∈X.ex\/X.s₀.heap.objs.size<=b)/\b≠X.env.locals/\(∀x c,X.env.cells.lookup x=some c->c≠b)/\∀p∈X.pn++pins,p.1≠b):
  Su X pins σ H' {s with heap:=h',gens:=g',drawn:=d',toks:=t'}:=by
 obtain ⟨m,⟨o,es,ep,ho,r⟩,_⟩:=id I.loc
 obtain ⟨sl,hL⟩:=u.any ho I.free λz=>(hch _ z).2.1 rfl
 exact I.step (ch:=ch) hch (λb o hL hb hc e n=>u.keep b o e n (λz=>(yn.mp (I.stkSub b z)).elim hL hb) hc) (λb o _ _ hc e n=>u.any e n hc) (λb o hc e n=>u.free b o e n hc) (λb o hc e=>u.there b o e hc) u.tups u.frzs u.tbls (λm' hm=>by
  obtain ⟨o',es',ep',ho',r'⟩:=hm
  rw [ho] at ho';cases ho'
  exact ⟨_,es',ep',hL,r'⟩) hok hg
theorem Su.turned {t':Nat} {it:S5} (I:Su X pins σ H s) (k:∀b o,b≠it->s.heap.get? b=some o->h'.get? b=some o) (hn:H it=none) (hL:it≠X.env.locals)
  (h1:it∈X.ex\/X.s₀.heap.objs.size<=it) (h2:∀x c,X.env.cells.lookup x=some c->c≠it) (h3:∀p∈X.pn++pins,p.1≠it):Su X pins σ H {s with heap:=h',toks:=t'}:=by
 have nit:∀b u,H b=some u->b≠it:=λb u e z=>by rw [z,hn] at e;cases e
 refine I.step (g':=s.gens) (d':=s.drawn) (ch:=[it]) (λb hb=>?_) (λb o _ _ hc e _=>k b o (λz=>hc (by simp [z])) e) (λb o _ _ hc e _=>⟨o.slots,k b o (λz=>hc (by simp [z])) e⟩) (λ_ _ _ _ n=>n)
  (λb o hc e=>⟨o,k b o (λz=>hc (by simp [z])) e⟩) (λ_ _ e=>e) (λ_ _ _ e=>e) (λb ps e=>⟨#[],by rw [e];simp⟩) (λm hm=>?_) (λb u e=>?_) I.bare
 ·have e:b=it:=by simpa using hb
  subst e
  exact ⟨h1,hL,h2,h3⟩
 ·obtain ⟨o,es,ep,ho,r⟩:=hm
  exact ⟨o,es,ep,k _ o (yi hL) ho,r⟩
 ·refine (I.hok b u e).stay (λc v hc q=>k c v ?_ q) (λ_ q=>q) (λ_ _ q=>q) λ_ _ q=>q
  rcases hc with z|z
  ·rw [z];exact nit b u e
  ·exact nit c _ z
theorem Su.tok (I:Su X pins σ H s) (t:Nat):Su X pins σ H {s with toks:=t}:=I.un (h':=s.heap) (t':=t) Un.refl I.hok
theorem Su.kept {t':Nat} (I:Su X pins σ H s) (k:∀b u,s.heap.get? b=some u->h'.get? b=some u):Su X pins σ H {s with heap:=h',toks:=t'}:=I.un (Un.kept k) (I.hok.kept k)
theorem Su.laid {a:S5} {o:HO} {t':Nat} (I:Su X pins σ H s) (k:∀b u,s.heap.get? b=some u->h'.get? b=some u) (hp:s.heap.objs.size<=a) (new:Sa7 X.prog X.w (upd H a o) h' a o):
  Su X pins σ (upd H a o) {s with heap:=h',toks:=t'}:=I.un (Un.laid k hp (I.hok.fresh hp)) (I.hok.laid k hp new)
theorem Su.write {x e:S5} {o:HO} {t':Nat} (I:Su X pins σ H s) (mu:Mut (H x)) (he:e=x\/H e=some (.own x)) (k:∀b u,b≠e->s.heap.get? b=some u->h'.get? b=some u) (heo:∃u,h'.get? e=some u)
  (new:Sa7 X.prog X.w (upd H x o) h' x o):Su X pins σ (upd H x o) {s with heap:=h',toks:=t'}:=I.un (Un.write mu he k heo) (I.hok.write mu he k heo new)
theorem Su.pins_of {pins':List (S5×Obj)} (I:Su X pins σ H s) (h:∀p∈pins',s.heap.get? p.1=some p.2/\H p.1=none/\p.1≠X.env.locals/\p.1∉X.fs/\∀v,p.2.data≠ .cell v):Su X pins' σ H s:=
 ⟨I.ok,I.os,I.bare,I.base,I.loc,I.cell,I.free,I.freeC,λp hp=>(ybf.mp hp).elim (λz=>I.pin p (List.mem_append_left _ z)) (h p),I.hok,I.len⟩
theorem Jt9 {N:List Str} (hN:N.Nodup) {i j:Nat} {x:Str} (a:N[i]?=some x) (b:N[j]?=some x):i=j:=by
 obtain ⟨h1,e1⟩:=yq.mp a
 obtain ⟨h2,e2⟩:=yq.mp b
 exact (List.getElem_inj hN).mp (e1.trans e2.symm)
theorem Jvd {M:Model} {A:Se} {E:S6->S7->Prop} {i:Nat} {x:Str} {v:V} {u:S6} {Q:Unit->S7->Prop} (I:Su X pins σ H s) (hN:X.N.Nodup) (hi:X.N[i]?=some x) (hx:Loc X.env.scope x) (r:Sa2 v u)
  (h:∀s',Su X pins (σ.set i (some v)) H s'->(∃a,yak a s.heap s'.heap/\(a=X.env.locals\/X.env.cells.lookup x=some a))->Q () s') (hf:X.fn x=true\/X.env.scope.names.lookup x=some .local:=by first|exact .inl rfl|exact .inr rfl|assumption):Sh M A (storeName X.env x u) Q E s:=by
 obtain ⟨m,hn,hl⟩:=id I.loc
 have hcls:(X.env.scope.kind== .class||(X.env.scope.kind== .module&&X.env.locals !=X.env.globals))=false:=by rw [I.ok.kind];rfl
 have hiσ:i < σ.length:=by rw [I.len];exact (yq.mp hi).1
 have cne:=I.cne
 have tracked:∀{a:S5} {h':Sg},(∃o,s.heap.get? a=some o/\H a=none)->yak a s.heap h'->HOk X.prog X.w H h':=λ{a h'} ha hs b ob e=>by
  obtain ⟨_,_,hfree⟩:=ha
  refine (I.hok b ob e).stay (λc w' hc q=>(hs.2 c ?_).trans q) (λ_ q=>q) (λ_ _ q=>q) λ_ _ q=>q
  rintro rfl
  rcases hc with rfl|hc
  ·rw [hfree] at e;cases e
  ·rw [hfree] at hc;cases hc
 rcases hx with hk|hk
 ·refine wpAny_storeName_local hk hn (λh' hn' hs=>?_) hcls
  obtain ⟨oL,_,_,hoL,_⟩:=id hn
  refine h _ ⟨I.ok,I.os,I.bare,⟨λb o e n hb hx=>?_,λb o e n hb hx=>?_,I.base.free,λb o e hx=>?_,I.base.tups,I.base.frzs,I.base.tbls⟩,⟨_,hn',λj y v' e1 e2 e3=>?_⟩,λy c e=>?_,I.free,I.freeC,λp hp=>?_,tracked ⟨oL,hoL,I.free⟩ hs,by simpa using I.len⟩ ⟨_,hs,.inl rfl⟩
  ·exact (hs.2 b (yr (yao (yk e) I.ok.above))).trans (I.base.keep b o e n hb hx)
  ·obtain ⟨sl,e1⟩:=I.base.slot b o e n hb hx
   exact ⟨sl,(hs.2 b (yr (yao (yk e) I.ok.above))).trans e1⟩
  ·obtain ⟨o',e1⟩:=I.base.there b o e hx
   exact ⟨o',(hs.2 b (yr (yao (yk e) I.ok.above))).trans e1⟩
  ·by_cases hj:j=i
   ·subst hj
    rw [hi] at e1;cases e1
    rw [List.getElem?_set_self hiσ] at e2
    cases e2
    exact ⟨u,r,.inl ⟨hk,by simp⟩⟩
   ·rw [ycr (yi hj)] at e2
    obtain ⟨u',r',q⟩:=hl j y v' e1 e2 e3
    refine ⟨u',r',?_⟩
    rcases q with ⟨k,e⟩|⟨k,c,e,z⟩
    ·refine .inl ⟨k,?_⟩
     have:y≠x:=λe=>hj (Jt9 hN e1 (e▸hi))
     simp [this,e]
    ·exact .inr ⟨k,c,e,z.sameBut hs (cne y c e)⟩
  ·obtain ⟨w',z⟩:=I.cell y c e
   exact ⟨w',z.sameBut hs (cne y c e)⟩
  ·obtain ⟨e,n,ne,nf,d⟩:=I.pin p hp
   exact ⟨(hs.2 p.1 ne).trans e,n,ne,nf,d⟩
 ·have hfn:X.fn x=true:=by
   rcases hf with z|z
   ·exact z
   ·rw [z] at hk;cases hk
  obtain ⟨c,hc⟩:=I.ok.has x (.inl hk)
  obtain ⟨w',z⟩:=I.cell x c hc
  refine wpAny_storeName_cell I.ok.kind hk hc z (λh' hc' hs=>?_)
  obtain ⟨oc,hoc,hocd⟩:=id z
  refine h {s with heap:=h'} ⟨I.ok,I.os,I.bare,⟨λb o e n hb hx=>?_,λb o e n hb hx=>?_,I.base.free,λb o e hx=>?_,I.base.tups,I.base.frzs,I.base.tbls⟩,⟨m,hn.sameBut hs (yi (cne x c hc)),λj y v' e1 e2 e3=>?_⟩,λy c' e=>?_,I.free,I.freeC,λp hp=>?_,tracked ⟨oc,hoc,(I.freeC x c hc).elim id λz=>by rw [hfn] at z;cases z.1⟩ hs,by simpa using I.len⟩ ⟨c,hs,.inr hc⟩
  ·exact (hs.2 b (yr (yao (yk e) (I.ok.cab x c hfn hc)))).trans (I.base.keep b o e n hb hx)
  ·obtain ⟨sl,e1⟩:=I.base.slot b o e n hb hx
   exact ⟨sl,(hs.2 b (yr (yao (yk e) (I.ok.cab x c hfn hc)))).trans e1⟩
  ·obtain ⟨o',e1⟩:=I.base.there b o e hx
   exact ⟨o',(hs.2 b (yr (yao (yk e) (I.ok.cab x c hfn hc)))).trans e1⟩
  ·by_cases hj:j=i
   ·subst hj
    rw [hi] at e1;cases e1
    rw [List.getElem?_set_self hiσ] at e2
    cases e2
    exact ⟨u,r,.inr ⟨.inl hk,c,hc,hc'⟩⟩
   ·rw [ycr (yi hj)] at e2
    obtain ⟨u',r',q⟩:=hl j y v' e1 e2 e3
    refine ⟨u',r',?_⟩
    rcases q with q|⟨k,c',e,z'⟩
    ·exact .inl q
    ·refine .inr ⟨k,c',e,z'.sameBut hs ?_⟩
     rintro rfl
     exact hj (Jt9 hN e1 (I.ok.inj _ _ _ e hc▸hi))
  ·by_cases hcc:c'=c
   ·subst hcc;exact ⟨_,hc'⟩
   ·obtain ⟨w2,z2⟩:=I.cell y c' e
    exact ⟨w2,z2.sameBut hs hcc⟩
  ·obtain ⟨e,n,ne,nf,d⟩:=I.pin p hp
   refine ⟨(hs.2 p.1 ?_).trans e,n,ne,nf,d⟩
   intro q
   rw [q,hoc] at e
   have q':oc=p.2:=yac.inj e
   exact d w' (by rw [<-q'];exact hocd)
theorem Jpc {M:Model} {A:Se} {E:S6->S7->Prop} {i:Nat} {x:Str} {v:V} {u:S6} {Q:Unit->S7->Prop} (I:Su X pins σ H s) (hN:X.N.Nodup) (hi:X.N[i]?=some x) (hx:Loc X.env.scope x) (r:Sa2 v u)
  (h:∀s',Su X pins (σ.set i (some v)) H s'->Q () s') (hf:X.fn x=true\/X.env.scope.names.lookup x=some .local:=by first|exact .inl rfl|exact .inr rfl|assumption):Sh M A (storeName X.env x u) Q E s:=
 Jvd I hN hi hx r (λs' I' _=>h s' I') hf
theorem Su.call' {s':S7} {ch:List S5} (I:Su X pins σ H s) (ho:s'.os=s.os) (u:Un (frs X.stack) ch H H' s.heap s'.heap) (hok:HOk X.prog X.w H' s'.heap) (hg:AllBare s'.gens)
  (hch:∀b∈ch,(b∈X.ex\/X.s₀.heap.objs.size<=b)/\b≠X.env.locals/\(∀x c,X.env.cells.lookup x=some c->c≠b)/\∀p∈X.pn++pins,p.1≠b):Su X pins σ H' s':=by
 obtain ⟨h',g',d',t',o'⟩:=s'
 have e:o'=s.os:=ho
 subst e
 exact I.call (g':=g') (t':=t') (d':=d') u hok hg hch
end
abbrev XK:=S6->Option S5->Hp->Prop
abbrev St:=List (Option V)
abbrev VK:=V->Hp->Prop
abbrev TE:=St->Hp->VK->Prop
abbrev TT:=St->Hp->(Bool->Hp->Prop)->Prop
abbrev TA:=St->Hp->(List V->Hp->Prop)->Prop
structure Sbs where
 nx:St->Hp->Prop
 rt:VK
 bk:St->Hp->Prop:=λ_ _=>False
 ct:St->Hp->Prop:=λ_ _=>False
abbrev TS:=Sbs->St->Hp->Prop
def EP (X:Cx) (pins:List (S5×Obj)) (σ:St) (Q:VK) (u:S6) (s':S7):Prop:=∃v H',Su X pins σ H' s'/\Sa2 v u/\Q v H'
def TP (X:Cx) (pins:List (S5×Obj)) (σ:St) (Q:Bool->Hp->Prop) (b:Bool) (s':S7):Prop:=∃H',Su X pins σ H' s'/\Q b H'
def AP (X:Cx) (pins:List (S5×Obj)) (σ:St) (Q:List V->Hp->Prop) (us:List S6) (s':S7):Prop:=∃vs H',Su X pins σ H' s'/\Sa0 vs us/\Q vs H'
def SP (X:Cx) (pins:List (S5×Obj)) (D:Sbs) (f:Flow) (s':S7):Prop:=
 match f with
 | .next=>∃σ' H',Su X pins σ' H' s'/\D.nx σ' H'
 | .brk=>∃σ' H',Su X pins σ' H' s'/\D.bk σ' H'
 | .cont=>∃σ' H',Su X pins σ' H' s'/\D.ct σ' H'
 | .ret u=>∃v σ' H',Su X pins σ' H' s'/\Sa2 v u/\D.rt v H'
def PE (X:Cx) (e:Expr) (t:TE):Prop:=
 ∀(pins:List (S5×Obj)) (s:S7) (σ:St) (H:Hp) (Q:VK),Su X pins σ H s->t σ H Q->Sh (model X.prog X.w) X.A (eval e X.env) (EP X pins σ Q) X.xe s
def PT (X:Cx) (e:Expr) (t:TT):Prop:=
 ∀(pins:List (S5×Obj)) (s:S7) (σ:St) (H:Hp) (Q:Bool->Hp->Prop),Su X pins σ H s->t σ H Q->Sh (model X.prog X.w) X.A (isTrue e X.env (eval e X.env)) (TP X pins σ Q) X.xe s
def PW (X:Cx) (e:Expr) (t:TT):Prop:=
 ∀(whole:Sem S6) (pins:List (S5×Obj)) (s:S7) (σ:St) (H:Hp) (Q:Bool->Hp->Prop),Su X pins σ H s->t σ H Q->Sh (model X.prog X.w) X.A (isTrue e X.env whole) (TP X pins σ Q) X.xe s
theorem PW.pt {X:Cx} {e:Expr} {t:TT} (h:PW X e t):PT X e t:=h _
def PA (X:Cx) (es:List Expr) (t:TA):Prop:=
 ∀(pos:Pos) (pins:List (S5×Obj)) (s:S7) (σ:St) (H:Hp) (Q:List V->Hp->Prop),Su X pins σ H s->t σ H Q->Sh (model X.prog X.w) X.A (spliced (backTo pos (starEach es X.env))) (AP X pins σ Q) X.xe s
def PS (X:Cx) (st:Sf) (t:TS):Prop:=
 ∀(pins:List (S5×Obj)) (s:S7) (σ:St) (H:Hp) (D:Sbs),Su X pins σ H s->t D σ H->Sh (model X.prog X.w) X.A (exec st X.env) (SP X pins D) X.xe s
def PSs (X:Cx) (st:List Sf) (t:TS):Prop:=
 ∀(pins:List (S5×Obj)) (s:S7) (σ:St) (H:Hp) (D:Sbs),Su X pins σ H s->t D σ H->Sh (model X.prog X.w) X.A (execs st X.env) (SP X pins D) X.xe s
theorem thn {α:Type} {t:Sem α} {Q Q':α->S7->Prop} {M:Model} {A:Se} {E:S6->S7->Prop} {s:S7} (h:Sh M A t Q E s) (hQ:∀a s,Q a s->Q' a s):Sh M A t Q' E s:=wpAny_mono h hQ λ_ _ x=>x
section
variable {X:Cx}
def Smi (i:Nat):TE:=λσ H Q=>∃v,σ[i]?=some (some v)/\Q v H
def tC (v:V):TE:=λ_ H Q=>Q v H
theorem Ybo {i:Nat} {x:Str} {pos:Pos} (hN:X.N[i]?=some x) (hv:Vis X.env.scope x) (hd:(x==("__debug__" :Str))=false:=by decide) (hcd:(x==("__classdict__" :Str))=false:=by decide):PE X (.Name x pos) (Smi i):=by
 intro pins s σ H Q I h
 obtain ⟨v,e,h⟩:=h
 obtain ⟨m,hn,hl⟩:=I.loc
 obtain ⟨u,r,l⟩:=hl i x v hN e hv
 have fin:EP X pins σ Q u s:=⟨v,H,I,r,h⟩
 rcases l with ⟨hk,hm⟩|⟨hk,c,hc,hcell⟩
 ·exact wpAny_Name (wpAny_loadName_local I.ok.kind hk hn hm fin) hd
 ·rcases hk with hk|hk
  ·exact wpAny_Name (wpAny_loadName_cell I.ok.kind hk hc hcell fin) hd
  ·exact wpAny_Name (wpAny_loadName_free I.ok.kind hk hc hcell fin hcd) hd
theorem Sy {i j pos}:PE X (.Constant (.int i) j pos) (tC (.int i)):=λ_ _ _ H _ I h=>wpAny_Constant_int ⟨.int i,H,I.tok _,⟨_,rfl⟩,h⟩
theorem Jmf {b j pos}:PE X (.Constant (.bool b) j pos) (tC (.bl b)):=λ_ _ _ H _ I h=>Constant_bool ⟨.bl b,H,I,rfl,h⟩
theorem Jlu {j pos}:PE X (.Constant .none j pos) (tC .non):=λ_ _ _ H _ I h=>Constant_none ⟨.non,H,I,rfl,h⟩
theorem Jlk {x j pos}:PE X (.Constant (.str x) j pos) (tC (.str x)):=λ_ _ _ H _ I h=>Calls.Constant_str ⟨.str x,H,I.tok _,⟨_,rfl⟩,h⟩
def Gl (X:Cx) (x:Str):Prop:=X.env.kindOf x=some .globalImplicit
theorem Jpi {E:S6->S7->Prop} {pins:List (S5×Obj)} {s:S7} {σ:St} {H:Hp} {x:Str} {u:S6} {pos:Pos} {Q:S6->S7->Prop} (I:Su X pins σ H s) (hg:Gl X x) (hm:X.mg x=some u) (h:Q u s)
  (hd:(x==("__debug__" :Str))=false:=by decide):Sh (model X.prog X.w) X.A (eval (.Name x pos) X.env) Q E s:=
 Calls.Name_function_global I.ok.kind hg (Calls.loadGlobal_global (by rw [I.ok.glob];exact I.mod.glob.keeps I.bk) hm h) hd
theorem Joh {E:S6->S7->Prop} {pins:List (S5×Obj)} {s:S7} {σ:St} {H:Hp} {x:Str} {u:S6} {pos:Pos} {Q:S6->S7->Prop} (I:Su X pins σ H s) (hg:Gl X x) (hm:X.mg x=none) (hv:bootBuiltins x=some u) (h:Q u s)
  (hn:x≠"__name__" :=by decide) (hd:(x==("__debug__" :Str))=false:=by decide):Sh (model X.prog X.w) X.A (eval (.Name x pos) X.env) Q E s:=by
 obtain ⟨mb,h1,h2⟩:=I.mod.blt
 exact Calls.Name_function_global I.ok.kind hg (Calls.loadGlobal_builtin (by rw [I.ok.glob];exact I.mod.glob.keeps I.bk) hm (by rw [I.ok.blt];exact h1.keeps I.bk) ((h2 x hn).trans hv) h) hd
theorem Jlf {x:Str} {v:V} {u:S6} {pos:Pos} (hg:Gl X x) (hm:X.mg x=some u) (r:Sa2 v u) (hd:(x==("__debug__" :Str))=false:=by decide):PE X (.Name x pos) (tC v):=
 λ_ _ _ H _ I h=>Jpi I hg hm ⟨v,H,I,r,h⟩ hd
theorem Jm6 {x:Str} {v:V} {u:S6} {pos:Pos} (hg:Gl X x) (hm:X.mg x=none) (hv:bootBuiltins x=some u) (r:Sa2 v u) (hn:x≠"__name__" :=by decide) (hd:(x==("__debug__" :Str))=false:=by decide):PE X (.Name x pos) (tC v):=
 λ_ _ _ H _ I h=>Joh I hg hm hv ⟨v,H,I,r,h⟩ hn hd
variable {a b:Expr} {ta tb:TE} {pos:Pos}
def tB (t:TE):TT:=λσ H Q=>t σ H λx H1=>∃c,x= .bl c/\Q c H1
theorem Jkx {e:Expr} {t:TE} (h:PE X e t) (he:∀whole,isTrue e X.env whole=(do let v<-whole;standAt e.pos;holding [v] (truthy v)):=by intro _;rfl):PT X e (tB t):=by
 intro pins s σ H Q I hw
 refine isTrue_plain (thn (h pins s σ H _ I hw) λv s1 zq=>?_) (he _)
 obtain ⟨x,H1,I1,r1,q1⟩:=zq
 obtain ⟨d,rfl,q⟩:=q1
 cases r1
 exact wpAny_truthy_bool ⟨H1,I1,q⟩
variable {tA tB':TT} {rest:List Expr}
def Stu (t u:TT):TT:=λσ H Q=>t σ H λc H1=>if c=true then u σ H1 Q else Q false H1
def tOr (t u:TT):TT:=λσ H Q=>t σ H λc H1=>if c=true then Q true H1 else u σ H1 Q
def Su0 (t:TT):TT:=λσ H Q=>t σ H λc H1=>Q (!c) H1
theorem Jwi (ha:PT X a tA):PW X (.BoolOp .And [a] pos) tA:=by
 intro wh pins s σ H Q I h
 refine isTrue_and (thn (ha pins s σ H Q I h) λc s1 e=>?_)
 cases c with
 |true=>exact isTrue_and_nil e
 |false=>exact e
theorem Jo2 (ha:PT X a tA):PW X (.BoolOp .Or [a] pos) tA:=by
 intro wh pins s σ H Q I h
 refine isTrue_or (thn (ha pins s σ H Q I h) λc s1 e=>?_)
 cases c with
 |false=>exact isTrue_or_nil e
 |true=>exact e
theorem Jys (ha:PT X a tA) (hb:PW X (.BoolOp .And (b::rest) pos) tB'):PW X (.BoolOp .And (a::b::rest) pos) (Stu tA tB'):=by
 intro wh pins s σ H Q I h
 refine isTrue_and (thn (ha pins s σ H _ I h) λc s1 zq=>?_)
 obtain ⟨H1,I1,q1⟩:=zq
 cases c with
 |true=>exact hb wh pins s1 σ H1 Q I1 q1
 |false=>exact ⟨H1,I1,q1⟩
theorem Jop (ha:PT X a tA) (hb:PW X (.BoolOp .Or (b::rest) pos) tB'):PW X (.BoolOp .Or (a::b::rest) pos) (tOr tA tB'):=by
 intro wh pins s σ H Q I h
 refine isTrue_or (thn (ha pins s σ H _ I h) λc s1 zq=>?_)
 obtain ⟨H1,I1,q1⟩:=zq
 cases c with
 |true=>exact ⟨H1,I1,q1⟩
 |false=>exact hb wh pins s1 σ H1 Q I1 q1
theorem Jl3 (ha:PT X a tA):PT X (.UnaryOp .Not a pos) (Su0 tA):=by
 intro pins s σ H Q I h
 exact isTrue_not (ha pins s σ H (λc H1=>Q (!c) H1) I h)
def Spj (ta tb:TE):TE:=λσ H Q=>ta σ H λx H1=>∃c,x= .bl c/\if c=true then tb σ H1 Q else Q (.bl false) H1
def Spq (ta:TE):TE:=λσ H Q=>ta σ H λx H1=>∃c,x= .bl c/\Q (.bl (!c)) H1
theorem Jwf {op} {t:TE} (h:PE X a t):PE X (.BoolOp op [a] pos) t:=λpins s σ H Q I hw=>BoolOp_one (h pins s σ H Q I hw)
theorem Jwd (ha:PE X a ta) (hb:PE X (.BoolOp .And (b::rest) pos) tb):PE X (.BoolOp .And (a::b::rest) pos) (Spj ta tb):=by
 intro pins s σ H Q I h
 refine BoolOp_and (thn (ha pins s σ H _ I h) λv s1 zq=>?_)
 obtain ⟨x,H1,I1,r1,q1⟩:=zq
 obtain ⟨c,rfl,q1⟩:=q1
 cases r1
 refine wpAny_truthy_bool ?_
 cases c with
 |true=>exact hb pins s1 σ H1 Q I1 q1
 |false=>exact ⟨.bl false,H1,I1,rfl,q1⟩
theorem Slu (ha:PE X a ta):PE X (.UnaryOp .Not a pos) (Spq ta):=by
 intro pins s σ H Q I h
 refine UnaryOp_ (thn (ha pins s σ H _ I h) λv s1 zq=>?_)
 obtain ⟨x,H1,I1,r1,q1⟩:=zq
 obtain ⟨c,rfl,q1⟩:=q1
 cases r1
 exact not_of (wpAny_truthy_bool ⟨.bl (!c),H1,I1,rfl,q1⟩)
def tIf (t:TT) (ta tb:TE):TE:=λσ H Q=>t σ H λc H1=>if c=true then ta σ H1 Q else tb σ H1 Q
theorem Ybn {c:Expr} (hc:PT X c tA) (ha:PE X a ta) (hb:PE X b tb):PE X (.IfExp c a b pos) (tIf tA ta tb):=by
 intro pins s σ H Q I h
 refine wpAny_IfExp (thn (hc pins s σ H _ I h) λd s1 zq=>?_)
 obtain ⟨H1,I1,q1⟩:=zq
 cases d with
 |true=>exact ha pins s1 σ H1 Q I1 q1
 |false=>exact hb pins s1 σ H1 Q I1 q1
end
def Sw (K:Si) (H:Hp) (a:S5) (xs:List V):Prop:=
 Rd H a (.lst xs)\/
  ∃(o:Obj) (its:Array S6) (n:Nat),K.lookup a=some o/\o.cls= .type "list" /\o.dict=none/\o.data= .seq its n/\its.size<=Sa/\Sa0 xs its.toList
def SqT (K:Si) (H:Hp) (a:S5) (xs:List V):Prop:=
 Rd H a (.tup xs)\/
  ∃(o:Obj) (its:Array S6) (n:Nat),K.lookup a=some o/\o.cls= .type "tuple" /\o.data= .seq its n/\its.size<=Sa/\Sa0 xs its.toList
def St4:S6->Option V
 | .none=>some .non
 | .bool b=>some (.bl b)
 | .int i _=>some (.int i)
 | .str x _=>some (.str x)
 | .bytes b _=>some (.byt b)
 | .float b _=>some (.flt b)
 | .ref a=>some (.ref a)
 | .type n=>some (.ty n)
 |_=>none
theorem Sa2.abs {x:V} {u:S6} (r:Sa2 x u):St4 u=some x:=by
 cases x with
 |non=>cases r;rfl
 |bl _=>cases r;rfl
 |int _=>obtain ⟨t,rfl⟩:=r;rfl
 |str _=>obtain ⟨t,rfl⟩:=r;rfl
 |byt _=>obtain ⟨t,rfl⟩:=r;rfl
 |flt _=>obtain ⟨t,rfl⟩:=r;rfl
 |ref _=>cases r;rfl
 |ty _=>cases r;rfl
theorem Sa2.inj {x y:V} {u:S6} (r:Sa2 x u) (q:Sa2 y u):x=y:=yac.inj (r.abs.symm.trans q.abs)
theorem Sa0.inj:∀{xs ys:List V} {us:List S6},Sa0 xs us->Sa0 ys us->xs=ys
 |_,_,_,.nil,.nil=>rfl
 |_,_,_,.cons r t,.cons r' t'=>by rw [r.inj r',Sa0.inj t t']
section
variable {X:Cx} {pins:List (S5×Obj)} {σ:St} {H:Hp} {s:S7} {a:S5} {xs ys:List V}
theorem Sw.of {K:Si} (h:H a=some (.lst xs)):Sw K H a xs:=.inl (.inl h)
theorem SqT.of {K:Si} (h:H a=some (.tup xs)):SqT K H a xs:=.inl (.inl h)
theorem Su.list (I:Su X pins σ H s) (h:Sw X.K H a xs):∃its:List S6,Sa0 xs its/\PlainL s.heap a its.toArray/\xs.length<=Sa:=by
 rcases h with h|⟨o,its,n,hk,hc,hd,hs,hz,r⟩
 ·obtain ⟨z,its,n,r,e⟩:=h.ok I.hok
  exact ⟨its,r,⟨_,n,e,rfl,rfl,rfl⟩,z⟩
 ·refine ⟨its.toList,r,⟨o,n,I.kIn a o hk,hc,hd,by simpa using hs⟩,?_⟩
  have e:=r.length
  simp only [ybj] at e
  omega
theorem Su.tuple (I:Su X pins σ H s) (h:SqT X.K H a xs):∃its:List S6,Sa0 xs its/\IsTup s.heap a its.toArray/\xs.length<=Sa:=by
 rcases h with h|⟨o,its,n,hk,hc,hs,hz,r⟩
 ·obtain ⟨z,its,r,p⟩:=h.ok I.hok
  exact ⟨its,r,p,z⟩
 ·refine ⟨its.toList,r,⟨o,I.kIn a o hk,hc,n,by simpa using hs⟩,?_⟩
  have e:=r.length
  simp only [ybj] at e
  omega
theorem Su.list_inj (I:Su X pins σ H s) (h:Sw X.K H a xs) (h':Sw X.K H a ys):xs=ys:=by
 obtain ⟨its,r,⟨o,n,e,_,_,d⟩,_⟩:=I.list h
 obtain ⟨its',r',⟨o',n',e',_,_,d'⟩,_⟩:=I.list h'
 rw [e] at e';cases e'
 rw [d] at d'
 injection d' with d1 _
 have:its=its':=by simpa using congrArg Array.toList d1
 subst this
 exact r.inj r'
theorem Su.tuple_inj (I:Su X pins σ H s) (h:SqT X.K H a xs) (h':SqT X.K H a ys):xs=ys:=by
 obtain ⟨its,r,⟨o,e,_,n,d⟩,_⟩:=I.tuple h
 obtain ⟨its',r',⟨o',e',_,n',d'⟩,_⟩:=I.tuple h'
 rw [e] at e';cases e'
 rw [d] at d'
 injection d' with d1 _
 have:its=its':=by simpa using congrArg Array.toList d1
 subst this
 exact r.inj r'
end
abbrev Cx.wish (X:Cx) (E:S6->S7->Prop):Cx:={X with xe:=E}
abbrev Cx.nox (X:Cx):Cx:=X.wish λ_ _=>False
theorem Cx.Ok.wish {X:Cx} (ok:X.Ok) (E:S6->S7->Prop):(X.wish E).Ok:=
 ⟨ok.mod,ok.kind,ok.glob,ok.blt,ok.above,ok.inj,ok.has,ok.cab,ok.hd,ok.frames,ok.stk,ok.exf,ok.bs,ok.bsz,ok.noex,ok.exfs,ok.funs,ok.frf⟩
theorem Cx.Ok.unwish {X:Cx} {E:S6->S7->Prop} (ok:(X.wish E).Ok):X.Ok:=
 ⟨ok.mod,ok.kind,ok.glob,ok.blt,ok.above,ok.inj,ok.has,ok.cab,ok.hd,ok.frames,ok.stk,ok.exf,ok.bs,ok.bsz,ok.noex,ok.exfs,ok.funs,ok.frf⟩
section
variable {X:Cx} {pins:List (S5×Obj)} {σ:St} {H:Hp} {s:S7} {E:S6->S7->Prop}
theorem Su.wish (I:Su X pins σ H s) (E:S6->S7->Prop):Su (X.wish E) pins σ H s:=⟨I.ok.wish E,I.os,I.bare,I.base,I.loc,I.cell,I.free,I.freeC,I.pin,I.hok,I.len⟩
theorem Su.unwish (I:Su (X.wish E) pins σ H s):Su X pins σ H s:=⟨I.ok.unwish,I.os,I.bare,I.base,I.loc,I.cell,I.free,I.freeC,I.pin,I.hok,I.len⟩
theorem SP.unwish {D:Sbs} {f:Flow} {s':S7} (h:SP (X.wish E) pins D f s'):SP X pins D f s':=by
 cases f with
 |next=>obtain ⟨σ',H',I,q⟩:=h;exact ⟨σ',H',I.unwish,q⟩
 |brk=>obtain ⟨σ',H',I,q⟩:=h;exact ⟨σ',H',I.unwish,q⟩
 |cont=>obtain ⟨σ',H',I,q⟩:=h;exact ⟨σ',H',I.unwish,q⟩
 |ret u=>obtain ⟨v,σ',H',I,r,q⟩:=h;exact ⟨v,σ',H',I.unwish,r,q⟩
theorem PSs.nox {st:List Sf} {t:TS} (h:PSs X.nox st t):PSs X st t:=λpins s σ H D I hw=>
 wpAny_mono (h pins s σ H D (I.wish _) hw) (λ_ _ q=>q.unwish) λ_ _ z=>False.elim z
end
section
variable {X:Cx} {st:Sf} {rest:List Sf} {t u:TS} {e:Expr} {te:TE} {pos:Pos}
def Ycu:TS:=λD σ H=>D.nx σ H
def Jxu (t u:TS):TS:=λD σ H=>t {D with nx:=u D} σ H
theorem Jki:PSs X [] Ycu:=λ_ _ σ H _ I h=>wpAny_execs_nil ⟨σ,H,I,h⟩
theorem Jk6 (h1:PS X st t) (h2:PSs X rest u):PSs X (st::rest) (Jxu t u):=by
 intro pins s σ H D I h
 refine wpAny_execs_cons (thn (h1 pins s σ H {D with nx:=u D} I h) λf s1 q=>?_)
 cases f with
 |next=>
  obtain ⟨σ',H',I',q⟩:=q
  exact h2 pins s1 σ' H' D I' q
 |ret v=>exact q
 |brk=>exact q
 |cont=>exact q
theorem Jk7 (h1:PS X st t):PSs X [st] t:=by
 intro pins s σ H D I h
 refine wpAny_execs_cons (thn (h1 pins s σ H D I h) λf s1 q=>?_)
 cases f with
 |next=>exact wpAny_execs_nil q
 |ret v=>exact q
 |brk=>exact q
 |cont=>exact q
theorem Su.quiet {pins:List (S5×Obj)} {σ:St} {H:Hp} {s:S7} (I:Su X pins σ H s):interactive X.env=false:=by simp [interactive,I.ok.kind]
def Spl (te:TE):TS:=λD σ H=>te σ H λ_ H1=>D.nx σ H1
theorem Jlv (he:PE X e te) (hs:swapsWith e none pos.line X.env=pure false:=by rfl):PS X (.Expr e pos) (Spl te):=by
 intro pins s σ H D I h
 exact wpAny_Expr_any (thn (he pins s σ H _ I h) λv s1 ⟨x,H1,I1,r1,q1⟩=>⟨σ,H1,I1,q1⟩) I.quiet hs
def Su1 (te:TE):TS:=λD σ H=>te σ H D.rt
theorem Jkg (he:PE X e te):PS X (.Return (some e) pos) (Su1 te):=by
 intro pins s σ H D I h
 exact wpAny_Return_some (thn (he pins s σ H _ I h) λv s1 ⟨x,H1,I1,r1,q1⟩=>⟨x,σ,H1,I1,r1,q1⟩)
def Sty (c:TT) (t u:TS):TS:=λD σ H=>c σ H λb H1=>if b=true then t D σ H1 else u D σ H1
theorem Jku {c:Expr} {a b:List Sf} {tc:TT} (hc:PT X c tc) (ha:PSs X a t) (hb:PSs X b u):PS X (.If c a b pos) (Sty tc t u):=by
 intro pins s σ H D I h
 refine wpAny_If (thn (hc pins s σ H _ I h) λd s1 zq=>?_)
 obtain ⟨H1,I1,q1⟩:=zq
 cases d with
 |true=>exact ha pins s1 σ H1 D I1 q1
 |false=>exact hb pins s1 σ H1 D I1 q1
end
abbrev TG:=V->St->Hp->(St->Hp->Prop)->Prop
abbrev TGs:=List V->St->Hp->(St->Hp->Prop)->Prop
def PG (X:Cx) (target:Expr) (t:TG):Prop:=
 ∀(pins:List (S5×Obj)) (s:S7) (σ:St) (H:Hp) (v:V) (u:S6) (Q:St->Hp->Prop),Su X pins σ H s->Sa2 v u->t v σ H Q->
  Sh (model X.prog X.w) X.A (assign target X.env u) (λ_ s'=>∃σ' H',Su X pins σ' H' s'/\Q σ' H') X.xe s
def PGs (X:Cx) (ts:List Expr) (t:TGs):Prop:=
 ∀(pins:List (S5×Obj)) (s:S7) (σ:St) (H:Hp) (vs:List V) (us:List S6) (Q:St->Hp->Prop),Su X pins σ H s->Sa0 vs us->t vs σ H Q->
  Sh (model X.prog X.w) X.A (assignInOrder ((assignEach ts X.env).map (·.2)) us) (λ_ s'=>∃σ' H',Su X pins σ' H' s'/\Q σ' H') X.xe s
abbrev Sl1:=V->V->V->Hp->(Hp->Prop)->Prop
def Sop (X:Cx) (t:Sl1):Prop:=
 ∀(pins:List (S5×Obj)) (s:S7) (σ:St) (H:Hp) (o i v:V) (ov iv u:S6) (Q:Hp->Prop),Su X pins σ H s->Sa2 o ov->Sa2 i iv->Sa2 v u->t o i v H Q->
  Sh (model X.prog X.w) X.A (setItem ov iv u) (λ_ s'=>∃H',Su X pins σ H' s'/\Q H') X.xe s
abbrev TIp:=V->V->Hp->VK->Prop
def PIp (X:Cx) (op:Operator) (t:TIp):Prop:=
 ∀(pins:List (S5×Obj)) (s:S7) (σ:St) (H:Hp) (x y:V) (v u:S6) (Q:VK),Su X pins σ H s->Sa2 x v->Sa2 y u->t x y H Q->
  Sh (model X.prog X.w) X.A (inplaceOp op v u) (EP X pins σ Q) X.xe s
section
variable {X:Cx} {pos:Pos}
def Jo5 (i:Nat):TG:=λv σ H Q=>Q (σ.set i (some v)) H
theorem Jkf {i:Nat} {x:Str} (hN:X.N.Nodup) (hi:X.N[i]?=some x) (hx:Loc X.env.scope x) (hf:X.fn x=true\/X.env.scope.names.lookup x=some .local:=by first|exact .inl rfl|exact .inr rfl|assumption):PG X (.Name x pos) (Jo5 i):=by
 intro pins s σ H v u Q I r h
 exact wpAny_assign_Name (Jpc I hN hi hx r (λs' I'=>⟨_,H,I',h⟩) hf)
def Sld:TGs:=λvs σ H Q=>vs= []/\Q σ H
def Juw (t:TG) (u:TGs):TGs:=λvs σ H Q=>∃v r,vs=v::r/\t v σ H λσ' H'=>u r σ' H' Q
theorem Jmx:PGs X [] Sld:=by
 intro pins s σ H vs us Q I r h
 obtain ⟨e,h⟩:=h
 subst e
 cases r
 exact assignInOrder_nil ⟨σ,H,I,h⟩
theorem Jkv {e:Expr} {es:List Expr} {t:TG} {u:TGs} (h1:PG X e t) (h2:PGs X es u)
  (hs:(assignEach (e::es) X.env).map (·.2)=assign e X.env::(assignEach es X.env).map (·.2):=by rfl):PGs X (e::es) (Juw t u):=by
 intro pins s σ H vs us Q I r h
 obtain ⟨v,vr,e1,h⟩:=h
 subst e1
 cases r with
 |cons r rr=>
  rw [hs]
  refine assignInOrder_cons (thn (h1 pins s σ H _ _ _ I r h) λ_ s1 zq=>?_)
  obtain ⟨σ1,H1,I1,q1⟩:=zq
  exact h2 pins s1 σ1 H1 _ _ Q I1 rr q1
def Sjb (K:Si) (n:Nat) (t:TGs):TG:=λv σ H Q=>∃a xs,v= .ref a/\SqT K H a xs/\xs.length=n/\t xs σ H Q
theorem Jrp {es:List Expr} {k:Nat} {t:TGs} {n:Nat} (hc:X.calm=true) (h:PGs X es t)
  (hn:(assignEach es X.env).length=n:=by rfl) (hst:(assignEach es X.env).findIdx? (·.1)=none:=by rfl):PG X (.Tuple es k pos) (Sjb X.K n t):=by
 intro pins s σ H v u Q I r hw
 obtain ⟨a,xs,e1,hq,hl,hw⟩:=hw
 subst e1
 cases r
 obtain ⟨its,rv,ht,hz⟩:=I.tuple hq
 refine assign_Tuple_tuple (I.ok.hd hc) ht (by simp [hn,<-hl,rv.length]) hst λh' hx=>?_
 have I1:Su X pins σ H {s with heap:=h'}:=I.kept (t':=s.toks) λb o e=>hx b o (yr (yk e)) e
 exact h pins _ σ H xs _ Q I1 (by simpa using rv) hw
def Stb (to ti:TE) (t:Sl1):TG:=λv σ H Q=>to σ H λo H1=>ti σ H1 λi H2=>t o i v H2 λH3=>Q σ H3
theorem Jtj {o i:Expr} {to ti:TE} {t:Sl1} (ho:PE X o to) (hi:PE X i ti) (hs:Sop X t)
  (ha:∀v,assign (.Subscript o i pos) X.env v=(do
   let ov<-holding [v] (eval o X.env)
   let iv<-holding [v,ov] (eval i X.env)
   standAt pos
   holding [v,ov,iv] (setItem ov iv v)
   release [v,ov,iv] []):=by intro _;rfl):PG X (.Subscript o i pos) (Stb to ti t):=by
 intro pins s σ H v u Q I r h
 rw [ha]
 refine S8 (wpAny_holding (thn (ho pins s σ H _ I h) λov s1 zq=>?_))
 obtain ⟨x,H1,I1,r1,q1⟩:=zq
 refine S8 (wpAny_holding (thn (hi pins s1 σ H1 _ I1 q1) λiv s2 zq=>?_))
 obtain ⟨y,H2,I2,r2,q2⟩:=zq
 refine S8 (wpAny_standAt (S8 (wpAny_holding (thn (hs pins s2 σ H2 x y v ov iv u _ I2 r1 r2 r q2) λ_ s3 zq=>?_))))
 obtain ⟨H3,I3,q3⟩:=zq
 exact wpAny_release ⟨σ,H3,I3,q3⟩
def Spk (te:TE) (g:TG):TS:=λD σ H=>te σ H λx H1=>g x σ H1 D.nx
theorem Jrr {tg e:Expr} {te:TE} {g:TG} (he:PE X e te) (hg:PG X tg g) (hs:swapsWithSole [tg] e pos.line X.env=pure false:=by rfl) (hw:swappedStores [tg] e X.env=pure none:=by rfl)
  (h1:(assignEach [tg] X.env).map (·.2)= [assign tg X.env]:=by rfl):PS X (.Assign [tg] e pos) (Spk te g):=by
 intro pins s σ H D I h
 refine wpAny_Assign_stores (thn (he pins s σ H _ I h) λv s1 zq=>?_) hs hw
 obtain ⟨x,H1,I1,r1,q1⟩:=zq
 rw [h1]
 exact thn (hg pins s1 σ H1 x v _ I1 r1 q1) λ_ s2 q=>q
theorem Jkh {i:Nat} {x:Str} {e:Expr} {te:TE} {pos':Pos} (hN:X.N.Nodup) (hi:X.N[i]?=some x) (hx:Loc X.env.scope x) (he:PE X e te) (hs:swapsWith e (some (.Name x pos')) pos.line X.env=pure false:=by rfl) (hf:X.fn x=true\/X.env.scope.names.lookup x=some .local:=by first|exact .inl rfl|exact .inr rfl|assumption):
  PS X (.Assign [.Name x pos'] e pos) (Spk te (Jo5 i)):=by
 intro pins s σ H D I h
 refine wpAny_Assign_Name (thn (he pins s σ H _ I h) λv s1 zq=>?_) hs
 obtain ⟨y,H1,I1,r1,q1⟩:=zq
 exact Jpc I1 hN hi hx r1 (λs2 I2=>⟨_,H1,I2,q1⟩) hf
def Stv (i:Nat) (te:TE) (ti:TIp):TS:=λD σ H=>∃x,σ[i]?=some (some x)/\te σ H λy H1=>ti x y H1 λz H2=>D.nx (σ.set i (some z)) H2
theorem Slx {i:Nat} {x:Str} {e:Expr} {te:TE} {op:Operator} {ti:TIp} {pos':Pos} (hN:X.N.Nodup) (hi:X.N[i]?=some x) (hx:Loc X.env.scope x) (he:PE X e te) (ho:PIp X op ti) (hf:X.fn x=true\/X.env.scope.names.lookup x=some .local:=by first|exact .inl rfl|exact .inr rfl|assumption):
  PS X (.AugAssign (.Name x pos') op e pos) (Stv i te ti):=by
 intro pins s σ H D I h
 obtain ⟨v,e1,h⟩:=h
 obtain ⟨m,hn,hl⟩:=I.loc
 have vis:Vis X.env.scope x:=by rcases hx with k|k;exact .inl k;exact .inr (.inl k)
 obtain ⟨u,r,l⟩:=hl i x v hi e1 vis
 refine wpAny_AugAssign_Name ?_
 have go:Sh (model X.prog X.w) X.A (eval e X.env) (λw s₂=>Sh (model X.prog X.w) X.A (inplaceOp op u w) (λr s₃=>Sh (model X.prog X.w) X.A (storeName X.env x r) (λ_=>SP X pins D .next) X.xe s₃) X.xe s₂) X.xe s:=by
  refine thn (he pins s σ H _ I h) λw s1 zq=>?_
  obtain ⟨y,H1,I1,r1,q1⟩:=zq
  refine thn (ho pins s1 σ H1 v y u w _ I1 r r1 q1) λz s2 zq=>?_
  obtain ⟨zv,H2,I2,r2,q2⟩:=zq
  exact Jpc I2 hN hi hx r2 (λs3 I3=>⟨_,H2,I3,q2⟩) hf
 rcases l with ⟨hk,hm⟩|⟨hk,c,hc,hcell⟩
 ·exact wpAny_loadName_local I.ok.kind hk hn hm go
 ·rcases hk with hk|hk
  ·exact wpAny_loadName_cell I.ok.kind hk hc hcell go
  ·rcases hx with k|k
   ·have:X.env.scope.names.lookup x=some .free:=hk
    rw [k] at this;cases this
   ·have:X.env.scope.names.lookup x=some .free:=hk
    rw [k] at this;cases this
def ipI (f:Int->Int->Int):TIp:=λx y H Q=>∃i j,x= .int i/\y= .int j/\Q (.int (f i j)) H
theorem Slh:PIp X .Add (ipI λi j=>i+j):=by
 intro pins s σ H x y v u Q I r1 r2 h
 obtain ⟨i,j,e1,e2,q⟩:=h
 subst e1;subst e2
 obtain ⟨t,rfl⟩:=r1
 obtain ⟨t',rfl⟩:=r2
 exact iadd_int ⟨.int _,H,I.tok _,⟨_,rfl⟩,q⟩
def Smj (c:TT) (tb:TS):TS:=λD σ H=>∃W:Nat->St->Hp->Prop,(∃m,W m σ H)/\∀m σ H,W m σ H->
 c σ H λb H1=>if b=true then ∃N:St->Hp->Prop,(∀σ' H',N σ' H'->∃m',m' < m/\W m' σ' H')/\tb {D with nx:=N,ct:=N,bk:=D.nx} σ H1 else D.nx σ H1
theorem Jtl {c:Expr} {body:List Sf} {tc:TT} {tb:TS} (hp:PassesOwn (model X.prog X.w) X.A X.env X.xe) (hc:PT X c tc) (hb:PSs X body tb):PS X (.While c body [] pos) (Smj tc tb):=by
 intro pins s σ H D I h
 obtain ⟨W,⟨m0,w0⟩,turn⟩:=h
 refine wpAny_While (codeAny_whileLoop (λn s'=>∃σ' H',Su X pins σ' H' s'/\W n σ' H') ?_ m0 ⟨σ,H,I,w0⟩)
 rintro n s1 ⟨σ1,H1,I1,w1⟩
 refine wpAny_passesOwn hp (thn (hc pins s1 σ1 H1 _ I1 (turn n σ1 H1 w1)) λb s2 zq=>?_)
 obtain ⟨H2,I2,q2⟩:=zq
 cases b with
 |true=>
  obtain ⟨N,hN,q2⟩:=q2
  rw [if_pos rfl]
  refine wpAny_passesOwn hp (thn (hb pins s2 σ1 H2 _ I2 q2) λf s3 q3=>?_)
  cases f with
  |next=>
   obtain ⟨σ3,H3,I3,n3⟩:=q3
   obtain ⟨m',hm,w3⟩:=hN σ3 H3 n3
   exact ⟨m',hm,σ3,H3,I3,w3⟩
  |cont=>
   obtain ⟨σ3,H3,I3,n3⟩:=q3
   obtain ⟨m',hm,w3⟩:=hN σ3 H3 n3
   exact ⟨m',hm,σ3,H3,I3,w3⟩
  |brk=>exact q3
  |ret v=>exact q3
 |false=>
  rw [if_neg yz]
  exact wpAny_execs_nil ⟨σ1,H2,I2,q2⟩
end
structure It where
 go:Nat->Hp->Prop
 yld:Nat->Hp->V->Hp->Prop
 stop:Nat->Hp->Prop
def Jrd (X:Cx) (pins:List (S5×Obj)) (H:Hp) (b:S5):Prop:=
 H b=none/\b≠X.env.locals/\b∉X.fs/\(b∈X.ex\/X.s₀.heap.objs.size<=b)/\(∀x c,X.env.cells.lookup x=some c->c≠b)/\∀p∈X.pn++pins,p.1≠b
theorem Su.fpOk {X:Cx} {pins:List (S5×Obj)} {σ:St} {H H':Hp} {s:S7} {b:S5} (I:Su X pins σ H s) (hb:s.heap.objs.size<=b) (hn:H' b=none):Jrd X pins H' b:=by
 refine ⟨hn,yax (yao I.lt hb),I.nofs hb,.inr (yab I.sz hb),λx c e z=>?_,λp hp z=>?_⟩
 ·obtain ⟨v,q⟩:=I.cell x c e
  exact absurd (yao q.lt (by rw [z];exact hb)) (ybe _)
 ·exact absurd (yao (yk (I.pin p hp).1) (by rw [z];exact hb)) (ybe _)
structure Jre (P:Sb) (w:Sd) (K:Si) (tg:Expr) (J:It) (fp:List S5) (it:S5) (tn:Nat->Sg->Prop):Prop where
 mem:it∈fp
 obj:∀i h,tn i h->∀b∈fp,∃o,h.get? b=some o/\∀v,o.data≠ .cell v
 keep:∀i h h',tn i h->(∀b∈fp,∀o,h.get? b=some o->h'.get? b=some o)->tn i h'
 item:∀(X:Cx),X.prog=P->X.w=w->X.K=K->X.calm=true->∀(i:Nat) (pins:List (S5×Obj)) (s:S7) (σ:St) (H:Hp) (E:S6->S7->Prop),Su X pins σ H s->(∀b∈fp,Jrd X pins H b)->tn i s.heap->J.go i H->
  Sh (model P w) X.A (pyNext (.ref it)) (λr s1=>∃u,r=some u/\
   Sh (model P w) X.A (letOwnedTupleGo tg (.ref it) u) (λ_ s2=>∃x H',Su X pins σ H' s2/\Sa2 x u/\J.yld i H x H'/\tn (i+1) s2.heap/\∀b∈fp,H' b=none) E s1) E s
 done:∀(X:Cx),X.prog=P->X.w=w->X.K=K->X.calm=true->∀(i:Nat) (pins:List (S5×Obj)) (s:S7) (σ:St) (H:Hp) (E:S6->S7->Prop),Su X pins σ H s->(∀b∈fp,Jrd X pins H b)->tn i s.heap->J.stop i H->
  Sh (model P w) X.A (pyNext (.ref it)) (λr s1=>r=none/\Su X pins σ H s1) E s
 self:∀(A:Se) (i:Nat) (s:S7) (Q:S6->S7->Prop) (E:S6->S7->Prop),tn i s.heap->Q (.ref it) s->Sh (model P w) A (pyIter (.ref it)) Q E s
abbrev TI:=St->Hp->(It->Hp->Prop)->Prop
def PIE (X:Cx) (pins:List (S5×Obj)) (σ:St) (tg:Expr) (R:It->Hp->Prop) (itv:S6) (s2:S7):Prop:=
 ∃(it:S5) (fp:List S5) (tn:Nat->Sg->Prop) (J:It) (H':Hp),itv= .ref it/\Su X pins σ H' s2/\Jre X.prog X.w X.K tg J fp it tn/\tn 0 s2.heap/\(∀b∈fp,Jrd X pins H' b)/\R J H'
def PI (X:Cx) (tg iter:Expr) (wi:TI):Prop:=
 ∀(pins:List (S5×Obj)) (s:S7) (σ:St) (H:Hp) (R:It->Hp->Prop),Su X pins σ H s->wi σ H R->
  Sh (model X.prog X.w) X.A (eval iter X.env) (λv s1=>Sh (model X.prog X.w) X.A (pyIter v) (PIE X pins σ tg R) X.xe s1) X.xe s
theorem Jx3 {M:Model} {A:Se} {E:S6->S7->Prop} {s:S7} {tg:Expr} {it:S5} {u:S6} {o:Obj} {n:String} {vs:Array S6} {Q:Unit->S7->Prop} (ho:s.heap.get? it=some o) (hc:o.cls= .type n) (hd:o.data= .fields vs)
  (hn: ["enumerate","zip","dict_itemiterator","dict_reverseitemiterator","odict_iterator","itertools.zip_longest","itertools.pairwise"].contains n=false) (hQ:Q () s):Sh M A (letOwnedTupleGo tg (.ref it) u) Q E s:=by
 unfold letOwnedTupleGo
 cases tg <;> first
  |exact S9 hQ
  | (cases u <;> first
    |exact S9 hQ
    | (refine S8 (wpAny_load ho ?_)
       rw [hc,hd]
       show Sh M A (if (["enumerate","zip","dict_itemiterator","dict_reverseitemiterator","odict_iterator","itertools.zip_longest","itertools.pairwise"].contains n&&vs[0]?==some (rawInt _))=true then _ else _) Q E s
       rw [if_neg (by intro h;rw [hn,yci] at h;cases h)]
       exact S9 hQ))
def Itl (K:Si) (a:S5):It:=
 ⟨λi H=>∃xs x,Sw K H a xs/\xs[i]?=some x,λi H x H'=>H'=H/\∀xs,Sw K H a xs->xs[i]?=some x,λi H=>∃xs,Sw K H a xs/\xs.length<=i⟩
def Itt (K:Si) (a:S5):It:=
 ⟨λi H=>∃xs x,SqT K H a xs/\xs[i]?=some x,λi H x H'=>H'=H/\∀xs,SqT K H a xs->xs[i]?=some x,λi H=>∃xs,SqT K H a xs/\xs.length<=i⟩
def Itr (lo:Int) (n:Nat):It:=⟨λi _=>i < n,λi H x H'=>H'=H/\x= .int (lo+i),λi _=>n<=i⟩
theorem Jve {P:Sb} {w:Sd} {K:Si} {tg:Expr} (a it:S5):Jre P w K tg (Itl K a) [it] it (λi h=>h.IsListIter it a i) where
 mem:=by simp
 obj:=λi h st b hb=>by
  have e:b=it:=by simpa using hb
  subst e
  obtain ⟨o,e,c,d⟩:=st
  exact ⟨o,e,λv z=>by rw [d] at z;cases z⟩
 keep:=λi h h' st k=>st.at λo e=>k it (by simp) o e
 item:=by
  intro X hP hw hK hc i pins s σ H E I hf st hg
  subst hP hw hK
  obtain ⟨xs,x,hq,hx⟩:=hg
  obtain ⟨its,rv,p,hz⟩:=I.list hq
  obtain ⟨u,hu,ru⟩:=rv.get hx
  obtain ⟨f0,f1,f2,f3,f4,f5⟩:=hf it (by simp)
  refine wpAny_pyNext_list_item st p.isList (x:=u) (by simpa using hu) λh' st' sb=>?_
  have I1:Su X pins σ H {s with heap:=h'}:=I.turned (t':=s.toks) (λb o hb e=>(sb.2 b hb).trans e) f0 f1 f3 f4 f5
  obtain ⟨o,e,c,d⟩:=id st'
  exact ⟨u,rfl,Jx3 (s:={s with heap:=h'}) e c d (by decide) ⟨x,H,I1,ru,⟨rfl,λys hy=>by rw [I.list_inj hy hq];exact hx⟩,st',λb hb=>(hf b hb).1⟩⟩
 done:=by
  intro X hP hw hK hc i pins s σ H E I hf st hg
  subst hP hw hK
  obtain ⟨xs,hq,hx⟩:=hg
  obtain ⟨its,rv,p,hz⟩:=I.list hq
  obtain ⟨f0,f1,f2,f3,f4,f5⟩:=hf it (by simp)
  have hl:=rv.length
  exact wpAny_pyNext_list_end (I.ok.hd hc) st p.isList (by simp;omega) λh' eb=>⟨rfl,I.turned (t':=s.toks) (λb o hb e=>eb b o hb e) f0 f1 f3 f4 f5⟩
 self:=λ_ _ _ _ _ st h=>wpAny_pyIter_listiter st h
theorem Jtv {P:Sb} {w:Sd} {K:Si} {tg:Expr} (a it:S5):Jre P w K tg (Itt K a) [it] it (λi h=>h.IsTupleIter it a i) where
 mem:=by simp
 obj:=λi h st b hb=>by
  have e:b=it:=by simpa using hb
  subst e
  obtain ⟨o,e,c,d⟩:=st
  exact ⟨o,e,λv z=>by rw [d] at z;cases z⟩
 keep:=λi h h' st k=>st.at λo e=>k it (by simp) o e
 item:=by
  intro X hP hw hK hc i pins s σ H E I hf st hg
  subst hP hw hK
  obtain ⟨xs,x,hq,hx⟩:=hg
  obtain ⟨its,rv,p,hz⟩:=I.tuple hq
  obtain ⟨u,hu,ru⟩:=rv.get hx
  obtain ⟨f0,f1,f2,f3,f4,f5⟩:=hf it (by simp)
  refine wpAny_pyNext_tuple_item st (show s.heap.IsTuple a its.toArray from p) (x:=u) (by simpa using hu) λh' st' sb=>?_
  have I1:Su X pins σ H {s with heap:=h'}:=I.turned (t':=s.toks) (λb o hb e=>(sb.2 b hb).trans e) f0 f1 f3 f4 f5
  obtain ⟨o,e,c,d⟩:=id st'
  exact ⟨u,rfl,Jx3 (s:={s with heap:=h'}) e c d (by decide) ⟨x,H,I1,ru,⟨rfl,λys hy=>by rw [I.tuple_inj hy hq];exact hx⟩,st',λb hb=>(hf b hb).1⟩⟩
 done:=by
  intro X hP hw hK hc i pins s σ H E I hf st hg
  subst hP hw hK
  obtain ⟨xs,hq,hx⟩:=hg
  obtain ⟨its,rv,p,hz⟩:=I.tuple hq
  obtain ⟨f0,f1,f2,f3,f4,f5⟩:=hf it (by simp)
  have hl:=rv.length
  exact wpAny_pyNext_tuple_end (I.ok.hd hc) st (show s.heap.IsTuple a its.toArray from p) (by simp;omega) λh' eb=>⟨rfl,I.turned (t':=s.toks) (λb o hb e=>eb b o hb e) f0 f1 f3 f4 f5⟩
 self:=λ_ _ _ _ _ st h=>wpAny_pyIter_tupleiter st h
theorem Jz6 {P:Sb} {w:Sd} {K:Si} {tg:Expr} (it:S5) (lo:Int) (n:Nat):Jre P w K tg (Itr lo n) [it] it (λi h=>IsRangeIter h it (lo+(i:Nat)*1) ((n:Int) - (i:Nat)) 1) where
 mem:=by simp
 obj:=λi h st b hb=>by
  have e:b=it:=by simpa using hb
  subst e
  exact ⟨_,st,λv z=>by
   have z':Data.fields _=Data.cell v:=z
   cases z'⟩
 keep:=λi h h' st k=>k it (by simp) _ st
 item:=by
  intro X hP hw hK hc i pins s σ H E I hf st hg
  subst hP hw hK
  obtain ⟨f0,f1,f2,f3,f4,f5⟩:=hf it (by simp)
  have W:=Walks.range (prog:=X.prog) (w:=X.w) (I.ok.hd hc) it lo 1 n
  refine W.item i s _ _ hg st λv h' tk hv st' kk=>?_
  obtain ⟨t,rfl⟩:=hv
  have I1:Su X pins σ H {s with heap:=h',toks:=tk}:=I.turned (λb o hb e=>kk b o (by simpa using hb) e) f0 f1 f3 f4 f5
  refine ⟨_,rfl,Jx3 (s:={s with heap:=h',toks:=tk}) (n:="range_iterator") st' rfl rfl (by decide) ⟨.int (lo+i),H,I1,⟨t,?_⟩,⟨rfl,rfl⟩,st',λb hb=>(hf b hb).1⟩⟩
  rw [Int.mul_one]
 done:=by
  intro X hP hw hK hc i pins s σ H E I hf st hg
  subst hP hw hK
  obtain ⟨f0,f1,f2,f3,f4,f5⟩:=hf it (by simp)
  exact wpAny_pyNext_range_end (I.ok.hd hc) st (by have:n<=i:=hg;omega) λh' eb=>⟨rfl,I.turned (t':=s.toks) (λb o hb e=>eb b o hb e) f0 f1 f3 f4 f5⟩
 self:=λ_ _ _ _ _ st h=>wpAny_pyIter_rangeiter st h
section
variable {X:Cx} {tg:Expr}
def Sp0 (K:Si) (tl:TE):TI:=λσ H R=>tl σ H λx H1=>∃a,x= .ref a/\(∃xs,Sw K H1 a xs)/\R (Itl K a) H1
def Stg (K:Si) (tl:TE):TI:=λσ H R=>tl σ H λx H1=>∃a,x= .ref a/\(∃xs,SqT K H1 a xs)/\R (Itt K a) H1
theorem Jl5 {l:Expr} {tl:TE} (hl:PE X l tl):PI X tg l (Sp0 X.K tl):=by
 intro pins s σ H R I h
 refine thn (hl pins s σ H _ I h) λv s1 zq=>?_
 obtain ⟨x,H1,I1,r1,q1⟩:=zq
 obtain ⟨a,e,⟨xs,hq⟩,q⟩:=q1
 subst e
 cases r1
 obtain ⟨its,rv,p,hz⟩:=I1.list hq
 refine wpAny_pyIter_list p.isList ?_
 refine ⟨s1.heap.objs.size,[s1.heap.objs.size],_,_,H1,rfl,I1.kept (t':=s1.toks) λb o e=>yj _ e,Jve a _,⟨_,yo _ rfl,rfl,rfl⟩,λb hb=>?_,q⟩
 have e:b=s1.heap.objs.size:=by simpa using hb
 subst e
 exact I1.fpOk (yg _) (I1.hok.fresh (yg _))
theorem Jyr {l:Expr} {tl:TE} (hl:PE X l tl):PI X tg l (Stg X.K tl):=by
 intro pins s σ H R I h
 refine thn (hl pins s σ H _ I h) λv s1 zq=>?_
 obtain ⟨x,H1,I1,r1,q1⟩:=zq
 obtain ⟨a,e,⟨xs,hq⟩,q⟩:=q1
 subst e
 cases r1
 obtain ⟨its,rv,p,hz⟩:=I1.tuple hq
 refine wpAny_pyIter_tuple (show s1.heap.IsTuple a its.toArray from p) ?_
 refine ⟨s1.heap.objs.size,[s1.heap.objs.size],_,_,H1,rfl,I1.kept (t':=s1.toks) λb o e=>yj _ e,Jtv a _,⟨_,yo _ rfl,rfl,rfl⟩,λb hb=>?_,q⟩
 have e:b=s1.heap.objs.size:=by simpa using hb
 subst e
 exact I1.fpOk (yg _) (I1.hok.fresh (yg _))
theorem Jxg {pins:List (S5×Obj)} {σ:St} {H:Hp} {s:S7} {R:It->Hp->Prop} {E:S6->S7->Prop} {lo hi:Int} {t u v:Tok} {tk:Nat} (I:Su X pins σ H s) (h1: -(2^62)<=lo) (h2:lo < 2^62) (h3: -(2^62)<=hi) (h4:hi < 2^62)
  (q:R (Itr lo (hi - lo).toNat) H):Sh (model X.prog X.w) X.A (pyIter (.ref s.heap.objs.size)) (PIE X pins σ tg R) E {s with heap:=s.heap.push {cls:=.type "range",data:=.fields #[.int lo t,.int hi u,.int 1 v]},toks:=tk}:=by
 refine wpAny_pyIter_range (IsRange.new ..) (small_one h1 h2 h3 h4) ?_
 have I1:Su X pins σ H {s with heap:=s.heap.push {cls:=.type "range",data:=.fields #[.int lo t,.int hi u,.int 1 v]},toks:=tk}:=I.kept λb o e=>yj _ e
 refine ⟨(s.heap.push {cls:=.type "range",data:=.fields #[.int lo t,.int hi u,.int 1 v]}).objs.size,[(s.heap.push {cls:=.type "range",data:=.fields #[.int lo t,.int hi u,.int 1 v]}).objs.size],_,_,H,rfl,
  I1.kept (t':=tk) λb o e=>yj _ e,Jz6 _ lo (hi - lo).toNat,?_,λb hb=>?_,q⟩
 ·have e1:lo+((0:Nat):Int)*1=lo:=by simp
  have e2:(((hi - lo).toNat:Nat):Int) - ((0:Nat):Int)=Builtin.Range.rangeSize lo hi 1:=by rw [rangeSize_one];split <;> omega
  show IsRangeIter _ _ (lo+((0:Nat):Int)*1) ((((hi - lo).toNat:Nat):Int) - ((0:Nat):Int)) 1
  rw [e1,e2]
  exact yo _ rfl
 ·have e:b=(s.heap.push {cls:=.type "range",data:=.fields #[.int lo t,.int hi u,.int 1 v]}).objs.size:=by simpa using hb
  subst e
  exact I1.fpOk (yg _) (I1.hok.fresh (yg _))
def Sp1 (ta:TA):TI:=λσ H R=>ta σ H λvs H1=>∃j:Int,vs= [.int j]/\ -(2^62)<=j/\j < 2^62/\R (Itr 0 j.toNat) H1
def Sp2 (ta:TA):TI:=λσ H R=>ta σ H λvs H1=>∃i j:Int,vs= [.int i,.int j]/\(-(2^62)<=i/\i < 2^62/\ -(2^62)<=j/\j < 2^62)/\R (Itr i (j - i).toNat) H1
theorem Jlj {a:Expr} {ta:TA} {p pos:Pos} (hg:Gl X "range") (hm:X.mg "range" =none) (ha:PA X [a] ta) (hs:starEach [a] X.env= [(false,eval a X.env)]:=by rfl):PI X tg (.Call (.Name "range" p) [a] [] pos) (Sp1 ta):=by
 intro pins s σ H R I h
 refine Call_ (Joh I hg hm boot_range (PyProof.Rows.callWith_type1 (thn (ha pos pins s σ H _ I h) λus s1 zq=>?_) hs rfl))
 obtain ⟨vs,H1,I1,r1,q1⟩:=zq
 obtain ⟨j,e,q1,q2,q⟩:=q1
 subst e
 cases r1 with
 |cons r rr=>
  cases rr
  obtain ⟨t,rfl⟩:=r
  exact call_range_1 (Jxg I1 (by omega) (by omega) q1 q2 (by simpa using q))
theorem Yq {a b:Expr} {ta:TA} {p pos:Pos} (hg:Gl X "range") (hm:X.mg "range" =none) (ha:PA X [a,b] ta) (hs:starEach [a,b] X.env= [(false,eval a X.env),(false,eval b X.env)]:=by rfl) (hs2:starEach [b] X.env= [(false,eval b X.env)]:=by rfl):
  PI X tg (.Call (.Name "range" p) [a,b] [] pos) (Sp2 ta):=by
 intro pins s σ H R I h
 refine Call_ (Joh I hg hm boot_range (PyProof.Rows.callWith_type1 (thn (ha pos pins s σ H _ I h) λus s1 zq=>?_) (by rw [hs,hs2]) (by rw [hs2];rfl)))
 obtain ⟨vs,H1,I1,r1,q1⟩:=zq
 obtain ⟨i,j,e,⟨q1,q2,q3,q4⟩,q⟩:=q1
 subst e
 cases r1 with
 |cons r rr=>
  cases rr with
  |cons r' rr=>
   cases rr
   obtain ⟨t,rfl⟩:=r
   obtain ⟨t',rfl⟩:=r'
   exact call_range_2 (Jxg I1 q1 q2 q3 q4 q)
def Stx (wi:TI) (g:TG) (tb:TS):TS:=λD σ H=>wi σ H λJ H1=>∃W:Nat->Nat->St->Hp->Prop,(∃m,W 0 m σ H1)/\∀i m σ H,W i m σ H->
 (J.stop i H/\D.nx σ H)\/(J.go i H/\∃N:St->Hp->Prop,(∀σ' H',N σ' H'->∃m',m' < m/\W (i+1) m' σ' H')/\∀x H',J.yld i H x H'->g x σ H' λσ2 H2=>tb {D with nx:=N,ct:=N,bk:=D.nx} σ2 H2)
def Jtk (fp:List S5) (h:Sg):List (S5×Obj):=fp.filterMap λb=>(h.get? b).map λo=>(b,o)
theorem Jok {fp:List S5} {h:Sg} {b:S5} {o:Obj} (hb:b∈fp) (e:h.get? b=some o):(b,o)∈Jtk fp h:=List.mem_filterMap.mpr ⟨b,hb,by rw [e];rfl⟩
theorem Yi {fp:List S5} {h:Sg} {p:S5×Obj} (hp:p∈Jtk fp h):p.1∈fp/\h.get? p.1=some p.2:=by
 obtain ⟨b,hb,e⟩:=List.mem_filterMap.mp hp
 cases q:h.get? b with
 |none=>rw [q] at e;cases e
 |some o=>
  rw [q] at e
  have e':(b,o)=p:=yac.inj e
  subst e'
  exact ⟨hb,q⟩
theorem Su.pinned {pins:List (S5×Obj)} {σ:St} {H:Hp} {s:S7} {fp:List S5} (I:Su X pins σ H s) (hf:∀b∈fp,Jrd X pins H b) (ho:∀b∈fp,∃o,s.heap.get? b=some o/\∀v,o.data≠ .cell v):Su X (pins++Jtk fp s.heap) σ H s:=
 I.pins_of λp hp=>(ybf.mp hp).elim (λz=>I.pin p (ybm _ z)) λz=>by
  obtain ⟨hb,e⟩:=Yi z
  obtain ⟨f0,f1,f2,_⟩:=hf p.1 hb
  obtain ⟨o,e',d⟩:=ho p.1 hb
  rw [e] at e';cases e'
  exact ⟨e,f0,f1,f2,d⟩
theorem Su.unpinned {pins pl:List (S5×Obj)} {σ:St} {H:Hp} {s:S7} (I:Su X (pins++pl) σ H s):Su X pins σ H s:=I.pins_of λp hp=>I.pin p (ybm _ (List.mem_append_left _ hp))
theorem Jma {iter:Expr} {body:List Sf} {wi:TI} {g:TG} {tb:TS} {pos:Pos} (hp:PassesOwn (model X.prog X.w) X.A X.env X.xe) (hc:X.calm=true) (hi:PI X tg iter wi) (hg:PG X tg g) (hb:PSs X body tb)
  (hs:∀x,foldedSetIterable iter X.env x=pure x:=by intro _;rfl):PS X (.For tg iter body [] pos) (Stx wi g tb):=by
 intro pins s σ H D I h
 refine wpAny_For (thn (hi pins s σ H _ I h) λv s1 h1=>thn h1 λitv s2 h2=>?_) hs
 obtain ⟨it,fp,tn,J,H2,e,I2,T,st2,f2,W,⟨m0,w0⟩,turn⟩:=h2
 subst e
 have stat:∀{H':Hp},(∀b∈fp,H' b=none)->∀b∈fp,Jrd X pins H' b:=λhn b hb=>⟨hn b hb,(f2 b hb).2⟩
 refine codeAny_forLoop_any (λn s'=>∃i σ' H',Su X pins σ' H' s'/\tn i s'.heap/\(∀b∈fp,H' b=none)/\W i n σ' H') ?_ m0 ⟨0,σ,H2,I2,st2,λb hb=>(f2 b hb).1,w0⟩
 rintro n s3 ⟨i,σ3,H3,I3,st3,fr3,w3⟩
 rcases turn i n σ3 H3 w3 with ⟨stop,qn⟩|⟨go,N,hN,step⟩
 ·refine wpAny_passesOwn hp (thn (T.done X rfl rfl rfl hc i pins s3 σ3 H3 X.xe I3 (stat fr3) st3 stop) λr s4 ⟨hr,I4⟩=>?_)
  subst hr
  exact wpAny_execs_nil ⟨σ3,H3,I4,qn⟩
 ·refine wpAny_passesOwn hp (thn (T.item X rfl rfl rfl hc i pins s3 σ3 H3 X.xe I3 (stat fr3) st3 go) λr s4 ⟨u,hr,h4⟩=>?_)
  subst hr
  refine wpAny_passesOwn hp (thn h4 λ_ s5 zq=>?_)
  obtain ⟨x,H5,I5,r5,y5,st5,fr5⟩:=zq
  have I5':=I5.pinned (stat fr5) (T.obj _ _ st5)
  refine wpAny_passesOwn hp (thn (hg _ s5 σ3 H5 x u _ I5' r5 (step x H5 y5)) λ_ s6 zq=>?_)
  obtain ⟨σ6,H6,I6,q6⟩:=zq
  refine wpAny_passesOwn hp (thn (hb _ s6 σ6 H6 _ I6 q6) λf s7 q7=>?_)
  have again:∀{σ7:St} {H7:Hp},Su X (pins++Jtk fp s5.heap) σ7 H7 s7->N σ7 H7->∃m,m < n/\∃i σ' H',Su X pins σ' H' s7/\tn i s7.heap/\(∀b∈fp,H' b=none)/\W i m σ' H':=λ{σ7 H7} I7 n7=>by
   obtain ⟨m',hm,w7⟩:=hN σ7 H7 n7
   refine ⟨m',hm,i+1,σ7,H7,I7.unpinned,T.keep _ _ _ st5 λb hb o e=>(I7.pin (b,o) (ybm _ (ybm _ (Jok hb e)))).1,λb hb=>?_,w7⟩
   obtain ⟨o,e,d⟩:=T.obj _ _ st5 b hb
   exact (I7.pin (b,o) (ybm _ (ybm _ (Jok hb e)))).2.1
  cases f with
  |next=>obtain ⟨σ7,H7,I7,n7⟩:=q7;exact again I7 n7
  |cont=>obtain ⟨σ7,H7,I7,n7⟩:=q7;exact again I7 n7
  |brk=>obtain ⟨σ7,H7,I7,q7⟩:=q7;exact ⟨σ7,H7,I7.unpinned,q7⟩
  |ret v=>obtain ⟨x7,σ7,H7,I7,r7,q7⟩:=q7;exact ⟨x7,σ7,H7,I7.unpinned,r7,q7⟩
end
theorem Jnj {K:Si} {a:S5} {xs:List V} {g:TG} {tb:TS} {D:Sbs} {σ:St} {H:Hp} (Pv:Nat->St->Hp->Prop) (h0:Pv 0 σ H) (hl:∀i σ H,i<=xs.length->Pv i σ H->Sw K H a xs)
  (hs:∀i x σ H,xs[i]?=some x->Pv i σ H->g x σ H λσ2 H2=>tb {D with nx:=Pv (i+1),ct:=Pv (i+1),bk:=D.nx} σ2 H2) (hd:∀σ H,Pv xs.length σ H->D.nx σ H):
  ∃W:Nat->Nat->St->Hp->Prop,(∃m,W 0 m σ H)/\∀i m σ H,W i m σ H->
   ((Itl K a).stop i H/\D.nx σ H)\/((Itl K a).go i H/\∃N:St->Hp->Prop,(∀σ' H',N σ' H'->∃m',m' < m/\W (i+1) m' σ' H')/\∀x H',(Itl K a).yld i H x H'->g x σ H' λσ2 H2=>tb {D with nx:=N,ct:=N,bk:=D.nx} σ2 H2):=by
 refine ⟨λi m σ H=>m=xs.length - i/\i<=xs.length/\Pv i σ H,⟨xs.length,by simp,yam _,h0⟩,?_⟩
 rintro i m σ H ⟨rfl,hi,p⟩
 have q:=hl i σ H hi p
 by_cases hlt:i < xs.length
 ·refine .inr ⟨⟨xs,xs[i],q,by simp [hlt]⟩,Pv (i+1),λσ' H' p'=>⟨xs.length - (i+1),by omega,rfl,hlt,p'⟩,λx H' y=>?_⟩
  obtain ⟨e,y⟩:=y
  subst e
  exact hs i x σ _ (y xs q) p
 ·have e:i=xs.length:=by omega
  subst e
  exact .inl ⟨⟨xs,q,yg _⟩,hd σ H p⟩
theorem Ydg {K:Si} {a:S5} {xs:List V} {g:TG} {tb:TS} {D:Sbs} {σ:St} {H:Hp} (Pv:Nat->St->Hp->Prop) (h0:Pv 0 σ H) (hl:∀i σ H,i<=xs.length->Pv i σ H->SqT K H a xs)
  (hs:∀i x σ H,xs[i]?=some x->Pv i σ H->g x σ H λσ2 H2=>tb {D with nx:=Pv (i+1),ct:=Pv (i+1),bk:=D.nx} σ2 H2) (hd:∀σ H,Pv xs.length σ H->D.nx σ H):
  ∃W:Nat->Nat->St->Hp->Prop,(∃m,W 0 m σ H)/\∀i m σ H,W i m σ H->
   ((Itt K a).stop i H/\D.nx σ H)\/((Itt K a).go i H/\∃N:St->Hp->Prop,(∀σ' H',N σ' H'->∃m',m' < m/\W (i+1) m' σ' H')/\∀x H',(Itt K a).yld i H x H'->g x σ H' λσ2 H2=>tb {D with nx:=N,ct:=N,bk:=D.nx} σ2 H2):=by
 refine ⟨λi m σ H=>m=xs.length - i/\i<=xs.length/\Pv i σ H,⟨xs.length,by simp,yam _,h0⟩,?_⟩
 rintro i m σ H ⟨rfl,hi,p⟩
 have q:=hl i σ H hi p
 by_cases hlt:i < xs.length
 ·refine .inr ⟨⟨xs,xs[i],q,by simp [hlt]⟩,Pv (i+1),λσ' H' p'=>⟨xs.length - (i+1),by omega,rfl,hlt,p'⟩,λx H' y=>?_⟩
  obtain ⟨e,y⟩:=y
  subst e
  exact hs i x σ _ (y xs q) p
 ·have e:i=xs.length:=by omega
  subst e
  exact .inl ⟨⟨xs,q,yg _⟩,hd σ H p⟩
theorem Jn2 {lo:Int} {n:Nat} {g:TG} {tb:TS} {D:Sbs} {σ:St} {H:Hp} (Pv:Nat->St->Hp->Prop) (h0:Pv 0 σ H)
  (hs:∀i σ H,i < n->Pv i σ H->g (.int (lo+i)) σ H λσ2 H2=>tb {D with nx:=Pv (i+1),ct:=Pv (i+1),bk:=D.nx} σ2 H2) (hd:∀σ H,Pv n σ H->D.nx σ H):
  ∃W:Nat->Nat->St->Hp->Prop,(∃m,W 0 m σ H)/\∀i m σ H,W i m σ H->
   ((Itr lo n).stop i H/\D.nx σ H)\/((Itr lo n).go i H/\∃N:St->Hp->Prop,(∀σ' H',N σ' H'->∃m',m' < m/\W (i+1) m' σ' H')/\∀x H',(Itr lo n).yld i H x H'->g x σ H' λσ2 H2=>tb {D with nx:=N,ct:=N,bk:=D.nx} σ2 H2):=by
 refine ⟨λi m σ H=>m=n - i/\i<=n/\Pv i σ H,⟨n,by simp,yam _,h0⟩,?_⟩
 rintro i m σ H ⟨rfl,hi,p⟩
 by_cases hlt:i < n
 ·refine .inr ⟨hlt,Pv (i+1),λσ' H' p'=>⟨n - (i+1),by omega,rfl,hlt,p'⟩,λx H' y=>?_⟩
  obtain ⟨e,y⟩:=y
  subst e y
  exact hs i σ _ hlt p
 ·have e:i=n:=by omega
  subst e
  exact .inl ⟨yg _,hd σ H p⟩
abbrev R2:=V->V->Hp->VK->Prop
def OpR (X:Cx) (f:S6->S6->Sem S6) (r:R2):Prop:=
 ∀(pins:List (S5×Obj)) (s:S7) (σ:St) (H:Hp) (x y:V) (v u:S6) (Q:VK),Su X pins σ H s->Sa2 x v->Sa2 y u->r x y H Q->
  Sh (model X.prog X.w) X.A (f v u) (EP X pins σ Q) X.xe s
def UnR (X:Cx) (f:S6->Sem S6) (r:V->Hp->VK->Prop):Prop:=
 ∀(pins:List (S5×Obj)) (s:S7) (σ:St) (H:Hp) (x:V) (v:S6) (Q:VK),Su X pins σ H s->Sa2 x v->r x H Q->
  Sh (model X.prog X.w) X.A (f v) (EP X pins σ Q) X.xe s
def Jmd (X:Cx) (f:S6) (r:List V->Hp->VK->Prop):Prop:=
 ∀(pins:List (S5×Obj)) (s:S7) (σ:St) (H:Hp) (xs:List V) (us:List S6) (Q:VK),Su X pins σ H s->Sa0 xs us->r xs H Q->
  Sh (model X.prog X.w) X.A (call f us) (EP X pins σ Q) X.xe s
def Ssu (X:Cx) (r:V->Hp->(Bool->Hp->Prop)->Prop):Prop:=
 ∀(pins:List (S5×Obj)) (s:S7) (σ:St) (H:Hp) (x:V) (v:S6) (Q:Bool->Hp->Prop),Su X pins σ H s->Sa2 x v->r x H Q->
  Sh (model X.prog X.w) X.A (truthy v) (TP X pins σ Q) X.xe s
def tOp (r:R2) (ta tb:TE):TE:=λσ H Q=>ta σ H λx H1=>tb σ H1 λy H2=>r x y H2 Q
def tUn (r:V->Hp->VK->Prop) (ta:TE):TE:=λσ H Q=>ta σ H λx H1=>r x H1 Q
def rI (C:Int->Int->Prop) (g:Int->Int->V):R2:=λx y H Q=>∃i j,x= .int i/\y= .int j/\C i j/\Q (g i j) H
def rI0 (g:Int->Int->V):R2:=λx y H Q=>∃i j,x= .int i/\y= .int j/\Q (g i j) H
def rU (g:Int->V):V->Hp->VK->Prop:=λx H Q=>∃i,x= .int i/\Q (g i) H
section
variable {X:Cx} {a b c:Expr} {ta tb tc:TE} {pos:Pos}
theorem Sl4 (ha:PE X a ta) (hb:PE X b tb) {pins:List (S5×Obj)} {s:S7} {σ:St} {H:Hp} {R:V->V->Hp->Prop} (I:Su X pins σ H s)
  (h:ta σ H λx H1=>tb σ H1 λy H2=>R x y H2) {Q:S6->S7->Prop} {f:S6->S6->Sem S6}
  (hf:∀v u s2 x y H2,Su X pins σ H2 s2->Sa2 x v->Sa2 y u->R x y H2->Sh (model X.prog X.w) X.A (f v u) Q X.xe s2):
  Sh (model X.prog X.w) X.A (eval a X.env) (λv s₁=>Sh (model X.prog X.w) X.A (eval b X.env) (λu s₂=>Sh (model X.prog X.w) X.A (f v u) Q X.xe s₂) X.xe s₁) X.xe s:=by
 refine thn (ha pins s σ H _ I h) λv s1 zq=>?_
 obtain ⟨x,H1,I1,r1,q1⟩:=zq
 refine thn (hb pins s1 σ H1 _ I1 q1) λu s2 zq=>?_
 obtain ⟨y,H2,I2,r2,q2⟩:=zq
 exact hf v u s2 x y H2 I2 r1 r2 q2
theorem Jkl {op:Operator} {r:R2} (ho:OpR X (binaryOp op) r) (ha:PE X a ta) (hb:PE X b tb):PE X (.BinOp a op b pos) (tOp r ta tb):=by
 intro pins s σ H Q I h
 exact wpAny_BinOp (Sl4 ha hb I h λv u s2 x y H2 I2 rx ry q=>ho pins s2 σ H2 x y v u Q I2 rx ry q)
theorem Jv8 {op:UnaryOp} {r:V->Hp->VK->Prop} (ho:UnR X (unaryOp op) r) (ha:PE X a ta):PE X (.UnaryOp op a pos) (tUn r ta):=by
 intro pins s σ H Q I h
 exact UnaryOp_ (thn (ha pins s σ H _ I h) λv s1 ⟨x,H1,I1,r1,q1⟩=>ho pins s1 σ H1 x v Q I1 r1 q1)
theorem opI {f:S6->S6->Sem S6} {C:Int->Int->Prop} {g:Int->Int->Int}
  (rule:∀(i j:Int) (t u:Tok) (s:S7) (Q:S6->S7->Prop) (E:S6->S7->Prop),C i j->Q (.int (g i j) s.toks) {s with toks:=s.toks+1}->Sh (model X.prog X.w) X.A (f (.int i t) (.int j u)) Q E s):
  OpR X f (rI C λi j=>.int (g i j)):=by
 intro pins s σ H x y v u Q I rx ry h
 obtain ⟨i,j,rfl,rfl,hc,q⟩:=h
 obtain ⟨t,rfl⟩:=rx
 obtain ⟨t',rfl⟩:=ry
 exact rule i j t t' s _ _ hc ⟨.int (g i j),H,I.tok _,⟨_,rfl⟩,q⟩
theorem Sp7 {f:S6->S6->Sem S6} {g:Int->Int->Int}
  (rule:∀(i j:Int) (t u:Tok) (s:S7) (Q:S6->S7->Prop) (E:S6->S7->Prop),Q (.int (g i j) s.toks) {s with toks:=s.toks+1}->Sh (model X.prog X.w) X.A (f (.int i t) (.int j u)) Q E s):
  OpR X f (rI0 λi j=>.int (g i j)):=by
 intro pins s σ H x y v u Q I rx ry h
 obtain ⟨i,j,rfl,rfl,q⟩:=h
 obtain ⟨t,rfl⟩:=rx
 obtain ⟨t',rfl⟩:=ry
 exact rule i j t t' s _ _ ⟨.int (g i j),H,I.tok _,⟨_,rfl⟩,q⟩
theorem Slr {f:S6->S6->Sem S6} {g:Int->Int->Bool}
  (rule:∀(i j:Int) (t u:Tok) (s:S7) (Q:S6->S7->Prop) (E:S6->S7->Prop),Q (.bool (g i j)) s->Sh (model X.prog X.w) X.A (f (.int i t) (.int j u)) Q E s):
  OpR X f (rI0 λi j=>.bl (g i j)):=by
 intro pins s σ H x y v u Q I rx ry h
 obtain ⟨i,j,rfl,rfl,q⟩:=h
 obtain ⟨t,rfl⟩:=rx
 obtain ⟨t',rfl⟩:=ry
 exact rule i j t t' s _ _ ⟨.bl (g i j),H,I,rfl,q⟩
def Sra (i j:Int):Prop:=0<=j/\j<=1000000/\i.natAbs < 2^64
def Ske (i j:Int):Prop:=(-(2^64) < i/\i < 2^64)\/(-(2^64) < j/\j < 2^64)
theorem Ske.ok {i j:Int} (h:Ske i j):IntMulOk i j:=by
 rcases h with ⟨h1,h2⟩|⟨h1,h2⟩
 ·exact .of_left (intBits_le_64 h1 h2)
 ·exact .of_right (intBits_le_64 h1 h2)
theorem Jl0:OpR X (binaryOp .Add) (rI0 λi j=>.int (i+j)):=Sp7 λ_ _ _ _ _ _ _ q=>add_int q
theorem Jm9:OpR X (binaryOp .Sub) (rI0 λi j=>.int (i - j)):=Sp7 λ_ _ _ _ _ _ _ q=>sub_int q
theorem Jro:OpR X (binaryOp .Mult) (rI Ske λi j=>.int (i*j)):=opI λ_ _ _ _ _ _ _ hc q=>mul_int q hc.ok
theorem Jqg:OpR X (binaryOp .Mod) (rI (λ_ j=>0 < j) λi j=>.int (i%j)):=opI λi j _ _ _ _ _ hc q=>by
 have h1:(0:Int) < j:=hc
 exact mod_int' (by omega) (by rw [Int.fmod_eq_emod_of_nonneg i (by omega)];exact q)
theorem Sls:OpR X (binaryOp .Pow) (rI Sra λi j=>.int (i^j.toNat)):=opI λ_ _ _ _ _ _ _ hc q=>pow_int_small hc.1 hc.2.1 hc.2.2 q
theorem unI {f:S6->Sem S6} {g:Int->Int}
  (rule:∀(i:Int) (t:Tok) (s:S7) (Q:S6->S7->Prop) (E:S6->S7->Prop),Q (.int (g i) s.toks) {s with toks:=s.toks+1}->Sh (model X.prog X.w) X.A (f (.int i t)) Q E s):
  UnR X f (rU λi=>.int (g i)):=by
 intro pins s σ H x v Q I rx h
 obtain ⟨i,rfl,q⟩:=h
 obtain ⟨t,rfl⟩:=rx
 exact rule i t s _ _ ⟨.int (g i),H,I.tok _,⟨_,rfl⟩,q⟩
theorem Jru:UnR X (unaryOp .USub) (rU λi=>.int (-i)):=unI λ_ _ _ _ _ q=>neg_int q
end
def Spe:V->V->Bool
 | .non,.non=>true| .non,.int _=>true| .int _,.non=>true| .non,.bl _=>true| .bl _,.non=>true| .non,.str _=>true| .str _,.non=>true
 | .int _,.int _=>true| .bl _,.bl _=>true| .str _,.str _=>true| .byt _,.byt _=>true
 | .int _,.str _=>true| .str _,.int _=>true| .bl _,.str _=>true| .str _,.bl _=>true
 |_,_=>false
def rEq:R2:=λx y H Q=>Spe x y=true/\Q (.bl (decide (x=y))) H
def rNe:R2:=λx y H Q=>Spe x y=true/\Q (.bl (!decide (x=y))) H
theorem Jzg {i j:Int}:decide (V.int i=V.int j)=(i==j):=by
 rw [ybk]
 simp
theorem Yar {i j:Bool}:decide (V.bl i=V.bl j)=(i==j):=by
 rw [ybk]
 simp
theorem Jzh {i j:Str}:decide (V.str i=V.str j)=(i==j):=by
 rw [ybk]
 simp
theorem Jzf {i j:Array UInt8}:decide (V.byt i=V.byt j)=(i.toList==j.toList):=by
 rw [ybk]
 cases i
 cases j
 simp
section
variable {X:Cx} {a b c:Expr} {ta tb tc:TE} {pos:Pos}
theorem Jkz {pins:List (S5×Obj)} {σ:St} {H:Hp} {s:S7} {Q:VK} {k k':Bool} (I:Su X pins σ H s) (q:Q (.bl k) H) (e:k=k'):EP X pins σ Q (.bool k') s:=by
 subst e
 exact ⟨.bl k,H,I,rfl,q⟩
theorem Jnw:OpR X (compareOp .Eq) rEq:=by
 intro pins s σ H x y v u Q I rx ry h
 obtain ⟨hs,q⟩:=h
 cases x with
 |non=>
  cases rx
  cases y with
  |non=>cases ry;exact PySem.EqNone.eq_none_none (Jkz I q (by simp))
  |bl j=>cases ry;exact PySem.EqNone.eq_none_bool (Jkz I q (by simp))
  |int j=>obtain ⟨t',rfl⟩:=ry;exact PySem.EqNone.eq_none_int (Jkz I q (by simp))
  |str j=>obtain ⟨t',rfl⟩:=ry;exact PySem.EqNone.eq_none_str (Jkz I q (by simp))
  |_=>exact absurd (show false=true from hs) yz
 |bl i=>
  cases rx
  cases y with
  |non=>cases ry;exact PySem.EqNone.eq_bool_none (Jkz I q (by simp))
  |bl j=>cases ry;exact eq_bool (Jkz I q Yar)
  |str j=>obtain ⟨t',rfl⟩:=ry;exact PySem.EqMixed.eq_bool_str (Jkz I q (by simp))
  |_=>exact absurd (show false=true from hs) yz
 |int i=>
  obtain ⟨t,rfl⟩:=rx
  cases y with
  |non=>cases ry;exact PySem.EqNone.eq_int_none (Jkz I q (by simp))
  |int j=>obtain ⟨t',rfl⟩:=ry;exact eq_int (Jkz I q Jzg)
  |str j=>obtain ⟨t',rfl⟩:=ry;exact PySem.EqMixed.eq_int_str (Jkz I q (by simp))
  |_=>exact absurd (show false=true from hs) yz
 |str i=>
  obtain ⟨t,rfl⟩:=rx
  cases y with
  |non=>cases ry;exact PySem.EqNone.eq_str_none (Jkz I q (by simp))
  |bl j=>cases ry;exact PySem.EqMixed.eq_str_bool (Jkz I q (by simp))
  |int j=>obtain ⟨t',rfl⟩:=ry;exact PySem.EqMixed.eq_str_int (Jkz I q (by simp))
  |str j=>obtain ⟨t',rfl⟩:=ry;exact eq_str (Jkz I q Jzh)
  |_=>exact absurd (show false=true from hs) yz
 |byt i=>
  obtain ⟨t,rfl⟩:=rx
  cases y with
  |byt j=>obtain ⟨t',rfl⟩:=ry;exact PySem.W.eq_bytes (Jkz I q Jzf)
  |_=>exact absurd (show false=true from hs) yz
 |_=>cases y <;> exact absurd (show false=true from hs) yz
theorem Jzp:OpR X (compareOp .NotEq) rNe:=by
 intro pins s σ H x y v u Q I rx ry h
 obtain ⟨hs,q⟩:=h
 cases x with
 |non=>
  cases rx
  cases y with
  |non=>cases ry;exact PySem.EqNone.ne_none_none (Jkz I q (by simp))
  |bl j=>cases ry;exact PySem.EqNone.ne_none_bool (Jkz I q (by simp))
  |int j=>obtain ⟨t',rfl⟩:=ry;exact PySem.EqNone.ne_none_int (Jkz I q (by simp))
  |str j=>obtain ⟨t',rfl⟩:=ry;exact PySem.EqNone.ne_none_str (Jkz I q (by simp))
  |_=>exact absurd (show false=true from hs) yz
 |bl i=>
  cases rx
  cases y with
  |non=>cases ry;exact PySem.EqNone.ne_bool_none (Jkz I q (by simp))
  |bl j=>cases ry;exact ne_bool (Jkz I q (congrArg not Yar))
  |str j=>obtain ⟨t',rfl⟩:=ry;exact PySem.EqMixed.ne_bool_str (Jkz I q (by simp))
  |_=>exact absurd (show false=true from hs) yz
 |int i=>
  obtain ⟨t,rfl⟩:=rx
  cases y with
  |non=>cases ry;exact PySem.EqNone.ne_int_none (Jkz I q (by simp))
  |int j=>obtain ⟨t',rfl⟩:=ry;exact ne_int (Jkz I q (congrArg not Jzg))
  |str j=>obtain ⟨t',rfl⟩:=ry;exact PySem.EqMixed.ne_int_str (Jkz I q (by simp))
  |_=>exact absurd (show false=true from hs) yz
 |str i=>
  obtain ⟨t,rfl⟩:=rx
  cases y with
  |non=>cases ry;exact PySem.EqNone.ne_str_none (Jkz I q (by simp))
  |bl j=>cases ry;exact PySem.EqMixed.ne_str_bool (Jkz I q (by simp))
  |int j=>obtain ⟨t',rfl⟩:=ry;exact PySem.EqMixed.ne_str_int (Jkz I q (by simp))
  |str j=>obtain ⟨t',rfl⟩:=ry;exact ne_str (Jkz I q (congrArg not Jzh))
  |_=>exact absurd (show false=true from hs) yz
 |byt i=>
  obtain ⟨t,rfl⟩:=rx
  cases y with
  |byt j=>obtain ⟨t',rfl⟩:=ry;exact PySem.W.ne_bytes (Jkz I q (congrArg not Jzf))
  |_=>exact absurd (show false=true from hs) yz
 |_=>cases y <;> exact absurd (show false=true from hs) yz
theorem Sk8:OpR X (compareOp .Lt) (rI0 λi j=>.bl (decide (i < j))):=Slr λ_ _ _ _ _ _ _ q=>lt_int q
theorem Jnl:OpR X (compareOp .LtE) (rI0 λi j=>.bl (decide (i<=j))):=Slr λ_ _ _ _ _ _ _ q=>le_int q
theorem Jxe:OpR X (compareOp .Gt) (rI0 λi j=>.bl (decide (j < i))):=Slr λ_ _ _ _ _ _ _ q=>gt_int q
theorem Ym:OpR X (compareOp .In) (λx y H Q=>∃i j,x= .str i/\y= .str j/\Q (.bl (!(Builtin.Str.occurrences j i 0 j.length 1).isEmpty)) H):=by
 intro pins s σ H x y v u Q I rx ry h
 obtain ⟨i,j,rfl,rfl,q⟩:=h
 obtain ⟨t,rfl⟩:=rx
 obtain ⟨t',rfl⟩:=ry
 exact in_str (Jkz I q rfl)
theorem Jti:OpR X (compareOp .Is) (λx y H Q=>y= .non/\Q (.bl (decide (x= .non))) H):=by
 intro pins s σ H x y v u Q I rx ry h
 obtain ⟨rfl,q⟩:=h
 cases ry
 refine is_none_gen (Jkz I q ?_)
 cases x <;> first
  | (cases rx; rfl)
  | (obtain ⟨t,rfl⟩:=rx; rfl)
theorem Jsk:OpR X (compareOp .IsNot) (λx y H Q=>y= .non/\Q (.bl (!decide (x= .non))) H):=by
 intro pins s σ H x y v u Q I rx ry h
 obtain ⟨rfl,q⟩:=h
 cases ry
 refine isnot_none_gen (Jkz I q ?_)
 cases x <;> first
  | (cases rx; rfl)
  | (obtain ⟨t,rfl⟩:=rx; rfl)
theorem Jkt (b:Expr) {op:CmpOp} (h:op≠ .In:=by decide) (h2:op≠ .NotIn:=by decide):behindInMarks op b=false:=by
 have e1:(op==CmpOp.In)=false:=by cases op <;> first|rfl|exact absurd rfl h
 have e2:(op==CmpOp.NotIn)=false:=by cases op <;> first|rfl|exact absurd rfl h2
 cases b <;> simp [behindInMarks,e1,e2]
theorem Jmw {op:CmpOp} {r:R2} (ho:OpR X (compareOp op) r) (ha:PE X a ta) (hb:PE X b tb) (hm:behindInMarks op b=false):PE X (.Compare a [op] [b] pos) (tOp r ta tb):=by
 intro pins s σ H Q I h
 exact wpAny_Compare1 (Sl4 ha hb I h λv u s2 x y H2 I2 rx ry q=>ho pins s2 σ H2 x y v u Q I2 rx ry q) hm
def Skd (t:TE):TT:=λσ H Q=>t σ H λx H'=>∃k,x= .bl k/\Q k H'
theorem Jkr {op:CmpOp} {r:R2} (ho:OpR X (compareOp op) r) (ha:PE X a ta) (hb:PE X b tb) (hm:behindInMarks op b=false):PT X (.Compare a [op] [b] pos) (Skd (tOp r ta tb)):=by
 intro pins s σ H Q I h
 refine wpAny_isTrue_Compare1 (thn (ha pins s σ H _ I h) λv s1 ⟨x,H1,I1,r1,q1⟩=>thn (hb pins s1 σ H1 _ I1 q1) λu s2 ⟨y,H2,I2,r2,q2⟩=>
  thn (ho pins s2 σ H2 x y v u _ I2 r1 r2 q2) λc s3 ⟨z,H3,I3,r3,k,e,q3⟩=>?_) hm
 subst e
 cases r3
 exact wpAny_truthy_bool ⟨H3,I3,q3⟩
def Ycr (r r':R2) (ta tb tc:TE):TE:=λσ H Q=>ta σ H λx H1=>tb σ H1 λy H2=>r x y H2 λz H3=>∃k,z= .bl k/\
 (if k=true then tc σ H3 λw' H4=>r' y w' H4 Q else Q (.bl false) H3)
theorem Jxf {op op':CmpOp} {r r':R2} (ho:OpR X (compareOp op) r) (ho':OpR X (compareOp op') r') (ha:PE X a ta) (hb:PE X b tb) (hc:PE X c tc)
  (hm:lastMarks [op,op'] [b,c]=false:=by with_unfolding_all rfl):PE X (.Compare a [op,op'] [b,c] pos) (Ycr r r' ta tb tc):=by
 intro pins s σ H Q I h
 refine Compare_chain (thn (ha pins s σ H _ I h) λv s1 ⟨x,H1,I1,r1,q1⟩=>chain_link (thn (hb pins s1 σ H1 _ I1 q1) λu s2 ⟨y,H2,I2,r2,q2⟩=>
  thn (ho pins s2 σ H2 x y v u _ I2 r1 r2 q2) λd s3 ⟨z,H3,I3,r3,k,e,q3⟩=>?_)) hm
 subst e
 cases r3
 refine wpAny_truthy_bool ?_
 cases k with
 |false=>exact ite_ff ⟨.bl false,H3,I3,rfl,q3⟩
 |true=>exact ite_tt (chain_last (thn (hc pins s3 σ H3 _ I3 q3) λw' s4 ⟨z',H4,I4,r4,q4⟩=>ho' pins s4 σ H4 y z' u w' Q I4 r2 r4 q4))
theorem Jr4 {op op':CmpOp} {r r':R2} (ho:OpR X (compareOp op) r) (ho':OpR X (compareOp op') r') (ha:PE X a ta) (hb:PE X b tb) (hc:PE X c tc)
  (hm:lastMarks [op,op'] [b,c]=false:=by with_unfolding_all rfl):PT X (.Compare a [op,op'] [b,c] pos) (Skd (Ycr r r' ta tb tc)):=by
 intro pins s σ H Q I h
 refine isTrue_chain (thn (ha pins s σ H _ I h) λv s1 ⟨x,H1,I1,r1,q1⟩=>test_link (thn (hb pins s1 σ H1 _ I1 q1) λu s2 ⟨y,H2,I2,r2,q2⟩=>
  thn (ho pins s2 σ H2 x y v u _ I2 r1 r2 q2) λd s3 ⟨z,H3,I3,r3,k,e,q3⟩=>?_)) hm
 subst e
 cases r3
 refine wpAny_truthy_bool ?_
 cases k with
 |false=>
  obtain ⟨k',e',q'⟩:=q3
  cases e'
  exact ite_ff ⟨H3,I3,q'⟩
 |true=>
  refine ite_tt (test_last (thn (hc pins s3 σ H3 _ I3 q3) λw' s4 ⟨z',H4,I4,r4,q4⟩=>thn (ho' pins s4 σ H4 y z' u w' _ I4 r2 r4 q4) λd' s5 zq=>?_))
  obtain ⟨z2,H5,I5,r5,k2,e2,q5⟩:=zq
  subst e2
  cases r5
  exact wpAny_truthy_bool ⟨H5,I5,q5⟩
def Sos (K:Si) (x:V) (H:Hp) (k:Bool):Prop:=
 match x with
 | .non=>k=false
 | .bl b=>k=b
 | .int i=>k=(i !=0)
 | .str y=>y.length<=Sa/\k=((y.length:Int) !=0)
 | .byt y=>y.size<=Sa/\k=((y.size:Int) !=0)
 | .ref p=>(∃xs,Sw K H p xs/\k=!xs.isEmpty)\/(∃xs,SqT K H p xs/\k=!xs.isEmpty)\/∃kvs,H p=some (.dK kvs)/\k=!kvs.isEmpty
 |_=>False
theorem Jyb {κ:Type} {kvs:List (κ×V)} {vs:List (κ×S6)} (r:KV kvs vs):(!vs.isEmpty)=!kvs.isEmpty:=by
 cases r <;> rfl
theorem Jsz {xs:List V} {its:List S6} (r:Sa0 xs its):(!its.toArray.isEmpty)=!xs.isEmpty:=by
 cases r <;> simp
theorem Jq7:(Sa:Nat) < 2^63:=by rw [sizeLine_eq];decide
theorem Sml:Ssu X (λx H Q=>∃k,Sos X.K x H k/\Q k H):=by
 intro pins s σ H x v Q I rx h
 obtain ⟨k,e,q⟩:=h
 have hl:=Jq7
 have hs:Sa=16777216:=sizeLine_eq
 cases x with
 |non=>
  cases rx
  have e':k=false:=e
  subst e'
  exact truthy_none ⟨H,I,q⟩
 |bl b=>
  cases rx
  have e':k=b:=e
  subst e'
  exact wpAny_truthy_bool ⟨H,I,q⟩
 |int i=>
  obtain ⟨t,rfl⟩:=rx
  have e':k=(i !=0):=e
  subst e'
  exact PySem.P.truthy_int ⟨H,I,q⟩
 |str y=>
  obtain ⟨t,rfl⟩:=rx
  obtain ⟨hy,e'⟩:y.length<=Sa/\k=((y.length:Int) !=0):=e
  subst e'
  exact PySem.P.truthy_str (by omega) ⟨H,I.tok _,q⟩
 |byt y=>
  obtain ⟨t,rfl⟩:=rx
  obtain ⟨hy,e'⟩:y.size<=Sa/\k=((y.size:Int) !=0):=e
  subst e'
  exact PySem.W.truthy_bytes (by omega) ⟨H,I.tok _,q⟩
 |ref p=>
  cases rx
  have e':(∃xs,Sw X.K H p xs/\k=!xs.isEmpty)\/(∃xs,SqT X.K H p xs/\k=!xs.isEmpty)\/∃kvs,H p=some (.dK kvs)/\k=!kvs.isEmpty:=e
  rcases e' with ⟨xs,hx,e'⟩|⟨xs,hx,e'⟩|⟨kvs,hx,e'⟩
  ·subst e'
   obtain ⟨its,r,pl,hz⟩:=I.list hx
   have hlen:=r.length
   exact wpAny_truthy_list pl.isList (by simp only [yu];omega) ⟨H,I.tok _,by rw [Jsz r];exact q⟩
  ·subst e'
   obtain ⟨its,r,pl,hz⟩:=I.tuple hx
   have hlen:=r.length
   exact truthy_tuple pl (by simp only [yu];omega) ⟨H,I.tok _,by rw [Jsz r];exact q⟩
  ·subst e'
   obtain ⟨hz,hS,vs,r,m⟩:kvs.length<=Sa/\(p==sysModules)=false/\∃vs,KV kvs vs/\s.heap.DictOf (Jkj X.prog X.w) p vs:=I.hok p _ hx
   have hlen:kvs.length=vs.length:=Paired.length r
   exact wpAny_truthy_dict hS m (by omega) ⟨H,I.tok _,by rw [Jyb r];exact q⟩
 |_=>exact (show False from e).elim
theorem Ybv (ha:PE X a ta) (he:∀whole,isTrue a X.env whole=(do let v<-whole;standAt a.pos;holding [v] (truthy v))):
  PT X a (λσ H Q=>ta σ H λx H'=>∃k,Sos X.K x H' k/\Q k H'):=by
 intro pins s σ H Q I h
 exact isTrue_plain (thn (ha pins s σ H _ I h) λv s1 ⟨x,H1,I1,r1,q1⟩=>Sml pins s1 σ H1 x v Q I1 r1 q1) (he _)
theorem Jyo:OpR X (binaryOp .Add) (λx y H Q=>∃i j,x= .str i/\y= .str j/\i.length+j.length<=Sa/\Q (.str (i++j)) H):=by
 intro pins s σ H x y v u Q I rx ry h
 obtain ⟨i,j,rfl,rfl,hz,q⟩:=h
 obtain ⟨t,rfl⟩:=rx
 obtain ⟨t',rfl⟩:=ry
 exact add_str (λt' tk=>⟨.str (i++j),H,I.tok _,⟨_,rfl⟩,q⟩) hz
theorem Jnc {x:V} {us:List S6} (r:Sa0 [x] us):∃u,us= [u]/\Sa2 x u:=by
 cases r with
 |cons r1 r2=>cases r2;exact ⟨_,rfl,r1⟩
theorem Jy1 {x y:V} {us:List S6} (r:Sa0 [x,y] us):∃u w',us= [u,w']/\Sa2 x u/\Sa2 y w':=by
 cases r with
 |cons r1 r2=>
  cases r2 with
  |cons r3 r4=>cases r4;exact ⟨_,_,rfl,r1,r3⟩
theorem Jng (hc:X.calm=true):Jmd X (.builtin "max") (λxs H Q=>∃i j,xs= [.int i,.int j]/\Q (.int (if j > i then j else i)) H):=by
 intro pins s σ H xs us Q I r h
 obtain ⟨i,j,rfl,q⟩:=h
 obtain ⟨u,w',rfl,⟨t,rfl⟩,⟨t',rfl⟩⟩:=Jy1 r
 refine max_two_ints (I.ok.hd hc) λh' tk k=>⟨_,H,I.kept k,?_,q⟩
 by_cases hj:j > i
 ·rw [if_pos hj,if_pos hj];exact ⟨_,rfl⟩
 ·rw [if_neg hj,if_neg hj];exact ⟨_,rfl⟩
theorem Jpf (hc:X.calm=true):Jmd X (.builtin "min") (λxs H Q=>∃i j,xs= [.int i,.int j]/\Q (.int (if j < i then j else i)) H):=by
 intro pins s σ H xs us Q I r h
 obtain ⟨i,j,rfl,q⟩:=h
 obtain ⟨u,w',rfl,⟨t,rfl⟩,⟨t',rfl⟩⟩:=Jy1 r
 refine min_two_ints (I.ok.hd hc) λh' tk k=>⟨_,H,I.kept k,?_,q⟩
 by_cases hj:j < i
 ·rw [if_pos hj,if_pos hj];exact ⟨_,rfl⟩
 ·rw [if_neg hj,if_neg hj];exact ⟨_,rfl⟩
theorem Juo:Jmd X (.type "int") (λxs H Q=>(∃i,xs= [.int i]/\Q (.int i) H)\/∃k,xs= [.bl k]/\Q (.int (if k then 1 else 0)) H):=by
 intro pins s σ H xs us Q I r h
 rcases h with ⟨i,rfl,q⟩|⟨k,rfl,q⟩
 ·obtain ⟨u,rfl,t,rfl⟩:=Jnc r
  exact call_int_int ⟨.int i,H,I,⟨_,rfl⟩,q⟩
 ·obtain ⟨u,rfl,r1⟩:=Jnc r
  cases r1
  exact call_int_bool ⟨.int (if k then 1 else 0),H,I.tok _,⟨_,rfl⟩,q⟩
end
structure Sgx (h:Sg) (x dx C:S5) (mA:Str->Option S6):Prop where
 obj:h.get? x=some (Sm C dx)
 ns:h.Ns1 dx mA
 ne:dx≠x
theorem Jv2 {h:Sg} {dx:S5} {mA:Str->Option S6} (n:h.Ns1 dx mA):∃od,h.get? dx=some od/\∀name,PySem.W.lookIn name od=some (mA name):=by
 obtain ⟨o,es,ep,ho,hd,hk,_,hm⟩:=n
 refine ⟨o,ho,λname=>?_⟩
 have e:=hm name
 unfold nsFind findBy at e
 rw [<-Array.find?_toList] at e
 unfold PySem.W.lookIn
 rw [hd]
 dsimp only
 split
 ·rename_i y q
  rw [q] at e
  exact congrArg some e
 ·rename_i q
  rw [q] at e
  have a:es.toList.any (·.refKey)=false:=by
   rw [List.any_eq_false]
   intro y hy
   obtain ⟨z,t,hkey⟩:=hk y (Array.mem_toList_iff.mp hy)
   simp [DictEntry.refKey,hkey]
  have a':¬es.toList.any (·.refKey)=true:=by rw [a];exact yz
  rw [if_neg a']
  exact congrArg some e
theorem Sgx.look {h:Sg} {x dx C:S5} {mA:Str->Option S6} (I:Sgx h x dx C mA):∃od,PySem.W.InstAt h x (Sm C dx) C (some od)/\∀name,PySem.W.lookIn name od=some (mA name):=
 let ⟨od,ho,hl⟩:=Jv2 I.ns
 ⟨od,⟨I.obj,rfl,rfl,ho⟩,hl⟩
section
variable {prog:Sb} {w:Sd} {A:Se} {E:S6->S7->Prop} {s:S7} {K:Si} {x dx C f:S5} {mA:Str->Option S6} {name:Str} {v:S6}
theorem Ydi {expr:Bool} {Q:S6->S7->Prop} (X:K.In s.heap) (I:Sgx s.heap x dx C mA) (hg:PySem.W.plainGet K C name=true) (hh:PySem.W.hasDictIn K C=true)
  (ha:Sk K (.ref C) name=some none) (hv:mA name=some v) (hv':PySem.W.handedIn v=true) (h:Q v {s with toks:=s.toks+1}):
  Sh (model prog w) A (getAttr (.ref x) name expr) Q E s:=by
 obtain ⟨od,J,hl⟩:=I.look
 exact PySem.W.get_value X J (PySem.W.plainGet_of hg).1 (PySem.W.findObj_own hh ha rfl (by rw [hl,hv])) hv' h
theorem Yb3 {pl:Sem Bool} {Q:S6×List S6->S7->Prop} (X:K.In s.heap) (I:Sgx s.heap x dx C mA) (hg:PySem.W.plainGet K C name=true)
  (hf:Sk K (.ref C) name=some (some (.ref f))) (ht:PySem.W.isFn K (.ref f)=true) (hv:mA name=none) (h:Q (.ref f,[.ref x]) s):
  Sh (model prog w) A (getMethod (.ref x) name pl) Q E s:=by
 obtain ⟨od,J,hl⟩:=I.look
 exact PySem.W.method_fn X J (PySem.W.plainGet_of hg).1 (PySem.W.plainGet_of hg).2 hf (beq_iff_eq.mp ht) (by show (PySem.W.lookIn name od).map (·.isSome)=some false;rw [hl,hv];rfl) h
theorem Ye1 {ns:List Str} {Q:Unit->S7->Prop} (X:K.In s.heap) (I:Sgx s.heap x dx C mA)
  (hs:Sk K (.ref C) "__setattr__" =some (some (.builtin "object.__setattr__"))) (hp:PySem.W.plainOver K C=true) (ht:PySem.W.takerIn K C name=some none) (hh:PySem.W.hasDictIn K C=true)
  (hw:PySem.Within mA ns) (hsz:ns.length<=Sa)
  (h:∀h',Sgx h' x dx C (λy=>if y=name then some v else mA y)->yak dx s.heap h'->Q () {s with heap:=h',toks:=s.toks+2}):
  Sh (model prog w) A (setAttr (.ref x) name v) Q E s:=by
 obtain ⟨od,J,hl⟩:=I.look
 refine PySem.W.set_plain X J hs (PySem.W.osa_open (s:={s with toks:=s.toks+1}) (r:=none) X J hp ht λb=>?_)
 obtain ⟨cd,hc,hd'⟩:=PySem.W.any_some hh
 have hx:s.heap.get? x=some ⟨.ref C,some dx,.plain,#[]⟩:=I.obj
 refine S8 (S9 (S8 (S8 (wpAny_loadPart hx (S8 (PySem.W.Looks.here (s:={s with toks:=s.toks+1}) (PySem.W.looks_clsIn X hc) ?_))))))
 rw [hd']
 refine S9 (a:=some dx) (S8 (S9 (S8 ?_)))
 refine wpAny_nsSet1 (s:={s with toks:=s.toks+1}) I.ns λh' hn2 hs2=>?_
 obtain ⟨oD,esD,epD,hoD,hdD,hcD⟩:=hn2.count (PySem.Within.cons name v hw)
 refine S8 (wpAny_lookBehind hoD (by rw [hdD];exact pastItsLine_dict (yab hcD (by rw [ybg];omega))) ?_)
 exact S9 (h _ ⟨(hs2.2 _ (yi I.ne)).trans I.obj,hn2,I.ne⟩ hs2)
theorem Ybc {R:Result->S7->Prop} {vs:List S6} {kw:List (Str×S6)} (X:K.In s.heap) (hm:PySem.W.makesIn K C=true)
  (hi:Sk K (.ref C) "__init__" =some (some (.ref f))) (hf:PySem.W.typeIn K (.ref f)=some (.type "function"))
  (h:codeAny (model prog w) (A.under (.builtin "type.__call__" ⟨.ref C::vs,kw⟩)) (.call (.ref f) ⟨.ref (s.heap.objs.size+1)::vs,kw⟩) (PySem.W.InitBack (s.heap.objs.size+1) R)
   {s with heap:=(s.heap.push PySem.W.emptyDict).push (Sm C s.heap.objs.size)}):
  codeAny (model prog w) A (.call (.ref C) ⟨vs,kw⟩) R s:=by
 obtain ⟨hh,g,d,t,os⟩:=s
 exact PySem.W.make_core (PySem.W.makes_of X hm) (PySem.W.looks_findIn X hi) (λself=>PySem.W.bind_fn X self hf) (.inl rfl) h
end
def Jmp (f:Str) (v:V):List (Str×V)->List (Str×V)
 | []=>[(f,v)]
 | (g,x) :: r=>if g = f then (g,v) :: r else (g,x) :: Jmp f v r
theorem Js0 (f g:Str) (v:V):∀fs:List (Str×V),(Jmp f v fs).lookup g=if g=f then some v else fs.lookup g
 | []=>by
  show ybt g [(f,v)]=_
  by_cases h:g=f
  ·have hb:(g==f)=true:=beq_iff_eq.mpr h
   simp only [ybt,hb,if_pos h]
  ·have hb:(g==f)=false:=beq_eq_false_iff_ne.mpr h
   simp only [ybt,hb,if_neg h]
 | (k,x) :: r=>by
  have ih:=Js0 f g v r
  rw [show Jmp f v ((k,x)::r)=(if k=f then (k,v)::r else (k,x)::Jmp f v r) from rfl]
  by_cases hk:k=f
  ·rw [if_pos hk]
   by_cases h:g=k
   ·have hb:(g==k)=true:=beq_iff_eq.mpr h
    simp only [ybt,hb,if_pos (h.trans hk)]
   ·have hb:(g==k)=false:=beq_eq_false_iff_ne.mpr h
    simp only [ybt,hb,if_neg (λe:g=f=>h (e.trans hk.symm))]
  ·rw [if_neg hk]
   by_cases h:g=k
   ·have hb:(g==k)=true:=beq_iff_eq.mpr h
    simp only [ybt,hb,if_neg (λe:g=f=>hk (h.symm.trans e))]
   ·have hb:(g==k)=false:=beq_eq_false_iff_ne.mpr h
    simp only [ybt,hb]
    exact ih
theorem Jrm (f:Str) (v:V):∀fs:List (Str×V),f∈(Jmp f v fs).map (·.1)/\∀g,g∈fs.map (·.1)->g∈(Jmp f v fs).map (·.1)
 | []=>⟨by simp [Jmp],λg h=>by simp at h⟩
 | (k,x) :: r=>by
  obtain ⟨i1,i2⟩:=Jrm f v r
  rw [show Jmp f v ((k,x)::r)=(if k=f then (k,v)::r else (k,x)::Jmp f v r) from rfl]
  by_cases hk:k=f
  ·rw [if_pos hk]
   subst hk
   exact ⟨by simp,λg h=>by simpa using h⟩
  ·rw [if_neg hk]
   refine ⟨?_,λg h=>?_⟩
   ·rw [yas]
    exact yaq _ i1
   ·rw [yas] at h⊢
    rcases yn.mp h with e|e
    ·exact yn.mpr (.inl e)
    ·exact yaq _ (i2 g e)
theorem Jry (f:Str) (v:V):∀fs:List (Str×V),(Jmp f v fs).length<=fs.length+1
 | []=>by simp [Jmp]
 | (k,x) :: r=>by
  have ih:=Jry f v r
  rw [show Jmp f v ((k,x)::r)=(if k=f then (k,v)::r else (k,x)::Jmp f v r) from rfl]
  by_cases hk:k=f
  ·rw [if_pos hk,ybg,ybg];omega
  ·rw [if_neg hk,ybg,ybg];omega
theorem Sc7.some_of {v:V} {o:Option S6} (r:Sc7 (some v) o):∃u,o=some u/\Sa2 v u:=by
 cases o with
 |none=>exact (show False from r).elim
 |some u=>exact ⟨u,rfl,r⟩
theorem Sc7.none_of {o:Option S6} (r:Sc7 none o):o=none:=by
 cases o with
 |none=>rfl
 |some u=>exact (show False from r).elim
theorem Jux {v:V} {u:S6} (r:Sa2 v u):PySem.W.handedIn u=true:=by
 cases v with
 |non=>cases (show u=Value.none from r);rfl
 |bl b=>cases (show u=Value.bool b from r);rfl
 |int i=>obtain ⟨t,e⟩:=(show ∃t,u=Value.int i t from r);cases e;rfl
 |str x=>obtain ⟨t,e⟩:=(show ∃t,u=Value.str x t from r);cases e;rfl
 |byt b=>obtain ⟨t,e⟩:=(show ∃t,u=Value.bytes b t from r);cases e;rfl
 |flt b=>obtain ⟨t,e⟩:=(show ∃t,u=Value.float b t from r);cases e;rfl
 |ref a=>cases (show u=Value.ref a from r);rfl
 |ty n=>cases (show u=Value.type n from r);rfl
section
variable {P:Sb} {w:Sd} {H H':Hp} {h h':Sg} {a C dx:S5} {fs fs':List (Str×V)}
theorem Jsj (hok:HOk P w H h) (e:H a=some (.ins C dx fs)):∃mA,Sgx h a dx C mA/\(∀f,Sc7 (fs.lookup f) (mA f))/\PySem.Within mA (fs.map (·.1))/\fs.length<=1000/\H dx=some (.own a):=by
 obtain ⟨d,z,ne,ob,mA,n,r,q⟩:=(show Sa7 P w H h a (.ins C dx fs) from hok a _ e)
 exact ⟨mA,⟨ob,n,ne⟩,r,q,z,d⟩
end
structure Cls (K:Si) (C:S5):Prop where
 pg:PySem.W.plainGet K C Str.empty=true
 hd:PySem.W.hasDictIn K C=true
 po:PySem.W.plainOver K C=true
 sa:Sk K (.ref C) "__setattr__" =some (some (.builtin "object.__setattr__"))
theorem Cls.get {K:Si} {C:S5} (c:Cls K C) (f:Str):PySem.W.plainGet K C f=true:=c.pg
def NoAttr (K:Si) (C:S5) (f:Str):Prop:=Sk K (.ref C) f=some none
theorem NoAttr.taker {K:Si} {C:S5} {f:Str} (n:NoAttr K C f):PySem.W.takerIn K C f=some none:=by
 unfold PySem.W.takerIn
 rw [show Sk K (.ref C) f=some none from n]
 rfl
structure Con (K:Si) (C:S5) (f:Str) (v:V) (u:S6):Prop where
 at_:Sk K (.ref C) f=some (some u)
 rel:Sa2 v u
 get:PySem.W.specialIn K u "__get__" =some none
 cp:PySem.W.copiedNames.contains f=false
structure Joe (K:Si) (C:S5) (m:Str) (f:S5):Prop where
 at_:Sk K (.ref C) m=some (some (.ref f))
 fn:PySem.W.isFn K (.ref f)=true
 kp:PySem.W.keepIn K (.ref f)=true
section
variable {X:Cx} {pins:List (S5×Obj)} {σ:St} {H:Hp} {s:S7} {a C dx:S5} {fs:List (Str×V)} {f:Str} {v:V} {A:Se} {E:S6->S7->Prop}
theorem Jy9 {b:Bool} {Q:S6->S7->Prop} (I:Su X pins σ H s) (e:H a=some (.ins C dx fs)) (c:Cls X.K C) (n:NoAttr X.K C f) (l:fs.lookup f=some v)
  (h:∀u s',Su X pins σ H s'->Sa2 v u->Q u s'):Sh (model X.prog X.w) A (getAttr (.ref a) f b) Q E s:=by
 obtain ⟨mA,O,r,_,_,_⟩:=Jsj I.hok e
 obtain ⟨u,hu,ru⟩:=Sc7.some_of (v:=v) (o:=mA f) (by rw [<-l];exact r f)
 exact Ydi I.kIn O (c.get f) c.hd n hu (Jux ru) (h u _ (I.tok _) ru)
theorem Jsw {m:Str} {g:S5} {pl:Sem Bool} {Q:S6×List S6->S7->Prop} (I:Su X pins σ H s) (e:H a=some (.ins C dx fs)) (c:Cls X.K C) (k:Joe X.K C m g) (l:fs.lookup m=none)
  (h:Q (.ref g,[.ref a]) s):Sh (model X.prog X.w) A (getMethod (.ref a) m pl) Q E s:=by
 obtain ⟨mA,O,r,_,_,_⟩:=Jsj I.hok e
 have hn:mA m=none:=Sc7.none_of (by rw [<-l];exact r m)
 exact Yb3 I.kIn O (c.get m) k.at_ k.fn hn h
theorem Jyz {y:V} {u:S6} {Q:Unit->S7->Prop} (I:Su X pins σ H s) (e:H a=some (.ins C dx fs)) (c:Cls X.K C) (n:NoAttr X.K C f) (hl:fs.length < 1000) (ry:Sa2 y u)
  (h:∀s',Su X pins σ (upd H a (.ins C dx (Jmp f y fs))) s'->Q () s'):Sh (model X.prog X.w) A (setAttr (.ref a) f u) Q E s:=by
 obtain ⟨mA,O,r,wi,_,ho⟩:=Jsj I.hok e
 have hz:(fs.map (·.1)).length<=Sa:=by rw [yf,sizeLine_eq];omega
 refine Ye1 I.kIn O c.sa c.po n.taker c.hd wi hz λh' O' sb=>h _ ?_
 have hd:∃o,h'.get? dx=some o:=let ⟨o,_,_,e',_⟩:=O'.ns;⟨o,e'⟩
 refine I.write (x:=a) (e:=dx) (by rw [e];exact True.intro) (.inr ho) (λb q hb z=>(sb.2 b hb).trans z) hd ?_
 refine ⟨by rw [Sz O.ne];exact ho,?_,O.ne,O'.obj,_,O'.ns,λg=>?_,λg hg=>?_⟩
 ·have:=Jry f y fs;omega
 ·show Sc7 ((Jmp f y fs).lookup g) (if g=f then some u else mA g)
  rw [Js0]
  by_cases q:g=f
  ·rw [if_pos q,if_pos q];exact ry
  ·rw [if_neg q,if_neg q];exact r g
 ·by_cases q:g=f
  ·rw [q];exact (Jrm f y fs).1
  ·refine (Jrm f y fs).2 g (wi g λz=>hg ?_)
   show (if g=f then some u else mA g)=none
   rw [if_neg q];exact z
theorem Su.made (I:Su X pins σ H s):Su X pins σ (upd (upd H s.heap.objs.size (.own (s.heap.objs.size+1))) (s.heap.objs.size+1) (.ins C s.heap.objs.size []))
  {s with heap:=(s.heap.push PySem.W.emptyDict).push (Sm C s.heap.objs.size)}:=by
 have e1:(s.heap.push PySem.W.emptyDict).get? s.heap.objs.size=some PySem.W.emptyDict:=yo s.heap rfl
 have e2:((s.heap.push PySem.W.emptyDict).push (Sm C s.heap.objs.size)).get? (s.heap.objs.size+1)=some (Sm C s.heap.objs.size):=by
  have:=yo (s.heap.push PySem.W.emptyDict) (o:=Sm C s.heap.objs.size) rfl
  rwa [yaf] at this
 have e3:(s.heap.push PySem.W.emptyDict).Ns s.heap.objs.size (λ_=>none):=⟨PySem.W.emptyDict,#[],_,e1,rfl,(λe he=>absurd he (by simp)),λ_=>rfl⟩
 have I1:=I.laid (a:=s.heap.objs.size) (o:=.own (s.heap.objs.size+1)) (h':=s.heap.push PySem.W.emptyDict) (t':=s.toks) (λb u q=>yj _ q) (yg _) ⟨_,e1⟩
 refine I1.laid (a:=s.heap.objs.size+1) (o:=.ins C s.heap.objs.size []) (t':=s.toks) (λb u q=>yj _ q) (yca (yaf _ _)) ?_
 have ne:s.heap.objs.size≠s.heap.objs.size+1:=yr (ybl _)
 refine ⟨by rw [Sz ne,Sv],yam _,ne,e2,λ_=>none,(Heap.Ns1.of_empty e3).at λo q=>yj _ q,λ_=>True.intro,λy hy=>absurd rfl hy⟩
theorem Jzc {prog:Sb} {w:Sd} {env:Env} {e:Expr} {f:Str} {pos:Pos} {s:S7} {Q:S6->S7->Prop} (hb:attributeBase e f env (eval e env)=eval e env)
  (h:Sh (model prog w) A (eval e env) (λo s₁=>Sh (model prog w) A (getAttr o f true) Q E s₁) E s):Sh (model prog w) A (eval (.Attribute e f pos) env) Q E s:=
 Attribute_any_ h (by rw [arm_eval_Attribute,hb])
end
def Spn (K:Si) (ta:TE) (f:Str):TE:=λσ H Q=>ta σ H λx H1=>∃a C dx fs v,x= .ref a/\H1 a=some (.ins C dx fs)/\Cls K C/\NoAttr K C f/\fs.lookup f=some v/\Q v H1
def Sts (K:Si) (ta tv:TE) (f:Str):TS:=λD σ H=>tv σ H λy H1=>ta σ H1 λx H2=>∃a C dx fs,x= .ref a/\H2 a=some (.ins C dx fs)/\Cls K C/\NoAttr K C f/\fs.length < 1000/\
 D.nx σ (upd H2 a (.ins C dx (Jmp f y fs)))
section
variable {X:Cx} {o e value:Expr} {f:Str} {pos pos' tpos:Pos} {ta tv:TE}
theorem Jlh (he:PE X e ta) (hb:attributeBase e f X.env (eval e X.env)=eval e X.env):PE X (.Attribute e f pos) (Spn X.K ta f):=by
 intro pins s σ H Q I h
 refine Jzc hb (thn (he pins s σ H _ I h) λu s1 zq=>?_)
 obtain ⟨x,H1,I1,rx,a,C,dx,fs,v,ex,ea,c,n,l,q⟩:=zq
 subst ex
 obtain rfl:u=Value.ref a:=rx
 exact Jy9 I1 ea c n l λu' s2 I2 ru=>⟨v,H1,I2,ru,q⟩
theorem Jmo (ha:PE X o ta) (hv:PE X value tv) (hs:swapsWith value (some (.Attribute o f pos')) pos.line X.env=pure false):PS X (.Assign [.Attribute o f pos'] value pos) (Sts X.K ta tv f):=by
 intro pins s σ H D I h
 refine plainObj_wpAny_Assign_Attribute (thn (hv pins s σ H _ I h) λu s1 ⟨y,H1,I1,ry,q⟩=>thn (ha pins s1 σ H1 _ I1 q) λov s2 zq=>?_) hs
 obtain ⟨x,H2,I2,rx,a,C,dx,fs,ex,ea,c,n,l,q2⟩:=zq
 subst ex
 obtain rfl:ov=Value.ref a:=rx
 exact Jyz I2 ea c n l ry λs3 I3=>⟨σ,_,I3,q2⟩
end
section
variable {X:Cx} {pins:List (S5×Obj)} {σ:St} {H:Hp} {s:S7} {A:Se} {E:S6->S7->Prop} {Q:S6->S7->Prop} {c:S6} {b:Bool}
inductive Jrf (K:Si) (H:Hp):V->S6->Prop where
 |non:Jrf K H .non (.type "NoneType")
 |bl (x:Bool):Jrf K H (.bl x) (.type "bool")
 |int (i:Int):Jrf K H (.int i) (.type "int")
 |str (x:Str):Jrf K H (.str x) (.type "str")
 |flt (x:UInt64):Jrf K H (.flt x) (.type "float")
 |lst {a:S5} {xs:List V} (e:H a=some (.lst xs)):Jrf K H (.ref a) (.type "list")
 |frz {a:S5} {o:Obj} {xs:List V} (e:H a=some (.frz o (.lst xs))):Jrf K H (.ref a) (.type "list")
 |tup {a:S5} {xs:List V} (e:H a=some (.tup xs)):Jrf K H (.ref a) (.type "tuple")
 |dK {a:S5} {kvs:List (Key×V)} (e:H a=some (.dK kvs)):Jrf K H (.ref a) (.type "dict")
 |dT {a:S5} {kvs:List (List Key×V)} (e:H a=some (.dT kvs)):Jrf K H (.ref a) (.type "dict")
 |ins {a C dx:S5} {fs:List (Str×V)} (e:H a=some (.ins C dx fs)) (cl:Cls K C) (ha:Sk K (.ref C) "__class__" =some (some (.builtin "object.__class__")))
   (hn:PySem.W.specialIn K (.builtin "object.__class__") "__get__" =some (some (.builtin "getset_descriptor.__get__"))) (htk:PySem.W.takesIn K (.builtin "object.__class__")=some true)
   (hm:Sl K C (.type "object")=some true):Jrf K H (.ref a) (.ref C)
end
structure Sal (k:Nat) (A:Se):Prop where
 hd:A.handled=none
 dp:A.depth+3*k+5 < recursionLimit
 un:A.units+16*k+200 < cLine
theorem Sal.mono {j k:Nat} {A:Se} (r:Sal k A) (h:j<=k):Sal j A:=⟨r.hd,by have:=r.dp;omega,by have:=r.un;omega⟩
theorem Sal.deeper {k:Nat} {A:Se} (r:Sal (k+1) A) (env:Env):Sal k (A.deeper env):=
 ⟨r.hd,by have:=r.dp;show A.depth+1+3*k+5 < _;omega,by have:=r.un;show A.units+3+16*k+200 < _;omega⟩
theorem Jyd {A:Se} {C:S5} {us:List S6} {kw:List (Str×S6)}:(A.under (.builtin "type.__call__" ⟨.ref C::us,kw⟩)).depth=A.depth+1:=by
 first|rfl|simp [Around.under,Code.weight,Code.isCreation,Code.isGuard,Code.isCaller,Code.frames,Code.isFrame,guardIds]
theorem Jye {A:Se} {C:S5} {us:List S6} {kw:List (Str×S6)}:(A.under (.builtin "type.__call__" ⟨.ref C::us,kw⟩)).units=A.units+1:=by
 first|rfl|simp [Around.under,Code.cUnits,Code.frames,Code.isFrame]
theorem Sal.make {k:Nat} {A:Se} (r:Sal (k+1) A) (C:S5) (us:List S6) (kw:List (Str×S6)):Sal k (A.under (.builtin "type.__call__" ⟨.ref C::us,kw⟩)):=
 ⟨r.hd,by have:=r.dp;rw [Jyd];omega,by have:=r.un;rw [Jye];omega⟩
theorem Sal.depth {k:Nat} {A:Se} (r:Sal k A):A.depth < recursionLimit:=by have:=r.dp;omega
theorem Sal.units {k:Nat} {A:Se} (r:Sal k A):A.units+64 < cLine:=by have:=r.un;omega
def Jz3:TA:=λ_ H Q=>Q [] H
def Jmt (ta:TE) (tr:TA):TA:=λσ H Q=>ta σ H λx H1=>tr σ H1 λxs H2=>Q (x::xs) H2
section
variable {X:Cx} {e:Expr} {es:List Expr} {te:TE} {t:TA} {pos:Pos}
theorem Ss:PA X [] Jz3:=λ_ _ _ _ H Q I h=>Calls.spliced_nil ⟨[],H,I,.nil,h⟩
theorem So (ha:PE X e te) (hr:PA X es t) (hs:starEach (e::es) X.env=(false,eval e X.env)::starEach es X.env:=by rfl):PA X (e::es) (Jmt te t):=by
 intro pos pins s σ H Q I h
 rw [hs]
 show Sh _ _ (spliced ((false,eval e X.env)::backTo pos (starEach es X.env))) _ _ s
 refine Calls.spliced_cons (thn (ha pins s σ H _ I h) λu s1 zq=>?_)
 obtain ⟨x,H1,I1,r1,q1⟩:=zq
 exact thn (hr pos pins s1 σ H1 _ I1 q1) λus s2 ⟨xs,H2,I2,r2,q2⟩=>⟨x::xs,H2,I2,.cons r1 r2,q2⟩
def Su3 (t:TA):TE:=λσ H Q=>t σ H λxs H1=>xs.length<=Sa/\∀p,H1 p=none->Q (.ref p) (upd H1 p (.tup xs))
def Stz (t:TA):TE:=λσ H Q=>t σ H λxs H1=>xs.length<=Sa/\∀p,H1 p=none->Q (.ref p) (upd H1 p (.lst xs))
theorem Jm2 {x1} (h:PA X es t):PE X (.Tuple es x1 pos) (Su3 t):=by
 intro pins s σ H Q I hq
 refine wpAny_Tuple_spliced (thn (h pos pins s σ H _ I hq) λus s1 ⟨xs,H1,I1,r,z,q⟩=>⟨by rw [<-r.length];exact z,?_⟩)
 have hf:H1 s1.heap.objs.size=none:=I1.hok.fresh (yg _)
 refine ⟨.ref s1.heap.objs.size,upd H1 s1.heap.objs.size (.tup xs),I1.laid (t':=s1.toks) (λb u e=>yj _ e) (yg _) ?_,rfl,q _ hf⟩
 exact ⟨z,us,r,⟨_,yo _ rfl,rfl,_,rfl⟩⟩
theorem Jl1 (h:PA X es t):PE X (.List es pos) (Stz t):=by
 intro pins s σ H Q I hq
 refine wpAny_List_spliced (thn (h pos pins s σ H _ I hq) λus s1 ⟨xs,H1,I1,r,z,q⟩=>⟨by rw [<-r.length];exact z,?_⟩)
 have hf:H1 s1.heap.objs.size=none:=I1.hok.fresh (yg _)
 refine ⟨.ref s1.heap.objs.size,upd H1 s1.heap.objs.size (.lst xs),I1.laid (t':=s1.toks) (λb u e=>yj _ e) (yg _) ?_,rfl,q _ hf⟩
 exact ⟨z,us,0,r,yo _ rfl⟩
end
abbrev Sp:=List V->Hp->VK->XK->Prop
abbrev CXT:=List Env->Hp->S7->XK->S6->S7->Prop
structure Seo (P:Sb) (w:Sd) (K:Si) (mg:Str->Option S6) (base:Sg) (A:Se) (outer:List Env) (s:S7) (H:Hp):Prop where
 frames:A.frames=some outer
 mod:Mod K mg base
 bs:∀b o,base.get? b=some o->s.heap.get? b=some o/\H b=none
 bsz:base.objs.size<=s.heap.objs.size
 funs:s.heap.FunFrames base outer
 frf:∀b∈frs outer,H b=none
 hok:HOk P w H s.heap
 bare:AllBare s.gens
def CE (outer:List Env) (P:Sb) (w:Sd) (H:Hp) (s:S7) (Q:VK) (u:S6) (s':S7):Prop:=
 ∃v H',s'.os=s.os/\AllBare s'.gens/\Un (frs outer) [] H H' s.heap s'.heap/\HOk P w H' s'.heap/\Sa2 v u/\Q v H'
def CR (CX:CXT) (outer:List Env) (P:Sb) (w:Sd) (H:Hp) (s:S7) (Q:VK) (E:XK) (r:Result) (s':S7):Prop:=
 match r with
 | .ok (.ret u)=>CE outer P w H s Q u s'
 | .ok _=>False
 | .error e=>CX outer H s E e s'
structure Sx (P:Sb) (w:Sd) (K:Si) (mg:Str->Option S6) (base:Sg) (CX:CXT) (k:Nat) (f:S5) (fd:Sc) (ps:List Str) (sp:Sp):Prop where
 len:∀vs H Q E,sp vs H Q E->vs.length=ps.length
 run:∀(A:Se) (outer:List Env) (s:S7) (H:Hp) (args:Args) (us:List S6) (vs:List V) (Q:VK) (E:XK),Sal k A->Seo P w K mg base A outer s H->BindsTo s fd args (ps.zip us)->Sa0 vs us->sp vs H Q E->
  codeAny (model P w) A (.call (.ref f) args) (CR CX outer P w H s Q E) s
theorem Seo.make {P:Sb} {w:Sd} {K:Si} {mg:Str->Option S6} {base:Sg} {A:Se} {outer:List Env} {s:S7} {H:Hp} (e:Seo P w K mg base A outer s H) (C:S5) (us:List S6) (kw:List (Str×S6)):
  Seo P w K mg base (A.under (.builtin "type.__call__" ⟨.ref C::us,kw⟩)) outer s H:=⟨by first|exact e.frames|(simpa [Around.under,Code.envs,Code.isFrame,pushEnvs] using e.frames),e.mod,e.bs,e.bsz,e.funs,e.frf,e.hok,e.bare⟩
section
variable {X:Cx} {pins:List (S5×Obj)} {σ:St} {H:Hp} {s s':S7}
theorem Su.env0 (I:Su X pins σ H s):Seo X.prog X.w X.K X.mg X.base X.A X.stack s H:=
 ⟨I.ok.frames,I.ok.mod,I.bs,yab I.ok.bsz I.sz,I.stack,I.stkFree,I.hok,I.bare⟩
theorem Su.after {Q:VK} {u:S6} (I:Su X pins σ H s) (h:CE X.stack X.prog X.w H s Q u s'):EP X pins σ Q u s':=by
 obtain ⟨v,H',os,bare,un,hok,r,q⟩:=h
 obtain ⟨hh,g,d,t,os'⟩:=s'
 obtain rfl:os'=s.os:=os
 exact ⟨v,H',I.call (h':=hh) (g':=g) (d':=d) (t':=t) (ch:=[]) un hok bare (λb z=>absurd z (by simp)),r,q⟩
end
def Skc (sp:Sp) (dvs:List V) (E:XK) (t:TA):TE:=λσ H Q=>t σ H λvs H1=>sp (vs++dvs) H1 Q E
def Spp (C:S5) (sp:Sp) (dvs:List V) (E:XK) (t:TA):TE:=λσ H Q=>t σ H λvs H1=>∀x dx,H1 x=none->H1 dx=none->dx≠x->
 sp (.ref x::(vs++dvs)) (upd (upd H1 dx (.own x)) x (.ins C dx [])) (λv H2=>v= .non/\Q (.ref x) H2) E
def Sbk (K:Si) (fd:Sc) (ps:List Str) (ds:List S6):Prop:=
 ∀(s:S7) (us:List S6),K.In s.heap->(us++ds).length=ps.length->BindsTo s fd ⟨us,[]⟩ (ps.zip (us++ds))
theorem Sbk.all {K:Si} {fd:Sc} {ps:List Str} (h:∀us:List S6,us.length=ps.length->bindArgs fd ⟨us,[]⟩=pure (ps.zip us)):Sbk K fd ps []:=λs us _ hl=>by
 rw [yay] at hl⊢
 exact .of_eq (h us hl)
def Jsl (CX:CXT) (X:Cx) (E:XK):Prop:=∀(pins:List (S5×Obj)) (σ:St) (H:Hp) (s:S7) (e:S6) (s':S7),Su X pins σ H s->CX X.stack H s E e s'->X.xe e s'
section
variable {X:Cx} {CX:CXT} {k:Nat} {f C:S5} {fd:Sc} {ps:List Str} {sp:Sp} {dvs:List V} {ds:List S6} {E:XK} {x m:Str} {p pos apos:Pos} {e o:Expr} {es:List Expr} {ta:TE} {t:TA}
theorem Jyu {pins:List (S5×Obj)} {σ:St} {H:Hp} {s:S7} {Q:VK} {us:List S6} {vs:List V} (F:Sx X.prog X.w X.K X.mg X.base CX k f fd ps sp) (hr:Sal k X.A) (hb:Sbk X.K fd ps ds) (hd:Sa0 dvs ds) (hx:Jsl CX X E)
  (I:Su X pins σ H s) (r:Sa0 vs us) (h:sp (vs++dvs) H Q E):Sh (model X.prog X.w) X.A (call (.ref f) us) (EP X pins σ Q) X.xe s:=by
 have r2:Sa0 (vs++dvs) (us++ds):=r.append hd
 have hl:(us++ds).length=ps.length:=by rw [<-r2.length];exact F.len _ _ _ _ h
 refine wpAny_call (codeAny_mono (F.run X.A X.stack s H ⟨us,[]⟩ (us++ds) (vs++dvs) Q E hr I.env0 (hb s us I.kIn hl) r2 h) λr s' hq=>?_)
 cases r with
 |error e=>exact hx pins σ H s e s' I hq
 |ok fl=>
  cases fl with
  |ret u=>exact I.after hq
  |next=>exact False.elim hq
  |brk=>exact False.elim hq
  |cont=>exact False.elim hq
theorem Ydt (F:Sx X.prog X.w X.K X.mg X.base CX k f fd ps sp) (hr:Sal k X.A) (hg:Gl X x) (hm:X.mg x=some (.ref f)) (hk:PySem.W.keepIn X.K (.ref f)=true) (hb:Sbk X.K fd ps ds) (hd:Sa0 dvs ds) (hx:Jsl CX X E)
  (ha:PA X (e::es) t) (hdb:(x==("__debug__" :Str))=false:=by decide) (he:starEach (e::es) X.env=(false,eval e X.env)::starEach es X.env:=by rfl) (hpl:(backTo pos (starEach es X.env)).any (·.1)=false:=by rfl):
  PE X (.Call (.Name x p) (e::es) [] pos) (Skc sp dvs E t):=by
 intro pins s σ H Q I h
 refine wpAny_Call_Name_kw (Jpi I hg hm ?_ hdb)
 refine PySem.W.callWith_K (h₀:=X.base) I.ok.mod.kin hk (thn (ha pos pins s σ H _ I h) λus s1 ⟨vs,H1,I1,r,q⟩=>⟨I1.kIn,?_⟩) he hpl
 exact Jyu F hr hb hd hx I1 r q
structure Mk (K:Si) (C f:S5):Prop where
 makes:PySem.W.makesIn K C=true
 init:Sk K (.ref C) "__init__" =some (some (.ref f))
 fn:PySem.W.isFn K (.ref f)=true
 kp:PySem.W.keepIn K (.ref C)=true
theorem Ybz {pins:List (S5×Obj)} {σ:St} {H:Hp} {s:S7} {Q:VK} {us:List S6} {vs:List V} (M:Mk X.K C f) (F:Sx X.prog X.w X.K X.mg X.base CX k f fd ps sp) (hr:Sal (k+1) X.A) (hb:Sbk X.K fd ps ds) (hd:Sa0 dvs ds)
  (hx:Jsl CX X E) (I:Su X pins σ H s) (r:Sa0 vs us)
  (h:∀x dx,H x=none->H dx=none->dx≠x->sp (.ref x::(vs++dvs)) (upd (upd H dx (.own x)) x (.ins C dx [])) (λv H2=>v= .non/\Q (.ref x) H2) E):
  Sh (model X.prog X.w) X.A (call (.ref C) us) (EP X pins σ Q) X.xe s:=by
 have hq:=h (s.heap.objs.size+1) s.heap.objs.size (I.hok.fresh (Nat.le_succ _)) (I.hok.fresh (yg _)) (yr (ybl _))
 have I2:=Su.made (C:=C) I
 have r2:Sa0 (V.ref (s.heap.objs.size+1)::(vs++dvs)) (Value.ref (s.heap.objs.size+1)::(us++ds)):=.cons rfl (r.append hd)
 have hl:(Value.ref (s.heap.objs.size+1)::us++ds).length=ps.length:=by
  have e:=r2.length
  rw [F.len _ _ _ _ hq] at e
  exact e.symm
 refine wpAny_call (Ybc (f:=f) I.kIn M.makes M.init (beq_iff_eq.mp M.fn) (codeAny_mono (F.run _ X.stack _ _ ⟨Value.ref (s.heap.objs.size+1)::us,[]⟩ (Value.ref (s.heap.objs.size+1)::(us++ds)) _ _ E (hr.make C us [])
  (I2.env0.make C us []) (hb _ (Value.ref (s.heap.objs.size+1)::us) I2.kIn hl) r2 hq) λr s' hq'=>?_))
 cases r with
 |error e=>exact hx pins σ _ _ e s' I2 hq'
 |ok fl=>
  cases fl with
  |ret u=>
   obtain ⟨v,H',I3,rv,ev,q3⟩:=I2.after hq'
   subst ev
   exact ⟨rv,⟨V.ref (s.heap.objs.size+1),H',I3,rfl,q3⟩⟩
  |next=>exact False.elim hq'
  |brk=>exact False.elim hq'
  |cont=>exact False.elim hq'
theorem Jmi (M:Mk X.K C f) (F:Sx X.prog X.w X.K X.mg X.base CX k f fd ps sp) (hr:Sal (k+1) X.A) (hg:Gl X x) (hm:X.mg x=some (.ref C)) (hb:Sbk X.K fd ps ds) (hd:Sa0 dvs ds) (hx:Jsl CX X E)
  (ha:PA X (e::es) t) (hdb:(x==("__debug__" :Str))=false:=by decide) (he:starEach (e::es) X.env=(false,eval e X.env)::starEach es X.env:=by rfl) (hpl:(backTo pos (starEach es X.env)).any (·.1)=false:=by rfl):
  PE X (.Call (.Name x p) (e::es) [] pos) (Spp C sp dvs E t):=by
 intro pins s σ H Q I h
 refine wpAny_Call_Name_kw (Jpi I hg hm ?_ hdb)
 refine PySem.W.callWith_K (h₀:=X.base) I.ok.mod.kin M.kp (thn (ha pos pins s σ H _ I h) λus s1 ⟨vs,H1,I1,r,q⟩=>⟨I1.kIn,?_⟩) he hpl
 exact Ybz M F hr hb hd hx I1 r q
end
section
variable {X:Cx} {CX:CXT} {k:Nat} {f C:S5} {fd:Sc} {ps ks:List Str} {sp:Sp} {E:XK} {x m:Str} {p pos apos kpos:Pos} {e o:Expr} {es:List Expr} {kws:List Keyword} {te ta:TE} {t tk:TA} {nm:Option Str}
structure Sss (K:Si) (fd:Sc) (ps ks:List Str) (g:List S6->List S6->List S6) (gV:List V->List V->List V):Prop where
 to:∀(s:S7) (us ws:List S6),K.In s.heap->(g us ws).length=ps.length->BindsTo s fd ⟨us,ks.zip ws⟩ (ps.zip (g us ws))
 rel:∀{vs:List V} {us:List S6} {zs:List V} {ws:List S6},Sa0 vs us->Sa0 zs ws->Sa0 (gV vs zs) (g us ws)
variable {g:List S6->List S6->List S6} {gV:List V->List V->List V}
end
structure Jkd (N P:List Str) (sc:Scope):Prop where
 kind:sc.kind= .function
 co:sc.isCoroutine=false
 gen:sc.isGenerator=false
 nd:N.Nodup
 pre:N.take P.length=P
 par:∀x∈P,sc.names.lookup x=some .local\/sc.names.lookup x=some .cell
 nofree:∀y∈sc.names,y.2≠ .free
theorem Jun {kindOf:Str->Option NameKind} {x:Str}:∀{binds:List (Str×S6)} {m:Str->Option S6},(∀v,(x,v)∉binds)->bindL kindOf binds m x=m x
 | [],_,_=>rfl
 | (n,v) :: r,m,h=>by
  unfold bindL
  rw [Jun λw hw=>h w (yaq _ hw)]
  split
  ·have:x≠n:=by rintro rfl;exact h v yar
   simp [this]
  ·rfl
theorem Jum {kindOf:Str->Option NameKind} {x:Str}:∀{binds:List (Str×S6)} {m:Str->Option S6},(∀v,(x,v)∉binds)->bindC kindOf binds m x=m x
 | [],_,_=>rfl
 | (n,v) :: r,m,h=>by
  unfold bindC
  rw [Jum λw hw=>h w (yaq _ hw)]
  split
  ·rfl
  ·have:x≠n:=by rintro rfl;exact h v yar
   simp [this]
theorem Jrh {kindOf:Str->Option NameKind} {x:Str} {v:S6}:∀{P:List Str} {vs:List S6} {i:Nat} {m:Str->Option S6},P.Nodup->P[i]?=some x->vs[i]?=some v->kindOf x=some .local->
  bindL kindOf (P.zip vs) m x=some v
 | [],_,_,_,_,h,_,_=>by simp at h
 |_::_,[],_,_,_,_,h,_=>by simp at h
 |p::P,w::vs,0,m,nd,h1,h2,hk=>by
  simp at h1 h2;subst h1;subst h2
  show bindL kindOf ((p,w)::P.zip vs) m p=_
  unfold bindL
  rw [Jun λv hv=>(yaz.mp nd).1 (List.of_mem_zip hv).1,if_pos hk]
  simp
 |p::P,w::vs,i+1,m,nd,h1,h2,hk=>by
  show bindL kindOf ((p,w)::P.zip vs) m x=_
  unfold bindL
  exact Jrh (i:=i) (yaz.mp nd).2 (by simpa using h1) (by simpa using h2) hk
theorem Jrg {kindOf:Str->Option NameKind} {x:Str} {v:S6}:∀{P:List Str} {vs:List S6} {i:Nat} {m:Str->Option S6},P.Nodup->P[i]?=some x->vs[i]?=some v->kindOf x≠some .local->
  bindC kindOf (P.zip vs) m x=some v
 | [],_,_,_,_,h,_,_=>by simp at h
 |_::_,[],_,_,_,_,h,_=>by simp at h
 |p::P,w::vs,0,m,nd,h1,h2,hk=>by
  simp at h1 h2;subst h1;subst h2
  show bindC kindOf ((p,w)::P.zip vs) m p=_
  unfold bindC
  rw [Jum λv hv=>(yaz.mp nd).1 (List.of_mem_zip hv).1,if_neg hk]
  simp
 |p::P,w::vs,i+1,m,nd,h1,h2,hk=>by
  show bindC kindOf ((p,w)::P.zip vs) m x=_
  unfold bindC
  exact Jrg (i:=i) (yaz.mp nd).2 (by simpa using h1) (by simpa using h2) hk
def start (N:List Str) (vs:List V):St:=vs.map some++yw (N.length - vs.length) none
def Jvq (CX:CXT) (P:Sb) (w:Sd) (K:Si) (mg:Str->Option S6) (base:Sg) (N:List Str) (qual:Str) (scope:Scope) (f:S5) (cd:S6) (A:Se) (outer:List Env) (s:S7) (H:Hp) (E:XK):Cx where
 prog:=P
 w:=w
 K:=K
 mg:=mg
 base:=base
 A:=A.deeper (envOfC qual scope s.heap.objs.size f cd)
 N:=N
 s₀:=s
 H₀:=H
 env:=envOfC qual scope s.heap.objs.size f cd
 outer:=outer
 stack:=envOfC qual scope s.heap.objs.size f cd::outer
 ex:=[]
 calm:=true
 fn:=λ_=>true
 pn:=[]
 xe:=λe s'=>Sh (model P w) (A.deeper (envOfC qual scope s.heap.objs.size f cd)) (leaving (envOfC qual scope s.heap.objs.size f cd) e) (λ_ s''=>CX outer H s E e s'') (λe' s''=>CX outer H s E e' s'') s'
theorem Jo4 {sc:Scope} {n:Nat} {x:Str} (h:sc.names.lookup x=some .cell):∃c,(cellsFrom n sc.names []).lookup x=some c:=by
 have q:=PySem.W.cellsFrom_some sc.names n [] (.inl h)
 exact ycb.mp q
theorem Juy {CX:CXT} {P:Sb} {w:Sd} {K:Si} {mg:Str->Option S6} {base:Sg} {N ps:List Str} {qual:Str} {scope:Scope} {f:S5} {cd:S6} {A:Se} {outer:List Env} {s s1:S7} {H:Hp} {E:XK} {us:List S6} {vs:List V}
  (S:Jkd N ps scope) (hd:A.handled=none) (e0:Seo P w K mg base A outer s H) (hl:vs.length=ps.length) (r:Sa0 vs us)
  (x:InCallC s s.heap.objs.size (bindL (envOfC qual scope s.heap.objs.size f cd).kindOf (ps.zip us) λ_=>none) (cellsFrom (s.heap.objs.size+1) scope.names []) (bindC (envOfC qual scope s.heap.objs.size f cd).kindOf (ps.zip us) λ_=>none) s1):
  Su (Jvq CX P w K mg base N qual scope f cd A outer s H E) [] (start N vs) H s1:=by
 have hpl:ps.length<=N.length:=by have:=congrArg List.length S.pre;rw [yah] at this;omega
 obtain ⟨h1,tk,rfl,hk⟩:=x.done
 have noA:∀b:S5,b∉(Jvq CX P w K mg base N qual scope f cd A outer s H E).ex:=λb z=>absurd (show b∈([]:List S5) from z) (by simp)
 refine ⟨⟨e0.mod,S.kind,rfl,rfl,yg _,λy z c h1 h2=>?_,λy hy=>?_,λy c _ h=>?_,λ_=>hd,Around.frames_deeper e0.frames,.inr ⟨rfl,rfl⟩,λb z=>absurd z (noA b),e0.bs,e0.bsz,λb _ _=>noA b,λb z=>absurd z (noA b),e0.funs,e0.frf⟩,
  rfl,e0.bare,Un.kept hk,⟨_,x.toInCall.ns,λi y v h1 h2 h3=>?_⟩,λy c h=>⟨_,x.cell y c h⟩,e0.hok.fresh (yg _),λy c h=>?_,λp hp=>absurd (show p∈([]:List (S5×Obj)) from hp) (by simp),e0.hok.kept hk,?_⟩
 ·exact name_of_addr x.apart (PySem.mem_of_lookup h1) (PySem.mem_of_lookup h2)
 ·have hy:scope.names.lookup y=some .cell\/scope.names.lookup y=some .free:=hy
  rcases hy with hy|hy
  ·exact Jo4 hy
  ·exact absurd rfl (S.nofree _ (PySem.mem_of_lookup hy))
 ·exact yap (x.above y c (PySem.mem_of_lookup h))
 ·have hi:i < vs.length:=by
   unfold start at h2
   by_cases hi:i < vs.length
   ·exact hi
   ·rw [ycc (by simpa using hi)] at h2
    rw [ycw] at h2
    split at h2 <;> cases h2
  have ha:vs[i]?=some v:=by
   unfold start at h2
   rw [ycd (by simpa using hi),ym] at h2
   cases e:vs[i]? with
   |none=>rw [e] at h2;cases h2
   |some a=>rw [e] at h2;cases h2;rfl
  obtain ⟨u,hu,rv⟩:=r.get ha
  have hp:ps[i]?=some y:=by
   rw [<-S.pre,List.getElem?_take_of_lt (by omega)];exact h1
  have ndP:ps.Nodup:=by rw [<-S.pre];exact S.nd.sublist (List.take_sublist _ _)
  refine ⟨u,rv,?_⟩
  rcases S.par y (yad hp) with k|k
  ·exact .inl ⟨k,Jrh ndP hp hu k⟩
  ·obtain ⟨c,e⟩:=Jo4 (n:=s.heap.objs.size+1) k
   refine .inr ⟨.inl k,c,e,?_⟩
   have q:=x.cell y c e
   rw [Jrg ndP hp hu (by show scope.names.lookup y≠_;rw [k];decide)] at q
   exact q
 ·exact .inl (e0.hok.fresh (yap (x.above y c (PySem.mem_of_lookup h))))
 ·unfold start
  show _=N.length
  rw [yai,yf,ybv]
  omega
theorem Sjy {CX:CXT} {P:Sb} {w:Sd} {K:Si} {mg:Str->Option S6} {base:Sg} {k:Nat} {f:S5} {name qual:Str} {params:Arguments} {body:List Sf} {scope:Scope} {dV kV doc pm cdv ct oc:S6} {an od:Option S5}
  {osl:Array (Option S6)} {N ps:List Str} {sp:Sp} (lk:K.lookup f=some ⟨oc,od,.func (PySem.W.fnOf name qual params body scope dV kV doc pm an cdv ct),osl⟩) (hcd:PySem.W.codeIn K cdv qual=true) (S:Jkd N ps scope)
  (len:∀vs H Q E,sp vs H Q E->vs.length=ps.length)
  (hbody:∀(A:Se) (outer:List Env) (s:S7) (H:Hp) (vs:List V) (Q:VK) (E:XK),Sal k (A.deeper (envOfC qual scope s.heap.objs.size f cdv))->sp vs H Q E->
   ∃t,PSs (Jvq CX P w K mg base N qual scope f cdv A outer s H E) body t/\t {nx:=λ_ H'=>Q .non H',rt:=Q} (start N vs) H):
  Sx P w K mg base CX (k+1) f (PySem.W.fnOf name qual params body scope dV kV doc pm an cdv ct) ps sp:=by
 refine ⟨len,λA outer s H args us vs Q E hr e0 hb r hsp=>?_⟩
 have hl:=len _ _ _ _ hsp
 have KX:K.In s.heap:=e0.mod.kin.keeps λb o e=>(e0.bs b o e).1
 have lim:s.heap.NoLimit:=e0.mod.nolimit.keeps λb o e=>(e0.bs b o e).1
 have hkind:∀y∈ps.zip us,scope.names.lookup y.1=some .local\/(scope.names.lookup y.1=some .cell/\((cellsFrom (s.heap.objs.size+1) scope.names []).lookup y.1).isSome=true):=λ⟨n,v⟩ hy=>by
  rcases S.par n (List.of_mem_zip hy).1 with q|q
  ·exact .inl q
  ·exact .inr ⟨q,PySem.W.cellsFrom_some _ _ _ (.inl q)⟩
 refine codeAny_call_function hr.depth (KX _ _ lk) rfl S.co S.gen rfl (PySem.W.codeRec_of KX hcd) (hb _ _ _ _ ?_)
 refine wpAny_newFunctionEnv_cells S.kind hkind λenv he s1 x=>?_
 subst he
 refine ⟨lim.keeps x.toInCall.keep,codeAny_func ?_⟩
 obtain ⟨t,ht,hq⟩:=hbody A outer s H vs Q E (hr.deeper _) hsp
 have I:Su (Jvq CX P w K mg base N qual scope f cdv A outer s H E) [] (start N vs) H s1:=Juy S hr.hd e0 hl r x
 refine wpAny_mono (ht [] s1 (start N vs) H _ I hq) (λfl s' hs=>?_) λe s' hs=>hs
 have fin:∀{σ':St} {H':Hp} {v:V} {u:S6},Su (Jvq CX P w K mg base N qual scope f cdv A outer s H E) [] σ' H' s'->Sa2 v u->Q v H'->CE outer P w H s Q u s':=
  λ{σ' H' v u} J rv q=>⟨v,H',J.os,J.bare,J.base,J.hok,rv,q⟩
 cases fl with
 |ret u=>
  obtain ⟨v,σ',H',J,rv,q⟩:=hs
  exact fin J rv q
 |next=>
  obtain ⟨σ',H',J,q⟩:=hs
  exact fin (v:=V.non) (u:=Value.none) J rfl q
 |brk=>
  obtain ⟨_,_,_,q⟩:=hs
  exact False.elim q
 |cont=>
  obtain ⟨_,_,_,q⟩:=hs
  exact False.elim q
section
variable {X:Cx} {x:Str} {p pos:Pos} {e:Expr} {es:List Expr} {t:TA} {id T:String} {r:List V->Hp->VK->Prop}
def tCB (r:List V->Hp->VK->Prop) (t:TA):TE:=λσ H Q=>t σ H λvs H1=>r vs H1 Q
theorem Jke (hc:Jmd X (.builtin id) r) (hg:Gl X x) (hm:X.mg x=none) (hv:bootBuiltins x=some (.builtin id)) (ha:PA X (e::es) t) (hn:x≠"__name__" :=by decide) (hdb:(x==("__debug__" :Str))=false:=by decide)
  (he:starEach (e::es) X.env=(false,eval e X.env)::starEach es X.env:=by rfl) (hpl:(backTo pos (starEach es X.env)).any (·.1)=false:=by rfl):PE X (.Call (.Name x p) (e::es) [] pos) (tCB r t):=by
 intro pins s σ H Q I h
 refine wpAny_Call_Name_kw (Joh I hg hm hv ?_ hn hdb)
 exact PyProof.Rows.callWith_builtin1 (thn (ha pos pins s σ H _ I h) λus s1 ⟨vs,H1,I1,r1,q1⟩=>hc pins s1 σ H1 vs us Q I1 r1 q1) he hpl
theorem Jla (hc:Jmd X (.type T) r) (hg:Gl X x) (hm:X.mg x=none) (hv:bootBuiltins x=some (.type T)) (ha:PA X (e::es) t) (hn:x≠"__name__" :=by decide) (hdb:(x==("__debug__" :Str))=false:=by decide)
  (he:starEach (e::es) X.env=(false,eval e X.env)::starEach es X.env:=by rfl) (hpl:(backTo pos (starEach es X.env)).any (·.1)=false:=by rfl):PE X (.Call (.Name x p) (e::es) [] pos) (tCB r t):=by
 intro pins s σ H Q I h
 refine wpAny_Call_Name_kw (Joh I hg hm hv ?_ hn hdb)
 exact PyProof.Rows.callWith_type1 (thn (ha pos pins s σ H _ I h) λus s1 ⟨vs,H1,I1,r1,q1⟩=>hc pins s1 σ H1 vs us Q I1 r1 q1) he hpl
end
end L2
namespace HT
open PySem PyProof.Rows
section
open PySem.SeqAt
open PySem.AutoSeq1 (wpAny_loadPart')
open PySem.MeetsSeq PySem.MeetsSeq2 PySem.MeetsSeq3
end
section
variable {prog:Sb} {w:Sd} {A:Se} {E:S6->S7->Prop} {s:S7}
def sIx (n d:Nat):Option Int->Nat
 |none=>d
 |some v=>if v < 0 then (v+(n:Int)).toNat else min v.toNat n
theorem sIx_none (n d:Nat):sIx n d none=d:=rfl
theorem sIx_nat (n d k:Nat):sIx n d (some (k:Int))=min k n:=by
 show (if (k:Int) < 0 then ((k:Int)+(n:Int)).toNat else min (k:Int).toNat n)=min k n
 rw [if_neg (by omega),ybh]
end
end HT
namespace L2
open PySem PySem.Spec PyProof.Rows
abbrev TO:=St->Hp->(Option Int->Hp->Prop)->Prop
def PO (X:Cx) (e:Option Expr) (t:TO):Prop:=
 ∀(pins:List (S5×Obj)) (s:S7) (σ:St) (H:Hp) (Q:Option Int->Hp->Prop),Su X pins σ H s->t σ H Q->
  Sh (model X.prog X.w) X.A (evalPart e X.env) (λu s'=>∃o H',Su X pins σ H' s'/\IsPart u o/\Q o H') X.xe s
def Yel:TO:=λ_ H Q=>Q none H
def Spr (t:TE):TO:=λσ H Q=>t σ H λx H1=>∃i,x= .int i/\Q (some i) H1
section
variable {X:Cx} {e:Expr} {te:TE} {lo hi:Option Expr} {tl th:TO} {pos p2:Pos}
theorem Jr1:PO X none Yel:=by
 intro pins s σ H Q I h
 rw [evalPart_none]
 exact S9 ⟨none,H,I,.none,h⟩
theorem Jr2 (h:PE X e te):PO X (some e) (Spr te):=by
 intro pins s σ H Q I hw
 rw [evalPart_some]
 refine thn (h pins s σ H _ I hw) λu s1 zq=>?_
 obtain ⟨x,H1,I1,r1,q1⟩:=zq
 obtain ⟨i,rfl,q⟩:=q1
 obtain ⟨t,rfl⟩:=r1
 exact ⟨some i,H1,I1,.int i t,q⟩
def SlR (X:Cx) (r:V->Option Int->Option Int->Hp->VK->Prop):Prop:=
 ∀(pins:List (S5×Obj)) (s:S7) (σ:St) (H:Hp) (x:V) (v vl vu:S6) (lo hi:Option Int) (sl:S5) (Q:VK),Su X pins σ H s->Sa2 x v->s.heap.IsSliceOf sl vl vu .none->IsPart vl lo->IsPart vu hi->r x lo hi H Q->
  ∃T id,typeLookup (.type T) "__getitem__" =pure (some (.builtin id))/\s.TypeIs v T/\Sh (model X.prog X.w) X.A (getItem v (.ref sl)) (EP X pins σ Q) X.xe s
def tSl (r:V->Option Int->Option Int->Hp->VK->Prop) (te:TE) (tl th:TO):TE:=λσ H Q=>te σ H λx H1=>tl σ H1 λl H2=>th σ H2 λu H3=>r x l u H3 Q
theorem Jp3 {r:V->Option Int->Option Int->Hp->VK->Prop} (hr:SlR X r) (he:PE X e te) (hl:PO X lo tl) (hu:PO X hi th):PE X (.Subscript e (.Slice lo hi none p2) pos) (tSl r te tl th):=by
 intro pins s σ H Q I h
 refine Subscript_ (thn (he pins s σ H _ I h) λv s1 zq=>?_)
 obtain ⟨x,H1,I1,r1,q1⟩:=zq
 refine wpAny_Slice (thn (hl pins s1 σ H1 _ I1 q1) λvl s2 ⟨l,H2,I2,pl,q2⟩=>thn (hu pins s2 σ H2 _ I2 q2) λvu s3 zq=>?_)
 obtain ⟨u,H3,I3,pu,q3⟩:=zq
 rw [evalPart_none]
 refine S9 ?_
 have I4:Su X pins σ H3 {s3 with heap:=s3.heap.push {cls:=.type "slice",data:=.fields #[vl,vu,.none]}}:=I3.kept (t':=s3.toks) λb ob q=>yj _ q
 obtain ⟨T,id,hT,ht,hg⟩:=hr pins {s3 with heap:=s3.heap.push {cls:=.type "slice",data:=.fields #[vl,vu,.none]}} σ H3 x v vl vu l u s3.heap.objs.size Q I4 r1 (Heap.IsSliceOf.new ..) pl pu q3
 show Sh (model X.prog X.w) X.A (subscriptTail e (.Slice lo hi none p2) v (.ref s3.heap.objs.size)) (EP X pins σ Q) X.xe {s3 with heap:=s3.heap.push {cls:=.type "slice",data:=.fields #[vl,vu,.none]}}
 exact tail_any (ops:=[.ref s3.heap.objs.size,v]) ht hT hg (by with_unfolding_all rfl)
def Jm7 (xs:List V) (lo hi:Option Int):List V:=(xs.drop (HT.sIx xs.length 0 lo)).take (HT.sIx xs.length xs.length hi - HT.sIx xs.length 0 lo)
theorem Jrw (xs:List V) (lo hi:Option Int):(Jm7 xs lo hi).length<=xs.length:=by
 unfold Jm7
 rw [yah,List.length_drop]
 omega
end
def ixN (n:Nat) (i:Int):Option Nat:=if 0<=i then (if i < n then some i.toNat else none) else if -(n:Int)<=i then some (i+n).toNat else none
def atI {α:Type} (xs:List α) (i:Int):Option α:=(ixN xs.length i).bind λj=>xs[j]?
theorem Jzm {n:Nat} {i:Int} {j:Nat} (h:ixN n i=some j):seqIndex? i n=some j/\j < n/\ -(n:Int)<=i/\i < n:=by
 unfold ixN at h
 by_cases h0:0<=i
 ·rw [if_pos h0] at h
  by_cases h1:i < n
  ·rw [if_pos h1] at h
   have e:i.toNat=j:=yac.inj h
   exact ⟨by rw [seqIndex_of h0 h1,e],by omega,by omega,h1⟩
  ·rw [if_neg h1] at h;cases h
 ·rw [if_neg h0] at h
  by_cases h1: -(n:Int)<=i
  ·rw [if_pos h1] at h
   have e:(i+n).toNat=j:=yac.inj h
   exact ⟨by rw [seqIndex_neg (by omega) h1,e],by omega,h1,by omega⟩
  ·rw [if_neg h1] at h;cases h
theorem Jvk {α:Type} {xs:List α} {i:Int} {v:α} (h:atI xs i=some v):∃j,seqIndex? i xs.length=some j/\xs[j]?=some v/\j < xs.length/\ -(xs.length:Int)<=i/\i < xs.length:=by
 unfold atI at h
 cases e:ixN xs.length i with
 |none=>rw [e] at h;cases h
 |some j=>
  rw [e] at h
  obtain ⟨h1,h2,h3,h4⟩:=Jzm e
  exact ⟨j,h1,h,h2,h3,h4⟩
theorem Jl8 {α:Type} {xs:List α} {j:Nat} {v:α} (h:xs[j]?=some v):atI xs (j:Int)=some v:=by
 have hj:j < xs.length:=(yq.mp h).1
 have e:ixN xs.length (j:Int)=some j:=by
  unfold ixN
  rw [if_pos (by omega),if_pos (by omega)];simp
 unfold atI;rw [e];exact h
def Ydb (b:Expr):Prop:=∀o i,subscripted b false o i=operate [o,i] (getItem o i)
def IxR (X:Cx) (r:R2):Prop:=
 ∀(value slice:Expr) (pins:List (S5×Obj)) (s:S7) (σ:St) (H:Hp) (x y:V) (v u:S6) (Q:VK),Su X pins σ H s->Sa2 x v->Sa2 y u->r x y H Q->
  subscripted slice false v u=operate [v,u] (getItem v u)->Sh (model X.prog X.w) X.A (subscriptTail value slice v u) (EP X pins σ Q) X.xe s
def MtR (X:Cx) (id:String) (r:V->List V->Hp->VK->Prop):Prop:=
 ∀(pins:List (S5×Obj)) (s:S7) (σ:St) (H:Hp) (x:V) (xs:List V) (v:S6) (us:List S6) (Q:VK),Su X pins σ H s->Sa2 x v->Sa0 xs us->r x xs H Q->
  Sh (model X.prog X.w) X.A (call (.builtin id) (v::us)) (EP X pins σ Q) X.xe s
section
variable {X:Cx} {a b:Expr} {ta tb:TE} {pos:Pos}
theorem Jkm {r:R2} (hr:IxR X r) (ha:PE X a ta) (hb:PE X b tb) (hs:Ydb b):PE X (.Subscript a b pos) (tOp r ta tb):=by
 intro pins s σ H Q I h
 exact Subscript_ (Sl4 ha hb I h λv u s2 x y H2 I2 rx ry q=>hr a b pins s2 σ H2 x y v u Q I2 rx ry q (hs _ _))
def Spa (K:Si):R2:=λx y H Q=>∃p xs i v,x= .ref p/\y= .int i/\Sw K H p xs/\atI xs i=some v/\Q v H
def Spb (K:Si):R2:=λx y H Q=>∃p xs i v,x= .ref p/\y= .int i/\SqT K H p xs/\atI xs i=some v/\Q v H
def Sto:R2:=λx y H Q=>∃z i c,x= .str z/\y= .int i/\z.length<=Sa/\atI z.cps.toList i=some c/\Q (.str ⟨#[c]⟩) H
theorem Jks:IxR X (Spa X.K):=by
 intro value slice pins s σ H x y v u Q I rx ry h hs
 obtain ⟨p,xs,i,z,rfl,rfl,hq,he,q⟩:=h
 cases rx
 obtain ⟨t,rfl⟩:=ry
 obtain ⟨its,r,pl,hz⟩:=I.list hq
 obtain ⟨j,h1,h2,h3,h4,h5⟩:=Jvk he
 obtain ⟨w,ew,rw'⟩:=r.get h2
 have hl:=r.length
 have hn:=Jq7
 have fin:EP X pins σ Q w s:=⟨z,H,I,rw',q⟩
 by_cases h0:0<=i
 ·have hj:i.toNat=j:=by
   rw [seqIndex_of h0 h5] at h1
   exact yac.inj h1
  exact item_listR pl.isList h0 (by omega) (by rw [hj];simpa using ew) fin hs
 ·have hj:(i+(its.toArray.size:Int)).toNat=j:=by
   rw [seqIndex_neg (by omega) h4] at h1
   rw [yu,<-hl]
   exact yac.inj h1
  exact subscriptTail_builtinR (x:=w) pl.isList.typeIs slot_list_getitem.lookup
   (wpAny_getItem_list_neg (Q:=λr s'=>r=w/\EP X pins σ Q r s') pl.isList (by omega) (by rw [yu] <;> omega) (by omega) (by rw [hj];simpa using ew) ⟨rfl,fin⟩) hs
theorem Jkw:IxR X (Spb X.K):=by
 intro value slice pins s σ H x y v u Q I rx ry h hs
 obtain ⟨p,xs,i,z,rfl,rfl,hq,he,q⟩:=h
 cases rx
 obtain ⟨t,rfl⟩:=ry
 obtain ⟨its,r,pl,hz⟩:=I.tuple hq
 obtain ⟨j,h1,h2,h3,h4,h5⟩:=Jvk he
 obtain ⟨w,ew,rw'⟩:=r.get h2
 have hl:=r.length
 have hn:=Jq7
 have fin:EP X pins σ Q w s:=⟨z,H,I,rw',q⟩
 exact subscriptTail_builtinR (x:=w) pl.typeIs slot_tuple_getitem.lookup
  (getItem_tuple (j:=j) (Q:=λr s'=>r=w/\EP X pins σ Q r s') pl (by omega) (by omega) (by rw [yu,<-hl];exact h1) (by simpa using ew) ⟨rfl,fin⟩) hs
theorem Sli:IxR X Sto:=by
 intro value slice pins s σ H x y v u Q I rx ry h hs
 obtain ⟨z,i,c,rfl,rfl,hz,he,q⟩:=h
 obtain ⟨t,rfl⟩:=rx
 obtain ⟨t',rfl⟩:=ry
 obtain ⟨j,h1,h2,h3,h4,h5⟩:=Jvk he
 have hl:z.cps.toList.length=z.length:=by simp [Str.length]
 rw [hl] at h1 h4 h5
 have hn:=Jq7
 exact tail_any (typeIs_str s z t) slot_str_getitem.lookup (getItem_str (c:=c) (by
  have e1:decide (i < -(2^63:Int))=false:=decide_eq_false (by omega)
  have e2:decide (i≥2^63)=false:=decide_eq_false (by omega)
  rw [e1,e2,yce]) (by rw [h1];simpa using h2) ⟨.str ⟨#[c]⟩,H,I.tok _,⟨_,rfl⟩,q⟩) hs
theorem Jyf (its:List S6) (n j:Nat) (u:S6):Obj.mapSeq (·.setIfInBounds j u) {cls:=.type "list",data:=.seq its.toArray n}={cls:=.type "list",data:=.seq (its.set j u).toArray n}:=by
 simp [Obj.mapSeq]
theorem Su.lst {pins:List (S5×Obj)} {σ:St} {H:Hp} {s:S7} {p:S5} {xs:List V} (I:Su X pins σ H s) (h:H p=some (.lst xs)):
  ∃(its:List S6) (n:Nat),Sa0 xs its/\s.heap.get? p=some {cls:=.type "list",data:=.seq its.toArray n}/\xs.length<=Sa:=by
 obtain ⟨z,its,n,r,e⟩:=I.hok p _ h
 exact ⟨its,n,r,e,z⟩
theorem Su.lstUpd {pins:List (S5×Obj)} {σ:St} {H:Hp} {s:S7} {p:S5} {xs ys:List V} {its its':List S6} {n n':Nat} {f:Obj->Obj} (I:Su X pins σ H s) (h:H p=some (.lst xs))
  (ho:s.heap.get? p=some {cls:=.type "list",data:=.seq its.toArray n}) (hf:f {cls:=.type "list",data:=.seq its.toArray n}={cls:=.type "list",data:=.seq its'.toArray n'}) (r:Sa0 ys its') (hz:ys.length<=Sa) (t:Nat):
  Su X pins σ (upd H p (.lst ys)) {s with heap:=s.heap.update p f,toks:=t}:=by
 have e:(s.heap.update p f).get? p=some {cls:=.type "list",data:=.seq its'.toArray n'}:=by
  rw [ybn f ho (by rw [hf] <;> rfl),hf]
 refine I.write (x:=p) (e:=p) (by rw [h];trivial) (.inl rfl) (λb u hb q=>(ybb _ _ (yi hb)).trans q) ⟨_,e⟩ ?_
 exact ⟨hz,its',n',r,e⟩
def Spc:V->V->V->Hp->(Hp->Prop)->Prop:=λo i v H Q=>∃p xs k j,o= .ref p/\i= .int k/\H p=some (.lst xs)/\ixN xs.length k=some j/\Q (upd H p (.lst (xs.set j v)))
theorem Jpb:Sop X Spc:=by
 intro pins s σ H o i v ov iv u Q I ro ri rv h
 obtain ⟨p,xs,k,j,rfl,rfl,hp,hj,q⟩:=h
 cases ro
 obtain ⟨t,rfl⟩:=ri
 obtain ⟨its,n,r,ho,hz⟩:=I.lst hp
 obtain ⟨h1,h2,h3,h4⟩:=Jzm hj
 have hl:=r.length
 have hn:=Jq7
 have I':Su X pins σ (upd H p (.lst (xs.set j v))) {s with heap:=s.heap.update p (Obj.mapSeq (·.setIfInBounds j u))}:=
  I.lstUpd hp ho (Jyf its n j u) (r.set rv j) (by rw [List.length_set];exact hz) s.toks
 by_cases h0:0<=k
 ·have hk:k.toNat=j:=by
   rw [seqIndex_of h0 h4] at h1
   exact yac.inj h1
  exact PySem.W.ki_setAt ho h0 (by omega) (by rw [yu,<-hl];exact h4) (by rw [hk];exact ⟨_,I',q⟩)
 ·have hk:(k+(its.toArray.size:Int)).toNat=j:=by
   rw [seqIndex_neg (by omega) h3] at h1
   rw [yu,<-hl]
   exact yac.inj h1
  exact PySem.W.ki_setBack ho (by omega) (by rw [yu,<-hl];exact h3) (by omega) (by rw [hk];exact ⟨_,I',q⟩)
theorem Jwm (lo hi:Option Int) (n:Nat):(sliceBounds lo hi none n).1=((HT.sIx n 0 lo:Nat):Int)/\(sliceBounds lo hi none n).2.1=((HT.sIx n n hi:Nat):Int)/\(sliceBounds lo hi none n).2.2=1:=by
 refine ⟨?_,?_,rfl⟩
 ·cases lo with
  |none=>simp [sliceBounds,HT.sIx]
  |some i=>
   simp only [sliceBounds,HT.sIx,Option.getD_none,show (1:Int) > 0 by decide,if_true]
   by_cases h:i < 0
   ·simp only [h,if_true] <;> omega
   ·simp only [h,if_false] <;> omega
 ·cases hi with
  |none=>simp [sliceBounds,HT.sIx]
  |some i=>
   simp only [sliceBounds,HT.sIx,Option.getD_none,show (1:Int) > 0 by decide,if_true]
   by_cases h:i < 0
   ·simp only [h,if_true] <;> omega
   ·simp only [h,if_false] <;> omega
theorem Juk (its:List S6) (lo hi:Option Int):slicePick its.toArray lo hi none=((its.drop (HT.sIx its.length 0 lo)).take (HT.sIx its.length its.length hi - HT.sIx its.length 0 lo)).toArray:=by
 obtain ⟨h1,h2,h3⟩:=Jwm lo hi its.toArray.size
 unfold slicePick
 rw [h1,h2,h3]
 simp only [sliceRange_one,pick_run,yu] <;> rfl
def Stq (K:Si):V->Option Int->Option Int->Hp->VK->Prop:=λx lo hi H Q=>∃a xs,x= .ref a/\Sw K H a xs/\∀p,H p=none->Q (.ref p) (upd H p (.lst (Jm7 xs lo hi)))
theorem Jra:SlR X (Stq X.K):=by
 intro pins s σ H x v vl vu lo hi sl Q I rx hs pl pu h
 obtain ⟨a,xs,rfl,hx,q⟩:=h
 cases rx
 obtain ⟨its,r,ht,hz⟩:=I.list hx
 have hlen:=r.length
 refine ⟨"list",_,slot_list_getitem.lookup,ht.isList.typeIs,?_⟩
 refine wpAny_getItem_list_slice ht.isList hs pl pu .none (by simp) ?_ (by rw [yu] <;> omega)
 rw [Juk,<-hlen]
 refine ⟨.ref s.heap.objs.size,_,I.laid (t':=s.toks) (o:=.lst (Jm7 xs lo hi)) (λb ob q=>yj _ q) (yg _) ?_,rfl,q _ (I.hok.fresh (yg _))⟩
 exact ⟨yab (Jrw xs lo hi) hz,_,0,(r.drop (HT.sIx xs.length 0 lo)).take (HT.sIx xs.length xs.length hi - HT.sIx xs.length 0 lo),yo _ rfl⟩
def Jpw:V->Bool
 | .non=>true
 | .bl _=>true
 | .int _=>true
 | .str _=>true
 |_=>false
def eqV:V->V->Bool
 | .non,.non=>true
 | .bl a,.bl b=>a==b
 | .bl a,.int b=>(if a then 1 else 0)==b
 | .int a,.bl b=>a==(if b then 1 else 0)
 | .int a,.int b=>a==b
 | .str a,.str b=>a==b
 |_,_=>false
theorem Slb {A:Se} {s:S7} {y x:V} {u v:S6} (ry:Sa2 y u) (rx:Sa2 x v) (fy:Jpw y=true) (fx:Jpw x=true):SeqAt.EqAt A s u v (eqV y x):=by
 cases y with
 |non=>
  cases ry
  cases x with
  |non=>cases rx;exact SeqAt.EqAt.same _
  |bl b=>cases rx;exact SeqAt.EqAt.none_bool b
  |int b=>obtain ⟨t,rfl⟩:=rx;exact SeqAt.EqAt.none_int b t
  |str b=>obtain ⟨t,rfl⟩:=rx;exact SeqAt.EqAt.none_str b t
  |_=>exact absurd (show false=true from fx) yz
 |bl a=>
  cases ry
  cases x with
  |non=>cases rx;exact SeqAt.EqAt.bool_none a
  |bl b=>cases rx;exact SeqAt.EqAt.bool_bool a b
  |int b=>obtain ⟨t,rfl⟩:=rx;exact SeqAt.EqAt.bool_int a b t
  |str b=>obtain ⟨t,rfl⟩:=rx;exact SeqAt.EqAt.bool_str a b t
  |_=>exact absurd (show false=true from fx) yz
 |int a=>
  obtain ⟨t',rfl⟩:=ry
  cases x with
  |non=>cases rx;exact SeqAt.EqAt.int_none a t'
  |bl b=>cases rx;exact SeqAt.EqAt.int_bool a t' b
  |int b=>obtain ⟨t,rfl⟩:=rx;exact SeqAt.EqAt.int_int a t' b t
  |str b=>obtain ⟨t,rfl⟩:=rx;exact SeqAt.EqAt.int_str a t' b t
  |_=>exact absurd (show false=true from fx) yz
 |str a=>
  obtain ⟨t',rfl⟩:=ry
  cases x with
  |non=>cases rx;exact SeqAt.EqAt.str_none a t'
  |bl b=>cases rx;exact SeqAt.EqAt.str_bool a t' b
  |int b=>obtain ⟨t,rfl⟩:=rx;exact SeqAt.EqAt.str_int a t' b t
  |str b=>obtain ⟨t,rfl⟩:=rx;exact SeqAt.EqAt.str_str a t' b t
  |_=>exact absurd (show false=true from fx) yz
 |_=>exact absurd (show false=true from fy) yz
def eqU (x:V) (u:S6):Bool:=match u with
 | .none=>eqV .non x
 | .bool b=>eqV (.bl b) x
 | .int i _=>eqV (.int i) x
 | .str z _=>eqV (.str z) x
 |_=>false
theorem Yax {x y:V} {u:S6} (r:Sa2 y u) (f:Jpw y=true):eqU x u=eqV y x:=by
 cases y with
 |non=>cases r;rfl
 |bl b=>cases r;rfl
 |int i=>obtain ⟨t,rfl⟩:=r;rfl
 |str z=>obtain ⟨t,rfl⟩:=r;rfl
 |_=>exact absurd (show false=true from f) yz
theorem Jvi {x:V}:∀{xs:List V} {us:List S6},Sa0 xs us->xs.all Jpw=true->us.any (eqU x)=xs.any λy=>eqV y x
 |_,_,.nil,_=>rfl
 |y::xs,u::us,.cons r t,f=>by
  rw [List.all_cons,yag] at f
  rw [List.any_cons,List.any_cons,Yax r f.1,Jvi t f.2]
theorem Jt4 {A:Se} {s:S7} {x:V} {v:S6} (rx:Sa2 x v) (fx:Jpw x=true):∀{xs:List V} {us:List S6},Sa0 xs us->xs.all Jpw=true->∀u∈us,SeqAt.EqAt A s u v (eqU x u)
 |_,_,.nil,_=>λu hu=>by cases hu
 |y::xs,u::us,.cons r t,f=>λu' hu=>by
  rw [List.all_cons,yag] at f
  rcases yn.mp hu with rfl|hu
  ·rw [Yax r f.1];exact Slb r rx f.1 fx
  ·exact Jt4 rx fx t f.2 u' hu
def inV (x:V) (xs:List V):Bool:=xs.any λy=>eqV y x
def rIn (K:Si) (neg:Bool):R2:=λx y H Q=>∃p xs,y= .ref p/\(Sw K H p xs\/SqT K H p xs)/\Jpw x=true/\xs.all Jpw=true/\Q (.bl (if neg then !inV x xs else inV x xs)) H
theorem Yl:OpR X (compareOp .In) (rIn X.K false):=by
 intro pins s σ H x y v u Q I rx ry h
 obtain ⟨p,xs,rfl,hq,fx,fs,q⟩:=h
 cases ry
 rcases hq with hq|hq
 ·obtain ⟨its,r,pl,hz⟩:=I.list hq
  refine SeqAt.in_listAt (eqU x) pl.isList (λw hw=>Jt4 rx fx r fs w (by simpa using hw)) ⟨.bl _,H,I,rfl,?_⟩
  rw [show its.toArray.any (eqU x)=its.any (eqU x) by simp,Jvi r fs]
  exact q
 ·obtain ⟨its,r,pl,hz⟩:=I.tuple hq
  refine SeqAt.in_tupleAt (eqU x) pl (λw hw=>Jt4 rx fx r fs w (by simpa using hw)) ⟨.bl _,H,I,rfl,?_⟩
  rw [show its.toArray.any (eqU x)=its.any (eqU x) by simp,Jvi r fs]
  exact q
theorem Jkp:Jmd X (.builtin "len") (λxs H Q=>∃p ys,xs= [.ref p]/\(Sw X.K H p ys\/SqT X.K H p ys)/\Q (.int ys.length) H):=by
 intro pins s σ H xs us Q I r h
 obtain ⟨p,ys,rfl,hq,q⟩:=h
 obtain ⟨u,rfl,rx⟩:=Jnc r
 cases rx
 have hn:=Jq7
 rcases hq with hq|hq
 ·obtain ⟨its,r',pl,hz⟩:=I.list hq
  have hlen:=r'.length
  exact Calls.call_len_list pl.isList (by simp only [yu] <;> omega) ⟨.int ys.length,H,I.tok _,⟨s.toks+1,by rw [yu,hlen]⟩,q⟩
 ·obtain ⟨its,r',pl,hz⟩:=I.tuple hq
  have hlen:=r'.length
  exact len_tuple pl (by simp only [yu] <;> omega) ⟨.int ys.length,H,I.tok _,⟨s.toks+1,by rw [yu,hlen]⟩,q⟩
theorem Jvn:Jmd X (.builtin "len") (λxs H Q=>∃z,xs= [.str z]/\z.length<=Sa/\Q (.int z.length) H):=by
 intro pins s σ H xs us Q I r h
 obtain ⟨z,rfl,hz,q⟩:=h
 obtain ⟨u,rfl,t,rfl⟩:=Jnc r
 have hn:=Jq7
 exact len_str (by omega) ⟨.int z.length,H,I.tok _,⟨_,rfl⟩,q⟩
theorem Jvo:Jmd X (.type "list") (λxs H Q=>∃p ys,xs= [.ref p]/\(Sw X.K H p ys\/SqT X.K H p ys)/\∀l,H l=none->Q (.ref l) (upd H l (.lst ys))):=by
 intro pins s σ H xs us Q I r h
 obtain ⟨p,ys,rfl,hq,q⟩:=h
 obtain ⟨u,rfl,rx⟩:=Jnc r
 cases rx
 have fin:∀(its:List S6),Sa0 ys its->ys.length<=Sa->∀(h':Sg) (c':Nat),(∀b o',s.heap.get? b=some o'->h'.get? b=some o')->
   h'.get? s.heap.objs.size=some {cls:=.type "list",dict:=none,data:=.seq its.toArray c',slots:=#[]}->EP X pins σ Q (.ref s.heap.objs.size) {s with heap:=h'}:=λits r' hz h' c' kp e=>
  ⟨.ref s.heap.objs.size,_,I.laid (t':=s.toks) kp (yg _) (show Sa7 X.prog X.w _ h' _ (.lst ys) from ⟨hz,its,c',r',e⟩),rfl,q _ (I.hok.fresh (yg _))⟩
 rcases hq with hq|hq
 ·obtain ⟨its,r',pl,hz⟩:=I.list hq
  have hlen:=r'.length
  obtain ⟨o,ho,hc,n,hd⟩:=pl.isList
  exact call_list_seq p (.inl rfl) ho hc hd (λh' c' kp e=>fin its r' hz h' c' kp e) (by simp only [yu] <;> omega)
 ·obtain ⟨its,r',pl,hz⟩:=I.tuple hq
  have hlen:=r'.length
  obtain ⟨o,ho,hc,n,hd⟩:=pl
  exact call_list_seq p (.inr rfl) ho hc hd (λh' c' kp e=>fin its r' hz h' c' kp e) (by simp only [yu] <;> omega)
theorem Jlt:Jmd X (.type "tuple") (λxs H Q=>∃p ys,xs= [.ref p]/\((Sw X.K H p ys/\∀l,H l=none->Q (.ref l) (upd H l (.tup ys)))\/(SqT X.K H p ys/\Q (.ref p) H))):=by
 intro pins s σ H xs us Q I r h
 obtain ⟨p,ys,rfl,h⟩:=h
 obtain ⟨u,rfl,rx⟩:=Jnc r
 cases rx
 rcases h with ⟨hq,q⟩|⟨hq,q⟩
 ·obtain ⟨its,r',pl,hz⟩:=I.list hq
  have hlen:=r'.length
  refine call_tuple_list pl.isList (λh' kp=>?_) (by simp only [yu] <;> omega)
  have I1:Su X pins σ H {s with heap:=h'}:=I.kept (t':=s.toks) kp
  have I2:Su X pins σ (upd H h'.objs.size (.tup ys)) {s with heap:=h'.push {cls:=.type "tuple",data:=.seq its.toArray}}:=
   I1.laid (t':=s.toks) (λb o e=>yj _ e) (yg _) (show Sa7 X.prog X.w _ _ _ (.tup ys) from ⟨hz,its,r',IsTup.new _ _⟩)
  exact ⟨.ref h'.objs.size,_,I2,rfl,q _ (I1.hok.fresh (yg _))⟩
 ·obtain ⟨its,r',pl,hz⟩:=I.tuple hq
  exact call_tuple_same pl ⟨.ref p,H,I,rfl,q⟩
def tyV (K:Si) (T:String) (x:V) (H:Hp):Prop:=match x with
 | .str _=>T="str"
 | .int _=>T="int"
 | .ref p=>(T="list" /\∃xs,Sw K H p xs)\/(T="tuple" /\∃o,K.lookup p=some o/\o.cls= .type "tuple" /\o.dict=none)\/
   (T="dict" /\((∃kvs,H p=some (.dK kvs))\/∃kvs,H p=some (.dT kvs)))\/(T="set" /\∃S n,H p=some (.set S n))
 |_=>False
theorem Smn {pins:List (S5×Obj)} {σ:St} {H:Hp} {s:S7} {T:String} {x:V} {v:S6} (I:Su X pins σ H s) (r:Sa2 x v) (ty:tyV X.K T x H):
  s.TypeIs v T/\∀a,v= .ref a->∃ob,s.heap.get? a=some ob/\ob.dict=none:=by
 cases x with
 |str z=>
  obtain ⟨t,rfl⟩:=r
  cases (show T="str" from ty)
  exact ⟨typeIs_str s z t,λ_ e=>nomatch e⟩
 |int i=>
  obtain ⟨t,rfl⟩:=r
  cases (show T="int" from ty)
  exact ⟨typeIs_int s i t,λ_ e=>nomatch e⟩
 |ref p=>
  cases r
  rcases ty with ⟨rfl,xs,hq⟩|⟨rfl,o,hk,hc,hd⟩|⟨rfl,hk⟩|⟨rfl,S,n,hk⟩
  ·obtain ⟨its,_,pl,_⟩:=I.list hq
   refine ⟨pl.isList.typeIs,λa e=>?_⟩
   cases e
   obtain ⟨o,n,e,c,hd,_⟩:=pl
   exact ⟨o,e,hd⟩
  ·refine ⟨⟨o,I.kIn p o hk,hc⟩,λa e=>?_⟩
   cases e
   exact ⟨o,I.kIn _ o hk,hd⟩
  ·have z:∃o,s.heap.get? p=some o/\o.ExactDict:=by
    rcases hk with ⟨kvs,hk⟩|⟨kvs,hk⟩
    ·obtain ⟨_,_,_,_,o,_,_,e,ex,_⟩:=I.hok p _ hk
     exact ⟨o,e,ex⟩
    ·obtain ⟨_,_,_,_,o,_,_,e,ex,_⟩:=I.hok p _ hk
     exact ⟨o,e,ex⟩
   obtain ⟨o,e,ex⟩:=z
   refine ⟨⟨o,e,ex.1⟩,λa e2=>?_⟩
   cases e2
   exact ⟨o,e,ex.2.1⟩
  ·obtain ⟨o,_,_,_,e,ex,_⟩:=I.hok p _ hk
   refine ⟨⟨o,e,ex.1⟩,λa e2=>?_⟩
   cases e2
   exact ⟨o,e,ex.2.1⟩
 |_=>exact False.elim ty
def tBM (K:Si) (T:String) (r:V->List V->Hp->VK->Prop) (to:TE) (t:TA):TE:=λσ H Q=>to σ H λx H1=>tyV K T x H1/\t σ H1 λxs H2=>r x xs H2 Q
variable {o e:Expr} {es:List Expr} {to:TE} {t:TA} {name:Str} {apos cpos:Pos} {T id:String} {r:V->List V->Hp->VK->Prop}
theorem Jq0 (pa:PlainAttrs T) (slot:Slot T name id) (hty:typeOf (.builtin id)=pure (.type "method_descriptor")) (hm:MtR X id r) (ho:PE X o to) (ha:PA X (e::es) t)
  (hbase:attributeBase o name X.env (eval o X.env)=eval o X.env:=by rfl)
  (hfew:((backTo cpos (starEach (e::es) X.env)).all (λx=>!x.1)&&(backToKw cpos (keywordEach [] X.env)).all (λx=>x.1.isSome)
   &&decide ((e::es).length+([]:List Keyword).length+(if ([]:List Keyword).isEmpty then 0 else 1) < 30))=true:=by rfl)
  (hline:(apos.endLine==cpos.line)=true:=by rfl) (hs:starEach (e::es) X.env=(false,eval e X.env)::starEach es X.env:=by rfl) (hplain:(backTo cpos (starEach es X.env)).any (·.1)=false:=by rfl):
  PE X (.Call (.Attribute o name apos) (e::es) [] cpos) (tBM X.K T r to t):=by
 intro pins s σ H Q I h
 refine wpAny_Call_method_late hbase hfew hline rfl (thn (ho pins s σ H _ I h) λv s1 zq=>?_)
 obtain ⟨x,H1,I1,r1,ty,q1⟩:=zq
 obtain ⟨h1,h2⟩:=Smn I1 r1 ty
 refine ⟨T,id,pa,slot,hty,h1,h2,?_⟩
 have hA:=ha cpos pins s1 σ H1 _ I1 q1
 rw [hs] at hA⊢
 refine Calls.callWith_builtin (by show (false||(backTo cpos (starEach es X.env)).any (·.1))=false;rw [hplain] <;> rfl) (Calls.evalArgs_plain ?_)
 exact thn hA λus s2 ⟨vs,H2,I2,r2,q2⟩=>hm pins s2 σ H2 x vs v us Q I2 r1 r2 q2
end
def MtM (X:Cx) (id:String) (r:V->List V->Hp->VK->Prop):Prop:=
 ∀(pins:List (S5×Obj)) (s:S7) (σ:St) (H:Hp) (x:V) (xs:List V) (v:S6) (us:List S6) (Q:VK),Su X pins σ H s->Sa2 x v->Sa0 xs us->r x xs H Q->
  Sh (model X.prog X.w) X.A (call (.builtin id) (v::us)) (EP X pins σ Q) X.xe s
theorem Sa0.one:∀{x:V} {us:List S6},Sa0 [x] us->∃u,us= [u]/\Sa2 x u
 |_,_,.cons r .nil=>⟨_,rfl,r⟩
theorem Sa0.rep {xs:List V} {us:List S6} (h:Sa0 xs us):∀k:Nat,Sa0 (yw k xs).flatten (yw k us).flatten
 |0=>.nil
 |k+1=>by
  rw [ybw,ybw,ycs,ycs]
  exact Sa0.append h (Sa0.rep h k)
theorem Juv (its:List S6):∀(k:Nat) (acc:List S6),
  List.foldl (λx1 x2=>x1++x2) acc.toArray (yw k its.toArray)=(acc++(yw k its).flatten).toArray
 |0,acc=>by simp
 |k+1,acc=>by
  have e:acc.toArray++its.toArray=(acc++its).toArray:=by simp
  have e2:(acc++its)++(yw k its).flatten=acc++(yw (k+1) its).flatten:=by
   rw [ybw,ycs,List.append_assoc]
  rw [<-e2,<-Juv its k (acc++its),<-e,ybw,List.foldl_cons]
section
variable {X:Cx} {pins:List (S5×Obj)} {σ:St} {H:Hp} {s:S7} {l b:S5} {xs ys zs:List V}
theorem Su.lset {its its':List S6} {n:Nat} {f:Array S6->Array S6} {t':Nat} (I:Su X pins σ H s) (hH:H l=some (.lst xs))
  (e:s.heap.get? l=some {cls:=.type "list",data:=.seq its.toArray n}) (hf:f its.toArray=its'.toArray) (hv:Sa0 ys its') (hz:ys.length<=Sa):
  Su X pins σ (upd H l (.lst ys)) {s with heap:=s.heap.update l (Obj.mapSeq f),toks:=t'}:=by
 have q:=PySem.IsL.update e f
 rw [hf] at q
 refine I.write (x:=l) (e:=l) (by rw [hH];exact trivial) (.inl rfl) (λb' u hb hu=>(ybb s.heap (Obj.mapSeq f) (yi hb)).trans hu) ⟨_,q⟩ ?_
 exact ⟨hz,its',_,hv,q⟩
theorem Su.lnew {its:List S6} {t':Nat} (I:Su X pins σ H s) (hv:Sa0 ys its) (hz:ys.length<=Sa):
  Su X pins σ (upd H s.heap.objs.size (.lst ys)) {s with heap:=s.heap.push {cls:=.type "list",data:=.seq its.toArray},toks:=t'}:=
 I.laid (λ_ _ q=>yj _ q) (yg _) ⟨hz,its,0,hv,yo _ rfl⟩
theorem Su.fresh (I:Su X pins σ H s):H s.heap.objs.size=none:=I.hok.fresh (yg _)
theorem Su.lstM (I:Su X pins σ H s) (hH:H l=some (.lst xs)):xs.length<=Sa/\∃(its:List S6) (n:Nat),Sa0 xs its/\xs.length=its.length/\s.heap.get? l=some {cls:=.type "list",data:=.seq its.toArray n}:=by
 obtain ⟨z,its,n,r,e⟩:=I.hok l _ hH
 exact ⟨z,its,n,r,r.length,e⟩
theorem Ybe {n:Nat} (h:n<=Sa):Builtin.List.listTooLong n=false:=by
 unfold Builtin.List.listTooLong
 exact decide_eq_false (by omega)
end
section
variable {X:Cx}
def Ydy:V->List V->Hp->VK->Prop:=λx vs H Q=>∃l xs y,x= .ref l/\vs= [y]/\H l=some (.lst xs)/\xs.length < Sa/\Q .non (upd H l (.lst (xs++ [y])))
theorem Jlx:MtM X "list.append" Ydy:=by
 intro pins s σ H x vs v us Q I rx rv h
 obtain ⟨l,xs,y,rfl,rfl,hH,hz,q⟩:=h
 cases rx
 obtain ⟨u,rfl,ru⟩:=rv.one
 obtain ⟨z,its,n,r,hl,e⟩:=I.lstM hH
 refine call_meets F.slot_list_append ⟨_,e,rfl⟩ F.entry_list_append (F.args_list_append_2 _ _) (PySem.list_append l its.toArray n u (by rw [yu];omega)) ⟨e,?_⟩
 refine ⟨.non,_,I.lset (its':=its++ [u]) hH e (by simp) (r.append (.cons ru .nil)) ?_,rfl,q⟩
 rw [yai,List.length_singleton]
 omega
def Stm:R2:=λx y H Q=>∃l b xs zs,x= .ref l/\y= .ref b/\H l=some (.lst xs)/\H b=some (.lst zs)/\xs.length+zs.length<=Sa/\∀p,H p=none->Q (.ref p) (upd H p (.lst (xs++zs)))
theorem Jp1:OpR X (binaryOp .Add) Stm:=by
 intro pins s σ H x y v u Q I rx ry h
 obtain ⟨l,b,xs,zs,rfl,rfl,hH,hB,hz,q⟩:=h
 cases rx
 cases ry
 obtain ⟨z,its,n,r,hl,e⟩:=I.lstM hH
 obtain ⟨z2,its2,n2,r2,hl2,e2⟩:=I.lstM hB
 refine PySem.P.add_list e e2 ?_ (by rw [yu,yu];omega)
 have ea:its.toArray++its2.toArray=(its++its2).toArray:=by simp
 rw [ea]
 exact ⟨.ref _,_,I.lnew (t':=s.toks) (r.append r2) (by rw [yai];omega),rfl,q _ I.fresh⟩
def Stp:R2:=λx y H Q=>∃l k xs,x= .ref l/\y= .int k/\H l=some (.lst xs)/\ -(2^63)<=k/\k < 2^63/\xs.length*k.toNat<=Sa/\
 ∀p,H p=none->Q (.ref p) (upd H p (.lst (yw k.toNat xs).flatten))
theorem Ydn {α:Type} (xs:List α) (k:Nat):(yw k xs).flatten.length=k*xs.length:=by
 induction k with
 |zero=>simp
 |succ k ih=>rw [ybw,ycs,yai,ih,Nat.succ_mul,Nat.add_comm]
theorem Slt:OpR X (binaryOp .Mult) Stp:=by
 intro pins s σ H x y v u Q I rx ry h
 obtain ⟨l,k,xs,rfl,rfl,hH,h1,h2,hz,q⟩:=h
 cases rx
 obtain ⟨t,rfl⟩:=ry
 obtain ⟨z,its,n,r,hl,e⟩:=I.lstM hH
 have hlen:its.toArray.size*k.toNat<=Sa:=by rw [yu,<-hl];exact hz
 have hcap:¬its.toArray.size*k.toNat > (2^63 - 1)/8:=by
  have:(Sa:Nat)<=(2^63 - 1)/8:=by decide
  omega
 have hfit:¬(!Builtin.List.listFitsIndex k)=true:=by
  rw [fitsIndex_both h1 h2]
  exact yz
 have hlong:¬Builtin.List.listTooLong (its.toArray.size*k.toNat)=true:=by
  rw [Ybe hlen]
  exact yz
 have hnew:List.foldl (λx1 x2=>x1++x2) #[] (yw (if its.toArray.isEmpty=true then 0 else k.toNat) its.toArray)=(yw k.toNat its).flatten.toArray:=by
  have f0:∀m:Nat,List.foldl (λx1 x2=>x1++x2) #[] (yw m its.toArray)=(yw m its).flatten.toArray:=λm=>by
   have:=Juv its m []
   rw [List.nil_append] at this
   exact this
  rw [f0]
  cases its with
  |nil=>simp
  |cons a r'=>rw [if_neg (by simp)]
 refine wpAny_binaryOp_repeat_ref (T:="list") (U:="int") (by decide) ⟨_,e,rfl⟩ (λs'=>typeIs_int s' k t) noFill_list_mul F.fills_int_mul F.slot_int_rmul repeat_list F.slot_int_index.lookup
  (call_meets F.slot_int_rmul (typeIs_int s k t) F.entry_int_rmul (F.args_int_rmul_2 _ _) (int___rmul___int_list k t l its.toArray n)
   ⟨e,rfl,⟨_,e,rfl⟩,call_meets F.slot_list_mul ⟨_,e,rfl⟩ F.entry_list_mul (F.args_list_mul_2 _ _) (AutoListH.list___mul___list_int_3 l its.toArray n k t hfit hcap hlong) ⟨e,?_⟩⟩)
 rw [hnew]
 exact ⟨.ref _,_,I.lnew (t':=s.toks) (r.rep k.toNat) (by rw [Ydn,Nat.mul_comm];exact hz),rfl,q _ I.fresh⟩
end
section
variable {prog:Sb} {w:Sd} {A:Se} {E:S6->S7->Prop} {s:S7}
end
section
variable {X:Cx}
end
section
variable {κ:Type} [DecidableEq κ]
def Jn4 (kvs:List (κ×V)) (k:κ):Option V:=(kvs.find? λkv=>decide (kv.1=k)).map (·.2)
def Jqh (kvs:List (κ×V)) (k:κ) (v:V):List (κ×V):=
 if (kvs.any λkv=>decide (kv.1=k))=true then kvs.map (λkv=>if kv.1=k then (kv.1,v) else kv) else kvs++ [(k,v)]
theorem Yd0 {k:κ}:Jn4 ([]:List (κ×V)) k=none:=rfl
theorem Jm5 {p:κ×V} {r:List (κ×V)} {k:κ} (e:p.1=k):Jn4 (p::r) k=some p.2:=by simp [Jn4,ycj,e]
theorem Jm4 {p:κ×V} {r:List (κ×V)} {k:κ} (e:¬p.1=k):Jn4 (p::r) k=Jn4 r k:=by simp [Jn4,ycj,e]
theorem Jrc (k:κ):∀kvs:List (κ×V),(kvs.any λkv=>decide (kv.1=k))=(Jn4 kvs k).isSome
 | []=>rfl
 |p::r=>by
  rw [List.any_cons]
  by_cases e:p.1=k
  ·simp only [Jm5 e,decide_eq_true e,Bool.true_or,Option.isSome_some]
  ·rw [Jm4 e,decide_eq_false e,Bool.false_or];exact Jrc k r
theorem Jy0 (k j:κ) (y:V):∀kvs:List (κ×V),Jn4 (kvs.map λkv=>if kv.1=k then (kv.1,y) else kv) j=(Jn4 kvs j).map λx=>if j=k then y else x
 | []=>rfl
 |p::r=>by
  have ih:=Jy0 k j y r
  rw [yas]
  by_cases h:p.1=k
  ·rw [if_pos h]
   by_cases e:p.1=j
   ·rw [Jm5 (p:=(p.1,y)) e,Jm5 e,Option.map_some,if_pos (e.symm.trans h)]
   ·rw [Jm4 (p:=(p.1,y)) e,Jm4 e,ih]
  ·rw [if_neg h]
   by_cases e:p.1=j
   ·rw [Jm5 (p:=p) e,Jm5 e,Option.map_some,if_neg (λz=>h (e.trans z))]
   ·rw [Jm4 (p:=p) e,Jm4 e,ih]
theorem Jvf (k j:κ) (y:V):∀kvs:List (κ×V),Jn4 kvs k=none->Jn4 (kvs++ [(k,y)]) j=if j=k then some y else Jn4 kvs j
 | [],_=>by
  by_cases e:k=j
  ·rw [if_pos e.symm];exact Jm5 (p:=(k,y)) e
  ·rw [if_neg (λz=>e z.symm)];exact Jm4 (p:=(k,y)) e
 |p::r,hn=>by
  rw [List.cons_append]
  have hk:¬p.1=k:=λz=>by rw [Jm5 z] at hn;cases hn
  rw [Jm4 hk] at hn
  have ih:=Jvf k j y r hn
  by_cases e:p.1=j
  ·rw [Jm5 e,Jm5 e,if_neg (λz=>hk (e.trans z))]
  ·rw [Jm4 e,Jm4 e,ih]
theorem Yd1 (kvs:List (κ×V)) (k j:κ) (y:V):Jn4 (Jqh kvs k y) j=if j=k then some y else Jn4 kvs j:=by
 unfold Jqh
 by_cases a:(kvs.any λkv=>decide (kv.1=k))=true
 ·rw [if_pos a,Jy0]
  rw [Jrc] at a
  by_cases e:j=k
  ·obtain ⟨x,hx⟩:=ycb.mp a
   rw [if_pos e,e,hx,Option.map_some,if_pos rfl]
  ·rw [if_neg e]
   cases Jn4 kvs j with
   |none=>rfl
   |some x=>rw [Option.map_some,if_neg e]
 ·rw [if_neg a]
  refine Jvf k j y kvs ?_
  rw [Jrc] at a
  cases q:Jn4 kvs k with
  |none=>rfl
  |some x=>rw [q] at a;exact (a rfl).elim
theorem Jrz (kvs:List (κ×V)) (k:κ) (v:V):(Jqh kvs k v).length<=kvs.length+1:=by
 unfold Jqh
 split
 ·rw [yf];omega
 ·rw [yai,ybg,List.length_nil];omega
theorem Sc7.isSome_eq {o:Option V} {u:Option S6} (r:Sc7 o u):o.isSome=u.isSome:=by
 cases o with
 |none=>cases u with
  |none=>rfl
  |some _=>exact (show False from r).elim
 |some _=>cases u with
  |none=>exact (show False from r).elim
  |some _=>rfl
theorem KV.val {kvs:List (κ×V)} {vs:List (κ×S6)} (r:KV kvs vs) (k:κ):Sc7 (Jn4 kvs k) (valueAt vs k):=by
 unfold KV at r
 induction r with
 |nil=>exact True.intro
 | @cons p q ps qs h t ih=>
  obtain ⟨h1,h2⟩:=h
  by_cases e:p.1=k
  ·have e':q.1=k:=h1.symm.trans e
   have b:valueAt (q::qs) k=some q.2:=by simp [valueAt,ycj,e']
   rw [Jm5 e,b];exact h2
  ·have e':¬q.1=k:=λz=>e (h1.trans z)
   have b:valueAt (q::qs) k=valueAt qs k:=by simp [valueAt,ycj,e']
   rw [Jm4 e,b];exact ih
theorem KV.any {kvs:List (κ×V)} {vs:List (κ×S6)} (r:KV kvs vs) (k:κ):(kvs.any λkv=>decide (kv.1=k))=vs.any λkv=>decide (kv.1=k):=by
 unfold KV at r
 induction r with
 |nil=>rfl
 |cons h t ih=>rw [List.any_cons,List.any_cons,ih,h.1]
theorem KV.repl {kvs:List (κ×V)} {vs:List (κ×S6)} (r:KV kvs vs) (k:κ) {y:V} {u:S6} (ry:Sa2 y u):
  KV (kvs.map λkv=>if kv.1=k then (kv.1,y) else kv) (vs.map λkv=>if kv.1=k then (kv.1,u) else kv):=by
 unfold KV at r⊢
 induction r with
 |nil=>exact .nil
 | @cons p q ps qs h t ih=>
  rw [yas,yas]
  refine .cons ?_ ih
  obtain ⟨h1,h2⟩:=h
  by_cases e:p.1=k
  ·rw [if_pos e,if_pos (h1.symm.trans e)];exact ⟨h1,ry⟩
  ·rw [if_neg e,if_neg (λz=>e (h1.trans z))];exact ⟨h1,h2⟩
theorem KV.put {kvs:List (κ×V)} {vs:List (κ×S6)} (r:KV kvs vs) (k:κ) {y:V} {u:S6} (ry:Sa2 y u):KV (Jqh kvs k y) (stored vs k u):=by
 unfold Jqh stored
 rw [r.any k]
 by_cases e:(vs.any λkv=>decide (kv.1=k))=true
 ·rw [if_pos e,if_pos e];exact r.repl k ry
 ·rw [if_neg e,if_neg e];exact Paired.snoc r ⟨rfl,ry⟩
theorem KV.length {kvs:List (κ×V)} {vs:List (κ×S6)} (r:KV kvs vs):kvs.length=vs.length:=Paired.length r
end
theorem Jv0 {P:Sb} {w:Sd} {k:Key} {u:S6} (r:Sa2 (kV k) u):(Jkj P w).is k u=true:=by
 cases k with
 |inl i=>obtain ⟨t,e⟩:=(show ∃t,u=Value.int i t from r);subst e;exact Jov P w i t
 |inr x=>obtain ⟨t,e⟩:=(show ∃t,u=Value.str x t from r);subst e;exact Jow P w x t
theorem Juz {P:Sb} {w:Sd}:∀{ks:List Key} {us:List S6},Sa0 (ks.map kV) us->ItemsAre (Jkj P w) ks us
 | [],_,r=>by rw [List.map_nil] at r;cases r;exact .nil
 |k::ks,_,r=>by
  rw [yas] at r
  cases r with
  |cons h t=>exact .cons (Jv0 h) (Juz t)
abbrev KT (H:Hp):List (List Key×V)->List (List Key×S5×S6)->Prop:=Paired λp q=>p.1=q.1/\H q.2.1=some (.tup (p.1.map kV))/\Sa2 p.2 q.2.2
theorem KT.val {H:Hp} {kvs:List (List Key×V)} {xs:List (List Key×S5×S6)} (r:KT H kvs xs) (k:List Key):Sc7 (Jn4 kvs k) ((atKey xs k).map (·.2)):=by
 induction r with
 |nil=>exact True.intro
 | @cons p q ps qs h t ih=>
  obtain ⟨h1,_,h2⟩:=h
  by_cases e:p.1=k
  ·have e':q.1=k:=h1.symm.trans e
   have b:atKey (q::qs) k=some q.2:=by simp [atKey,ycj,e']
   rw [Jm5 e,b];exact h2
  ·have e':¬q.1=k:=λz=>e (h1.trans z)
   have b:atKey (q::qs) k=atKey qs k:=by simp [atKey,ycj,e']
   rw [Jm4 e,b];exact ih
theorem KT.repl {H:Hp} {kvs:List (List Key×V)} {xs:List (List Key×S5×S6)} (r:KT H kvs xs) (k:List Key) {y:V} {u:S6} (ry:Sa2 y u):
  KT H (kvs.map λkv=>if kv.1=k then (kv.1,y) else kv) (xs.map (putAt k u)):=by
 induction r with
 |nil=>exact .nil
 | @cons p q ps qs h t ih=>
  rw [yas,yas]
  refine .cons ?_ ih
  obtain ⟨h1,h2,h3⟩:=h
  unfold putAt
  by_cases e:p.1=k
  ·rw [if_pos e,if_pos (h1.symm.trans e)];exact ⟨h1,h2,ry⟩
  ·rw [if_neg e,if_neg (λz=>e (h1.trans z))];exact ⟨h1,h2,h3⟩
theorem KT.put {H:Hp} {kvs:List (List Key×V)} {xs:List (List Key×S5×S6)} (r:KT H kvs xs) (k:List Key) {b:S5} {y:V} {u:S6} (hb:H b=some (.tup (k.map kV))) (ry:Sa2 y u):
  KT H (Jqh kvs k y) (storedH xs k b u):=by
 have e:(kvs.any λkv=>decide (kv.1=k))=(atKey xs k).isSome:=by
  rw [Jrc,(r.val k).isSome_eq,Option.isSome_map]
 unfold Jqh storedH
 rw [e]
 by_cases q:(atKey xs k).isSome=true
 ·rw [if_pos q,if_pos q];exact r.repl k ry
 ·rw [if_neg q,if_neg q];exact Paired.snoc r ⟨rfl,hb,ry⟩
theorem KT.keeps {H H':Hp} {kvs:List (List Key×V)} {xs:List (List Key×S5×S6)} (r:KT H kvs xs) (ht:∀b ys,H b=some (.tup ys)->H' b=some (.tup ys)):KT H' kvs xs:=
 Paired.mapP r λ_ _ z=>⟨z.1,ht _ _ z.2.1,z.2.2⟩
section
variable {P:Sb} {w:Sd} {H:Hp} {h:Sg} {a:S5}
theorem Ska {u:HO} (ok:HOk P w H h) (e:Rd H a u):Sa7 P w H h a u:=e.ok ok
theorem Jus {kvs:List (Key×V)} (ok:HOk P w H h) (e:Rd H a (.dK kvs)):kvs.length<=Sa/\(a==sysModules)=false/\∃vs,KV kvs vs/\h.DictOf (Jkj P w) a vs:=
 show Sa7 P w H h a (.dK kvs) from Ska ok e
theorem Sox {kvs:List (Key×V)} (ok:HOk P w H h) (e:H a=some (.dK kvs)):kvs.length<=Sa/\(a==sysModules)=false/\∃vs,KV kvs vs/\h.DictOf (Jkj P w) a vs:=Jus ok (.inl e)
theorem Jvt {ks:List Key} (ok:HOk P w H h) (e:H a=some (.tup (ks.map kV))):(tupleKind (Jkj P w)).is h ks a:=by
 obtain ⟨_,its,r,o,h1,h2,n,h3⟩:=(show Sa7 P w H h a (.tup (ks.map kV)) from ok a _ e)
 exact ⟨o,its.toArray,n,h1,h2,h3,by simpa using Juz r⟩
theorem Jzi {kvs:List (List Key×V)} (ok:HOk P w H h) (e:Rd H a (.dT kvs)):kvs.length<=Sa/\(a==sysModules)=false/\
  ∃xs,KT H kvs xs/\h.DictOfH (tupleKind (Jkj P w)) a xs:=by
 obtain ⟨z,y,xs,r,o,es,ep,h1,h2,h3,h4,h5⟩:=(show Sa7 P w H h a (.dT kvs) from Ska ok e)
 refine ⟨z,y,xs,r,o,es,ep,h1,h2,h3,h4,λx hx=>?_,h5⟩
 have all:∀{l:List (List Key×V)} {m:List (List Key×S5×S6)},KT H l m->∀x∈m,(tupleKind (Jkj P w)).is h x.1 x.2.1:=by
  intro l m q
  induction q with
  |nil=>intro x hx;exact nomatch hx
  | @cons p q ps qs hq t ih=>
   intro x hx
   rcases yn.mp hx with e|hx
   ·subst e
    exact Jvt ok (by rw [<-hq.1];exact hq.2.1)
   ·exact ih x hx
 exact all r x hx
theorem Soy {kvs:List (List Key×V)} (ok:HOk P w H h) (e:H a=some (.dT kvs)):kvs.length<=Sa/\(a==sysModules)=false/\
  ∃xs,KT H kvs xs/\h.DictOfH (tupleKind (Jkj P w)) a xs:=Jzi ok (.inl e)
end
def Siw (H:Hp) (a:S5) (y:V) (r:Option V):Prop:=
 (∃kvs k,Rd H a (.dK kvs)/\y=kV k/\r=Jn4 kvs k)\/∃kvs k b,Rd H a (.dT kvs)/\y= .ref b/\H b=some (.tup (k.map kV))/\r=Jn4 kvs k
def Si2 (H:Hp) (a:S5) (y v:V) (H':Hp):Prop:=
 (∃kvs k,H a=some (.dK kvs)/\y=kV k/\kvs.length < Sa/\H'=upd H a (.dK (Jqh kvs k v)))\/
 ∃kvs k b,H a=some (.dT kvs)/\y= .ref b/\H b=some (.tup (k.map kV))/\kvs.length < Sa/\H'=upd H a (.dT (Jqh kvs k v))
theorem Si2.k {H:Hp} {a:S5} {kvs:List (Key×V)} {k:Key} {v:V} (e:H a=some (.dK kvs)) (hl:kvs.length < Sa):Si2 H a (kV k) v (upd H a (.dK (Jqh kvs k v))):=.inl ⟨kvs,k,e,rfl,hl,rfl⟩
section
variable {X:Cx} {pins:List (S5×Obj)} {σ:St} {H:Hp} {s:S7} {a:S5} {y v:V} {u r:S6} {o:Option V} {A:Se} {E:S6->S7->Prop}
theorem Su.big (I:Su X pins σ H s):sysModules < s.heap.objs.size:=by
 have h:mainGlobals < s.heap.objs.size:=(I.mod.glob.keeps I.bk).lt
 exact ybu (by decide) h
theorem St9 {Q:S6->S7->Prop} (hu:A.units+1 < cLine) (I:Su X pins σ H s) (g:Siw H a y o) (ry:Sa2 y u) (h:∀s',Su X pins σ H s'->Q (.bool o.isSome) s'):
  Sh (model X.prog X.w) A (compareOp .In u (.ref a)) Q E s:=by
 rcases g with ⟨kvs,k,e,ey,l⟩|⟨kvs,k,b,e,ey,eb,l⟩
 ·subst ey
  obtain ⟨z,hd,vs,rel,dd⟩:=Jus I.hok e
  refine wpAny_in_of (Jv0 ry) hd dd.mapOf ?_
  rw [<-(rel.val k).isSome_eq,<-l]
  exact h _ (I.tok _)
 ·subst ey
  cases (show u=Value.ref b from ry)
  obtain ⟨z,hd,xs,rel,dd⟩:=Jzi I.hok e
  refine wpAny_in_heap (tupleKind_room_in1 hu) (Jvt I.hok eb) hd dd ?_
  have q:=(rel.val k).isSome_eq
  rw [Option.isSome_map] at q
  rw [<-q,<-l]
  exact h _ (I.tok _)
theorem Yde {Q:S6->S7->Prop} (hu:A.units+1 < cLine) (I:Su X pins σ H s) (g:Siw H a y o) (ry:Sa2 y u) (h:∀s',Su X pins σ H s'->Q (.bool (!o.isSome)) s'):
  Sh (model X.prog X.w) A (compareOp .NotIn u (.ref a)) Q E s:=by
 rcases g with ⟨kvs,k,e,ey,l⟩|⟨kvs,k,b,e,ey,eb,l⟩
 ·subst ey
  obtain ⟨z,hd,vs,rel,dd⟩:=Jus I.hok e
  refine wpAny_notIn_of (Jv0 ry) hd dd.mapOf ?_
  rw [<-(rel.val k).isSome_eq,<-l]
  exact h _ (I.tok _)
 ·subst ey
  cases (show u=Value.ref b from ry)
  obtain ⟨z,hd,xs,rel,dd⟩:=Jzi I.hok e
  refine wpAny_notIn_heap (tupleKind_room_in1 hu) (Jvt I.hok eb) hd dd ?_
  have q:=(rel.val k).isSome_eq
  rw [Option.isSome_map] at q
  rw [<-q,<-l]
  exact h _ (I.tok _)
theorem Jze {h':Sg} {t':Nat} {ob:HO} (I:Su X pins σ H s) (mu:Mut (H a)) (hs:yak a s.heap h') (he:∃q,h'.get? a=some q) (new:Sa7 X.prog X.w (upd H a ob) h' a ob):
  Su X pins σ (upd H a ob) {s with heap:=h',toks:=t'}:=
 I.write (x:=a) (e:=a) mu (.inl rfl) (λb q hb z=>(hs.2 b hb).trans z) he new
theorem Yau {P:Sb} {w:Sd} {H':Hp} {h':Sg} {kvs:List (Key×V)} {vs:List (Key×S6)} (z:kvs.length<=Sa) (hd:(a==sysModules)=false) (rel:KV kvs vs) (dd:h'.DictOf (Jkj P w) a vs):
  Sa7 P w H' h' a (.dK kvs):=⟨z,hd,vs,rel,dd⟩
theorem Y6 {H':Hp} {Q:Unit->S7->Prop} (hu:A.units+1 < cLine) (I:Su X pins σ H s) (g:Si2 H a y v H') (ry:Sa2 y u) (rv:Sa2 v r) (h:∀s',Su X pins σ H' s'->Q () s'):
  Sh (model X.prog X.w) A (setItem (.ref a) u r) Q E s:=by
 rcases g with ⟨kvs,k,e,ey,l,eH⟩|⟨kvs,k,b,e,ey,eb,l,eH⟩
 ·subst ey eH
  obtain ⟨z,hd,vs,rel,dd⟩:=Sox I.hok e
  have hz:vs.length<=Sa:=by rw [<-rel.length];exact z
  have hl:(Jqh kvs k v).length<=Sa:=by have:=Jrz kvs k v;omega
  refine wpAny_setItem_pairs (hsz:=hz) (Jv0 ry) dd λh' dd' hs=>h _ ?_
  have he:∃q,h'.get? a=some q:=let ⟨q,_,_,hq,_⟩:=dd';⟨q,hq⟩
  exact Jze I (by rw [e];exact True.intro) hs he (Yau hl hd (rel.put k rv) dd')
 ·subst ey eH
  cases (show u=Value.ref b from ry)
  obtain ⟨z,hd,xs,rel,dd⟩:=Soy I.hok e
  have hz:xs.length<=Sa:=by rw [<-Paired.length rel];exact z
  have hl:(Jqh kvs k v).length<=Sa:=by have:=Jrz kvs k v;omega
  refine wpAny_setItem_heap (hsz:=hz) (tupleKind_room_in1 hu) (Jvt I.hok eb) dd λh' dd' hs=>h _ ?_
  obtain ⟨q,es,ep,hq,h2,h3,h4,_,h5⟩:=dd'
  refine Jze I (by rw [e];exact True.intro) hs ⟨q,hq⟩ ⟨hl,hd,_,(rel.put k eb rv).keeps λc ys ec=>?_,q,es,ep,hq,h2,h3,h4,h5⟩
  rw [Sz (Sk4 ec e (λz=>nomatch z))]
  exact ec
end
section
variable {X:Cx} {pins:List (S5×Obj)} {σ:St} {H:Hp} {s:S7} {a:S5} {kvs:List (Key×V)} {k:Key} {u:S6} {A:Se} {E:S6->S7->Prop}
end
def Skz (i:Expr):Prop:=∀ov iv,subscripted i false ov iv=operate [ov,iv] (getItem ov iv)
theorem Yek {prog:Sb} {w:Sd} {A:Se} {E:S6->S7->Prop} {s:S7} {env:Env} {value slice:Expr} {pos:Pos} {T id:String} {Q:S6->S7->Prop}
  (hl:typeLookup (.type T) "__getitem__" =pure (some (.builtin id))) (hs:Skz slice)
  (h:Sh (model prog w) A (eval value env) (λo s₁=>Sh (model prog w) A (eval slice env) (λi s₂=>s₂.TypeIs o T/\Sh (model prog w) A (getItem o i) Q E s₂) E s₁) E s):
  Sh (model prog w) A (eval (.Subscript value slice pos) env) Q E s:=by
 refine Subscript_ (wpAny_mono h (λo s₁ h₁=>wpAny_mono h₁ (λi s₂ h₂=>?_) λ_ _ x=>x) λ_ _ x=>x)
 obtain ⟨hT,h₂⟩:=h₂
 unfold subscriptTail
 refine S8 ?_
 rw [getitemInPython_of_ne hT.not_modules]
 refine S8 (wpAny_specialOf hT hl ?_)
 have fin:Sh (model prog w) A (subscripted slice false o i) (λr s₃=>Sh (model prog w) A (letTemporaryGo value o r >>=λ_=>pure r) Q E s₃) E s₂:=by
  rw [hs o i]
  exact wpAny_operating (wpAny_mono h₂ (λr s₃ h₃=>S8 (wpAny_letTemporaryGo (S9 h₃))) λ_ _ x=>x)
 first
  |exact S9 (S8 fin)
  |exact S8 (S9 (S8 fin))
  |exact S8 fin
def Skb (td ty tv:TE):TS:=λD σ H=>tv σ H λv H1=>td σ H1 λx H2=>ty σ H2 λy H3=>∃a H4,x= .ref a/\Si2 H3 a y v H4/\D.nx σ H4
section
variable {X:Cx} {o i e value:Expr} {pos pos' tpos:Pos} {td ty tv:TE}
theorem Ydx (hu:X.A.units+1 < cLine) (ho:PE X o td) (hi:PE X i ty) (hv:PE X value tv) (hs:swapsWith value (some (.Subscript o i pos')) pos.line X.env=pure false):
  PS X (.Assign [.Subscript o i pos'] value pos) (Skb td ty tv):=by
 intro pins s σ H D I h
 refine wpAny_Assign_Subscript (thn (hv pins s σ H _ I h) λr s1 ⟨v,H1,I1,rv,q1⟩=>thn (ho pins s1 σ H1 _ I1 q1) λu s2 ⟨x,H2,I2,rx,q2⟩=>thn (hi pins s2 σ H2 _ I2 q2) λiv s3 zq=>?_) hs
 obtain ⟨y,H3,I3,ry,a,H4,ex,g,q3⟩:=zq
 subst ex
 obtain rfl:u=Value.ref a:=rx
 exact Y6 hu I3 g ry rv λs4 I4=>⟨σ,H4,I4,q3⟩
end
theorem Yat {P:Sb} {w:Sd} {H:Hp} (h:Sg) (hb:sysModules < h.objs.size):Sa7 P w H (h.push {cls:=.type "dict",data:=.dict #[]}) h.objs.size (.dK []):=
 ⟨yam _,beq_eq_false_iff_ne.mpr (yi (yr hb)),[],.nil,Heap.DictOf.new h⟩
def Smh:TE:=λ_ H Q=>∀p,H p=none->Q (.ref p) (upd H p (.dK []))
section
variable {X:Cx} {pos:Pos}
theorem Ybm:PE X (.Dict [] [] pos) Smh:=λpins s σ H Q I h=>
 wpAny_Dict_empty ⟨.ref s.heap.objs.size,_,I.laid (a:=s.heap.objs.size) (o:=.dK []) (t':=s.toks) (λ_ _ q=>yj _ q) (yg _) (Yat s.heap I.big),rfl,h _ (I.hok.fresh (yg _))⟩
end
structure M1 (X:Cx) (o:Expr) (m:Str) (apos:Pos) (e:Expr) (cpos:Pos):Prop where
 base:attributeBase o m X.env (eval o X.env)=eval o X.env
 few:((backTo cpos (starEach [e] X.env)).all (λx=>!x.1)&&(backToKw cpos (keywordEach [] X.env)).all (λx=>x.1.isSome)
  &&decide (([e]:List Expr).length+([]:List Keyword).length+(if ([]:List Keyword).isEmpty then 0 else 1) < 30))=true
 line:(apos.endLine==cpos.line)=true
 trees:backTo cpos (starEach [e] X.env)= [(false,eval e X.env)]
structure M2 (X:Cx) (o:Expr) (m:Str) (apos:Pos) (e f:Expr) (cpos:Pos):Prop where
 base:attributeBase o m X.env (eval o X.env)=eval o X.env
 few:((backTo cpos (starEach [e,f] X.env)).all (λx=>!x.1)&&(backToKw cpos (keywordEach [] X.env)).all (λx=>x.1.isSome)
  &&decide (([e,f]:List Expr).length+([]:List Keyword).length+(if ([]:List Keyword).isEmpty then 0 else 1) < 30))=true
 line:(apos.endLine==cpos.line)=true
 trees:backTo cpos (starEach [e,f] X.env)= [(false,eval e X.env),(false,eval f X.env)]
def IsD (H:Hp) (a:S5):Prop:=(∃kvs,Rd H a (.dK kvs))\/∃kvs,Rd H a (.dT kvs)
theorem Yb8 {X:Cx} {pins:List (S5×Obj)} {σ:St} {H:Hp} {s:S7} {a:S5} (I:Su X pins σ H s) (d:IsD H a):
  s.TypeIs (.ref a) "dict" /\(∀b,Value.ref a= .ref b->∃ob,s.heap.get? b=some ob/\ob.dict=none)/\(a==sysModules)=false:=by
 rcases d with ⟨kvs,e⟩|⟨kvs,e⟩
 ·obtain ⟨_,hd,vs,_,dd⟩:=Jus I.hok e
  refine ⟨dd.typeIs,λb q=>?_,hd⟩
  cases q
  obtain ⟨ob,_,_,h1,h2,_⟩:=dd
  exact ⟨ob,h1,h2.2.1⟩
 ·obtain ⟨_,hd,xs,_,dd⟩:=Jzi I.hok e
  refine ⟨dd.typeIs,λb q=>?_,hd⟩
  cases q
  obtain ⟨ob,_,_,h1,h2,_⟩:=dd
  exact ⟨ob,h1,h2.2.1⟩
section
variable {X:Cx} {pins:List (S5×Obj)} {σ:St} {H:Hp} {s:S7} {a:S5} {y d:V} {u r:S6} {o:Option V} {A:Se} {E:S6->S7->Prop}
end
section
variable {X:Cx} {o e f:Expr} {apos cpos:Pos} {td ty tx:TE}
end
section
variable {X:Cx} {pins:List (S5×Obj)} {σ:St} {H:Hp} {s:S7} {a:S5} {kvs:List (Key×V)} {A:Se} {E:S6->S7->Prop}
end
section
variable {X:Cx} {pins:List (S5×Obj)} {σ:St} {H:Hp} {s:S7} {a:S5} {y:V} {u:S6} {A:Se} {E:S6->S7->Prop}
end
end L2
namespace Att
open PySem PySem.W PySem.Calls PyProof.Rows
theorem Jsb {P:Params} {h:Sg}:∀(ns:List Int) (vs:List S6),WellAll P h vs (ns.map WData.int)->IntsAre vs ns:=by
 intro ns
 induction ns with
 |nil=>
  intro vs w
  rw [List.map_nil] at w
  cases w
  exact .nil
 |cons n ns ih=>
  intro vs w
  rw [yas] at w
  cases w with
  |cons a b=>
   cases a
   exact .cons _ _ (ih _ b)
theorem Yv {l:OpenLaw} {n:Nat} (hn:l.most=some n) {P:Params} {h:Sg} {args:List WData} {vals:List S6}
  (hpre:l.row.toRowW.claim.pre args=true) (hwl:WellAll P h vals args):
  ∃a vs ns,vals= [Value.ref a]/\args= [WData.list (ns.map WData.int)]/\h.get? a=some {cls:=.type "list",data:=.seq vs.toArray}/\IntsAre vs ns/\ns.length<=n:=by
 have hsh:WShape.hasAll [] args [.list .int]=true:=(pre_splitW hpre).1
 have hc:l.pre.holds [] {args:=args}=true:=(pre_splitW hpre).2
 obtain ⟨d,r,rfl,h1,h2⟩:=hasAllW_cons hsh
 obtain rfl:=hasAllW_nil h2
 obtain ⟨xs,rfl,h3⟩:=hasW_list h1
 obtain ⟨ns,rfl⟩:=items_int h3
 have hlen:ns.length<=n:=by
  unfold OpenLaw.pre at hc
  have h4:(WTm.not (.lt (.lit (.int (n:Int))) (.len (.arg 0)))).holds [] {args:=[.list (ns.map .int)]}=true:=by
   have h4:=(holds_andW hc).1
   rw [hn] at h4
   exact h4
  have h5:=condW_of h4 (w_not (w_lt w_lit (w_len_list (w_arg rfl))))
  rw [yf] at h5
  refine Nat.le_of_not_lt λq=>?_
  have q':(n:Int) < ((ns.length:Nat):Int):=by omega
  first
   | (rw [decide_eq_true q'] at h5; exact absurd h5 (by decide))
   | (simp at h5; omega)
 cases hwl with
 |cons w1 w2=>
  cases w2
  cases w1 with
  |list ho hall=>exact ⟨_,_,ns,rfl,rfl,ho,Jsb ns _ hall,hlen⟩
theorem Yr (l:OpenLaw) (args:List WData):l.row.toRowW.claim.post args (.bool true) args=true:=
 postW_of (r:=l.row.toRowW) (X:=(true==true))
  (show WShape.has [] (.bool true) .bool=true by first|rfl|decide|simp [WShape.has,WShape.arms,WShape.armsAll])
  (show (WTm.eq .res (.lit (.bool true))).value [] {args:=args,res:=some (.bool true),after:=args}=some (.bool (true==true)) from w_eq_bool (w_res rfl) w_lit) rfl
theorem attach_call {l:OpenLaw} {n:Nat} {q:Sb} {loose:List Str} {XP:(Str->Option S6)->Sg->Prop} {YP:Sd->Sg->Prop} {d:DefRec}
  (hn:l.most=some n) (hdf:d.params.defaults= [])
  (call:∀(w:Sd) (s₀ s₁:S7) (mg mb:Str->Option S6) (fa:S5) (o:Obj) (pm cd doc:S6) (a:S5) (vs:List S6) (ns:List Int),
   Ground q loose [] XP w s₀ mg mb s₁.heap->YP w s₁.heap->
   s₁.heap.get? fa=some o->o.data= .func (docDef d.name d.params d.body d.scope pm cd doc)->s₁.heap.CodeRec cd d.name->mg d.name=some (.ref fa)->
   s₁.heap.get? a=some {cls:=.type "list",data:=.seq vs.toArray}->IntsAre vs ns->ns.length<=n->s₁.gens= #[]->
   codeAny (model l.prog w) callerA (.call (.ref fa) ⟨[.ref a],[]⟩) (λr s'=>r= .ok (.ret (.bool true))/\OldK s₁.heap s'.heap/\s'.os=s₁.os/\AllBare s'.gens) s₁):
  WalkO q loose XP YP l.row.toRowW d [] (λf vs=>PySem.call f vs):=by
 intro w s₀ s₁ mg mb G Y fa o pm cd doc dV kV ho hd hcd hD hmg hg args vals as hpre hlay hrd hwl hlo
 obtain rfl:dV= .none:=Dflts.none hD hdf
 obtain rfl:kV= .none:=Dflts.noKw hD
 obtain ⟨a,vs,ns,rfl,rfl,hobj,hints,hlen⟩:=Yv hn hpre hwl
 refine enter_call (codeAny_mono (call w s₀ s₁ mg mb fa o pm cd doc a vs ns G Y ho (fd_plain hd) hcd hmg hobj hints hlen hg) λr s' hq=>?_)
 obtain ⟨rfl,h2,h3,h4⟩:=hq
 exact ⟨.inl ⟨.bool true,.bool true,[],rfl,λ_=>rfl,.bool true,Yr l _,λ_=>⟨ycf.nil,λ_ hm=>(nomatch hm)⟩⟩,h2,h3,h4⟩
section
variable {prog:Sb} {w:Sd} {A:Se} {E:S6->S7->Prop} {s:S7} {K:Si}
end
end Att
namespace L2
open PySem PySem.Spec PyProof.Rows
theorem Jvg:∀{vs:List S6} {ns:List Int},IntsAre vs ns->Sa0 (ns.map V.int) vs
 |_,_,.nil=>.nil
 |_,_,.cons n t h=>.cons ⟨t,rfl⟩ (Jvg h)
abbrev KOf {K:Si} {h:Sg} (_:K.In h):Si:=K
def Jkn (s:Sf) (j:Nat):Sf:=match s with
 | .ClassDef _ _ _ body _ _ _ _ _ _ _=>body.getD j (.Pass ⟨0,0,0,0⟩)
 |_=>.Pass ⟨0,0,0,0⟩
def Jld (s:Sf):Arguments:=match s with
 | .FunctionDef _ a _ _ _ _ _ _ _ _=>a
 |_=>{posonlyargs:=[],args:=[],vararg:=none,kwonlyargs:=[],kw_defaults:=[],kwarg:=none,defaults:=[]}
def Jl7 (s:Sf):List Sf:=match s with
 | .FunctionDef _ _ b _ _ _ _ _ _ _=>b
 |_=>[]
def Jk9 (s:Sf):Scope:=match s with
 | .FunctionDef _ _ _ _ _ _ sc _ _ _=>sc
 |_=>{kind:=.function,names:=[],isGenerator:=false,isCoroutine:=false}
abbrev CX0:CXT:=λ_ _ _ _ _ _=>False
abbrev E0:XK:=λ_ _ _=>False
theorem Jnm {X:Cx}:Jsl CX0 X E0:=λ_ _ _ _ _ _ _ h=>h.elim
structure Fun (K:Si) (x qual:Str) (st:Sf) (f:S5) (fd:Sc):Prop where
 ex:∃(oc:S6) (od:Option S5) (kV doc pm:S6) (an:Option S5) (cdv ct:S6) (osl:Array (Option S6)),
  fd=PySem.W.fnOf x qual (Jld st) (Jl7 st) (Jk9 st) .none kV doc pm an cdv ct/\K.lookup f=some ⟨oc,od,.func fd,osl⟩/\PySem.W.codeIn K cdv qual=true
 kp:PySem.W.keepIn K (.ref f)=true
section
variable {P:Sb} {w:Sd} {K:Si} {mg:Str->Option S6} {base:Sg}
theorem Fun.ok {x qual:Str} {st:Sf} {f:S5} {fd:Sc} {N ps:List Str} {k:Nat} {sp:Sp} (F:Fun K x qual st f fd) (S:Jkd N ps (Jk9 st)) (len:∀vs H Q E,sp vs H Q E->vs.length=ps.length)
  (hbody:∀(cdv:S6) (A:Se) (outer:List Env) (s:S7) (H:Hp) (vs:List V) (Q:VK) (E:XK),Sal k (A.deeper (envOfC qual (Jk9 st) s.heap.objs.size f cdv))->sp vs H Q E->
   ∃t,PSs (Jvq CX0 P w K mg base N qual (Jk9 st) f cdv A outer s H E).nox (Jl7 st) t/\t {nx:=λ_ H'=>Q .non H',rt:=Q} (start N vs) H):Sx P w K mg base CX0 (k+1) f fd ps sp:=by
 obtain ⟨oc,od,kV,doc,pm,an,cdv,ct,osl,rfl,lk,hcd⟩:=F.ex
 refine Sjy lk hcd S len λA outer s H vs Q E hr hsp=>?_
 obtain ⟨t,h,q⟩:=hbody cdv A outer s H vs Q E hr hsp
 exact ⟨t,h.nox,q⟩
theorem Fun.binds {x qual:Str} {st:Sf} {f:S5} {fd:Sc} {ps:List Str} (F:Fun K x qual st f fd)
  (h:∀(kV doc pm:S6) (an:Option S5) (cdv ct:S6) (us:List S6),us.length=ps.length->bindArgs (PySem.W.fnOf x qual (Jld st) (Jl7 st) (Jk9 st) .none kV doc pm an cdv ct) ⟨us,[]⟩=pure (ps.zip us)):Sbk K fd ps []:=by
 obtain ⟨oc,od,kV,doc,pm,an,cdv,ct,osl,rfl,lk,hcd⟩:=F.ex
 exact .all (h kV doc pm an cdv ct)
theorem Jvr {x qual:Str} {st:Sf} {f:S5} {oc:S6} {od an:Option S5} {osl:Array (Option S6)} {kV doc pm cdv ct:S6} (l:K.lookup f=some ⟨oc,od,.func (PySem.W.fnOf x qual (Jld st) (Jl7 st) (Jk9 st) .none kV doc pm an cdv ct),osl⟩)
  (c:PySem.W.codeIn K cdv qual=true) (k:PySem.W.keepIn K (.ref f)=true):Fun K x qual st f (PySem.W.fnOf x qual (Jld st) (Jl7 st) (Jk9 st) .none kV doc pm an cdv ct):=⟨⟨oc,od,kV,doc,pm,an,cdv,ct,osl,rfl,l,c⟩,k⟩
end
section
variable {X:Cx}
theorem pv (i:Nat) {x:Str} {pos:Pos} (hN:X.N[i]?=some x:=by rfl) (hv:Vis X.env.scope x:=by first|exact ye rfl|exact yal (ye rfl)|exact yal (yal rfl)) (hd:(x==("__debug__" :Str))=false:=by decide)
  (hcd:(x==("__classdict__" :Str))=false:=by decide):PE X (.Name x pos) (Smi i):=Ybo hN hv hd hcd
end
theorem Jlb {A B:Prop} (h:B):if false=true then A else B:=by
 rw [if_neg yz]
 exact h
theorem Jmb {A B:Prop} (h:A):if true=true then A else B:=by
 rw [if_pos rfl]
 exact h
theorem Jnd {c A B:Prop} [Decidable c] (h1:c->A) (h2:¬c->B):if c then A else B:=by
 by_cases h:c
 ·rw [if_pos h]
  exact h1 h
 ·rw [if_neg h]
  exact h2 h
def Sn (H H':Hp):Prop:=∀b o,H b=some o->H' b=some o
theorem Sn.refl (H:Hp):Sn H H:=λ_ _ h=>h
theorem Sn.trans {H H1 H2:Hp} (a:Sn H H1) (b:Sn H1 H2):Sn H H2:=λc o h=>b c o (a c o h)
theorem Sn.seq {K:Si} {H H':Hp} {a:S5} {xs:List V} (e:Sn H H') (h:Sw K H a xs):Sw K H' a xs:=by
 rcases h with (h|⟨o,h⟩)|h
 ·exact .inl (.inl (e _ _ h))
 ·exact .inl (.inr ⟨o,e _ _ h⟩)
 ·exact .inr h
section
variable {κ:Type} [DecidableEq κ]
end
end L2
set_option Elab.async false
set_option linter.all false
set_option maxRecDepth 100000
set_option maxHeartbeats 4000000
namespace L2
open PySem PySem.Spec PyProof.Rows
def Jmq (cells:List (Str×S5)):List (Str×NameKind)->List (Str×S5)->List (Str×S5)
 | [],acc=>acc
 | (n,k) :: r,acc=>if (k == NameKind.free) = true then (match cells.lookup n with | some c=>Jmq cells r ((n,c) :: acc) | none=>Jmq cells r acc) else Jmq cells r acc
theorem Jni {cells:List (Str×S5)}:∀(ns:List (Str×NameKind)) (acc:List (Str×S5)),(∀x c,acc.lookup x=some c->cells.lookup x=some c)->∀x c,(Jmq cells ns acc).lookup x=some c->cells.lookup x=some c
 | [],_,h,x,c,e=>h x c e
 | (n,k) :: r,acc,h,x,c,e=>by
  unfold Jmq at e
  by_cases hk:(k==NameKind.free)=true
  ·rw [if_pos hk] at e
   cases hc:cells.lookup n with
   |none=>rw [hc] at e;exact Jni r acc h x c e
   |some d=>
    rw [hc] at e
    refine Jni r ((n,d)::acc) (λy b q=>?_) x c e
    rw [yba] at q
    by_cases hy:(y==n)=true
    ·rw [hy] at q
     have hy':y=n:=beq_iff_eq.mp hy
     rw [hy',hc]
     exact q
    ·have hy':(y==n)=false:=by simpa using hy
     rw [hy'] at q
     exact h y b q
  ·rw [if_neg hk] at e
   exact Jni r acc h x c e
theorem Jog {cells:List (Str×S5)}:∀(ns:List (Str×NameKind)) (acc:List (Str×S5)) (x:Str),(acc.lookup x).isSome=true->((Jmq cells ns acc).lookup x).isSome=true
 | [],_,_,h=>h
 | (n,k) :: r,acc,x,h=>by
  unfold Jmq
  by_cases hk:(k==NameKind.free)=true
  ·rw [if_pos hk]
   cases hc:cells.lookup n with
   |none=>exact Jog r acc x h
   |some d=>
    refine Jog r ((n,d)::acc) x ?_
    rw [yba]
    cases hy:x==n with
    |true=>rfl
    |false=>exact h
  ·rw [if_neg hk]
   exact Jog r acc x h
theorem Jn1 {cells:List (Str×S5)} {x:Str}:∀(ns:List (Str×NameKind)) (acc:List (Str×S5)),(x,NameKind.free)∈ns->(∃c,cells.lookup x=some c)->((Jmq cells ns acc).lookup x).isSome=true
 | [],_,h,_=>by simp at h
 | (n,k) :: r,acc,h,hc=>by
  unfold Jmq
  rcases yn.mp h with e|e
  ·cases e
   obtain ⟨c,hc⟩:=hc
   rw [if_pos (by decide),hc]
   exact Jog r _ x (by rw [yba,beq_self_eq_true];rfl)
  ·by_cases hk:(k==NameKind.free)=true
   ·rw [if_pos hk]
    cases hd:cells.lookup n with
    |none=>exact Jn1 r acc e hc
    |some d=>exact Jn1 r _ e hc
   ·rw [if_neg hk]
    exact Jn1 r acc e hc
theorem Jpv {sc:Scope} {env:Env} (h:∀y∈sc.names,y.2= .free->∃c,env.cells.lookup y.1=some c):closureFor sc env=pure (Jmq env.cells sc.names []):=by
 have key:∀(ns:List (Str×NameKind)) (acc:List (Str×S5)),(∀y∈ns,y.2= .free->∃c,env.cells.lookup y.1=some c)->
   (forIn ns acc λ(x:Str×NameKind) (r:List (Str×S5))=>if (x.2==NameKind.free)=true then (cellOf env x.1 >>=λc=>pure (ForInStep.yield ((x.1,c)::r)):Sem _) else pure (ForInStep.yield r))=(pure (Jmq env.cells ns acc):Sem _):=by
  intro ns
  induction ns with
  |nil=>intro acc _;rfl
  |cons y r ih=>
   intro acc hy
   obtain ⟨n,k⟩:=y
   rw [yck]
   unfold Jmq
   by_cases hk:(k==NameKind.free)=true
   ·have hk':k= .free:=by simpa using hk
    obtain ⟨c,hc⟩:=hy (n,k) yar hk'
    have hc':env.cells.lookup n=some c:=hc
    simp only [hk,if_true]
    have e1:cellOf env n=pure c:=by unfold cellOf;rw [hc']
    rw [e1,hc']
    exact ih _ λz hz=>hy z (yaq _ hz)
   ·simp only [hk,if_false]
    exact ih _ λz hz=>hy z (yaq _ hz)
 have k0:=key sc.names [] h
 unfold closureFor
 first
  |exact k0
  | (refine Eq.trans ?_ (congrArg (λm : Sem (List (Str × S5))=>m >>= λr=>pure r) k0); rfl)
def blk (X:Cx) (sc:Scope) (N:List Str) (C:S5) (s:S7) (H:Hp) (fp:List S5) (pn:List (S5×Obj)):Cx:=
 {X with N:=N,s₀:=s,H₀:=H,env:=compEnvC sc (Jmq X.env.cells sc.names []) C X.env,outer:=X.stack,ex:=fp,fn:=λ_=>false,pn:=pn,xe:=λ_ _=>False}
def Y3 (ini:List (Option Nat)) (σ:St):St:=ini.map λo=>match o with|none=>none|some j=>(σ[j]?).join
def scB (sc:Scope):Bool:=decide (sc.kind= .function)&&sc.names.all (λy=>decide (y.2≠ .cell))&&sc.names.all (λy=>!decide (y.2= .local)||decide (sc.names.lookup y.1=some .local))
def frB (outer:List (Str×NameKind)) (sc:Scope):Bool:=sc.names.all λy=>!decide (y.2= .free)||(decide (outer.lookup y.1=some .cell)||decide (outer.lookup y.1=some .free))
def Slg (No N:List Str) (ini:List (Option Nat)) (outer:List (Str×NameKind)) (sc:Scope):Bool:=
 (N.zip ini).all λy=>match y.2 with|none=>true|some j=>decide (No[j]?=some y.1)&&decide (sc.names.lookup y.1=some .free)&&(decide (outer.lookup y.1=some .cell)||decide (outer.lookup y.1=some .free))
def PIf (X:Cx) (ifs:List Expr) (t:TT):Prop:=
 ∀(pins:List (S5×Obj)) (s:S7) (σ:St) (H:Hp) (Q:Bool->Hp->Prop),Su X pins σ H s->t σ H Q->
  Sh (model X.prog X.w) X.A (forIn ifs true λc r=>if r=true then do let ok<-isTrue c X.env (eval c X.env);pure (ForInStep.yield ok) else pure (ForInStep.yield r)) (TP X pins σ Q) X.xe s
def Ya1:TT:=λ_ H Q=>Q true H
theorem Jky {X:Cx}:PIf X [] Ya1:=λ_ _ _ H _ I h=>wpAny_tests_nil ⟨H,I,h⟩
theorem Jnx {X:Cx} {c:Expr} {t:TT} (h:PT X c t):PIf X [c] t:=λpins s σ H Q I q=>wpAny_tests_one (h pins s σ H Q I q)
def Ycs (wi:TI) (ini:List (Option Nat)) (g:TG) (tt:TT) (te:TE):TE:=λσ H Q=>wi σ H λJ H1=>∀D,H1 D=none->∃W:Nat->Nat->St->Hp->Prop,(∃m,W 0 m (Y3 ini σ) (upd H1 D (.lst [])))/\
 ∀i m σ' H',W i m σ' H'->(J.stop i H'/\Q (.ref D) H')\/(J.go i H'/\∃N:St->Hp->Prop,(∀σ2 H2,N σ2 H2->∃m',m' < m/\W (i+1) m' σ2 H2)/\
  ∀x H2,J.yld i H' x H2->g x σ' H2 λσ3 H3=>tt σ3 H3 λb H4=>if b=true then te σ3 H4 (λv H5=>∃ys,H5 D=some (.lst ys)/\ys.length < Sa/\N σ3 (upd H5 D (.lst (ys++ [v])))) else N σ3 H4)
section
variable {prog:Sb} {w:Sd} {A:Se} {R:Result->S7->Prop} {s:S7}
theorem Jvp {elt target iter:Expr} {ifs:List Expr} {scope:Scope} {pos:Pos} {it acc:S6} {env:Env} (I:Nat->S7->Prop)
  (turn:∀n s,I n s->Sh (model prog w) A (pyNext it) (λr s1=>match r with
   |none=>R (.ok .next) s1
   |some v=>Sh (model prog w) A (letOwnedTupleGo target it v) (λ_ s1'=>Sh (model prog w) A (assign target env v) (λ_ s2=>
     Sh (model prog w) A (forIn ifs true λc r=>if r=true then do let ok<-isTrue c env (eval c env);pure (ForInStep.yield ok) else pure (ForInStep.yield r)) (λok s3=>
      if ok=true then Sh (model prog w) A (eval elt env) (λx s4=>
       Sh (model prog w) A (call (.builtin "list.append") [acc,x]) (λ_ s5=>∃m,m < n/\I m s5) (λ_ _=>False) s4) (λ_ _=>False) s3
      else ∃m,m < n/\I m s3) (λ_ _=>False) s2) (λ_ _=>False) s1') (λ_ _=>False) s1) (λ_ _=>False) s)
  (n:Nat) (h:I n s):codeAny (model prog w) A (.compLoop (.ListComp elt [⟨target,iter,ifs,0⟩] scope pos) 0 it acc env) R s:=by
 refine codeAny_loop rfl I (λn s hI=>?_) n h
 show Sh _ A ((compTurn (.ListComp elt [⟨target,iter,ifs,0⟩] scope pos) 0 it acc env).onRaise (λx=>do noteFrame x env;theTreesLotGoes x)) _ _ s
 refine wpAny_noted (wpAny_noRaise ?_)
 rw [compTurn_list]
 refine S8 (wpAny_standAt (S8 (wpAny_mono (turn n s hI) (λr s1 h1=>?_) λ_ _ h'=>h')))
 cases r with
 |none=>exact S9 h1
 |some v=>
  refine S8 (wpAny_mono h1 (λ_ s1' h1'=>?_) λ_ _ h'=>h')
  refine S8 (wpAny_mono h1' (λ_ s2 h2=>S8 (wpAny_mono h2 (λok s3 h3=>?_) λ_ _ h'=>h')) λ_ _ h'=>h')
  cases ok with
  |false=>exact S9 ⟨rfl,h3⟩
  |true=>
   exact S8 (S8 (wpAny_mono h3 (λx s4 h4=>S8 (wpAny_mono h4 (λ_ s5 h5=>S9 (S9 ⟨rfl,h5⟩)) λ_ _ h'=>h')) λ_ _ h'=>h'))
end
section
variable {X:Cx} {pins:List (S5×Obj)} {σ:St} {H:Hp} {s:S7}
theorem Sl5 {sc:Scope} {N:List Str} {C:S5} {fp:List S5} {pn:List (S5×Obj)} (I:Su X pins σ H s) (hk:sc.kind= .function) (hcell:∀y∈sc.names,y.2≠ .cell)
  (hfr:∀y∈sc.names,y.2= .free->X.env.kindOf y.1=some .cell\/X.env.kindOf y.1=some .free) (hC:C=s.heap.objs.size) (hf:∀b∈fp,Jrd X pins H b/\b < s.heap.objs.size):(blk X sc N C s H fp pn).Ok:=by
 have hin:∀x c,(Jmq X.env.cells sc.names []).lookup x=some c->X.env.cells.lookup x=some c:=Jni sc.names [] (λx c e=>by simp at e)
 refine ⟨I.ok.mod,hk,I.ok.glob,I.ok.blt,yca hC.symm,λx y c h1 h2=>I.ok.inj x y c (hin _ _ h1) (hin _ _ h2),λx hx=>?_,λx c h _=>(by cases h),I.ok.hd,I.ok.frames,.inl rfl,λb hb=>?_,I.bs,yab I.ok.bsz I.sz,λb o e hb=>?_,λb hb z=>?_,I.stack,I.stkFree⟩
 ·have hx':(relabel sc X.env).names.lookup x=some .cell\/(relabel sc X.env).names.lookup x=some .free:=hx
  have hm:(x,NameKind.free)∈sc.names:=by
   have:∀k,(relabel sc X.env).names.lookup x=some k->(k= .cell\/k= .free)->(x,NameKind.free)∈sc.names:=λk e hkk=>by
    have m:=PySem.mem_of_lookup e
    obtain ⟨⟨n',k'⟩,m1,m2⟩:=ybc.mp m
    dsimp only at m2
    by_cases hc:(k'==NameKind.free&&X.env.scope.kind== .function&&X.env.kindOf n'==some .cell)=true
    ·rw [if_pos hc] at m2
     have e1:n'=x:=congrArg Prod.fst m2
     have e2:k'=NameKind.free:=by simp at hc;exact hc.1.1
     rw [<-e1,<-e2]
     exact m1
    ·rw [if_neg hc] at m2
     have e1:n'=x:=congrArg Prod.fst m2
     have e2:k'=k:=congrArg Prod.snd m2
     rcases hkk with z|z
     ·exact absurd (e2.trans z) (hcell _ m1)
     ·rw [<-e1,<-z,<-e2];exact m1
   rcases hx' with e|e
   ·exact this _ e (.inl rfl)
   ·exact this _ e (.inr rfl)
  have hh:=Jn1 (cells:=X.env.cells) sc.names [] hm (I.ok.has x (hfr _ hm rfl))
  exact ycb.mp hh
 ·obtain ⟨⟨f0,f1,f2,f3,f4,f5⟩,lt⟩:=hf b hb
  exact ⟨λz=>yr lt (z.trans hC),λx c e=>f4 x c (hin _ _ e)⟩
 ·obtain ⟨⟨f0,f1,f2,f3,f4,f5⟩,lt⟩:=hf b hb
  rcases f3 with z|z
  ·exact I.ok.noex b o e z
  ·exact absurd (yao (yk (I.ok.bs b o e).1) z) (ybe _)
 ·obtain ⟨⟨f0,f1,f2,f3,f4,f5⟩,lt⟩:=hf b hb
  rcases yn.mp (I.stkSub b z) with e|e
  ·exact f1 e
  ·exact f2 e
theorem Ydc {sc:Scope} {N:List Str} {ini:List (Option Nat)} {fp:List S5} {h1:Sg} {t':Nat} (I:Su X pins σ H s) (hk:sc.kind= .function) (hcell:∀y∈sc.names,y.2≠ .cell)
  (hfr:∀y∈sc.names,y.2= .free->X.env.kindOf y.1=some .cell\/X.env.kindOf y.1=some .free) (hf:∀b∈fp,Jrd X pins H b/\b < s.heap.objs.size) (hlen:N.length=ini.length)
  (hini:∀(i:Nat) (x:Str) (j:Nat),N[i]?=some x->ini[i]?=some (some j)->X.N[j]?=some x/\sc.names.lookup x=some .free/\(X.env.kindOf x=some .cell\/X.env.kindOf x=some .free))
  (hn:h1.Ns s.heap.objs.size (λ_=>none)) (kp:∀b o,s.heap.get? b=some o->h1.get? b=some o):
  Su (blk X sc N s.heap.objs.size s H fp (X.pn++pins)) [] (Y3 ini σ) H {s with heap:=h1,toks:=t'}:=by
 have hin:∀x c,(Jmq X.env.cells sc.names []).lookup x=some c->X.env.cells.lookup x=some c:=Jni sc.names [] (λx c e=>by simp at e)
 refine ⟨Sl5 I hk hcell hfr rfl hf,rfl,I.bare,Un.kept kp,⟨_,hn,λi x v e1 e2 e3=>?_⟩,λx c e=>?_,I.hok.fresh (yg _),λx c e=>(I.freeC x c (hin _ _ e)).imp id λz=>⟨rfl,z.2⟩,λp hp=>?_,I.hok.kept kp,?_⟩
 ·have e1':N[i]?=some x:=e1
  have e2':(Y3 ini σ)[i]?=some (some v):=e2
  unfold Y3 at e2'
  rw [ym] at e2'
  cases hi:ini[i]? with
  |none=>rw [hi] at e2';cases e2'
  |some o=>
   rw [hi] at e2'
   cases o with
   |none=>cases e2'
   |some j=>
    have e4:(σ[j]?).join=some v:=yac.inj e2'
    have e5:σ[j]?=some (some v):=by
     cases q:σ[j]? with
     |none=>rw [q] at e4;cases e4
     |some z=>rw [q] at e4;exact congrArg some e4
    obtain ⟨a1,a2,a3⟩:=hini i x j e1' hi
    obtain ⟨m,hm,hl⟩:=I.loc
    have hvis:Vis X.env.scope x:=by
     rcases a3 with z|z
     ·exact .inr (.inl z)
     ·exact .inr (.inr z)
    obtain ⟨u,r,l⟩:=hl j x v a1 e5 hvis
    refine ⟨u,r,.inr ⟨?_,?_⟩⟩
    ·have hm2:=PySem.mem_of_lookup a2
     have e3':Vis (relabel sc X.env) x:=e3
     rcases e3' with z|z|z
     ·exfalso
      have m1:=PySem.mem_of_lookup z
      obtain ⟨⟨n',k'⟩,m2,m3⟩:=ybc.mp m1
      dsimp only at m3
      have key:∀{ns:List (Str×NameKind)},ns.lookup x=some .free->(ns.map λ(n,k)=>if (k==NameKind.free&&X.env.scope.kind== .function&&X.env.kindOf n==some .cell) then (n,NameKind.cell) else (n,k)).lookup x≠some .local:=by
       intro ns
       induction ns with
       |nil=>intro q;simp at q
       |cons y r ih=>
        obtain ⟨n,k⟩:=y
        intro q
        rw [yba] at q
        rw [yas]
        dsimp only
        cases hx:x==n with
        |true=>
         rw [hx] at q
         have q':k= .free:=yac.inj q
         subst q'
         split
         ·rw [yba,hx];intro z;cases z
         ·rw [yba,hx];intro z;cases z
        |false=>
         rw [hx] at q
         split
         ·rw [yba,hx];exact ih q
         ·rw [yba,hx];exact ih q
      exact key a2 z
     ·exact .inl z
     ·exact .inr z
    ·rcases l with ⟨k1,_⟩|⟨_,c,hc,hcl⟩
     ·exfalso
      rcases a3 with z|z
      ·rw [z] at k1;cases k1
      ·rw [z] at k1;cases k1
     ·have hh:=Jn1 (cells:=X.env.cells) sc.names [] (PySem.mem_of_lookup a2) ⟨c,hc⟩
      obtain ⟨c',hc'⟩:=ycb.mp hh
      have:c'=c:=by
       have q:=hin _ _ hc'
       rw [hc] at q
       exact (yac.inj q).symm
      subst this
      obtain ⟨oc,hoc,hod⟩:=hcl
      exact ⟨c',hc',oc,kp _ _ hoc,hod⟩
 ·obtain ⟨v,oc,hoc,hod⟩:=I.cell x c (hin _ _ e)
  exact ⟨v,oc,kp _ _ hoc,hod⟩
 ·have hp':p∈X.pn++pins:=by simpa [blk] using hp
  obtain ⟨e,n,ne,nf,d⟩:=I.pin p hp'
  refine ⟨kp _ _ e,n,yr (yk e),λz=>?_,d⟩
  rcases yn.mp (I.stkSub p.1 z) with q|q
  ·exact ne q
  ·exact nf q
 ·unfold Y3
  show (ini.map _).length=N.length
  rw [yf]
  exact hlen.symm
end
section
variable {X:Cx} {elt iter tg:Expr} {ifs:List Expr} {sc:Scope} {pos:Pos} {N:List Str} {ini:List (Option Nat)} {wi:TI} {g:TG} {tt:TT} {te:TE}
theorem Juq {pins:List (S5×Obj)} {σ:St} {H:Hp} {s:S7} {Q:VK} {use:Option (S6->Sem Unit)} {Q':S6->S7->Prop} {p:Pos} (hc:X.calm=true) (hi:PI X tg iter wi)
  (hsc:scB sc=true) (hfr:frB X.env.scope.names sc=true) (hlen:N.length=ini.length) (hini:Slg X.N N ini X.env.scope.names sc=true)
  (hg:∀C s H fp pn,PG (blk X sc N C s H fp pn) tg g) (ht:∀C s H fp pn,PIf (blk X sc N C s H fp pn) ifs tt) (he:∀C s H fp pn,PE (blk X sc N C s H fp pn) elt te)
  (hs:∀x,foldedSetIterable iter X.env x=pure x) (I:Su X pins σ H s) (h:Ycs wi ini g tt te σ H Q)
  (hfin:∀(D:S5) (H':Hp) (s':S7) (C:S5) (m:Str->Option S6),Su X pins σ H' s'->Jrd X pins H' C->s'.heap.Ns C m->Q (.ref D) H'->compPost (model X.prog X.w) X.A X.xe use Q' (.ref D) C (.ok .next) s'):
  Sh (model X.prog X.w) X.A (comprehension (.ListComp elt [⟨tg,iter,ifs,0⟩] sc pos) sc X.env p (newList []) false (eval iter X.env) use) Q' X.xe s:=by
 have hsc':=hsc
 unfold scB at hsc'
 rw [yag,yag] at hsc'
 obtain ⟨⟨hk0,hcell0⟩,hnames0⟩:=hsc'
 have hk:sc.kind= .function:=of_decide_eq_true hk0
 have hcell:∀y∈sc.names,y.2≠ .cell:=λy hy=>of_decide_eq_true (yau.mp hcell0 y hy)
 have hnames:∀y∈sc.names,y.2= .local->sc.names.lookup y.1=some .local:=λy hy hl=>by
  have q:=yau.mp hnames0 y hy
  rw [decide_eq_true hl] at q
  exact of_decide_eq_true (by simpa using q)
 have hfrP:∀y∈sc.names,y.2= .free->X.env.kindOf y.1=some .cell\/X.env.kindOf y.1=some .free:=λy hy hl=>by
  have q:=yau.mp hfr y hy
  rw [decide_eq_true hl] at q
  have q2:decide (X.env.scope.names.lookup y.1=some .cell)=true\/decide (X.env.scope.names.lookup y.1=some .free)=true:=by simpa using q
  rcases q2 with z|z
  ·exact .inl (of_decide_eq_true z)
  ·exact .inr (of_decide_eq_true z)
 have hiniP:∀(i:Nat) (x:Str) (j:Nat),N[i]?=some x->ini[i]?=some (some j)->X.N[j]?=some x/\sc.names.lookup x=some .free/\(X.env.kindOf x=some .cell\/X.env.kindOf x=some .free):=λi x j e1 e2=>by
  have hm:(x,some j)∈N.zip ini:=by
   refine yad (i:=i) ?_
   rw [ycx]
   exact ⟨e1,e2⟩
  have q:=yau.mp hini _ hm
  dsimp only at q
  rw [yag,yag,Bool.or_eq_true] at q
  obtain ⟨⟨q1,q2⟩,q3⟩:=q
  refine ⟨of_decide_eq_true q1,of_decide_eq_true q2,?_⟩
  rcases q3 with z|z
  ·exact .inl (of_decide_eq_true z)
  ·exact .inr (of_decide_eq_true z)
 refine wpAny_comprehension_free (use:=use) rfl hs (Jpv λy hy hl=>I.ok.has y.1 (hfrP y hy hl)) hk hnames ?_
 refine thn (hi pins s σ H _ I h) λv s1 h1=>thn h1 λitv s2 h2=>?_
 obtain ⟨it,fp,tn,J,H2,e,I2,T,st2,f2,step⟩:=h2
 subst e
 refine wpAny_newObj_type (wpAny_newFunctionEnv hcell (by intro y hy;simp at hy) (λh1 hns1 hsb1=>?_) hk)
 dsimp only at hns1 hsb1⊢
 have hD:H2 s2.heap.objs.size=none:=I2.hok.fresh (yg _)
 have kp3:∀b o,s2.heap.get? b=some o->(s2.heap.push {cls:=.type "list",dict:=none,data:=.seq ([]:List S6).toArray}).get? b=some o:=λb o e=>yj _ e
 have I3:Su X pins σ (upd H2 s2.heap.objs.size (.lst [])) {s2 with heap:=s2.heap.push {cls:=.type "list",dict:=none,data:=.seq ([]:List S6).toArray}}:=
  I2.laid (t':=s2.toks) kp3 (yg _) ⟨yam _,[],0,.nil,yo _ rfl⟩
 obtain ⟨W,⟨m0,w0⟩,turn⟩:=step s2.heap.objs.size hD
 generalize hs3:({s2 with heap:=s2.heap.push {cls:=.type "list",dict:=none,data:=.seq ([]:List S6).toArray}}:S7)=s3 at I3
 have e3h:s3.heap=s2.heap.push {cls:=.type "list",dict:=none,data:=.seq ([]:List S6).toArray}:=by rw [<-hs3]
 rw [<-e3h] at hns1 hsb1 kp3⊢
 have sz3:s2.heap.objs.size < s3.heap.objs.size:=by rw [e3h,yaf];exact ybl _
 have hf3:∀b∈fp,Jrd X pins (upd H2 s2.heap.objs.size (.lst [])) b/\b < s3.heap.objs.size:=λb hb=>by
  obtain ⟨o,eo,_⟩:=T.obj 0 _ st2 b hb
  have lt:=yk eo
  obtain ⟨f0,fr⟩:=f2 b hb
  exact ⟨⟨by rw [Sz (yr lt)];exact f0,fr⟩,ybu lt sz3⟩
 have kp4:∀b o,s3.heap.get? b=some o->h1.get? b=some o:=λb o e=>(hsb1.2 b (yr (yk e))).trans (yj _ e)
 have I4:Su (blk X sc N s3.heap.objs.size s3 (upd H2 s2.heap.objs.size (.lst [])) fp (X.pn++pins)) [] (Y3 ini σ) (upd H2 s2.heap.objs.size (.lst [])) {s3 with heap:=h1,toks:=s3.toks+([]:List (Str×S6)).length}:=
  Ydc I3 hk hcell hfrP hf3 hlen hiniP hns1 kp4
 have st4:tn 0 h1:=T.keep 0 _ _ st2 λb hb o e=>kp4 b o (kp3 b o e)
 have e4s:({s2 with heap:=h1,toks:=s2.toks+([]:List (Str×S6)).length}:S7)={s3 with heap:=h1,toks:=s3.toks+([]:List (Str×S6)).length}:=by rw [<-hs3]
 have stat:∀{H':Hp},(∀b∈fp,H' b=none)->∀b∈fp,Jrd (blk X sc N s3.heap.objs.size s3 (upd H2 s2.heap.objs.size (.lst [])) fp (X.pn++pins)) [] H' b:=λ{H'} hn b hb=>by
  obtain ⟨⟨f0,f1,f2',f3,f4,f5⟩,lt⟩:=hf3 b hb
  refine ⟨hn b hb,yr lt,λz=>?_,.inl hb,λx c e=>f4 x c (Jni sc.names [] (λx c e=>by simp at e) x c e),λp hp=>f5 p (by simpa [blk] using hp)⟩
  rcases yn.mp (I3.stkSub b z) with q|q
  ·exact f1 q
  ·exact f2' q
 have loop:∀s4:S7,s4={s3 with heap:=h1,toks:=s3.toks+([]:List (Str×S6)).length}->codeAny (model X.prog X.w) X.A (.compLoop (.ListComp elt [⟨tg,iter,ifs,0⟩] sc pos) 0 (.ref it) (.ref s2.heap.objs.size) (compEnvC sc (Jmq X.env.cells sc.names []) s3.heap.objs.size X.env))
   (compPost (model X.prog X.w) X.A X.xe use Q' (.ref s2.heap.objs.size) s3.heap.objs.size) s4:=by
  rintro s4 rfl
  refine Jvp (λn s'=>∃i σ' H',Su (blk X sc N s3.heap.objs.size s3 (upd H2 s2.heap.objs.size (.lst [])) fp (X.pn++pins)) [] σ' H' s'/\tn i s'.heap/\(∀b∈fp,H' b=none)/\W i n σ' H') ?_ m0
   ⟨0,_,_,I4,st4,λb hb=>(hf3 b hb).1.1,w0⟩
  rintro n s5 ⟨i,σ5,H5,I5,st5,fr5,w5⟩
  rcases turn i n σ5 H5 w5 with ⟨stop,q⟩|⟨go,N',hN',step'⟩
  ·refine thn (T.done (blk X sc N s3.heap.objs.size s3 (upd H2 s2.heap.objs.size (.lst [])) fp (X.pn++pins)) rfl rfl rfl hc i [] s5 σ5 H5 _ I5 (stat fr5) st5 stop) λr s6 ⟨hr,I6⟩=>?_
   subst hr
   have un:Un (frs X.stack) fp H2 H5 s2.heap s6.heap:=(Un.laid (fs:=frs X.stack) (ex:=fp) kp3 (yg _) hD).trans I6.base
   have os6:s6.os=s2.os:=I6.os.trans (show s3.os=s2.os by rw [<-hs3])
   have IX:Su X pins σ H5 s6:=I2.call' (ch:=fp) os6 un I6.hok I6.bare λb hb=>by
    obtain ⟨⟨f0,f1,f2',f3,f4,f5⟩,lt⟩:=hf3 b hb
    exact ⟨f3,f1,f4,f5⟩
   obtain ⟨m,hm,_⟩:=I6.loc
   exact hfin _ H5 s6 s3.heap.objs.size m IX (I2.fpOk (yap sz3) I6.free) hm q
  ·refine thn (T.item (blk X sc N s3.heap.objs.size s3 (upd H2 s2.heap.objs.size (.lst [])) fp (X.pn++pins)) rfl rfl rfl hc i [] s5 σ5 H5 _ I5 (stat fr5) st5 go) λr s6 ⟨u,hr,h6⟩=>?_
   subst hr
   refine thn h6 λ_ s7 zq=>?_
   obtain ⟨x,H7,I7,r7,y7,st7,fr7⟩:=zq
   have I7':=I7.pinned (stat fr7) (T.obj _ _ st7)
   refine thn (hg _ _ _ _ _ _ s7 σ5 H7 x u _ I7' r7 (step' x H7 y7)) λ_ s8 zq=>?_
   obtain ⟨σ8,H8,I8,q8⟩:=zq
   refine thn (ht _ _ _ _ _ _ s8 σ8 H8 _ I8 q8) λok s9 zq=>?_
   obtain ⟨H9,I9,q9⟩:=zq
   have again:∀{σ':St} {H':Hp} {s':S7},Su (blk X sc N s3.heap.objs.size s3 (upd H2 s2.heap.objs.size (.lst [])) fp (X.pn++pins)) ([]++Jtk fp s7.heap) σ' H' s'->N' σ' H'->
     ∃m,m < n/\∃i σ' H',Su (blk X sc N s3.heap.objs.size s3 (upd H2 s2.heap.objs.size (.lst [])) fp (X.pn++pins)) [] σ' H' s'/\tn i s'.heap/\(∀b∈fp,H' b=none)/\W i m σ' H':=λ{σ' H' s'} J n'=>by
    obtain ⟨m',hm,w'⟩:=hN' σ' H' n'
    refine ⟨m',hm,i+1,σ',H',J.unpinned,T.keep _ _ _ st7 λb hb o e=>(J.pin (b,o) (ybm _ (ybm _ (Jok hb e)))).1,λb hb=>?_,w'⟩
    obtain ⟨o,e,d⟩:=T.obj _ _ st7 b hb
    exact (J.pin (b,o) (ybm _ (ybm _ (Jok hb e)))).2.1
   cases ok with
   |false=>
    rw [if_neg yz] at q9⊢
    exact again I9 q9
   |true=>
    rw [if_pos rfl] at q9⊢
    refine thn (he _ _ _ _ _ _ s9 σ8 H9 _ I9 q9) λv10 s10 zq=>?_
    obtain ⟨x10,H10,I10,r10,ys,hys,hyl,q10⟩:=zq
    refine thn (Jlx _ s10 σ8 H10 (.ref s2.heap.objs.size) [x10] _ [v10] (λ_ H'=>N' σ8 H') I10 rfl (.cons r10 .nil) ⟨_,ys,x10,rfl,rfl,hys,hyl,q10⟩) λ_ s11 zq=>?_
    obtain ⟨_,H11,I11,_,q11⟩:=zq
    exact again I11 q11
 have fin:=codeAny_compStart_list (R:=compPost (model X.prog X.w) X.A X.xe use Q' (.ref s2.heap.objs.size) s3.heap.objs.size) (loop _ rfl) (T.self X.A 0 {s3 with heap:=h1,toks:=s3.toks+([]:List (Str×S6)).length} _ _ st4 (loop _ rfl))
 rw [<-e4s] at fin
 exact fin
theorem Jl4 (hc:X.calm=true) (hi:PI X tg iter wi) (hg:∀C s H fp pn,PG (blk X sc N C s H fp pn) tg g) (ht:∀C s H fp pn,PIf (blk X sc N C s H fp pn) ifs tt) (he:∀C s H fp pn,PE (blk X sc N C s H fp pn) elt te)
  (hsc:scB sc=true:=by rfl) (hfr:frB X.env.scope.names sc=true:=by rfl) (hlen:N.length=ini.length:=by rfl) (hini:Slg X.N N ini X.env.scope.names sc=true:=by rfl)
  (hs:∀x,foldedSetIterable iter X.env x=pure x:=by intro _;rfl):PE X (.ListComp elt [⟨tg,iter,ifs,0⟩] sc pos) (Ycs wi ini g tt te):=by
 intro pins s σ H Q I h
 rw [eval_ListComp]
 refine Juq (use:=none) hc hi hsc hfr hlen hini hg ht he hs I h λD H' s' C m I' f hn q=>?_
 obtain ⟨f0,f1,f2,f3,f4,f5⟩:=f
 exact ⟨m,hn,λh' sb=>⟨.ref D,H',I'.turned (it:=C) (t':=s'.toks) (λb o hb e=>(sb.2 b hb).trans e) f0 f1 f3 f4 f5,rfl,q⟩⟩
def Sps (i:Nat) (te:TE):TS:=λD σ H=>te σ H λv H1=>D.nx (σ.set i (some v)) H1
theorem Jmj {i:Nat} {y:Str} {py spos:Pos} (hN:X.N.Nodup) (hiy:X.N[i]?=some y) (hx:Loc X.env.scope y) (hc:X.calm=true) (hi:PI X tg iter wi) (hg:∀C s H fp pn,PG (blk X sc N C s H fp pn) tg g) (ht:∀C s H fp pn,PIf (blk X sc N C s H fp pn) ifs tt) (he:∀C s H fp pn,PE (blk X sc N C s H fp pn) elt te)
  (hf:X.fn y=true\/X.env.scope.names.lookup y=some .local:=by first|exact .inl rfl|exact .inr rfl|assumption)
  (hsw:swapsWith (.ListComp elt [⟨tg,iter,ifs,0⟩] sc pos) (some (.Name y py)) spos.line X.env=pure true:=by rfl)
  (hsc:scB sc=true:=by rfl) (hfr:frB X.env.scope.names sc=true:=by rfl) (hlen:N.length=ini.length:=by rfl) (hini:Slg X.N N ini X.env.scope.names sc=true:=by rfl)
  (hs:∀x,foldedSetIterable iter X.env x=pure x:=by intro _;rfl):PS X (.Assign [.Name y py] (.ListComp elt [⟨tg,iter,ifs,0⟩] sc pos) spos) (Sps i (Ycs wi ini g tt te)):=by
 intro pins s σ H D I h
 rw [exec_Assign_Name_used _ _ _ _ hsw]
 refine S8 (wpAny_standAt (S8 ?_))
 show Sh _ X.A (do let _<-comprehension (.ListComp elt [⟨tg,iter,ifs,0⟩] sc pos) sc X.env _ (newList []) false (eval iter X.env) (some (assign (.Name y py) X.env))) _ _ s
 refine S8 (wpAny_mono (Juq (use:=some (assign (.Name y py) X.env)) (Q':=λ_ s'=>SP X pins D .next s') hc hi hsc hfr hlen hini hg ht he hs I h λD' H' s' C m I' f hn q=>?_) (λ_ s' hq=>S9 (S9 hq)) λ_ _ e=>e)
 obtain ⟨f0,f1,f2,f3,f4,f5⟩:=f
 show Sh _ X.A (assign (.Name y py) X.env (.ref D')) _ _ _
 refine wpAny_assign_Name (Jvd I' hN hiy hx (v:=.ref D') rfl (λs'' I'' sb=>?_) hf)
 obtain ⟨a,sb,ha⟩:=sb
 have hCa:C≠a:=by
  rcases ha with z|z
  ·rw [z];exact f1
  ·exact λe=>f4 y a z e.symm
 refine ⟨m,hn.sameBut sb hCa,λh' sb'=>⟨_,H',I''.turned (it:=C) (t':=s''.toks) (λb o hb e=>(sb'.2 b hb).trans e) f0 f1 f3 f4 f5,q⟩⟩
end
section
variable {g:TG} {tt:TT} {te:TE} {H:Hp} {D:S5} {σ:St} {R:Hp->Prop}
theorem Jmm {lo:Int} {n:Nat} (Pv:Nat->St->Hp->Prop) (h0:Pv 0 σ H)
  (hs:∀i σ H,i < n->Pv i σ H->g (.int (lo+i)) σ H λσ3 H3=>tt σ3 H3 λb H4=>if b=true then te σ3 H4 (λv H5=>∃ys,H5 D=some (.lst ys)/\ys.length < Sa/\Pv (i+1) σ3 (upd H5 D (.lst (ys++ [v])))) else Pv (i+1) σ3 H4)
  (hd:∀σ H,Pv n σ H->R H):
  ∃W:Nat->Nat->St->Hp->Prop,(∃m,W 0 m σ H)/\∀i m σ' H',W i m σ' H'->((Itr lo n).stop i H'/\R H')\/((Itr lo n).go i H'/\∃N:St->Hp->Prop,(∀σ2 H2,N σ2 H2->∃m',m' < m/\W (i+1) m' σ2 H2)/\
   ∀x H2,(Itr lo n).yld i H' x H2->g x σ' H2 λσ3 H3=>tt σ3 H3 λb H4=>if b=true then te σ3 H4 (λv H5=>∃ys,H5 D=some (.lst ys)/\ys.length < Sa/\N σ3 (upd H5 D (.lst (ys++ [v])))) else N σ3 H4):=by
 refine ⟨λi m σ H=>m=n - i/\i<=n/\Pv i σ H,⟨n,by simp,yam _,h0⟩,?_⟩
 rintro i m σ H ⟨rfl,hi,p⟩
 by_cases hlt:i < n
 ·refine .inr ⟨hlt,Pv (i+1),λσ' H' p'=>⟨n - (i+1),by omega,rfl,hlt,p'⟩,λx H' y=>?_⟩
  obtain ⟨e,y⟩:=y
  subst e y
  exact hs i σ _ hlt p
 ·have e:i=n:=by omega
  subst e
  exact .inl ⟨yg _,hd σ H p⟩
theorem Jle {K:Si} {a:S5} {xs:List V} (Pv:Nat->St->Hp->Prop) (h0:Pv 0 σ H) (hl:∀i σ H,i<=xs.length->Pv i σ H->Sw K H a xs)
  (hs:∀i x σ H,xs[i]?=some x->Pv i σ H->g x σ H λσ3 H3=>tt σ3 H3 λb H4=>if b=true then te σ3 H4 (λv H5=>∃ys,H5 D=some (.lst ys)/\ys.length < Sa/\Pv (i+1) σ3 (upd H5 D (.lst (ys++ [v])))) else Pv (i+1) σ3 H4)
  (hd:∀σ H,Pv xs.length σ H->R H):
  ∃W:Nat->Nat->St->Hp->Prop,(∃m,W 0 m σ H)/\∀i m σ' H',W i m σ' H'->((Itl K a).stop i H'/\R H')\/((Itl K a).go i H'/\∃N:St->Hp->Prop,(∀σ2 H2,N σ2 H2->∃m',m' < m/\W (i+1) m' σ2 H2)/\
   ∀x H2,(Itl K a).yld i H' x H2->g x σ' H2 λσ3 H3=>tt σ3 H3 λb H4=>if b=true then te σ3 H4 (λv H5=>∃ys,H5 D=some (.lst ys)/\ys.length < Sa/\N σ3 (upd H5 D (.lst (ys++ [v])))) else N σ3 H4):=by
 refine ⟨λi m σ H=>m=xs.length - i/\i<=xs.length/\Pv i σ H,⟨xs.length,by simp,yam _,h0⟩,?_⟩
 rintro i m σ H ⟨rfl,hi,p⟩
 have q:=hl i σ H hi p
 by_cases hlt:i < xs.length
 ·refine .inr ⟨⟨xs,xs[i],q,by simp [hlt]⟩,Pv (i+1),λσ' H' p'=>⟨xs.length - (i+1),by omega,rfl,hlt,p'⟩,λx H' y=>?_⟩
  obtain ⟨e,y⟩:=y
  subst e
  exact hs i x σ _ (y xs q) p
 ·have e:i=xs.length:=by omega
  subst e
  exact .inl ⟨⟨xs,q,yg _⟩,hd σ H p⟩
end
theorem Jlc {i:Nat} {v:V} {σ:St} {H:Hp} {A B:St->Hp->Prop} (h:A (σ.set i (some v)) H):Jo5 i v σ H λσ3 H3=>Ya1 σ3 H3 λb H4=>if b=true then A σ3 H4 else B σ3 H4:=by
 show if true=true then A (σ.set i (some v)) H else B (σ.set i (some v)) H
 rw [if_pos rfl]
 exact h
def sgn (c:Nat):V:=.str ⟨#[c]⟩
def Its (z:Str):It:=⟨λi _=>i < z.cps.size,λi H x H'=>H'=H/\∃c,z.cps[i]?=some c/\x=sgn c,λi _=>z.cps.size=i⟩
def Stf (tl:TE):TI:=λσ H R=>tl σ H λx H1=>∃z,x= .str z/\R (Its z) H1
theorem Jxw {P:Sb} {w:Sd} {K:Si} {tg:Expr} {z:Str} {it:S5} {n:String} {fl:Nat->Array S6} {St:Nat->Sg->Prop}
  (Wk:∀A':Se,A'.handled=none->Walks P w A' it [it] [it] z.cps.size (SignAt z) St) (hst:∀i h,St i h->∃o,h.get? it=some o/\o.cls= .type n/\∃a,o.data= .fields a)
  (hn: ["enumerate","zip","dict_itemiterator","dict_reverseitemiterator","odict_iterator","itertools.zip_longest","itertools.pairwise"].contains n=false)
  (hself:∀(A:Se) (i:Nat) (s:S7) (Q:S6->S7->Prop) (E:S6->S7->Prop),St i s.heap->Q (.ref it) s->Sh (model P w) A (pyIter (.ref it)) Q E s):Jre P w K tg (Its z) [it] it St where
 mem:=by simp
 obj:=λi h st b hb=>by
  have e:b=it:=by simpa using hb
  subst e
  obtain ⟨o,e,_,a,d⟩:=hst i h st
  exact ⟨o,e,λv z=>by rw [d] at z;cases z⟩
 keep:=λi h h' st k=>by
  have W0:=Wk callerA rfl
  exact W0.frame i h h' st λb hb o e=>k b hb o e
 item:=by
  intro X hP hw hK hc i pins s σ H E I hf st hg
  subst hP hw hK
  obtain ⟨f0,f1,f2,f3,f4,f5⟩:=hf it (by simp)
  have W:=Wk X.A (I.ok.hd hc)
  refine W.item i s _ _ hg st λv h' tk hv st' kk=>?_
  obtain ⟨c,u,hcp,rfl⟩:=hv
  have I1:Su X pins σ H {s with heap:=h',toks:=tk}:=I.turned (λb o hb e=>kk b o (by simpa using hb) e) f0 f1 f3 f4 f5
  obtain ⟨o,e,cl,a,d⟩:=hst _ _ st'
  exact ⟨_,rfl,Jx3 (s:={s with heap:=h',toks:=tk}) e cl d hn ⟨sgn c,H,I1,⟨u,rfl⟩,⟨rfl,c,hcp,rfl⟩,st',λb hb=>(hf b hb).1⟩⟩
 done:=by
  intro X hP hw hK hc i pins s σ H E I hf st hg
  subst hP hw hK
  obtain ⟨f0,f1,f2,f3,f4,f5⟩:=hf it (by simp)
  have W:=Wk X.A (I.ok.hd hc)
  have hg':z.cps.size=i:=hg
  subst hg'
  exact W.done s _ _ st λh' tk kk=>⟨rfl,I.turned (λb o hb e=>kk b o (by simpa using hb) e) f0 f1 f3 f4 f5⟩
 self:=hself
theorem Slw {X:Cx} {tg l:Expr} {tl:TE} (hl:PE X l tl):PI X tg l (Stf tl):=by
 intro pins s σ H R I h
 refine thn (hl pins s σ H _ I h) λv s1 zq=>?_
 obtain ⟨x,H1,I1,r1,z,e,q⟩:=zq
 subst e
 obtain ⟨t,rfl⟩:=r1
 have fin:∀(o:Obj) (St:Nat->Sg->Prop) (n:String),Jre X.prog X.w X.K tg (Its z) [s1.heap.objs.size] s1.heap.objs.size St->St 0 (s1.heap.push o)->PIE X pins σ tg R (.ref s1.heap.objs.size) {s1 with heap:=s1.heap.push o}:=λo St n T st0=>by
  refine ⟨s1.heap.objs.size,[s1.heap.objs.size],St,Its z,H1,rfl,I1.kept (t':=s1.toks) λb o e=>yj _ e,T,st0,λb hb=>?_,q⟩
  have e:b=s1.heap.objs.size:=by simpa using hb
  subst e
  exact I1.fpOk (yg _) (I1.hok.fresh (yg _))
 cases ha:z.cps.all (· < 128)
 ·refine wpAny_pyIter_wide ha (fin _ (λi h=>h.IsStrIter s1.heap.objs.size "str_iterator" z t i) "str_iterator" (Jxw (n:="str_iterator") (fl:=λ_=>#[]) (λA' hA=>Walks.strWide hA _ z t) (λi h st=>?_) (by decide) (λA i s Q E st q=>wpAny_pyIter_striter_wide st q)) ⟨_,yo _ rfl,rfl,rfl⟩)
  obtain ⟨o,e,c,d⟩:=st
  exact ⟨o,e,c,_,d⟩
 ·refine wpAny_pyIter_ascii ha (fin _ (λi h=>h.IsStrIter s1.heap.objs.size "str_ascii_iterator" z t i) "str_ascii_iterator" (Jxw (n:="str_ascii_iterator") (fl:=λ_=>#[]) (λA' hA=>Walks.strAscii hA _ z t) (λi h st=>?_) (by decide) (λA i s Q E st q=>wpAny_pyIter_striter_ascii st q)) ⟨_,yo _ rfl,rfl,rfl⟩)
  obtain ⟨o,e,c,d⟩:=st
  exact ⟨o,e,c,_,d⟩
theorem Yan {z:Str} {g:TG} {tt:TT} {te:TE} {H:Hp} {D:S5} {σ:St} {R:Hp->Prop} (Pv:Nat->St->Hp->Prop) (h0:Pv 0 σ H)
  (hs:∀i c σ H,z.cps[i]?=some c->Pv i σ H->g (sgn c) σ H λσ3 H3=>tt σ3 H3 λb H4=>if b=true then te σ3 H4 (λv H5=>∃ys,H5 D=some (.lst ys)/\ys.length < Sa/\Pv (i+1) σ3 (upd H5 D (.lst (ys++ [v])))) else Pv (i+1) σ3 H4)
  (hd:∀σ H,Pv z.cps.size σ H->R H):
  ∃W:Nat->Nat->St->Hp->Prop,(∃m,W 0 m σ H)/\∀i m σ' H',W i m σ' H'->((Its z).stop i H'/\R H')\/((Its z).go i H'/\∃N:St->Hp->Prop,(∀σ2 H2,N σ2 H2->∃m',m' < m/\W (i+1) m' σ2 H2)/\
   ∀x H2,(Its z).yld i H' x H2->g x σ' H2 λσ3 H3=>tt σ3 H3 λb H4=>if b=true then te σ3 H4 (λv H5=>∃ys,H5 D=some (.lst ys)/\ys.length < Sa/\N σ3 (upd H5 D (.lst (ys++ [v])))) else N σ3 H4):=by
 refine ⟨λi m σ H=>m=z.cps.size - i/\i<=z.cps.size/\Pv i σ H,⟨z.cps.size,by simp,yam _,h0⟩,?_⟩
 rintro i m σ H ⟨rfl,hi,p⟩
 by_cases hlt:i < z.cps.size
 ·refine .inr ⟨hlt,Pv (i+1),λσ' H' p'=>⟨z.cps.size - (i+1),by omega,rfl,hlt,p'⟩,λx H' y=>?_⟩
  obtain ⟨e,c,hcp,y⟩:=y
  subst e y
  exact hs i c σ _ hcp p
 ·have e:i=z.cps.size:=by omega
  subst e
  exact .inl ⟨rfl,hd σ H p⟩
section
variable {X:Cx}
theorem Joc:OpR X (binaryOp .FloorDiv) (rI (λ_ j=>0 < j/\j.natAbs.log2 < 9000) λi j=>.int (i/j)):=opI λi j _ _ _ _ _ hc q=>by
 have h1:(0:Int) < j:=hc.1
 exact floordiv_int (by omega) (by rw [Int.fdiv_eq_ediv_of_nonneg i (by omega)];exact q) (.inl (PyProof.noPylong_of_log2 hc.2))
def Sl9:V->Option S6
 | .ty n=>some (.type n)
 | .ref a=>some (.ref a)
 |_=>none
def Stk (K:Si):List V->Hp->VK->Prop:=λxs H Q=>∃(a:S5) (bs:List Bool),xs= [.ref a]/\Sw K H a (bs.map V.bl)/\Q (.bl (bs.all id)) H
theorem Jnh (hc:X.calm=true):Jmd X (.builtin "all") (Stk X.K):=by
 intro pins s σ H xs us Q I r h
 obtain ⟨a,bs,rfl,hq,q⟩:=h
 obtain ⟨u,rfl,ru⟩:=Jnc r
 cases ru
 obtain ⟨its,rv,pl,hz⟩:=I.list hq
 have hlen:=rv.length
 refine call_all_walk (wpAny_pyIter_list pl.isList ⟨s.heap.objs.size,[s.heap.objs.size,a],[s.heap.objs.size],its.toArray.size,_,_,λi=>bs.getD i true,rfl,Walks.list (prog:=X.prog) (w:=X.w) (A:=X.A.in1) (show X.A.in1.handled=none from I.ok.hd hc) s.heap.objs.size a ?_ its.toArray,⟨⟨_,yo _ rfl,rfl,rfl⟩,pl.isList.at λo e=>yj _ e⟩,?_,λh' tk k=>?_⟩)
 ·obtain ⟨o,_,e,_⟩:=pl
  exact yr (yk e)
 ·intro i v s' Q' E' hv hq'
  have hv':its[i]?=some v:=by simpa using hv
  have hi:i < its.length:=(yq.mp hv').1
  have hb:i < bs.length:=by rw [yf] at hlen;omega
  obtain ⟨u',hu',ru'⟩:=rv.get (i:=i) (x:=V.bl bs[i]) (by rw [ym,yp hb];rfl)
  rw [hv'] at hu'
  cases hu'
  cases ru'
  refine wpAny_truthy_bool ?_
  have:bs.getD i true=bs[i]:=by rw [yaj,yp hb];rfl
  rw [<-this]
  exact hq'
 ·have e:((yv its.toArray.size).all λi=>bs.getD i true)=bs.all id:=by
   have hl2:its.toArray.size=bs.length:=by rw [yf] at hlen;rw [yu];exact hlen.symm
   rw [hl2,ybk,yau,yau]
   constructor
   ·intro hh b hb
    obtain ⟨i,hi,rfl⟩:=List.getElem_of_mem hb
    have:=hh i (yae.mpr hi)
    rw [yaj,yp hi] at this
    exact this
   ·intro hh i hi
    have hi':=yae.mp hi
    rw [yaj,yp hi']
    exact hh _ (ycg hi')
  rw [e]
  exact ⟨.bl _,H,I.kept λb o e=>k b o (λz=>by
   have z':b=s.heap.objs.size:=by simpa using z
   exact absurd (yk e) (by rw [z'];exact ybe _)) (yj _ e),rfl,q⟩
end
mutual
inductive Sdx (K:Si) (H:Hp):V->PyData->Prop
 |non:Sdx K H .non .none
 |bl (b:Bool):Sdx K H (.bl b) (.bool b)
 |int (i:Int):Sdx K H (.int i) (.int i)
 |str (z:Str):Sdx K H (.str z) (.str z)
 |lst {a:S5} {xs:List V} {ds:List PyData}:Sw K H a xs->Scd K H xs ds->Sdx K H (.ref a) (.list ds)
 |tup {a:S5} {xs:List V} {ds:List PyData}:SqT K H a xs->Scd K H xs ds->Sdx K H (.ref a) (.tuple ds)
inductive Scd (K:Si) (H:Hp):List V->List PyData->Prop
 |nil:Scd K H [] []
 |cons {x:V} {d:PyData} {xs:List V} {ds:List PyData}:Sdx K H x d->Scd K H xs ds->Scd K H (x::xs) (d::ds)
end
section
variable {X:Cx} {pins:List (S5×Obj)} {σ:St} {H:Hp} {s:S7}
mutual
theorem Sdx.reads (I:Su X pins σ H s):∀{x:V} {d:PyData},Sdx X.K H x d->∀{v:S6},Sa2 x v->∃as,Reads s.heap v d as
 |_,_,.non,_,r=>by cases r;exact ⟨_,.none⟩
 |_,_,.bl b,_,r=>by cases r;exact ⟨_,.bool b⟩
 |_,_,.int i,_,r=>by obtain ⟨t,rfl⟩:=r;exact ⟨_,.int i t⟩
 |_,_,.str z,_,r=>by obtain ⟨t,rfl⟩:=r;exact ⟨_,.str z t⟩
 |_,_,.lst (a:=a) hq hd,_,r=>by
  cases r
  obtain ⟨its,rv,⟨o,n,e,c,dd,dt⟩,_⟩:=I.list hq
  obtain ⟨as,ra⟩:=Scd.reads I hd rv
  exact ⟨_,.list e c dt (by simpa using ra)⟩
 |_,_,.tup (a:=a) hq hd,_,r=>by
  cases r
  obtain ⟨its,rv,⟨o,e,c,n,dt⟩,_⟩:=I.tuple hq
  obtain ⟨as,ra⟩:=Scd.reads I hd rv
  exact ⟨_,.tuple e c dt (by simpa using ra)⟩
theorem Scd.reads (I:Su X pins σ H s):∀{xs:List V} {ds:List PyData},Scd X.K H xs ds->∀{us:List S6},Sa0 xs us->∃as,ReadsAll s.heap us ds as
 |_,_,.nil,_,r=>by cases r;exact ⟨_,.nil⟩
 |_,_,.cons h t,_,r=>by
  cases r with
  |cons r1 r2=>
   obtain ⟨as,ra⟩:=Sdx.reads I h r1
   obtain ⟨bs,rb⟩:=Scd.reads I t r2
   exact ⟨_,.cons ra rb⟩
end
def Sp8 (K:Si) (neg:Bool):R2:=λx y H Q=>∃d e,Sdx K H x d/\Sdx K H y e/\SeqAt.shaped d=true/\SeqAt.shaped e=true/\Q (.bl (if neg then !PyData.eqv d e else PyData.eqv d e)) H
theorem Jwb (hu:X.A.units+64 < cLine):OpR X (compareOp .Eq) (Sp8 X.K false):=by
 intro pins s σ H x y v u Q I rx ry h
 obtain ⟨d,e,hd,he,sd,se,q⟩:=h
 obtain ⟨as,ra⟩:=hd.reads I rx
 obtain ⟨bs,rb⟩:=he.reads I ry
 exact eq_dataH ra rb sd se hu (Jkz I q rfl)
theorem Ybg (hu:X.A.units+64 < cLine):OpR X (compareOp .NotEq) (Sp8 X.K true):=by
 intro pins s σ H x y v u Q I rx ry h
 obtain ⟨d,e,hd,he,sd,se,q⟩:=h
 obtain ⟨as,ra⟩:=hd.reads I rx
 obtain ⟨bs,rb⟩:=he.reads I ry
 exact ne_dataH ra rb sd se hu (Jkz I q rfl)
end
theorem Jkq:bootBuiltins "isinstance" =some (.builtin "isinstance"):=by decide +kernel
theorem Jlg:bootBuiltins "len" =some (.builtin "len"):=by decide +kernel
theorem Jri:bootBuiltins "max" =some (.builtin "max"):=by decide +kernel
theorem Jvm:bootBuiltins "min" =some (.builtin "min"):=by decide +kernel
theorem Jq4:bootBuiltins "all" =some (.builtin "all"):=by decide +kernel
theorem Jy6:bootBuiltins "int" =some (.type "int"):=by decide +kernel
theorem Sl7:bootBuiltins "str" =some (.type "str"):=by decide +kernel
theorem Jvl:bootBuiltins "bool" =some (.type "bool"):=by decide +kernel
theorem Jpd:bootBuiltins "list" =some (.type "list"):=by decide +kernel
theorem Jm3:bootBuiltins "tuple" =some (.type "tuple"):=by decide +kernel
structure FT (K:Si) (mg:Str->Option S6) (x:Str) (st:Sf) (ps:List Str) (f:S5) (fd:Sc):Prop where
 mgx:mg x=some (.ref f)
 fn:Fun K x x st f fd
 bd:Sbk K fd ps []
section
variable {X:Cx} {x:Str} {st:Sf} {ps:List Str} {f:S5} {fd:Sc} {sp:Sp} {k j:Nat} {p pos:Pos} {e:Expr} {es:List Expr} {t:TA}
theorem Jkc (F:FT X.K X.mg x st ps f fd) (G:Sx X.prog X.w X.K X.mg X.base CX0 k f fd ps sp) (hr:Sal j X.A) (hk:k<=j) (ha:PA X (e::es) t) (hg:Gl X x:=by rfl) (hdb:(x==("__debug__" :Str))=false:=by decide)
  (he:starEach (e::es) X.env=(false,eval e X.env)::starEach es X.env:=by rfl) (hpl:(backTo pos (starEach es X.env)).any (·.1)=false:=by rfl):PE X (.Call (.Name x p) (e::es) [] pos) (Skc sp [] E0 t):=
 Ydt G (hr.mono hk) hg F.mgx F.fn.kp F.bd .nil Jnm ha hdb he hpl
end
theorem Sn.upd {H:Hp} {D:S5} {o:HO} (h:H D=none):Sn H (upd H D o):=λb u e=>by rw [Sz (Jkb e h)];exact e
def Sbo (H:Hp) (p:S5):Prop:=∃a b c:Int,H p=some (.lst [.int a,.int b,.int c])
def But (p:S5) (H H':Hp):Prop:=(∀b o,b≠p->H b=some o->H' b=some o)/\Sbo H' p
theorem But.trans {p:S5} {H H1 H2:Hp} (a:But p H H1) (b:But p H1 H2):But p H H2:=⟨λc o n e=>b.1 c o n (a.1 c o n e),b.2⟩
theorem But.refl {p:S5} {H:Hp} (s:Sbo H p):But p H H:=⟨λ_ _ _ e=>e,s⟩
theorem But.same {p:S5} {H H1 H2:Hp} (a:But p H H1) (b:Sn H1 H2):But p H H2:=⟨λc o n e=>b c o (a.1 c o n e),let ⟨x,y,z,e⟩:=a.2;⟨x,y,z,b p _ e⟩⟩
theorem Sbo.same {p:S5} {H H1:Hp} (a:Sbo H p) (b:Sn H H1):Sbo H1 p:=by obtain ⟨x,y,z,e⟩:=a;exact ⟨x,y,z,b p _ e⟩
theorem But.of {p:S5} {H H1:Hp} (a:Sbo H p) (b:Sn H H1):But p H H1:=(But.refl a).same b
theorem But.free {p:S5} {H H':Hp} (s:Sbo H p) (b:But p H H') {D:S5} (h:H' D=none):H D=none:=by
 by_cases e:D=p
 ·obtain ⟨x,y,z,q⟩:=b.2
  rw [e,q] at h
  cases h
 ·cases q:H D with
  |none=>rfl
  |some o=>
   rw [b.1 D o e q] at h
   cases h
theorem But.updD {p D:S5} {H H':Hp} {o:HO} (b:But p H H') (hD:H D=none) (ne:D≠p):But p H (upd H' D o):=by
 refine ⟨λc u n e=>?_,?_⟩
 ·rw [Sz (Jkb e hD)]
  exact b.1 c u n e
 ·obtain ⟨x,y,z,q⟩:=b.2
  exact ⟨x,y,z,by rw [Sz (yi ne)];exact q⟩
theorem Sbo.ne {p D:S5} {H:Hp} (s:Sbo H p) (hD:H D=none):D≠p:=by
 obtain ⟨x,y,z,q⟩:=s
 exact (Jkb q hD).symm
theorem Jpj {p:S5} {H:Hp} {a:S5} {o:HO} (s:Sbo H p) (h:H a=some o) (hn:∀x y z:Int,o≠ .lst [.int x,.int y,.int z]):a≠p:=by
 intro e
 obtain ⟨x,y,z,q⟩:=s
 rw [e,q] at h
 exact hn x y z (yac.inj h).symm
def Sme:Sp:=λvs H Q _=>∃(p:S5) (m:Int),vs= [.ref p,.int m]/\Sbo H p/\0 < m/\m.natAbs.log2 < 9000/\∀(r:Int) (H':Hp),0<=r->r < m->But p H H'->Q (.int r) H'
def Ycn:Sp:=λvs H Q _=>∃c:Int,vs= [.int c]/\∀(p:S5) (H':Hp),H p=none->Sn H H'->Sbo H' p->Q (.ref p) H'
def Sm0 (K:Si):Sp:=λvs H Q _=>∃(a:S5) (ns:List Int) (k:Nat),vs= [.ref a,.int k]/\Sw K H a (ns.map V.int)/\∀n:Int,Q (.int n) H
theorem Jzl {ns:List Int} {k:Nat} (h:k < ns.length):atI (ns.map V.int) (k:Int)=some (.int ns[k]):=Jl8 (by rw [ym,yp h];rfl)
theorem Jnt {A:Se} {k:Nat} (hr:Sal k A):A.units+64 < cLine:=hr.units
end L2
namespace L2
open PySem PySem.Spec PyProof.Rows Builtin Builtin.ObjectAttr
abbrev VEm:List S6:=[.type "ValueError",.type "Exception",.type "BaseException",.type "object"]
def xcB (K:Si) (C fI:S5):Bool:=
 Sk K (.ref C) "__getattribute__" ==some (some (.builtin "BaseException.__getattribute__"))&&Sk K (.ref C) "__getattr__" ==some none&&Sk K (.ref C) "__setattr__" ==some (some (.builtin "object.__setattr__"))&&
 Sk K (.ref C) "__init__" ==some (some (.ref fI))&&PySem.W.typeIn K (.ref fI)==some (.type "function")&&PySem.W.keepIn K (.ref C)&&PySem.W.hasDictIn K C&&Sl K C (.type "BaseException")==some true&&Sl K C (.type "object")==some true&&
 Sk K (.ref C) "__class__" ==some (some (.builtin "object.__class__"))&&PySem.W.specialIn K (.builtin "object.__class__") "__get__" ==some (some (.builtin "getset_descriptor.__get__"))&&PySem.W.takesIn K (.builtin "object.__class__")==some true
structure Saj (K:Si) (C W fI:S5):Prop where
 obj:∃(nm q:Str) (N:S5) (bs:List S6) (sn:List Str) (sub:List S6) (ab:Bool) (col:Option Bool) (dd:Option S5) (k0 k1 k2 k3 k5:Option S6),
  K.lookup C=some (excClassObj nm q C N bs (.ref W::VEm) true sn sub ab col dd k0 k1 k2 k3 k5 "ValueError.__new__")
 tl:PySem.W.tailIn K VEm (.ref W::VEm)=true
 all:xcB K C fI=true
theorem Jlq {K:Si} {C fI:S5} (h:xcB K C fI=true):
  (Sk K (.ref C) "__getattribute__" =some (some (.builtin "BaseException.__getattribute__"))/\Sk K (.ref C) "__getattr__" =some none/\Sk K (.ref C) "__setattr__" =some (some (.builtin "object.__setattr__")))/\
  (Sk K (.ref C) "__init__" =some (some (.ref fI))/\PySem.W.typeIn K (.ref fI)=some (.type "function")/\PySem.W.keepIn K (.ref C)=true/\PySem.W.hasDictIn K C=true)/\Sl K C (.type "BaseException")=some true/\Sl K C (.type "object")=some true/\
  Sk K (.ref C) "__class__" =some (some (.builtin "object.__class__"))/\PySem.W.specialIn K (.builtin "object.__class__") "__get__" =some (some (.builtin "getset_descriptor.__get__"))/\PySem.W.takesIn K (.builtin "object.__class__")=some true:=by
 unfold xcB at h
 simp only [yag,beq_iff_eq] at h
 obtain ⟨⟨⟨⟨⟨⟨⟨⟨⟨⟨⟨a,b⟩,c⟩,d⟩,e⟩,f⟩,g⟩,i⟩,j⟩,k⟩,l⟩,m⟩:=h
 exact ⟨⟨a,b,c⟩,⟨d,e,f,g⟩,i,j,k,l,m⟩
section
variable {K:Si} {C W fI:S5} (c:Saj K C W fI)
include c
theorem Saj.ga:Sk K (.ref C) "__getattribute__" =some (some (.builtin "BaseException.__getattribute__")):=(Jlq c.all).1.1
theorem Saj.gh:Sk K (.ref C) "__getattr__" =some none:=(Jlq c.all).1.2.1
theorem Saj.sa:Sk K (.ref C) "__setattr__" =some (some (.builtin "object.__setattr__")):=(Jlq c.all).1.2.2
theorem Saj.ini:Sk K (.ref C) "__init__" =some (some (.ref fI)):=(Jlq c.all).2.1.1
theorem Saj.fn:PySem.W.typeIn K (.ref fI)=some (.type "function"):=(Jlq c.all).2.1.2.1
theorem Saj.kp:PySem.W.keepIn K (.ref C)=true:=(Jlq c.all).2.1.2.2.1
theorem Saj.hd:PySem.W.hasDictIn K C=true:=(Jlq c.all).2.1.2.2.2
theorem Saj.mb:Sl K C (.type "BaseException")=some true:=(Jlq c.all).2.2.1
theorem Saj.mo:Sl K C (.type "object")=some true:=(Jlq c.all).2.2.2.1
theorem Saj.cl:Sk K (.ref C) "__class__" =some (some (.builtin "object.__class__")):=(Jlq c.all).2.2.2.2.1
theorem Saj.cg:PySem.W.specialIn K (.builtin "object.__class__") "__get__" =some (some (.builtin "getset_descriptor.__get__")):=(Jlq c.all).2.2.2.2.2.1
theorem Saj.ct:PySem.W.takesIn K (.builtin "object.__class__")=some true:=(Jlq c.all).2.2.2.2.2.2
end
theorem Ya9 (self:S6) (C W:S5):refuseLoop self "__setattr__" (.ref C:: .ref W::VEm)=pure ():=by
 rw [refuseLoop_ref,refuseLoop_ref]
 exact PySem.F.store_ValueError.passes self
theorem Saj.mro {K:Si} {C W fI:S5} (c:Saj K C W fI):∃cd,PySem.W.clsIn K C=some cd/\cd.mro= .ref C:: .ref W::VEm/\cd.hasDict=true:=by
 obtain ⟨nm,q,N,bs,sn,sub,ab,col,dd,k0,k1,k2,k3,k5,l⟩:=c.obj
 unfold PySem.W.clsIn
 rw [l]
 exact ⟨_,rfl,rfl,rfl⟩
section
variable {prog:Sb} {w:Sd} {A:Se} {E:S6->S7->Prop} {s:S7} {K:Si} {x C W fI:S5} {ox:Obj} {od:Option Obj} {name:Str}
theorem Yep:builtinKind "BaseException.__getattribute__" =some .slot:=by decide +kernel
theorem Yd4:splitId "BaseException.__getattribute__" =some ("BaseException","__getattribute__"):=by decide +kernel
theorem Jzv {r:Found} {tk:Tok} {R:Result->S7->Prop} (c:Saj K C W fI) (X:K.In s.heap) (I:PySem.W.InstAt s.heap x ox C od) (hf:PySem.W.findObj K C od name=some r)
  (h:Sh (model prog w) A.in1 (match r with| .value v=>ret v| .bind g b=>bindTo g b (.ref x) (.ref C)| .missing=>unsupported "none")
   (λfin s'=>match fin with| .done f=>R (.ok f) s'| .again c'=>c'.quiet=true/\codeAny (model prog w) A c' R s') (λe s'=>R (.error e) s') s) (hr:r≠ .missing):
  codeAny (model prog w) A (.call (.builtin "BaseException.__getattribute__") ⟨[.ref x,.str name tk],[]⟩) R s:=by
 have T0:=I.type (M:=model prog w)
 have T3:=PySem.W.looks_find (M:=model prog w) X I hf
 have T4:PySem.W.Looks (model prog w) s.heap (isInstance (.ref x) (.type "BaseException")) true:=T0.andThen (PySem.W.looks_mroIn X c.mb)
 have ck:∀{Q':Unit->S7->Prop} {E':S6->S7->Prop} {A':Se},Q' () s->Sh (model prog w) A' (checkBuiltinCall "BaseException.__getattribute__" ⟨[.ref x,.str name tk],[]⟩) Q' E' s:=λ{Q' E' A'} q=>
  @PySem.W.check_slot (model prog w) A' E' s "BaseException.__getattribute__" "BaseException" "__getattribute__" (.ref x) [.str name tk] [] Q' Yep Yd4 T4 (F.args_bexc_ga (.ref x) (.str name tk)) q
 refine codeAny_call_builtin F.excAttr_ValueError.ga.plain F.entry_bexc_ga (ck ?_)
 unfold Builtin.«object.__getattribute__»
 refine S8 (S9 (S8 (S9 (S8 (T0.here (S8 (T3.here ?_)))))))
 cases r with
 |missing=>exact absurd rfl hr
 |value v=>exact h
 |bind gg b=>exact h
theorem Sms {v:S6} {expr:Bool} {Q:S6->S7->Prop} (c:Saj K C W fI) (X:K.In s.heap) (I:PySem.W.InstAt s.heap x ox C od) (hf:PySem.W.findObj K C od name=some (.value v)) (hh:PySem.W.handedIn v=true)
  (q:Q v {s with toks:=s.toks+1}):Sh (model prog w) A (getAttr (.ref x) name expr) Q E s:=by
 obtain ⟨hp,g,d,t,os⟩:=s
 have T0:=I.type (M:=model prog w)
 have T1:=PySem.W.looks_findIn (M:=model prog w) X c.ga
 have T2:=PySem.W.looks_findIn (M:=model prog w) X c.gh
 unfold getAttr getAttrBy
 refine S8 (wpAny_mkText (wpAny_holding (S8 (T0.at (S8 (T1.at ?_))))))
 show Sh _ _ (getAttrByItsOwn (.ref x) _ (.ref C) _ _ _) _ _ _
 unfold getAttrByItsOwn
 refine S8 (show Sh _ _ (typeLookup (.ref C) "__getattr__") _ _ _ from T2.at ?_)
 have e0:callGetattribute (.ref x) (.str name t) (.builtin "BaseException.__getattribute__") expr=boundAndCalled (.builtin "BaseException.__getattribute__") (.ref x) (.str name t):=by cases expr <;> rfl
 rw [e0]
 unfold boundAndCalled
 rw [F.excAttr_ValueError.ga.bind]
 refine S8 (wpAny_attempt (wpAny_holding (S8 (S9 (wpAny_call (Jzv (s:=⟨hp,g,d,t+1,os⟩) (r:=.value v) c X I hf ?_ (λz=>nomatch z)))))))
 refine S9 ?_
 show Sh _ _ (handedOut v) _ _ _
 rw [PySem.W.handedOut_of hh]
 exact S9 q
end
section
variable {prog:Sb} {w:Sd} {A:Se} {E:S6->S7->Prop} {s:S7} {K:Si} {x C W fI:S5} {ox:Obj} {od:Option Obj} {name:Str} {v:S6}
theorem Smt {tk:Tok} {R:Result->S7->Prop} (c:Saj K C W fI) (X:K.In s.heap) (I:PySem.W.InstAt s.heap x ox C od) (hn:Sk K (.ref C) name=some none)
  (h:Sh (model prog w) A.in1 (storeInOwnDict (.ref x) (.ref C) (.str name tk) name v false)
   (λfin s'=>match fin with| .done f=>R (.ok f) s'| .again c'=>c'.quiet=true/\codeAny (model prog w) A c' R s') (λe s'=>R (.error e) s') s):
  codeAny (model prog w) A (.call (.builtin "object.__setattr__") ⟨[.ref x,.str name tk,v],[]⟩) R s:=by
 have SF:=PySem.F.store_object
 obtain ⟨cd,hc,hm,_⟩:=c.mro
 have T0:=I.type (M:=model prog w)
 have sub:PySem.W.Looks (model prog w) s.heap (isInstance (.ref x) (.type "object")) true:=T0.andThen (PySem.W.looks_mroIn X c.mo)
 have hmr:PySem.W.Looks (model prog w) s.heap (mroOf (.ref C)) cd.mro:=(PySem.W.looks_clsIn X hc).andThen .now
 have T2:=PySem.W.looks_findIn (M:=model prog w) X hn
 refine codeAny_call_builtin SF.slot.plain SF.entry (@PySem.W.check_slot (model prog w) _ _ s "object.__setattr__" "object" "__setattr__" (.ref x) [.str name tk,v] [] _ SF.kind SF.split sub (SF.args (.ref x) (.str name tk) v) ?_)
 rw [PySem.W.osa_eq,refuse_eq]
 refine S8 (S8 (T0.here (S8 (hmr.here ?_))))
 rw [hm,Ya9]
 exact S9 (S8 (T0.here (S8 (T2.here (S8 (S9 h))))))
theorem Jza {vs:Array S6} {Q:Unit->S7->Prop} (c:Saj K C W fI) (X:K.In s.heap) (hx:s.heap.get? x=some ox) (hcl:ox.cls= .ref C) (hdi:ox.dict=none) (hd:ox.data= .fields vs) (hn:Sk K (.ref C) name=some none)
  (h:∀h',(∀b u,b≠x->s.heap.get? b=some u->h'.get? b=some u)->h'.get? x=some {ox with dict:=some s.heap.objs.size}->h'.Ns1 s.heap.objs.size (λy=>if y=name then some v else none)->Q () {s with heap:=h',toks:=s.toks+2}):
  Sh (model prog w) A (setAttr (.ref x) name v) Q E s:=by
 have I:PySem.W.InstAt s.heap x ox C none:=⟨hx,hcl,by unfold PySem.W.notCls;rw [hd],by rw [hdi];trivial⟩
 obtain ⟨cd,hc,_,hdct⟩:=c.mro
 refine PySem.W.set_plain X I c.sa (Smt (s:={s with toks:=s.toks+1}) c X I hn ?_)
 obtain ⟨oc,odi,oda,osl⟩:=ox
 dsimp only at hcl hdi hd
 subst hcl hdi hd
 refine S8 (S9 (S8 (S8 (wpAny_loadPart hx (S8 (PySem.W.Looks.here (s:={s with toks:=s.toks+1}) (PySem.W.looks_clsIn X hc) ?_))))))
 rw [hdct]
 dsimp only
 simp only [Bool.not_true,Bool.false_eq_true,if_false,typeHasDict,yce]
 have e1:(s.heap.push {cls:=.type "dict",data:=.dict #[]}).get? x=some ⟨.ref C,none,.fields vs,osl⟩:=yj _ hx
 have nx:s.heap.objs.size≠x:=yax (yk hx)
 have n0:(s.heap.push {cls:=.type "dict",data:=.dict #[]}).Ns s.heap.objs.size (λ_=>none):=⟨_,#[],_,yo s.heap rfl,rfl,(λe he=>absurd he (by simp)),λ_=>rfl⟩
 refine S8 (wpAny_alloc (S8 (wpAny_update e1 ?_)))
 have e2:=ybn (λo=>{o with dict:=some s.heap.objs.size}) e1 rfl
 have n1:((s.heap.push {cls:=.type "dict",data:=.dict #[]}).update x λo=>{o with dict:=some s.heap.objs.size}).Ns1 s.heap.objs.size (λ_=>none):=
  (Heap.Ns1.of_empty n0).at λo q=>by rw [ybb _ _ (yi nx)];exact q
 refine S9 (S8 (S9 (S8 ?_)))
 refine wpAny_nsSet1 n1 λh' n2 sb=>?_
 obtain ⟨oD,esD,epD,hoD,hdD,hcD⟩:=n2.count (PySem.Within.cons name v PySem.Within.nil)
 refine S8 (wpAny_lookBehind hoD (by rw [hdD];exact pastItsLine_dict (yab hcD (Nat.le_add_left 1 Sa))) ?_)
 refine S9 (h h' (λb u hb q=>?_) ((sb.2 _ (yi nx)).trans e2) n2)
 have nb:b≠s.heap.objs.size:=yr (yk q)
 rw [sb.2 b nb,ybb _ _ (yi hb)]
 exact yj _ q
end
abbrev Yab (us:List S6):Obj:={cls:=.type "tuple",data:=.seq us.toArray}
abbrev Sig (C:S5) (t:S5):Obj:={cls:=.ref C,data:=.fields #[.ref t,.none,.none,.none,.bool false,.none]}
section
variable {prog:Sb} {w:Sd} {A:Se} {E:S6->S7->Prop} {K:Si} {C W fI:S5} {us:List S6} {hp:Sg} {g:Array GenState} {d:Drawn} {t:Nat} {os:OsState}
theorem Yd5 {Q:PySem.Fin->S7->Prop} (c:Saj K C W fI) (X:K.In hp) (hz:us.length<=Sa)
  (h:Sh (model prog w) A (call (.ref fI) (.ref (hp.objs.size+1)::us)) (λr s'=>r= .none/\Q (.done (.ret (.ref (hp.objs.size+1)))) s') E ⟨(hp.push (Yab us)).push (Sig C hp.objs.size),g,d,t,os⟩):
  Sh (model prog w) A (Builtin.«type.__call__» ⟨.ref C::us,[]⟩) Q E ⟨hp,g,d,t,os⟩:=by
 obtain ⟨nm,q,N,bs,sn,sub,ab,col,dd,k0,k1,k2,k3,k5,l⟩:=c.obj
 have FV:=F.excBase_ValueError
 have kC:=X _ _ l
 have TL:OwnTail hp VEm (.ref W::VEm):=PySem.W.tail_of_in X c.tl
 have up:∀b o,hp.get? b=some o->((hp.push (Yab us)).push (Sig C hp.objs.size)).get? b=some o:=λb o e=>yj _ (yj _ e)
 have gE:((hp.push (Yab us)).push (Sig C hp.objs.size)).get? (hp.objs.size+1)=some ({cls:=.ref C,data:=.fields #[.ref hp.objs.size,.none,.none,.none,.bool false,.none]}:Obj):=Heap.get?_push_at (by simp only [yaf]) rfl
 have X2:=X.keeps up
 have kC2:=X2 _ _ l
 have hcC:(Value.ref C:: .ref W::VEm).contains (.ref C)=true:=by simp
 repeat (first|with_reducible refine wpAny_loadPart_at kC ?_|with_reducible refine wpAny_madeBy_exc kC ?_|wp_step)
 refine codeAny_call_builtin_code (Code.quiet_builtin _ FV.quiet) (wpAny_check_new_subT FV TL kC (codeAny_exc_new_subT FV TL kC ?_ hz))
 show Sh _ _ _ _ _ _
 unfold isInstance
 repeat (first|with_reducible refine wpAny_loadPart_at gE ?_|(with_reducible refine wpAny_isSubtype_exc kC2 ?_;rw [hcC])|wp_step)
 show Sh _ _ (typeLookup (.ref C) _) _ _ _
 refine (PySem.W.looks_findIn X2 c.ini).at (wpAny_holding (S8 ((PySem.W.bind_fn X2 _ c.fn).at ?_)))
 refine S8 (wpAny_mono h (λr s' hr=>?_) λ_ _ z=>z)
 obtain ⟨rfl,hQ⟩:=hr
 wp_walk
 exact hQ
theorem Yeq {s:S7} {Q:S6->S7->Prop} (c:Saj K C W fI) (X:K.In s.heap) (hz:us.length<=Sa)
  (h:Sh (model prog w) (A.under (.builtin "type.__call__" ⟨.ref C::us,[]⟩)) (call (.ref fI) (.ref (s.heap.objs.size+1)::us)) (λr s'=>r= .none/\Q (.ref (s.heap.objs.size+1)) s') E {s with heap:=(s.heap.push (Yab us)).push (Sig C s.heap.objs.size)}):
  Sh (model prog w) A (call (.ref C) us) Q E s:=by
 obtain ⟨hp,g,d,t,os⟩:=s
 obtain ⟨nm,q,N,bs,sn,sub,ab,col,dd,k0,k1,k2,k3,k5,l⟩:=c.obj
 have kC:=X _ _ l
 have v1:=tc_lookup
 have v2:=tc_bind (.ref C)
 have hT:(⟨hp,g,d,t,os⟩:S7).TypeIs (.ref C) "type" :=⟨_,kC,rfl⟩
 refine wpAny_call (codeAny_of_tree ?_)
 show Sh _ _ (callAny (.ref C) _) _ _ _
 repeat (any_goals (first|assumption|with_reducible refine wpAny_loadPart_at kC ?_|wp_step))
 exact ⟨rfl,codeAny_call_builtin_at (Code.quiet_builtin _ (by decide +kernel)) entry_typeCall (wpAny_check_type_call_sub kC (Yd5 c X hz h))⟩
end
end L2
namespace L2
open PySem PySem.Spec PyProof.Rows
def XO (e C:S5) (dx:Option S5) (fr:Bool):HO:=.ext λh=>∃o vs,h.get? e=some o/\o.cls= .ref C/\o.dict=dx/\o.data= .fields vs/\(∃t,vs[0]?=some (.ref t))/\∃y,vs[1]?=some y/\(fr=true->y= .none)
def XD (dx:S5) (fs:List (Str×V)):HO:=.ext λh=>∃mA,h.Ns1 dx mA/\(∀f,Sc7 (fs.lookup f) (mA f))/\PySem.Within mA (fs.map (·.1))/\fs.length<=1000
section
variable {P:Sb} {w:Sd} {H:Hp} {h:Sg} {e C dx:S5} {od:Option S5} {fr:Bool} {fs:List (Str×V)}
theorem Yd6 {o:Obj} {vs:Array S6} (he:h.get? e=some o) (h1:o.cls= .ref C) (h2:o.dict=od) (h3:o.data= .fields vs) (h4:∃t,vs[0]?=some (.ref t)) (h5:∃y,vs[1]?=some y/\(fr=true->y= .none)):Sa7 P w H h e (XO e C od fr):=
 ⟨⟨o,vs,he,h1,h2,h3,h4,h5⟩,⟨o,he⟩,λ_ _ ⟨o,vs,a,r⟩ k=>⟨o,vs,k o a,r⟩⟩
theorem Jtx (hok:HOk P w H h) (q:H e=some (XO e C od fr)):∃o vs,h.get? e=some o/\o.cls= .ref C/\o.dict=od/\o.data= .fields vs/\(∃t,vs[0]?=some (.ref t))/\∃y,vs[1]?=some y/\(fr=true->y= .none):=(hok e _ q).1
theorem Spu {mA:Str->Option S6} (n:h.Ns1 dx mA) (r:∀f,Sc7 (fs.lookup f) (mA f)) (w':PySem.Within mA (fs.map (·.1))) (z:fs.length<=1000):Sa7 P w H h dx (XD dx fs):=
 ⟨⟨mA,n,r,w',z⟩,(let ⟨o,_,_,q,_⟩:=n;⟨o,q⟩),λ_ _ ⟨m,a,r⟩ k=>⟨m,a.at k,r⟩⟩
theorem Smu (hok:HOk P w H h) (q:H dx=some (XD dx fs)):∃mA,h.Ns1 dx mA/\(∀f,Sc7 (fs.lookup f) (mA f))/\PySem.Within mA (fs.map (·.1))/\fs.length<=1000:=(hok dx _ q).1
theorem Jzw (hok:HOk P w H h) (q:H e=some (XO e C (some dx) fr)) (qd:H dx=some (XD dx fs)):∃(ox oD:Obj) (mA:Str->Option S6),PySem.W.InstAt h e ox C (some oD)/\(∀n,PySem.W.lookIn n oD=some (mA n))/\∀f,Sc7 (fs.lookup f) (mA f):=by
 obtain ⟨o,vs,he,hc,hd,hf,_⟩:=Jtx hok q
 obtain ⟨mA,n1,r,_⟩:=Smu hok qd
 obtain ⟨oD,hD,hl⟩:=Jv2 n1
 exact ⟨o,oD,mA,⟨he,hc,by unfold PySem.W.notCls;rw [hf],by rw [hd];exact hD⟩,hl,r⟩
end
section
variable {X:Cx} {pins:List (S5×Obj)} {σ:St} {H:Hp} {s:S7} {e C W fI dx:S5} {fs:List (Str×V)} {fr:Bool} {f:Str} {v:V} {A:Se} {E:S6->S7->Prop}
theorem Jy2 {b:Bool} {Q:S6->S7->Prop} (I:Su X pins σ H s) (q:H e=some (XO e C (some dx) fr)) (qd:H dx=some (XD dx fs)) (c:Saj X.K C W fI) (n:NoAttr X.K C f) (l:fs.lookup f=some v)
  (h:∀u s',Su X pins σ H s'->Sa2 v u->Q u s'):Sh (model X.prog X.w) A (getAttr (.ref e) f b) Q E s:=by
 obtain ⟨ox,oD,mA,J,hl,r⟩:=Jzw I.hok q qd
 obtain ⟨u,hu,ru⟩:=Sc7.some_of (v:=v) (o:=mA f) (by rw [<-l];exact r f)
 exact Sms c I.kIn J (PySem.W.findObj_own c.hd n rfl (by rw [hl,hu])) (Jux ru) (h u _ (I.tok _) ru)
theorem Yd7 {y:V} {u:S6} {Q:Unit->S7->Prop} (I:Su X pins σ H s) (q:H e=some (XO e C none fr)) (c:Saj X.K C W fI) (n:NoAttr X.K C f) (ry:Sa2 y u)
  (h:∀dx s',H dx=none->dx≠e->Su X pins σ (upd (upd H dx (XD dx [(f,y)])) e (XO e C (some dx) fr)) s'->Q () s'):Sh (model X.prog X.w) A (setAttr (.ref e) f u) Q E s:=by
 obtain ⟨o,vs,he,hc,hd,hf,h0,h1⟩:=Jtx I.hok q
 have ne:s.heap.objs.size≠e:=yax (yk he)
 have hn:H s.heap.objs.size=none:=I.hok.fresh (yg _)
 refine Jza c I.kIn he hc hd hf n λh' kp ke n1=>h s.heap.objs.size _ hn ne ?_
 have hD:h'.get? s.heap.objs.size≠none:=by obtain ⟨oD,_,_,q1,_⟩:=n1;rw [q1];exact λz=>nomatch z
 have qd:∀m:Hp,Sa7 X.prog X.w m h' s.heap.objs.size (XD s.heap.objs.size [(f,y)]):=λm=>Spu n1 (λg=>by
  by_cases z:g=f
  ·have zb:(g==f)=true:=beq_iff_eq.mpr z
   simp only [ybt,zb,if_pos z];exact ry
  ·have zb:(g==f)=false:=beq_eq_false_iff_ne.mpr z
   simp only [ybt,zb,if_neg z];exact True.intro) (λg hg=>by
  by_cases z:g=f
  ·rw [z];simp
  ·exact absurd (if_neg z) hg) (by simp)
 have un1:Un X.fs [] H (upd (upd H s.heap.objs.size (XD s.heap.objs.size [(f,y)])) e (XO e C (some s.heap.objs.size) fr)) s.heap h':=by
  have nb:∀b ob,s.heap.get? b=some ob->b≠s.heap.objs.size:=λb ob z=>yr (yk z)
  have sm:∀b u',H b=some u'->u'≠XO e C none fr->upd (upd H s.heap.objs.size (XD s.heap.objs.size [(f,y)])) e (XO e C (some s.heap.objs.size) fr) b=some u':=λb u' z d=>by
   rw [Sz (λw':b=e=>d (by rw [w',q] at z;exact (yac.inj z).symm)),Sz (Jkb z hn)];exact z
  refine ⟨λb ob z n _ _=>kp b ob (λw'=>by rw [w',q] at n;cases n) z,λb ob z n _ _=>⟨ob.slots,kp b ob (λw'=>by rw [w',q] at n;cases n) z⟩,λb ob z n _=>?_,λb ob z _=>?_,λb xs z=>sm b _ z (λw'=>by cases w'),λb ob u' z=>sm b _ z (λw'=>by cases w'),λb ps z=>⟨#[],by rw [sm b _ z (λw'=>by cases w')];simp⟩⟩
  ·rw [Sz (λw'=>by rw [w',q] at n;cases n),Sz (nb b ob z)];exact n
  ·by_cases w':b=e
   ·exact ⟨_,by rw [w'];exact ke⟩
   ·exact ⟨ob,kp b ob w' z⟩
 refine I.un (t':=s.toks+2) un1 λb ob z=>?_
 by_cases w1:b=e
 ·subst w1
  rw [Sv] at z;cases z
  exact Yd6 ke hc rfl hf h0 h1
 ·rw [Sz w1] at z
  by_cases w2:b=s.heap.objs.size
  ·subst w2
   rw [Sv] at z;cases z
   exact qd _
  ·rw [Sz w2] at z
   have keep:∀c' u',H c'=some u'->u'≠XO e C none fr->upd (upd H s.heap.objs.size (XD s.heap.objs.size [(f,y)])) e (XO e C (some s.heap.objs.size) fr) c'=some u':=λc' u' zz d=>by
    rw [Sz (λw':c'=e=>d (by rw [w',q] at zz;exact (yac.inj zz).symm)),Sz (Jkb zz hn)];exact zz
   refine (I.hok b ob z).stay (λc' v' hc' zz=>kp c' v' ?_ zz) (λc' zz=>keep c' _ zz (λw'=>by cases w')) (λc' xs zz=>keep c' _ zz (λw'=>by cases w')) λc' xs zz=>keep c' _ zz (λw'=>by cases w')
   rcases hc' with rfl|hc'
   ·exact w1
   ·rintro rfl;rw [q] at hc';cases hc'
theorem Su.xmade {us:List S6} (I:Su X pins σ H s):Su X pins σ (upd H (s.heap.objs.size+1) (XO (s.heap.objs.size+1) C none true)) {s with heap:=(s.heap.push (Yab us)).push (Sig C s.heap.objs.size)}:=by
 have I1:=I.kept (h':=s.heap.push (Yab us)) (t':=s.toks) λb u q=>yj _ q
 refine I1.laid (a:=s.heap.objs.size+1) (t':=s.toks) (λb u q=>yj _ q) (yca (yaf _ _)) ?_
 exact Yd6 (Heap.get?_push_at (by simp only [yaf]) rfl) rfl rfl rfl ⟨_,rfl⟩ ⟨_,rfl,λ_=>rfl⟩
end
def Spo (K:Si) (ta:TE) (f:Str):TE:=λσ H Q=>ta σ H λx H1=>∃e C W fI dx fs v fr,x= .ref e/\H1 e=some (XO e C (some dx) fr)/\H1 dx=some (XD dx fs)/\Saj K C W fI/\NoAttr K C f/\fs.lookup f=some v/\Q v H1
def Spd (K:Si) (ta tv:TE) (f:Str):TS:=λD σ H=>tv σ H λy H1=>ta σ H1 λx H2=>∃e C W fI fr,x= .ref e/\H2 e=some (XO e C none fr)/\Saj K C W fI/\NoAttr K C f/\∀dx,H2 dx=none->dx≠e->
 D.nx σ (upd (upd H2 dx (XD dx [(f,y)])) e (XO e C (some dx) fr))
def Spm (C:S5) (sp:Sp) (t:TA):TE:=λσ H Q=>t σ H λvs H1=>vs.length<=1000/\∀e,H1 e=none->sp (.ref e::vs) (upd H1 e (XO e C none true)) (λv H2=>v= .non/\Q (.ref e) H2) E0
section
variable {X:Cx} {o e value:Expr} {f:Str} {pos pos' tpos p:Pos} {ta tv:TE} {C W fI:S5} {fd:Sc} {ps:List Str} {sp:Sp} {k j:Nat} {x:Str} {es:List Expr} {t:TA}
theorem Jwe (he:PE X e ta) (hb:attributeBase e f X.env (eval e X.env)=eval e X.env):PE X (.Attribute e f pos) (Spo X.K ta f):=by
 intro pins s σ H Q I h
 refine Jzc hb (thn (he pins s σ H _ I h) λu s1 zq=>?_)
 obtain ⟨x,H1,I1,rx,a,C,W,fI,dx,fs,v,fr,ex,q,qd,c,n,l,k⟩:=zq
 subst ex
 obtain rfl:u=Value.ref a:=rx
 exact Jy2 I1 q qd c n l λu' s2 I2 ru=>⟨v,H1,I2,ru,k⟩
theorem Jny (ha:PE X o ta) (hv:PE X value tv) (hs:swapsWith value (some (.Attribute o f pos')) pos.line X.env=pure false):PS X (.Assign [.Attribute o f pos'] value pos) (Spd X.K ta tv f):=by
 intro pins s σ H D I h
 refine plainObj_wpAny_Assign_Attribute (thn (hv pins s σ H _ I h) λu s1 ⟨y,H1,I1,ry,q⟩=>thn (ha pins s1 σ H1 _ I1 q) λov s2 zq=>?_) hs
 obtain ⟨x,H2,I2,rx,a,C,W,fI,fr,ex,ea,c,n,q2⟩:=zq
 subst ex
 obtain rfl:ov=Value.ref a:=rx
 exact Yd7 I2 ea c n ry λdx s3 h1 h2 I3=>⟨σ,_,I3,q2 dx h1 h2⟩
theorem Ydz {pins:List (S5×Obj)} {σ:St} {H:Hp} {s:S7} {Q:VK} {us:List S6} {vs:List V} (c:Saj X.K C W fI) (G:Sx X.prog X.w X.K X.mg X.base CX0 k fI fd ps sp) (hr:Sal (k+1) X.A) (hb:Sbk X.K fd ps []) (I:Su X pins σ H s) (r:Sa0 vs us) (hz:vs.length<=1000)
  (h:∀e,H e=none->sp (.ref e::vs) (upd H e (XO e C none true)) (λv H2=>v= .non/\Q (.ref e) H2) E0):Sh (model X.prog X.w) X.A (call (.ref C) us) (EP X pins σ Q) X.xe s:=by
 have hq:=h (s.heap.objs.size+1) (I.hok.fresh (Nat.le_succ _))
 have I2:=Su.xmade (C:=C) (us:=us) I
 have r2:Sa0 (V.ref (s.heap.objs.size+1)::vs) (Value.ref (s.heap.objs.size+1)::us):=.cons rfl r
 have hl:(Value.ref (s.heap.objs.size+1)::us++ []).length=ps.length:=by
  rw [yay,<-r2.length,G.len _ _ _ _ hq]
 refine Yeq c I.kIn (by rw [<-r.length];exact yab hz (by decide)) (wpAny_call (codeAny_mono (G.run _ X.stack _ _ ⟨Value.ref (s.heap.objs.size+1)::us,[]⟩ (Value.ref (s.heap.objs.size+1)::us) _ _ E0 (hr.make C us [])
  (I2.env0.make C us []) (by have:=hb _ (Value.ref (s.heap.objs.size+1)::us) I2.kIn hl;rw [yay] at this;exact this) r2 hq) λr s' hq'=>?_))
 cases r with
 |error e=>exact False.elim hq'
 |ok fl=>
  cases fl with
  |ret u=>
   obtain ⟨v,H',I3,rv,ev,q3⟩:=I2.after hq'
   subst ev
   exact ⟨rv,⟨V.ref (s.heap.objs.size+1),H',I3,rfl,q3⟩⟩
  |next=>exact False.elim hq'
  |brk=>exact False.elim hq'
  |cont=>exact False.elim hq'
theorem Jmn (c:Saj X.K C W fI) (G:Sx X.prog X.w X.K X.mg X.base CX0 k fI fd ps sp) (hr:Sal j X.A) (hk:k+1<=j) (hb:Sbk X.K fd ps []) (hm:X.mg x=some (.ref C)) (ha:PA X (e::es) t) (hg:Gl X x:=by rfl)
  (hdb:(x==("__debug__" :Str))=false:=by decide) (he:starEach (e::es) X.env=(false,eval e X.env)::starEach es X.env:=by rfl) (hpl:(backTo pos (starEach es X.env)).any (·.1)=false:=by rfl):
  PE X (.Call (.Name x p) (e::es) [] pos) (Spm C sp t):=by
 intro pins s σ H Q I h
 refine wpAny_Call_Name_kw (Jpi I hg hm ?_ hdb)
 refine PySem.W.callWith_K (h₀:=X.base) I.ok.mod.kin c.kp (thn (ha pos pins s σ H _ I h) λus s1 ⟨vs,H1,I1,r,z,q⟩=>⟨I1.kIn,?_⟩) he hpl
 exact Ydz c G (hr.mono hk) hb I1 r z q
end
section
variable {K:Si} {C W fI:S5} {x:S5}
theorem Su4 (c:Saj K C W fI):PySem.W.KitX K (.ref x) (.ref C) (λh=>∃ox od,PySem.W.InstAt h x ox C (some od)) where
 ty:=λ_ _ _ ⟨_,_,I⟩=>I.type
 it:=λ_ _ X _=>by
  obtain ⟨nm,q,N,bs,sn,sub,ab,col,dd,k0,k1,k2,k3,k5,l⟩:=c.obj
  intro A' Q' E' s' k q
  unfold isType loadHead
  exact S8 (wpAny_loadPart (k _ _ (X _ _ l)) (S9 q))
 ne:=λh tp dd its n sl X htp=>by
  obtain ⟨nm,q,N,bs,sn,sub,ab,col,dd,k0,k1,k2,k3,k5,l⟩:=c.obj
  refine Bool.eq_false_iff.mpr λz=>?_
  have e:C=tp:=Value.ref.inj (beq_iff_eq.mp z)
  subst e
  have z:=congrArg (Option.map (·.cls)) ((X _ _ l).symm.trans htp)
  simp at z
 ca:=λ{prog w A E Q s} X ⟨ox,od,I⟩ kq=>by
  have hf:PySem.W.findObj K C (some od) "__class__" =some (.bind (.builtin "getset_descriptor.__get__") (.builtin "object.__class__")):=PySem.W.findObj_data (by obtain ⟨cd,hc,_⟩:=c.mro;rw [hc];rfl) c.cl c.cg c.ct
  obtain ⟨hp,g,d,t,os⟩:=s
  have T0:=I.type (M:=model prog w)
  have T1:=PySem.W.looks_findIn (M:=model prog w) X c.ga
  have T2:=PySem.W.looks_findIn (M:=model prog w) X c.gh
  unfold getAttr? getAttrBy? getAttrBy
  refine S8 (wpAny_mkText (S8 (wpAny_attempt (wpAny_holding (S8 (T0.at (S8 (T1.at ?_))))))))
  show Sh _ _ (getAttrByItsOwn (.ref x) _ (.ref C) _ _ _) _ _ _
  unfold getAttrByItsOwn
  refine S8 (show Sh _ _ (typeLookup (.ref C) "__getattr__") _ _ _ from T2.at ?_)
  show Sh _ _ ((holding _ (boundAndCalled (.builtin "BaseException.__getattribute__") (.ref x) (.str "__class__" t))).attempt >>=_) _ _ _
  unfold boundAndCalled
  rw [F.excAttr_ValueError.ga.bind]
  refine S8 (wpAny_attempt (wpAny_holding (S8 (S9 (wpAny_call (Jzv (s:=⟨hp,g,d,t+1,os⟩) c X I hf ?_ (λz=>nomatch z)))))))
  show Sh _ _ (holding [_] (call _ [_,.ref x,.ref C]) >>=ret) _ _ _
  refine S8 (wpAny_holding (wpAny_call (PySem.W.class_get (s:=⟨hp,g,d,t+1,os⟩) X I c.mo (S9 ?_))))
  show Sh _ _ (handedOut (.ref C)) _ _ _
  rw [PySem.W.handedOut_of rfl]
  exact S9 (S9 kq)
end
section
variable {M:Model} {A:Se} {E:S6->S7->Prop} {s:S7} {env:Env} {outer:List Env} {base:Sg} {L e T:S5} {oe oT:Obj} {vs ts:Array S6} {Q:Unit->S7->Prop}
theorem Jv6 {head:S6} {hadNext:Bool} (hfr:A.frames=some (env::outer)) (hl:s.heap.FunFrames base (env::outer)) (hf:env.frame=some L) (he:s.heap.get? e=some oe) (hd:oe.data= .fields vs) (hz:1 < vs.size)
  (hQ:∀h' T,(∀b o,s.heap.get? b=some o->b∉frs (env::outer)->b≠e->h'.get? b=some o)->(∀b o,s.heap.get? b=some o->b≠e->∃sl,h'.get? b=some {o with slots:=sl})->s.heap.objs.size<=T->
   h'.get? e=some (oe.mapFields (·.setIfInBounds 1 (.ref T)))->(∃oT ts,h'.get? T=some oT/\oT.data= .fields ts/\ts[3]?=some (rawInt L))->Q () {s with heap:=h'}):
  Sh M A (do let a<-frameOf env;let pl<-entryPlaceOf L hadNext;let b<-EntryCells.newEntry head a .none (rawInt L) .none pl;setField (.ref e) 1 b) Q E s:=by
 have hen:e∉frs (env::outer):=λz=>by
  obtain ⟨_,o,ho,nf⟩:=hl.mem z
  rw [he] at ho
  cases ho
  exact nf vs hd
 refine S8 (wpAny_frameOf_fun hfr hl hf λh1 sl1=>S8 (wpAny_entryPlaceOf λpl hpl=>?_))
 unfold EntryCells.newEntry newFields
 have he1:h1.get? e=some oe:=(sl1.2.1 e hen).trans he
 have nT:h1.objs.size≠e:=yax (yk he1)
 refine S8 (wpAny_newObj_type (wpAny_setField (yj _ he1) hd hz (hQ _ h1.objs.size (λb o hb hn ne=>?_) (λb o hb ne=>?_) (yca sl1.1.symm) (ybn _ (yj _ he1) (Obj.isFreed_of_fields (Obj.data_mapFields hd _))) ?_)) (hpl.sizeOk5 _ _ _ _ _))
 ·rw [ybb _ _ (yi ne)]
  exact yj _ ((sl1.2.1 b hn).trans hb)
 ·obtain ⟨sl,q⟩:=sl1.2.2 b o hb
  exact ⟨sl,by rw [ybb _ _ (yi ne)];exact yj _ q⟩
 ·refine ⟨_,_,(ybb _ _ (yi nT)).trans (yo h1 rfl),rfl,?_⟩
  first|(simp;done)|(rcases hpl with rfl|⟨_,_,_,_,_,_,_,rfl⟩ <;> simp)
theorem Jyk (hfr:A.frames=some (env::outer)) (hl:s.heap.FunFrames base (env::outer)) (hf:env.frame=some L) (he:s.heap.get? e=some oe) (hd:oe.data= .fields vs) (h1:vs[1]?=some .none)
  (hQ:∀h' T,(∀b o,s.heap.get? b=some o->b∉frs (env::outer)->b≠e->h'.get? b=some o)->(∀b o,s.heap.get? b=some o->b≠e->∃sl,h'.get? b=some {o with slots:=sl})->s.heap.objs.size<=T->
   h'.get? e=some (oe.mapFields (·.setIfInBounds 1 (.ref T)))->(∃oT ts,h'.get? T=some oT/\oT.data= .fields ts/\ts[3]?=some (rawInt L))->Q () {s with heap:=h'}):
  Sh M A (noteFrame (.ref e) env) Q E s:=by
 unfold noteFrame
 simp only [hf]
 refine S8 (wpAny_field he hd h1 ?_)
 rw [if_neg (by decide:¬(Value.none !=Value.none)=true)]
 exact Jv6 hfr hl hf he hd (ych.mp h1).1 hQ
theorem Yh (hfr:A.frames=some (env::outer)) (hl:s.heap.FunFrames base (env::outer)) (hf:env.frame=some L) (he:s.heap.get? e=some oe) (hd:oe.data= .fields vs) (h1:vs[1]?=some (.ref T))
  (hT:s.heap.get? T=some oT) (hdT:oT.data= .fields ts) (h3:ts[3]?=some .none) (ne:T≠e)
  (hQ:∀h' T',(∀b o,s.heap.get? b=some o->b∉frs (env::outer)->b≠e->b≠T->h'.get? b=some o)->(∀b o,s.heap.get? b=some o->b≠e->b≠T->∃sl,h'.get? b=some {o with slots:=sl})->s.heap.objs.size<=T'->
   h'.get? e=some (oe.mapFields (·.setIfInBounds 1 (.ref T')))->(∃oT ts,h'.get? T'=some oT/\oT.data= .fields ts/\ts[3]?=some (rawInt L))->Q () {s with heap:=h'}):
  Sh M A (noteFrame (.ref e) env) Q E s:=by
 unfold noteFrame
 simp only [hf]
 refine S8 (wpAny_field he hd h1 ?_)
 rw [if_pos (by simp:(Value.ref T !=Value.none)=true)]
 refine S8 (wpAny_field hT hdT h3 ?_)
 rw [if_neg (by simp [rawInt]:¬(Value.none==rawInt L)=true)]
 have ot:∀b,b≠T->(s.heap.update T (Obj.mapFields (·.setIfInBounds 3 Value.none))).get? b=s.heap.get? b:=λb hb=>ybb _ _ (yi hb)
 have nr:∀b o,s.heap.get? b=some o->(∀ws,o.data≠ .fields ws)->b≠T:=λb o hb nf z=>by
  rw [z,hT] at hb
  cases hb
  exact nf ts hdT
 refine S8 (wpAny_setField hT hdT (ych.mp h3).1 ?_)
 refine Jv6 (s:={s with heap:=s.heap.update T (Obj.mapFields (·.setIfInBounds 3 Value.none))}) hfr (hl.of_keeps λb o hb nf=>⟨o,(ot b (nr b o hb nf)).trans hb,rfl⟩) hf ((ot e (yi ne)).trans he) hd (ych.mp h1).1 λh' T' k1 k2 k3 k4 k5=>?_
 refine hQ h' T' (λb o hb hn h1 h2=>k1 b o ((ot b h2).trans hb) hn h1) (λb o hb h1 h2=>k2 b o ((ot b h2).trans hb) h1) ?_ k4 k5
 have z:(s.heap.update T (Obj.mapFields (·.setIfInBounds 3 Value.none))).objs.size=s.heap.objs.size:=Heap.size_after_update ..
 rw [<-z];exact k3
end
def Flt (X:Cx) (pins:List (S5×Obj)) (H:Hp) (h:Sg) (e:S5) (fl:S6):Prop:=
 ∃oe vs T oT ts,h.get? e=some oe/\oe.data= .fields vs/\vs[1]?=some (.ref T)/\H T=none/\h.get? T=some oT/\oT.data= .fields ts/\ts[3]?=some fl/\X.s₀.heap.objs.size<=T/\∀p∈X.pn++pins,p.1≠T
def Jzb (X:Cx):Prop:=X.stack=X.env::X.outer/\X.env.frame=some X.env.locals
section
variable {X:Cx} {pins:List (S5×Obj)} {σ:St} {H:Hp} {s:S7} {e C:S5} {od:Option S5} {fr fr':Bool} {A:Se} {M:Model} {E:S6->S7->Prop} {Q:Unit->S7->Prop} {fl:S6} {h':Sg}
theorem Su.freeOf (I:Su X pins σ H s) {b:S5} {o:Obj} {ts:Array S6} (hb:s.heap.get? b=some o) (hd:o.data= .fields ts):b≠X.env.locals/\∀x c,X.env.cells.lookup x=some c->c≠b:=by
 refine ⟨λz=>?_,λx c e z=>?_⟩
 ·obtain ⟨m,⟨o',es,ep,ho',hd',_⟩,_⟩:=I.loc
  rw [z,ho'] at hb;cases hb;rw [hd'] at hd;cases hd
 ·obtain ⟨v,o',ho',hd'⟩:=I.cell x c e
  rw [z,hb] at ho';cases ho';rw [hd] at hd';cases hd'
theorem Su.fly {ch:List S5} (I:Su X pins σ H s) (q:H e=some (XO e C od fr)) (hch:∀b∈ch,X.s₀.heap.objs.size<=b/\H b=none/\(∃o ts,s.heap.get? b=some o/\o.data= .fields ts)/\∀p∈X.pn++pins,p.1≠b)
  (k:∀b o,s.heap.get? b=some o->b∉frs X.stack->b≠e->b∉ch->h'.get? b=some o) (ks:∀b o,s.heap.get? b=some o->b≠e->b∉ch->∃sl,h'.get? b=some {o with slots:=sl})
  (new:Sa7 X.prog X.w (upd H e (XO e C od fr')) h' e (XO e C od fr')):Su X pins σ (upd H e (XO e C od fr')) {s with heap:=h'}:=by
 have ne:∀b u,H b=some u->u≠XO e C od fr->b≠e:=λb u z d w'=>d (by rw [w',q] at z;exact (yac.inj z).symm)
 have nn:∀b,H b=none->b≠e:=λb z w'=>by rw [w',q] at z;cases z
 have u:Un (frs X.stack) ch H (upd H e (XO e C od fr')) s.heap h':=by
  refine ⟨λb o hb n hs hc=>k b o hb hs (nn b n) hc,λb o hb n _ hc=>ks b o hb (nn b n) hc,λb o _ n _=>by rw [Sz (nn b n)];exact n,λb o hb hc=>?_,λb xs z=>?_,λb o u z=>?_,λb ps z=>⟨#[],?_⟩⟩
  ·by_cases w':b=e
   ·rw [w'];exact new.2.1
   ·obtain ⟨sl,z⟩:=ks b o hb w' hc
    exact ⟨_,z⟩
  ·rw [Sz (ne b _ z (λw'=>by cases w'))];exact z
  ·rw [Sz (ne b _ z (λw'=>by cases w'))];exact z
  ·rw [Sz (ne b _ z (λw'=>by cases w')),z];simp
 refine I.call (g':=s.gens) (d':=s.drawn) (t':=s.toks) (ch:=ch) u (λb o z=>?_) I.bare λb hb=>?_
 ·by_cases w':b=e
  ·subst w'
   rw [Sv] at z;cases z
   exact new
  ·rw [Sz w'] at z
   refine (I.hok b o z).stay (λc v hc zz=>k c v zz ?_ ?_ ?_) (λc zz=>by rw [Sz (ne c _ zz (λw'=>by cases w'))];exact zz) (λc xs zz=>by rw [Sz (ne c _ zz (λw'=>by cases w'))];exact zz) λc xs zz=>by rw [Sz (ne c _ zz (λw'=>by cases w'))];exact zz
   ·intro hs
    have:=I.stkFree c hs
    rcases hc with rfl|hc
    ·rw [this] at z;cases z
    ·rw [this] at hc;cases hc
   ·rcases hc with rfl|hc
    ·exact w'
    ·exact ne c _ hc (λw'=>by cases w')
   ·intro hb
    have:=(hch c hb).2.1
    rcases hc with rfl|hc
    ·rw [this] at z;cases z
    ·rw [this] at hc;cases hc
 ·obtain ⟨h1,_,⟨o,ts,ho,hd⟩,h4⟩:=hch b hb
  exact ⟨.inr h1,(I.freeOf ho hd).1,(I.freeOf ho hd).2,h4⟩
theorem Jvz (I:Su X pins σ H s) (hs:Jzb X) (hA:A.frames=some X.stack) (q:H e=some (XO e C od fr)) (hfl:fr=true\/Flt X pins H s.heap e .none)
  (h:∀s',Su X pins σ (upd H e (XO e C od false)) s'->Flt X pins (upd H e (XO e C od false)) s'.heap e (rawInt X.env.locals)->Q () s'):Sh M A (noteFrame (.ref e) X.env) Q E s:=by
 obtain ⟨o,vs,he,hc,hd,hf,⟨t0,h0⟩,y,h1,hy⟩:=Jtx I.hok q
 have hA':A.frames=some (X.env::X.outer):=by rw [hA,hs.1]
 have FF:s.heap.FunFrames X.base (X.env::X.outer):=by rw [<-hs.1];exact I.stack
 have sub:∀b,b∉frs X.stack->b∉frs (X.env::X.outer):=λb z w'=>z (by rw [hs.1];exact w')
 have new:∀{h':Sg} {T:S5},h'.get? e=some (o.mapFields (·.setIfInBounds 1 (.ref T)))->Sa7 X.prog X.w (upd H e (XO e C od false)) h' e (XO e C od false):=λ{h' T} z=>by
  have hz:1 < vs.size:=(ych.mp h1).1
  refine Yd6 z ((Obj.cls_mapFields _ _).trans hc) ?_ (Obj.data_mapFields hf _) ⟨t0,by rw [Array.getElem?_setIfInBounds_ne (by decide)];exact h0⟩ ⟨.ref T,by simp [hz],λz=>nomatch z⟩
  obtain ⟨_,_,dt,_⟩:=o
  cases dt <;> first|exact hd|cases hf
 have fin:∀{h':Sg} {T:S5},Su X pins σ (upd H e (XO e C od false)) {s with heap:=h'}->s.heap.objs.size<=T->h'.get? e=some (o.mapFields (·.setIfInBounds 1 (.ref T)))->(∃oT ts,h'.get? T=some oT/\oT.data= .fields ts/\ts[3]?=some (rawInt X.env.locals))->Q () {s with heap:=h'}:=λ{h' T} J k3 k4 ⟨oT,ts,k5,k6,k7⟩=>by
  have hz:1 < vs.size:=(ych.mp h1).1
  refine h _ J ⟨_,_,T,oT,ts,k4,Obj.data_mapFields hf _,by simp [hz],?_,k5,k6,k7,yab I.sz k3,λp hp z=>?_⟩
  ·rw [Sz (λz=>absurd (yk he) (by rw [<-z];exact yav.mpr k3))]
   exact I.hok.fresh k3
  ·obtain ⟨z1,_⟩:=I.pin p hp
   exact absurd (yk z1) (by rw [z];exact yav.mpr k3)
 by_cases hfr:y= .none
 ·subst hfr
  refine Jyk hA' FF hs.2 he hf h1 λh' T k1 k2 k3 k4 k5=>fin (I.fly (ch:=[]) q (λb z=>absurd z (by simp)) (λb o hb hn ne _=>k1 b o hb (sub b hn) ne) (λb o hb ne _=>k2 b o hb ne) (new k4)) k3 k4 k5
 ·rcases hfl with z|⟨oe,ws,T,oT,ts,z1,z2,z3,z4,z5,z6,z7,z8,z9⟩
  ·exact absurd (hy z) hfr
  ·rw [he] at z1;cases z1
   rw [hf] at z2;cases z2
   have ne:T≠e:=λw'=>by rw [w',q] at z4;cases z4
   refine Yh hA' FF hs.2 he hf z3 z5 z6 z7 ne λh' T' k1 k2 k3 k4 k5=>fin (I.fly (ch:=[T]) q (λb hb=>?_) (λb o hb hn ne hc=>k1 b o hb (sub b hn) ne (by simpa using hc)) (λb o hb ne hc=>k2 b o hb ne (by simpa using hc)) (new k4)) k3 k4 k5
   obtain rfl:b=T:=by simpa using hb
   exact ⟨z8,z4,⟨oT,ts,z5,z6⟩,z9⟩
theorem Jpg (I:Su X pins σ H s) (q:H e=some (XO e C od fr)) (hfl:Flt X pins H s.heap e fl) (h:∀s',Su X pins σ H s'->Flt X pins H s'.heap e .none->Q () s'):Sh M A (setFlight (.ref e) none) Q E s:=by
 obtain ⟨oe,vs,T,oT,ts,z1,z2,z3,z4,z5,z6,z7,z8,z9⟩:=hfl
 have hz:3 < ts.size:=(ych.mp z7).1
 have ne:T≠e:=λw'=>by rw [w',q] at z4;cases z4
 have ot:∀b,b≠T->(s.heap.update T (Obj.mapFields (·.setIfInBounds 3 Value.none))).get? b=s.heap.get? b:=λb hb=>ybb _ _ (yi hb)
 refine wpAny_setFlight_none z1 z2 z3 z5 z6 hz (h _ (I.turned (it:=T) (t':=s.toks) (λb o hb z=>(ot b hb).trans z) z4 (I.freeOf z5 z6).1 (.inr z8) (I.freeOf z5 z6).2 z9) ?_)
 exact ⟨oe,vs,T,_,_,(ot e (yi ne)).trans z1,z2,z3,z4,ybn _ z5 (Obj.isFreed_of_fields (Obj.data_mapFields z6 _)),Obj.data_mapFields z6 _,by simp [hz],z8,z9⟩
end
def CXX (P:Sb) (w:Sd):CXT:=λouter H s E ev s'=>∃e C dx H',ev= .ref e/\s'.os=s.os/\AllBare s'.gens/\Un (frs outer) [] H H' s.heap s'.heap/\HOk P w H' s'.heap/\H' e=some (XO e C (some dx) false)/\
 (∃oe vs T oT ts,s'.heap.get? e=some oe/\oe.data= .fields vs/\vs[1]?=some (.ref T)/\H' T=none/\s'.heap.get? T=some oT/\oT.data= .fields ts/\ts[3]?=some .none/\s.heap.objs.size<=T)/\E (.ref C) (some e) H'
def Jqr (X:Cx) (R:St->XK):Prop:=∀pins σ H s e C dx fr,Su X pins σ H s->H e=some (XO e C (some dx) fr)->(fr=true\/Flt X pins H s.heap e .none)->R σ (.ref C) (some e) (upd H e (XO e C (some dx) false))->X.xe (.ref e) s
theorem Jlp {P:Sb} {w:Sd} {K:Si} {mg:Str->Option S6} {base:Sg} {N:List Str} {qual:Str} {scope:Scope} {f:S5} {cd:S6} {A:Se} {outer:List Env} {s:S7} {H:Hp} {E:XK}:
  Jqr (Jvq (CXX P w) P w K mg base N qual scope f cd A outer s H E) (λ_=>E):=by
 intro pins σ H1 s1 e C dx fr I q hfl hE
 show Sh _ _ (leaving _ _) _ _ _
 unfold leaving
 refine S8 (Jvz I ⟨rfl,rfl⟩ I.ok.frames q hfl λs2 I2 f2=>Jpg I2 Sv f2 λs3 I3 f3=>?_)
 obtain ⟨oe,vs,T,oT,ts,z1,z2,z3,z4,z5,z6,z7,z8,_⟩:=f3
 exact ⟨e,C,dx,_,rfl,I3.os,I3.bare,I3.base,I3.hok,Sv,⟨oe,vs,T,oT,ts,z1,z2,z3,z4,z5,z6,z7,z8⟩,hE⟩
theorem Smp {H:Hp} {a:S5} {o:HO} (h:H a=some o):upd H a o=H:=by
 funext b
 unfold upd
 split
 ·rename_i z;rw [z,h]
 ·rfl
section
variable {X:Cx} {pins:List (S5×Obj)} {σ:St} {H:Hp} {s s':S7} {R:St->XK} {ev:S6}
theorem Jzx (hw:Jqr X R) (I:Su X pins σ H s) (h:CXX X.prog X.w X.stack H s (R σ) ev s'):X.xe ev s':=by
 obtain ⟨e,C,dx,H',rfl,ho,hg,un,hok,q,⟨oe,vs,T,oT,ts,z1,z2,z3,z4,z5,z6,z7,z8⟩,hR⟩:=h
 have I':Su X pins σ H' s':=I.call' (ch:=[]) ho un hok hg λb z=>absurd z (by simp)
 refine hw pins σ H' s' e C dx false I' q (.inr ⟨oe,vs,T,oT,ts,z1,z2,z3,z4,z5,z6,z7,yab I.sz z8,λp hp z=>?_⟩) (by rw [Smp q];exact hR)
 obtain ⟨y1,_⟩:=I.pin p hp
 exact absurd (yk y1) (by rw [z];exact yav.mpr z8)
end
theorem Sx.calm {P:Sb} {w:Sd} {K:Si} {mg:Str->Option S6} {base:Sg} {k:Nat} {f:S5} {fd:Sc} {ps:List Str} {sp:Sp} (G:Sx P w K mg base (CXX P w) k f fd ps sp):Sx P w K mg base CX0 k f fd ps (λvs H Q _=>sp vs H Q E0):=
 ⟨λvs H Q _ h=>G.len vs H Q E0 h,λA outer s H args us vs Q E hr he hb hv hs=>codeAny_mono (G.run A outer s H args us vs Q E0 hr he hb hv hs) λr s' hq=>by
  cases r with
  |error e=>obtain ⟨_,_,_,_,_,_,_,_,_,_,_,z⟩:=hq;exact z.elim
  |ok fl=>cases fl <;> exact hq⟩
theorem Fun.okX {P:Sb} {w:Sd} {K:Si} {mg:Str->Option S6} {base:Sg} {x qual:Str} {st:Sf} {f:S5} {fd:Sc} {N ps:List Str} {k:Nat} {sp:Sp} (F:Fun K x qual st f fd) (S:Jkd N ps (Jk9 st)) (len:∀vs H Q E,sp vs H Q E->vs.length=ps.length)
  (hbody:∀(cdv:S6) (A:Se) (outer:List Env) (s:S7) (H:Hp) (vs:List V) (Q:VK) (E:XK),Sal k (A.deeper (envOfC qual (Jk9 st) s.heap.objs.size f cdv))->sp vs H Q E->
   ∃t,PSs (Jvq (CXX P w) P w K mg base N qual (Jk9 st) f cdv A outer s H E) (Jl7 st) t/\t {nx:=λ_ H'=>Q .non H',rt:=Q} (start N vs) H):Sx P w K mg base (CXX P w) (k+1) f fd ps sp:=by
 obtain ⟨oc,od,kV,doc,pm,an,cdv,ct,osl,rfl,lk,hcd⟩:=F.ex
 exact Sjy lk hcd S len λA outer s H vs Q E hr hsp=>hbody cdv A outer s H vs Q E hr hsp
def Smg (sp:Sp) (R:St->XK) (t:TA):TE:=λσ H Q=>t σ H λvs H1=>sp vs H1 Q (R σ)
section
variable {X:Cx} {k j:Nat} {f C:S5} {fd:Sc} {ps:List Str} {sp:Sp} {R:St->XK} {x m:Str} {p pos apos:Pos} {e o:Expr} {es:List Expr} {ta:TE} {t:TA}
theorem Ye0 {pins:List (S5×Obj)} {σ:St} {H:Hp} {s:S7} {Q:VK} {us:List S6} {vs:List V} (G:Sx X.prog X.w X.K X.mg X.base (CXX X.prog X.w) k f fd ps sp) (hw:Jqr X R) (hr:Sal k X.A) (hb:Sbk X.K fd ps [])
  (I:Su X pins σ H s) (r:Sa0 vs us) (h:sp vs H Q (R σ)):Sh (model X.prog X.w) X.A (call (.ref f) us) (EP X pins σ Q) X.xe s:=by
 have hl:(us++ []).length=ps.length:=by rw [yay,<-r.length,G.len _ _ _ _ h]
 have hb':=hb s us I.kIn hl
 rw [yay] at hb'
 refine wpAny_call (codeAny_mono (G.run X.A X.stack s H ⟨us,[]⟩ us vs Q (R σ) hr I.env0 hb' r h) λr s' hq=>?_)
 cases r with
 |error e=>exact Jzx hw I hq
 |ok fl=>
  cases fl with
  |ret u=>exact I.after hq
  |next=>exact False.elim hq
  |brk=>exact False.elim hq
  |cont=>exact False.elim hq
theorem Jmg {st:Sf} (F:FT X.K X.mg x st ps f fd) (G:Sx X.prog X.w X.K X.mg X.base (CXX X.prog X.w) k f fd ps sp) (hw:Jqr X R) (hr:Sal j X.A) (hk:k<=j) (ha:PA X (e::es) t) (hg:Gl X x:=by rfl)
  (hdb:(x==("__debug__" :Str))=false:=by decide) (he:starEach (e::es) X.env=(false,eval e X.env)::starEach es X.env:=by rfl) (hpl:(backTo pos (starEach es X.env)).any (·.1)=false:=by rfl):
  PE X (.Call (.Name x p) (e::es) [] pos) (Smg sp R t):=by
 intro pins s σ H Q I h
 refine wpAny_Call_Name_kw (Jpi I hg F.mgx ?_ hdb)
 refine PySem.W.callWith_K (h₀:=X.base) I.ok.mod.kin F.fn.kp (thn (ha pos pins s σ H _ I h) λus s1 ⟨vs,H1,I1,r,q⟩=>⟨I1.kIn,?_⟩) he hpl
 exact Ye0 G hw (hr.mono hk) F.bd I1 r q
end
def Yc0 (K:Si) (R:St->XK) (te:TE):TS:=λ_ σ H=>te σ H λv H1=>∃e C W fI dx,v= .ref e/\H1 e=some (XO e C (some dx) true)/\Saj K C W fI/\R σ (.ref C) (some e) (upd H1 e (XO e C (some dx) false))
section
variable {X:Cx} {R:St->XK} {x:Expr} {pos:Pos} {te:TE}
theorem Jll (hw:Jqr X R) (hc:X.calm=true) (hx:PE X x te):PS X (.Raise (some x) none pos) (Yc0 X.K R te):=by
 intro pins s σ H D I h
 rw [arm_exec_Raise]
 refine S8 (wpAny_standAt ?_)
 show Sh _ _ (raiseStmt X.env (some (do let v<-eval x X.env;standAt pos;pure v)) none) _ _ _
 unfold raiseStmt
 refine S8 (S8 (thn (hx pins s σ H _ I h) λu s1 ⟨y,H1,I1,ry,e,C,W,fI,dx,ey,q,c,k⟩=>S8 (wpAny_standAt (S9 ?_))))
 subst ey
 obtain rfl:u=Value.ref e:=ry
 obtain ⟨o,vs,he,hcl,hd,hf,h0,y,h1,hy⟩:=Jtx I1.hok q
 have hy':=hy rfl
 subst hy'
 have fin:X.xe (.ref e) s1:=hw pins σ H1 s1 e C dx true I1 q (.inl rfl) k
 have hh:X.A.handled=none:=I.ok.hd hc
 obtain ⟨nm,qn,N,bs,sn,sub,ab,col,dd,k0,k1,k2,k3,k5,l⟩:=c.obj
 have kC:=I1.kIn _ _ l
 have hcB:(Value.ref C:: .ref W::VEm).contains (.type "BaseException")=true:=by simp
 obtain ⟨oc,odi,oda,osl⟩:=o
 dsimp only at hcl hd hf
 subst hcl hd hf
 obtain ⟨hp,g,d,tk,os⟩:=s1
 repeat (first|with_reducible refine wpAny_loadPart_at he ?_|with_reducible refine wpAny_loadPart_at kC ?_|(with_reducible refine wpAny_isSubtype_exc kC ?_;rw [hcB])|with_reducible refine wpAny_field he rfl h1 ?_|wp_step)
 exact wpAny_raiseNew_none hh fin
end
structure Siy (K:Si) (C:S5):Prop where
 obj:∃(dd:Option S5) (cd:ClassData) (sl:Array (Option S6)),K.lookup C=some ⟨.type "type",dd,.cls cd,sl⟩
 mb:Sl K C (.type "BaseException")=some true
section
variable {prog:Sb} {w:Sd} {A:Se} {E:S6->S7->Prop} {s:S7} {K:Si} {e C C0:S5} {oe:Obj} {b:Bool}
theorem Jyh {Q:Bool->S7->Prop} (X:K.In s.heap) (c0:Siy K C0) (he:s.heap.get? e=some oe) (hc:oe.cls= .ref C) (hm:Sl K C (.ref C0)=some b) (q:Q b s):Sh (model prog w) A (excMatches (.ref e) (.ref C0)) Q E s:=by
 obtain ⟨dd,cd,sl,l⟩:=c0.obj
 have k0:=X _ _ l
 have f0:=tc_notTuple
 have m1:=PySem.W.looks_mroIn (M:=model prog w) X c0.mb
 have m2:=PySem.W.looks_mroIn (M:=model prog w) X hm
 obtain ⟨oc,odi,oda,osl⟩:=oe
 dsimp only at hc
 subst hc
 obtain ⟨hp,g,d,tk,os⟩:=s
 unfold excMatches
 repeat (first|with_reducible refine wpAny_loadPart_at he ?_|with_reducible refine wpAny_loadPart_at k0 ?_|with_reducible refine m1.at ?_|with_reducible refine m2.at ?_|wp_step)
 cases b <;> (repeat wp_step) <;> exact q
end
def Cx.caught (X:Cx) (e:S5):Cx:={X with A:=X.A.mark (some (.ref e)),calm:=false,xe:=λ_ _=>False}
def Cx.tried (X:Cx) (pins:List (S5×Obj)) (R:St->XK):Cx:=
 {X with pn:=X.pn++pins,xe:=λev s'=>∃σ H e C dx fr,ev= .ref e/\Su X pins σ H s'/\H e=some (XO e C (some dx) fr)/\(fr=true\/Flt X pins H s'.heap e .none)/\R σ (.ref C) (some e) (upd H e (XO e C (some dx) false))}
section
variable {X:Cx} {pins pins':List (S5×Obj)} {σ:St} {H:Hp} {s:S7} {R:St->XK} {e:S5}
theorem Su.caught (I:Su X pins σ H s) (e:S5):Su (X.caught e) pins σ H s:=
 ⟨⟨I.ok.mod,I.ok.kind,I.ok.glob,I.ok.blt,I.ok.above,I.ok.inj,I.ok.has,I.ok.cab,(λz=>nomatch z),I.ok.frames,I.ok.stk,I.ok.exf,I.ok.bs,I.ok.bsz,I.ok.noex,I.ok.exfs,I.ok.funs,I.ok.frf⟩,I.os,I.bare,I.base,I.loc,I.cell,I.free,I.freeC,I.pin,I.hok,I.len⟩
theorem Su.uncaught (ok:X.Ok) (I:Su (X.caught e) pins σ H s):Su X pins σ H s:=⟨ok,I.os,I.bare,I.base,I.loc,I.cell,I.free,I.freeC,I.pin,I.hok,I.len⟩
theorem Su.tried (I:Su X pins σ H s) (R:St->XK):Su (X.tried pins R) [] σ H s:=
 ⟨⟨I.ok.mod,I.ok.kind,I.ok.glob,I.ok.blt,I.ok.above,I.ok.inj,I.ok.has,I.ok.cab,I.ok.hd,I.ok.frames,I.ok.stk,I.ok.exf,I.ok.bs,I.ok.bsz,I.ok.noex,I.ok.exfs,I.ok.funs,I.ok.frf⟩,I.os,I.bare,I.base,I.loc,I.cell,I.free,I.freeC,(λp hp=>I.pin p (by rw [yay] at hp;exact hp)),I.hok,I.len⟩
theorem Su.untried (I:Su (X.tried pins R) pins' σ H s):Su X pins σ H s:=
 ⟨⟨I.ok.mod,I.ok.kind,I.ok.glob,I.ok.blt,I.ok.above,I.ok.inj,I.ok.has,I.ok.cab,I.ok.hd,I.ok.frames,I.ok.stk,I.ok.exf,I.ok.bs,I.ok.bsz,I.ok.noex,I.ok.exfs,I.ok.funs,I.ok.frf⟩,I.os,I.bare,I.base,I.loc,I.cell,I.free,I.freeC,(λp hp=>I.pin p (List.mem_append_left _ hp)),I.hok,I.len⟩
theorem Smv:Jqr (X.tried pins R) R:=λpins' σ H s e C dx fr I q hfl hR=>⟨σ,H,e,C,dx,fr,rfl,I.untried,q,hfl.imp id λ⟨oe,vs,T,oT,ts,z1,z2,z3,z4,z5,z6,z7,z8,z9⟩=>⟨oe,vs,T,oT,ts,z1,z2,z3,z4,z5,z6,z7,z8,λp hp=>z9 p (List.mem_append_left _ hp)⟩,hR⟩
theorem SP.map {X Y:Cx} {pl pm:List (S5×Obj)} {D:Sbs} {f:Flow} {s':S7} (hI:∀σ H,Su X pl σ H s'->Su Y pm σ H s') (h:SP X pl D f s'):SP Y pm D f s':=by
 cases f with
 |next=>obtain ⟨σ',H',I,q⟩:=h;exact ⟨σ',H',hI _ _ I,q⟩
 |brk=>obtain ⟨σ',H',I,q⟩:=h;exact ⟨σ',H',hI _ _ I,q⟩
 |cont=>obtain ⟨σ',H',I,q⟩:=h;exact ⟨σ',H',hI _ _ I,q⟩
 |ret u=>obtain ⟨v,σ',H',I,r,q⟩:=h;exact ⟨v,σ',H',hI _ _ I,r,q⟩
theorem Ya7 {M:Model} {A:Se} {E:S6->S7->Prop} {i:Nat} {n:Str} {pos:Pos} {Q:Unit->S7->Prop} (I:Su X pins σ H s) (hN:X.N.Nodup) (hi:X.N[i]?=some n) (hk:X.env.scope.names.lookup n=some .local)
  (h:∀s',Su X pins (σ.set i none) H s'->Q () s'):Sh M A (do bindName X.env n .none;unbindBehindTheSuite X.env n pos) Q E s:=by
 obtain ⟨m,hn,hl⟩:=id I.loc
 have hcls:(X.env.scope.kind== .class||(X.env.scope.kind== .module&&X.env.locals !=X.env.globals))=false:=by rw [I.ok.kind];rfl
 have cne:=I.cne
 refine wpAny_nameGoes_keeps hk hn hcls λh' v hn' sb=>h _ ?_
 obtain ⟨oL,_,_,hoL,_⟩:=id hn
 have lo:∀b o,X.s₀.heap.get? b=some o->b≠X.env.locals:=λb o z=>yr (yao (yk z) I.ok.above)
 refine ⟨I.ok,I.os,I.bare,⟨λb o z n hb hx=>(sb.2 b (lo b o z)).trans (I.base.keep b o z n hb hx),λb o z n hb hx=>?_,I.base.free,λb o z hx=>?_,I.base.tups,I.base.frzs,I.base.tbls⟩,⟨_,hn',λj y v' e1 e2 e3=>?_⟩,λy c z=>?_,I.free,I.freeC,λp hp=>?_,λb ob z=>?_,by simpa using I.len⟩
 ·obtain ⟨sl,z1⟩:=I.base.slot b o z n hb hx
  exact ⟨sl,(sb.2 b (lo b o z)).trans z1⟩
 ·obtain ⟨o',z1⟩:=I.base.there b o z hx
  exact ⟨o',(sb.2 b (lo b o z)).trans z1⟩
 ·have hj:j≠i:=λz=>by
   subst z
   have:j < σ.length:=by rw [I.len];exact (yq.mp hi).1
   rw [List.getElem?_set_self this] at e2
   cases e2
  rw [ycr (yi hj)] at e2
  obtain ⟨u',r',q⟩:=hl j y v' e1 e2 e3
  refine ⟨u',r',?_⟩
  rcases q with ⟨k,z⟩|⟨k,c,z,zz⟩
  ·refine .inl ⟨k,?_⟩
   have:y≠n:=λz=>hj (Jt9 hN e1 (z▸hi))
   show (if y=n then v else m y)=some u'
   rw [if_neg this];exact z
  ·exact .inr ⟨k,c,z,zz.sameBut sb (cne y c z)⟩
 ·obtain ⟨w',zz⟩:=I.cell y c z
  exact ⟨w',zz.sameBut sb (cne y c z)⟩
 ·obtain ⟨z,n,ne,nf,d⟩:=I.pin p hp
  exact ⟨(sb.2 p.1 ne).trans z,n,ne,nf,d⟩
 ·refine (I.hok b ob z).stay (λc w' hc q=>(sb.2 c ?_).trans q) (λ_ q=>q) (λ_ _ q=>q) λ_ _ q=>q
  rintro rfl
  rcases hc with rfl|hc
  ·rw [I.free] at z;cases z
  ·rw [I.free] at hc;cases hc
end
abbrev TH:=Sbs->St->S6->Option S5->Hp->Prop
def PH (X:Cx) (hs:List ExceptHandler) (th:TH):Prop:=
 ∀(pins:List (S5×Obj)) (s:S7) (σ:St) (H:Hp) (D:Sbs) (e C dx:S5),Su X pins σ H s->H e=some (XO e C (some dx) false)->Flt X pins H s.heap e .none->th D σ (.ref C) (some e) H->
  Sh (model X.prog X.w) X.A (handleBy (.ref e) X.env hs) (SP X pins D) X.xe s
def Stc:TH:=λ_ _ _ _ _=>False
theorem Ybp {X:Cx}:PH X [] Stc:=λ_ _ _ _ _ _ _ _ _ _ _ h=>h.elim
def Sbs.less (D:Sbs) (i:Nat):Sbs:=⟨λσ H=>D.nx (σ.set i none) H,D.rt,λσ H=>D.bk (σ.set i none) H,λσ H=>D.ct (σ.set i none) H⟩
def hAs (K:Si) (C0:S5) (i:Nat) (ts:S5->TS) (th:TH):TH:=λD σ c eo H=>∃e C b,c= .ref C/\eo=some e/\Sl K C (.ref C0)=some b/\if b=true then ts e (D.less i) (σ.set i (some (.ref e))) H else th D σ c eo H
section
variable {X:Cx} {x n:Str} {np pos:Pos} {C0:S5} {i:Nat} {b₀:Sf} {suite:List Sf} {rest:List ExceptHandler} {ts:S5->TS} {th:TH}
theorem Sk9 (c0:Siy X.K C0) (hm:X.mg x=some (.ref C0)) (hN:X.N.Nodup) (hi:X.N[i]?=some n) (hl:X.env.scope.names.lookup n=some .local) (hsu:∀e,PSs (X.caught e) (b₀::suite) (ts e)) (hr:PH X rest th) (hg:Gl X x:=by rfl)
  (hdb:(x==("__debug__" :Str))=false:=by decide):PH X (.ExceptHandler (some (.Name x np)) (some n) (b₀::suite) pos::rest) (hAs X.K C0 i ts th):=by
 rintro pins s σ H D e C dx I q hfl ⟨e',C',b,hC,he,hmr,h⟩
 cases hC
 cases he
 obtain ⟨o,vs,go,gc,_⟩:=Jtx I.hok q
 refine wpAny_handleBy_cons (codeAny_handlers_test (Jpi (X:=X.caught e) (I.caught e) hg hm (Jyh I.kIn c0 go gc hmr ?_) hdb)) (λz=>by cases z)
 cases b with
 |false=>exact hr pins s σ H D e C dx I q hfl h
 |true=>
  refine codeAny_handlers_suite_as (Jpg I q hfl λs1 I1 f1=>Jpc (v:=.ref e) I1 hN hi (.inl hl) rfl (λs2 I2=>?_) (.inr hl))
  refine wpAny_mono (hsu e pins s2 _ H (D.less i) (I2.caught e) h) (λf s3 hf=>?_) λ_ _ z=>False.elim z
  have go:∀{f:Flow} {σ':St} {H':Hp},Su (X.caught e) pins σ' H' s3->(∀s',Su X pins (σ'.set i none) H' s'->SP X pins D f s')->Sh (model X.prog X.w) X.A (do bindName X.env n .none;unbindBehindTheSuite X.env n pos) (λ_ s'=>SP X pins D f s') X.xe s3:=
   λ{f σ' H'} I3 k=>Ya7 (Su.uncaught I.ok I3) hN hi hl k
  cases f with
  |next=>obtain ⟨σ',H',I3,k⟩:=hf;exact go I3 λs' I'=>⟨_,H',I',k⟩
  |brk=>obtain ⟨σ',H',I3,k⟩:=hf;exact go I3 λs' I'=>⟨_,H',I',k⟩
  |cont=>obtain ⟨σ',H',I3,k⟩:=hf;exact go I3 λs' I'=>⟨_,H',I',k⟩
  |ret u=>obtain ⟨v,σ',H',I3,r,k⟩:=hf;exact go I3 λs' I'=>⟨v,_,H',I',r,k⟩
end
def Su2 (tb:List (S5×Obj)->(St->XK)->TS) (th:TH):TS:=λD σ H=>∀pins,tb pins (λσ' c e H'=>th D σ' c e H') D σ H
theorem Ybu {X:Cx} {body:List Sf} {h₀:ExceptHandler} {hs:List ExceptHandler} {pos:Pos} {tb:List (S5×Obj)->(St->XK)->TS} {th:TH} (hst:Jzb X) (hb:∀pins R,Jqr (X.tried pins R) R->PSs (X.tried pins R) body (tb pins R)) (hh:PH X (h₀::hs) th):
  PS X (.Try body (h₀::hs) [] [] pos) (Su2 tb th):=by
 intro pins s σ H D I h
 refine wpAny_Try_except (wpAny_mono (hb pins (λσ' c e H'=>th D σ' c e H') Smv [] s σ H D (I.tried _) (h pins)) (λf s1 hf=>?_) λev s1 hx=>?_)
 ·have hf':SP X pins D f s1:=hf.map λ_ _ J=>J.untried
  cases f with
  |next=>exact wpAny_execs_nil hf'
  |brk=>exact hf'
  |cont=>exact hf'
  |ret u=>exact hf'
 ·obtain ⟨σ',H',e,C,dx,fr,rfl,I',q,hfl,hR⟩:=hx
  exact Jvz I' hst I'.ok.frames q hfl λs2 I2 f2=>Jpg I2 Sv f2 λs3 I3 f3=>hh pins s3 σ' _ D e C dx I3 Sv f3 hR
structure FM (K:Si) (x qual:Str) (st:Sf) (ps:List Str) (f:S5) (fd:Sc):Prop where
 fn:Fun K x qual st f fd
 bd:Sbk K fd ps []
structure Sge (K:Si) (C:S5):Prop where
 ya:Sk K (.ref C) "__class__" =some (some (.builtin "object.__class__"))
 yb:PySem.W.specialIn K (.builtin "object.__class__") "__get__" =some (some (.builtin "getset_descriptor.__get__"))
 yc:PySem.W.takesIn K (.builtin "object.__class__")=some true
 yd:Sl K C (.type "object")=some true
theorem Sge.ty {K:Si} {C a dx:S5} {H:Hp} {fs:List (Str×V)} (y:Sge K C) (c:Cls K C) (e:H a=some (.ins C dx fs)):Jrf K H (.ref a) (.ref C):=.ins e c y.ya y.yb y.yc y.yd
def Jo3 (K:Si) (f:Str):Sp:=λvs H Q _=>∃e C W fI y,vs= [.ref e,y]/\H e=some (XO e C none true)/\Saj K C W fI/\NoAttr K C f/\∀dx,H dx=none->dx≠e->Q .non (upd (upd H dx (XD dx [(f,y)])) e (XO e C (some dx) true))
theorem Y8 {K:Si} {C W fI:S5} {f:Str} {y:V} {H:Hp} {Q:VK} (c:Saj K C W fI) (n:NoAttr K C f) (k:∀e dx,H e=none->H dx=none->dx≠e->Q (.ref e) (upd (upd H dx (XD dx [(f,y)])) e (XO e C (some dx) true))):
  [y].length<=1000/\∀e,H e=none->Jo3 K f (.ref e:: [y]) (upd H e (XO e C none true)) (λv H2=>v= .non/\Q (.ref e) H2) E0:=by
 refine ⟨by simp,λe he=>⟨e,C,W,fI,y,rfl,Sv,c,n,λdx h1 h2=>⟨rfl,?_⟩⟩⟩
 have z:=k e dx he (by rw [Sz h2] at h1;exact h1) h2
 have e2:upd (upd (upd H e (XO e C none true)) dx (XD dx [(f,y)])) e (XO e C (some dx) true)=upd (upd H dx (XD dx [(f,y)])) e (XO e C (some dx) true):=by
  funext b
  unfold upd
  split
  ·rfl
  ·split <;> rfl
 rw [e2]
 exact z
section
variable {X:Cx} {pins:List (S5×Obj)} {σ:St} {H:Hp} {s:S7}
theorem Su.turnTup {ch:List S5} {T:S5} {xs:List V} {h':Sg} {t':Nat} (I:Su X pins σ H s) (hch:∀b∈ch,Jrd X pins H b) (k:∀b o,b∉ch->s.heap.get? b=some o->h'.get? b=some o) (hT:s.heap.objs.size<=T)
  (new:Sa7 X.prog X.w (upd H T (.tup xs)) h' T (.tup xs)):Su X pins σ (upd H T (.tup xs)) {s with heap:=h',toks:=t'}:=by
 have hn:H T=none:=I.hok.fresh hT
 have nb:∀b o,s.heap.get? b=some o->b≠T:=λb o z w'=>absurd (yk z) (by rw [w'];exact yav.mpr hT)
 have nt:∀b u,H b=some u->b≠T:=λb u z=>Jkb z hn
 have nc:∀b u,H b=some u->b∉ch:=λb u z w'=>by rw [(hch b w').1] at z;cases z
 have u:Un (frs X.stack) ch H (upd H T (.tup xs)) s.heap h':=by
  refine ⟨λb o hb n hs hc=>k b o hc hb,λb o hb n _ hc=>⟨o.slots,k b o hc hb⟩,λb o hb n _=>by rw [Sz (nb b o hb)];exact n,λb o hb hc=>⟨o,k b o hc hb⟩,λb ys z=>by rw [Sz (nt b _ z)];exact z,λb o v z=>by rw [Sz (nt b _ z)];exact z,λb ps z=>⟨#[],by rw [Sz (nt b _ z),z];simp⟩⟩
 refine I.call (g':=s.gens) (d':=s.drawn) (ch:=ch) u (λb o z=>?_) I.bare λb hb=>?_
 ·by_cases w':b=T
  ·subst w'
   rw [Sv] at z;cases z
   exact new
  ·rw [Sz w'] at z
   refine (I.hok b o z).stay (λc v hc zz=>k c v ?_ zz) (λc zz=>by rw [Sz (nt c _ zz)];exact zz) (λc ys zz=>by rw [Sz (nt c _ zz)];exact zz) λc ys zz=>by rw [Sz (nt c _ zz)];exact zz
   rcases hc with rfl|hc
   ·exact nc c o z
   ·exact nc c _ hc
 ·obtain ⟨_,h1,_,h3,h4,h5⟩:=hch b hb
  exact ⟨h3,h1,h4,h5⟩
theorem Su.turnMany {ch:List S5} {h':Sg} {t':Nat} (I:Su X pins σ H s) (hch:∀b∈ch,Jrd X pins H b) (k:∀b o,b∉ch->s.heap.get? b=some o->h'.get? b=some o):Su X pins σ H {s with heap:=h',toks:=t'}:=by
 have nc:∀b u,H b=some u->b∉ch:=λb u z w'=>by rw [(hch b w').1] at z;cases z
 have u:Un (frs X.stack) ch H H s.heap h':=
  ⟨λb o hb n hs hc=>k b o hc hb,λb o hb n _ hc=>⟨o.slots,k b o hc hb⟩,λb o hb n _=>n,λb o hb hc=>⟨o,k b o hc hb⟩,λb ys z=>z,λb o v z=>z,λb ps z=>⟨#[],by rw [z];simp⟩⟩
 refine I.call (g':=s.gens) (d':=s.drawn) (ch:=ch) u (λb o z=>(I.hok b o z).stay (λc v hc zz=>k c v ?_ zz) (λ_ zz=>zz) (λ_ _ zz=>zz) λ_ _ zz=>zz) I.bare λb hb=>?_
 ·rcases hc with rfl|hc
  ·exact nc c o z
  ·exact nc c _ hc
 ·obtain ⟨_,h1,_,h3,h4,h5⟩:=hch b hb
  exact ⟨h3,h1,h4,h5⟩
end
theorem Yah:bootBuiltins "zip" =some (.type "zip"):=by decide +kernel
section
variable {X:Cx} {pins:List (S5×Obj)} {σ:St} {H:Hp} {s:S7}
inductive TyX (K:Si) (H:Hp):V->S6->Prop where
 |of {x:V} {t:S6}:Jrf K H x t->TyX K H x t
 |exc {e C W fI dx:S5} {fs:List (Str×V)} {fr:Bool}:H e=some (XO e C (some dx) fr)->H dx=some (XD dx fs)->Saj K C W fI->TyX K H (.ref e) (.ref C)
theorem TyX.kit {x:V} {u t:S6} (I:Su X pins σ H s) (rx:Sa2 x u) (ty:TyX X.K H x t):u≠ .builtin "__main__.__loader__#opaque" /\∃Hh,PySem.W.KitX X.K u t Hh/\Hh s.heap:=by
 cases ty with
 |exc q qd c=>
  obtain rfl:u=Value.ref _:=rx
  obtain ⟨ox,oD,mA,J,_,_⟩:=Jzw I.hok q qd
  exact ⟨(λz=>nomatch z),_,Su4 c,ox,oD,J⟩
 |of ty=>
  cases ty with
  |non=>cases (show u=Value.none from rx);exact ⟨(λz=>nomatch z),_,PySem.W.kitx_none,trivial⟩
  |bl y=>cases (show u=Value.bool y from rx);exact ⟨(λz=>nomatch z),_,PySem.W.kitx_bool,trivial⟩
  |int i=>obtain ⟨t,q⟩:=(show ∃t,u=Value.int i t from rx);cases q;exact ⟨(λz=>nomatch z),_,PySem.W.kitx_int,trivial⟩
  |str y=>obtain ⟨t,q⟩:=(show ∃t,u=Value.str y t from rx);cases q;exact ⟨(λz=>nomatch z),_,PySem.W.kitx_str,trivial⟩
  |flt y=>obtain ⟨t,q⟩:=(show ∃t,u=Value.float y t from rx);cases q;exact ⟨(λz=>nomatch z),_,PySem.W.kitx_float,trivial⟩
  | @lst a xs ea=>
   cases (show u=Value.ref a from rx)
   obtain ⟨_,_,n,_,h1⟩:=(show Sa7 X.prog X.w H s.heap a (.lst xs) from I.hok a _ ea)
   exact ⟨(λz=>nomatch z),_,PySem.W.kitx_list,_,h1,rfl⟩
  | @frz a ob xs ea=>
   cases (show u=Value.ref a from rx)
   obtain ⟨_,_,_,n,_,h1⟩:=(show Sa7 X.prog X.w H s.heap a (.frz ob (.lst xs)) from I.hok a _ ea)
   exact ⟨(λz=>nomatch z),_,PySem.W.kitx_list,_,h1,rfl⟩
  | @tup a xs ea=>
   cases (show u=Value.ref a from rx)
   obtain ⟨_,_,_,o,h1,h2,_⟩:=(show Sa7 X.prog X.w H s.heap a (.tup xs) from I.hok a _ ea)
   exact ⟨(λz=>nomatch z),_,PySem.W.kitx_tuple,o,h1,h2⟩
  | @dK a kvs ea=>
   cases (show u=Value.ref a from rx)
   obtain ⟨_,_,vs,_,o,es,ep,h1,h2,_⟩:=(show Sa7 X.prog X.w H s.heap a (.dK kvs) from I.hok a _ ea)
   exact ⟨(λz=>nomatch z),_,PySem.W.kitx_dict,o,h1,h2.1⟩
  | @dT a kvs ea=>
   cases (show u=Value.ref a from rx)
   obtain ⟨_,_,xs,_,o,es,ep,h1,h2,_⟩:=(show Sa7 X.prog X.w H s.heap a (.dT kvs) from I.hok a _ ea)
   exact ⟨(λz=>nomatch z),_,PySem.W.kitx_dict,o,h1,h2.1⟩
  | @ins a C dx fs ea cl ha hn htk hm=>
   cases (show u=Value.ref a from rx)
   obtain ⟨mA,O,_⟩:=Jsj I.hok ea
   obtain ⟨od,J,_⟩:=O.look
   exact ⟨(λz=>nomatch z),_,PySem.W.kitx_own (cl.get _) cl.hd ha hn htk hm,J⟩
def Sp9 (K:Si):List V->Hp->VK->Prop:=λxs H Q=>∃x c u t b,xs= [x,c]/\Sl9 c=some u/\TyX K H x t/\Sj K t u=some b/\Q (.bl b) H
theorem Jlw:Jmd X (.builtin "isinstance") (Sp9 X.K):=by
 rintro pins s σ H vs us Q I r ⟨x,c,u,t,b,rfl,hc,ty,ek,k⟩
 obtain ⟨v,w',rfl,r1,r2⟩:=Jy1 r
 have e2:w'=u:=by
  cases c with
  |ty n=>cases hc;cases r2;rfl
  |ref a=>cases hc;cases r2;rfl
  |_=>cases hc
 subst e2
 obtain ⟨hx,Hh,Z,p⟩:=ty.kit I r1
 exact PySem.W.kia_one Z I.kIn p ek hx λtk=>⟨.bl b,H,I.tok _,rfl,k⟩
theorem Jwz:∀{cs:List V} {us ws:List S6},cs.mapM Sl9=some us->Sa0 cs ws->ws=us
 | [],us,_,e,.nil=>by cases e;rfl
 |c::cs,us,_,e,.cons r t=>by
  rw [List.mapM_cons] at e
  simp only [Option.bind_eq_bind,Option.bind_eq_some_iff,Option.pure_def,yac.injEq] at e
  obtain ⟨u,hu,us',hus,rfl⟩:=e
  rw [Jwz hus t]
  cases c with
  |ty n=>cases hu;cases r;rfl
  |ref a=>cases hu;cases r;rfl
  |_=>cases hu
def Stn (K:Si):List V->Hp->VK->Prop:=λxs H Q=>∃x p cs us t b,xs= [x,.ref p]/\H p=some (.tup cs)/\cs.mapM Sl9=some us/\TyX K H x t/\PySem.W.kitAny K t us=some b/\Q (.bl b) H
theorem Jqu:Jmd X (.builtin "isinstance") (Stn X.K):=by
 rintro pins s σ H vs us Q I r ⟨x,p,cs,us',t,b,rfl,hp,hc,ty,ek,k⟩
 obtain ⟨v,w',rfl,r1,r2⟩:=Jy1 r
 obtain rfl:w'=Value.ref p:=r2
 obtain ⟨hx,Hh,Z,q⟩:=ty.kit I r1
 obtain ⟨_,its,rv,o,h1,h2,n,h3⟩:=(show Sa7 X.prog X.w H s.heap p (.tup cs) from I.hok p _ hp)
 have e:=Jwz hc rv
 subst e
 obtain ⟨oc,odi,oda,osl⟩:=o
 dsimp only at h2 h3
 subst h2 h3
 exact PySem.W.kia_tup Z I.kIn q h1 ek hx λtk=>⟨.bl b,H,I.tok _,rfl,k⟩
def Ste (K:Si) (tl:TE):TI:=λσ H R=>tl σ H λx H1=>∃a,x= .ref a/\(((∃xs,Sw K H1 a xs)/\R (Itl K a) H1)\/((∃xs,SqT K H1 a xs)/\R (Itt K a) H1))
theorem Slv {tg l:Expr} {tl:TE} (hl:PE X l tl):PI X tg l (Ste X.K tl):=by
 intro pins s σ H R I h
 refine thn (hl pins s σ H _ I h) λv s1 zq=>?_
 obtain ⟨x,H1,I1,r1,a,e,q1⟩:=zq
 subst e
 cases r1
 have fin:∀{J:It} {tn:Nat->Sg->Prop} {o:Obj},Jre X.prog X.w X.K tg J [s1.heap.objs.size] s1.heap.objs.size tn->tn 0 (s1.heap.push o)->R J H1->PIE X pins σ tg R (.ref s1.heap.objs.size) {s1 with heap:=s1.heap.push o}:=λ{J tn o} T st q=>by
  refine ⟨s1.heap.objs.size,[s1.heap.objs.size],tn,J,H1,rfl,I1.kept (t':=s1.toks) λb o e=>yj _ e,T,st,λb hb=>?_,q⟩
  have e:b=s1.heap.objs.size:=by simpa using hb
  subst e
  exact I1.fpOk (yg _) (I1.hok.fresh (yg _))
 rcases q1 with ⟨⟨xs,hq⟩,q⟩|⟨⟨xs,hq⟩,q⟩
 ·obtain ⟨its,rv,p,hz⟩:=I1.list hq
  exact wpAny_pyIter_list p.isList (fin (Jve a _) ⟨_,yo _ rfl,rfl,rfl⟩ q)
 ·obtain ⟨its,rv,p,hz⟩:=I1.tuple hq
  exact wpAny_pyIter_tuple (show s1.heap.IsTuple a its.toArray from p) (fin (Jtv a _) ⟨_,yo _ rfl,rfl,rfl⟩ q)
end
def Jz2 (P:Sb) (w:Sd) (K:Si) (mg:Str->Option S6) (base:Sg) (j:Nat) (m:Str) (ta:TE) (t:TA):TE:=λσ H Q=>ta σ H λx H1=>∃a C dx fs f fd ps sp k,x= .ref a/\H1 a=some (.ins C dx fs)/\fs.lookup m=none/\Cls K C/\Joe K C m f/\Sx P w K mg base CX0 k f fd ps sp/\k<=j/\Sbk K fd ps []/\
 t σ H1 λvs H2=>sp (x::vs) H2 Q E0
section
variable {X:Cx} {j:Nat} {m:Str} {apos pos:Pos} {e o:Expr} {es:List Expr} {ta:TE} {t:TA} {R:St->XK}
theorem Jr0 {pl:Sem Bool} (he:PE X o ta) (hr:Sal j X.A) (ha:PA X (e::es) t)
  (hst:starEach (e::es) X.env=(false,eval e X.env)::starEach es X.env:=by rfl) (hpl:(backTo pos (starEach es X.env)).any (·.1)=false:=by rfl)
  (ht:eval (.Call (.Attribute o m apos) (e::es) [] pos) X.env=(do
   let ov<-eval o X.env
   standAt apos.atName
   let (f,first)<-holding [ov] (getMethod ov m pl)
   callWith pos f first (backTo pos (starEach (e::es) X.env)) (backToKw pos (keywordEach [] X.env))):=by rfl):
  PE X (.Call (.Attribute o m apos) (e::es) [] pos) (Jz2 X.prog X.w X.K X.mg X.base j m ta t):=by
 intro pins s σ H Q I h
 refine PySem.W.methodCall_KW (pl:=pl) (thn (he pins s σ H _ I h) λu s1 zq=>?_) ht
 obtain ⟨x,H1,I1,rx,a,C,dx,fs,f,fd,ps,sp,k,ex,ea,l,c,hm,G,hk,hb,q⟩:=zq
 subst ex
 obtain rfl:u=Value.ref a:=rx
 refine Jsw I1 ea c hm l ?_
 refine PySem.W.callWith_K (first:=[.ref a]) (h₀:=X.base) I.ok.mod.kin hm.kp (thn (ha pos pins s1 σ H1 _ I1 q) λus s2 ⟨vs,H2,I2,r,q2⟩=>⟨I2.kIn,?_⟩) hst hpl
 exact Jyu (us:=.ref a::us) (vs:=.ref a::vs) (dvs:=[]) (ds:=[]) G (hr.mono hk) hb .nil Jnm I2 (.cons rfl r) (by rw [yay];exact q2)
theorem Jpk {pl:Sem Bool} (he:PE X o ta) (hr:Sal j X.A)
  (ht:eval (.Call (.Attribute o m apos) [] [] pos) X.env=(do
   let ov<-eval o X.env
   standAt apos.atName
   let (f,first)<-holding [ov] (getMethod ov m pl)
   callWith pos f first (backTo pos (starEach [] X.env)) (backToKw pos (keywordEach [] X.env))):=by rfl):
  PE X (.Call (.Attribute o m apos) [] [] pos) (Jz2 X.prog X.w X.K X.mg X.base j m ta Jz3):=by
 intro pins s σ H Q I h
 refine PySem.W.methodCall_KW (pl:=pl) (thn (he pins s σ H _ I h) λu s1 zq=>?_) ht
 obtain ⟨x,H1,I1,rx,a,C,dx,fs,f,fd,ps,sp,k,ex,ea,l,c,hm,G,hk,hb,q⟩:=zq
 subst ex
 obtain rfl:u=Value.ref a:=rx
 refine Jsw I1 ea c hm l ?_
 exact PySem.W.callWith_K0 (first:=[.ref a]) I1.kIn hm.kp (Jyu (us:=[.ref a]) (vs:=[.ref a]) (dvs:=[]) (ds:=[]) G (hr.mono hk) hb .nil Jnm I1 (.cons rfl .nil) q)
end
theorem Jkk {n:Nat} (h:n<=2000):n < Sa:=yct h (by decide)
theorem Jrs (n:Nat) (h:n<=2000):n<=Sa:=yap (Jkk h)
def tpB (t:S6):Bool:=[Value.type "bool",.type "str",.type "NoneType",.type "list",.type "tuple",.type "dict"].contains t
def Tm (K:Si) (H:Hp) (x:V):Prop:=(∃i:Int,x= .int i)\/∃t,TyX K H x t/\tpB t=true
def Jl2:V->Int->Int->Bool
 | .int i,lo,hi=>decide (lo<=i)&&decide (i<=hi)
 |_,_,_=>false
theorem Smk {K:Si} {t:S6} (h:tpB t=true):Sj K t (.type "int")=some (t== .type "bool")/\Sj K t (.type "bool")=some (t== .type "bool"):=by
 unfold tpB at h
 simp only [List.contains_cons,List.contains_nil,yce,Bool.or_eq_true,beq_iff_eq] at h
 rcases h with rfl|rfl|rfl|rfl|rfl|rfl <;> exact ⟨rfl,rfl⟩
theorem Ydq {K:Si} {H:Hp} {x:V} {t:S6} (ty:TyX K H x t) (h:tpB t=true):∀lo hi,Jl2 x lo hi=false:=by
 intro lo hi
 cases ty with
 |exc=>rfl
 |of ty=>
  cases ty <;> first|rfl|(exfalso;revert h;decide)
def Yej (K:Si):Sp:=λvs H Q _=>∃(x:V) (lo hi:Int),vs= [x,.int lo,.int hi]/\Tm K H x/\Q (.bl (Jl2 x lo hi)) H
theorem TyX.same {K:Si} {H H':Hp} {x:V} {t:S6} (s:∀b o,x= .ref b->H b=some o->H' b=some o) (sx:∀b fs,H b=some (XD b fs)->H' b=some (XD b fs)) (ty:TyX K H x t):TyX K H' x t:=by
 cases ty with
 |exc q qd c=>exact .exc (s _ _ rfl q) (sx _ _ qd) c
 |of ty=>
  refine .of ?_
  cases ty with
  |non=>exact .non
  |bl b=>exact .bl b
  |int i=>exact .int i
  |str z=>exact .str z
  |flt z=>exact .flt z
  |lst e=>exact .lst (s _ _ rfl e)
  |frz e=>exact .frz (s _ _ rfl e)
  |tup e=>exact .tup (s _ _ rfl e)
  |dK e=>exact .dK (s _ _ rfl e)
  |dT e=>exact .dT (s _ _ rfl e)
  |ins e a b c d f=>exact .ins (s _ _ rfl e) a b c d f
theorem Tm.same {K:Si} {H H':Hp} {x:V} (s:Sn H H') (h:Tm K H x):Tm K H' x:=by
 rcases h with h|⟨t,ty,e⟩
 ·exact .inl h
 ·exact .inr ⟨t,ty.same (λb o _ q=>s b o q) (λb fs q=>s b _ q),e⟩
theorem Ydf {K:Si} {q:S5} {xs:List V} {g:TG} {tb:TS} {D:Sbs} {σ:St} {H:Hp} (Pv:Nat->St->Hp->Prop) (h0:Pv 0 σ H) (hl:(∀i σ H,i<=xs.length->Pv i σ H->Sw K H q xs)\/(∀i σ H,i<=xs.length->Pv i σ H->SqT K H q xs))
  (hs:∀i x σ H,xs[i]?=some x->Pv i σ H->g x σ H λσ2 H2=>tb {D with nx:=Pv (i+1),ct:=Pv (i+1),bk:=D.nx} σ2 H2) (hd:∀σ H,Pv xs.length σ H->D.nx σ H):
  ((∃xs,Sw K H q xs)/\∃W:Nat->Nat->St->Hp->Prop,(∃m,W 0 m σ H)/\∀i m σ H,W i m σ H->
   ((Itl K q).stop i H/\D.nx σ H)\/((Itl K q).go i H/\∃N:St->Hp->Prop,(∀σ' H',N σ' H'->∃m',m' < m/\W (i+1) m' σ' H')/\∀x H',(Itl K q).yld i H x H'->g x σ H' λσ2 H2=>tb {D with nx:=N,ct:=N,bk:=D.nx} σ2 H2))\/
  ((∃xs,SqT K H q xs)/\∃W:Nat->Nat->St->Hp->Prop,(∃m,W 0 m σ H)/\∀i m σ H,W i m σ H->
   ((Itt K q).stop i H/\D.nx σ H)\/((Itt K q).go i H/\∃N:St->Hp->Prop,(∀σ' H',N σ' H'->∃m',m' < m/\W (i+1) m' σ' H')/\∀x H',(Itt K q).yld i H x H'->g x σ H' λσ2 H2=>tb {D with nx:=N,ct:=N,bk:=D.nx} σ2 H2)):=by
 rcases hl with hl|hl
 ·exact .inl ⟨⟨xs,hl 0 σ H (yam _) h0⟩,Jnj Pv h0 hl hs hd⟩
 ·exact .inr ⟨⟨xs,hl 0 σ H (yam _) h0⟩,Ydg Pv h0 hl hs hd⟩
theorem Jnn {K:Si} {R:L2.St->XK} {C W fI:S5} {f:Str} {i:Nat} {y:V} {σ:L2.St} {H:Hp} {D:Sbs} (c:Saj K C W fI) (n:NoAttr K C f) (hi:σ[i]?=some (some y))
  (k:∀e dx,H e=none->H dx=none->dx≠e->R σ (.ref C) (some e) (upd (upd (upd H dx (XD dx [(f,y)])) e (XO e C (some dx) true)) e (XO e C (some dx) false))):Yc0 K R (Spm C (Jo3 K f) (Jmt (Smi i) Jz3)) D σ H:=by
 refine ⟨y,hi,?_⟩
 exact Y8 (Q:=λv H1=>∃e C W fI dx,v= .ref e/\H1 e=some (XO e C (some dx) true)/\Saj K C W fI/\R σ (.ref C) (some e) (upd H1 e (XO e C (some dx) false))) c n λe dx h1 h2 h3=>⟨e,C,W,fI,dx,rfl,Sv,c,k e dx h1 h2 h3⟩
theorem Yc {c A B:Prop} [Decidable c] (hc:c) (h:A):if decide c=true then A else B:=by
 rw [decide_eq_true hc]
 exact Jmb h
theorem Ju2 {c A B:Prop} [Decidable c] (hc:¬c) (h:B):if decide c=true then A else B:=by
 rw [decide_eq_false hc]
 exact Jlb h
def Jm1:Expr->Bool
 | .Starred _ _=>true
 |_=>false
theorem Yz (e:Expr) (es:List Expr) (env:Env) (h:Jm1 e=false):starEach (e::es) env=(false,eval e env)::starEach es env:=by
 cases e <;> first|rfl|cases h
theorem Jp2 {X:Cx} {e:Expr} {es:List Expr} {te:TE} {t:TA} (ha:PE X e te) (hr:PA X es t) (hs:Jm1 e=false:=by rfl):PA X (e::es) (Jmt te t):=So ha hr (Yz e es X.env hs)
theorem pa4 {X:Cx} {e0:Expr} {t0:TE} {e1:Expr} {t1:TE} {e2:Expr} {t2:TE} {e3:Expr} {t3:TE} (h0:PE X e0 t0) (h1:PE X e1 t1) (h2:PE X e2 t2) (h3:PE X e3 t3) (s0:Jm1 e0=false:=by rfl) (s1:Jm1 e1=false:=by rfl) (s2:Jm1 e2=false:=by rfl) (s3:Jm1 e3=false:=by rfl):PA X [e0,e1,e2,e3] (Jmt t0 (Jmt t1 (Jmt t2 (Jmt t3 (Jz3))))):=Jp2 h0 (Jp2 h1 (Jp2 h2 (Jp2 h3 (Ss) s3) s2) s1) s0
theorem pa6 {X:Cx} {e0:Expr} {t0:TE} {e1:Expr} {t1:TE} {e2:Expr} {t2:TE} {e3:Expr} {t3:TE} {e4:Expr} {t4:TE} {e5:Expr} {t5:TE} (h0:PE X e0 t0) (h1:PE X e1 t1) (h2:PE X e2 t2) (h3:PE X e3 t3) (h4:PE X e4 t4) (h5:PE X e5 t5) (s0:Jm1 e0=false:=by rfl) (s1:Jm1 e1=false:=by rfl) (s2:Jm1 e2=false:=by rfl) (s3:Jm1 e3=false:=by rfl) (s4:Jm1 e4=false:=by rfl) (s5:Jm1 e5=false:=by rfl):PA X [e0,e1,e2,e3,e4,e5] (Jmt t0 (Jmt t1 (Jmt t2 (Jmt t3 (Jmt t4 (Jmt t5 (Jz3))))))):=Jp2 h0 (Jp2 h1 (Jp2 h2 (Jp2 h3 (Jp2 h4 (Jp2 h5 (Ss) s5) s4) s3) s2) s1) s0
theorem pa7 {X:Cx} {e0:Expr} {t0:TE} {e1:Expr} {t1:TE} {e2:Expr} {t2:TE} {e3:Expr} {t3:TE} {e4:Expr} {t4:TE} {e5:Expr} {t5:TE} {e6:Expr} {t6:TE} (h0:PE X e0 t0) (h1:PE X e1 t1) (h2:PE X e2 t2) (h3:PE X e3 t3) (h4:PE X e4 t4) (h5:PE X e5 t5) (h6:PE X e6 t6) (s0:Jm1 e0=false:=by rfl) (s1:Jm1 e1=false:=by rfl) (s2:Jm1 e2=false:=by rfl) (s3:Jm1 e3=false:=by rfl) (s4:Jm1 e4=false:=by rfl) (s5:Jm1 e5=false:=by rfl) (s6:Jm1 e6=false:=by rfl):PA X [e0,e1,e2,e3,e4,e5,e6] (Jmt t0 (Jmt t1 (Jmt t2 (Jmt t3 (Jmt t4 (Jmt t5 (Jmt t6 (Jz3)))))))):=Jp2 h0 (Jp2 h1 (Jp2 h2 (Jp2 h3 (Jp2 h4 (Jp2 h5 (Jp2 h6 (Ss) s6) s5) s4) s3) s2) s1) s0
end L2
namespace L2
open PySem PySem.Spec PyProof.Rows PySem.W
section
variable {X:Cx}
theorem Jt0 {K:Si} (h:X.K=K):IxR X (Spa K):=by subst h;exact Jks
theorem Jph {K:Si} (h:X.K=K):IxR X (Spb K):=by subst h;exact Jkw
theorem Jup {K:Si} (h:X.K=K):Jmd X (.builtin "isinstance") (Sp9 K):=by subst h;exact Jlw
end
section
variable {prog:Sb} {w:Sd} {A:Se} {E:S6->S7->Prop} {s:S7}
end
section
variable {X:Cx} {pos:Pos}
end
structure FnOkC (P:Sb) (w:Sd) (K:Si) (mg:Str->Option S6) (base:Sg) (k:Nat) (f:S5) (fd:Sc) (ps:List Str) (sp:Sp):Prop where
 len:∀vs H Q E,sp vs H Q E->vs.length=ps.length
 run:∀(e:S5) (A:Se) (outer:List Env) (s:S7) (H:Hp) (args:Args) (us:List S6) (vs:List V) (Q:VK) (E:XK),Sal k A->Seo P w K mg base A outer s H->BindsTo s fd args (ps.zip us)->Sa0 vs us->sp vs H Q E->
  codeAny (model P w) (A.mark (some (.ref e))) (.call (.ref f) args) (CR CX0 outer P w H s Q E) s
section
variable {P:Sb} {w:Sd} {K:Si} {mg:Str->Option S6} {base:Sg}
end
section
variable {X:Cx} {x:Str} {st:Sf} {ps:List Str} {f:S5} {fd:Sc} {sp:Sp} {k j:Nat} {p pos:Pos} {e:Expr} {es:List Expr} {t:TA} {er:S5}
end
def stU (acc:List Str) (z:Str):List Str:=if acc.contains z=true then acc else acc++ [z]
def uq (zs:List Str):List Str:=zs.foldl stU []
def inU (zs:List Str):Key->Bool
 | .inl _=>false
 | .inr z=>(uq zs).contains z
theorem Jzu (zs:List Str) (z:Str):uq (zs++ [z])=stU (uq zs) z:=by unfold uq;rw [List.foldl_append];rfl
theorem Smq (zs:List Str):(uq zs).length<=zs.length:=by
 have h:∀(l acc:List Str),(l.foldl stU acc).length<=acc.length+l.length:=by
  intro l
  induction l with
  |nil=>intro acc;simp
  |cons z r ih=>
   intro acc
   rw [List.foldl_cons]
   have h1:=ih (stU acc z)
   have h2:(stU acc z).length<=acc.length+1:=by unfold stU;split <;> simp
   rw [ybg]
   omega
 simpa [uq] using h zs []
theorem Jxz {zs:List Str} (h:zs.Nodup):uq zs=zs:=by
 have g:∀(l acc:List Str),(acc++l).Nodup->l.foldl stU acc=acc++l:=by
  intro l
  induction l with
  |nil=>intro acc _;simp
  |cons z r ih=>
   intro acc hn
   rw [List.foldl_cons]
   have hz:acc.contains z=false:=by
    cases e:acc.contains z with
    |false=>rfl
    |true=>
     have hm:z∈acc:=ycu.mp e
     exact absurd rfl ((List.nodup_append.mp hn).2.2 z hm z yar)
   have e:stU acc z=acc++ [z]:=by unfold stU;rw [hz];rfl
   rw [e,ih (acc++ [z]) (by simpa using hn)]
   simp
 simpa [uq] using g zs [] (by simpa using h)
theorem Yb6 (zs:List Str) (z:Str) (k:Key):inU (zs++ [z]) k=(inU zs k||decide (k= .inr z)):=by
 cases k with
 |inl i=>simp [inU]
 |inr y=>
  show (uq (zs++ [z])).contains y=((uq zs).contains y||decide ((.inr y:Key)= .inr z))
  have e:decide ((.inr y:Key)= .inr z)=decide (y=z):=by
   by_cases h:y=z
   ·subst h;simp
   ·rw [decide_eq_false h,decide_eq_false (λq=>h (Sum.inr.inj q))]
  rw [Jzu,e]
  unfold stU
  split
  ·rename_i hc
   by_cases h:y=z
   ·subst h;rw [hc];simp
   ·simp [h]
  ·rw [ybk]
   simp [ycu]
theorem Yen (zs:List Str) (z:Str):(uq (zs++ [z])).length=if inU zs (.inr z)=true then (uq zs).length else (uq zs).length+1:=by
 rw [Jzu]
 show (stU (uq zs) z).length=if (uq zs).contains z=true then _ else _
 unfold stU
 split <;> simp
section
variable {prog:Sb} {w:Sd} {A:Se} {R:Result->S7->Prop} {I:S5} {fp wr:List S5} {n:Nat} {P:Nat->S6->Prop} {St:Nat->Sg->Prop}
theorem Jr9 {h h':Sg} {a:S5} {S T:Key->Bool} {m m':Nat} (hS:h.SetOf (Jkj prog w) a S m) (k:∀o,h.get? a=some o->h'.get? a=some o) (e:∀x,S x=T x) (en:m=m'):h'.SetOf (Jkj prog w) a T m':=by
 obtain rfl:S=T:=funext e
 subst en
 obtain ⟨o,es,ep,t,ho,rest⟩:=hS
 exact ⟨o,es,ep,t,k o ho,rest⟩
theorem Jz4 (W:Walks prog w A.in1 I fp wr n P St) (S:S5) (hSf:S∉fp) (zs:List Str) (hn:zs.length=n) (hP:∀i v,P i v->∃z t,zs[i]?=some z/\v= .str z t) (hb:n+1 < scanBound):
  ∀(k i:Nat) (s:S7),n - i=k->i<=n->St i s.heap->s.heap.SetOf (Jkj prog w) S (inU (zs.take i)) (uq (zs.take i)).length->
   (∀h' tk,(∀b o,b≠S->b∉wr->s.heap.get? b=some o->h'.get? b=some o)->h'.SetOf (Jkj prog w) S (inU zs) (uq zs).length->R (.ok (.ret .none)) {s with heap:=h',toks:=tk})->
   codeAny (model prog w) A (.builtin "set.update.loop" ⟨[.ref S,.ref I],[]⟩) R s:=by
 have hSw:S∉wr:=λh=>hSf (W.sub _ h)
 intro k
 induction k with
 |zero=>
  intro i s hk hi hst hS hR
  obtain rfl:i=n:=by omega
  refine codeAny_builtin PyProof.Rows.F.entry_set_update_loop ?_
  rw [Around.under_plainId PyProof.Rows.F.plain_set_update_loop _]
  refine S8 (W.done s _ _ hst λh' tk km=>?_)
  refine S9 (hR h' tk (λb o _ nb e=>km b o nb e) (Jr9 hS (λo e=>km S o hSw e) (λx=>?_) ?_))
  ·rw [yat (by omega)]
  ·rw [yat (by omega)]
 |succ k ih=>
  intro i s hk hi hst hS hR
  have hlt:i < n:=by omega
  refine codeAny_builtin PyProof.Rows.F.entry_set_update_loop ?_
  rw [Around.under_plainId PyProof.Rows.F.plain_set_update_loop _]
  refine S8 (W.item i s _ _ hlt hst λv h1 tk hv hst1 km=>?_)
  obtain ⟨z,t,hz,rfl⟩:=hP i v hv
  have et:zs.take (i+1)=zs.take i++ [z]:=by rw [yan,hz];rfl
  have hS1:h1.SetOf (Jkj prog w) S (inU (zs.take i)) (uq (zs.take i)).length:=Jr9 hS (λo e=>km S o hSw e) (λ_=>rfl) rfl
  have room:(uq (zs.take i)).length+1 < scanBound:=by
   have h1:=Smq (zs.take i)
   rw [yah] at h1
   omega
  refine S8 (wpAny_holding ?_)
  unfold setAdd
  refine wpAny_holding (S8 ((Jkj prog w).pyHash (k:=.inr z) (Jow _ _ _ _) ?_))
  refine wpAny_setAddHashed_of (knd:=Jkj prog w) (k:=.inr z) (Jow _ _ _ _) rfl hS1 room λh2 sb hS2=>?_
  refine S9 ⟨plainId_quiet PyProof.Rows.F.plain_set_update_loop _,ih (i+1) _ (by omega) hlt (W.frame _ _ _ hst1 λb hbf o e=>?_) (Jr9 hS2 (λo e=>e) (λx=>?_) ?_) λh3 tk3 k3 hS3=>?_⟩
  ·show h2.get? b=some o
   rw [sb.2 b (λq=>hSf (by rw [<-q];exact hbf))]
   exact e
  ·rw [et,Yb6]
  ·rw [et,Yen]
  ·exact hR h3 tk3 (λb o nS nw e=>k3 b o nS nw (by show h2.get? b=some o;rw [sb.2 b nS];exact km b o nw e)) hS3
end
section
variable {prog:Sb} {w:Sd} {A:Se} {E:S6->S7->Prop} {s:S7}
set_option maxRecDepth 100000 in
set_option maxHeartbeats 3200000 in
theorem Yw {l:S5} {items:Array S6} {zs:List Str} {Q:S6->S7->Prop} (hh:A.handled=none) (hl:s.heap.IsList l items) (hz:zs.length=items.size) (hi:∀(i:Nat) (v:S6),items[i]?=some v->∃z t,zs[i]?=some z/\v= .str z t) (hb:items.size+1 < scanBound)
  (h:∀(h':Sg) (tk:Nat),h'.SetOf (Jkj prog w) s.heap.objs.size (inU zs) (uq zs).length->(∀b o,s.heap.get? b=some o->h'.get? b=some o)->Q (.ref s.heap.objs.size) {s with heap:=h',toks:=tk}):Sh (model prog w) A (call (.type "set") [.ref l]) Q E s:=by
 obtain ⟨cc,tl,hmro⟩:=F.called_set.mro
 have hmade:=F.called_set.made
 have hsub:=F.called_set.sub
 refine wpAny_call (codeAny_of_tree ?_)
 show Sh _ _ (callAny (.type "set") _) _ _ _
 refine S9 ⟨Code.quiet_builtin _ (by decide +kernel),codeAny_builtin F.entry_type_call ?_⟩
 rw [Around.under_plain (weight_type_call_type "set" [.ref l] []) rfl]
 have g1:=F.called_set.notType
 have g2:=F.called_set.canCreate
 have g3:=F.typeCall_set_1 (.ref l)
 repeat (any_goals (first|assumption|wp_step))
 refine codeAny_mono (code_set_new_1 (.ref l) (E:=E) (Q₁:=λobj s1=>∃led:Bool,obj= .ref s.heap.objs.size/\s1={s with heap:=s.heap.push {cls:=.type "set",dict:=none,data:=.set #[] 0 (.fresh 0 0 led)}}) λled=>⟨led,rfl,rfl⟩) λr s1 hr=>?_
 cases r with
 |error e=>exact hr
 |ok fl=>
  cases fl with
  |ret obj=>
   obtain ⟨led,rfl,rfl⟩:=hr
   have hS:(s.heap.push {cls:=.type "set",dict:=none,data:=.set #[] 0 (.fresh 0 0 led)}).get? s.heap.objs.size=some {cls:=.type "set",dict:=none,data:=.set #[] 0 (.fresh 0 0 led)}:=yo _ rfl
   have hT:Shared.TypeIs {s with heap:=s.heap.push {cls:=.type "set",dict:=none,data:=.set #[] 0 (.fresh 0 0 led)}} (.ref s.heap.objs.size) "set" :=⟨_,hS,rfl⟩
   have g4:=F.called_set.init.lookup
   have g5:=F.called_set.init.bind (.ref s.heap.objs.size)
   repeat (any_goals (first|assumption|wp_step))
   refine codeAny_mono (codeAny_call_builtin (R:=wants (λr s2=>r= .none/\∃h' tk,s2={s with heap:=h',toks:=tk}/\h'.SetOf (Jkj prog w) s.heap.objs.size (inU zs) (uq zs).length/\(∀b o,s.heap.get? b=some o->h'.get? b=some o)) E) F.called_set.init.plain F.entry_set_init (check_set_init_1 hT ?_)) λr2 s2 hr2=>?_
   ·obtain ⟨⟨oc,od,oda,osl⟩,hol,hcl,nl,hdl⟩:=hl
    simp only at hcl hdl
    subst hcl hdl
    have hol':(s.heap.push {cls:=.type "set",dict:=none,data:=.set #[] 0 (.fresh 0 0 led)}).get? l=some {cls:=.type "list",dict:=od,data:=.seq items nl,slots:=osl}:=yj _ hol
    have g6:=F.sub_list_set
    have g7:=F.sub_list_frozenset
    have g8:(Value.type "list" ==Value.type "dict")=false:=by decide
    have hl1:(s.heap.push {cls:=.type "set",dict:=none,data:=.set #[] 0 (.fresh 0 0 led)}).IsList l items:=⟨_,hol',rfl,nl,rfl⟩
    unfold Builtin.«set.__init__» noKeywords Builtin.Frozenset.updateFrom
    generalize hPI:pyIter=PI
    wp_walk
    subst hPI
    refine wpAny_pyIter_list hl1 (S8 (wpAny_runValue ?_))
    have lS:l < s.heap.objs.size:=yk hol
    have h3:A.in1.in1.in1.handled=none:=by simp [hh]
    have nI:l≠(s.heap.push {cls:=.type "set",dict:=none,data:=.set #[] 0 (.fresh 0 0 led)}).objs.size:=by rw [yaf];exact yr (ybx lS)
    have nS:s.heap.objs.size∉ [(s.heap.push {cls:=.type "set",dict:=none,data:=.set #[] 0 (.fresh 0 0 led)}).objs.size,l]:=by
     rw [yaf]
     simp only [yn,yx,or_false,not_or]
     exact ⟨yr (ybl _),yax lS⟩
    refine Jz4 (Walks.list h3 _ l nI items) s.heap.objs.size nS zs hz hi hb (items.size - 0) 0 _ (by omega) (yam _) ⟨⟨_,yo _ rfl,rfl,rfl⟩,hl1.push _⟩ ?S0 ?R0
    case S0=>
     have q:((s.heap.push {cls:=.type "set",dict:=none,data:=.set #[] 0 (.fresh 0 0 led)}).push {cls:=.type "list_iterator",data:=.fields #[.ref l,.int 0 0]}).get? s.heap.objs.size=some {cls:=.type "set",dict:=none,data:=.set #[] 0 (.fresh 0 0 led)}:=yj _ hS
     refine ⟨_,#[],0,_,q,⟨rfl,rfl,rfl⟩,rfl,λe he=>by simp at he,λx=>?_,by decide,by rfl,rfl⟩
     cases x <;> simp [inU,uq]
    case R0=>
    intro h' tk km hS'
    show Sh _ _ _ _ _ _
    refine S9 ?_
    show Sh _ _ (ret Value.none) _ _ _
    refine S9 ⟨rfl,h',tk,rfl,hS',λb o e=>?_⟩
    have lb:b < s.heap.objs.size:=yk e
    refine km b o (yr lb) ?_ (yj _ (yj _ e))
    rw [yaf]
    simp only [yn,yx,or_false]
    exact yr (ybx lb)
   ·cases r2 with
    |error e=>exact hr2
    |ok fl2=>
     cases fl2 with
     |ret r=>
      obtain ⟨rfl,h',tk,rfl,hS',hk'⟩:=hr2
      repeat (any_goals (first|assumption|wp_step))
      exact h _ _ hS' hk'
     |_=>exact hr2.elim
  |_=>exact hr.elim
end
def TxS (P:Sb) (w:Sd) (a:S5) (zs:List Str):HO:=.ext λh=>h.SetOf (Jkj P w) a (inU zs) (uq zs).length
theorem Smm {P:Sb} {w:Sd} {H:Hp} {h:Sg} {a:S5} {zs:List Str} (hS:h.SetOf (Jkj P w) a (inU zs) (uq zs).length):Sa7 P w H h a (TxS P w a zs):=
 ⟨hS,(let ⟨o,_,_,_,ho,_⟩:=hS;⟨o,ho⟩),λ_ _ p k=>Jr9 p k (λ_=>rfl) rfl⟩
section
variable {X:Cx}
theorem Jsq (hc:X.calm=true):Jmd X (.type "set") (λxs H Q=>∃(l:S5) (zs:List Str),xs= [.ref l]/\Sw X.K H l (zs.map V.str)/\zs.length<=2000/\∀a,H a=none->Q (.ref a) (upd H a (TxS X.prog X.w a zs))):=by
 intro pins s σ H xs us Q I r h
 obtain ⟨l,zs,rfl,hq,hz,q⟩:=h
 obtain ⟨u,rfl,ru⟩:=Jnc r
 obtain rfl:u=Value.ref l:=ru
 obtain ⟨its,rv,pl,_⟩:=I.list hq
 have hlen:=rv.length
 rw [yf] at hlen
 refine Yw (zs:=zs) (I.ok.hd hc) pl.isList (by simpa using hlen) (λi v hv=>?_) (by simp only [yu];unfold scanBound;omega) λh' tk hS kk=>⟨.ref s.heap.objs.size,_,I.laid (a:=s.heap.objs.size) (o:=TxS X.prog X.w s.heap.objs.size zs) (t':=tk) kk (yg _) (Smm hS),rfl,q _ (I.hok.fresh (yg _))⟩
 ·have hv':its[i]?=some v:=by simpa using hv
  have hlt:i < zs.length:=by have:=(yq.mp hv').1;omega
  obtain ⟨u,hu,ru⟩:=rv.get (i:=i) (x:=V.str zs[i]) (by rw [ym,yp hlt];rfl)
  rw [hv'] at hu
  cases hu
  obtain ⟨t,rfl⟩:=ru
  exact ⟨zs[i],t,yp hlt,rfl⟩
theorem Jsp:Jmd X (.builtin "len") (λxs H Q=>∃(a:S5) (zs:List Str),xs= [.ref a]/\H a=some (TxS X.prog X.w a zs)/\Q (.int (uq zs).length) H):=by
 intro pins s σ H xs us Q I r h
 obtain ⟨a,zs,rfl,ha,q⟩:=h
 obtain ⟨u,rfl,ru⟩:=Jnc r
 obtain rfl:u=Value.ref a:=ru
 obtain ⟨o,es,ep,t,ho,hex,hd,_,_,hb,hf,hn⟩:=(I.hok a _ ha).1
 refine call_len_set ho hex hd hf (by unfold scanBound at hb;omega) ?_
 rw [hn]
 exact ⟨.int _,H,I.tok _,⟨_,rfl⟩,q⟩
end
theorem Yag:bootBuiltins "set" =some (.type "set"):=by decide +kernel
theorem Jqt:bootBuiltins "enumerate" =some (.type "enumerate"):=by decide +kernel
section
variable {X:Cx}
end
def ItE (K:Si) (a:S5):It:=⟨λi H=>∃xs x,Sw K H a xs/\xs[i]?=some x,
 λi H x H'=>∃T u,H T=none/\x= .ref T/\(∀xs,Sw K H a xs->xs[i]?=some u)/\H'=upd H T (.tup [.int i,u]),
 λi H=>∃xs,Sw K H a xs/\i=xs.length⟩
def Sg0 (e it l:S5) (i:Nat) (h:Sg):Prop:=(∃old,IsEnum h e it i old)/\h.IsListIter it l i
theorem Sg0.obj {e it l:S5} {i:Nat} {h:Sg} (st:Sg0 e it l i h):∀b∈ [e,it],∃o,h.get? b=some o/\∀v,o.data≠ .cell v:=λb hb=>by
 obtain ⟨⟨old,h1⟩,⟨o4,h4,_,d4⟩⟩:=st
 simp only [yn,yx,or_false] at hb
 rcases hb with rfl|rfl
 ·exact ⟨_,h1,λv z=>by cases z⟩
 ·exact ⟨o4,h4,λv z=>by rw [d4] at z;cases z⟩
theorem Ycx {P:Sb} {w:Sd} {K:Si} {elts:List Expr} {kt:Nat} {pt:Pos} (e it l:S5) (n1:e≠it) (n2:l≠e) (n3:l≠it):
  Jre P w K (.Tuple elts kt pt) (ItE K l) [e,it] e (Sg0 e it l) where
 mem:=by simp
 obj:=λi h st=>st.obj
 keep:=λi h h' st k=>by
  obtain ⟨⟨old,h1⟩,h2⟩:=st
  exact ⟨⟨old,k e (by simp) _ h1⟩,h2.at λo q=>k it (by simp) o q⟩
 item:=by
  intro X hP hw hK hc i pins s σ H E I hf st hg
  subst hP hw hK
  obtain ⟨xs,x,q1,hx⟩:=hg
  obtain ⟨its,rv,p1,_⟩:=I.list q1
  obtain ⟨u,hu,ru⟩:=rv.get hx
  have W:=WalksT.enumerate (prog:=X.prog) (w:=X.w) (I.ok.hd hc) e it l n1 n2 n3 its.toArray
  obtain ⟨s1,s2⟩:=st
  have li:i < its.length:=(yq.mp hu).1
  refine W.item i s _ _ (by simp only [yu];omega) ⟨s1,s2,p1.isList⟩ λT vals h' tk hP fT tT mid kk=>?_
  refine ⟨_,rfl,W.go elts kt pt i T _ _ _ mid λh'' st'' kk2=>?_⟩
  obtain ⟨t,a,ha,rfl⟩:=hP
  have ea:a=u:=by simpa [hu] using ha.symm
  subst ea
  obtain ⟨t1,t2,_⟩:=st''
  have kT:h''.IsTuple T #[.int i t,a]:=by
   obtain ⟨o,q,r⟩:=tT
   exact ⟨o,kk2 T o (W.apart i T h' mid) q,r⟩
  refine ⟨.ref T,upd H T (.tup [.int i,x]),I.turnTup (ch:=[e,it]) (t':=tk) hf (λc o hc q=>kk2 c o hc (kk c o hc q)) fT ⟨(show 2<=Sa by decide),[.int i t,a],.cons ⟨t,rfl⟩ (.cons ru .nil),kT⟩,rfl,⟨T,x,I.hok.fresh fT,rfl,λxs' hq=>by rw [I.list_inj hq q1];exact hx,rfl⟩,⟨t1,t2⟩,λc hc=>?_⟩
  have hcn:=(hf c hc).1
  rw [Sz (λw'=>?_)]
  ·exact hcn
  ·subst w'
   obtain ⟨o,q,_⟩:=Sg0.obj (show Sg0 e it l i s.heap from ⟨s1,s2⟩) c hc
   exact absurd (yk q) (yav.mpr fT)
 done:=by
  intro X hP hw hK hc i pins s σ H E I hf st hg
  subst hP hw hK
  obtain ⟨xs,q1,hi⟩:=hg
  obtain ⟨its,rv,p1,_⟩:=I.list q1
  have W:=WalksT.enumerate (prog:=X.prog) (w:=X.w) (I.ok.hd hc) e it l n1 n2 n3 its.toArray
  obtain ⟨s1,s2⟩:=st
  have e1:=rv.length
  have ei:i=its.toArray.size:=by simp only [yu];omega
  subst ei
  refine W.done s _ _ ⟨s1,s2,p1.isList⟩ λh' tk kk=>⟨rfl,?_⟩
  exact I.turnMany (ch:=[e,it]) hf λc o hc q=>kk c o hc q
 self:=λ_ _ _ _ _ st h=>let ⟨_,q⟩:=st.1;wpAny_pyIter_enum q h
def Std (K:Si) (ta:TA):TI:=λσ H R=>ta σ H λvs H1=>∃a,vs= [.ref a]/\(∃xs,Sw K H1 a xs)/\R (ItE K a) H1
theorem Jwg {X:Cx} {elts:List Expr} {kt:Nat} {pt:Pos} {a:Expr} {ta:TA} {p pos:Pos} (hg:Gl X "enumerate") (hm:X.mg "enumerate" =none) (ha:PA X [a] ta) (hs:starEach [a] X.env= [(false,eval a X.env)]:=by rfl):
  PI X (.Tuple elts kt pt) (.Call (.Name "enumerate" p) [a] [] pos) (Std X.K ta):=by
 intro pins s σ H R I h
 refine Call_ (Joh I hg hm Jqt (PyProof.Rows.callWith_type1 (thn (ha pos pins s σ H _ I h) λus s1 zq=>?_) (by rw [hs];rfl) rfl))
 obtain ⟨vs,H1,I1,r1,q1⟩:=zq
 obtain ⟨l,rfl,⟨xs,q1⟩,q⟩:=q1
 obtain ⟨u,rfl,r2⟩:=Jnc r1
 obtain rfl:u=Value.ref l:=r2
 obtain ⟨its,rv,p1,_⟩:=I1.list q1
 have a1:l < s1.heap.objs.size:=by obtain ⟨o,n,e,_⟩:=p1;exact yk e
 refine call_enumerate_list p1.isList λh' z1 z2 z3 kk=>?_
 have I2:Su X pins σ H1 {s1 with heap:=h'}:=I1.kept (t':=s1.toks) kk
 refine wpAny_pyIter_enum z1 ⟨_,_,_,_,H1,rfl,I2,Ycx (s1.heap.objs.size+1) s1.heap.objs.size l (Nat.succ_ne_self _) (yr (ybx a1)) (yr a1),⟨⟨_,z1⟩,z2⟩,λc hc=>?_,q⟩
 have hc':s1.heap.objs.size<=c:=by
  simp only [yn,yx,or_false] at hc
  rcases hc with rfl|rfl
  ·exact Nat.le_succ _
  ·exact yg _
 exact I1.fpOk hc' (I1.hok.fresh hc')
section
variable {prog:Sb} {w:Sd} {A:Se} {E:S6->S7->Prop} {s:S7}
theorem Jwq {it t:S5} {i:Nat} {items:Array S6} {x:S6} {Q:S6->S7->Prop} (hit:s.heap.IsTupleIter it t i) (ht:s.heap.IsTuple t items) (hx:items[i]?=some x)
  (hQ:∀h',h'.IsTupleIter it t (i+1)->yak it s.heap h'->Q x {s with heap:=h'}):Sh (model prog w) A (Builtin.SmallTypes.nextOf (.ref it)) Q E s:=by
 obtain ⟨o,ho,hc,hd⟩:=id hit
 obtain ⟨ol,hol,_,nl,hdl⟩:=ht
 have hT:s.TypeIs (.ref it) "tuple_iterator" :=⟨o,ho,hc⟩
 unfold Builtin.SmallTypes.nextOf
 refine S8 (wpAny_callSpecial?_slot (name:=Str.ofString "__next__") hT slot_tupleiter_next (wpAny_call_entry slot_tupleiter_next hT entry_tupleiter_next ?_ (args_tupleiter_next _)))
 refine S8 (m:=field (.ref it) 0) (wpAny_field ho hd (x:=.ref t) rfl ?_)
 show Sh _ _ (if (Value.ref t==Value.none)=true then _ else _) _ _ s
 rw [if_neg (show ¬((Value.ref t==Value.none)=true) from yz)]
 refine S8 (m:=field (.ref it) 1) (wpAny_field ho hd (x:=.int i 0) rfl ?_)
 refine S8 (m:=seqItems? (.ref t)) (wpAny_seqItems hol hdl ?_)
 simp only [ybh,hx]
 refine S8 (wpAny_setField ho hd (by simp) (S9 ⟨x,rfl,S9 (hQ _ ⟨_,ybn _ ho (Obj.isFreed_of_fields (Obj.data_mapFields hd _)),(Obj.cls_mapFields ..).trans hc,?_⟩ (yak.update ..))⟩))
 rw [Obj.data_mapFields hd]
 simp [rawInt]
theorem Jxv {it t:S5} {i:Nat} {items:Array S6} {Q:S6->S7->Prop} (hh:A.handled=none) (hit:s.heap.IsTupleIter it t i) (ht:s.heap.IsTuple t items) (hx:items[i]?=none)
  (hE:∀h' e,Heap.ExtBut it s.heap h'->(∃o,h'.get? e=some o/\o.cls= .type "StopIteration")->E (.ref e) {s with heap:=h'}):Sh (model prog w) A (Builtin.SmallTypes.nextOf (.ref it)) Q E s:=by
 obtain ⟨o,ho,hc,hd⟩:=id hit
 obtain ⟨ol,hol,_,nl,hdl⟩:=ht
 have hT:s.TypeIs (.ref it) "tuple_iterator" :=⟨o,ho,hc⟩
 unfold Builtin.SmallTypes.nextOf
 refine S8 (wpAny_callSpecial?_slot (name:=Str.ofString "__next__") hT slot_tupleiter_next (wpAny_call_entry slot_tupleiter_next hT entry_tupleiter_next ?_ (args_tupleiter_next _)))
 refine S8 (m:=field (.ref it) 0) (wpAny_field ho hd (x:=.ref t) rfl ?_)
 show Sh _ _ (if (Value.ref t==Value.none)=true then _ else _) _ _ s
 rw [if_neg (show ¬((Value.ref t==Value.none)=true) from yz)]
 refine S8 (m:=field (.ref it) 1) (wpAny_field ho hd (x:=.int i 0) rfl ?_)
 refine S8 (m:=seqItems? (.ref t)) (wpAny_seqItems hol hdl ?_)
 simp only [ybh,hx]
 refine S8 (wpAny_rule (S8 (wpAny_setField ho hd (by simp) ?_)))
 refine S8 (m:=newExc (.type "StopIteration") []) ?_
 simp only [newExc,newTuple]
 refine S8 (wpAny_newObj_type (S8 (m:=firstArgMember _ _) (wpAny_of_eq (a:=Value.none) (by first|rfl|(simp only [firstArgMember];rfl)) (wpAny_newObj_type ?_ (by size_fits)))) (by size_fits))
 simp only [raiseNew]
 refine S8 (wpAny_handled ?_)
 first|rw [show A.in1.handled=none from hh]|rw [hh]
 exact S8 (S9 (wpAny_throw (hE _ _ (((yak.update ..).extBut.push _).push _) ⟨_,yo _ rfl,rfl⟩)))
end
theorem Jrk {prog:Sb} {w:Sd} {A:Se} (hh:A.handled=none) (it l:S5) (hne:l≠it) (items:Array S6):
  Draws prog w A it [it,l] items.size (λi v=>items[i]?=some v) (λi h=>h.IsTupleIter it l i/\h.IsTuple l items) where
 live:=λ_ _ st=>let ⟨o,ho,_⟩:=st.1;⟨o,ho⟩
 frame:=λ_ _ _ st hk=>⟨st.1.at λo e=>hk it (by simp) o e,st.2.at λo e=>hk l (by simp) o e⟩
 item:=λi s Q E hi st hQ=>Jwq st.1 st.2 (x:=items[i]) (by simp [hi]) λh' hit' hs'=>hQ _ h' s.toks (by simp [hi]) ⟨hit',st.2.extBut hs'.extBut hne⟩ hs'
 done:=λs Q E st hE=>Jxv hh st.1 st.2 (by simp) hE
set_option maxRecDepth 100000 in
set_option maxHeartbeats 2000000 in
theorem Yaw (l:S5) (items:Array S6) (n:Nat) (dct:Option S5) (sl:Array (Option S6)):
  Meets (Builtin.«enumerate.__new__» ⟨[.type "enumerate",.ref l],[]⟩) (λ_ R s=>s.heap.get? l=some {cls:=.type "tuple",dict:=dct,data:=.seq items n,slots:=sl}/\
   R (.ok (.ret (.ref (s.heap.push {cls:=.type "tuple_iterator",data:=.fields #[.ref l,.int 0 0]}).objs.size)))
    {s with heap:=(s.heap.push {cls:=.type "tuple_iterator",data:=.fields #[.ref l,.int 0 0]}).push {cls:=.type "enumerate",data:=.fields #[.none,.bool false,.ref s.heap.objs.size,rawInt 0,.none,.none]}}):=
 .of_wp λprog w A R s h=>by
  obtain ⟨hp,g,d,tk,os⟩:=s
  obtain ⟨hl,h⟩:=h
  have e1:=sub_enumerate
  have e2:Heap.IsTuple (Shared.heap ⟨hp,g,d,tk,os⟩) l items:=⟨_,hl,rfl,n,rfl⟩
  wp_walk using AutoSeq1.wpAny_loadPart' hl
  refine wpAny_stack_any λst=>S9 ?_
  split
  ·rename_i c _ _ _ _ _
   cases (c==Value.type "enumerate")
   ·wp_walk using AutoSeq1.wpAny_loadPart' hl,wpAny_pyIter_tuple e2
    exact ⟨_,rfl,h⟩
   ·wp_walk using AutoSeq1.wpAny_loadPart' hl,wpAny_pyIter_tuple e2
    exact ⟨_,rfl,h⟩
  ·wp_walk using AutoSeq1.wpAny_loadPart' hl,wpAny_pyIter_tuple e2
   exact ⟨_,rfl,h⟩
section
variable {prog:Sb} {w:Sd} {A:Se} {E:S6->S7->Prop} {s:S7}
theorem Jzz {l:S5} {items:Array S6} {Q:S6->S7->Prop} (hL:s.heap.IsTuple l items)
  (h:∀h',IsEnum h' (s.heap.objs.size+1) s.heap.objs.size 0 .none->h'.IsTupleIter s.heap.objs.size l 0->(∀b o,s.heap.get? b=some o->h'.get? b=some o)->Q (.ref (s.heap.objs.size+1)) {s with heap:=h'}):
  Sh (model prog w) A (call (.type "enumerate") [.ref l]) Q E s:=by
 obtain ⟨⟨c,dct,dt,sl⟩,hl,hc,n,hd⟩:=hL
 replace hc:c= .type "tuple" :=hc
 replace hd:dt= .seq items n:=hd
 subst hc hd
 refine callType_new F.called_enumerate (by decide) (F.typeCall_enumerate_1 _) (F.newCall_enumerate_1 _) (λobj=>F.args_object_init_2 obj _) F.entry_enumerate_new (Yaw l items n dct sl) ⟨hl,?_⟩
 have hz:(s.heap.push {cls:=.type "tuple_iterator",data:=.fields #[.ref l,.int 0 0]}).objs.size=s.heap.objs.size+1:=yaf ..
 show _/\_
 rw [hz]
 have he:IsEnum ((s.heap.push {cls:=.type "tuple_iterator",data:=.fields #[.ref l,.int 0 0]}).push {cls:=.type "enumerate",data:=.fields #[.none,.bool false,.ref s.heap.objs.size,rawInt 0,.none,.none]}) (s.heap.objs.size+1) s.heap.objs.size 0 .none:=by
  have q:=yo (s.heap.push {cls:=.type "tuple_iterator",data:=.fields #[.ref l,.int 0 0]}) (o:={cls:=.type "enumerate",data:=.fields #[.none,.bool false,.ref s.heap.objs.size,rawInt 0,.none,.none]}) rfl
  rw [hz] at q
  exact q
 exact ⟨⟨_,he,rfl⟩,h _ he ⟨_,yj _ (yo _ rfl),rfl,rfl⟩ λb o x=>yj _ (yj _ x)⟩
end
def ItU (K:Si) (a:S5):It:=⟨λi H=>∃xs x,SqT K H a xs/\xs[i]?=some x,
 λi H x H'=>∃T u,H T=none/\x= .ref T/\(∀xs,SqT K H a xs->xs[i]?=some u)/\H'=upd H T (.tup [.int i,u]),
 λi H=>∃xs,SqT K H a xs/\i=xs.length⟩
def Sg1 (e it l:S5) (i:Nat) (h:Sg):Prop:=(∃old,IsEnum h e it i old)/\h.IsTupleIter it l i
theorem Sg1.obj {e it l:S5} {i:Nat} {h:Sg} (st:Sg1 e it l i h):∀b∈ [e,it],∃o,h.get? b=some o/\∀v,o.data≠ .cell v:=λb hb=>by
 obtain ⟨⟨old,h1⟩,⟨o4,h4,_,d4⟩⟩:=st
 simp only [yn,yx,or_false] at hb
 rcases hb with rfl|rfl
 ·exact ⟨_,h1,λv z=>by cases z⟩
 ·exact ⟨o4,h4,λv z=>by rw [d4] at z;cases z⟩
theorem Ya3 {P:Sb} {w:Sd} {K:Si} {elts:List Expr} {kt:Nat} {pt:Pos} (e it l:S5) (n1:e≠it) (n2:l≠e) (n3:l≠it):
  Jre P w K (.Tuple elts kt pt) (ItU K l) [e,it] e (Sg1 e it l) where
 mem:=by simp
 obj:=λi h st=>st.obj
 keep:=λi h h' st k=>by
  obtain ⟨⟨old,h1⟩,h2⟩:=st
  exact ⟨⟨old,k e (by simp) _ h1⟩,h2.at λo q=>k it (by simp) o q⟩
 item:=by
  intro X hP hw hK hc i pins s σ H E I hf st hg
  subst hP hw hK
  obtain ⟨xs,x,q1,hx⟩:=hg
  obtain ⟨its,rv,p1,_⟩:=I.tuple q1
  obtain ⟨u,hu,ru⟩:=rv.get hx
  have hh:X.A.in1.handled=none:=I.ok.hd hc
  have W:=WalksT.enumerateD (prog:=X.prog) (w:=X.w) (A:=X.A) (Jrk hh it l n3 its.toArray) e n1 (by simp [n1,yi n2]) (by simp)
  obtain ⟨s1,s2⟩:=st
  have li:i < its.length:=(yq.mp hu).1
  refine W.item i s _ _ (by simp only [yu];omega) ⟨s1,s2,p1⟩ λT vals h' tk hP fT tT mid kk=>?_
  refine ⟨_,rfl,W.go elts kt pt i T _ _ _ mid λh'' st'' kk2=>?_⟩
  obtain ⟨t,a,ha,rfl⟩:=hP
  have ea:a=u:=by simpa [hu] using ha.symm
  subst ea
  obtain ⟨t1,t2,_⟩:=st''
  have kT:h''.IsTuple T #[.int i t,a]:=by
   obtain ⟨o,q,r⟩:=tT
   exact ⟨o,kk2 T o (W.apart i T h' mid) q,r⟩
  refine ⟨.ref T,upd H T (.tup [.int i,x]),I.turnTup (ch:=[e,it]) (t':=tk) hf (λc o hc q=>kk2 c o hc (kk c o hc q)) fT ⟨(show 2<=Sa by decide),[.int i t,a],.cons ⟨t,rfl⟩ (.cons ru .nil),kT⟩,rfl,⟨T,x,I.hok.fresh fT,rfl,λxs' hq=>by rw [I.tuple_inj hq q1];exact hx,rfl⟩,⟨t1,t2⟩,λc hc=>?_⟩
  have hcn:=(hf c hc).1
  rw [Sz (λw'=>?_)]
  ·exact hcn
  ·subst w'
   obtain ⟨o,q,_⟩:=Sg1.obj (show Sg1 e it l i s.heap from ⟨s1,s2⟩) c hc
   exact absurd (yk q) (yav.mpr fT)
 done:=by
  intro X hP hw hK hc i pins s σ H E I hf st hg
  subst hP hw hK
  obtain ⟨xs,q1,hi⟩:=hg
  obtain ⟨its,rv,p1,_⟩:=I.tuple q1
  have hh:X.A.in1.handled=none:=I.ok.hd hc
  have W:=WalksT.enumerateD (prog:=X.prog) (w:=X.w) (A:=X.A) (Jrk hh it l n3 its.toArray) e n1 (by simp [n1,yi n2]) (by simp)
  obtain ⟨s1,s2⟩:=st
  have e1:=rv.length
  have ei:i=its.toArray.size:=by simp only [yu];omega
  subst ei
  refine W.done s _ _ ⟨s1,s2,p1⟩ λh' tk kk=>⟨rfl,?_⟩
  exact I.turnMany (ch:=[e,it]) hf λc o hc q=>kk c o hc q
 self:=λ_ _ _ _ _ st h=>let ⟨_,q⟩:=st.1;wpAny_pyIter_enum q h
def Soz (K:Si) (ta:TA):TI:=λσ H R=>ta σ H λvs H1=>∃a,vs= [.ref a]/\(∃xs,SqT K H1 a xs)/\R (ItU K a) H1
theorem Ybq {X:Cx} {elts:List Expr} {kt:Nat} {pt:Pos} {a:Expr} {ta:TA} {p pos:Pos} (hg:Gl X "enumerate") (hm:X.mg "enumerate" =none) (ha:PA X [a] ta) (hs:starEach [a] X.env= [(false,eval a X.env)]:=by rfl):
  PI X (.Tuple elts kt pt) (.Call (.Name "enumerate" p) [a] [] pos) (Soz X.K ta):=by
 intro pins s σ H R I h
 refine Call_ (Joh I hg hm Jqt (PyProof.Rows.callWith_type1 (thn (ha pos pins s σ H _ I h) λus s1 zq=>?_) (by rw [hs];rfl) rfl))
 obtain ⟨vs,H1,I1,r1,q1⟩:=zq
 obtain ⟨l,rfl,⟨xs,q1⟩,q⟩:=q1
 obtain ⟨u,rfl,r2⟩:=Jnc r1
 obtain rfl:u=Value.ref l:=r2
 obtain ⟨its,rv,p1,_⟩:=I1.tuple q1
 have a1:l < s1.heap.objs.size:=by obtain ⟨o,e,_⟩:=p1;exact yk e
 refine Jzz (show s1.heap.IsTuple l its.toArray from p1) λh' z1 z2 kk=>?_
 have I2:Su X pins σ H1 {s1 with heap:=h'}:=I1.kept (t':=s1.toks) kk
 refine wpAny_pyIter_enum z1 ⟨_,_,_,_,H1,rfl,I2,Ya3 (s1.heap.objs.size+1) s1.heap.objs.size l (Nat.succ_ne_self _) (yr (ybx a1)) (yr a1),⟨⟨_,z1⟩,z2⟩,λc hc=>?_,q⟩
 have hc':s1.heap.objs.size<=c:=by
  simp only [yn,yx,or_false] at hc
  rcases hc with rfl|rfl
  ·exact Nat.le_succ _
  ·exact yg _
 exact I1.fpOk hc' (I1.hok.fresh hc')
abbrev Jme (h:Sg) (T:S5) (a b c:S6):Prop:=h.get? T=some {cls:=.type "tuple",data:=.seq #[a,b,c]}
abbrev DrA (prog:Sb) (w:Sd) (i l:S5) (n:Nat) (P:Nat->S6->Prop) (St:Nat->Sg->Prop):Prop:=∀A:Se,A.handled=none->Draws prog w A i [i,l] n P St
structure Z3 (z TI TO i1 i2 i3 l1 l2 l3:S5):Prop where
 nd: [z,TI,TO,i1,i2,i3].Nodup
 m1:l1∉ [z,TI,TO,i1,i2,i3]
 m2:l2∉ [z,TI,TO,i1,i2,i3]
 m3:l3∉ [z,TI,TO,i1,i2,i3]
section
variable {prog:Sb} {w:Sd} {A:Se} {E:S6->S7->Prop} {s:S7}
theorem Jz7 {T:S5} {a b c x:S6} {k:Nat} {Q:Unit->S7->Prop} (hT:Jme s.heap T a b c)
  (h:∀h',h'.get? T=some {cls:=.type "tuple",data:=.seq ((#[a,b,c]:Array S6).setIfInBounds k x)}->yak T s.heap h'->Q () {s with heap:=h'}):Sh (model prog w) A (updateSeq T (·.setIfInBounds k x)) Q E s:=by
 refine wpAny_updateSeq hT rfl (h _ ?_ (yak.update ..))
 rw [ybn _ hT rfl]
 simp [Obj.mapSeq]
variable {z TI TO i1 i2 i3 l1 l2 l3:S5} {n k:Nat} {P1 P2 P3:Nat->S6->Prop} {S1 S2 S3:Nat->Sg->Prop} {a b c:S6}
theorem Yes {n2:Nat} {Q:S6->S7->Prop} (Z:Z3 z TI TO i1 i2 i3 l1 l2 l3) (hz:IsZip s.heap z TI TO .none) (hTI:Jme s.heap TI (.ref i1) (.ref i2) (.ref i3)) (hTO:Jme s.heap TO a b c)
  (hh:A.handled=none) (D1:DrA prog w i1 l1 n P1 S1) (D2:DrA prog w i2 l2 n2 P2 S2) (D3:DrA prog w i3 l3 n P3 S3) (hk:k < n) (hk2:k < n2) (t1:S1 k s.heap) (t2:S2 k s.heap) (t3:S3 k s.heap)
  (hQ:∀x y u h' tk,P1 k x->P2 k y->P3 k u->IsZip h' z TI TO (rawInt s.heap.objs.size)->Jme h' TO x y u->S1 (k+1) h'->S2 (k+1) h'->S3 (k+1) h'->Jme h' s.heap.objs.size x y u->
   (∀d o,d≠z->d≠TO->d≠i1->d≠i2->d≠i3->s.heap.get? d=some o->h'.get? d=some o)->Q (.ref s.heap.objs.size) {s with heap:=h',toks:=tk}):
  Sh (model prog w) A (Builtin.«zip.__next__» ⟨[.ref z],[]⟩) (λfin s'=>∃v,fin= .done (.ret v)/\Q v s') E s:=by
 obtain ⟨nd,m1,m2,m3⟩:=Z
 simp only [yaz,yn,yx,or_false,not_or,ybo,and_true,not_false_eq_true] at nd m1 m2 m3
 obtain ⟨⟨zTI,zTO,z1,z2,z3⟩,⟨TITO,TI1,TI2,TI3⟩,⟨TO1,TO2,TO3⟩,⟨n12,n13⟩,n23⟩:=nd
 obtain ⟨l1z,l1TI,l1TO,l11,l12,l13⟩:=m1
 obtain ⟨l2z,l2TI,l2TO,l21,l22,l23⟩:=m2
 obtain ⟨l3z,l3TI,l3TO,l31,l32,l33⟩:=m3
 have fr:∀{S:Nat->Sg->Prop} {P:Nat->S6->Prop} {i l b:S5} {m n':Nat} {h h':Sg},DrA prog w i l n' P S->i≠b->l≠b->yak b h h'->S m h->S m h':=λD e1 e2 sb st=>
  (D A hh).frame _ _ _ st λd hd o e=>by
   simp only [yn,yx,or_false] at hd
   rcases hd with rfl|rfl
   ·exact sb.extBut _ _ e1 e
   ·exact sb.extBut _ _ e2 e
 show Sh _ _ (field (.ref z) 2 >>=_) _ _ _
 refine S8 (wpAny_field hz rfl (x:=.bool false) rfl ?_)
 refine S8 (m:=field (.ref z) 3) (wpAny_field hz rfl (x:=.ref TI) rfl ?_)
 refine S8 (wpAny_seqItems hTI rfl ?_)
 refine S8 (m:=Builtin.SmallTypes.ownedTupleIsFree (.ref z)) ?_
 unfold Builtin.SmallTypes.ownedTupleIsFree
 refine S8 (wpAny_field hz rfl (x:=.none) rfl (S9 ?_))
 simp only [if_true]
 refine S8 (wpAny_rule (S8 (wpAny_field hz rfl (x:=.ref TO) rfl (S8 (wpAny_setField_rec hz (by simp) λh1 hz1 s1=>?_)))))
 replace hz1:IsZip h1 z TI TO .ellipsis:=hz1
 refine S8 ?_
 simp only [List.zipIdx_cons,List.zipIdx_nil,yck,List.forIn_nil]
 refine S8 (S8 (wpAny_onRaise ?_))
 refine S8 (m:=Builtin.SmallTypes.nextOf (.ref i1)) ((D1 A hh).item k _ _ _ hk (fr D1 (yi z1) l1z s1 t1) λx h2 k2 px u1 s2=>S9 ?_)
 have o2:Jme h2 TO a b c:=s2.extBut _ _ TO1 (s1.extBut _ _ (yi zTO) hTO)
 refine S8 (wpAny_seqItems o2 rfl (S8 (Jz7 o2 λh3 o3 s3=>S8 (wpAny_letGo (S9 ?_)))))
 replace o3:Jme h3 TO x b c:=o3
 refine S8 (S8 (wpAny_onRaise ?_))
 refine S8 (m:=Builtin.SmallTypes.nextOf (.ref i2)) ((D2 A hh).item k _ _ _ hk2 (fr D2 (yi TO2) l2TO s3 (fr D2 (yi n12) l21 s2 (fr D2 (yi z2) l2z s1 t2))) λy h4 k4 py u2 s4=>S9 ?_)
 have o4:Jme h4 TO x b c:=s4.extBut _ _ TO2 o3
 refine S8 (wpAny_seqItems o4 rfl (S8 (Jz7 o4 λh5 o5 s5=>S8 (wpAny_letGo (S9 ?_)))))
 replace o5:Jme h5 TO x y c:=o5
 refine S8 (S8 (wpAny_onRaise ?_))
 refine S8 (m:=Builtin.SmallTypes.nextOf (.ref i3)) ((D3 A hh).item k _ _ _ hk (fr D3 (yi TO3) l3TO s5 (fr D3 (yi n23) l32 s4 (fr D3 (yi TO3) l3TO s3 (fr D3 (yi n13) l31 s2 (fr D3 (yi z3) l3z s1 t3))))) λu h6 k6 pu u3 s6=>S9 ?_)
 have o6:Jme h6 TO x y c:=s6.extBut _ _ TO3 o5
 refine S8 (wpAny_seqItems o6 rfl (S8 (Jz7 o6 λh7 o7 s7=>S8 (wpAny_letGo (S9 (S9 ?_))))))
 replace o7:Jme h7 TO x y u:=o7
 refine S8 (wpAny_seqItems o7 rfl (S8 (wpAny_newTuple ?_)))
 have sz:h7.objs.size=s.heap.objs.size:=by rw [s7.1,s6.1,s5.1,s4.1,s3.1,s2.1,s1.1]
 have zz:IsZip h7 z TI TO .ellipsis:=s7.extBut _ _ zTO (s6.extBut _ _ z3 (s5.extBut _ _ zTO (s4.extBut _ _ z2 (s3.extBut _ _ zTO (s2.extBut _ _ z1 hz1)))))
 have kk:∀d o,d≠z->d≠TO->d≠i1->d≠i2->d≠i3->s.heap.get? d=some o->h7.get? d=some o:=λd o c1 c2 c3 c4 c5 e=>
  s7.extBut _ _ c2 (s6.extBut _ _ c5 (s5.extBut _ _ c2 (s4.extBut _ _ c4 (s3.extBut _ _ c2 (s2.extBut _ _ c3 (s1.extBut _ _ c1 e))))))
 have w1:S1 (k+1) h7:=fr D1 (yi TO1) l1TO s7 (fr D1 n13 l13 s6 (fr D1 (yi TO1) l1TO s5 (fr D1 n12 l12 s4 (fr D1 (yi TO1) l1TO s3 u1))))
 have w2:S2 (k+1) h7:=fr D2 (yi TO2) l2TO s7 (fr D2 n23 l23 s6 (fr D2 (yi TO2) l2TO s5 u2))
 have w3:S3 (k+1) h7:=fr D3 (yi TO3) l3TO s7 u3
 have zlt:z < h7.objs.size:=yk zz
 refine S8 (m:=Builtin.SmallTypes.ownedTupleHandOut (.ref z) (.ref h7.objs.size)) ?_
 unfold Builtin.SmallTypes.ownedTupleHandOut
 have zp:IsZip (h7.push {cls:=.type "tuple",data:=.seq #[x,y,u]}) z TI TO .ellipsis:=yj _ zz
 refine S8 (wpAny_setField_rec zp (by simp) λh8 hz8 s8=>?_)
 replace hz8:IsZip h8 z TI TO (rawInt h7.objs.size):=hz8
 refine wpAny_setField_rec hz8 (by simp) λh9 hz9 s9=>?_
 replace hz9:IsZip h9 z TI TO (rawInt h7.objs.size):=hz9
 have up:∀d o,d≠z->h7.get? d=some o->h9.get? d=some o:=λd o c1 e=>s9.extBut _ _ c1 (s8.extBut _ _ c1 (yj _ e))
 have nw:Jme h9 h7.objs.size x y u:=s9.extBut _ _ (yax zlt) (s8.extBut _ _ (yax zlt) (yo _ rfl))
 have fz:∀{S:Nat->Sg->Prop} {P:Nat->S6->Prop} {i l:S5} {m n':Nat},DrA prog w i l n' P S->i≠z->l≠z->S m h7->S m h9:=λD e1 e2 st=>(D A hh).frame _ _ _ st λd hd o e=>by
  simp only [yn,yx,or_false] at hd
  rcases hd with rfl|rfl
  ·exact up _ _ e1 e
  ·exact up _ _ e2 e
 rw [sz] at hz9 nw
 refine S9 ⟨_,rfl,?_⟩
 show Q (.ref h7.objs.size) _
 rw [sz]
 exact hQ x y u h9 _ px py pu hz9 (up _ _ (yi zTO) o7) (fz D1 (yi z1) l1z w1) (fz D2 (yi z2) l2z w2) (fz D3 (yi z3) l3z w3) nw λd o c1 c2 c3 c4 c5 e=>up d o c1 (kk d o c1 c2 c3 c4 c5 e)
theorem Smx {Q:Fin->S7->Prop} (Z:Z3 z TI TO i1 i2 i3 l1 l2 l3) (hz:IsZip s.heap z TI TO .none) (hTI:Jme s.heap TI (.ref i1) (.ref i2) (.ref i3))
  (hh:A.handled=none) (D1:DrA prog w i1 l1 n P1 S1) (t1:S1 n s.heap)
  (hE:∀h' e,(∀d o,d≠z->d≠i1->s.heap.get? d=some o->h'.get? d=some o)->(∃o,h'.get? e=some o/\o.cls= .type "StopIteration")->E (.ref e) {s with heap:=h'}):
  Sh (model prog w) A (Builtin.«zip.__next__» ⟨[.ref z],[]⟩) Q E s:=by
 obtain ⟨nd,m1,_,_⟩:=Z
 simp only [yaz,yn,yx,or_false,not_or,ybo,and_true,not_false_eq_true] at nd m1
 obtain ⟨⟨zTI,zTO,z1,z2,z3⟩,_⟩:=nd
 obtain ⟨l1z,l1TI,l1TO,l11,l12,l13⟩:=m1
 show Sh _ _ (field (.ref z) 2 >>=_) _ _ _
 refine S8 (wpAny_field hz rfl (x:=.bool false) rfl ?_)
 refine S8 (m:=field (.ref z) 3) (wpAny_field hz rfl (x:=.ref TI) rfl ?_)
 refine S8 (wpAny_seqItems hTI rfl ?_)
 refine S8 (m:=Builtin.SmallTypes.ownedTupleIsFree (.ref z)) ?_
 unfold Builtin.SmallTypes.ownedTupleIsFree
 refine S8 (wpAny_field hz rfl (x:=.none) rfl (S9 ?_))
 simp only [if_true]
 refine S8 (wpAny_rule (S8 (wpAny_field hz rfl (x:=.ref TO) rfl (S8 (wpAny_setField_rec hz (by simp) λh1 hz1 s1=>?_)))))
 replace hz1:IsZip h1 z TI TO .ellipsis:=hz1
 refine S8 ?_
 simp only [List.zipIdx_cons,List.zipIdx_nil,yck,List.forIn_nil]
 refine S8 (S8 (wpAny_onRaise ?_))
 refine S8 (m:=Builtin.SmallTypes.nextOf (.ref i1)) ((D1 A hh).done _ _ _ ((D1 A hh).frame _ _ _ t1 λd hd o e=>?_) λh2 e s2 he=>?_)
 ·simp only [yn,yx,or_false] at hd
  rcases hd with rfl|rfl
  ·exact s1.extBut _ _ (yi z1) e
  ·exact s1.extBut _ _ l1z e
 ·obtain ⟨oe,hoe,hce⟩:=he
  have hz2:IsZip h2 z TI TO .ellipsis:=s2 _ _ z1 hz1
  have ez:e≠z:=λq=>by subst q;rw [hz2] at hoe;cases hoe;simp at hce
  exact wpAny_setField_rec hz2 (by simp) λh3 _ s3=>hE h3 e (λd o c1 c2 q=>s3.extBut _ _ c1 (s2 _ _ c2 (s1.extBut _ _ c1 q))) ⟨oe,s3.extBut _ _ ez hoe,hce⟩
end
def St3 (z TI TO i1 i2 i3:S5) (S1 S2 S3:Nat->Sg->Prop) (i:Nat) (h:Sg):Prop:=IsZip h z TI TO .none/\Jme h TI (.ref i1) (.ref i2) (.ref i3)/\(∃a b c,Jme h TO a b c)/\S1 i h/\S2 i h/\S3 i h
section
variable {prog:Sb} {w:Sd} {z TI TO i1 i2 i3 l1 l2 l3:S5} {n:Nat} {P1 P2 P3:Nat->S6->Prop} {S1 S2 S3:Nat->Sg->Prop}
theorem Yd3 {n2:Nat} {A:Se} (hh:A.handled=none) (Z:Z3 z TI TO i1 i2 i3 l1 l2 l3) (D1:DrA prog w i1 l1 n P1 S1) (hn:n<=n2) (D2:DrA prog w i2 l2 n2 P2 S2) (D3:DrA prog w i3 l3 n P3 S3):
  WalksT prog w A z [z,TI,TO,i1,i2,i3,l1,l2,l3] [z,TO,i1,i2,i3] n (λi vals=>∃x y u,P1 i x/\P2 i y/\P3 i u/\vals= #[x,y,u]) (St3 z TI TO i1 i2 i3 S1 S2 S3)
   (λi T h=>IsZip h z TI TO (rawInt T)/\Jme h TI (.ref i1) (.ref i2) (.ref i3)/\(∃a b c,Jme h TO a b c)/\S1 (i+1) h/\S2 (i+1) h/\S3 (i+1) h/\T∉ [z,TO,i1,i2,i3]) where
 sub:=λc hc=>by simp at hc⊢;rcases hc with rfl|rfl|rfl|rfl|rfl <;> simp
 frame:=λi h h' hst hk=>by
  obtain ⟨hz,hTI,⟨a,b,c,hTO⟩,h1,h2,h3⟩:=hst
  exact ⟨hk z (by simp) _ hz,hk TI (by simp) _ hTI,⟨a,b,c,hk TO (by simp) _ hTO⟩,(D1 A hh).frame _ _ _ h1 λd hd o e=>hk d (by simp at hd;rcases hd with rfl|rfl <;> simp) o e,
   (D2 A hh).frame _ _ _ h2 λd hd o e=>hk d (by simp at hd;rcases hd with rfl|rfl <;> simp) o e,(D3 A hh).frame _ _ _ h3 λd hd o e=>hk d (by simp at hd;rcases hd with rfl|rfl <;> simp) o e⟩
 item:=λi s Q E hi hst hQ=>by
  obtain ⟨hz,hTI,⟨a,b,c,hTO⟩,h1,h2,h3⟩:=hst
  have hT:s.TypeIs (.ref z) "zip" :=⟨_,hz,rfl⟩
  have nd:=Z.nd
  simp only [yaz,yn,yx,or_false,not_or,ybo,and_true,not_false_eq_true] at nd
  obtain ⟨⟨zTI,_⟩,⟨TITO,TI1,TI2,TI3⟩,_⟩:=nd
  obtain ⟨e1,g1⟩:=(D1 A hh).live _ _ h1
  obtain ⟨e2,g2⟩:=(D2 A hh).live _ _ h2
  obtain ⟨e3,g3⟩:=(D3 A hh).live _ _ h3
  unfold pyNext
  refine S8 (wpAny_attempt (wpAny_callSpecial?_slot (name:=Str.ofString "__next__") hT F.slot_zip_next (wpAny_call_entry F.slot_zip_next hT F.entry_zip_next
   (Yes (A:=A.in1) Z hz hTI hTO hh D1 D2 D3 hi (yao hi hn) h1 h2 h3 λx y u h' tk px py pu a1 a2 a3 a4 a5 a6 hk=>S9 ?_) (F.args_zip_next_1 _))))
  refine hQ s.heap.objs.size #[x,y,u] h' tk ⟨x,y,u,px,py,pu,rfl⟩ (yg _) ⟨_,a6,rfl,_,rfl⟩ ⟨a1,hk _ _ (yi zTI) TITO TI1 TI2 TI3 hTI,⟨_,_,_,a2⟩,a3,a4,a5,?_⟩ λd o hd e=>hk d o (λq=>hd (by simp [q])) (λq=>hd (by simp [q])) (λq=>hd (by simp [q])) (λq=>hd (by simp [q])) (λq=>hd (by simp [q])) e
  have lt:∀{d o},s.heap.get? d=some o->s.heap.objs.size≠d:=λe=>yax (yk e)
  simp only [yn,yx,or_false,not_or]
  exact ⟨lt hz,lt hTO,lt g1,lt g2,lt g3⟩
 go:=λelts k pos i T s Q E hm hQ=>by
  obtain ⟨hz,hTI,⟨a,b,c,hTO⟩,h1,h2,h3,_⟩:=hm
  have nd:=Z.nd
  have m1:=Z.m1
  have m2:=Z.m2
  have m3:=Z.m3
  simp only [yaz,yn,yx,or_false,not_or,ybo,and_true,not_false_eq_true] at nd m1 m2 m3
  obtain ⟨⟨zTI,zTO,z1,z2,z3⟩,_⟩:=nd
  have fz:∀{S:Nat->Sg->Prop} {P:Nat->S6->Prop} {j l:S5} {m n':Nat} {h':Sg},DrA prog w j l n' P S->j≠z->l≠z->yak z s.heap h'->S m s.heap->S m h':=λD e1 e2 sb st=>(D A hh).frame _ _ _ st λd hd o e=>by
   simp only [yn,yx,or_false] at hd
   rcases hd with rfl|rfl
   ·exact sb.extBut _ _ e1 e
   ·exact sb.extBut _ _ e2 e
  exact wpAny_letOwnedTupleGo_zip hz λh' hz' sb=>hQ h' ⟨hz',sb.extBut _ _ (yi zTI) hTI,⟨a,b,c,sb.extBut _ _ (yi zTO) hTO⟩,fz D1 (yi z1) m1.1 sb h1,fz D2 (yi z2) m2.1 sb h2,fz D3 (yi z3) m3.1 sb h3⟩ λd o hd e=>sb.extBut _ _ (λq=>hd (by simp [q])) e
 apart:=λi T h hm hT=>hm.2.2.2.2.2.2 hT
 done:=λs Q E hst hQ=>by
  obtain ⟨hz,hTI,_,h1,h2,h3⟩:=hst
  have hT:s.TypeIs (.ref z) "zip" :=⟨_,hz,rfl⟩
  unfold pyNext
  refine S8 (wpAny_attempt (wpAny_callSpecial?_slot (name:=Str.ofString "__next__") hT F.slot_zip_next (wpAny_call_entry F.slot_zip_next hT F.entry_zip_next
   (Smx (A:=A.in1) Z hz hTI hh D1 h1 λh' e hk he=>?_) (F.args_zip_next_1 _))))
  obtain ⟨o,ho,hc⟩:=he
  refine S8 (wpAny_isInstance (T:="StopIteration") (b:=true) ⟨o,ho,hc⟩ isSubtype_stop (S9 ?_))
  exact hQ h' s.toks λd o' hd e'=>hk d o' (λq=>hd (by simp [q])) (λq=>hd (by simp [q])) e'
 self:=λi s Q E hst hQ=>wpAny_pyIter_zip hst.1 hQ
end
def SqB (K:Si) (H:Hp) (l:S5):Bool->List V->Prop
 |false,xs=>Sw K H l xs
 |true,xs=>SqT K H l xs
def IsB (h:Sg) (l:S5):Bool->Array S6->Prop
 |false,items=>h.IsList l items
 |true,items=>h.IsTuple l items
def IS (it l:S5):Bool->Nat->Sg->Prop
 |false,i,h=>h.IsListIter it l i
 |true,i,h=>h.IsTupleIter it l i
def itO (l:S5):Bool->Obj
 |false=>{cls:=.type "list_iterator",data:=.fields #[.ref l,.int 0 0]}
 |true=>{cls:=.type "tuple_iterator",data:=.fields #[.ref l,.int 0 0]}
theorem IS.at {it l:S5} {b:Bool} {i:Nat} {h h':Sg} (x:IS it l b i h) (k:∀o,h.get? it=some o->h'.get? it=some o):IS it l b i h':=by
 cases b
 ·exact Heap.IsListIter.at x k
 ·exact Heap.IsTupleIter.at x k
theorem IS.obj {it l:S5} {b:Bool} {i:Nat} {h:Sg} (x:IS it l b i h):∃o,h.get? it=some o/\∀v,o.data≠ .cell v:=by
 cases b
 ·obtain ⟨o,e,_,d⟩:=x
  exact ⟨o,e,λv z=>by rw [d] at z;cases z⟩
 ·obtain ⟨o,e,_,d⟩:=x
  exact ⟨o,e,λv z=>by rw [d] at z;cases z⟩
theorem drA {prog:Sb} {w:Sd} {it l:S5} (b:Bool) (ne:l≠it) (items:Array S6):DrA prog w it l items.size (λi v=>items[i]?=some v) (λi h=>IS it l b i h/\IsB h l b items):=λA hh=>by
 cases b
 ·exact Draws.list hh it l ne items
 ·exact Jrk hh it l ne items
section
variable {prog:Sb} {w:Sd} {A:Se} {E:S6->S7->Prop} {s:S7}
theorem IsB.push {h:Sg} {l:S5} {b:Bool} {items:Array S6} (x:IsB h l b items) (o:Obj):IsB (h.push o) l b items:=by
 cases b
 ·exact Heap.IsList.push x o
 ·exact Heap.IsTuple.push x o
theorem IsB.lt {h:Sg} {l:S5} {b:Bool} {items:Array S6} (x:IsB h l b items):l < h.objs.size:=by
 cases b
 ·obtain ⟨o,e,_⟩:=x;exact yk e
 ·obtain ⟨o,e,_⟩:=x;exact yk e
theorem Jx4 {l:S5} {b:Bool} {items:Array S6} {Q:S6->S7->Prop} (x:IsB s.heap l b items) (hQ:Q (.ref s.heap.objs.size) {s with heap:=s.heap.push (itO l b)}):Sh (model prog w) A (pyIter (.ref l)) Q E s:=by
 cases b
 ·exact wpAny_pyIter_list x hQ
 ·exact wpAny_pyIter_tuple x hQ
end
abbrev zA (h:Sg) (l1:S5) (b1:Bool):Sg:=h.push (itO l1 b1)
abbrev zB (h:Sg) (l1 l2:S5) (b1 b2:Bool):Sg:=(zA h l1 b1).push (itO l2 b2)
abbrev zC (h:Sg) (l1 l2 l3:S5) (b1 b2 b3:Bool):Sg:=(zB h l1 l2 b1 b2).push (itO l3 b3)
abbrev zD (h:Sg) (l1 l2 l3:S5) (b1 b2 b3:Bool):Sg:=(zC h l1 l2 l3 b1 b2 b3).push {cls:=.type "tuple",data:=.seq #[.ref h.objs.size,.ref (zA h l1 b1).objs.size,.ref (zB h l1 l2 b1 b2).objs.size]}
abbrev zE (h:Sg) (l1 l2 l3:S5) (b1 b2 b3:Bool):Sg:=(zD h l1 l2 l3 b1 b2 b3).push {cls:=.type "tuple",data:=.seq #[.none,.none,.none]}
abbrev zF (h:Sg) (l1 l2 l3:S5) (b1 b2 b3:Bool):Sg:=(zE h l1 l2 l3 b1 b2 b3).push {cls:=.type "zip",data:=.fields #[.none,.bool false,.bool false,.ref (zC h l1 l2 l3 b1 b2 b3).objs.size,.ref (zD h l1 l2 l3 b1 b2 b3).objs.size]}
set_option maxRecDepth 100000 in
set_option maxHeartbeats 2000000 in
theorem Yda (l1 l2 l3:S5) (b1 b2 b3:Bool) (xs ys us:Array S6):
  Meets (Builtin.«zip.__new__» ⟨[.type "zip",.ref l1,.ref l2,.ref l3],[]⟩) (λ_ R s=>IsB s.heap l1 b1 xs/\IsB s.heap l2 b2 ys/\IsB s.heap l3 b3 us/\
   R (.ok (.ret (.ref (zE s.heap l1 l2 l3 b1 b2 b3).objs.size))) {s with heap:=zF s.heap l1 l2 l3 b1 b2 b3}):=
 .of_wp λprog w A R s h=>by
  obtain ⟨hp,g,d,tk,os⟩:=s
  obtain ⟨hl1,hl2,hl3,h⟩:=h
  have e0:=sub_zip
  have e1:IsB (Shared.heap ⟨hp,g,d,tk,os⟩) l1 b1 xs:=hl1
  have e2:IsB (Shared.heap ⟨hp.push (itO l1 b1),g,d,tk,os⟩) l2 b2 ys:=IsB.push hl2 _
  have e3:IsB (Shared.heap ⟨(hp.push (itO l1 b1)).push (itO l2 b2),g,d,tk,os⟩) l3 b3 us:=IsB.push (IsB.push hl3 _) _
  wp_walk using Jx4 e1,Jx4 e2,Jx4 e3
  exact ⟨_,rfl,h⟩
theorem Jtw (a b c:S6):checkTypeCall "zip" ⟨[a,b,c],[]⟩=pure ():=by kernel_rfl
theorem Ju3 (a b c:S6):checkBuiltinCall "zip.__new__" ⟨[.type "zip",a,b,c],[]⟩=pure ():=by kernel_rfl
theorem Jwx (a b c d:S6):argsOk "object.__init__" ⟨[a,b,c,d],[]⟩:=by
 unfold argsOk;rw [signature?_of (id:="object.__init__") (n:=['_','_','t','i','n','i','_','_']) (o:=['t','c','e','j','b','o']) (by kernel_rfl) F.owner_object];kernel_rfl
section
variable {prog:Sb} {w:Sd} {A:Se} {E:S6->S7->Prop} {s:S7}
theorem Y2 {l1 l2 l3:S5} {b1 b2 b3:Bool} {xs ys us:Array S6} {Q:S6->S7->Prop} (h1:IsB s.heap l1 b1 xs) (h2:IsB s.heap l2 b2 ys) (h3:IsB s.heap l3 b3 us)
  (h:∀h',IsZip h' (s.heap.objs.size+5) (s.heap.objs.size+3) (s.heap.objs.size+4) .none->Jme h' (s.heap.objs.size+3) (.ref s.heap.objs.size) (.ref (s.heap.objs.size+1)) (.ref (s.heap.objs.size+2))->
   Jme h' (s.heap.objs.size+4) .none .none .none->IS s.heap.objs.size l1 b1 0 h'->IS (s.heap.objs.size+1) l2 b2 0 h'->IS (s.heap.objs.size+2) l3 b3 0 h'->
   (∀c o,s.heap.get? c=some o->h'.get? c=some o)->Q (.ref (s.heap.objs.size+5)) {s with heap:=h'}):
  Sh (model prog w) A (call (.type "zip") [.ref l1,.ref l2,.ref l3]) Q E s:=by
 refine callType_new F.called_zip (by decide) (Jtw _ _ _) (Ju3 _ _ _) (λobj=>Jwx obj _ _ _) F.entry_zip_new (Yda l1 l2 l3 b1 b2 b3 xs ys us) ⟨h1,h2,h3,?_⟩
 have z1:(zA s.heap l1 b1).objs.size=s.heap.objs.size+1:=yaf ..
 have z2:(zB s.heap l1 l2 b1 b2).objs.size=s.heap.objs.size+2:=by rw [yaf,z1]
 have z3:(zC s.heap l1 l2 l3 b1 b2 b3).objs.size=s.heap.objs.size+3:=by rw [yaf,z2]
 have z4:(zD s.heap l1 l2 l3 b1 b2 b3).objs.size=s.heap.objs.size+4:=by rw [yaf,z3]
 have z5:(zE s.heap l1 l2 l3 b1 b2 b3).objs.size=s.heap.objs.size+5:=by rw [yaf,z4]
 have p:∀{h:Sg} {c:S5} {o q:Obj},h.get? c=some o->(h.push q).get? c=some o:=λe=>yj _ e
 have g6:(zF s.heap l1 l2 l3 b1 b2 b3).get? (zE s.heap l1 l2 l3 b1 b2 b3).objs.size=some _:=yo _ rfl
 have g5:(zF s.heap l1 l2 l3 b1 b2 b3).get? (zD s.heap l1 l2 l3 b1 b2 b3).objs.size=some _:=p (yo _ rfl)
 have g4:(zF s.heap l1 l2 l3 b1 b2 b3).get? (zC s.heap l1 l2 l3 b1 b2 b3).objs.size=some _:=p (p (yo _ rfl))
 have fr:∀(l:S5) (b:Bool),(itO l b).isFreed=false:=λl b=>by cases b <;> rfl
 have g3:(zF s.heap l1 l2 l3 b1 b2 b3).get? (zB s.heap l1 l2 b1 b2).objs.size=some (itO l3 b3):=p (p (p (yo _ (fr _ _))))
 have g2:(zF s.heap l1 l2 l3 b1 b2 b3).get? (zA s.heap l1 b1).objs.size=some (itO l2 b2):=p (p (p (p (yo _ (fr _ _)))))
 have g1:(zF s.heap l1 l2 l3 b1 b2 b3).get? s.heap.objs.size=some (itO l1 b1):=p (p (p (p (p (yo _ (fr _ _))))))
 have is:∀{it l:S5} {b:Bool} {h:Sg},h.get? it=some (itO l b)->IS it l b 0 h:=λ{it l b h} e=>by
  cases b
  ·exact ⟨_,e,rfl,rfl⟩
  ·exact ⟨_,e,rfl,rfl⟩
 show _/\_
 rw [z3,z4,z5] at g6
 rw [z1,z2,z3] at g4
 rw [z4] at g5
 rw [z2] at g3
 rw [z1] at g2
 rw [z5]
 exact ⟨⟨_,g6,rfl⟩,h _ g6 g4 g5 (is g1) (is g2) (is g3) λc o x=>p (p (p (p (p (p x)))))⟩
end
section
variable {X:Cx} {pins:List (S5×Obj)} {σ:St} {H:Hp} {s:S7}
theorem Su.seqB {l:S5} {b:Bool} {xs:List V} (I:Su X pins σ H s) (h:SqB X.K H l b xs):∃its,Sa0 xs its/\IsB s.heap l b its.toArray:=by
 cases b
 ·obtain ⟨its,rv,p,_⟩:=I.list h
  exact ⟨its,rv,p.isList⟩
 ·obtain ⟨its,rv,p,_⟩:=I.tuple h
  exact ⟨its,rv,p⟩
theorem Su.seqB_inj {l:S5} {b:Bool} {xs ys:List V} (I:Su X pins σ H s) (h:SqB X.K H l b xs) (h':SqB X.K H l b ys):xs=ys:=by
 cases b
 ·exact I.list_inj h h'
 ·exact I.tuple_inj h h'
end
def Jwv (K:Si) (l1 l2 l3:S5) (b1 b2 b3:Bool):It:=
 ⟨λi H=>∃xs ys us,SqB K H l1 b1 xs/\SqB K H l2 b2 ys/\SqB K H l3 b3 us/\xs.length<=ys.length/\xs.length=us.length/\i < xs.length,
  λi H x H'=>∃T p q r,H T=none/\x= .ref T/\(∀xs,SqB K H l1 b1 xs->xs[i]?=some p)/\(∀ys,SqB K H l2 b2 ys->ys[i]?=some q)/\(∀us,SqB K H l3 b3 us->us[i]?=some r)/\H'=upd H T (.tup [p,q,r]),
  λi H=>∃xs ys us,SqB K H l1 b1 xs/\SqB K H l2 b2 ys/\SqB K H l3 b3 us/\xs.length<=ys.length/\xs.length=us.length/\i=xs.length⟩
def Z3T (z TI TO i1 i2 i3 l1 l2 l3:S5) (b1 b2 b3:Bool) (i:Nat) (h:Sg):Prop:=IsZip h z TI TO .none/\Jme h TI (.ref i1) (.ref i2) (.ref i3)/\(∃a b c,Jme h TO a b c)/\IS i1 l1 b1 i h/\IS i2 l2 b2 i h/\IS i3 l3 b3 i h
theorem Z3T.obj {z TI TO i1 i2 i3 l1 l2 l3:S5} {b1 b2 b3:Bool} {i:Nat} {h:Sg} (st:Z3T z TI TO i1 i2 i3 l1 l2 l3 b1 b2 b3 i h):∀b∈ [z,TI,TO,i1,i2,i3],∃o,h.get? b=some o/\∀v,o.data≠ .cell v:=λb hb=>by
 obtain ⟨h1,h2,⟨x,y,u,h3⟩,h4,h5,h6⟩:=st
 simp only [yn,yx,or_false] at hb
 rcases hb with rfl|rfl|rfl|rfl|rfl|rfl
 ·exact ⟨_,h1,λv z=>by cases z⟩
 ·exact ⟨_,h2,λv z=>by cases z⟩
 ·exact ⟨_,h3,λv z=>by cases z⟩
 ·exact h4.obj
 ·exact h5.obj
 ·exact h6.obj
theorem Z3.ne {z TI TO i1 i2 i3 l1 l2 l3:S5} (Z:Z3 z TI TO i1 i2 i3 l1 l2 l3):l1≠i1/\l2≠i2/\l3≠i3:=by
 obtain ⟨_,m1,m2,m3⟩:=Z
 simp only [yn,yx,or_false,not_or] at m1 m2 m3
 exact ⟨m1.2.2.2.1,m2.2.2.2.2.1,m3.2.2.2.2.2⟩
theorem Ya6 {P:Sb} {w:Sd} {K:Si} {elts:List Expr} {kt:Nat} {pt:Pos} (z TI TO i1 i2 i3 l1 l2 l3:S5) (b1 b2 b3:Bool) (Z:Z3 z TI TO i1 i2 i3 l1 l2 l3):
  Jre P w K (.Tuple elts kt pt) (Jwv K l1 l2 l3 b1 b2 b3) [z,TI,TO,i1,i2,i3] z (Z3T z TI TO i1 i2 i3 l1 l2 l3 b1 b2 b3) where
 mem:=by simp
 obj:=λi h st=>st.obj
 keep:=λi h h' st k=>by
  obtain ⟨h1,h2,⟨a,c,d,h3⟩,h4,h5,h6⟩:=st
  exact ⟨k z (by simp) _ h1,k TI (by simp) _ h2,⟨a,c,d,k TO (by simp) _ h3⟩,h4.at λo e=>k i1 (by simp) o e,h5.at λo e=>k i2 (by simp) o e,h6.at λo e=>k i3 (by simp) o e⟩
 item:=by
  intro X hP hw hK hc i pins s σ H E I hf st hg
  subst hP hw hK
  obtain ⟨xs,ys,us,q1,q2,q3,e12,e13,hi⟩:=hg
  obtain ⟨its,rv,p1⟩:=I.seqB q1
  obtain ⟨jts,rv2,p2⟩:=I.seqB q2
  obtain ⟨kts,rv3,p3⟩:=I.seqB q3
  have a1:=rv.length
  have a2:=rv2.length
  have a3:=rv3.length
  obtain ⟨n1,n2,n3⟩:=Z.ne
  have D1:=drA (prog:=X.prog) (w:=X.w) b1 n1 its.toArray
  have D2:=drA (prog:=X.prog) (w:=X.w) b2 n2 jts.toArray
  have D3:=drA (prog:=X.prog) (w:=X.w) b3 n3 kts.toArray
  rw [show kts.toArray.size=its.toArray.size by simp only [yu];omega] at D3
  have W:=Yd3 (I.ok.hd hc) Z D1 (by simp only [yu];omega) D2 D3
  have st0:=st
  obtain ⟨s1,s2,s3,s4,s5,s6⟩:=st
  refine W.item i s _ _ (by simp only [yu];omega) ⟨s1,s2,s3,⟨s4,p1⟩,⟨s5,p2⟩,⟨s6,p3⟩⟩ λT vals h' tk hP fT tT mid kk=>?_
  refine ⟨_,rfl,W.go elts kt pt i T _ _ _ mid λh'' st'' kk2=>?_⟩
  obtain ⟨x,y,u,hx,hy,hu,rfl⟩:=hP
  obtain ⟨u1,hu1,r1⟩:=rv.get (i:=i) (x:=xs[i]) (yp hi)
  obtain ⟨u2,hu2,r2⟩:=rv2.get (i:=i) (x:=ys[i]'(by omega)) (yp (by omega))
  obtain ⟨u3,hu3,r3⟩:=rv3.get (i:=i) (x:=us[i]'(by omega)) (yp (by omega))
  obtain rfl:x=u1:=by simpa [hu1] using hx.symm
  obtain rfl:y=u2:=by simpa [hu2] using hy.symm
  obtain rfl:u=u3:=by simpa [hu3] using hu.symm
  obtain ⟨t1,t2,t3,t4,t5,t6⟩:=st''
  have kT:h''.IsTuple T #[x,y,u]:=by
   obtain ⟨o,q,r⟩:=tT
   exact ⟨o,kk2 T o (W.apart i T h' mid) q,r⟩
  have cht:∀c,c∈ [z,TO,i1,i2,i3]->c∈ [z,TI,TO,i1,i2,i3]:=λc hc=>by simp at hc⊢;rcases hc with rfl|rfl|rfl|rfl|rfl <;> simp
  refine ⟨.ref T,upd H T (.tup [xs[i],ys[i]'(by omega),us[i]'(by omega)]),I.turnTup (ch:=[z,TO,i1,i2,i3]) (t':=tk) (λc hc=>hf c (cht c hc)) (λc o hc e=>kk2 c o hc (kk c o hc e)) fT ⟨(show 3<=Sa by decide),[x,y,u],.cons r1 (.cons r2 (.cons r3 .nil)),kT⟩,rfl,
   ⟨T,_,_,_,I.hok.fresh fT,rfl,λxs' hq=>by rw [I.seqB_inj hq q1];exact yp hi,λys' hq=>by rw [I.seqB_inj hq q2];exact yp (by omega),λus' hq=>by rw [I.seqB_inj hq q3];exact yp (by omega),rfl⟩,⟨t1,t2,t3,t4.1,t5.1,t6.1⟩,λc hc=>?_⟩
  have hcn:=(hf c hc).1
  rw [Sz (λw'=>?_)]
  ·exact hcn
  ·subst w'
   obtain ⟨o,e,_⟩:=Z3T.obj st0 c hc
   exact absurd (yk e) (yav.mpr fT)
 done:=by
  intro X hP hw hK hc i pins s σ H E I hf st hg
  subst hP hw hK
  obtain ⟨xs,ys,us,q1,q2,q3,e12,e13,hi⟩:=hg
  obtain ⟨its,rv,p1⟩:=I.seqB q1
  obtain ⟨jts,rv2,p2⟩:=I.seqB q2
  obtain ⟨kts,rv3,p3⟩:=I.seqB q3
  have a1:=rv.length
  have a2:=rv2.length
  have a3:=rv3.length
  obtain ⟨n1,n2,n3⟩:=Z.ne
  have D1:=drA (prog:=X.prog) (w:=X.w) b1 n1 its.toArray
  have D2:=drA (prog:=X.prog) (w:=X.w) b2 n2 jts.toArray
  have D3:=drA (prog:=X.prog) (w:=X.w) b3 n3 kts.toArray
  rw [show kts.toArray.size=its.toArray.size by simp only [yu];omega] at D3
  have W:=Yd3 (I.ok.hd hc) Z D1 (by simp only [yu];omega) D2 D3
  obtain ⟨s1,s2,s3,s4,s5,s6⟩:=st
  have ei:i=its.toArray.size:=by simp only [yu];omega
  subst ei
  refine W.done s _ _ ⟨s1,s2,s3,⟨s4,p1⟩,⟨s5,p2⟩,⟨s6,p3⟩⟩ λh' tk kk=>⟨rfl,?_⟩
  exact I.turnMany (ch:=[z,TO,i1,i2,i3]) (λc hc=>hf c (by simp at hc⊢;rcases hc with rfl|rfl|rfl|rfl|rfl <;> simp)) λc o hc e=>kk c o hc e
 self:=λ_ _ _ _ _ st h=>wpAny_pyIter_zip st.1 h
def Sp5 (K:Si) (b1 b2 b3:Bool) (ta:TA):TI:=λσ H R=>ta σ H λvs H1=>∃a b c,vs= [.ref a,.ref b,.ref c]/\(∃xs,SqB K H1 a b1 xs)/\(∃ys,SqB K H1 b b2 ys)/\(∃us,SqB K H1 c b3 us)/\R (Jwv K a b c b1 b2 b3) H1
theorem Jwh {X:Cx} {elts:List Expr} {kt:Nat} {pt:Pos} {a b c:Expr} {ta:TA} {p pos:Pos} (b1 b2 b3:Bool) (hg:Gl X "zip") (hm:X.mg "zip" =none) (ha:PA X [a,b,c] ta) (hs:starEach [a,b,c] X.env= [(false,eval a X.env),(false,eval b X.env),(false,eval c X.env)]:=by rfl) (hs2:starEach [b,c] X.env= [(false,eval b X.env),(false,eval c X.env)]:=by rfl):
  PI X (.Tuple elts kt pt) (.Call (.Name "zip" p) [a,b,c] [] pos) (Sp5 X.K b1 b2 b3 ta):=by
 intro pins s σ H R I h
 refine Call_ (Joh I hg hm Yah (PyProof.Rows.callWith_type1 (thn (ha pos pins s σ H _ I h) λus s1 zq=>?_) (by rw [hs,hs2]) (by rw [hs2];rfl)))
 obtain ⟨vs,H1,I1,r1,q1⟩:=zq
 obtain ⟨l1,l2,l3,rfl,⟨xs,q1⟩,⟨ys,q2⟩,⟨zs,q3⟩,q⟩:=q1
 obtain ⟨u,v,y,rfl,r1,r2,r3⟩:∃u v y,us= [u,v,y]/\Sa2 (.ref l1) u/\Sa2 (.ref l2) v/\Sa2 (.ref l3) y:=by
  cases r1 with
  |cons a1 t1=>
   cases t1 with
   |cons a2 t2=>
    cases t2 with
    |cons a3 t3=>
     cases t3
     exact ⟨_,_,_,rfl,a1,a2,a3⟩
 obtain rfl:u=Value.ref l1:=r1
 obtain rfl:v=Value.ref l2:=r2
 obtain rfl:y=Value.ref l3:=r3
 obtain ⟨its,rv,p1⟩:=I1.seqB q1
 obtain ⟨jts,rv2,p2⟩:=I1.seqB q2
 obtain ⟨kts,rv3,p3⟩:=I1.seqB q3
 have a1:=p1.lt
 have a2:=p2.lt
 have a3:=p3.lt
 refine Y2 p1 p2 p3 λh' z1 z2 z3 z4 z5 z6 kk=>?_
 have I2:Su X pins σ H1 {s1 with heap:=h'}:=I1.kept (t':=s1.toks) kk
 have ap:Z3 (s1.heap.objs.size+5) (s1.heap.objs.size+3) (s1.heap.objs.size+4) s1.heap.objs.size (s1.heap.objs.size+1) (s1.heap.objs.size+2) l1 l2 l3:=by
  generalize hN:s1.heap.objs.size=N at*
  have big:∀l:S5,l < N->l∉ [N+5,N+3,N+4,N,N+1,N+2]:=λl hl hm=>by
   simp only [yn,yx,or_false] at hm
   have le:N<=l:=by rcases hm with rfl|rfl|rfl|rfl|rfl|rfl <;> first|exact yg _|exact Nat.le_add_right _ _
   exact yav.mpr le hl
  exact ⟨by simp,big _ a1,big _ a2,big _ a3⟩
 refine wpAny_pyIter_zip z1 ⟨_,_,_,_,H1,rfl,I2,Ya6 _ _ _ _ _ _ l1 l2 l3 b1 b2 b3 ap,⟨z1,z2,⟨_,_,_,z3⟩,z4,z5,z6⟩,λd hd=>?_,q⟩
 have hd':s1.heap.objs.size<=d:=by
  simp only [yn,yx,or_false] at hd
  rcases hd with rfl|rfl|rfl|rfl|rfl|rfl <;> omega
 exact I1.fpOk hd' (I1.hok.fresh hd')
section
variable {K:Si} {g:TG} {σ:St} {H:Hp}
theorem Jss {l1 l2 l3 D:S5} {b1 b2 b3:Bool} {xs ys us:List V} {tt:TT} {te:TE} {R:Hp->Prop} (Pv:Nat->St->Hp->Prop) (h0:Pv 0 σ H) (hl:∀i σ H,i<=xs.length->Pv i σ H->SqB K H l1 b1 xs/\SqB K H l2 b2 ys/\SqB K H l3 b3 us) (e1:xs.length<=ys.length) (e2:xs.length=us.length)
  (hs:∀i x y u σ H T,xs[i]?=some x->ys[i]?=some y->us[i]?=some u->Pv i σ H->H T=none->g (.ref T) σ (upd H T (.tup [x,y,u])) λσ3 H3=>tt σ3 H3 λb H4=>if b=true then te σ3 H4 (λv H5=>∃vs,H5 D=some (.lst vs)/\vs.length < Sa/\Pv (i+1) σ3 (upd H5 D (.lst (vs++ [v])))) else Pv (i+1) σ3 H4)
  (hd:∀σ H,Pv xs.length σ H->R H):
  ∃W:Nat->Nat->St->Hp->Prop,(∃m,W 0 m σ H)/\∀i m σ' H',W i m σ' H'->((Jwv K l1 l2 l3 b1 b2 b3).stop i H'/\R H')\/((Jwv K l1 l2 l3 b1 b2 b3).go i H'/\∃N:St->Hp->Prop,(∀σ2 H2,N σ2 H2->∃m',m' < m/\W (i+1) m' σ2 H2)/\
   ∀x H2,(Jwv K l1 l2 l3 b1 b2 b3).yld i H' x H2->g x σ' H2 λσ3 H3=>tt σ3 H3 λb H4=>if b=true then te σ3 H4 (λv H5=>∃vs,H5 D=some (.lst vs)/\vs.length < Sa/\N σ3 (upd H5 D (.lst (vs++ [v])))) else N σ3 H4):=by
 refine ⟨λi m σ H=>m=xs.length - i/\i<=xs.length/\Pv i σ H,⟨xs.length,by simp,yam _,h0⟩,?_⟩
 rintro i m σ H ⟨rfl,hi,p⟩
 obtain ⟨q1,q2,q3⟩:=hl i σ H hi p
 by_cases hlt:i < xs.length
 ·refine .inr ⟨⟨xs,ys,us,q1,q2,q3,e1,e2,hlt⟩,Pv (i+1),λσ' H' p'=>⟨xs.length - (i+1),by omega,rfl,hlt,p'⟩,λx H' y=>?_⟩
  obtain ⟨T,u,v,w',hT,rfl,hu,hv,hw,rfl⟩:=y
  exact hs i u v w' σ _ T (hu xs q1) (hv ys q2) (hw us q3) p hT
 ·have e:i=xs.length:=by omega
  subst e
  exact .inl ⟨⟨xs,ys,us,q1,q2,q3,e1,e2,rfl⟩,hd σ H p⟩
theorem Jur {l1 l2 l3 D:S5} {b1 b2 b3:Bool} {xs ys us:List V} {tt:TT} {te:TE} {R:Hp->Prop} (Pv:Nat->St->Hp->Prop) (h0:Pv 0 σ H) (hl:∀i σ H,i<=xs.length->Pv i σ H->SqB K H l1 b1 xs/\SqB K H l2 b2 ys/\SqB K H l3 b3 us) (e1:xs.length=ys.length) (e2:xs.length=us.length)
  (hs:∀i x y u σ H T,xs[i]?=some x->ys[i]?=some y->us[i]?=some u->Pv i σ H->H T=none->g (.ref T) σ (upd H T (.tup [x,y,u])) λσ3 H3=>tt σ3 H3 λb H4=>if b=true then te σ3 H4 (λv H5=>∃vs,H5 D=some (.lst vs)/\vs.length < Sa/\Pv (i+1) σ3 (upd H5 D (.lst (vs++ [v])))) else Pv (i+1) σ3 H4)
  (hd:∀σ H,Pv xs.length σ H->R H):
  ∃W:Nat->Nat->St->Hp->Prop,(∃m,W 0 m σ H)/\∀i m σ' H',W i m σ' H'->((Jwv K l1 l2 l3 b1 b2 b3).stop i H'/\R H')\/((Jwv K l1 l2 l3 b1 b2 b3).go i H'/\∃N:St->Hp->Prop,(∀σ2 H2,N σ2 H2->∃m',m' < m/\W (i+1) m' σ2 H2)/\
   ∀x H2,(Jwv K l1 l2 l3 b1 b2 b3).yld i H' x H2->g x σ' H2 λσ3 H3=>tt σ3 H3 λb H4=>if b=true then te σ3 H4 (λv H5=>∃vs,H5 D=some (.lst vs)/\vs.length < Sa/\N σ3 (upd H5 D (.lst (vs++ [v])))) else N σ3 H4):=Jss Pv h0 hl (yca e1) e2 hs hd
theorem Jzk {a:S5} {xs:List V} {tb:TS} {D:Sbs} (Pv:Nat->St->Hp->Prop) (h0:Pv 0 σ H) (hl:∀i σ H,i<=xs.length->Pv i σ H->Sw K H a xs)
  (hs:∀i x σ H T,xs[i]?=some x->Pv i σ H->H T=none->g (.ref T) σ (upd H T (.tup [.int i,x])) λσ2 H2=>tb {D with nx:=Pv (i+1),ct:=Pv (i+1),bk:=D.nx} σ2 H2) (hd:∀σ H,Pv xs.length σ H->D.nx σ H):
  ∃W:Nat->Nat->St->Hp->Prop,(∃m,W 0 m σ H)/\∀i m σ H,W i m σ H->
   ((ItE K a).stop i H/\D.nx σ H)\/((ItE K a).go i H/\∃N:St->Hp->Prop,(∀σ' H',N σ' H'->∃m',m' < m/\W (i+1) m' σ' H')/\∀x H',(ItE K a).yld i H x H'->g x σ H' λσ2 H2=>tb {D with nx:=N,ct:=N,bk:=D.nx} σ2 H2):=by
 refine ⟨λi m σ H=>m=xs.length - i/\i<=xs.length/\Pv i σ H,⟨xs.length,by simp,yam _,h0⟩,?_⟩
 rintro i m σ H ⟨rfl,hi,p⟩
 have q:=hl i σ H hi p
 by_cases hlt:i < xs.length
 ·refine .inr ⟨⟨xs,xs[i],q,by simp [hlt]⟩,Pv (i+1),λσ' H' p'=>⟨xs.length - (i+1),by omega,rfl,hlt,p'⟩,λx H' y=>?_⟩
  obtain ⟨T,u,hT,rfl,hu,rfl⟩:=y
  exact hs i u σ _ T (hu xs q) p hT
 ·have e:i=xs.length:=by omega
  subst e
  exact .inl ⟨⟨xs,q,rfl⟩,hd σ H p⟩
theorem Yb0 {a:S5} {xs:List V} {tb:TS} {D:Sbs} (Pv:Nat->St->Hp->Prop) (h0:Pv 0 σ H) (hl:∀i σ H,i<=xs.length->Pv i σ H->SqT K H a xs)
  (hs:∀i x σ H T,xs[i]?=some x->Pv i σ H->H T=none->g (.ref T) σ (upd H T (.tup [.int i,x])) λσ2 H2=>tb {D with nx:=Pv (i+1),ct:=Pv (i+1),bk:=D.nx} σ2 H2) (hd:∀σ H,Pv xs.length σ H->D.nx σ H):
  ∃W:Nat->Nat->St->Hp->Prop,(∃m,W 0 m σ H)/\∀i m σ H,W i m σ H->
   ((ItU K a).stop i H/\D.nx σ H)\/((ItU K a).go i H/\∃N:St->Hp->Prop,(∀σ' H',N σ' H'->∃m',m' < m/\W (i+1) m' σ' H')/\∀x H',(ItU K a).yld i H x H'->g x σ H' λσ2 H2=>tb {D with nx:=N,ct:=N,bk:=D.nx} σ2 H2):=by
 refine ⟨λi m σ H=>m=xs.length - i/\i<=xs.length/\Pv i σ H,⟨xs.length,by simp,yam _,h0⟩,?_⟩
 rintro i m σ H ⟨rfl,hi,p⟩
 have q:=hl i σ H hi p
 by_cases hlt:i < xs.length
 ·refine .inr ⟨⟨xs,xs[i],q,by simp [hlt]⟩,Pv (i+1),λσ' H' p'=>⟨xs.length - (i+1),by omega,rfl,hlt,p'⟩,λx H' y=>?_⟩
  obtain ⟨T,u,hT,rfl,hu,rfl⟩:=y
  exact hs i u σ _ T (hu xs q) p hT
 ·have e:i=xs.length:=by omega
  subst e
  exact .inl ⟨⟨xs,q,rfl⟩,hd σ H p⟩
end
section
variable {X:Cx}
theorem Jyp {K:Si} (h:X.K=K):OpR X (compareOp .In) (rIn K false):=by subst h;exact Yl
theorem Jmh {K:Si} {e:Expr} {f:Str} {ta:TE} {pos:Pos} (h:X.K=K) (he:PE X e ta) (hb:attributeBase e f X.env (eval e X.env)=eval e X.env):PE X (.Attribute e f pos) (Spn K ta f):=by subst h;exact Jlh he hb
end
section
variable {X:Cx} {pos:Pos}
theorem Jpl {K:Si} {es:List Expr} {k:Nat} {t:TGs} {n:Nat} (h1:X.K=K) (hc:X.calm=true) (h:PGs X es t)
  (hn:(assignEach es X.env).length=n:=by rfl) (hst:(assignEach es X.env).findIdx? (·.1)=none:=by rfl):PG X (.Tuple es k pos) (Sjb K n t):=by
 subst h1
 exact Jrp hc h hn hst
end
section
variable {g:TG} {tt:TT} {te:TE} {H:Hp} {D:S5} {σ:St} {R:Hp->Prop}
theorem Yao {K:Si} {a:S5} {xs:List V} (Pv:Nat->St->Hp->Prop) (h0:Pv 0 σ H) (hl:∀i σ H,i<=xs.length->Pv i σ H->SqT K H a xs)
  (hs:∀i x σ H,xs[i]?=some x->Pv i σ H->g x σ H λσ3 H3=>tt σ3 H3 λb H4=>if b=true then te σ3 H4 (λv H5=>∃ys,H5 D=some (.lst ys)/\ys.length < Sa/\Pv (i+1) σ3 (upd H5 D (.lst (ys++ [v])))) else Pv (i+1) σ3 H4)
  (hd:∀σ H,Pv xs.length σ H->R H):
  ∃W:Nat->Nat->St->Hp->Prop,(∃m,W 0 m σ H)/\∀i m σ' H',W i m σ' H'->((Itt K a).stop i H'/\R H')\/((Itt K a).go i H'/\∃N:St->Hp->Prop,(∀σ2 H2,N σ2 H2->∃m',m' < m/\W (i+1) m' σ2 H2)/\
   ∀x H2,(Itt K a).yld i H' x H2->g x σ' H2 λσ3 H3=>tt σ3 H3 λb H4=>if b=true then te σ3 H4 (λv H5=>∃ys,H5 D=some (.lst ys)/\ys.length < Sa/\N σ3 (upd H5 D (.lst (ys++ [v])))) else N σ3 H4):=by
 refine ⟨λi m σ H=>m=xs.length - i/\i<=xs.length/\Pv i σ H,⟨xs.length,by simp,yam _,h0⟩,?_⟩
 rintro i m σ H ⟨rfl,hi,p⟩
 have q:=hl i σ H hi p
 by_cases hlt:i < xs.length
 ·refine .inr ⟨⟨xs,xs[i],q,by simp [hlt]⟩,Pv (i+1),λσ' H' p'=>⟨xs.length - (i+1),by omega,rfl,hlt,p'⟩,λx H' y=>?_⟩
  obtain ⟨e,y⟩:=y
  subst e
  exact hs i x σ _ (y xs q) p
 ·have e:i=xs.length:=by omega
  subst e
  exact .inl ⟨⟨xs,q,yg _⟩,hd σ H p⟩
end
theorem Jml {K:Si} {a D:S5} {xs:List V} {te:TE} {R:Hp->Prop} {H:Hp} {o:Option V} {rest:List (Option V)} (ys:List V) (hD:H D=none) (el:ys.length=xs.length) (sz:xs.length<=2000) (hq:H a=some (.lst xs))
  (he:∀(i:Nat) (x y:V) (H':Hp) (Q:VK),xs[i]?=some x->ys[i]?=some y->Sn H H'->(∀H5,Sn H' H5->Q y H5)->te (some x::rest) H' Q) (hd:∀H',Sn H H'->H' D=some (.lst ys)->R H'):
  ∃W:Nat->Nat->St->Hp->Prop,(∃m,W 0 m (o::rest) (upd H D (.lst [])))/\∀i m σ' H',W i m σ' H'->((Itl K a).stop i H'/\R H')\/((Itl K a).go i H'/\∃N:St->Hp->Prop,(∀σ2 H2,N σ2 H2->∃m',m' < m/\W (i+1) m' σ2 H2)/\
   ∀x H2,(Itl K a).yld i H' x H2->Jo5 0 x σ' H2 λσ3 H3=>Ya1 σ3 H3 λb H4=>if b=true then te σ3 H4 (λv H5=>∃ys,H5 D=some (.lst ys)/\ys.length < Sa/\N σ3 (upd H5 D (.lst (ys++ [v])))) else N σ3 H4):=by
 refine Jle (λi σ H'=>(∃o,σ=o::rest)/\H' D=some (.lst (ys.take i))/\Sn H H') ⟨⟨_,rfl⟩,Sv,Sn.upd hD⟩ (λi σ H' _ ⟨_,_,sm⟩=>Sw.of (sm _ _ hq)) ?_ ?_
 ·rintro i x σ H' hx ⟨⟨o,rfl⟩,hDs,sm⟩
  have hi:i < ys.length:=by rw [el];exact (yq.mp hx).1
  refine Jlc (he i x ys[i] H' _ hx (yp hi) sm λH5 s5=>⟨_,s5 _ _ hDs,?_,⟨_,rfl⟩,?_,λc u z=>?_⟩)
  ·rw [yah]
   exact Jkk (by omega)
  ·rw [Sv,yan,yp hi]
   rfl
  ·rw [Sz (Jkb z hD)]
   exact s5 _ _ (sm _ _ z)
 ·rintro σ H' ⟨_,hDs,sm⟩
  rw [yat (by omega)] at hDs
  exact hd H' sm hDs
theorem Jrj {K:Si} {a D:S5} {xs:List V} {te:TE} {R:Hp->Prop} {H:Hp} {o:Option V} {rest:List (Option V)} (ys:List V) (hD:H D=none) (el:ys.length=xs.length) (sz:xs.length<=2000) (hq:H a=some (.tup xs))
  (he:∀(i:Nat) (x y:V) (H':Hp) (Q:VK),xs[i]?=some x->ys[i]?=some y->Sn H H'->(∀H5,Sn H' H5->Q y H5)->te (some x::rest) H' Q) (hd:∀H',Sn H H'->H' D=some (.lst ys)->R H'):
  ∃W:Nat->Nat->St->Hp->Prop,(∃m,W 0 m (o::rest) (upd H D (.lst [])))/\∀i m σ' H',W i m σ' H'->((Itt K a).stop i H'/\R H')\/((Itt K a).go i H'/\∃N:St->Hp->Prop,(∀σ2 H2,N σ2 H2->∃m',m' < m/\W (i+1) m' σ2 H2)/\
   ∀x H2,(Itt K a).yld i H' x H2->Jo5 0 x σ' H2 λσ3 H3=>Ya1 σ3 H3 λb H4=>if b=true then te σ3 H4 (λv H5=>∃ys,H5 D=some (.lst ys)/\ys.length < Sa/\N σ3 (upd H5 D (.lst (ys++ [v])))) else N σ3 H4):=by
 refine Yao (λi σ H'=>(∃o,σ=o::rest)/\H' D=some (.lst (ys.take i))/\Sn H H') ⟨⟨_,rfl⟩,Sv,Sn.upd hD⟩ (λi σ H' _ ⟨_,_,sm⟩=>SqT.of (sm _ _ hq)) ?_ ?_
 ·rintro i x σ H' hx ⟨⟨o,rfl⟩,hDs,sm⟩
  have hi:i < ys.length:=by rw [el];exact (yq.mp hx).1
  refine Jlc (he i x ys[i] H' _ hx (yp hi) sm λH5 s5=>⟨_,s5 _ _ hDs,?_,⟨_,rfl⟩,?_,λc u z=>?_⟩)
  ·rw [yah]
   exact Jkk (by omega)
  ·rw [Sv,yan,yp hi]
   rfl
  ·rw [Sz (Jkb z hD)]
   exact s5 _ _ (sm _ _ z)
 ·rintro σ H' ⟨_,hDs,sm⟩
  rw [yat (by omega)] at hDs
  exact hd H' sm hDs
section
variable {X:Cx}
end
structure Z4 (z TI TO i1 i2 i3 i4 l1 l2 l3 l4:S5):Prop where
 nd: [z,TI,TO,i1,i2,i3,i4].Nodup
 m1:l1∉ [z,TI,TO,i1,i2,i3,i4]
 m2:l2∉ [z,TI,TO,i1,i2,i3,i4]
 m3:l3∉ [z,TI,TO,i1,i2,i3,i4]
 m4:l4∉ [z,TI,TO,i1,i2,i3,i4]
section
variable {prog:Sb} {w:Sd} {A:Se} {E:S6->S7->Prop} {s:S7}
variable {z TI TO i1 i2 i3 i4 l1 l2 l3 l4:S5} {n k:Nat} {P1 P2 P3 P4:Nat->S6->Prop} {S1 S2 S3 S4:Nat->Sg->Prop} {a b c d0:S6}
end
section
variable {prog:Sb} {w:Sd} {z TI TO i1 i2 i3 i4 l1 l2 l3 l4:S5} {n:Nat} {P1 P2 P3 P4:Nat->S6->Prop} {S1 S2 S3 S4:Nat->Sg->Prop}
end
section
variable {prog:Sb} {w:Sd} {A:Se} {E:S6->S7->Prop} {s:S7}
end
section
variable {K:Si} {g:TG} {σ:St} {H:Hp}
end
theorem Yp {X:Cx} {P:Sb} {w:Sd} {K:Si} {mg:Str->Option S6} {base:Sg} {o e:Expr} {es:List Expr} {m:Str} {ta:TE} {t:TA} {apos pos:Pos} {j:Nat} {pl:Sem Bool} (h1:X.prog=P) (h2:X.w=w) (h3:X.K=K) (h4:X.mg=mg) (h5:X.base=base) (he:PE X o ta) (hr:Sal j X.A) (ha:PA X (e::es) t)
  (hst:starEach (e::es) X.env=(false,eval e X.env)::starEach es X.env:=by rfl) (hpl:(backTo pos (starEach es X.env)).any (·.1)=false:=by rfl)
  (ht:eval (.Call (.Attribute o m apos) (e::es) [] pos) X.env=(do
   let ov<-eval o X.env
   standAt apos.atName
   let (f,first)<-holding [ov] (getMethod ov m pl)
   callWith pos f first (backTo pos (starEach (e::es) X.env)) (backToKw pos (keywordEach [] X.env))):=by rfl):
  PE X (.Call (.Attribute o m apos) (e::es) [] pos) (Jz2 P w K mg base j m ta t):=by
 subst h1 h2 h3 h4 h5
 exact Jr0 (pl:=pl) he hr ha hst hpl ht
section
variable {X:Cx}
end
theorem ft_mk {K:Si} {h:Sg} {mg:Str->Option S6} (X:K.In h) (G:h.Ns mainGlobals mg) {q:Str} {st:Sf} {ps:List Str} {f:S5} {od an:Option S5} {sl:Array (Option S6)} {oc kV dc pm cd ct:S6} (a:PySem.W.nsIn K mainGlobals q=some (some (.ref f)))
  (l:K.lookup f=some ⟨oc,od,.func (PySem.W.fnOf q q (Jld st) (Jl7 st) (Jk9 st) .none kV dc pm an cd ct),sl⟩) (c:PySem.W.codeIn K cd q=true) (k:PySem.W.keepIn K (.ref f)=true)
  (hb:∀(kV doc pm:S6) (an:Option S5) (cdv ct:S6) (us:List S6),us.length=ps.length->bindArgs (PySem.W.fnOf q q (Jld st) (Jl7 st) (Jk9 st) .none kV doc pm an cdv ct) ⟨us,[]⟩=pure (ps.zip us)):FT K mg q st ps f (PySem.W.fnOf q q (Jld st) (Jl7 st) (Jk9 st) .none kV dc pm an cd ct):=
 ⟨PySem.W.mg_of X G a,Jvr (st:=st) l c k,(Jvr (st:=st) l c k).binds hb⟩
theorem fm_mk {K:Si} {n q:Str} {st:Sf} {ps:List Str} {f:S5} {od an:Option S5} {sl:Array (Option S6)} {oc kV dc pm cd ct:S6}
  (l:K.lookup f=some ⟨oc,od,.func (PySem.W.fnOf n q (Jld st) (Jl7 st) (Jk9 st) .none kV dc pm an cd ct),sl⟩) (c:PySem.W.codeIn K cd q=true) (k:PySem.W.keepIn K (.ref f)=true)
  (hb:∀(kV doc pm:S6) (an:Option S5) (cdv ct:S6) (us:List S6),us.length=ps.length->bindArgs (PySem.W.fnOf n q (Jld st) (Jl7 st) (Jk9 st) .none kV doc pm an cdv ct) ⟨us,[]⟩=pure (ps.zip us)):FM K n q st ps f (PySem.W.fnOf n q (Jld st) (Jl7 st) (Jk9 st) .none kV dc pm an cd ct):=
 ⟨Jvr (st:=st) l c k,(Jvr (st:=st) l c k).binds hb⟩
theorem xc_mk {K:Si} {C W fI:S5} {nm q:Str} {N:S5} {bs:List S6} {sn:List Str} {sub:List S6} {ab:Bool} {col:Option Bool} {dd:Option S5} {u v w x y:Option S6}
  (l:K.lookup C=some (excClassObj nm q C N bs (.ref W::VEm) true sn sub ab col dd u v w x y "ValueError.__new__")) (t:PySem.W.tailIn K VEm (.ref W::VEm)=true) (a:xcB K C fI=true):Saj K C W fI:=⟨⟨_,_,_,_,_,_,_,_,_,_,_,_,_,_,l⟩,t,a⟩
theorem ec_mk {K:Si} {C:S5} {dd:Option S5} {cl:ClassData} {s:Array (Option S6)} (l:K.lookup C=some ⟨.type "type",dd,.cls cl,s⟩) (m:Sl K C (.type "BaseException")=some true):Siy K C:=⟨⟨_,_,_,l⟩,m⟩
section
variable {K:Si} {g:TG} {σ:St} {H:Hp}
theorem Yam {a D:S5} {xs:List V} {tt:TT} {te:TE} {R:Hp->Prop} (Pv:Nat->St->Hp->Prop) (h0:Pv 0 σ H) (hl:∀i σ H,i<=xs.length->Pv i σ H->Sw K H a xs)
  (hs:∀i x σ H T,xs[i]?=some x->Pv i σ H->H T=none->g (.ref T) σ (upd H T (.tup [.int i,x])) λσ3 H3=>tt σ3 H3 λb H4=>if b=true then te σ3 H4 (λv H5=>∃vs,H5 D=some (.lst vs)/\vs.length < Sa/\Pv (i+1) σ3 (upd H5 D (.lst (vs++ [v])))) else Pv (i+1) σ3 H4)
  (hd:∀σ H,Pv xs.length σ H->R H):
  ∃W:Nat->Nat->St->Hp->Prop,(∃m,W 0 m σ H)/\∀i m σ' H',W i m σ' H'->((ItE K a).stop i H'/\R H')\/((ItE K a).go i H'/\∃N:St->Hp->Prop,(∀σ2 H2,N σ2 H2->∃m',m' < m/\W (i+1) m' σ2 H2)/\
   ∀x H2,(ItE K a).yld i H' x H2->g x σ' H2 λσ3 H3=>tt σ3 H3 λb H4=>if b=true then te σ3 H4 (λv H5=>∃vs,H5 D=some (.lst vs)/\vs.length < Sa/\N σ3 (upd H5 D (.lst (vs++ [v])))) else N σ3 H4):=by
 refine ⟨λi m σ H=>m=xs.length - i/\i<=xs.length/\Pv i σ H,⟨xs.length,by simp,yam _,h0⟩,?_⟩
 rintro i m σ H ⟨rfl,hi,p⟩
 have q:=hl i σ H hi p
 by_cases hlt:i < xs.length
 ·refine .inr ⟨⟨xs,xs[i],q,by simp [hlt]⟩,Pv (i+1),λσ' H' p'=>⟨xs.length - (i+1),by omega,rfl,hlt,p'⟩,λx H' y=>?_⟩
  obtain ⟨T,u,hT,rfl,hu,rfl⟩:=y
  exact hs i u σ _ T (hu xs q) p hT
 ·have e:i=xs.length:=by omega
  subst e
  exact .inl ⟨⟨xs,q,rfl⟩,hd σ H p⟩
end
abbrev Jmu (h:Sg) (T:S5) (a b:S6):Prop:=h.get? T=some {cls:=.type "tuple",data:=.seq #[a,b]}
structure Z2 (z TI TO i1 i2 l1 l2:S5):Prop where
 nd: [z,TI,TO,i1,i2].Nodup
 m1:l1∉ [z,TI,TO,i1,i2]
 m2:l2∉ [z,TI,TO,i1,i2]
section
variable {prog:Sb} {w:Sd} {A:Se} {E:S6->S7->Prop} {s:S7}
theorem Ycy {T:S5} {a b x:S6} {k:Nat} {Q:Unit->S7->Prop} (hT:Jmu s.heap T a b)
  (h:∀h',h'.get? T=some {cls:=.type "tuple",data:=.seq ((#[a,b]:Array S6).setIfInBounds k x)}->yak T s.heap h'->Q () {s with heap:=h'}):Sh (model prog w) A (updateSeq T (·.setIfInBounds k x)) Q E s:=by
 refine wpAny_updateSeq hT rfl (h _ ?_ (yak.update ..))
 rw [ybn _ hT rfl]
 simp [Obj.mapSeq]
variable {z TI TO i1 i2 l1 l2:S5} {n k:Nat} {P1 P2:Nat->S6->Prop} {S1 S2:Nat->Sg->Prop} {a b:S6}
theorem Yer {Q:S6->S7->Prop} (Z:Z2 z TI TO i1 i2 l1 l2) (hz:IsZip s.heap z TI TO .none) (hTI:Jmu s.heap TI (.ref i1) (.ref i2)) (hTO:Jmu s.heap TO a b)
  (hh:A.handled=none) (D1:DrA prog w i1 l1 n P1 S1) (D2:DrA prog w i2 l2 n P2 S2) (hk:k < n) (t1:S1 k s.heap) (t2:S2 k s.heap)
  (hQ:∀x y h' tk,P1 k x->P2 k y->IsZip h' z TI TO (rawInt s.heap.objs.size)->Jmu h' TO x y->S1 (k+1) h'->S2 (k+1) h'->Jmu h' s.heap.objs.size x y->
   (∀d o,d≠z->d≠TO->d≠i1->d≠i2->s.heap.get? d=some o->h'.get? d=some o)->Q (.ref s.heap.objs.size) {s with heap:=h',toks:=tk}):
  Sh (model prog w) A (Builtin.«zip.__next__» ⟨[.ref z],[]⟩) (λfin s'=>∃v,fin= .done (.ret v)/\Q v s') E s:=by
 obtain ⟨nd,m1,m2⟩:=Z
 simp only [yaz,yn,yx,or_false,not_or,ybo,and_true,not_false_eq_true] at nd m1 m2
 obtain ⟨⟨zTI,zTO,z1,z2⟩,⟨TITO,TI1,TI2⟩,⟨TO1,TO2⟩,n12⟩:=nd
 obtain ⟨l1z,l1TI,l1TO,l11,l12⟩:=m1
 obtain ⟨l2z,l2TI,l2TO,l21,l22⟩:=m2
 have fr:∀{S:Nat->Sg->Prop} {P:Nat->S6->Prop} {i l b:S5} {m:Nat} {h h':Sg},DrA prog w i l n P S->i≠b->l≠b->yak b h h'->S m h->S m h':=λD e1 e2 sb st=>
  (D A hh).frame _ _ _ st λd hd o e=>by
   simp only [yn,yx,or_false] at hd
   rcases hd with rfl|rfl
   ·exact sb.extBut _ _ e1 e
   ·exact sb.extBut _ _ e2 e
 show Sh _ _ (field (.ref z) 2 >>=_) _ _ _
 refine S8 (wpAny_field hz rfl (x:=.bool false) rfl ?_)
 refine S8 (m:=field (.ref z) 3) (wpAny_field hz rfl (x:=.ref TI) rfl ?_)
 refine S8 (wpAny_seqItems hTI rfl ?_)
 refine S8 (m:=Builtin.SmallTypes.ownedTupleIsFree (.ref z)) ?_
 unfold Builtin.SmallTypes.ownedTupleIsFree
 refine S8 (wpAny_field hz rfl (x:=.none) rfl (S9 ?_))
 simp only [if_true]
 refine S8 (wpAny_rule (S8 (wpAny_field hz rfl (x:=.ref TO) rfl (S8 (wpAny_setField_rec hz (by simp) λh1 hz1 s1=>?_)))))
 replace hz1:IsZip h1 z TI TO .ellipsis:=hz1
 refine S8 ?_
 simp only [List.zipIdx_cons,List.zipIdx_nil,yck,List.forIn_nil]
 refine S8 (S8 (wpAny_onRaise ?_))
 refine S8 (m:=Builtin.SmallTypes.nextOf (.ref i1)) ((D1 A hh).item k _ _ _ hk (fr D1 (yi z1) l1z s1 t1) λx h2 k2 px u1 s2=>S9 ?_)
 have o2:Jmu h2 TO a b:=s2.extBut _ _ TO1 (s1.extBut _ _ (yi zTO) hTO)
 refine S8 (wpAny_seqItems o2 rfl (S8 (Ycy o2 λh3 o3 s3=>S8 (wpAny_letGo (S9 ?_)))))
 replace o3:Jmu h3 TO x b:=o3
 refine S8 (S8 (wpAny_onRaise ?_))
 refine S8 (m:=Builtin.SmallTypes.nextOf (.ref i2)) ((D2 A hh).item k _ _ _ hk (fr D2 (yi TO2) l2TO s3 (fr D2 (yi n12) l21 s2 (fr D2 (yi z2) l2z s1 t2))) λy h4 k4 py u2 s4=>S9 ?_)
 have o4:Jmu h4 TO x b:=s4.extBut _ _ TO2 o3
 refine S8 (wpAny_seqItems o4 rfl (S8 (Ycy o4 λh5 o5 s5=>S8 (wpAny_letGo (S9 (S9 ?_))))))
 replace o5:Jmu h5 TO x y:=o5
 refine S8 (wpAny_seqItems o5 rfl (S8 (wpAny_newTuple ?_)))
 have sz:h5.objs.size=s.heap.objs.size:=by rw [s5.1,s4.1,s3.1,s2.1,s1.1]
 have zz:IsZip h5 z TI TO .ellipsis:=s5.extBut _ _ zTO (s4.extBut _ _ z2 (s3.extBut _ _ zTO (s2.extBut _ _ z1 hz1)))
 have kk:∀d o,d≠z->d≠TO->d≠i1->d≠i2->s.heap.get? d=some o->h5.get? d=some o:=λd o c1 c2 c3 c4 e=>
  s5.extBut _ _ c2 (s4.extBut _ _ c4 (s3.extBut _ _ c2 (s2.extBut _ _ c3 (s1.extBut _ _ c1 e))))
 have w1:S1 (k+1) h5:=fr D1 (yi TO1) l1TO s5 (fr D1 n12 l12 s4 (fr D1 (yi TO1) l1TO s3 u1))
 have w2:S2 (k+1) h5:=fr D2 (yi TO2) l2TO s5 u2
 have zlt:z < h5.objs.size:=yk zz
 refine S8 (m:=Builtin.SmallTypes.ownedTupleHandOut (.ref z) (.ref h5.objs.size)) ?_
 unfold Builtin.SmallTypes.ownedTupleHandOut
 have zp:IsZip (h5.push {cls:=.type "tuple",data:=.seq #[x,y]}) z TI TO .ellipsis:=yj _ zz
 refine S8 (wpAny_setField_rec zp (by simp) λh8 hz8 s8=>?_)
 replace hz8:IsZip h8 z TI TO (rawInt h5.objs.size):=hz8
 refine wpAny_setField_rec hz8 (by simp) λh9 hz9 s9=>?_
 replace hz9:IsZip h9 z TI TO (rawInt h5.objs.size):=hz9
 have up:∀d o,d≠z->h5.get? d=some o->h9.get? d=some o:=λd o c1 e=>s9.extBut _ _ c1 (s8.extBut _ _ c1 (yj _ e))
 have nw:Jmu h9 h5.objs.size x y:=s9.extBut _ _ (yax zlt) (s8.extBut _ _ (yax zlt) (yo _ rfl))
 have fz:∀{S:Nat->Sg->Prop} {P:Nat->S6->Prop} {i l:S5} {m:Nat},DrA prog w i l n P S->i≠z->l≠z->S m h5->S m h9:=λD e1 e2 st=>(D A hh).frame _ _ _ st λd hd o e=>by
  simp only [yn,yx,or_false] at hd
  rcases hd with rfl|rfl
  ·exact up _ _ e1 e
  ·exact up _ _ e2 e
 rw [sz] at hz9 nw
 refine S9 ⟨_,rfl,?_⟩
 show Q (.ref h5.objs.size) _
 rw [sz]
 exact hQ x y h9 _ px py hz9 (up _ _ (yi zTO) o5) (fz D1 (yi z1) l1z w1) (fz D2 (yi z2) l2z w2) nw λd o c1 c2 c3 c4 e=>up d o c1 (kk d o c1 c2 c3 c4 e)
theorem Smw {Q:Fin->S7->Prop} (Z:Z2 z TI TO i1 i2 l1 l2) (hz:IsZip s.heap z TI TO .none) (hTI:Jmu s.heap TI (.ref i1) (.ref i2))
  (hh:A.handled=none) (D1:DrA prog w i1 l1 n P1 S1) (t1:S1 n s.heap)
  (hE:∀h' e,(∀d o,d≠z->d≠i1->s.heap.get? d=some o->h'.get? d=some o)->(∃o,h'.get? e=some o/\o.cls= .type "StopIteration")->E (.ref e) {s with heap:=h'}):
  Sh (model prog w) A (Builtin.«zip.__next__» ⟨[.ref z],[]⟩) Q E s:=by
 obtain ⟨nd,m1,_⟩:=Z
 simp only [yaz,yn,yx,or_false,not_or,ybo,and_true,not_false_eq_true] at nd m1
 obtain ⟨⟨zTI,zTO,z1,z2⟩,_⟩:=nd
 obtain ⟨l1z,l1TI,l1TO,l11,l12⟩:=m1
 show Sh _ _ (field (.ref z) 2 >>=_) _ _ _
 refine S8 (wpAny_field hz rfl (x:=.bool false) rfl ?_)
 refine S8 (m:=field (.ref z) 3) (wpAny_field hz rfl (x:=.ref TI) rfl ?_)
 refine S8 (wpAny_seqItems hTI rfl ?_)
 refine S8 (m:=Builtin.SmallTypes.ownedTupleIsFree (.ref z)) ?_
 unfold Builtin.SmallTypes.ownedTupleIsFree
 refine S8 (wpAny_field hz rfl (x:=.none) rfl (S9 ?_))
 simp only [if_true]
 refine S8 (wpAny_rule (S8 (wpAny_field hz rfl (x:=.ref TO) rfl (S8 (wpAny_setField_rec hz (by simp) λh1 hz1 s1=>?_)))))
 replace hz1:IsZip h1 z TI TO .ellipsis:=hz1
 refine S8 ?_
 simp only [List.zipIdx_cons,List.zipIdx_nil,yck,List.forIn_nil]
 refine S8 (S8 (wpAny_onRaise ?_))
 refine S8 (m:=Builtin.SmallTypes.nextOf (.ref i1)) ((D1 A hh).done _ _ _ ((D1 A hh).frame _ _ _ t1 λd hd o e=>?_) λh2 e s2 he=>?_)
 ·simp only [yn,yx,or_false] at hd
  rcases hd with rfl|rfl
  ·exact s1.extBut _ _ (yi z1) e
  ·exact s1.extBut _ _ l1z e
 ·obtain ⟨oe,hoe,hce⟩:=he
  have hz2:IsZip h2 z TI TO .ellipsis:=s2 _ _ z1 hz1
  have ez:e≠z:=λq=>by subst q;rw [hz2] at hoe;cases hoe;simp at hce
  exact wpAny_setField_rec hz2 (by simp) λh3 _ s3=>hE h3 e (λd o c1 c2 q=>s3.extBut _ _ c1 (s2 _ _ c2 (s1.extBut _ _ c1 q))) ⟨oe,s3.extBut _ _ ez hoe,hce⟩
end
def St2 (z TI TO i1 i2:S5) (S1 S2:Nat->Sg->Prop) (i:Nat) (h:Sg):Prop:=IsZip h z TI TO .none/\Jmu h TI (.ref i1) (.ref i2)/\(∃a b,Jmu h TO a b)/\S1 i h/\S2 i h
section
variable {prog:Sb} {w:Sd} {z TI TO i1 i2 l1 l2:S5} {n:Nat} {P1 P2:Nat->S6->Prop} {S1 S2:Nat->Sg->Prop}
theorem Yd2 {A:Se} (hh:A.handled=none) (Z:Z2 z TI TO i1 i2 l1 l2) (D1:DrA prog w i1 l1 n P1 S1) (D2:DrA prog w i2 l2 n P2 S2):
  WalksT prog w A z [z,TI,TO,i1,i2,l1,l2] [z,TO,i1,i2] n (λi vals=>∃x y,P1 i x/\P2 i y/\vals= #[x,y]) (St2 z TI TO i1 i2 S1 S2)
   (λi T h=>IsZip h z TI TO (rawInt T)/\Jmu h TI (.ref i1) (.ref i2)/\(∃a b,Jmu h TO a b)/\S1 (i+1) h/\S2 (i+1) h/\T∉ [z,TO,i1,i2]) where
 sub:=λc hc=>by simp at hc⊢;rcases hc with rfl|rfl|rfl|rfl <;> simp
 frame:=λi h h' hst hk=>by
  obtain ⟨hz,hTI,⟨a,b,hTO⟩,h1,h2⟩:=hst
  exact ⟨hk z (by simp) _ hz,hk TI (by simp) _ hTI,⟨a,b,hk TO (by simp) _ hTO⟩,(D1 A hh).frame _ _ _ h1 λd hd o e=>hk d (by simp at hd;rcases hd with rfl|rfl <;> simp) o e,
   (D2 A hh).frame _ _ _ h2 λd hd o e=>hk d (by simp at hd;rcases hd with rfl|rfl <;> simp) o e⟩
 item:=λi s Q E hi hst hQ=>by
  obtain ⟨hz,hTI,⟨a,b,hTO⟩,h1,h2⟩:=hst
  have hT:s.TypeIs (.ref z) "zip" :=⟨_,hz,rfl⟩
  have nd:=Z.nd
  simp only [yaz,yn,yx,or_false,not_or,ybo,and_true,not_false_eq_true] at nd
  obtain ⟨⟨zTI,_⟩,⟨TITO,TI1,TI2⟩,_⟩:=nd
  obtain ⟨e1,g1⟩:=(D1 A hh).live _ _ h1
  obtain ⟨e2,g2⟩:=(D2 A hh).live _ _ h2
  unfold pyNext
  refine S8 (wpAny_attempt (wpAny_callSpecial?_slot (name:=Str.ofString "__next__") hT F.slot_zip_next (wpAny_call_entry F.slot_zip_next hT F.entry_zip_next
   (Yer (A:=A.in1) Z hz hTI hTO hh D1 D2 hi h1 h2 λx y h' tk px py a1 a2 a3 a4 a6 hk=>S9 ?_) (F.args_zip_next_1 _))))
  refine hQ s.heap.objs.size #[x,y] h' tk ⟨x,y,px,py,rfl⟩ (yg _) ⟨_,a6,rfl,_,rfl⟩ ⟨a1,hk _ _ (yi zTI) TITO TI1 TI2 hTI,⟨_,_,a2⟩,a3,a4,?_⟩ λd o hd e=>hk d o (λq=>hd (by simp [q])) (λq=>hd (by simp [q])) (λq=>hd (by simp [q])) (λq=>hd (by simp [q])) e
  have lt:∀{d o},s.heap.get? d=some o->s.heap.objs.size≠d:=λe=>yax (yk e)
  simp only [yn,yx,or_false,not_or]
  exact ⟨lt hz,lt hTO,lt g1,lt g2⟩
 go:=λelts k pos i T s Q E hm hQ=>by
  obtain ⟨hz,hTI,⟨a,b,hTO⟩,h1,h2,_⟩:=hm
  have nd:=Z.nd
  have m1:=Z.m1
  have m2:=Z.m2
  simp only [yaz,yn,yx,or_false,not_or,ybo,and_true,not_false_eq_true] at nd m1 m2
  obtain ⟨⟨zTI,zTO,z1,z2⟩,_⟩:=nd
  have fz:∀{S:Nat->Sg->Prop} {P:Nat->S6->Prop} {j l:S5} {m:Nat} {h':Sg},DrA prog w j l n P S->j≠z->l≠z->yak z s.heap h'->S m s.heap->S m h':=λD e1 e2 sb st=>(D A hh).frame _ _ _ st λd hd o e=>by
   simp only [yn,yx,or_false] at hd
   rcases hd with rfl|rfl
   ·exact sb.extBut _ _ e1 e
   ·exact sb.extBut _ _ e2 e
  exact wpAny_letOwnedTupleGo_zip hz λh' hz' sb=>hQ h' ⟨hz',sb.extBut _ _ (yi zTI) hTI,⟨a,b,sb.extBut _ _ (yi zTO) hTO⟩,fz D1 (yi z1) m1.1 sb h1,fz D2 (yi z2) m2.1 sb h2⟩ λd o hd e=>sb.extBut _ _ (λq=>hd (by simp [q])) e
 apart:=λi T h hm hT=>hm.2.2.2.2.2 hT
 done:=λs Q E hst hQ=>by
  obtain ⟨hz,hTI,_,h1,h2⟩:=hst
  have hT:s.TypeIs (.ref z) "zip" :=⟨_,hz,rfl⟩
  unfold pyNext
  refine S8 (wpAny_attempt (wpAny_callSpecial?_slot (name:=Str.ofString "__next__") hT F.slot_zip_next (wpAny_call_entry F.slot_zip_next hT F.entry_zip_next
   (Smw (A:=A.in1) Z hz hTI hh D1 h1 λh' e hk he=>?_) (F.args_zip_next_1 _))))
  obtain ⟨o,ho,hc⟩:=he
  refine S8 (wpAny_isInstance (T:="StopIteration") (b:=true) ⟨o,ho,hc⟩ isSubtype_stop (S9 ?_))
  exact hQ h' s.toks λd o' hd e'=>hk d o' (λq=>hd (by simp [q])) (λq=>hd (by simp [q])) e'
 self:=λi s Q E hst hQ=>wpAny_pyIter_zip hst.1 hQ
end
abbrev xD (h:Sg) (l1 l2:S5) (b1 b2:Bool):Sg:=(zB h l1 l2 b1 b2).push {cls:=.type "tuple",data:=.seq #[.ref h.objs.size,.ref (zA h l1 b1).objs.size]}
abbrev xE (h:Sg) (l1 l2:S5) (b1 b2:Bool):Sg:=(xD h l1 l2 b1 b2).push {cls:=.type "tuple",data:=.seq #[.none,.none]}
abbrev xF (h:Sg) (l1 l2:S5) (b1 b2:Bool):Sg:=(xE h l1 l2 b1 b2).push {cls:=.type "zip",data:=.fields #[.none,.bool false,.bool false,.ref (zB h l1 l2 b1 b2).objs.size,.ref (xD h l1 l2 b1 b2).objs.size]}
set_option maxRecDepth 100000 in
set_option maxHeartbeats 2000000 in
theorem Yd9 (l1 l2:S5) (b1 b2:Bool) (xs ys:Array S6):
  Meets (Builtin.«zip.__new__» ⟨[.type "zip",.ref l1,.ref l2],[]⟩) (λ_ R s=>IsB s.heap l1 b1 xs/\IsB s.heap l2 b2 ys/\
   R (.ok (.ret (.ref (xE s.heap l1 l2 b1 b2).objs.size))) {s with heap:=xF s.heap l1 l2 b1 b2}):=
 .of_wp λprog w A R s h=>by
  obtain ⟨hp,g,d,tk,os⟩:=s
  obtain ⟨hl1,hl2,h⟩:=h
  have e0:=sub_zip
  have e1:IsB (Shared.heap ⟨hp,g,d,tk,os⟩) l1 b1 xs:=hl1
  have e2:IsB (Shared.heap ⟨hp.push (itO l1 b1),g,d,tk,os⟩) l2 b2 ys:=IsB.push hl2 _
  wp_walk using Jx4 e1,Jx4 e2
  exact ⟨_,rfl,h⟩
theorem Jsh (a b:S6):checkTypeCall "zip" ⟨[a,b],[]⟩=pure ():=by kernel_rfl
theorem Jt7 (a b:S6):checkBuiltinCall "zip.__new__" ⟨[.type "zip",a,b],[]⟩=pure ():=by kernel_rfl
theorem Jvj (a b c:S6):argsOk "object.__init__" ⟨[a,b,c],[]⟩:=by
 unfold argsOk;rw [signature?_of (id:="object.__init__") (n:=['_','_','t','i','n','i','_','_']) (o:=['t','c','e','j','b','o']) (by kernel_rfl) F.owner_object];kernel_rfl
section
variable {prog:Sb} {w:Sd} {A:Se} {E:S6->S7->Prop} {s:S7}
theorem Y1 {l1 l2:S5} {b1 b2:Bool} {xs ys:Array S6} {Q:S6->S7->Prop} (h1:IsB s.heap l1 b1 xs) (h2:IsB s.heap l2 b2 ys)
  (h:∀h',IsZip h' (s.heap.objs.size+4) (s.heap.objs.size+2) (s.heap.objs.size+3) .none->Jmu h' (s.heap.objs.size+2) (.ref s.heap.objs.size) (.ref (s.heap.objs.size+1))->
   Jmu h' (s.heap.objs.size+3) .none .none->IS s.heap.objs.size l1 b1 0 h'->IS (s.heap.objs.size+1) l2 b2 0 h'->
   (∀c o,s.heap.get? c=some o->h'.get? c=some o)->Q (.ref (s.heap.objs.size+4)) {s with heap:=h'}):
  Sh (model prog w) A (call (.type "zip") [.ref l1,.ref l2]) Q E s:=by
 refine callType_new F.called_zip (by decide) (Jsh _ _) (Jt7 _ _) (λobj=>Jvj obj _ _) F.entry_zip_new (Yd9 l1 l2 b1 b2 xs ys) ⟨h1,h2,?_⟩
 have z1:(zA s.heap l1 b1).objs.size=s.heap.objs.size+1:=yaf ..
 have z2:(zB s.heap l1 l2 b1 b2).objs.size=s.heap.objs.size+2:=by rw [yaf,z1]
 have z3:(xD s.heap l1 l2 b1 b2).objs.size=s.heap.objs.size+3:=by rw [yaf,z2]
 have z4:(xE s.heap l1 l2 b1 b2).objs.size=s.heap.objs.size+4:=by rw [yaf,z3]
 have p:∀{h:Sg} {c:S5} {o q:Obj},h.get? c=some o->(h.push q).get? c=some o:=λe=>yj _ e
 have g5:(xF s.heap l1 l2 b1 b2).get? (xE s.heap l1 l2 b1 b2).objs.size=some _:=yo _ rfl
 have g4:(xF s.heap l1 l2 b1 b2).get? (xD s.heap l1 l2 b1 b2).objs.size=some _:=p (yo _ rfl)
 have g3:(xF s.heap l1 l2 b1 b2).get? (zB s.heap l1 l2 b1 b2).objs.size=some _:=p (p (yo _ rfl))
 have fr:∀(l:S5) (b:Bool),(itO l b).isFreed=false:=λl b=>by cases b <;> rfl
 have g2:(xF s.heap l1 l2 b1 b2).get? (zA s.heap l1 b1).objs.size=some (itO l2 b2):=p (p (p (yo _ (fr _ _))))
 have g1:(xF s.heap l1 l2 b1 b2).get? s.heap.objs.size=some (itO l1 b1):=p (p (p (p (yo _ (fr _ _)))))
 have is:∀{it l:S5} {b:Bool} {h:Sg},h.get? it=some (itO l b)->IS it l b 0 h:=λ{it l b h} e=>by
  cases b
  ·exact ⟨_,e,rfl,rfl⟩
  ·exact ⟨_,e,rfl,rfl⟩
 show _/\_
 rw [z2,z3,z4] at g5
 rw [z1,z2] at g3
 rw [z3] at g4
 rw [z1] at g2
 rw [z4]
 exact ⟨⟨_,g5,rfl⟩,h _ g5 g3 g4 (is g1) (is g2) λc o x=>p (p (p (p (p x))))⟩
end
def Si6 (K:Si) (l1 l2:S5) (b1 b2:Bool):It:=
 ⟨λi H=>∃xs ys,SqB K H l1 b1 xs/\SqB K H l2 b2 ys/\xs.length=ys.length/\i < xs.length,
  λi H x H'=>∃T p q,H T=none/\x= .ref T/\(∀xs,SqB K H l1 b1 xs->xs[i]?=some p)/\(∀ys,SqB K H l2 b2 ys->ys[i]?=some q)/\H'=upd H T (.tup [p,q]),
  λi H=>∃xs ys,SqB K H l1 b1 xs/\SqB K H l2 b2 ys/\xs.length=ys.length/\i=xs.length⟩
def Z2T (z TI TO i1 i2 l1 l2:S5) (b1 b2:Bool) (i:Nat) (h:Sg):Prop:=IsZip h z TI TO .none/\Jmu h TI (.ref i1) (.ref i2)/\(∃a b,Jmu h TO a b)/\IS i1 l1 b1 i h/\IS i2 l2 b2 i h
theorem Z2T.obj {z TI TO i1 i2 l1 l2:S5} {b1 b2:Bool} {i:Nat} {h:Sg} (st:Z2T z TI TO i1 i2 l1 l2 b1 b2 i h):∀b∈ [z,TI,TO,i1,i2],∃o,h.get? b=some o/\∀v,o.data≠ .cell v:=λb hb=>by
 obtain ⟨h1,h2,⟨x,y,h3⟩,h4,h5⟩:=st
 simp only [yn,yx,or_false] at hb
 rcases hb with rfl|rfl|rfl|rfl|rfl
 ·exact ⟨_,h1,λv z=>by cases z⟩
 ·exact ⟨_,h2,λv z=>by cases z⟩
 ·exact ⟨_,h3,λv z=>by cases z⟩
 ·exact h4.obj
 ·exact h5.obj
theorem Z2.ne {z TI TO i1 i2 l1 l2:S5} (Z:Z2 z TI TO i1 i2 l1 l2):l1≠i1/\l2≠i2:=by
 obtain ⟨_,m1,m2⟩:=Z
 simp only [yn,yx,or_false,not_or] at m1 m2
 exact ⟨m1.2.2.2.1,m2.2.2.2.2⟩
theorem Ya5 {P:Sb} {w:Sd} {K:Si} {elts:List Expr} {kt:Nat} {pt:Pos} (z TI TO i1 i2 l1 l2:S5) (b1 b2:Bool) (Z:Z2 z TI TO i1 i2 l1 l2):
  Jre P w K (.Tuple elts kt pt) (Si6 K l1 l2 b1 b2) [z,TI,TO,i1,i2] z (Z2T z TI TO i1 i2 l1 l2 b1 b2) where
 mem:=by simp
 obj:=λi h st=>st.obj
 keep:=λi h h' st k=>by
  obtain ⟨h1,h2,⟨a,c,h3⟩,h4,h5⟩:=st
  exact ⟨k z (by simp) _ h1,k TI (by simp) _ h2,⟨a,c,k TO (by simp) _ h3⟩,h4.at λo e=>k i1 (by simp) o e,h5.at λo e=>k i2 (by simp) o e⟩
 item:=by
  intro X hP hw hK hc i pins s σ H E I hf st hg
  subst hP hw hK
  obtain ⟨xs,ys,q1,q2,e12,hi⟩:=hg
  obtain ⟨its,rv,p1⟩:=I.seqB q1
  obtain ⟨jts,rv2,p2⟩:=I.seqB q2
  have a1:=rv.length
  have a2:=rv2.length
  obtain ⟨n1,n2⟩:=Z.ne
  have D1:=drA (prog:=X.prog) (w:=X.w) b1 n1 its.toArray
  have D2:=drA (prog:=X.prog) (w:=X.w) b2 n2 jts.toArray
  rw [show jts.toArray.size=its.toArray.size by simp only [yu];omega] at D2
  have W:=Yd2 (I.ok.hd hc) Z D1 D2
  have st0:=st
  obtain ⟨s1,s2,s3,s4,s5⟩:=st
  refine W.item i s _ _ (by simp only [yu];omega) ⟨s1,s2,s3,⟨s4,p1⟩,⟨s5,p2⟩⟩ λT vals h' tk hP fT tT mid kk=>?_
  refine ⟨_,rfl,W.go elts kt pt i T _ _ _ mid λh'' st'' kk2=>?_⟩
  obtain ⟨x,y,hx,hy,rfl⟩:=hP
  obtain ⟨u1,hu1,r1⟩:=rv.get (i:=i) (x:=xs[i]) (yp hi)
  obtain ⟨u2,hu2,r2⟩:=rv2.get (i:=i) (x:=ys[i]'(by omega)) (yp (by omega))
  obtain rfl:x=u1:=by simpa [hu1] using hx.symm
  obtain rfl:y=u2:=by simpa [hu2] using hy.symm
  obtain ⟨t1,t2,t3,t4,t5⟩:=st''
  have kT:h''.IsTuple T #[x,y]:=by
   obtain ⟨o,q,r⟩:=tT
   exact ⟨o,kk2 T o (W.apart i T h' mid) q,r⟩
  have cht:∀c,c∈ [z,TO,i1,i2]->c∈ [z,TI,TO,i1,i2]:=λc hc=>by simp at hc⊢;rcases hc with rfl|rfl|rfl|rfl <;> simp
  refine ⟨.ref T,upd H T (.tup [xs[i],ys[i]'(by omega)]),I.turnTup (ch:=[z,TO,i1,i2]) (t':=tk) (λc hc=>hf c (cht c hc)) (λc o hc e=>kk2 c o hc (kk c o hc e)) fT ⟨(show 2<=Sa by decide),[x,y],.cons r1 (.cons r2 .nil),kT⟩,rfl,
   ⟨T,_,_,I.hok.fresh fT,rfl,λxs' hq=>by rw [I.seqB_inj hq q1];exact yp hi,λys' hq=>by rw [I.seqB_inj hq q2];exact yp (by omega),rfl⟩,⟨t1,t2,t3,t4.1,t5.1⟩,λc hc=>?_⟩
  have hcn:=(hf c hc).1
  rw [Sz (λw'=>?_)]
  ·exact hcn
  ·subst w'
   obtain ⟨o,e,_⟩:=Z2T.obj st0 c hc
   exact absurd (yk e) (yav.mpr fT)
 done:=by
  intro X hP hw hK hc i pins s σ H E I hf st hg
  subst hP hw hK
  obtain ⟨xs,ys,q1,q2,e12,hi⟩:=hg
  obtain ⟨its,rv,p1⟩:=I.seqB q1
  obtain ⟨jts,rv2,p2⟩:=I.seqB q2
  have a1:=rv.length
  have a2:=rv2.length
  obtain ⟨n1,n2⟩:=Z.ne
  have D1:=drA (prog:=X.prog) (w:=X.w) b1 n1 its.toArray
  have D2:=drA (prog:=X.prog) (w:=X.w) b2 n2 jts.toArray
  rw [show jts.toArray.size=its.toArray.size by simp only [yu];omega] at D2
  have W:=Yd2 (I.ok.hd hc) Z D1 D2
  obtain ⟨s1,s2,s3,s4,s5⟩:=st
  have ei:i=its.toArray.size:=by simp only [yu];omega
  subst ei
  refine W.done s _ _ ⟨s1,s2,s3,⟨s4,p1⟩,⟨s5,p2⟩⟩ λh' tk kk=>⟨rfl,?_⟩
  exact I.turnMany (ch:=[z,TO,i1,i2]) (λc hc=>hf c (by simp at hc⊢;rcases hc with rfl|rfl|rfl|rfl <;> simp)) λc o hc e=>kk c o hc e
 self:=λ_ _ _ _ _ st h=>wpAny_pyIter_zip st.1 h
def Sp4 (K:Si) (b1 b2:Bool) (ta:TA):TI:=λσ H R=>ta σ H λvs H1=>∃a b,vs= [.ref a,.ref b]/\(∃xs,SqB K H1 a b1 xs)/\(∃ys,SqB K H1 b b2 ys)/\R (Si6 K a b b1 b2) H1
theorem Ydv {X:Cx} {elts:List Expr} {kt:Nat} {pt:Pos} {a b:Expr} {ta:TA} {p pos:Pos} (b1 b2:Bool) (hg:Gl X "zip") (hm:X.mg "zip" =none) (ha:PA X [a,b] ta) (hs:starEach [a,b] X.env= [(false,eval a X.env),(false,eval b X.env)]:=by rfl) (hs2:starEach [b] X.env= [(false,eval b X.env)]:=by rfl):
  PI X (.Tuple elts kt pt) (.Call (.Name "zip" p) [a,b] [] pos) (Sp4 X.K b1 b2 ta):=by
 intro pins s σ H R I h
 refine Call_ (Joh I hg hm Yah (PyProof.Rows.callWith_type1 (thn (ha pos pins s σ H _ I h) λus s1 zq=>?_) (by rw [hs,hs2]) (by rw [hs2];rfl)))
 obtain ⟨vs,H1,I1,r1,q1⟩:=zq
 obtain ⟨l1,l2,rfl,⟨xs,q1⟩,⟨ys,q2⟩,q⟩:=q1
 obtain ⟨u,v,rfl,r1,r2⟩:=Jy1 r1
 obtain rfl:u=Value.ref l1:=r1
 obtain rfl:v=Value.ref l2:=r2
 obtain ⟨its,rv,p1⟩:=I1.seqB q1
 obtain ⟨jts,rv2,p2⟩:=I1.seqB q2
 have a1:=p1.lt
 have a2:=p2.lt
 refine Y1 p1 p2 λh' z1 z2 z3 z4 z5 kk=>?_
 have I2:Su X pins σ H1 {s1 with heap:=h'}:=I1.kept (t':=s1.toks) kk
 have ap:Z2 (s1.heap.objs.size+4) (s1.heap.objs.size+2) (s1.heap.objs.size+3) s1.heap.objs.size (s1.heap.objs.size+1) l1 l2:=by
  generalize hN:s1.heap.objs.size=N at*
  have big:∀l:S5,l < N->l∉ [N+4,N+2,N+3,N,N+1]:=λl hl hm=>by
   simp only [yn,yx,or_false] at hm
   have le:N<=l:=by rcases hm with rfl|rfl|rfl|rfl|rfl <;> first|exact yg _|exact Nat.le_add_right _ _
   exact yav.mpr le hl
  exact ⟨by simp,big _ a1,big _ a2⟩
 refine wpAny_pyIter_zip z1 ⟨_,_,_,_,H1,rfl,I2,Ya5 _ _ _ _ _ l1 l2 b1 b2 ap,⟨z1,z2,⟨_,_,z3⟩,z4,z5⟩,λd hd=>?_,q⟩
 have hd':s1.heap.objs.size<=d:=by
  simp only [yn,yx,or_false] at hd
  rcases hd with rfl|rfl|rfl|rfl|rfl <;> omega
 exact I1.fpOk hd' (I1.hok.fresh hd')
section
variable {K:Si} {g:TG} {σ:St} {H:Hp}
theorem Y5 {l1 l2 D:S5} {b1 b2:Bool} {xs ys:List V} {tt:TT} {te:TE} {R:Hp->Prop} (Pv:Nat->St->Hp->Prop) (h0:Pv 0 σ H) (hl:∀i σ H,i<=xs.length->Pv i σ H->SqB K H l1 b1 xs/\SqB K H l2 b2 ys) (e1:xs.length=ys.length)
  (hs:∀i x y σ H T,xs[i]?=some x->ys[i]?=some y->Pv i σ H->H T=none->g (.ref T) σ (upd H T (.tup [x,y])) λσ3 H3=>tt σ3 H3 λb H4=>if b=true then te σ3 H4 (λv H5=>∃vs,H5 D=some (.lst vs)/\vs.length < Sa/\Pv (i+1) σ3 (upd H5 D (.lst (vs++ [v])))) else Pv (i+1) σ3 H4)
  (hd:∀σ H,Pv xs.length σ H->R H):
  ∃W:Nat->Nat->St->Hp->Prop,(∃m,W 0 m σ H)/\∀i m σ' H',W i m σ' H'->((Si6 K l1 l2 b1 b2).stop i H'/\R H')\/((Si6 K l1 l2 b1 b2).go i H'/\∃N:St->Hp->Prop,(∀σ2 H2,N σ2 H2->∃m',m' < m/\W (i+1) m' σ2 H2)/\
   ∀x H2,(Si6 K l1 l2 b1 b2).yld i H' x H2->g x σ' H2 λσ3 H3=>tt σ3 H3 λb H4=>if b=true then te σ3 H4 (λv H5=>∃vs,H5 D=some (.lst vs)/\vs.length < Sa/\N σ3 (upd H5 D (.lst (vs++ [v])))) else N σ3 H4):=by
 refine ⟨λi m σ H=>m=xs.length - i/\i<=xs.length/\Pv i σ H,⟨xs.length,by simp,yam _,h0⟩,?_⟩
 rintro i m σ H ⟨rfl,hi,p⟩
 obtain ⟨q1,q2⟩:=hl i σ H hi p
 by_cases hlt:i < xs.length
 ·refine .inr ⟨⟨xs,ys,q1,q2,e1,hlt⟩,Pv (i+1),λσ' H' p'=>⟨xs.length - (i+1),by omega,rfl,hlt,p'⟩,λx H' y=>?_⟩
  obtain ⟨T,u,v,hT,rfl,hu,hv,rfl⟩:=y
  exact hs i u v σ _ T (hu xs q1) (hv ys q2) p hT
 ·have e:i=xs.length:=by omega
  subst e
  exact .inl ⟨⟨xs,ys,q1,q2,e1,rfl⟩,hd σ H p⟩
theorem Spt {i j:Nat} {T:S5} {x y:V} {σ:L2.St} {H:Hp} {A B:L2.St->Hp->Prop} (hT:SqT K H T [x,y]) (h:A ((σ.set i (some x)).set j (some y)) H):
  Sjb K 2 (Juw (Jo5 i) (Juw (Jo5 j) Sld)) (.ref T) σ H λσ3 H3=>Ya1 σ3 H3 λb H4=>if b=true then A σ3 H4 else B σ3 H4:=by
 refine ⟨T,_,rfl,hT,rfl,_,_,rfl,_,_,rfl,rfl,?_⟩
 show if true=true then A ((σ.set i (some x)).set j (some y)) H else B ((σ.set i (some x)).set j (some y)) H
 rw [if_pos rfl]
 exact h
end
section
variable {X:Cx}
structure Src (K:Si) (C:S5):Prop where
 e:Sk K (.ref C) "__eq__" =some (some (.builtin "object.__eq__"))
 s:Sl K C (.type "str")=some false
 o:Sl K C (.type "object")=some true
end
inductive Oth (K:Si) (H:Hp):V->Prop where
 |flat {y:V}:Jpw y=true->Oth K H y
 |lst {p:S5} {xs:List V}:H p=some (.lst xs)->Oth K H (.ref p)
 |tup {p:S5} {xs:List V}:H p=some (.tup xs)->Oth K H (.ref p)
 |dct {p:S5} {kvs:List (Key×V)}:H p=some (.dK kvs)->Oth K H (.ref p)
 |ins {p C dx:S5} {fs:List (Str×V)}:H p=some (.ins C dx fs)->Src K C->Oth K H (.ref p)
section
variable {X:Cx}
end
end L2
namespace L2
open PySem PySem.Spec PyProof.Rows
section
variable {H:Hp} {lb:Array (Nat×Nat×Str)}
theorem Scq.triples {l:List S6} (x:Scq H lb l):TriplesOk l:=by
 fun_induction Scq H lb l with
 |case1=>exact True.intro
 |case2 l _ c _ v r ih=>exact ih x.2
 |case3=>exact x.elim
theorem Scq.hit {pos:Pos} {v:S6} {l:List S6} (x:Scq H lb l) (h:codeAmong pos l=some v):∃(q:Str) (a:S5),(pos.line,pos.col,q)∈lb/\v= .ref a/\H a=some (.cod q):=by
 fun_induction Scq H lb l with
 |case1=>cases h
 |case2 l _ c _ v' r ih=>
  obtain ⟨⟨n,m,q,a,h1,h2,h3,h4,h5⟩,h6⟩:=x
  unfold codeAmong at h
  split at h
  ·rename_i hc
   cases h
   simp only [yag,beq_iff_eq] at hc
   have e1:n=pos.line:=by omega
   have e2:m=pos.col:=by omega
   rw [e1,e2] at h1
   exact ⟨q,a,h1,h4,h5⟩
  ·exact ih h6 h
 |case3=>exact x.elim
theorem Scq.snoc {pos:Pos} {q:Str} {a:S5} (hm:(pos.line,pos.col,q)∈lb) (ha:H a=some (.cod q)) {l:List S6} (x:Scq H lb l):Scq H lb (l++ [rawInt pos.line,rawInt pos.col,.ref a]):=by
 fun_induction Scq H lb l with
 |case1=>exact ⟨⟨_,_,q,a,hm,rfl,rfl,rfl,ha⟩,True.intro⟩
 |case2 l _ c _ v r ih=>exact ⟨x.1,ih x.2⟩
 |case3=>exact x.elim
end
def Sl8 (vs:Array S6) (c P:S5):Bool:=
 (match (vs[11]?:Option S6) with|some (.ref p)=>p==P|_=>false)&&(match vs.getD 11 .none with| .ref p=>p==P|_=>false)&&(match vs.getD 18 .none with| .str _ _=>true|_=>false)&&(match vs.getD 7 .none with| .int _ _=>true|_=>false)&&
 (match vs.getD 9 .none with| .bool _=>true|_=>false)&&(match vs.getD 10 .none with| .int _ _=>true|_=>false)&&!(c==P)
structure Nst (K:Si) (f c P:S5):Prop where
 fn:∃(oc:S6) (od:Option S5) (fd:Sc) (sl:Array (Option S6)),K.lookup f=some ⟨oc,od,.func fd,sl⟩/\fd.code= .ref c
 hd:∃(od:Option S5) (vs:Array S6) (sl:Array (Option S6)),K.lookup c=some ⟨.type "code",od,.fields vs,sl⟩/\Sl8 vs c P=true
theorem Nst.code {K:Si} {f c P:S5} {h:Sg} (n:Nst K f c P) (X:K.In h):PySem.W.CodeHd h c P:=by
 obtain ⟨od,vs,sl,lk,b⟩:=n.hd
 unfold Sl8 at b
 simp only [yag] at b
 obtain ⟨⟨⟨⟨⟨⟨b1,b2⟩,b3⟩,b4⟩,b5⟩,b6⟩,b7⟩:=b
 have e1:vs[11]?=some (.ref P):=by
  split at b1
  ·rename_i p e;rw [e,beq_iff_eq.mp b1]
  ·cases b1
 have e2:vs.getD 11 .none= .ref P:=by
  split at b2
  ·rename_i p e;rw [e,beq_iff_eq.mp b2]
  ·cases b2
 have e3:∃x t,vs.getD 18 .none= .str x t:=by
  split at b3
  ·rename_i x t e;exact ⟨x,t,e⟩
  ·cases b3
 have e4:∃x t,vs.getD 7 .none= .int x t:=by
  split at b4
  ·rename_i x t e;exact ⟨x,t,e⟩
  ·cases b4
 have e5:∃x,vs.getD 9 .none= .bool x:=by
  split at b5
  ·rename_i x e;exact ⟨x,e⟩
  ·cases b5
 have e6:∃x t,vs.getD 10 .none= .int x t:=by
  split at b6
  ·rename_i x t e;exact ⟨x,t,e⟩
  ·cases b6
 obtain ⟨f1,t1,e3⟩:=e3
 obtain ⟨f2,t2,e4⟩:=e4
 obtain ⟨f3,e5⟩:=e5
 obtain ⟨f4,t4,e6⟩:=e6
 exact ⟨_,vs,f1,t1,f2,t2,f3,f4,t4,X _ _ lk,rfl,rfl,e1,e2,e3,e4,e5,e6,by simpa using b7⟩
def Bmn (mg:Str->Option S6) (base:Sg):Prop:=∃bm ob,mg "__builtins__" =some (.ref bm)/\bm≠builtinsNs/\base.get? bm=some ob/\ob.cls= .type "module" /\ob.dict=some builtinsNs/\ob.data= .plain
def Clo (f:S5) (name qual:Str) (st:Sf) (clos:List (Str×S5)) (c:S5):HO:=
 .ext λh=>∃doc pm ct:S6,h.get? f=some {cls:=.type "function",data:=.func (PySem.W.fnX name qual (Jld st) (Jl7 st) (Jk9 st) clos .none .none doc pm none (.ref c) ct)}
theorem Jwy {P:Sb} {w:Sd} {H:Hp} {h:Sg} {f:S5} {name qual:Str} {st:Sf} {clos:List (Str×S5)} {c:S5} {doc pm ct:S6}
  (e:h.get? f=some {cls:=.type "function",data:=.func (PySem.W.fnX name qual (Jld st) (Jl7 st) (Jk9 st) clos .none .none doc pm none (.ref c) ct)}):Sa7 P w H h f (Clo f name qual st clos c):=
 ⟨⟨doc,pm,ct,e⟩,⟨_,e⟩,λ_ _ ⟨d,p,t,z⟩ k=>⟨d,p,t,k _ z⟩⟩
section
variable {X:Cx} {pins:List (S5×Obj)} {σ:St} {H:Hp} {s:S7} {M:Model} {A:Se} {E:S6->S7->Prop} {name qual:Str} {st:Sf} {pos:Pos} {firstLine:Nat} {c P:S5} {lb:Array (Nat×Nat×Str)} {clos:List (Str×S5)} {Q:S6->S7->Prop}
theorem Yas (I:Su X pins σ H s) (hcd:X.env.code= .ref c) (C:PySem.W.CodeHd X.base c P) (B:Bmn X.mg X.base) (ht:H P=some (.tbl lb)) (hm:(pos.line,pos.col,qual)∈lb) (hu:∀q,(pos.line,pos.col,q)∈lb->q=qual)
  (hcl:closureFor (Jk9 st) X.env=pure clos)
  (h:∀s' f c' H',Su X pins σ H' s'->Sn H H'->H f=none->H' f=some (Clo f name qual st clos c')->H' c'=some (.cod qual)->Q (.ref f) s'):
  Sh M A (makeFunction name qual (Jld st) (.stmts (Jl7 st)) (Jk9 st) X.env [] [] [] pos firstLine) Q E s:=by
 obtain ⟨ts,eP,tr⟩:=I.hok P _ ht
 have hg:s.heap.Ns mainGlobals X.mg:=I.mod.glob.keeps I.bk
 have CH:=C.keeps I.bk
 have hgP:mainGlobals≠P:=λz=>by
  obtain ⟨o,es,ep,e1,e2,_⟩:=hg
  rw [z,eP] at e1;cases e1;cases e2
 have BA:s.heap.BuiltinsAt X.mg P:=by
  obtain ⟨bm,ob,b1,b2,b3,b4,b5,b6⟩:=B
  have b3':=I.bk _ _ b3
  refine ⟨bm,ob,b1,b2,λz=>?_,λz=>?_,b3',b4,b5,b6⟩
  ·obtain ⟨o,es,ep,e1,e2,_⟩:=hg
   rw [<-z,b3'] at e1;cases e1;rw [b6] at e2;cases e2
  ·rw [z,eP] at b3';cases b3';cases b4
 cases hq:codeAmong pos ts.toList with
 |some v=>
  obtain ⟨q,a,m1,rfl,m2⟩:=tr.hit hq
  obtain rfl:=hu q m1
  refine PySem.W.makeFunction_hit (P:=P) (ps:=ts) hcl I.ok.glob hg hcd CH eP tr.triples hq BA λctv doc h' tk hk hsz=>?_
  have hf:H h'.objs.size=none:=I.hok.fresh hsz
  have J:=I.laid (a:=h'.objs.size) (o:=Clo h'.objs.size name q st clos a) (t':=tk) (h':=h'.push {cls:=.type "function",data:=.func (PySem.W.fnX name q (Jld st) (Jl7 st) (Jk9 st) clos .none .none doc ((X.mg "__name__").getD .none) none (.ref a) ctv)})
   (λb u z=>yj _ (hk b u z)) hsz (Jwy (yo _ rfl))
  exact h _ _ a _ J (Sn.upd hf) hf Sv (by rw [Sz (Jkb m2 hf)];exact m2)
 |none=>
  refine PySem.W.makeFunction_K (P:=P) (ps:=ts) hcl I.ok.glob hg hcd CH eP tr.triples hq hgP BA λc' ctv doc h' tk hx hge hlt hrec htb=>?_
  have hc':H c'=none:=I.hok.fresh hge
  have hf:H h'.objs.size=none:=I.hok.fresh (yab hge (yap hlt))
  have nfc:h'.objs.size≠c':=yax hlt
  have nP:∀b,H b=none->b≠P:=λb z w'=>by rw [w',ht] at z;cases z
  let H':Hp:=upd (upd H c' (.cod qual)) h'.objs.size (Clo h'.objs.size name qual st clos c')
  let o':Obj:={cls:=.type "function",data:=.func (PySem.W.fnX name qual (Jld st) (Jl7 st) (Jk9 st) clos .none .none doc ((X.mg "__name__").getD .none) none (.ref c') ctv)}
  have hS:Sn H H':=(Sn.upd hc').trans (Sn.upd (by rw [Sz nfc];exact hf))
  have hkp:∀b o,b≠P->s.heap.get? b=some o->(h'.push o').get? b=some o:=λb o n z=>yj _ (hx b o n z)
  have hc1:H' c'=some (.cod qual):=by show upd (upd H c' _) _ _ c'=_;rw [Sz (yi nfc),Sv]
  have bl:∀b o,s.heap.get? b=some o->b≠c'/\b≠h'.objs.size:=λb o z=>by
   have q:=yao (yk z) hge
   exact ⟨yr q,yr (ybu q hlt)⟩
  have J:Su X pins σ H' {s with heap:=h'.push o',toks:=tk}:=by
   refine I.un (t':=tk) ⟨λb o z n _ _=>hkp b o (nP b n) z,λb o z n _ _=>⟨o.slots,hkp b o (nP b n) z⟩,λb o z n _=>?_,λb o z _=>?_,λb xs z=>hS _ _ z,λb o u z=>hS _ _ z,λb ps z=>⟨#[],by rw [hS _ _ z];simp⟩⟩ λb u z=>?_
   ·show upd (upd H c' _) _ _ b=none
    rw [Sz (bl b o z).2,Sz (bl b o z).1];exact n
   ·by_cases w':b=P
    ·exact ⟨_,by rw [w'];exact yj _ htb⟩
    ·exact ⟨o,hkp b o w' z⟩
   ·by_cases w1:b=h'.objs.size
    ·have z':H' b=some (Clo h'.objs.size name qual st clos c'):=by rw [w1];exact Sv
     rw [z'] at z;cases z
     rw [w1]
     exact Jwy (yo _ rfl)
    ·by_cases w2:b=c'
     ·rw [w2,hc1] at z;cases z
      rw [w2]
      exact hrec.keeps λ_ _ z=>yj _ z
     ·have z':H b=some u:=by
       have:H' b=H b:=by show upd (upd H c' _) _ _ b=_;rw [Sz w1,Sz w2]
       rw [<-this];exact z
      by_cases w3:b=P
      ·rw [w3,ht] at z';cases z'
       refine ⟨_,by rw [w3];exact yj _ htb,?_⟩
       rw [Array.toList_append]
       exact Scq.snoc hm hc1 (tr.mono λb q z=>hS _ _ z)
      ·refine (I.hok b u z').stay (λc v hc zz=>hkp c v ?_ zz) (λc zz=>hS _ _ zz) (λc xs zz=>hS _ _ zz) λc q zz=>hS _ _ zz
       rcases hc with rfl|hc
       ·exact w3
       ·intro w';rw [w',ht] at hc;cases hc
  exact h _ _ c' H' J hS hf Sv hc1
end
def Sbx (H:Hp) (c:S5) (v:V):Prop:=∃o u,H c=some (Sif o)/\o.data= .cell (some u)/\Sa2 v u
theorem Sbx.same {H H':Hp} {c:S5} {v:V} (s:Sn H H') (h:Sbx H c v):Sbx H' c v:=by obtain ⟨o,u,a,b,d⟩:=h;exact ⟨o,u,s _ _ a,b,d⟩
def Sdb (H:Hp) (f:S5) (name qual:Str) (st:Sf) (caps:List (Str×V)):Prop:=
 ∃(clos:List (Str×S5)) (c:S5),H f=some (Clo f name qual st clos c)/\H c=some (.cod qual)/\(∀x y b,clos.lookup x=some b->clos.lookup y=some b->x=y)/\(∀y∈(Jk9 st).names,y.2= .free->∃b,clos.lookup y.1=some b)/\
  (∀x b,clos.lookup x=some b->∃v,Sbx H b v)/\∀x v,(x,v)∈caps->∃b,clos.lookup x=some b/\Sbx H b v
theorem Sdb.same {H H':Hp} {f:S5} {name qual:Str} {st:Sf} {caps:List (Str×V)} (s:Sn H H') (h:Sdb H f name qual st caps):Sdb H' f name qual st caps:=
 let ⟨clos,c,a,b,d,e,g,k⟩:=h
 ⟨clos,c,s _ _ a,s _ _ b,d,e,λx b z=>let ⟨v,q⟩:=g x b z;⟨v,q.same s⟩,λx v z=>let ⟨b,q1,q2⟩:=k x v z;⟨b,q1,q2.same s⟩⟩
def IsF (H:Hp) (f:S5):Prop:=∃name qual st clos c,H f=some (Clo f name qual st clos c)
theorem Sdb.isf {H:Hp} {f:S5} {name qual:Str} {st:Sf} {caps:List (Str×V)} (h:Sdb H f name qual st caps):IsF H f:=by obtain ⟨clos,c,a,_⟩:=h;exact ⟨name,qual,st,clos,c,a⟩
def Cx.fix (X:Cx) (cn:Str->Bool):Cx:={X with fn:=λx=>X.fn x&&!cn x}
open Classical in
noncomputable def Jrt (X:Cx) (cn:Str->Bool) (h:Sg) (H:Hp):Hp:=λb=>if ∃x,cn x=true/\X.fn x=true/\X.env.cells.lookup x=some b then (h.get? b).map Sif else H b
section
variable {X:Cx} {pins:List (S5×Obj)} {σ:St} {H:Hp} {s:S7} {cn:Str->Bool}
theorem Jwp {h:Sg} {b:S5} {o:Obj} {x:Str} (h1:cn x=true) (h2:X.fn x=true) (h3:X.env.cells.lookup x=some b) (e:h.get? b=some o):Jrt X cn h H b=some (Sif o):=by
 unfold Jrt
 rw [if_pos ⟨x,h1,h2,h3⟩,e]
 rfl
theorem Jrb {h:Sg} {b:S5} (n:¬∃x,cn x=true/\X.fn x=true/\X.env.cells.lookup x=some b):Jrt X cn h H b=H b:=by
 unfold Jrt
 rw [if_neg n]
theorem Ycv (I:Su X pins σ H s) {b:S5} {o:HO} (e:H b=some o):Jrt X cn s.heap H b=some o:=by
 rw [Jrb]
 ·exact e
 ·rintro ⟨x,_,h2,h3⟩
  rcases I.freeC x b h3 with n|⟨f,_⟩
  ·rw [n] at e;cases e
  ·rw [h2] at f;cases f
theorem Su.fix (I:Su X pins σ H s) (cn:Str->Bool):Su (X.fix cn) pins σ (Jrt X cn s.heap H) s/\Sn H (Jrt X cn s.heap H):=by
 have hS:Sn H (Jrt X cn s.heap H):=λb o e=>Ycv I e
 have hn:∀b,H b=none->(∀x,cn x=true->X.fn x=true->X.env.cells.lookup x≠some b)->Jrt X cn s.heap H b=none:=λb e n=>by
  rw [Jrb]
  ·exact e
  ·rintro ⟨x,h1,h2,h3⟩;exact n x h1 h2 h3
 refine ⟨⟨⟨I.ok.mod,I.ok.kind,I.ok.glob,I.ok.blt,I.ok.above,I.ok.inj,I.ok.has,λx c hx hc=>I.ok.cab x c ?_ hc,I.ok.hd,I.ok.frames,I.ok.stk,I.ok.exf,I.ok.bs,I.ok.bsz,I.ok.noex,I.ok.exfs,I.ok.funs,I.ok.frf⟩,I.os,I.bare,
  ⟨I.base.keep,I.base.slot,λb o e n hx=>?_,I.base.there,λb xs e=>hS _ _ (I.base.tups b xs e),λb o u e=>hS _ _ (I.base.frzs b o u e),λb ps e=>?_⟩,I.loc,I.cell,?_,λx c e=>?_,λp hp=>?_,λb u e=>?_,I.len⟩,hS⟩
 ·have hx':(X.fn x&&!cn x)=true:=hx
  rw [yag] at hx'
  exact hx'.1
 ·exact hn b (I.base.free b o e n hx) λx _ h2 h3=>absurd (yao (yk e) (I.ok.cab x b h2 h3)) (ybe _)
 ·obtain ⟨m,q⟩:=I.base.tbls b ps e
  exact ⟨m,hS _ _ q⟩
 ·exact hn _ I.free λx _ _ h3=>I.cne x _ h3 rfl
 ·have e':X.env.cells.lookup x=some c:=e
  by_cases hc:cn x=true/\X.fn x=true
  ·obtain ⟨v,o,ho,hd⟩:=I.cell x c e'
   refine .inr ⟨?_,o,Jwp hc.1 hc.2 e' ho⟩
   show (X.fn x&&!cn x)=false
   rw [hc.1];simp
  ·have out:Jrt X cn s.heap H c=H c:=Jrb λ⟨y,h1,h2,h3⟩=>hc (by rw [I.ok.inj x y c e' h3];exact ⟨h1,h2⟩)
   rcases I.freeC x c e' with n|⟨f,o,q⟩
   ·exact .inl (out.trans n)
   ·refine .inr ⟨?_,o,out.trans q⟩
    show (X.fn x&&!cn x)=false
    rw [f];rfl
 ·obtain ⟨e,n,ne,nf,d⟩:=I.pin p hp
  refine ⟨e,hn _ n λx _ _ h3=>?_,ne,nf,d⟩
  obtain ⟨v,o,ho,hd⟩:=I.cell x _ h3
  rw [e] at ho;cases ho
  exact d v hd
 ·by_cases hb:∃x,cn x=true/\X.fn x=true/\X.env.cells.lookup x=some b
  ·obtain ⟨x,h1,h2,h3⟩:=hb
   obtain ⟨v,o,ho,hd⟩:=I.cell x b h3
   rw [Jwp h1 h2 h3 ho] at e
   cases e
   exact ⟨ho,True.intro,⟨o,ho⟩,λ_ _ _ _=>True.intro⟩
  ·rw [Jrb hb] at e
   exact (I.hok b u e).stay (λ_ _ _ q=>q) (λ_ q=>hS _ _ q) (λ_ _ q=>hS _ _ q) λ_ _ q=>hS _ _ q
theorem Su.celAt (I:Su X pins σ H s) (J:Su (X.fix cn) pins σ (Jrt X cn s.heap H) s) {j:Nat} {x:Str} {v:V} (h1:X.N[j]?=some x) (h2:σ[j]?=some (some v)) (hv:X.env.kindOf x=some .cell\/X.env.kindOf x=some .free) (hc:cn x=true) (hf:X.fn x=true):
  ∃b,X.env.cells.lookup x=some b/\Sbx (Jrt X cn s.heap H) b v:=by
 obtain ⟨m,_,hl⟩:=I.loc
 have hvis:Vis X.env.scope x:=hv.elim (λz=>.inr (.inl z)) λz=>.inr (.inr z)
 obtain ⟨u,r,l⟩:=hl j x v h1 h2 hvis
 rcases l with ⟨k,_⟩|⟨k,b,e,o,ho,hd⟩
 ·rcases hv with z|z
  ·rw [k] at z;cases z
  ·rw [k] at z;cases z
 ·exact ⟨b,e,o,u,Jwp hc hf e ho,hd,r⟩
end
def Fin (X:Cx) (H:Hp) (s:S7):Prop:=s.os=X.s₀.os/\AllBare s.gens/\Un X.fs X.ex X.H₀ H X.s₀.heap s.heap/\HOk X.prog X.w H s.heap
theorem Su.fin {X:Cx} {pins:List (S5×Obj)} {σ:St} {H:Hp} {s:S7} (I:Su X pins σ H s):Fin X H s:=⟨I.os,I.bare,I.base,I.hok⟩
def SB (X:Cx) (D:Sbs) (f:Flow) (s':S7):Prop:=
 match f with
 | .next=>∃σ' H',Fin X H' s'/\D.nx σ' H'
 | .brk=>∃σ' H',Fin X H' s'/\D.bk σ' H'
 | .cont=>∃σ' H',Fin X H' s'/\D.ct σ' H'
 | .ret u=>∃v H',Fin X H' s'/\Sa2 v u/\D.rt v H'
theorem SP.sb {X:Cx} {pins:List (S5×Obj)} {D:Sbs} {f:Flow} {s':S7} (h:SP X pins D f s'):SB X D f s':=by
 cases f with
 |next=>obtain ⟨σ',H',I,q⟩:=h;exact ⟨σ',H',I.fin,q⟩
 |brk=>obtain ⟨σ',H',I,q⟩:=h;exact ⟨σ',H',I.fin,q⟩
 |cont=>obtain ⟨σ',H',I,q⟩:=h;exact ⟨σ',H',I.fin,q⟩
 |ret u=>obtain ⟨v,σ',H',I,r,q⟩:=h;exact ⟨v,H',I.fin,r,q⟩
def PB (X:Cx) (st:List Sf) (t:TS):Prop:=
 ∀(pins:List (S5×Obj)) (s:S7) (σ:St) (H:Hp) (D:Sbs),Su X pins σ H s->t D σ H->Sh (model X.prog X.w) X.A (execs st X.env) (SB X D) X.xe s
section
variable {X:Cx} {st:Sf} {rest:List Sf} {t u:TS}
theorem PSs.pb {l:List Sf} (h:PSs X l t):PB X l t:=λpins s σ H D I q=>thn (h pins s σ H D I q) λ_ _ z=>z.sb
theorem Jwc (h1:PS X st t) (h2:PB X rest u):PB X (st::rest) (Jxu t u):=by
 intro pins s σ H D I h
 refine wpAny_execs_cons (thn (h1 pins s σ H {D with nx:=u D} I h) λf s1 q=>?_)
 cases f with
 |next=>
  obtain ⟨σ',H',I',q⟩:=q
  exact h2 pins s1 σ' H' D I' q
 |ret v=>exact SP.sb (D:=D) q
 |brk=>exact SP.sb (D:=D) q
 |cont=>exact SP.sb (D:=D) q
end
theorem Jnr {cells:List (Str×S5)} {x:Str} {b:S5}:∀(ns:List (Str×NameKind)) (acc:List (Str×S5)),(Jmq cells ns acc).lookup x=some b->acc.lookup x=none->(x,NameKind.free)∈ns
 | [],_,e,n=>by unfold Jmq at e;rw [n] at e;cases e
 | (y,k) :: r,acc,e,n=>by
  unfold Jmq at e
  by_cases hk:(k==NameKind.free)=true
  ·rw [if_pos hk] at e
   have hk':k= .free:=by simpa using hk
   subst hk'
   by_cases hx:x=y
   ·subst hx;exact yar
   ·cases hc:cells.lookup y with
    |none=>rw [hc] at e;exact yaq _ (Jnr r acc e n)
    |some d=>
     rw [hc] at e
     refine yaq _ (Jnr r _ e ?_)
     rw [yba,beq_eq_false_iff_ne.mpr hx]
     exact n
  ·rw [if_neg hk] at e
   exact yaq _ (Jnr r acc e n)
def Jr3 (s:Sf):Pos:=match s with
 | .FunctionDef _ _ _ _ _ _ _ _ _ p=>p
 |_=>⟨0,0,0,0⟩
def Stw (P:S5) (lb:Array (Nat×Nat×Str)) (i:Nat) (name qual:Str) (st:Sf) (caps:List (Str×Nat)) (t:TS):TS:=λD σ H=>H P=some (.tbl lb)/\∃vs:List V,(∀y∈caps.zip vs,σ[y.1.2]?=some (some y.2))/\caps.length=vs.length/\
 ∀f H',Sn H H'->H f=none->Sdb H' f name qual st ((caps.map (·.1)).zip vs)->t D (σ.set i (some (.ref f))) H'
section
variable {X:Cx} {rest:List Sf} {t:TS} {st:Sf} {name qual:Str} {i:Nat} {c P:S5} {lb:Array (Nat×Nat×Str)} {caps:List (Str×Nat)}
theorem Ybj {f₀:S5} (n:Nst X.K f₀ c P) (B:Bmn X.mg X.base) (hcd:X.env.code= .ref c) (hst:st= .FunctionDef name (Jld st) (Jl7 st) [] none [] (Jk9 st) none name (Jr3 st))
  (hd:(Jld st).defaults= []) (hk:(Jld st).kw_defaults= []) (ha:annTrees (Jld st) none X.env= []) (hq:qualnameIn X.env name name=qual) (hm:((Jr3 st).line,(Jr3 st).col,qual)∈lb) (hu:∀q,((Jr3 st).line,(Jr3 st).col,q)∈lb->q=qual)
  (hN:X.N.Nodup) (hi:X.N[i]?=some name) (hx:X.env.scope.names.lookup name=some .local)
  (hcap:∀y∈caps,X.N[y.2]?=some y.1/\y.2≠i/\(Jk9 st).names.lookup y.1=some .free/\X.fn y.1=true/\X.env.scope.names.lookup y.1=some .cell)
  (hall:∀y∈(Jk9 st).names,y.2= .free->y.1∈caps.map (·.1))
  (hr:PB (X.fix λx=>(caps.map (·.1)).contains x) rest t):PB X (st::rest) (Stw P lb i name qual st caps t):=by
 intro pins s σ H D I h
 obtain ⟨ht,vs,hvs,hlen,h⟩:=h
 have hcel:∀y∈caps,X.env.scope.names.lookup y.1=some .cell:=λy hy=>(hcap y hy).2.2.2.2
 have hfr:∀y∈(Jk9 st).names,y.2= .free->∃b,X.env.cells.lookup y.1=some b:=λy hy hyf=>by
  obtain ⟨z,hz,ez⟩:=ybc.mp (hall y hy hyf)
  rw [<-ez]
  exact I.ok.has z.1 (.inl (hcel z hz))
 have hcl:=Jpv (env:=X.env) hfr
 refine wpAny_execs_cons ?_
 rw [hst]
 refine PySem.W.nestDef_K hd hk ha ?_
 rw [hq]
 refine Yas I hcd (n.code I.mod.kin) B ht hm hu hcl λs1 f c' H1 I1 s01 hf hclo hcod=>?_
 refine Jpc I1 hN hi (.inl hx) (v:=.ref f) rfl (λs2 I2=>?_) (.inr hx)
 obtain ⟨J,sJ⟩:=I2.fix (λx=>(caps.map (·.1)).contains x)
 have hS:=s01.trans sJ
 have hin:∀x b,(Jmq X.env.cells (Jk9 st).names []).lookup x=some b->X.env.cells.lookup x=some b:=λx b e=>Jni (cells:=X.env.cells) _ [] (λx c e=>by simp at e) x b e
 have cel:∀(k:Nat) (y:Str×Nat) (v:V),caps[k]?=some y->vs[k]?=some v->∃b,X.env.cells.lookup y.1=some b/\Sbx (Jrt X (λx=>(caps.map (·.1)).contains x) s2.heap H1) b v:=λk y v e1 e2=>by
  have hy:=yad e1
  obtain ⟨c1,c2,c3,c4,_⟩:=hcap y hy
  have hσ:σ[y.2]?=some (some v):=hvs (y,v) (yad (i:=k) (by rw [ycx];exact ⟨e1,e2⟩))
  refine I2.celAt J c1 (by rw [ycr (yi c2)];exact hσ) (.inl (hcel y hy)) ?_ c4
  exact ycu.mpr (List.mem_map_of_mem hy)
 refine hr pins s2 _ _ D J (h f _ hS hf ⟨_,c',sJ _ _ hclo,sJ _ _ hcod,λx y b h1 h2=>I.ok.inj x y b ?_ ?_,λy hy hyf=>?_,λx b e=>?_,λx v e=>?_⟩)
 ·exact hin x b h1
 ·exact hin y b h2
 ·have hh:=Jn1 (cells:=X.env.cells) (x:=y.1) (Jk9 st).names [] (by rw [<-hyf];exact hy) (hfr y hy hyf)
  exact ycb.mp hh
 ·obtain ⟨y,hy,rfl⟩:=ybc.mp (hall (x,.free) (Jnr (Jk9 st).names [] e (by simp)) rfl)
  obtain ⟨k,hk⟩:=List.getElem?_of_mem hy
  have hk':k < vs.length:=by rw [<-hlen];exact (yq.mp hk).1
  obtain ⟨b',e1,e2⟩:=cel k y vs[k] hk (yp hk')
  have e3:=hin _ _ e
  rw [e1] at e3;cases e3
  exact ⟨_,e2⟩
 ·obtain ⟨k,hk⟩:=List.getElem?_of_mem e
  rw [ycx,ym] at hk
  obtain ⟨k1,k2⟩:=hk
  cases hy:caps[k]? with
  |none=>rw [hy] at k1;cases k1
  |some y=>
   rw [hy] at k1
   cases k1
   obtain ⟨b,e1,e2⟩:=cel k y v hy k2
   have hm:=yad hy
   have hh:=Jn1 (cells:=X.env.cells) (x:=y.1) (Jk9 st).names [] (PySem.mem_of_lookup (hcap y hm).2.2.1) ⟨b,e1⟩
   obtain ⟨b',e3⟩:=ycb.mp hh
   have e4:=hin _ _ e3
   rw [e1] at e4;cases e4
   exact ⟨_,e3,e2⟩
end
theorem Fun.okN {CX:CXT} {P:Sb} {w:Sd} {K:Si} {mg:Str->Option S6} {base:Sg} {x qual:Str} {st:Sf} {f c T:S5} {fd:Sc} {N ps:List Str} {k:Nat} {sp:Sp} (F:Fun K x qual st f fd) (n:Nst K f c T) (S:Jkd N ps (Jk9 st)) (len:∀vs H Q E,sp vs H Q E->vs.length=ps.length)
  (hbody:∀(A:Se) (outer:List Env) (s:S7) (H:Hp) (vs:List V) (Q:VK) (E:XK),Sal k (A.deeper (envOfC qual (Jk9 st) s.heap.objs.size f (.ref c)))->sp vs H Q E->
   ∃t,PB (Jvq CX P w K mg base N qual (Jk9 st) f (.ref c) A outer s H E) (Jl7 st) t/\t {nx:=λ_ H'=>Q .non H',rt:=Q} (start N vs) H):Sx P w K mg base CX (k+1) f fd ps sp:=by
 obtain ⟨oc,od,kV,doc,pm,an,cdv,ct,osl,rfl,lk,hcd⟩:=F.ex
 have ec:cdv= .ref c:=by
  obtain ⟨oc',od',fd',sl',l',e'⟩:=n.fn
  rw [lk] at l';cases l'
  exact e'
 subst ec
 refine ⟨len,λA outer s H args us vs Q E hr e0 hb r hsp=>?_⟩
 have hl:=len _ _ _ _ hsp
 have KX:K.In s.heap:=e0.mod.kin.keeps λb o e=>(e0.bs b o e).1
 have lim:s.heap.NoLimit:=e0.mod.nolimit.keeps λb o e=>(e0.bs b o e).1
 refine codeAny_call_function hr.depth (KX _ _ lk) rfl S.co S.gen rfl (PySem.W.codeRec_of KX hcd) (hb _ _ _ _ ?_)
 refine wpAny_newFunctionEnv_cells S.kind (λ⟨y,v⟩ hy=>?_) λenv he s1 z=>?_
 ·exact (S.par y (List.of_mem_zip hy).1).imp id λq=>⟨q,PySem.W.cellsFrom_some _ _ _ (.inl q)⟩
 subst he
 refine ⟨lim.keeps z.toInCall.keep,codeAny_func ?_⟩
 obtain ⟨t,ht,hq⟩:=hbody A outer s H vs Q E (hr.deeper _) hsp
 refine wpAny_mono (ht [] s1 (start N vs) H _ (Juy S hr.hd e0 hl r z) hq) (λfl s' hs=>?_) λe s' hs=>hs
 cases fl with
 |ret u=>
  obtain ⟨v,H',⟨a1,a2,a3,a4⟩,rv,q⟩:=hs
  exact ⟨v,H',a1,a2,a3,a4,rv,q⟩
 |next=>
  obtain ⟨σ',H',⟨a1,a2,a3,a4⟩,q⟩:=hs
  exact ⟨.non,H',a1,a2,a3,a4,rfl,q⟩
 |brk=>
  obtain ⟨_,_,_,q⟩:=hs
  exact False.elim q
 |cont=>
  obtain ⟨_,_,_,q⟩:=hs
  exact False.elim q
theorem Jn5:∀(ns:List (Str×NameKind)) (n:Nat) (acc:List (Str×S5)),cellsFrom n ns acc=cellsFrom n ns []++acc
 | [],_,_=>rfl
 | (x,k) :: r,n,acc=>by
  unfold cellsFrom
  split
  ·rw [Jn5 r (n+1) ((x,n)::acc),Jn5 r (n+1) [(x,n)],List.append_assoc]
   rfl
  ·exact Jn5 r n acc
theorem Jof {x:Str} {b:S5}:∀(ns:List (Str×NameKind)) (n:Nat) (acc:List (Str×S5)),(cellsFrom n ns acc).lookup x=some b->acc.lookup x=none->(x,NameKind.cell)∈ns
 | [],_,_,e,m=>by unfold cellsFrom at e;rw [m] at e;cases e
 | (y,k) :: r,n,acc,e,m=>by
  unfold cellsFrom at e
  split at e
  ·rename_i hk
   have hk':k= .cell:=by simpa using hk
   subst hk'
   by_cases hx:x=y
   ·subst hx;exact yar
   ·refine yaq _ (Jof r _ _ e ?_)
    rw [yba,beq_eq_false_iff_ne.mpr hx]
    exact m
  ·exact yaq _ (Jof r _ _ e m)
theorem Jn3 {α β:Type} [BEq α] {x:α}:∀(l m:List (α×β)),(l++m).lookup x=(l.lookup x).or (m.lookup x)
 | [],_=>rfl
 | (y,v) :: r,m=>by
  rw [List.cons_append,yba,yba]
  split
  ·rfl
  ·exact Jn3 r m
section
variable {M:Model} {A:Se} {E:S6->S7->Prop} {s₀ s:S7} {m cm:Str->Option S6} {env:Env} {cs:List (Str×S5)}
theorem Jy5 (f:Str×S6->PUnit->Sem (ForInStep PUnit)) (hf:∀n v u,f (n,v) u=(do storeName env n v;pure (.yield ⟨⟩))) (hk:env.scope.kind= .function) (sub:∀n c,cs.lookup n=some c->env.cells.lookup n=some c):
  ∀(bs:List (Str×S6)) (m cm:Str->Option S6) (s:S7) (Q:PUnit->S7->Prop),InCallC s₀ env.locals m cs cm s->(∀x∈bs,env.kindOf x.1=some .local\/(env.kindOf x.1=some .cell/\(cs.lookup x.1).isSome=true))->
   (∀s',InCallC s₀ env.locals (bindL env.kindOf bs m) cs (bindC env.kindOf bs cm) s'->Q ⟨⟩ s')->Sh M A (forIn bs ⟨⟩ f) Q E s
 | [],m,cm,s,Q,x,_,h=>by rw [List.forIn_nil];exact S9 (h s x)
 | (n,v) :: r,m,cm,s,Q,x,hb,h=>by
  rw [yck,hf]
  have hr:=λy hy=>hb y (yaq (n,v) hy)
  obtain ⟨h0,t0,e0⟩:=x.toInCall.same
  rcases hb (n,v) yar with hl|⟨hl,hc⟩
  ·refine S8 (S8 (wpAny_storeName_local hl x.toInCall.ns (λh' hn hs=>S9 (Jy5 f hf hk sub r (λy=>if y=n then some v else m y) cm _ Q ⟨⟨?_,hn,λb o z=>?_,x.toInCall.fresh⟩,λk c z=>?_,x.apart,x.above⟩ hr λs'' x''=>h s'' ?_)) (by rw [hk];rfl)))
   ·rw [e0];exact ⟨h',_,rfl⟩
   ·exact hs.extBut b o (yr (yao (yk z) x.toInCall.fresh)) (x.toInCall.keep b o z)
   ·exact (x.cell k c z).sameBut hs (yax (x.above k c (mem_of_lookup z)))
   ·unfold bindL bindC;rw [if_pos hl,if_pos hl];exact x''
  ·obtain ⟨c,hc⟩:=ycb.mp hc
   have hnl:¬env.kindOf n=some .local:=by rw [hl];decide
   have hL:=x.above n c (mem_of_lookup hc)
   refine S8 (S8 (wpAny_storeName_cell hk hl (sub n c hc) (x.cell n c hc) λh' hn hs=>S9 (Jy5 f hf hk sub r m (λy=>if y=n then some v else cm y) _ Q ⟨⟨?_,x.toInCall.ns.sameBut hs (yr hL),λb o z=>?_,x.toInCall.fresh⟩,λk c' z=>?_,x.apart,x.above⟩ hr λs'' x''=>h s'' ?_)))
   ·rw [e0];exact ⟨h',_,rfl⟩
   ·exact hs.extBut b o (yr (ybu (yao (yk z) x.toInCall.fresh) hL)) (x.toInCall.keep b o z)
   ·by_cases w':k=n
    ·subst w'
     rw [hc] at z;cases z
     simpa using hn
    ·rw [if_neg w']
     exact (x.cell k c' z).sameBut hs λe=>w' (name_of_addr x.apart (mem_of_lookup z) (e▸mem_of_lookup hc))
   ·unfold bindL bindC;rw [if_neg hnl,if_neg hnl];exact x''
theorem Ydo {scope:Scope} {globals:S5} {clos:List (Str×S5)} {bs:List (Str×S6)} {qual:Str} {func:Option S5} {code:S6} {builtins:S5} {Q:Env->S7->Prop} (hk:scope.kind= .function)
  (hb:∀x∈bs,scope.names.lookup x.1=some .local\/(scope.names.lookup x.1=some .cell/\((cellsFrom (s.heap.objs.size+1) scope.names []).lookup x.1).isSome=true))
  (hQ:∀env,env=newEnv scope s.heap.objs.size globals (cellsFrom (s.heap.objs.size+1) scope.names []++clos) qual func code none builtins->
   ∀s',InCallC s env.locals (bindL env.kindOf bs λ_=>none) (cellsFrom (s.heap.objs.size+1) scope.names []) (bindC env.kindOf bs λ_=>none) s'->Q env s'):
  Sh M A (newFunctionEnv scope globals clos bs qual func code none builtins) Q E s:=by
 simp only [newFunctionEnv,Option.isSome_none,Bool.false_eq_true,if_false]
 refine S8 (wpAny_alloc (S8 (wpAny_layCells _ (λn kd cl=>by cases h:kd==NameKind.cell <;> simp [h]) _ _ _ _ ?_)))
 have z:({s with heap:=s.heap.push {cls:=.type "frame",data:=.dict #[]}}:S7).heap.objs.size=s.heap.objs.size+1:=yaf ..
 rw [z,Jn5]
 have ok:=cellsFrom_ok scope.names (s.heap.push {cls:=.type "frame",data:=.dict #[]}) (s.heap.objs.size+1) [] ⟨λ_ _ hm=>(nomatch hm),.nil⟩ (yca z.symm)
 rw [show (s.heap.push {cls:=.type "frame",data:=.dict #[]}).objs.size=s.heap.objs.size+1 from yaf ..] at ok
 refine S8 (Jy5 (s₀:=s) (cs:=cellsFrom (s.heap.objs.size+1) scope.names []) (env:=newEnv scope s.heap.objs.size globals (cellsFrom (s.heap.objs.size+1) scope.names []++clos) qual func code none builtins) _ (λ_ _ _=>rfl) hk (λn c e=>?_) bs (λ_=>none) (λ_=>none) _ _ ?_ hb λs' x=>S9 (hQ _ rfl s' x))
 ·show (cellsFrom (s.heap.objs.size+1) scope.names []++clos).lookup n=some c
  rw [Jn3,e];rfl
 ·exact ⟨⟨⟨_,_,rfl⟩,(Heap.Ns.new s.heap (.type "frame")).keeps (pushCells_keeps _ _),λb o e=>pushCells_keeps _ _ b o (yj _ e),yg _⟩,λn c hc=>(ok.empty n c (mem_of_lookup hc)).1,ok.apart,λn c hm=>(ok.empty n c hm).2⟩
end
structure Jou (N ps fr:List Str) (sc:Scope):Prop where
 kind:sc.kind= .function
 co:sc.isCoroutine=false
 gen:sc.isGenerator=false
 nd:N.Nodup
 pre:N.take (ps.length+fr.length)=ps++fr
 par:∀x∈ps,sc.names.lookup x=some .local\/sc.names.lookup x=some .cell
 frs:∀x∈fr,sc.names.lookup x=some .free
 nof:∀y∈sc.names,y.2= .cell->sc.names.lookup y.1=some .cell
def Jx0 (CX:CXT) (P:Sb) (w:Sd) (K:Si) (mg:Str->Option S6) (base:Sg) (N:List Str) (qual:Str) (scope:Scope) (clos:List (Str×S5)) (f:S5) (cd:S6) (A:Se) (outer:List Env) (s:S7) (H:Hp) (E:XK):Cx where
 prog:=P
 w:=w
 K:=K
 mg:=mg
 base:=base
 A:=A.deeper (PySem.W.envX qual scope s.heap.objs.size f cd (cellsFrom (s.heap.objs.size+1) scope.names []++clos))
 N:=N
 s₀:=s
 H₀:=H
 env:=PySem.W.envX qual scope s.heap.objs.size f cd (cellsFrom (s.heap.objs.size+1) scope.names []++clos)
 outer:=outer
 stack:=PySem.W.envX qual scope s.heap.objs.size f cd (cellsFrom (s.heap.objs.size+1) scope.names []++clos)::outer
 ex:=[]
 calm:=true
 fn:=λx=>decide (scope.names.lookup x=some .cell)
 pn:=[]
 xe:=λe s'=>Sh (model P w) (A.deeper (PySem.W.envX qual scope s.heap.objs.size f cd (cellsFrom (s.heap.objs.size+1) scope.names []++clos))) (leaving (PySem.W.envX qual scope s.heap.objs.size f cd (cellsFrom (s.heap.objs.size+1) scope.names []++clos)) e) (λ_ s''=>CX outer H s E e s'') (λe' s''=>CX outer H s E e' s'') s'
theorem Ya0 {N:List Str} {vs:List V} {i:Nat} {v:V} (h:(start N vs)[i]?=some (some v)):vs[i]?=some v:=by
 unfold start at h
 by_cases hi:i < vs.length
 ·rw [ycd (by simpa using hi),ym] at h
  cases e:vs[i]? with
  |none=>rw [e] at h;cases h
  |some a=>rw [e] at h;cases h;rfl
 ·rw [ycc (by simpa using hi),ycw] at h
  split at h <;> cases h
theorem Jya {CX:CXT} {P:Sb} {w:Sd} {K:Si} {mg:Str->Option S6} {base:Sg} {N ps fr:List Str} {qual:Str} {scope:Scope} {clos:List (Str×S5)} {f:S5} {cd:S6} {A:Se} {outer:List Env} {s s1:S7} {H:Hp} {E:XK} {us:List S6} {vs cs:List V}
  (S:Jou N ps fr scope) (hd:A.handled=none) (e0:Seo P w K mg base A outer s H) (hl:vs.length=ps.length) (hlc:cs.length=fr.length) (r:Sa0 vs us)
  (inj:∀x y b,clos.lookup x=some b->clos.lookup y=some b->x=y) (has:∀y∈scope.names,y.2= .free->∃b,clos.lookup y.1=some b) (cel:∀x b,clos.lookup x=some b->∃v,Sbx H b v) (cap:∀x v,(x,v)∈fr.zip cs->∃b,clos.lookup x=some b/\Sbx H b v)
  (x:InCallC s s.heap.objs.size (bindL (PySem.W.envX qual scope s.heap.objs.size f cd (cellsFrom (s.heap.objs.size+1) scope.names []++clos)).kindOf (ps.zip us) λ_=>none) (cellsFrom (s.heap.objs.size+1) scope.names []) (bindC (PySem.W.envX qual scope s.heap.objs.size f cd (cellsFrom (s.heap.objs.size+1) scope.names []++clos)).kindOf (ps.zip us) λ_=>none) s1):
  Su (Jx0 CX P w K mg base N qual scope clos f cd A outer s H E) [] (start N (vs++cs)) H s1:=by
 have hpl:ps.length+fr.length<=N.length:=by have:=congrArg List.length S.pre;rw [yah,yai] at this;omega
 obtain ⟨h1,tk,rfl,hk⟩:=x.done
 have noA:∀b:S5,b∉(Jx0 CX P w K mg base N qual scope clos f cd A outer s H E).ex:=λb z=>absurd (show b∈([]:List S5) from z) (by simp)
 have cobj:∀b v,Sbx H b v->∃o u,H b=some (Sif o)/\s.heap.get? b=some o/\o.data= .cell (some u)/\Sa2 v u:=λb v ⟨o,u,q1,q2,q3⟩=>⟨o,u,q1,(e0.hok b _ q1).1,q2,q3⟩
 have two:∀y b,(cellsFrom (s.heap.objs.size+1) scope.names []++clos).lookup y=some b->(cellsFrom (s.heap.objs.size+1) scope.names []).lookup y=some b\/((cellsFrom (s.heap.objs.size+1) scope.names []).lookup y=none/\clos.lookup y=some b):=λy b e=>by
  rw [Jn3] at e
  cases q:(cellsFrom (s.heap.objs.size+1) scope.names []).lookup y with
  |none=>rw [q] at e;exact .inr ⟨rfl,e⟩
  |some d=>rw [q] at e;exact .inl e
 have low:∀y b,clos.lookup y=some b->b < s.heap.objs.size:=λy b e=>by
  obtain ⟨v,q⟩:=cel y b e
  obtain ⟨o,u,_,q2,_⟩:=cobj b v q
  exact yk q2
 have high:∀y b,(cellsFrom (s.heap.objs.size+1) scope.names []).lookup y=some b->s.heap.objs.size < b:=λy b e=>x.above y b (PySem.mem_of_lookup e)
 refine ⟨⟨e0.mod,S.kind,rfl,rfl,yg _,λy z c h1 h2=>?_,λy hy=>?_,λy c hy h=>?_,λ_=>hd,Around.frames_deeper e0.frames,.inr ⟨rfl,rfl⟩,λb z=>absurd z (noA b),e0.bs,e0.bsz,λb _ _=>noA b,λb z=>absurd z (noA b),e0.funs,e0.frf⟩,
  rfl,e0.bare,Un.kept hk,⟨_,x.toInCall.ns,λi y v h1 h2 h3=>?_⟩,λy c h=>?_,e0.hok.fresh (yg _),λy c h=>?_,λp hp=>absurd (show p∈([]:List (S5×Obj)) from hp) (by simp),e0.hok.kept hk,?_⟩
 ·rcases two y c h1 with a|⟨_,a⟩
  ·rcases two z c h2 with b|⟨_,b⟩
   ·exact name_of_addr x.apart (PySem.mem_of_lookup a) (PySem.mem_of_lookup b)
   ·exact absurd (ybu (high y c a) (low z c b)) (ybe _)
  ·rcases two z c h2 with b|⟨_,b⟩
   ·exact absurd (ybu (high z c b) (low y c a)) (ybe _)
   ·exact inj y z c a b
 ·have hy:scope.names.lookup y=some .cell\/scope.names.lookup y=some .free:=hy
  show ∃c,(cellsFrom (s.heap.objs.size+1) scope.names []++clos).lookup y=some c
  rw [Jn3]
  cases q:(cellsFrom (s.heap.objs.size+1) scope.names []).lookup y with
  |some d=>exact ⟨d,rfl⟩
  |none=>
   rcases hy with hy|hy
   ·obtain ⟨c,e⟩:=Jo4 (n:=s.heap.objs.size+1) hy
    rw [q] at e;cases e
   ·exact has _ (PySem.mem_of_lookup hy) rfl
 ·rcases two y c h with a|⟨a,_⟩
  ·exact yap (high y c a)
  ·have hy':decide (scope.names.lookup y=some .cell)=true:=hy
   obtain ⟨c',e⟩:=Jo4 (n:=s.heap.objs.size+1) (of_decide_eq_true hy')
   rw [a] at e;cases e
 ·have ha:=Ya0 h2
  have h1:N[i]?=some y:=h1
  have hi:i < vs.length+cs.length:=by have:=(yq.mp ha).1;rw [yai] at this;exact this
  have hp:(ps++fr)[i]?=some y:=by rw [<-S.pre,List.getElem?_take_of_lt (by omega)];exact h1
  by_cases hv:i < vs.length
  ·rw [ycd hv] at ha
   rw [ycd (by omega)] at hp
   obtain ⟨u,hu,rv⟩:=r.get ha
   have ndP:ps.Nodup:=(List.nodup_append.mp (by rw [<-S.pre];exact S.nd.sublist (List.take_sublist _ _))).1
   refine ⟨u,rv,?_⟩
   rcases S.par y (yad hp) with k|k
   ·exact .inl ⟨k,Jrh ndP hp hu k⟩
   ·obtain ⟨c,e⟩:=Jo4 (n:=s.heap.objs.size+1) k
    refine .inr ⟨.inl k,c,?_,?_⟩
    ·show (cellsFrom (s.heap.objs.size+1) scope.names []++clos).lookup y=some c
     rw [Jn3,e];rfl
    ·have q:=x.cell y c e
     rw [Jrg ndP hp hu (by show scope.names.lookup y≠_;rw [k];decide)] at q
     exact q
  ·rw [ycc (by omega)] at ha
   rw [ycc (by omega)] at hp
   obtain ⟨b,e1,e2⟩:=cap y v (yad (i:=i - vs.length) (by rw [ycx];exact ⟨by rw [hl];exact hp,ha⟩))
   have kf:=S.frs y (yad hp)
   obtain ⟨o,u,_,q2,q3,q4⟩:=cobj b v e2
   refine ⟨u,q4,.inr ⟨.inr kf,b,?_,o,hk _ _ q2,q3⟩⟩
   show (cellsFrom (s.heap.objs.size+1) scope.names []++clos).lookup y=some b
   rw [Jn3]
   cases q:(cellsFrom (s.heap.objs.size+1) scope.names []).lookup y with
   |none=>exact e1
   |some d=>
    have:=S.nof _ (Jof scope.names _ [] q rfl) rfl
    rw [kf] at this;cases this
 ·rcases two y c h with a|⟨_,a⟩
  ·exact ⟨_,x.cell y c a⟩
  ·obtain ⟨v,q⟩:=cel y c a
   obtain ⟨o,u,_,q2,q3,_⟩:=cobj c v q
   exact ⟨_,o,hk _ _ q2,q3⟩
 ·rcases two y c h with a|⟨a1,a⟩
  ·exact .inl (e0.hok.fresh (yap (high y c a)))
  ·obtain ⟨v,q⟩:=cel y c a
   obtain ⟨o,u,q1,_⟩:=cobj c v q
   refine .inr ⟨decide_eq_false λz=>?_,o,q1⟩
   obtain ⟨c',e⟩:=Jo4 (n:=s.heap.objs.size+1) z
   rw [a1] at e;cases e
 ·unfold start
  show _=N.length
  rw [yai,yf,ybv,yai]
  omega
structure Jrv (P:Sb) (w:Sd) (K:Si) (mg:Str->Option S6) (base:Sg) (CX:CXT) (k:Nat) (f:S5) (sp:Sp):Prop where
 isf:∀vs H Q E,sp vs H Q E->IsF H f
 run:∀(A:Se) (outer:List Env) (s:S7) (H:Hp) (us:List S6) (vs:List V) (Q:VK) (E:XK),Sal k A->Seo P w K mg base A outer s H->Sa0 vs us->sp vs H Q E->codeAny (model P w) A (.call (.ref f) ⟨us,[]⟩) (CR CX outer P w H s Q E) s
def Jzs (name qual:Str) (st:Sf) (fr:List Str) (sp:List V->Sp) (f:S5):Sp:=λvs H Q E=>∃cs,Sdb H f name qual st (fr.zip cs)/\sp cs vs H Q E
theorem Yak {CX:CXT} {P:Sb} {w:Sd} {K:Si} {mg:Str->Option S6} {base:Sg} {k:Nat} {name qual:Str} {st:Sf} {N ps fr:List Str} {sp:List V->Sp} (S:Jou N ps fr (Jk9 st))
  (hb:∀(clos:List (Str×S5)) (doc pm:S6) (c:S5) (ct:S6) (us:List S6),us.length=ps.length->bindArgs (PySem.W.fnX name qual (Jld st) (Jl7 st) (Jk9 st) clos .none .none doc pm none (.ref c) ct) ⟨us,[]⟩=pure (ps.zip us))
  (len:∀cs vs H Q E,sp cs vs H Q E->vs.length=ps.length/\cs.length=fr.length)
  (hbody:∀(f c:S5) (clos:List (Str×S5)) (A:Se) (outer:List Env) (s:S7) (H:Hp) (vs cs:List V) (Q:VK) (E:XK),Sal k (A.deeper (PySem.W.envX qual (Jk9 st) s.heap.objs.size f (.ref c) (cellsFrom (s.heap.objs.size+1) (Jk9 st).names []++clos)))->sp cs vs H Q E->
   ∃t,PSs (Jx0 CX P w K mg base N qual (Jk9 st) clos f (.ref c) A outer s H E) (Jl7 st) t/\t {nx:=λ_ H'=>Q .non H',rt:=Q} (start N (vs++cs)) H) (f:S5):
  Jrv P w K mg base CX (k+1) f (Jzs name qual st fr sp f):=by
 refine ⟨λvs H Q E ⟨cs,h,_⟩=>h.isf,λA outer s H us vs Q E hr e0 r zq=>?_⟩
 obtain ⟨cs,⟨clos,c,h1,h2,h3,h4,h5,h6⟩,hsp⟩:=zq
 obtain ⟨hl,hlc⟩:=len _ _ _ _ _ hsp
 have hlu:us.length=ps.length:=by rw [<-r.length];exact hl
 have lim:s.heap.NoLimit:=e0.mod.nolimit.keeps λb o e=>(e0.bs b o e).1
 obtain ⟨⟨doc,pm,ct,ho⟩,_⟩:=e0.hok f _ h1
 refine codeAny_call_function hr.depth ho rfl S.co S.gen rfl (show s.heap.CodeRec (.ref c) qual from e0.hok c _ h2) ?_
 rw [hb clos doc pm c ct us hlu]
 refine S9 (Ydo S.kind (λ⟨y,v⟩ hy=>?_) λenv he s1 z=>?_)
 ·exact (S.par y (List.of_mem_zip hy).1).imp id λq=>⟨q,PySem.W.cellsFrom_some _ _ _ (.inl q)⟩
 subst he
 refine ⟨lim.keeps z.toInCall.keep,codeAny_func ?_⟩
 obtain ⟨t,ht,hq⟩:=hbody f c clos A outer s H vs cs Q E (hr.deeper _) hsp
 refine wpAny_mono (ht [] s1 (start N (vs++cs)) H _ (Jya S hr.hd e0 hl hlc r h3 h4 h5 h6 z) hq) (λfl s' hs=>?_) λe s' hs=>hs
 cases fl with
 |ret u=>
  obtain ⟨v,σ',H',J,rv,q⟩:=hs
  exact ⟨v,H',J.os,J.bare,J.base,J.hok,rv,q⟩
 |next=>
  obtain ⟨σ',H',J,q⟩:=hs
  exact ⟨.non,H',J.os,J.bare,J.base,J.hok,rfl,q⟩
 |brk=>
  obtain ⟨_,_,_,q⟩:=hs
  exact False.elim q
 |cont=>
  obtain ⟨_,_,_,q⟩:=hs
  exact False.elim q
theorem Yd8 {P:Sb} {w:Sd} {K:Si} {mg:Str->Option S6} {base:Sg} {N:List Str} {qual:Str} {scope:Scope} {clos:List (Str×S5)} {f:S5} {cd:S6} {A:Se} {outer:List Env} {s:S7} {H:Hp} {E:XK}:
  Jqr (Jx0 (CXX P w) P w K mg base N qual scope clos f cd A outer s H E) (λ_=>E):=by
 intro pins σ H1 s1 e C dx fr I q hfl hE
 show Sh _ _ (leaving _ _) _ _ _
 unfold leaving
 refine S8 (Jvz I ⟨rfl,rfl⟩ I.ok.frames q hfl λs2 I2 f2=>Jpg I2 Sv f2 λs3 I3 f3=>?_)
 obtain ⟨oe,vs,T,oT,ts,z1,z2,z3,z4,z5,z6,z7,z8,_⟩:=f3
 exact ⟨e,C,dx,_,rfl,I3.os,I3.bare,I3.base,I3.hok,Sv,⟨oe,vs,T,oT,ts,z1,z2,z3,z4,z5,z6,z7,z8⟩,hE⟩
def Jwo (i:Nat) (sp:S5->Sp) (R:St->XK) (t:TA):TE:=λσ H Q=>∃f,σ[i]?=some (some (.ref f))/\t σ H λvs H1=>sp f vs H1 Q (R σ)
section
variable {X:Cx} {CX:CXT} {k j i:Nat} {sp:S5->Sp} {x:Str} {p pos:Pos} {e:Expr} {es:List Expr} {t:TA} {R:St->XK}
theorem Jq1 (G:∀f,Jrv X.prog X.w X.K X.mg X.base CX k f (sp f)) (hr:Sal j X.A) (hk:k<=j) (hx:∀pins σ H s e s',Su X pins σ H s->CX X.stack H s (R σ) e s'->X.xe e s') (ha:PA X (e::es) t) (hN:X.N[i]?=some x) (hv:Vis X.env.scope x)
  (hd:(x==("__debug__" :Str))=false) (hcd:(x==("__classdict__" :Str))=false) (he:starEach (e::es) X.env=(false,eval e X.env)::starEach es X.env) (hpl:(backTo pos (starEach es X.env)).any (·.1)=false):
  PE X (.Call (.Name x p) (e::es) [] pos) (Jwo i sp R t):=by
 intro pins s σ H Q I h
 obtain ⟨f,hf,h⟩:=h
 refine wpAny_Call_Name_kw (thn (Ybo hN hv hd hcd pins s σ H (λv H'=>v= .ref f/\H'=H) I ⟨_,hf,rfl,rfl⟩) λu s1 zq=>?_)
 obtain ⟨v,H',I1,r,e1,e2⟩:=zq
 subst e1 e2
 cases r
 have hat:∀{s2:S7} {H2:Hp},Su X pins σ H2 s2->IsF H2 f->PySem.W.FnAt f s2.heap:=λJ ⟨name,qual,st,clos,c,z⟩=>by
  obtain ⟨⟨doc,pm,ct,q⟩,_⟩:=J.hok f _ z
  exact ⟨_,_,_,_,q⟩
 rw [he]
 refine PySem.W.callWith_of (P:=PySem.W.FnAt f) (by show ((false||(backTo pos (starEach es X.env)).any (·.1))||false)=false;rw [hpl];rfl) PySem.W.keeps_F (Calls.evalArgs_plain ?_)
 have ha':=ha pos pins s1 σ H' _ I1 h
 rw [he] at ha'
 refine thn ha' λus s2 ⟨vs,H2,I2,r2,q2⟩=>⟨hat I2 ((G f).isf _ _ _ _ q2),?_⟩
 refine wpAny_call (codeAny_mono ((G f).run X.A X.stack s2 H2 us vs Q (R σ) (hr.mono hk) I2.env0 r2 q2) λr s' hq=>?_)
 cases r with
 |error e=>exact hx pins σ H2 s2 e s' I2 hq
 |ok fl=>
  cases fl with
  |ret u=>exact I2.after hq
  |next=>exact False.elim hq
  |brk=>exact False.elim hq
  |cont=>exact False.elim hq
theorem Ybk (G:∀f,Jrv X.prog X.w X.K X.mg X.base CX0 k f (sp f)) (hr:Sal j X.A) (hk:k<=j) (i:Nat) (ha:PA X (e::es) t) (hN:X.N[i]?=some x:=by rfl) (hv:Vis X.env.scope x:=by first|exact ye rfl|exact yal (ye rfl)|exact yal (yal rfl))
  (hd:(x==("__debug__" :Str))=false:=by decide) (hcd:(x==("__classdict__" :Str))=false:=by decide) (he:starEach (e::es) X.env=(false,eval e X.env)::starEach es X.env:=by rfl) (hpl:(backTo pos (starEach es X.env)).any (·.1)=false:=by rfl):
  PE X (.Call (.Name x p) (e::es) [] pos) (Jwo i sp (λ_=>E0) t):=Jq1 G hr hk (λ_ _ _ _ _ _ _ z=>z.elim) ha hN hv hd hcd he hpl
theorem Yn (hw:Jqr X R) (G:∀f,Jrv X.prog X.w X.K X.mg X.base (CXX X.prog X.w) k f (sp f)) (hr:Sal j X.A) (hk:k<=j) (i:Nat) (ha:PA X (e::es) t) (hN:X.N[i]?=some x:=by rfl) (hv:Vis X.env.scope x:=by first|exact ye rfl|exact yal (ye rfl)|exact yal (yal rfl))
  (hd:(x==("__debug__" :Str))=false:=by decide) (hcd:(x==("__classdict__" :Str))=false:=by decide) (he:starEach (e::es) X.env=(false,eval e X.env)::starEach es X.env:=by rfl) (hpl:(backTo pos (starEach es X.env)).any (·.1)=false:=by rfl):
  PE X (.Call (.Name x p) (e::es) [] pos) (Jwo i sp R t):=Jq1 G hr hk (λ_ _ _ _ _ _ I z=>Jzx hw I z) ha hN hv hd hcd he hpl
end
theorem nst_mk {K:Si} {f c P:S5} {oc:S6} {od od':Option S5} {fd:Sc} {sl sl':Array (Option S6)} {vs:Array S6} (l:K.lookup f=some ⟨oc,od,.func fd,sl⟩) (e:fd.code= .ref c)
  (lc:K.lookup c=some ⟨.type "code",od', .fields vs,sl'⟩) (_:vs[11]?=some (.ref P)) (hb:Sl8 vs c P=true):Nst K f c P:=⟨⟨oc,od,fd,sl,l,e⟩,⟨od',vs,sl',lc,hb⟩⟩
theorem Jv3 {β:Type}:∀{l:List (S5×β)},(l.map (·.1)).Nodup->∀p∈l,l.lookup p.1=some p.2
 |q::r,h,p,hp=>by
  have h':(q.1::r.map (·.1)).Nodup:=h
  obtain ⟨h1,h2⟩:=yaz.mp h'
  rw [yba]
  rcases yn.mp hp with rfl|hp
  ·rw [beq_self_eq_true]
  ·have ne:(p.1==q.1)=false:=beq_eq_false_iff_ne.mpr λz=>h1 (by rw [<-z];exact List.mem_map_of_mem hp)
   rw [ne]
   exact Jv3 h2 p hp
theorem Jt5 {β:Type}:∀{l:List (S5×β)} {a:S5} {v:β},l.lookup a=some v->(a,v)∈l
 | (b,x) :: r,a,v,e=>by
  rw [yba] at e
  cases hb:a==b with
  |true=>rw [hb] at e;cases e;rw [eq_of_beq hb];exact .head _
  |false=>rw [hb] at e;exact .tail _ (Jt5 e)
theorem Yf {P:Sb} {w:Sd} {K:Si} {mg mb:Str->Option S6} {CX:CXT} {k:Nat} {fa a:S5} {fd:Sc} {x:Str} {sp:Sp} {s₁:S7} {vs:List S6} {ns:List Int} {tabs:List (S5×Array (Nat×Nat×Str))}
  (KX:K.In s₁.heap) (hns:s₁.heap.Ns mainGlobals mg) (hb:s₁.heap.Ns builtinsNs mb) (hbb:∀x:Str,x≠"__name__" ->mb x=bootBuiltins x) (hlim:s₁.heap.NoLimit) (hg:s₁.gens= #[])
  (ha:s₁.heap.get? a=some {cls:=.type "list",data:=.seq vs.toArray}) (hi:IntsAre vs ns) (hl:ns.length<=Sa) (hr:Sal k callerA)
  (hT:∀p∈tabs,isCodeTable s₁.heap p.1/\s₁.heap.get? p.1=some (PySem.W.tabObj #[])) (hnd:(tabs.map (·.1)).Nodup) (hK:PySem.W.noTabs K=true) (hbm:Bmn mg s₁.heap)
  (F:∀base:Sg,K.In base->base.Ns mainGlobals mg->Bmn mg base->Sx P w K mg base CX k fa fd [x] sp) (hbind:∀(s:S7) (u:S6),BindsTo s fd ⟨[u],[]⟩ [(x,u)])
  (hsp:∀H:Hp,(∀p∈tabs,H p.1=some (.tbl p.2))->Sw K H a (ns.map V.int)->sp [.ref a] H (λv _=>v= .bl true) λ_ _ _=>False)
  (hCX:∀H e s',CX [] H s₁ (λ_ _ _=>False) e s'->False):
  codeAny (model P w) callerA (.call (.ref fa) ⟨[.ref a],[]⟩) (λr s'=>r= .ok (.ret (.bool true))/\OldK s₁.heap s'.heap/\s'.os=s₁.os/\AllBare s'.gens) s₁:=by
 have rv:=Jvg hi
 have lenV:=hi.length
 let so:Obj:={cls:=.type "list",data:=.seq vs.toArray}
 let H:Hp:=λb=>if b=a/\K.lookup a=none then some (.frz so (.lst (ns.map V.int))) else (tabs.lookup b).map HO.tbl
 have three:∀b,H b=none\/(b=a/\K.lookup a=none/\H b=some (.frz so (.lst (ns.map V.int))))\/∃lb,(b,lb)∈tabs/\H b=some (.tbl lb):=λb=>by
  by_cases h:b=a/\K.lookup a=none
  ·exact .inr (.inl ⟨h.1,h.2,if_pos h⟩)
  ·have e:H b=(tabs.lookup b).map HO.tbl:=if_neg h
   cases q:tabs.lookup b with
   |none=>exact .inl (by rw [e,q];rfl)
   |some lb=>exact .inr (.inr ⟨lb,Jt5 q,by rw [e,q];rfl⟩)
 have hnon:∀b o,s₁.heap.get? b=some o->(∀xs n,o.data≠ .seq xs n)->(∀xs,o.data≠ .fields xs)->H b=none:=λb o e n1 n2=>by
  rcases three b with z|⟨rfl,_,_⟩|⟨lb,m,_⟩
  ·exact z
  ·rw [ha] at e;cases e;exact absurd rfl (n1 _ _)
  ·rw [(hT _ m).2] at e;cases e;exact absurd rfl (n2 _)
 have htb:∀p∈tabs,H p.1=some (.tbl p.2):=λp hp=>by
  have n:¬(p.1=a/\K.lookup a=none):=λz=>by
   have e:=(hT p hp).2
   rw [z.1,ha] at e;cases e
  show (if p.1=a/\K.lookup a=none then _ else _)=_
  rw [if_neg n,Jv3 hnd p hp]
  rfl
 have hok:HOk P w H s₁.heap:=λb u z=>by
  rcases three b with e|⟨rfl,_,e⟩|⟨lb,m,e⟩
  ·rw [e] at z;cases z
  ·rw [e] at z;cases z
   exact ⟨ha,by rw [yf];exact hl,vs,_,rv,ha⟩
  ·rw [e] at z;cases z
   exact ⟨#[],(hT _ m).2,True.intro⟩
 have hS:Sw K H a (ns.map V.int):=by
  cases hk:K.lookup a with
  |some o=>
   have e:=KX a o hk
   rw [ha] at e;cases e
   exact .inr ⟨_,vs.toArray,_,hk,rfl,rfl,rfl,by rw [yu,lenV];exact hl,by simpa using rv⟩
  |none=>exact .inl (.inr ⟨so,if_pos ⟨rfl,hk⟩⟩)
 have nsK:∀{b:S5} {m:Str->Option S6},s₁.heap.Ns b m->(Jvs s₁.heap H).Ns b m:=λ{b m} ⟨o,es,ep,e,d,r⟩=>⟨o,es,ep,Jsy e (hnon b o e (λxs n z=>by rw [d] at z;cases z) λxs z=>by rw [d] at z;cases z),d,r⟩
 have hKb:K.In (Jvs s₁.heap H):=λb o e=>Jsy (KX b o e) (by
  rcases three b with z|⟨rfl,z,_⟩|⟨lb,m,_⟩
  ·exact z
  ·rw [z] at e;cases e
  ·exfalso
   have q:=KX b o e
   rw [(hT _ m).2] at q
   cases q
   have h2:=yau.mp hK (b,_) (PySem.W.mem_of_lookupK e)
   exact absurd (show false=true from h2) yz)
 have hBb:Bmn mg (Jvs s₁.heap H):=by
  obtain ⟨bm,ob,b1,b2,b3,b4,b5,b6⟩:=hbm
  exact ⟨bm,ob,b1,b2,Jsy b3 (hnon bm ob b3 (λxs n z=>by rw [b6] at z;cases z) λxs z=>by rw [b6] at z;cases z),b4,b5,b6⟩
 have hM:Mod K mg (Jvs s₁.heap H):=⟨hKb,nsK hns,⟨mb,nsK hb,hbb⟩,let ⟨mc,h1,h2⟩:=hlim;⟨mc,nsK h1,h2⟩⟩
 have e0:Seo P w K mg (Jvs s₁.heap H) callerA [] s₁ H:=⟨rfl,hM,λb o e=>Yds e,yca (Y7 _ _),trivial,λb hb=>absurd (show b∈([]:List S5) from hb) (by simp),hok,.of_eq hg⟩
 refine codeAny_mono ((F _ hKb (nsK hns) hBb).run callerA [] s₁ H ⟨[.ref a],[]⟩ [.ref a] [.ref a] _ _ hr e0 (hbind s₁ (.ref a)) (.cons rfl .nil) (hsp H htb hS)) λr s' h=>?_
 cases r with
 |error e=>exact (hCX H e s' h).elim
 |ok fl=>
  cases fl with
  |next=>exact False.elim h
  |brk=>exact False.elim h
  |cont=>exact False.elim h
  |ret u=>
   obtain ⟨v,H',os,bare,un,hok',r',q⟩:=h
   have q':v= .bl true:=q
   subst q'
   obtain rfl:u=Value.bool true:=r'
   have all:∀b o,s₁.heap.get? b=some o->s'.heap.get? b=some o\/(isCodeTable s₁.heap b/\o=PySem.W.tabObj #[]/\∃ts,s'.heap.get? b=some (PySem.W.tabObj ts)):=λb o e=>by
    rcases three b with z|⟨rfl,_,z⟩|⟨lb,m,z⟩
    ·exact .inl (un.keep b o e z (by intro y;exact absurd (show b∈([]:List S5) from y) (by simp)) (by simp))
    ·obtain ⟨e2,_⟩:=hok' _ _ (un.frzs _ _ _ z)
     rw [ha] at e;cases e
     exact .inl e2
    ·obtain ⟨more,z2⟩:=un.tbls b lb z
     obtain ⟨ts,e2,_⟩:=hok' b _ z2
     have e3:=(hT _ m).2
     rw [e] at e3;cases e3
     exact .inr ⟨(hT _ m).1,rfl,ts,e2⟩
   refine ⟨rfl,⟨λb o e=>?_,λb o e=>?_⟩,os,bare⟩
   ·rcases all b o e with z|⟨t,rfl,ts,z⟩
    ·exact .inl z
    ·exact .inr (.inl ⟨t,rfl,#[],ts,rfl,by rw [Array.empty_append];exact z⟩)
   ·rcases all b o e with z|⟨t,rfl,ts,z⟩
    ·exact ⟨o,z⟩
    ·exact ⟨_,z⟩
def Yac (q:Sb) (K:Si) (h:Sg):Prop:=∀(y:Str) (d:DefRec) (c P:S5),(recsOf q).find? (λe=>e.name==y)=some d->PySem.W.tabIn K y=some (c,P)->PySem.W.CodeHd h c P/\h.get? P=some (PySem.W.tabObj #[])
theorem walk_ofT {l:PySem.W.OpenLaw} {n k:Nat} {q:Sb} {loose:List Str} {XP:(Str->Option S6)->Sg->Prop} {YP:Sd->Sg->Prop} {d:DefRec} {K:Params->Si} {CX:CXT} {x:Str}
  (hn:l.most=some n) (hn2:n<=Sa) (hdf:d.params.defaults= []) (hr:Sal k callerA) (hY:∀(w:Sd) (h:Sg),YP w h->(K w.params).In h) (hK:∀w:Sd,PySem.W.noTabs (K w.params)=true)
  (F:∀(w:Sd) (mg:Str->Option S6) (fa:S5) (h:Sg),(K w.params).In h->h.Ns mainGlobals mg->Yac q (K w.params) h->mg d.name=some (.ref fa)->
   ∃(fd:Sc) (sp:Sp) (tabs:List (S5×Array (Nat×Nat×Str))),(∀(s:S7) (u:S6),BindsTo s fd ⟨[u],[]⟩ [(x,u)])/\(∀p∈tabs,isCodeTable h p.1/\h.get? p.1=some (PySem.W.tabObj #[]))/\(tabs.map (·.1)).Nodup/\
    (∀base:Sg,(K w.params).In base->base.Ns mainGlobals mg->Bmn mg base->Sx l.prog w (K w.params) mg base CX k fa fd [x] sp)/\
    ∀(H:Hp) (a:S5) (ns:List Int),ns.length<=n->(∀p∈tabs,H p.1=some (.tbl p.2))->Sw (K w.params) H a (ns.map V.int)->sp [.ref a] H (λv _=>v= .bl true) λ_ _ _=>False)
  (hCX:∀(H:Hp) (s:S7) (e:S6) (s':S7),CX [] H s (λ_ _ _=>False) e s'->False):
  PySem.W.WalkO q loose XP YP l.row.toRowW d [] (λf vs=>PySem.call f vs):=by
 refine Att.attach_call hn hdf λw s₀ s₁ mg mb fa o pm cd doc a vs ns G Y ho hd hcd hmg hobj hints hlen hg=>?_
 have KX:=hY w _ Y
 obtain ⟨fd,sp,tabs,hb,hT,hnd,hF,hsp⟩:=F w mg fa _ KX G.T.g (λy d c P e1 e2=>PySem.W.tab_of G.T KX e1 e2) hmg
 exact Yf KX G.T.g G.T.b G.T.builtins G.T.nolimit hg hobj hints (yab hlen hn2) hr hT hnd (hK w) G.T.bmain hF hb (λH h1 h2=>hsp H a ns hlen h1 h2) λH e s'=>hCX H s₁ e s'
theorem tab_kn {q:Sb} {K:Si} {h:Sg} {c P:S5} {y:Str} {d:DefRec} (T:Yac q K h) (e1:(recsOf q).find? (λe=>e.name==y)=some d) (e2:PySem.W.tabIn K y=some (c,P)):isCodeTable h P/\h.get? P=some (PySem.W.tabObj #[]):=
 let ⟨a,b⟩:=T y d c P e1 e2
 ⟨(a.tab b).isCodeTable,b⟩
end L2
namespace L2
open PySem PySem.Spec PyProof.Rows PySem.W
theorem Ydd {P:Sb} {w:Sd} {K:Si} {mg:Str->Option S6} {base:Sg} {k:Nat} {name qual:Str} {st:Sf} {N ps fr:List Str} {sp:List V->Sp} (S:Jou N ps fr (Jk9 st))
  (hb:∀(clos:List (Str×S5)) (doc pm:S6) (c:S5) (ct:S6) (us:List S6),us.length=ps.length->bindArgs (PySem.W.fnX name qual (Jld st) (Jl7 st) (Jk9 st) clos .none .none doc pm none (.ref c) ct) ⟨us,[]⟩=pure (ps.zip us))
  (len:∀cs vs H Q E,sp cs vs H Q E->vs.length=ps.length/\cs.length=fr.length)
  (hbody:∀(f c:S5) (clos:List (Str×S5)) (A:Se) (outer:List Env) (s:S7) (H:Hp) (vs cs:List V) (Q:VK) (E:XK),Sal k (A.deeper (PySem.W.envX qual (Jk9 st) s.heap.objs.size f (.ref c) (cellsFrom (s.heap.objs.size+1) (Jk9 st).names []++clos)))->sp cs vs H Q E->
   ∃t,PSs (Jx0 CX0 P w K mg base N qual (Jk9 st) clos f (.ref c) A outer s H E).nox (Jl7 st) t/\t {nx:=λ_ H'=>Q .non H',rt:=Q} (start N (vs++cs)) H) (f:S5):Jrv P w K mg base CX0 (k+1) f (Jzs name qual st fr sp f):=
 Yak S hb len (λf c clos A outer s H vs cs Q E hr h=>let ⟨t,h1,h2⟩:=hbody f c clos A outer s H vs cs Q E hr h;⟨t,h1.nox,h2⟩) f
theorem Yb9 {l c:Nat} {q:Str}:(l,c,q)∈ #[(l,c,q)]:=by simp
theorem Jzo {l c:Nat} {q q':Str} (h:(l,c,q')∈ #[(l,c,q)]):q'=q:=by simpa using h
def nst (s:Sf) (j:Nat):Sf:=(Jl7 s).getD j (.Pass ⟨0,0,0,0⟩)
theorem KV.get {kvs:List (Key×V)} {vs:List (Key×S6)} (r:KV kvs vs):∀{i:Nat} {k:Key} {x:V},kvs[i]?=some (k,x)->∃u,vs[i]?=some (k,u)/\Sa2 x u:=by
 induction r with
 |nil=>intro i k x h;simp at h
 | @cons a b l1 l2 h t ih=>
  intro i k x e
  cases i with
  |zero=>
   obtain rfl:a=(k,x):=by simpa using e
   obtain ⟨k',u⟩:=b
   obtain ⟨e1,e2⟩:=h
   cases e1
   exact ⟨u,rfl,e2⟩
  |succ j=>exact ih (by simpa using e)
theorem Ybx {P:Sb} {w:Sd} {k:Key} {u:S6} (h:(Jkj P w).is k u=true):Sa2 (kV k) u:=by
 rw [Jyi] at h
 cases k with
 |inl i=>
  cases u <;> simp [Jrx,Value.isInt] at h
  subst h
  exact ⟨_,rfl⟩
 |inr x=>
  obtain ⟨t,e⟩:=Value.isStrOf_shape (x:=x) (v:=u) h
  exact ⟨t,e⟩
section
variable {X:Cx} {pins:List (S5×Obj)} {σ:St} {H:Hp} {s:S7}
theorem Su.frz {a:S5} {o:Obj} {kvs:List (Key×V)} (I:Su X pins σ H s) (e:H a=some (.dK kvs)) (ho:s.heap.get? a=some o):Su X pins σ (upd H a (.frz o (.dK kvs))) s:=by
 have mu:Mut (H a):=by rw [e];trivial
 exact I.un (t':=s.toks) (Un.write mu (.inl rfl) (λb u _ q=>q) ⟨o,ho⟩) (HOk.write I.hok mu (.inl rfl) (λb u _ q=>q) ⟨o,ho⟩ ⟨ho,I.hok a _ e⟩)
theorem Juu {a:S5} {o:Obj} {kvs:List (Key×V)} (I:Su X pins σ H s) (ea:H a=some (.frz o (.dK kvs))):
  kvs.length<=Sa/\(a==sysModules)=false/\∃vs es ep,KV kvs vs/\o.data= .dict es ep/\s.heap.DictAt (Jkj X.prog X.w) a vs ep:=by
 obtain ⟨e1,z,hd,vs,rel,o',es,ep,e2,x,d,r⟩:=(show Sa7 X.prog X.w H s.heap a (.frz o (.dK kvs)) from I.hok a _ ea)
 rw [e1] at e2;cases e2
 exact ⟨z,hd,vs,es,ep,rel,d,o,es,e1,x,d,r⟩
end
def Itv (a:S5) (o:Obj) (kvs:List (Key×V)):It:=
 ⟨λi H=>H a=some (.frz o (.dK kvs))/\i < kvs.length,λi H x H'=>H'=H/\∃k,kvs[i]?=some (k,x),λi H=>H a=some (.frz o (.dK kvs))/\kvs.length<=i⟩
def VSt (it a:S5) (o:Obj) (n i:Nat) (h:Sg):Prop:=∃es ep,o.data= .dict es ep/\h.IsValIter it a i n ep
theorem Ya4 {P:Sb} {w:Sd} {K:Si} {tg:Expr} (a it:S5) (o:Obj) (kvs:List (Key×V)):Jre P w K tg (Itv a o kvs) [it] it (VSt it a o kvs.length) where
 mem:=by simp
 obj:=λi h st b hb=>by
  have e:b=it:=by simpa using hb
  subst e
  obtain ⟨es,ep,_,o',e,c,d⟩:=st
  exact ⟨o',e,λv z=>by rw [d] at z;cases z⟩
 keep:=λi h h' st k=>by
  obtain ⟨es,ep,q,o',e,c,d⟩:=st
  exact ⟨es,ep,q,o',k it (by simp) o' e,c,d⟩
 item:=by
  intro X hP hw hK hc i pins s σ H E I hf st hg
  subst hP hw hK
  obtain ⟨ea,hi⟩:=hg
  obtain ⟨es,ep,ed,st⟩:=st
  obtain ⟨_,_,vs,es',ep',rel,ed',da⟩:=Juu I ea
  rw [ed] at ed';cases ed'
  have hl:=rel.length
  have hx:kvs[i]?=some (kvs[i].1,kvs[i].2):=by simp [hi]
  obtain ⟨u,hu,ru⟩:=rel.get hx
  obtain ⟨f0,f1,f2,f3,f4,f5⟩:=hf it (by simp)
  rw [hl] at st
  refine wpAny_pyNext_values_item st da hu λh' st' sb=>?_
  have I1:Su X pins σ H {s with heap:=h'}:=I.turned (t':=s.toks) (λb o hb e=>(sb.2 b hb).trans e) f0 f1 f3 f4 f5
  obtain ⟨o',e,c,d⟩:=id st'
  exact ⟨u,rfl,Jx3 (s:={s with heap:=h'}) e c d (by decide) ⟨_,H,I1,ru,⟨rfl,_,hx⟩,⟨es,ep,ed,by rw [hl];exact st'⟩,λb hb=>(hf b hb).1⟩⟩
 done:=by
  intro X hP hw hK hc i pins s σ H E I hf st hg
  subst hP hw hK
  obtain ⟨ea,hi⟩:=hg
  obtain ⟨es,ep,ed,st⟩:=st
  obtain ⟨_,_,vs,es',ep',rel,ed',da⟩:=Juu I ea
  rw [ed] at ed';cases ed'
  have hl:=rel.length
  obtain ⟨f0,f1,f2,f3,f4,f5⟩:=hf it (by simp)
  rw [hl] at st
  exact wpAny_pyNext_values_end (I.ok.hd hc) st da (by simp;omega) λh' eb=>⟨rfl,I.turned (t':=s.toks) (λb o hb e=>eb b o hb e) f0 f1 f3 f4 f5⟩
 self:=λ_ _ _ _ _ st h=>let ⟨_,_,_,q⟩:=st;wpAny_pyIter_valiter q h
def Sp3 (td:TE):TI:=λσ H R=>td σ H λx H1=>∃a o kvs,x= .ref a/\H1 a=some (.frz o (.dK kvs))/\R (Itv a o kvs) H1
theorem Ydu {X:Cx} {tg o:Expr} {td:TE} {apos cpos:Pos} (ho:PE X o td) (hbase:attributeBase o "values" X.env (eval o X.env)=eval o X.env:=by rfl) (hline:(apos.endLine==cpos.line)=true:=by rfl):
  PI X tg (.Call (.Attribute o "values" apos) [] [] cpos) (Sp3 td):=by
 intro pins s σ H R I h
 refine wpAny_Call_method0_late hbase hline (thn (ho pins s σ H _ I h) λv s1 zq=>?_)
 obtain ⟨x,H1,I1,r1,q1⟩:=zq
 obtain ⟨a,ob,kvs,rfl,ea,q⟩:=q1
 obtain rfl:v=Value.ref a:=r1
 obtain ⟨t1,t2,_⟩:=Yb8 I1 (.inl ⟨kvs,.inr ⟨ob,ea⟩⟩)
 refine ⟨"dict","dict.values",PySem.F.plainAttrs_dict,PySem.F.slot_dict_values,PySem.F.type_dict_values,t1,t2,Calls.callWith_builtin rfl (PySem.evalArgs_none ?_)⟩
 obtain ⟨z,hd,vs,es,ep,rel,ed,da⟩:=Juu I1 ea
 refine call_meetsIn PySem.F.slot_dict_values da.dictOf.typeIs PySem.F.entry_dict_values (PySem.F.args_dict_values_1 _) (meets_dict_values (Jkj X.prog X.w) a hd) ⟨⟨vs,da.dictOf⟩,?_⟩
 refine wpAny_pyIter_values (knd:=Jkj X.prog X.w) (d:=a) (kvs:=vs) (ep:=ep) ⟨_,yo _ rfl,rfl,rfl⟩ (da.keep λb o e=>yj _ e) ?_
 refine ⟨_,[_],_,_,H1,rfl,I1.kept (t':=s1.toks) λb o e=>yj _ (yj _ e),Ya4 a _ ob kvs,⟨es,ep,ed,_,yo _ rfl,rfl,by rw [rel.length];rfl⟩,λb hb=>?_,q⟩
 have le:s1.heap.objs.size<=b:=by
  rw [ybd.mp hb]
  simp [Heap.push]
 exact I1.fpOk le (I1.hok.fresh le)
def Iti (a:S5) (o:Obj) (kvs:List (Key×V)):It:=
 ⟨λi H=>H a=some (.frz o (.dK kvs))/\i < kvs.length,λi H x H'=>∃T k u,H T=none/\x= .ref T/\kvs[i]?=some (k,u)/\H'=upd H T (.tup [kV k,u]),λi H=>H a=some (.frz o (.dK kvs))/\kvs.length<=i⟩
def ISt (it a:S5) (o:Obj) (n i:Nat) (h:Sg):Prop:=∃es ep,o.data= .dict es ep/\∃ok ov,IsItemIter h it a i n ep ok ov
theorem Jz5 {P:Sb} {w:Sd} {K:Si} {elts:List Expr} {kt:Nat} {pt:Pos} (a it:S5) (o:Obj) (kvs:List (Key×V)):Jre P w K (.Tuple elts kt pt) (Iti a o kvs) [it] it (ISt it a o kvs.length) where
 mem:=by simp
 obj:=λi h st b hb=>by
  have e:b=it:=by simpa using hb
  subst e
  obtain ⟨es,ep,_,ok,ov,e⟩:=st
  exact ⟨_,e,λv z=>by cases z⟩
 keep:=λi h h' st k=>by
  obtain ⟨es,ep,q,ok,ov,e⟩:=st
  exact ⟨es,ep,q,ok,ov,k it (by simp) _ e⟩
 item:=by
  intro X hP hw hK hc i pins s σ H E I hf st hg
  subst hP hw hK
  obtain ⟨ea,hi⟩:=hg
  obtain ⟨es,ep,ed,ok,ov,st⟩:=st
  obtain ⟨_,_,vs,es',ep',rel,ed',da⟩:=Juu I ea
  rw [ed] at ed';cases ed'
  have hl:=rel.length
  have hx:kvs[i]?=some (kvs[i].1,kvs[i].2):=by simp [hi]
  obtain ⟨u,hu,ru⟩:=rel.get hx
  rw [hl] at st
  refine wpAny_pyNext_items_item st da hu λkey h' hk st' tT sz kk=>?_
  refine ⟨_,rfl,wpAny_letOwnedTupleGo_items (s:={s with heap:=h'}) st' λh'' st'' sb=>?_⟩
  have ne:s.heap.objs.size≠it:=λw'=>absurd (yk st) (by rw [<-w'];exact ybe _)
  have tT2:h''.get? s.heap.objs.size=some {cls:=.type "tuple",data:=.seq #[key,u]}:=(sb.2 _ ne).trans tT
  refine ⟨.ref s.heap.objs.size,upd H s.heap.objs.size (.tup [kV kvs[i].1,kvs[i].2]),I.turnTup (ch:=[it]) (t':=s.toks) hf (λc o hc q=>(sb.2 c (by simpa using hc)).trans (kk c o (by simpa using hc) q)) (yg _)
   ⟨(show 2<=Sa by decide),[key,u],.cons (Ybx hk) (.cons ru .nil),⟨_,tT2,rfl,_,rfl⟩⟩,rfl,⟨_,_,_,I.hok.fresh (yg _),rfl,hx,rfl⟩,⟨es,ep,ed,_,_,by rw [hl];exact st''⟩,λc hc=>?_⟩
  have e:c=it:=by simpa using hc
  subst e
  rw [Sz (yi ne)]
  exact (hf c hc).1
 done:=by
  intro X hP hw hK hc i pins s σ H E I hf st hg
  subst hP hw hK
  obtain ⟨ea,hi⟩:=hg
  obtain ⟨es,ep,ed,ok,ov,st⟩:=st
  obtain ⟨_,_,vs,es',ep',rel,ed',da⟩:=Juu I ea
  rw [ed] at ed';cases ed'
  have hl:=rel.length
  obtain ⟨f0,f1,f2,f3,f4,f5⟩:=hf it (by simp)
  rw [hl] at st
  exact wpAny_pyNext_items_end (I.ok.hd hc) st da (by simp;omega) λh' eb=>⟨rfl,I.turned (t':=s.toks) (λb o hb e=>eb b o hb e) f0 f1 f3 f4 f5⟩
 self:=λ_ _ _ _ _ st h=>let ⟨_,_,_,_,_,q⟩:=st;kcp_self q h
def Slf (td:TE):TI:=λσ H R=>td σ H λx H1=>∃a o kvs,x= .ref a/\H1 a=some (.frz o (.dK kvs))/\R (Iti a o kvs) H1
theorem Ybr {X:Cx} {elts:List Expr} {kt:Nat} {pt:Pos} {o:Expr} {td:TE} {apos cpos:Pos} (ho:PE X o td) (hbase:attributeBase o "items" X.env (eval o X.env)=eval o X.env:=by rfl) (hline:(apos.endLine==cpos.line)=true:=by rfl):
  PI X (.Tuple elts kt pt) (.Call (.Attribute o "items" apos) [] [] cpos) (Slf td):=by
 intro pins s σ H R I h
 refine wpAny_Call_method0_late hbase hline (thn (ho pins s σ H _ I h) λv s1 zq=>?_)
 obtain ⟨x,H1,I1,r1,q1⟩:=zq
 obtain ⟨a,ob,kvs,rfl,ea,q⟩:=q1
 obtain rfl:v=Value.ref a:=r1
 obtain ⟨t1,t2,_⟩:=Yb8 I1 (.inl ⟨kvs,.inr ⟨ob,ea⟩⟩)
 refine ⟨"dict","dict.items",PySem.F.plainAttrs_dict,PySem.F.slot_dict_items,PySem.F.type_dict_items,t1,t2,Calls.callWith_builtin rfl (PySem.evalArgs_none ?_)⟩
 obtain ⟨z,hd,vs,es,ep,rel,ed,da⟩:=Juu I1 ea
 refine call_meetsIn PySem.F.slot_dict_items da.dictOf.typeIs PySem.F.entry_dict_items (PySem.F.args_dict_items_1 _) (meets_dict_items (Jkj X.prog X.w) a hd) ⟨⟨vs,da.dictOf⟩,?_⟩
 refine wpAny_pyIter_items (knd:=Jkj X.prog X.w) (d:=a) (kvs:=vs) (ep:=ep) ⟨_,yo _ rfl,rfl,rfl⟩ (da.keep λb o e=>yj _ e) ?_
 refine ⟨_,[_],_,_,H1,rfl,I1.kept (t':=s1.toks) λb o e=>yj _ (yj _ e),Jz5 a _ ob kvs,⟨es,ep,ed,.none,.none,by rw [rel.length];exact yo _ rfl⟩,λb hb=>?_,q⟩
 have le:s1.heap.objs.size<=b:=by
  rw [ybd.mp hb]
  simp [Heap.push]
 exact I1.fpOk le (I1.hok.fresh le)
section
variable {g:TG} {tt:TT} {te:TE} {H:Hp} {D:S5} {σ:St} {R:Hp->Prop}
theorem Y4 {a:S5} {o:Obj} {kvs:List (Key×V)} (Pv:Nat->St->Hp->Prop) (h0:Pv 0 σ H) (hl:∀i σ H,i<=kvs.length->Pv i σ H->H a=some (.frz o (.dK kvs)))
  (hs:∀i k x σ H,kvs[i]?=some (k,x)->Pv i σ H->g x σ H λσ3 H3=>tt σ3 H3 λb H4=>if b=true then te σ3 H4 (λv H5=>∃ys,H5 D=some (.lst ys)/\ys.length < Sa/\Pv (i+1) σ3 (upd H5 D (.lst (ys++ [v])))) else Pv (i+1) σ3 H4)
  (hd:∀σ H,Pv kvs.length σ H->R H):
  ∃W:Nat->Nat->St->Hp->Prop,(∃m,W 0 m σ H)/\∀i m σ' H',W i m σ' H'->((Itv a o kvs).stop i H'/\R H')\/((Itv a o kvs).go i H'/\∃N:St->Hp->Prop,(∀σ2 H2,N σ2 H2->∃m',m' < m/\W (i+1) m' σ2 H2)/\
   ∀x H2,(Itv a o kvs).yld i H' x H2->g x σ' H2 λσ3 H3=>tt σ3 H3 λb H4=>if b=true then te σ3 H4 (λv H5=>∃ys,H5 D=some (.lst ys)/\ys.length < Sa/\N σ3 (upd H5 D (.lst (ys++ [v])))) else N σ3 H4):=by
 refine ⟨λi m σ H=>m=kvs.length - i/\i<=kvs.length/\Pv i σ H,⟨kvs.length,by simp,yam _,h0⟩,?_⟩
 rintro i m σ H ⟨rfl,hi,p⟩
 have q:=hl i σ H hi p
 by_cases hlt:i < kvs.length
 ·refine .inr ⟨⟨q,hlt⟩,Pv (i+1),λσ' H' p'=>⟨kvs.length - (i+1),by omega,rfl,hlt,p'⟩,λx H' y=>?_⟩
  obtain ⟨e,k,y⟩:=y
  subst e
  exact hs i k x σ _ y p
 ·have e:i=kvs.length:=by omega
  subst e
  exact .inl ⟨⟨q,yg _⟩,hd σ H p⟩
theorem Jy8 {a:S5} {o:Obj} {kvs:List (Key×V)} (Pv:Nat->St->Hp->Prop) (h0:Pv 0 σ H) (hl:∀i σ H,i<=kvs.length->Pv i σ H->H a=some (.frz o (.dK kvs)))
  (hs:∀i k x σ H T,kvs[i]?=some (k,x)->Pv i σ H->H T=none->g (.ref T) σ (upd H T (.tup [kV k,x])) λσ3 H3=>tt σ3 H3 λb H4=>if b=true then te σ3 H4 (λv H5=>∃ys,H5 D=some (.lst ys)/\ys.length < Sa/\Pv (i+1) σ3 (upd H5 D (.lst (ys++ [v])))) else Pv (i+1) σ3 H4)
  (hd:∀σ H,Pv kvs.length σ H->R H):
  ∃W:Nat->Nat->St->Hp->Prop,(∃m,W 0 m σ H)/\∀i m σ' H',W i m σ' H'->((Iti a o kvs).stop i H'/\R H')\/((Iti a o kvs).go i H'/\∃N:St->Hp->Prop,(∀σ2 H2,N σ2 H2->∃m',m' < m/\W (i+1) m' σ2 H2)/\
   ∀x H2,(Iti a o kvs).yld i H' x H2->g x σ' H2 λσ3 H3=>tt σ3 H3 λb H4=>if b=true then te σ3 H4 (λv H5=>∃ys,H5 D=some (.lst ys)/\ys.length < Sa/\N σ3 (upd H5 D (.lst (ys++ [v])))) else N σ3 H4):=by
 refine ⟨λi m σ H=>m=kvs.length - i/\i<=kvs.length/\Pv i σ H,⟨kvs.length,by simp,yam _,h0⟩,?_⟩
 rintro i m σ H ⟨rfl,hi,p⟩
 have q:=hl i σ H hi p
 by_cases hlt:i < kvs.length
 ·refine .inr ⟨⟨q,hlt⟩,Pv (i+1),λσ' H' p'=>⟨kvs.length - (i+1),by omega,rfl,hlt,p'⟩,λx H' y=>?_⟩
  obtain ⟨T,k,u,hT,rfl,y,rfl⟩:=y
  exact hs i k u σ _ T y p hT
 ·have e:i=kvs.length:=by omega
  subst e
  exact .inl ⟨⟨q,yg _⟩,hd σ H p⟩
end
theorem Jvv:typeLookup (.type "list") "keys" =pure none:=by rw [typeLookup_type,builtinLookup_eq_fast];kernel_rfl
section
variable {prog:Sb} {w:Sd} {A:Se} {E:S6->S7->Prop} {s:S7} {a:S5} {its:Array S6} {n:Nat}
theorem Jt1 {Q:Option S6->S7->Prop} (hx:s.heap.get? a=some {cls:=.type "list",data:=.seq its n}) (hA:A.handled=none)
  (h:∀h' tk,(∀b o,s.heap.get? b=some o->h'.get? b=some o)->Q none {s with heap:=h',toks:=tk}):
  Sh (model prog w) A (getAttr? (.ref a) "keys") Q E s:=by
 obtain ⟨hp,g,d,tk,os⟩:=s
 have hT:∀tk',(⟨hp,g,d,tk',os⟩:S7).TypeIs (.ref a) "list" :=λ_=>⟨_,hx,rfl⟩
 have f1:=sub_AttributeError
 have f3:=PySem.F.slot_list_getattribute.lookup
 have f4:=PySem.F.slot_list_getattribute.bind (.ref a)
 have f5:=am_list_getattr_none
 unfold getAttr? getAttrBy? getAttrBy
 repeat (any_goals (first|assumption|exact hT _|((with_reducible show Sh _ _ (call (Value.builtin "list.__getattribute__") _ _) _ _ _);refine call_meets PySem.F.slot_list_getattribute (hT _) am_entry_list_getattribute (PySem.F.args_list_getattribute_2 _ _) (meets_getattribute_miss_list a its n #[] "keys" _ Jvv (by decide) (by size_fits)) ⟨hx,hA,λh' tk' e hx'=>?_⟩)|wp_step))
 obtain ⟨t',u',he⟩:=hx'.there
 show Sh _ _ (getattributeRaised _ _ _ _ _ _ _) _ _ _
 unfold getattributeRaised
 repeat (any_goals (first|assumption|wp_step))
 exact h _ _ hx'.keeps
end
theorem Jut:entryFor table "dict.update.loop" =some Builtin.«dict.update.loop»:=entryFor_of_tree (by kernel_rfl)
section
variable {prog:Sb} {w:Sd} {K:Type} [DecidableEq K] {knd:KeyKind prog w K} {A:Se}
theorem Ya2 {α:Type} {l:List α} {i:Nat} {x:α} (h:l[i]?=some x):l.take (i+1)=l.take i++ [x]:=by
 rw [yan,h];rfl
theorem Jwt {vs:List (K×S6)} {i:Nat} {k:K} {v:S6} (nd:(vs.map (·.1)).Nodup) (h:vs[i]?=some (k,v)):valueAt (vs.take i) k=none:=by
 unfold valueAt
 rw [List.find?_eq_none.mpr]
 ·rfl
 ·intro p hp
  obtain ⟨j,hj,rfl⟩:=List.mem_take_iff_getElem.mp hp
  simp only [decide_eq_true_eq]
  intro e
  have hi:=(yq.mp h).1
  have ev:vs[i]=(k,v):=(yq.mp h).2
  have q:=List.pairwise_iff_getElem.mp nd j i (by simp;omega) (by simp;omega) (by omega)
  exact q (by simp [e,ev])
theorem dul {s₀:S7} {its:Array S6} {L n it:S5} {vs:List (K×S6)} {R:Result->S7->Prop} (hh:A.handled=none) (nd:(vs.map (·.1)).Nodup) (hz:vs.length<=Sa) (hi:its.size=vs.length) (hL:s₀.heap.IsList L its)
  (hp:∀(i:Nat) (k:K) (v:S6),vs[i]?=some (k,v)->∃T key o m,its[i]?=some (Value.ref T)/\s₀.heap.get? T=some o/\o.cls= .type "tuple" /\o.data= .seq #[key,v] m/\knd.is k key=true)
  (hn:s₀.heap.objs.size<=n) (hit:s₀.heap.objs.size<=it) (ne:n≠it)
  (hR:∀h' tk,(∀b o,s₀.heap.get? b=some o->h'.get? b=some o)->h'.DictOf knd n vs->R (.ok (.ret .none)) {s₀ with heap:=h',toks:=tk}):
  ∀(j i:Nat) (h:Sg) (tk:Nat),i+j=vs.length->(∀b o,s₀.heap.get? b=some o->h.get? b=some o)->h.DictOf knd n (vs.take i)->h.IsListIter it L i->
   codeAny (model prog w) A (.builtin "dict.update.loop" ⟨[.ref n,.ref it,rawInt i,.none],[]⟩) R {s₀ with heap:=h,toks:=tk}:=by
 intro j
 induction j with
 |zero=>
  intro i h tk e keep hd st
  have ei:i=vs.length:=by omega
  subst ei
  rw [ycl] at hd
  refine codeAny_builtin Jut ?_
  unfold Builtin.«dict.update.loop»
  refine S8 (wpAny_pyNext_list_end (s:={s₀ with heap:=h,toks:=tk}) hh st (items:=its) ?_ (by simp;omega) λh' eb=>?_)
  ·obtain ⟨o,q,r⟩:=hL
   exact ⟨o,keep _ _ q,r⟩
  ·show Sh _ _ (Builtin.Dict.addKeywords n [] >>=λ_=>ret .none) _ _ _
   refine S8 (S9 (S9 ?_))
   have kk:∀b o,s₀.heap.get? b=some o->h'.get? b=some o:=λb o q=>eb b o (λz=>absurd (yk q) (by rw [z];exact yav.mpr hit)) (keep b o q)
   exact hR h' tk kk (hd.extBut eb ne)
 |succ j ih=>
  intro i h tk e keep hd st
  refine codeAny_builtin Jut ?_
  unfold Builtin.«dict.update.loop»
  have hi':i < vs.length:=by omega
  have hx:vs[i]?=some (vs[i].1,vs[i].2):=by simp [hi']
  obtain ⟨T,key,o,m,hT,ho,hc,hdt,hk⟩:=hp i _ _ hx
  have kT:∀b o,s₀.heap.get? b=some o->b≠it:=λb o q z=>absurd (yk q) (by rw [z];exact yav.mpr hit)
  refine S8 (wpAny_pyNext_list_item (s:={s₀ with heap:=h,toks:=tk}) st (items:=its) ?_ hT λh' st' sb=>?_)
  ·obtain ⟨o,q,r⟩:=hL
   exact ⟨o,keep _ _ q,r⟩
  have keep1:∀b o,s₀.heap.get? b=some o->h'.get? b=some o:=λb o q=>(sb.2 b (kT b o q)).trans (keep b o q)
  have tyT:Shared.TypeIs {s₀ with heap:=h',toks:=tk} (.ref T) "tuple" :=⟨o,keep1 _ _ ho,hc⟩
  refine S8 (wpAny_holding (S8 (wpAny_tryCatch ?_)))
  unfold Builtin.Dict.pairItems
  refine S8 (wpAny_typeOf tyT ?_)
  rw [if_pos (by decide)]
  refine S8 (wpAny_seqItems (keep1 _ _ ho) hdt (S9 ?_))
  show Sh _ _ (holding [key,vs[i].2] (dictSet n key vs[i].2)) _ _ _
  refine wpAny_holding (wpAny_dictSet_pairs (s:={s₀ with heap:=h',toks:=tk}) hk (hd.sameBut sb ne) (hsz:=by rw [yah];omega) λh2 hd2 sb2=>?_)
  refine S9 ⟨Code.quiet_builtin _ (by decide +kernel),?_⟩
  rw [stored_absent (Jwt nd hx),<-Ya2 hx] at hd2
  refine ih (i+1) h2 (tk+1) (by omega) (λb o q=>(sb2.2 b (λz=>absurd (yk q) (by rw [z];exact yav.mpr hn))).trans (keep1 b o q)) hd2 ?_
  obtain ⟨o',q,r⟩:=st'
  exact ⟨o',(sb2.2 it (yi ne)).trans q,r⟩
end
def Jvh (H:Hp):List V->List (Key×V)->Prop:=Paired λx p=>∃T,x= .ref T/\H T=some (.tup [kV p.1,p.2])
theorem Jso {X:Cx} (hc:X.calm=true):Jmd X (.type "dict") (λxs H Q=>∃L ts kvs,xs= [V.ref L]/\H L=some (.lst ts)/\Jvh H ts kvs/\kvs.length<=1000/\(kvs.map (·.1)).Nodup/\
  ∀p o,H p=none->Q (.ref p) (upd H p (.frz o (.dK kvs)))):=by
 intro pins s σ H xs us Q I r h
 obtain ⟨L,ts,kvs,rfl,eL,pr,z,nd,q⟩:=h
 obtain ⟨u,rfl,r2⟩:=Jnc r
 obtain rfl:u=Value.ref L:=r2
 obtain ⟨zL,its,m,rv,hL⟩:=(show Sa7 X.prog X.w H s.heap L (.lst ts) from I.hok L _ eL)
 have szL:(1000:Nat)<=Sa:=by rw [sizeLine_eq];decide
 have ex:∃vs:List (Key×S6),KV kvs vs/\∀(i:Nat) (k:Key) (v:S6),vs[i]?=some (k,v)->∃T key o m,its.toArray[i]?=some (Value.ref T)/\s.heap.get? T=some o/\o.cls= .type "tuple" /\o.data= .seq #[key,v] m/\(Jkj X.prog X.w).is k key=true:=by
  have one:∀(x:V) (p:Key×V),(∃T,x= .ref T/\H T=some (.tup [kV p.1,p.2]))->∀w',Sa2 x w'->∃v:S6,Sa2 p.2 v/\∃T key o m,w'=Value.ref T/\s.heap.get? T=some o/\o.cls= .type "tuple" /\o.data= .seq #[key,v] m/\(Jkj X.prog X.w).is p.1 key=true:=by
   rintro x p ⟨T,rfl,eT⟩ w' rw'
   obtain rfl:w'=Value.ref T:=rw'
   obtain ⟨_,jts,rj,o,e1,e2,m,e3⟩:=(show Sa7 X.prog X.w H s.heap T (.tup _) from I.hok T _ eT)
   cases rj with
   | @cons _ key _ _ k1 rj=>
    cases rj with
    | @cons _ v _ _ k2 rj=>
     cases rj
     exact ⟨v,k2,T,key,o,m,rfl,e1,e2,e3,Jv0 k1⟩
  clear hL eL r z nd q zL
  induction pr generalizing its with
  |nil=>cases rv;exact ⟨[],.nil,λi k v e=>by simp at e⟩
  | @cons x p l1 l2 hx t ih=>
   cases rv with
   | @cons _ w' _ its' k1 k2=>
    obtain ⟨vs,a1,a2⟩:=ih _ k2
    obtain ⟨v,b1,T,key,o,m,b2,b3⟩:=one x p hx w' k1
    refine ⟨(p.1,v)::vs,.cons ⟨rfl,b1⟩ a1,λi k v' e=>?_⟩
    cases i with
    |zero=>
     simp at e
     obtain ⟨rfl,rfl⟩:=e
     exact ⟨T,key,o,m,by simp [b2],b3⟩
    |succ j=>
     obtain ⟨T,key,o,m,c1,c2⟩:=a2 j k v' (by simpa using e)
     exact ⟨T,key,o,m,by simpa using c1,c2⟩
 obtain ⟨vs,rel,hp⟩:=ex
 have el:its.toArray.size=vs.length:=by
  have e1:=rv.length
  have e2:=Paired.length pr
  have e3:=rel.length
  simp;omega
 have ndv:(vs.map (·.1)).Nodup:=by
  have e:∀{a:List (Key×V)} {b:List (Key×S6)},KV a b->a.map (·.1)=b.map (·.1):=by
   intro a b h
   induction h with
   |nil=>rfl
   |cons h t ih=>rw [yas,yas,ih,h.1]
  rw [<-e rel];exact nd
 refine callType_codes (Q₁:=λobj s₁=>obj= .ref s.heap.objs.size/\s₁={s with heap:=s.heap.push {cls:=.type "dict",data:=.dict #[]}}) PySem.F.kt_called_dict (PySem.F.kt_typeCall_dict_1 _) PySem.F.entry_dict_init (kt_code_dict_new _ ⟨rfl,rfl⟩) ?_
 rintro obj s₁ ⟨rfl,rfl⟩
 have hnew:(s.heap.push {cls:=.type "dict",data:=.dict #[]}).DictOf (Jkj X.prog X.w) s.heap.objs.size []:=Heap.DictOf.new s.heap
 have hL1:(s.heap.push {cls:=.type "dict",data:=.dict #[]}).get? L=some {cls:=.type "list",data:=.seq its.toArray m}:=yj _ hL
 refine ⟨hnew.typeIs,PySem.F.args_dict_init_2 _ _,?_⟩
 unfold Builtin.«dict.__init__»
 refine S8 ?_
 unfold Builtin.Dict.selfAndRest
 refine S8 (wpAny_notOrdered_dict hnew.typeIs ?_)
 show Sh _ _ (pure (s.heap.objs.size,[Value.ref L])) _ _ _
 refine S9 ?_
 show Sh _ _ (Builtin.Dict.updateFrom "dict.__init__" s.heap.objs.size (.ref L) [] .none) _ _ _
 unfold Builtin.Dict.updateFrom
 refine S8 (wpAny_typeOf (T:="list") ⟨_,hL1,rfl⟩ ?_)
 rw [if_pos (by decide)]
 refine S8 (Jt1 hL1 (I.ok.hd hc) λh1 tk1 kp1=>?_)
 show Sh _ _ (rule _ >>=_) _ _ _
 refine S8 (wpAny_rule ?_)
 have hL2:h1.IsList L its.toArray:=⟨_,kp1 _ _ hL1,rfl,_,rfl⟩
 refine S8 (wpAny_pyIter_list hL2 ?_)
 refine S9 ⟨Code.quiet_builtin _ (by decide +kernel),?_⟩
 have sz1:s.heap.objs.size < h1.objs.size:=yk (kp1 s.heap.objs.size _ (yo _ rfl))
 refine dul (A:=X.A.in1) (s₀:=s) (its:=its.toArray) (L:=L) (n:=s.heap.objs.size) (it:=h1.objs.size) (vs:=vs) (knd:=Jkj X.prog X.w) (I.ok.hd hc) ndv (by have:=rel.length;omega) el ⟨_,hL,rfl,_,rfl⟩ hp (yg _) (yap sz1) (yr sz1) (λh' tk kp dd=>?_) vs.length 0 (h1.push {cls:=.type "list_iterator",data:=.fields #[.ref L,.int 0 0]}) tk1 (Nat.zero_add _)
  (λb o e=>yj _ (kp1 b o (yj _ e))) ?_ ?_
 ·refine ⟨rfl,?_⟩
  have I2:Su X pins σ (upd H s.heap.objs.size (.dK kvs)) {s with heap:=h',toks:=tk}:=I.laid (a:=s.heap.objs.size) (o:=.dK kvs) (t':=tk) kp (yg _) (Yau (by omega) (beq_eq_false_iff_ne.mpr (yi (yr I.big))) rel dd)
  obtain ⟨o,es,ep,e,_⟩:=id dd
  have I3:=I2.frz (Sv ..) e
  refine ⟨.ref s.heap.objs.size,_,I3,rfl,?_⟩
  have eu:upd (upd H s.heap.objs.size (.dK kvs)) s.heap.objs.size (.frz o (.dK kvs))=upd H s.heap.objs.size (.frz o (.dK kvs)):=by
   funext b
   unfold upd
   split <;> rfl
  rw [eu]
  exact q _ o (I.hok.fresh (yg _))
 ·obtain ⟨o,es,ep,e,r⟩:=hnew
  exact ⟨o,es,ep,yj _ (kp1 _ _ e),r⟩
 ·exact ⟨_,yo _ rfl,rfl,rfl⟩
def Stl (K:Si):List V->Hp->VK->Prop:=λxs H Q=>∃(a:S5) (bs:List Bool),xs= [.ref a]/\Sw K H a (bs.map V.bl)/\Q (.bl (bs.any id)) H
theorem Yaj {X:Cx} {K:Si} (hK:X.K=K) (hc:X.calm=true):Jmd X (.builtin "any") (Stl K):=by
 subst hK
 intro pins s σ H xs us Q I r h
 obtain ⟨a,bs,rfl,hq,q⟩:=h
 obtain ⟨u,rfl,ru⟩:=Jnc r
 cases ru
 obtain ⟨its,rv,pl,hz⟩:=I.list hq
 have hlen:=rv.length
 refine call_any_walk (wpAny_pyIter_list pl.isList ⟨s.heap.objs.size,[s.heap.objs.size,a],[s.heap.objs.size],its.toArray.size,_,_,λi=>bs.getD i false,rfl,Walks.list (prog:=X.prog) (w:=X.w) (A:=X.A.in1) (show X.A.in1.handled=none from I.ok.hd hc) s.heap.objs.size a ?_ its.toArray,⟨⟨_,yo _ rfl,rfl,rfl⟩,pl.isList.at λo e=>yj _ e⟩,?_,λh' tk k=>?_⟩)
 ·obtain ⟨o,_,e,_⟩:=pl
  exact yr (yk e)
 ·intro i v s' Q' E' hv hq'
  have hv':its[i]?=some v:=by simpa using hv
  have hi:i < its.length:=(yq.mp hv').1
  have hb:i < bs.length:=by rw [yf] at hlen;omega
  obtain ⟨u',hu',ru'⟩:=rv.get (i:=i) (x:=V.bl bs[i]) (by rw [ym,yp hb];rfl)
  rw [hv'] at hu'
  cases hu'
  cases ru'
  refine wpAny_truthy_bool ?_
  have:bs.getD i false=bs[i]:=by rw [yaj,yp hb];rfl
  rw [<-this]
  exact hq'
 ·have e:((yv its.toArray.size).any λi=>bs.getD i false)=bs.any id:=by
   have hl2:its.toArray.size=bs.length:=by rw [yf] at hlen;rw [yu];exact hlen.symm
   rw [hl2,ybk,ycm,ycm]
   constructor
   ·rintro ⟨i,hi,hh⟩
    have hi':=yae.mp hi
    rw [yaj,yp hi'] at hh
    exact ⟨_,ycg hi',hh⟩
   ·rintro ⟨b,hb,hh⟩
    obtain ⟨i,hi,rfl⟩:=List.getElem_of_mem hb
    refine ⟨i,yae.mpr hi,?_⟩
    rw [yaj,yp hi]
    exact hh
  rw [e]
  exact ⟨.bl _,H,I.kept λb o e=>k b o (λz=>by
   have z':b=s.heap.objs.size:=by simpa using z
   exact absurd (yk e) (by rw [z'];exact ybe _)) (yj _ e),rfl,q⟩
theorem Y0 {X:Cx}:Jmd X (.type "range") (λxs H Q=>∃i j,xs= [V.int i,V.int j]/\∀p,H p=none->Q (.ref p) (upd H p (.rng i j))):=by
 intro pins s σ H xs us Q I r h
 obtain ⟨i,j,rfl,q⟩:=h
 cases r with
 |cons r1 r=>
  cases r with
  |cons r2 r=>
   cases r
   obtain ⟨t1,rfl⟩:=r1
   obtain ⟨t2,rfl⟩:=r2
   refine call_range_2 ⟨.ref s.heap.objs.size,_,I.laid (a:=s.heap.objs.size) (o:=.rng i j) (λb o e=>yj _ e) (yg _) ⟨_,_,_,yo _ rfl⟩,rfl,q _ (I.hok.fresh (yg _))⟩
theorem Yeo {xs:List V} {acc:Array S6} {n:Nat} {P:Nat->S6->Prop} (e:xs.length=n) (h:ItemsOf P acc n) (hP:∀(i:Nat) (v:S6),i < n->P i v->∃x,xs[i]?=some x/\Sa2 x v):Sa0 xs acc.toList:=by
 obtain ⟨h1,h2⟩:=h
 have go:∀(xs:List V) (l:List S6),xs.length=l.length->(∀(i:Nat) (v:S6),l[i]?=some v->∃x,xs[i]?=some x/\Sa2 x v)->Sa0 xs l:=by
  intro xs
  induction xs with
  |nil=>
   intro l e _
   cases l with
   |nil=>exact .nil
   |cons _ _=>simp at e
  |cons x xs ih=>
   intro l e hl
   cases l with
   |nil=>simp at e
   |cons v l=>
    obtain ⟨y,e1,r1⟩:=hl 0 v rfl
    simp at e1
    subst e1
    exact .cons r1 (ih l (by simpa using e) λi v' e'=>by simpa using hl (i+1) v' (by simpa using e'))
 refine go xs acc.toList (by simp only [ybj];exact e.trans h1.symm) λi v e'=>?_
 have e2:acc[i]?=some v:=by rw [<-Array.getElem?_toList];exact e'
 exact hP i v (by have:=(ych.mp e2).1;omega) (h2 i v e2)
theorem Jty {X:Cx} (hc:X.calm=true):Jmd X (.type "list") (λxs H Q=>∃p i j,xs= [V.ref p]/\H p=some (.rng i j)/\ -1000<=i/\i<=1000/\ -1000<=j/\j<=1000/\
  ∀l,H l=none->Q (.ref l) (upd H l (.lst ((yv (j - i).toNat).map λk:Nat=>V.int (i+k))))):=by
 intro pins s σ H xs us Q I r h
 obtain ⟨p,i,j,rfl,hp,h1,h2,h3,h4,q⟩:=h
 obtain ⟨u,rfl,r2⟩:=Jnc r
 obtain rfl:u=Value.ref p:=r2
 obtain ⟨t,u,v,e⟩:=(show Sa7 X.prog X.w H s.heap p (.rng i j) from I.hok p _ hp)
 refine call_list_range (n:=(j - i).toNat) (I.ok.hd hc) e (small_one (by omega) (by omega) (by omega) (by omega)) (by rw [rangeSize_one];split <;> omega) (by omega) λh' tk acc c kp hl hI=>?_
 have rv:Sa0 ((yv (j - i).toNat).map λk:Nat=>V.int (i+k)) acc.toList:=by
  refine Yeo (n:=(j - i).toNat) (by simp) hI λk w' lt hw=>?_
  obtain ⟨t,rfl⟩:=hw
  exact ⟨.int (i+k),by simp [lt],t,by simp⟩
 refine ⟨.ref s.heap.objs.size,_,I.laid (a:=s.heap.objs.size) (o:=.lst _) (t':=tk) kp (yg _) ⟨?_,acc.toList,c,rv,by simpa using hl⟩,rfl,q _ (I.hok.fresh (yg _))⟩
 rw [sizeLine_eq,yf,yaw]
 omega
def Jq3 (xs:Array Nat):Prop:=∀i k,i < k->k < xs.size->xs.getD i 0 < xs.getD k 0
theorem Jzq {xs:Array Nat} (h:Jq3 xs) {i k:Nat} (ik:i<=k) (hk:k < xs.size):xs.getD i 0<=xs.getD k 0:=by
 rcases Nat.lt_or_eq_of_le ik with q|q
 ·exact yap (h i k q hk)
 ·rw [q];exact yg _
theorem Yb2 {xs:Array Nat} {i:Nat} (h:i < xs.size) (a b:Nat):xs.getD i a=xs.getD i b:=by simp [ybp,h]
theorem Yae {xs:Array Nat} {j:Nat} (rs:Jq3 xs):∀(fuel lo hi:Nat),hi - lo<=fuel->lo<=hi->hi<=xs.size->(∀i,i < lo->xs.getD i 0 < j)->(∀i,hi<=i->i < xs.size->j<=xs.getD i 0)->
  SetTable.below.go xs j fuel lo hi<=xs.size/\(∀i,i < SetTable.below.go xs j fuel lo hi->xs.getD i 0 < j)/\∀i,SetTable.below.go xs j fuel lo hi<=i->i < xs.size->j<=xs.getD i 0:=by
 intro fuel
 induction fuel with
 |zero=>
  intro lo hi h1 h2 h3 h4 h5
  have e:lo=hi:=by omega
  subst e
  exact ⟨h3,h4,h5⟩
 |succ fuel ih=>
  intro lo hi h1 h2 h3 h4 h5
  unfold SetTable.below.go
  by_cases lt:lo < hi
  ·rw [if_pos lt]
   have hm:(lo+hi)/2 < xs.size:=by omega
   dsimp only
   rw [Yb2 hm j 0]
   by_cases c:xs.getD ((lo+hi)/2) 0 < j
   ·rw [if_pos c]
    refine ih ((lo+hi)/2+1) hi (by omega) (by omega) h3 (λi hi'=>?_) h5
    exact yct (Jzq rs (by omega) hm) c
   ·rw [if_neg c]
    refine ih lo ((lo+hi)/2) (by omega) (by omega) (by omega) h4 λi hi' hs=>?_
    exact yab (Nat.le_of_not_lt c) (Jzq rs hi' hs)
  ·rw [if_neg lt]
   have e:lo=hi:=by omega
   subst e
   exact ⟨h3,h4,h5⟩
theorem Jqs {xs:Array Nat} (rs:Jq3 xs) (j:Nat):SetTable.below xs j<=xs.size/\(∀i,i < SetTable.below xs j->xs.getD i 0 < j)/\∀i,SetTable.below xs j<=i->i < xs.size->j<=xs.getD i 0:=
 Yae rs xs.size 0 xs.size (by omega) (by omega) (yg _) (λi h=>absurd h (ycn _)) λi h1 h2=>absurd h2 (yav.mpr h1)
theorem Jy3 {xs:Array Nat} (rs:Jq3 xs) {i:Nat} (hi:i < xs.size):SetTable.below xs (xs.getD i 0+1)=i+1:=by
 obtain ⟨h1,h2,h3⟩:=Jqs rs (xs.getD i 0+1)
 generalize SetTable.below xs (xs.getD i 0+1)=k at*
 by_cases lt:k<=i
 ·have:=h3 i lt hi
  omega
 ·by_cases gt:i+1 < k
  ·have q:=h2 (i+1) gt
   have q2:=rs i (i+1) (ybl _) (by omega)
   omega
  ·omega
theorem Jy4 {xs:Array Nat} (rs:Jq3 xs):SetTable.below xs 0=0:=by
 obtain ⟨h1,h2,h3⟩:=Jqs rs 0
 generalize SetTable.below xs 0=k at*
 by_cases lt:0 < k
 ·exact absurd (h2 0 lt) (ycn _)
 ·omega
theorem Ju1 {α:Type} (xs:Array α) (p:Nat) (x:α) (hp:p<=xs.size):(SetTable.insertAt xs p x).toList=xs.toList.take p++x::xs.toList.drop p:=by
 unfold SetTable.insertAt
 simp [Array.toList_extract,yat]
theorem Sec {xs:Array Nat}:Jq3 xs↔xs.toList.Pairwise (· < ·):=by
 rw [List.pairwise_iff_getElem]
 constructor
 ·intro h i k hi hk ik
  have:=h i k ik (by simpa using hk)
  simp at hi hk
  simpa [ybp,hi,hk] using this
 ·intro h i k ik hk
  have hi:i < xs.size:=ybu ik hk
  have:=h i k (by simpa using hi) (by simpa using hk) ik
  simpa [ybp,hi,hk] using this
theorem Yt {t:SetTable} {j:Nat} (rs:Jq3 t.place) (nj:j∉t.place.toList):Jq3 (t.put j).1.place:=by
 show Jq3 (SetTable.insertAt t.place (SetTable.below t.place j) j)
 obtain ⟨h1,h2,h3⟩:=Jqs rs j
 generalize SetTable.below t.place j=k at*
 rw [Sec,Ju1 _ _ _ h1]
 have pw:=Sec.mp rs
 have get:∀x∈t.place.toList.take k,x < j:=λx hx=>by
  obtain ⟨i,hi,rfl⟩:=List.mem_take_iff_getElem.mp hx
  have lt:i < t.place.size:=by simp at hi;omega
  have:=h2 i (by omega)
  simpa [ybp,lt] using this
 have get2:∀x∈t.place.toList.drop k,j < x:=λx hx=>by
  obtain ⟨i,hi,rfl⟩:=List.mem_drop_iff_getElem.mp hx
  have lt:k+i < t.place.size:=by simp at hi;omega
  have:=h3 (k+i) (by omega) lt
  have e:t.place.getD (k+i) 0=t.place.toList[k+i]'(by simpa using lt):=by simp [ybp,lt]
  rw [e] at this
  refine Nat.lt_of_le_of_ne this λq=>nj ?_
  rw [q]
  exact ycg _
 rw [List.pairwise_append,List.pairwise_cons]
 refine ⟨pw.sublist (List.take_sublist _ _),⟨get2,pw.sublist (List.drop_sublist _ _)⟩,λa ha b hb=>?_⟩
 rcases yn.mp hb with rfl|hb
 ·exact get a ha
 ·exact ybu (get a ha) (get2 b hb)
theorem Yc9 {t:SetTable} {j:Nat} (rs:Jq3 t.place) (h:∀i,t.slot j≠ .live i):j∉t.place.toList:=λhm=>by
 obtain ⟨i,hi,e⟩:=List.getElem_of_mem hm
 obtain ⟨h1,h2,h3⟩:=Jqs rs j
 have lt:i < t.place.size:=by simpa using hi
 have ei:t.place.getD i 0=j:=by simpa [ybp,lt] using e
 have ek:SetTable.below t.place j=i:=by
  rcases Nat.lt_trichotomy (SetTable.below t.place j) i with q|q|q
  ·have:=h3 _ (yg _) (ybu q lt)
   have:=rs _ i q lt
   omega
  ·exact q
  ·have:=h2 i q
   omega
 refine h i ?_
 unfold SetTable.slot
 dsimp only
 rw [ek,if_pos]
 have:t.place[i]?=some j:=by
  rw [yco lt]
  simp [ybp,lt] at ei
  rw [ei]
 rw [this]
 simp
theorem Jpu (t:SetTable) (p:SetTable.Probe):(t.advance p).dummy=p.dummy:=by
 unfold SetTable.advance
 split <;> rfl
theorem Ybt {t:SetTable} {f:Nat->Int} {h:Int}:∀(fuel:Nat) (p:SetTable.Probe) (j:Nat) (d:Option Nat),(∀x,p.dummy=some x->t.slot x= .dummy)->SetTable.probe.go t f h fuel p=some (.empty j d)->
  t.slot j= .empty/\∀x,d=some x->t.slot x= .dummy:=by
 intro fuel
 induction fuel with
 |zero=>intro p j d _ e;simp [SetTable.probe.go] at e
 |succ fuel ih=>
  intro p j d hd e
  unfold SetTable.probe.go at e
  split at e
  ·rename_i es
   simp at e
   obtain ⟨rfl,rfl⟩:=e
   exact ⟨es,hd⟩
  ·rename_i es
   refine ih _ j d ?_ e
   intro x hx
   rw [Jpu] at hx
   simp at hx
   rw [<-hx]
   exact es
  ·split at e
   ·simp at e
   ·refine ih _ j d ?_ e
    intro x hx
    rw [Jpu] at hx
    exact hd x hx
theorem Yb1 {t:SetTable} {h:Int} {j:Nat} {b:Bool} (rs:Jq3 t.place) (e:t.freeSlot h=some (j,b)):j∉t.place.toList:=by
 unfold SetTable.freeSlot at e
 split at e
 ·rename_i jj d ep
  unfold SetTable.probe at ep
  obtain ⟨q1,q2⟩:=Ybt _ _ _ _ (λx hx=>by simp [SetTable.probeStart] at hx) ep
  simp at e
  obtain ⟨e1,_⟩:=e
  refine Yc9 rs λi z=>?_
  cases d with
  |none=>
   simp at e1
   rw [<-e1,q1] at z
   cases z
  |some x=>
   simp at e1
   have:=q2 x rfl
   rw [<-e1,this] at z
   cases z
 ·simp at e
def Jps (b:Bool) (t:SetTable):Prop:=(t.plain=true->Jq3 t.place)/\t.led=b
theorem Jnf {b:Bool} {t:SetTable} (n:Nat) (h:t.led=b):Jps b (t.standIn n):=⟨λz=>by simp [SetTable.standIn] at z,h⟩
theorem Jx6 {b:Bool} {t:SetTable} (es:Array (Int×S6)) (h:Int) (x:S6) (g:Jps b t):Jps b (layNew t es h x).2.1:=by
 unfold layNew
 split
 ·rename_i j wd e
  dsimp only
  unfold SetTable.orStandIn
  split
  ·exact ⟨λz=>Yt (g.1 z) (Yb1 (g.1 z) e),g.2⟩
  ·exact Jnf _ g.2
 ·exact Jnf _ g.2
theorem Yba {α:Type} (f:Nat->Option α):∀l:List Nat,((l.filterMap λj=>(f j).map (j,·)).map (·.1)).Sublist l:=by
 intro l
 induction l with
 |nil=>exact List.Sublist.refl _
 |cons a l ih=>
  rw [ycq]
  cases f a with
  |none=>exact ih.trans (List.sublist_cons_self _ _)
  |some y=>exact ih.cons₂ a
theorem Jyt {b:Bool} {t:SetTable} (es:Array (Int×S6)) (n:Nat) (g:Jps b t):Jps b (relayAll t es n).2.1:=by
 unfold relayAll
 split
 ·rename_i t' order e
  dsimp only
  split
  ·unfold SetTable.relaid SetTable.laid at e
   obtain ⟨owner,_,e⟩:=Option.bind_eq_some_iff.mp e
   simp only [Option.pure_def,yac.injEq,Prod.mk.injEq] at e
   obtain ⟨e1,_⟩:=e
   subst e1
   exact ⟨λ_=>Sec.mpr (List.pairwise_lt_range.sublist (Yba (λj=>owner.getD j none) _)),g.2⟩
  ·exact Jnf _ g.2
 ·exact Jnf _ g.2
section
variable {prog:Sb} {w:Sd} {K:Type} [DecidableEq K] {knd:KeyKind prog w K} {A:Se} {E:S6->S7->Prop} {s:S7} {b:Bool}
variable (knd) in
def Sds (l:List (Int×S6)):Prop:=l.Pairwise λe e'=>∀k,knd.is k e.2=true->knd.is k e'.2=true->False
theorem Sds.perm {l l':List (Int×S6)} (h:Sds knd l) (p:l'.Perm l):Sds knd l':=(p.pairwise_iff λ{x y} q k a b=>q k b a).mpr h
variable (knd) (b) in
def Scp (h:Sg) (a:S5) (S:K->Bool) (n:Nat):Prop:=
 ∃o es ep t,h.get? a=some o/\o.ExactSet/\o.data= .set es ep t/\ElemsOf knd es.toList/\(∀k,S k=true↔∃e∈es.toList,knd.is k e.2=true)/\es.size < scanBound/\t.fits es.size=true/\es.size<=n/\Jps b t/\Sds knd es.toList
theorem Jxq {h:Sg} {a:S5} {o:Obj} {es:Array (Int×S6)} {ep:Nat} {t:SetTable} (ho:h.get? a=some o) (hd:o.data= .set es ep t) (es':Array (Int×S6)) (t':SetTable):
  (h.update a (Obj.putSet es' t')).get? a=some {o with data:=.set es' (ep+1) t'}:=by
 have:=ybn (Obj.putSet es' t') ho (by rw [putSet_of es' t' hd];rfl)
 rw [putSet_of es' t' hd] at this
 exact this
theorem Jva {g:Bool->Sem Unit} (hg:∀(c:Bool) (s₁:S7) (Q':Unit->S7->Prop),Q' () s₁->Sh (model prog w) A (g c) Q' E s₁)
  {a:S5} {o:Obj} {es:Array (Int×S6)} {ep:Nat} {t:SetTable} (ho:s.heap.get? a=some o) (hex:o.ExactSet) (hd:o.data= .set es ep t)
  {es1:Array (Int×S6)} {t2:SetTable} {S':K->Bool} (hel1:ElemsOf knd es1.toList) (hmem1:∀k',S' k'=true↔∃e∈es1.toList,knd.is k' e.2=true)
  (hb1:es1.size < scanBound) (hf2:t2.fits es1.size=true) (hg2:Jps b t2) (hap:Sds knd es1.toList) {wasDummy:Bool} {R:Option Bool->S7->Prop}
  (h:∀h',yak a s.heap h'->Scp knd b h' a S' es1.size->R (some true) {s with heap:=h'}):
  Sh (model prog w) A (do
    storeSet a es1 t2
    if (!wasDummy&&t2.tooFull)=true then do
      g (relayAll t2 es1 (SetTable.grown es1.size)).2.2
      storeSet a (relayAll t2 es1 (SetTable.grown es1.size)).1 (relayAll t2 es1 (SetTable.grown es1.size)).2.1
      pure (some true)
     else pure (some true)) R E s:=by
 refine S8 (wpAny_storeSet_of ho hd ?_ (fits_of_scanBound hb1))
 have ho1:=Jxq ho hd es1 t2
 have hsb1:=yak.update s.heap a (Obj.putSet es1 t2)
 split
 ·have hp:=relayAll_perm t2 es1 (SetTable.grown es1.size)
  have hfr:=relayAll_fits t2 es1 (SetTable.grown es1.size)
  have hgr:=Jyt es1 (SetTable.grown es1.size) hg2
  generalize relayAll t2 es1 (SetTable.grown es1.size)=Rl at hp hfr hgr⊢
  obtain ⟨es2,t3,gave2⟩:=Rl
  dsimp only at hp hfr hgr⊢
  have hsz:es2.size=es1.size:=by rw [<-ybj,hp.length_eq,ybj]
  refine S8 (hg _ _ _ ?_)
  refine S8 (wpAny_storeSet_of ho1 rfl ?_ (fits_of_scanBound (by rw [hsz];exact hb1)))
  refine S9 (h _ (hsb1.trans (yak.update _ a _)) ?_)
  rw [<-hsz]
  exact ⟨_,es2,_,t3,Jxq ho1 rfl es2 t3,hex,rfl,hel1.perm hp,λk'=>(hmem1 k').trans ⟨λ⟨e,he,q⟩=>⟨e,hp.mem_iff.mpr he,q⟩,λ⟨e,he,q⟩=>⟨e,hp.mem_iff.mp he,q⟩⟩,by rw [hsz];exact hb1,hfr,yg _,hgr,hap.perm hp⟩
 ·exact S9 (h _ hsb1 ⟨_,es1,_,t2,ho1,hex,rfl,hel1,hmem1,hb1,hf2,yg _,hg2,hap⟩)
theorem Yb5 {t:SetTable} (g:Jps b t):Jps b {t with plain:=false}:=⟨λz=>(by cases z),g.2⟩
theorem Scp.le {h:Sg} {a:S5} {S:K->Bool} {n m:Nat} (x:Scp knd b h a S n) (nm:n<=m):Scp knd b h a S m:=by
 obtain ⟨o,es,ep,t,h1,h2,h3,h4,h5,h6,h7,h8,h9⟩:=x
 exact ⟨o,es,ep,t,h1,h2,h3,h4,h5,h6,h7,yab h8 nm,h9⟩
theorem Scp.at {h h':Sg} {a:S5} {S S':K->Bool} {n:Nat} (x:Scp knd b h a S n) (k:∀o,h.get? a=some o->h'.get? a=some o) (e:∀k,S k=S' k):Scp knd b h' a S' n:=by
 obtain rfl:S=S':=funext e
 obtain ⟨o,es,ep,t,h1,r⟩:=x
 exact ⟨o,es,ep,t,k o h1,r⟩
theorem Yc2 {a:S5} {S:K->Bool} {n:Nat} {k:K} {x:S6} {Q:Bool->S7->Prop} (hkey:knd.is k x=true) (hsc:x.scannable=true) (hS:Scp knd b s.heap a S n) (hroom:n+1 < scanBound)
  (h:∀h' c,yak a s.heap h'->Scp knd b h' a (λk'=>S k'||decide (k'=k)) (n+1)->Q c {s with heap:=h'}):Sh (model prog w) A (setAddHashed a x (knd.hash k)) Q E s:=by
 obtain ⟨o,es,ep,t,ho,hex,hd,hel,hmem,hb,hf,hn,hG,hap⟩:=hS
 unfold setAddHashed setAddHashedIn
 refine wpAny_holding (S8 (wpAny_setState_of ho hd hf ?_))
 dsimp only
 rw [byScan_of hsc hb hel,if_pos rfl]
 unfold setAddByScan
 refine S8 (S8 (wpAny_rule (S8 (wpAny_setScan_of hkey ho hd hf hel ?_))))
 cases hr:List.findIdx? (λe=>knd.is k e.2) es.toList with
 |some j=>
  dsimp only
  obtain ⟨hj,hpj,_⟩:=List.findIdx?_eq_some_iff_getElem.mp hr
  have hSk:S k=true:=(hmem k).mpr ⟨es.toList[j],ycg hj,hpj⟩
  refine S9 (S9 ?_)
  have e:s={s with heap:=s.heap}:=by cases s;rfl
  rw [e]
  exact h s.heap _ (yak.refl a s.heap) ⟨o,es,ep,t,ho,hex,hd,hel,λk'=>by
   rw [Bool.or_eq_true,decide_eq_true_eq,<-hmem k']
   exact ⟨λhk=>hk.elim id (λe=>e▸hSk),.inl⟩,hb,hf,Nat.le_succ_of_le hn,hG,hap⟩
 |none=>
  dsimp only
  have none':∀e∈es.toList,knd.is k e.2=false:=λe he=>by simpa using List.findIdx?_eq_none_iff.mp hr e he
  have hgw:∀(c:Bool) (s₁:S7) (Q':Unit->S7->Prop),Q' () s₁->Sh (model prog w) A (match c with|true=>rule "set.scan.the-table-gave-way" |false=>pure ()) Q' E s₁:=
   λc s₁ Q' hq=>by cases c <;> first|exact S9 hq|exact wpAny_rule hq
  have hperm:=layNew_perm t es (knd.hash k) x
  have hfits:=layNew_fits t es (knd.hash k) x
  have hgood:=Jx6 es (knd.hash k) x hG
  generalize layNew t es (knd.hash k) x=L at hperm hfits hgood⊢
  obtain ⟨es1,t1,wasDummy,gave⟩:=L
  dsimp only at hperm hfits hgood⊢
  rw [Array.toList_push] at hperm
  have hsz1:es1.size=es.size+1:=by rw [<-ybj,hperm.length_eq,yai,ybj];rfl
  have hel1:ElemsOf knd es1.toList:=(hel.push hkey hsc).perm hperm
  have hmem1:∀k',(S k'||decide (k'=k))=true↔∃e∈es1.toList,knd.is k' e.2=true:=mem_push_iff hkey hmem hperm
  have hap1:Sds knd es1.toList:=by
   refine Sds.perm ?_ hperm
   refine List.pairwise_append.mpr ⟨hap,List.pairwise_singleton _ _,λe he e' he' k' q1 q2=>?_⟩
   obtain rfl:e'=(knd.hash k,x):=by simpa using he'
   have ek:k'=k:=knd.inj x k' k q2 hkey
   rw [ek,none' e he] at q1
   cases q1
  refine S8 (hgw _ _ _ ?_)
  have hend:∀h',yak a s.heap h'->Scp knd b h' a (λk'=>S k'||decide (k'=k)) es1.size->Q true {s with heap:=h'}:=λh' hsb hS'=>h h' true hsb (hS'.le (by rw [hsz1];exact Nat.succ_le_succ hn))
  have hb1:es1.size < scanBound:=by rw [hsz1];omega
  split
  ·refine S8 ?_
   rw [hashByValue_scannable 8 hsc]
   refine S9 ?_
   refine Jva (b:=b) hgw ho hex hd hel1 hmem1 hb1 ?_ ?_ hap1 ?_
   ·split
    ·exact hfits
    ·exact SetTable.fits_plain_off hfits
   ·split
    ·exact hgood
    ·exact Yb5 hgood
   ·intro h' hsb hS'
    exact S9 (hend h' hsb hS')
  ·refine S8 (S9 ?_)
   rw [if_pos rfl]
   refine Jva (b:=b) hgw ho hex hd hel1 hmem1 hb1 hfits hgood hap1 ?_
   intro h' hsb hS'
   exact S9 (hend h' hsb hS')
end
def Jnz (w:Sd):Bool:=!w.params.followText "set-order"
def inZ (ns:List Int):Key->Bool
 | .inl i=>ns.contains i
 | .inr _=>false
theorem Yb7 (zs:List Int) (z:Int) (k:Key):(inZ zs k||decide (k= .inl z))=inZ (zs++ [z]) k:=by
 cases k with
 |inr y=>simp [inZ]
 |inl y=>
  show (zs.contains y||decide ((.inl y:Key)= .inl z))=(zs++ [z]).contains y
  rw [ybk]
  simp [ycu]
section
variable {prog:Sb} {w:Sd} {A:Se} {R:Result->S7->Prop} {I:S5} {fp wr:List S5} {n:Nat} {P:Nat->S6->Prop} {St:Nat->Sg->Prop}
theorem Y9 (W:Walks prog w A.in1 I fp wr n P St) (S:S5) (hSf:S∉fp) (zs:List Int) (hn:zs.length=n) (hP:∀i v,P i v->∃z t,zs[i]?=some z/\v= .int z t) (hb:n+1 < scanBound):
  ∀(k i:Nat) (s:S7),n - i=k->i<=n->St i s.heap->Scp (Jkj prog w) (Jnz w) s.heap S (inZ (zs.take i)) i->
   (∀h' tk,(∀b o,b≠S->b∉wr->s.heap.get? b=some o->h'.get? b=some o)->Scp (Jkj prog w) (Jnz w) h' S (inZ zs) n->R (.ok (.ret .none)) {s with heap:=h',toks:=tk})->
   codeAny (model prog w) A (.builtin "set.update.loop" ⟨[.ref S,.ref I],[]⟩) R s:=by
 have hSw:S∉wr:=λh=>hSf (W.sub _ h)
 intro k
 induction k with
 |zero=>
  intro i s hk hi hst hS hR
  obtain rfl:i=n:=by omega
  refine codeAny_builtin PyProof.Rows.F.entry_set_update_loop ?_
  rw [Around.under_plainId PyProof.Rows.F.plain_set_update_loop _]
  refine S8 (W.done s _ _ hst λh' tk km=>?_)
  refine S9 (hR h' tk (λb o _ nb e=>km b o nb e) (hS.at (λo e=>km S o hSw e) λx=>?_))
  rw [yat (by omega)]
 |succ k ih=>
  intro i s hk hi hst hS hR
  have hlt:i < n:=by omega
  refine codeAny_builtin PyProof.Rows.F.entry_set_update_loop ?_
  rw [Around.under_plainId PyProof.Rows.F.plain_set_update_loop _]
  refine S8 (W.item i s _ _ hlt hst λv h1 tk hv hst1 km=>?_)
  obtain ⟨z,t,hz,rfl⟩:=hP i v hv
  have et:zs.take (i+1)=zs.take i++ [z]:=by rw [yan,hz];rfl
  have hS1:Scp (Jkj prog w) (Jnz w) h1 S (inZ (zs.take i)) i:=hS.at (λo e=>km S o hSw e) λ_=>rfl
  refine S8 (wpAny_holding ?_)
  unfold setAdd
  refine wpAny_holding (S8 ((Jkj prog w).pyHash (k:=.inl z) (Jov _ _ _ _) ?_))
  refine Yc2 (knd:=Jkj prog w) (k:=.inl z) (Jov _ _ _ _) rfl hS1 (by omega) λh2 _ sb hS2=>?_
  refine S9 ⟨plainId_quiet PyProof.Rows.F.plain_set_update_loop _,ih (i+1) _ (by omega) hlt (W.frame _ _ _ hst1 λb hbf o e=>?_) (hS2.at (λo e=>e) λx=>?_) λh3 tk3 k3 hS3=>?_⟩
  ·show h2.get? b=some o
   rw [sb.2 b (λq=>hSf (by rw [<-q];exact hbf))]
   exact e
  ·rw [et,Yb7]
  ·exact hR h3 tk3 (λb o nS nw e=>k3 b o nS nw (by show h2.get? b=some o;rw [sb.2 b nS];exact km b o nw e)) hS3
end
section
variable {prog:Sb} {w:Sd} {A:Se} {E:S6->S7->Prop} {s:S7}
theorem Yc6 (a:S6) {Q₁:S6->S7->Prop} (h:Q₁ (.ref s.heap.objs.size) {s with heap:=s.heap.push {cls:=.type "set",dict:=none,data:=.set #[] 0 (.fresh 0 0 (Jnz w))}}):
  codeAny (model prog w) A (.call (.builtin "set.__new__") ⟨[.type "set",a],[]⟩) (wants Q₁ E) s:=by
 refine codeAny_of_tree ?_
 show Sh _ A.in1 (do checkBuiltinCall "set.__new__" ⟨[.type "set",a],[]⟩;again (.builtin "set.__new__" ⟨[.type "set",a],[]⟩)) _ _ s
 refine S8 (wpAny_of_eq (F.newCall_set_1 a) (S9 ⟨plainId_quiet F.plain_set_new _,codeAny_builtin F.entry_set_new ?_⟩))
 rw [Around.under_plainId F.plain_set_new _]
 unfold Builtin.«set.__new__» Builtin.Frozenset.newClass
 have hsub:=sub_set_self
 obtain ⟨hp,g,d,tk,os⟩:=s
 dsimp only
 wp_walk
 refine wpAny_askSetting (S9 ?_)
 dsimp only
 simp only [newObj]
 exact S8 (wpAny_alloc (S9 (S9 h)))
set_option maxRecDepth 100000 in
set_option maxHeartbeats 3200000 in
theorem Yc4 {l:S5} {items:Array S6} {zs:List Int} {Q:S6->S7->Prop} (hh:A.handled=none) (hl:s.heap.IsList l items) (hz:zs.length=items.size) (hi:∀(i:Nat) (v:S6),items[i]?=some v->∃z t,zs[i]?=some z/\v= .int z t) (hb:items.size+1 < scanBound)
  (h:∀(h':Sg) (tk:Nat),Scp (Jkj prog w) (Jnz w) h' s.heap.objs.size (inZ zs) zs.length->(∀b o,s.heap.get? b=some o->h'.get? b=some o)->Q (.ref s.heap.objs.size) {s with heap:=h',toks:=tk}):Sh (model prog w) A (call (.type "set") [.ref l]) Q E s:=by
 obtain ⟨cc,tl,hmro⟩:=F.called_set.mro
 have hmade:=F.called_set.made
 have hsub:=F.called_set.sub
 refine wpAny_call (codeAny_of_tree ?_)
 show Sh _ _ (callAny (.type "set") _) _ _ _
 refine S9 ⟨Code.quiet_builtin _ (by decide +kernel),codeAny_builtin F.entry_type_call ?_⟩
 rw [Around.under_plain (weight_type_call_type "set" [.ref l] []) rfl]
 have g1:=F.called_set.notType
 have g2:=F.called_set.canCreate
 have g3:=F.typeCall_set_1 (.ref l)
 repeat (any_goals (first|assumption|wp_step))
 refine codeAny_mono (Yc6 (.ref l) (E:=E) (Q₁:=λobj s1=>obj= .ref s.heap.objs.size/\s1={s with heap:=s.heap.push {cls:=.type "set",dict:=none,data:=.set #[] 0 (.fresh 0 0 (Jnz w))}}) ⟨rfl,rfl⟩) λr s1 hr=>?_
 cases r with
 |error e=>exact hr
 |ok fl=>
  cases fl with
  |ret obj=>
   obtain ⟨rfl,rfl⟩:=hr
   have hS:(s.heap.push {cls:=.type "set",dict:=none,data:=.set #[] 0 (.fresh 0 0 (Jnz w))}).get? s.heap.objs.size=some {cls:=.type "set",dict:=none,data:=.set #[] 0 (.fresh 0 0 (Jnz w))}:=yo _ rfl
   have hT:Shared.TypeIs {s with heap:=s.heap.push {cls:=.type "set",dict:=none,data:=.set #[] 0 (.fresh 0 0 (Jnz w))}} (.ref s.heap.objs.size) "set" :=⟨_,hS,rfl⟩
   have g4:=F.called_set.init.lookup
   have g5:=F.called_set.init.bind (.ref s.heap.objs.size)
   repeat (any_goals (first|assumption|wp_step))
   refine codeAny_mono (codeAny_call_builtin (R:=wants (λr s2=>r= .none/\∃h' tk,s2={s with heap:=h',toks:=tk}/\Scp (Jkj prog w) (Jnz w) h' s.heap.objs.size (inZ zs) zs.length/\(∀b o,s.heap.get? b=some o->h'.get? b=some o)) E) F.called_set.init.plain F.entry_set_init (check_set_init_1 hT ?_)) λr2 s2 hr2=>?_
   ·obtain ⟨⟨oc,od,oda,osl⟩,hol,hcl,nl,hdl⟩:=hl
    simp only at hcl hdl
    subst hcl hdl
    have hol':(s.heap.push {cls:=.type "set",dict:=none,data:=.set #[] 0 (.fresh 0 0 (Jnz w))}).get? l=some {cls:=.type "list",dict:=od,data:=.seq items nl,slots:=osl}:=yj _ hol
    have g6:=F.sub_list_set
    have g7:=F.sub_list_frozenset
    have g8:(Value.type "list" ==Value.type "dict")=false:=by decide
    have hl1:(s.heap.push {cls:=.type "set",dict:=none,data:=.set #[] 0 (.fresh 0 0 (Jnz w))}).IsList l items:=⟨_,hol',rfl,nl,rfl⟩
    unfold Builtin.«set.__init__» noKeywords Builtin.Frozenset.updateFrom
    generalize hPI:pyIter=PI
    wp_walk
    subst hPI
    refine wpAny_pyIter_list hl1 (S8 (wpAny_runValue ?_))
    have lS:l < s.heap.objs.size:=yk hol
    have h3:A.in1.in1.in1.handled=none:=by simp [hh]
    have nI:l≠(s.heap.push {cls:=.type "set",dict:=none,data:=.set #[] 0 (.fresh 0 0 (Jnz w))}).objs.size:=by rw [yaf];exact yr (ybx lS)
    have nS:s.heap.objs.size∉ [(s.heap.push {cls:=.type "set",dict:=none,data:=.set #[] 0 (.fresh 0 0 (Jnz w))}).objs.size,l]:=by
     rw [yaf]
     simp only [yn,yx,or_false,not_or]
     exact ⟨yr (ybl _),yax lS⟩
    refine Y9 (Walks.list h3 _ l nI items) s.heap.objs.size nS zs hz hi hb (items.size - 0) 0 _ (by omega) (yam _) ⟨⟨_,yo _ rfl,rfl,rfl⟩,hl1.push _⟩ ?S0 ?R0
    case S0=>
     have q:((s.heap.push {cls:=.type "set",dict:=none,data:=.set #[] 0 (.fresh 0 0 (Jnz w))}).push {cls:=.type "list_iterator",data:=.fields #[.ref l,.int 0 0]}).get? s.heap.objs.size=some {cls:=.type "set",dict:=none,data:=.set #[] 0 (.fresh 0 0 (Jnz w))}:=yj _ hS
     refine ⟨_,#[],0,_,q,⟨rfl,rfl,rfl⟩,rfl,λe he=>by simp at he,λx=>?_,by decide,by rfl,yg _,⟨λ_ i k _ hk=>by simp [SetTable.fresh] at hk,rfl⟩,ycf.nil⟩
     cases x <;> simp [inZ]
    case R0=>
    intro h' tk km hS'
    show Sh _ _ _ _ _ _
    refine S9 ?_
    show Sh _ _ (ret Value.none) _ _ _
    refine S9 ⟨rfl,h',tk,rfl,by rw [hz];exact hS',λb o e=>?_⟩
    have lb:b < s.heap.objs.size:=yk e
    refine km b o (yr lb) ?_ (yj _ (yj _ e))
    rw [yaf]
    simp only [yn,yx,or_false]
    exact yr (ybx lb)
   ·cases r2 with
    |error e=>exact hr2
    |ok fl2=>
     cases fl2 with
     |ret r=>
      obtain ⟨rfl,h',tk,rfl,hS',hk'⟩:=hr2
      repeat (any_goals (first|assumption|wp_step))
      exact h _ _ hS' hk'
     |_=>exact hr2.elim
  |_=>exact hr.elim
end
theorem Sa8:Slot "set_iterator" "__next__" "set_iterator.__next__" :=
 .of (owner:="set_iterator") (n:="__next__") (by rw [typeLookup_type,builtinLookup_eq_fast];kernel_rfl) (by decide +kernel) (by decide +kernel) (by decide +kernel)
  (by first|exact .inl (by decide +kernel)|exact .inr (by decide +kernel)) (by rw [isSubtype_type];kernel_rfl)
theorem Jmz:entryFor table "set_iterator.__next__" =some Builtin.«set_iterator.__next__»:=entryFor_of_tree (by kernel_rfl)
theorem Jvc:Manifest.owners.lookup (String.ofList ['r','o','t','a','r','e','t','i','_','t','e','s'].reverse)=some Manifest.sig_set_iterator:=by kernel_rfl
theorem Jn7 (a:S6):argsOk "set_iterator.__next__" ⟨[a],[]⟩:=by
 unfold argsOk;rw [signature?_of (id:="set_iterator.__next__") (n:=['_','_','t','x','e','n','_','_']) (o:=['r','o','t','a','r','e','t','i','_','t','e','s']) (by kernel_rfl) Jvc];kernel_rfl
theorem Jtq:entryFor table "set.__iter__" =some Builtin.«frozenset.__iter__»:=
 entryFor_alias (id':="frozenset.__iter__") (by kernel_rfl) (by first|rfl|decide +kernel) (by decide +kernel) (by kernel_rfl)
section
variable {M:Model} {A:Se} {E:S6->S7->Prop} {s:S7}
theorem Jq5 {α:Type}:∀{l:List α} {i:Nat} (h:i < l.length),(l[i]::l.eraseIdx i).Perm l
 | [],_,h=>absurd h (ycn _)
 |_::_,0,_=>List.Perm.refl _
 |a::l,i+1,h=>by
  have ih:=Jq5 (l:=l) (i:=i) (by simpa using h)
  show (l[i]'(by simpa using h)::a::l.eraseIdx i).Perm (a::l)
  exact (List.Perm.swap _ _ _).trans (ih.cons a)
theorem Jy7 {src:Source} {n:Nat} {Q:Nat->S7->Prop} (hn:n≠0) (h:∀i d,i < n->Q i {s with drawn:=d}):Sh M A (choose src n) Q E s:=
 λ_ _ _=>⟨hn,h _ _ (Nat.mod_lt _ (Nat.pos_of_ne_zero hn))⟩
theorem Yav {α:Type}:∀(n:Nat) (xs:List α) (s:S7) (Q:List α->S7->Prop),xs.length=n->(∀ys d,ys.Perm xs->Q ys {s with drawn:=d})->Sh M A (drawOrder n xs) Q E s:=by
 intro n
 induction n with
 |zero=>
  intro xs s Q e h
  have:xs= []:=List.length_eq_zero_iff.mp e
  subst this
  unfold drawOrder
  exact S9 (h [] s.drawn (List.Perm.refl _))
 |succ n ih=>
  intro xs s Q e h
  cases xs with
  |nil=>simp at e
  |cons x xs=>
   unfold drawOrder
   refine S8 (Jy7 (by simp) λi d hi=>?_)
   have ei:(x::xs)[i]?=some (x::xs)[i]:=yp hi
   rw [ei]
   refine S8 (ih ((x::xs).eraseIdx i) _ _ (by rw [List.length_eraseIdx_of_lt hi];omega) λys d2 p=>S9 ?_)
   exact h _ d2 ((p.cons _).trans (Jq5 hi))
end
theorem Ydw {α:Type} (next:Nat->Nat):∀(fuel k:Nat) (left:List α) (out:Array α),left.length=fuel->(pickOrder.go next fuel k left out).toList.Perm (out.toList++left):=by
 intro fuel
 induction fuel with
 |zero=>
  intro k left out e
  have:left= []:=List.length_eq_zero_iff.mp e
  subst this
  unfold pickOrder.go
  simp
 |succ fuel ih=>
  intro k left out e
  unfold pickOrder.go
  have lt:next k%left.length < left.length:=Nat.mod_lt _ (by omega)
  rw [yp lt]
  dsimp only
  refine (ih _ _ _ (by rw [List.length_eraseIdx_of_lt lt];omega)).trans ?_
  rw [Array.toList_push,List.append_assoc]
  exact List.Perm.append_left _ (Jq5 lt)
theorem Jrq {α:Type} (next:Nat->Nat) (xs:Array α):(pickOrder next xs).toList.Perm xs.toList:=by
 have:=Ydw next xs.size 0 xs.toList #[] (by simp)
 unfold pickOrder
 simpa using this
section
variable {prog:Sb} {w:Sd} {A:Se} {E:S6->S7->Prop} {s:S7} {it a T:S5} {i ep slot next p m:Nat} {x:S6} {h0:Int} {tk:Tok} {o oT:Obj} {es:Array (Int×S6)} {t:SetTable} {ps:Array S6} {Q:Option S6->S7->Prop}
abbrev Jpt (h:Sg) (it a:S5) (first:S6) (i n ep:Nat):Prop:=h.get? it=some {cls:=.type "set_iterator",dict:=none,data:=.fields #[first,.int i 0,.ref a,.int n 0,.int ep 0],slots:=#[]}
theorem Jvb (hit:Jpt s.heap it a (rawInt slot) i es.size ep) (ho:s.heap.get? a=some o) (hd:o.data= .set es ep t) (hf:t.fits es.size=true)
  (hp:∀(A:Se) (Q:Option (S6×Nat)->S7->Prop) (E:S6->S7->Prop),Q (some (x,next)) s->Sh (model prog w) A (setNext a slot i ep) Q E s)
  (hQ:∀h',Jpt h' it a (rawInt next) (i+1) es.size ep->(∀b o,b≠it->s.heap.get? b=some o->h'.get? b=some o)->Q (some x) {s with heap:=h'}):
  Sh (model prog w) A (pyNext (.ref it)) Q E s:=by
 have hT:s.TypeIs (.ref it) "set_iterator" :=⟨_,hit,rfl⟩
 unfold pyNext
 refine S8 (wpAny_attempt (wpAny_callSpecial?_slot (name:=Str.ofString "__next__") hT Sa8 (wpAny_call_entry Sa8 hT Jmz ?_ (Jn7 _))))
 unfold Builtin.«set_iterator.__next__»
 refine S8 (S9 (S8 (wpAny_fieldsOf hit rfl ?_)))
 show Sh _ _ (setEntries a >>=_) _ _ _
 refine S8 (wpAny_setEntries_of ho hd hf ?_)
 rw [if_neg (by simp)]
 show Sh _ _ (setNext a slot i ep >>=_) _ _ _
 refine S8 (hp _ _ _ ?_)
 show Sh _ _ (setField (.ref it) 0 (rawInt next) >>=_) _ _ _
 refine S8 (wpAny_setField_rec hit (by simp) λh1 he1 sb1=>?_)
 refine S8 (wpAny_setField_rec (s:={s with heap:=h1}) he1 (by simp) λh2 he2 sb2=>?_)
 refine S9 ⟨_,rfl,S9 (hQ h2 ?_ λb o hb e=>(sb2.2 b hb).trans ((sb1.2 b hb).trans e))⟩
 simp [rawInt] at he2
 exact he2
theorem Jxs (hh:A.handled=none) (hit:Jpt s.heap it a (rawInt slot) i es.size ep) (ho:s.heap.get? a=some o) (hd:o.data= .set es ep t) (hf:t.fits es.size=true)
  (hp:∀(A:Se) (Q:Option (S6×Nat)->S7->Prop) (E:S6->S7->Prop),Q none s->Sh (model prog w) A (setNext a slot i ep) Q E s)
  (hQ:∀h',Heap.ExtBut it s.heap h'->Q none {s with heap:=h'}):Sh (model prog w) A (pyNext (.ref it)) Q E s:=by
 have hT:s.TypeIs (.ref it) "set_iterator" :=⟨_,hit,rfl⟩
 unfold pyNext
 refine S8 (wpAny_attempt (wpAny_callSpecial?_slot (name:=Str.ofString "__next__") hT Sa8 (wpAny_call_entry Sa8 hT Jmz ?_ (Jn7 _))))
 unfold Builtin.«set_iterator.__next__»
 refine S8 (S9 (S8 (wpAny_fieldsOf hit rfl ?_)))
 show Sh _ _ (setEntries a >>=_) _ _ _
 refine S8 (wpAny_setEntries_of ho hd hf ?_)
 rw [if_neg (by simp)]
 show Sh _ _ (setNext a slot i ep >>=_) _ _ _
 refine S8 (hp _ _ _ ?_)
 show Sh _ _ (setField (.ref it) 2 .none >>=_) _ _ _
 refine S8 (wpAny_setField hit rfl (by simp) ?_)
 show Sh _ _ (newExc (.type "StopIteration") [] >>=_) _ _ _
 refine S8 ?_
 simp only [newExc,newTuple]
 refine S8 (wpAny_newObj_type ?_ (by size_fits))
 refine S8 (m:=firstArgMember _ _) (wpAny_of_eq (a:=Value.none) (by first|rfl|(simp only [firstArgMember];rfl)) ?_)
 refine wpAny_newObj_type ?_ (by size_fits)
 simp only [raiseNew]
 refine S8 (wpAny_handled ?_)
 rw [show A.in1.handled=none from hh]
 refine S8 (S9 (wpAny_throw ?_))
 refine S8 (wpAny_isInstance (T:="StopIteration") (b:=true) ⟨_,yo _ rfl,rfl⟩ isSubtype_stop ?_)
 exact S9 (hQ _ (((yak.update ..).extBut.push _).push _))
theorem Yx (hit:Jpt s.heap it a (.ref T) i es.size ep) (ho:s.heap.get? a=some o) (hd:o.data= .set es ep t) (hf:t.fits es.size=true) (hT:s.heap.get? T=some oT) (dT:oT.data= .seq ps m)
  (hp:ps[i]?=some (rawInt p)) (hx:es[p]?=some (h0,x)) (hQ:∀h',Jpt h' it a (.ref T) (i+1) es.size ep->(∀b o,b≠it->s.heap.get? b=some o->h'.get? b=some o)->Q (some x) {s with heap:=h'}):
  Sh (model prog w) A (pyNext (.ref it)) Q E s:=by
 have hTy:s.TypeIs (.ref it) "set_iterator" :=⟨_,hit,rfl⟩
 unfold pyNext
 refine S8 (wpAny_attempt (wpAny_callSpecial?_slot (name:=Str.ofString "__next__") hTy Sa8 (wpAny_call_entry Sa8 hTy Jmz ?_ (Jn7 _))))
 unfold Builtin.«set_iterator.__next__»
 refine S8 (S9 (S8 (wpAny_fieldsOf hit rfl ?_)))
 show Sh _ _ (setEntries a >>=_) _ _ _
 refine S8 (wpAny_setEntries_of ho hd hf ?_)
 rw [if_neg (by simp)]
 show Sh _ _ (seqItems? (.ref T) >>=_) _ _ _
 refine S8 (wpAny_seqItems hT dT ?_)
 dsimp only
 rw [show ((i:Nat):Int).toNat=i from ybh i,hp]
 show Sh _ _ (setNextDrawn a p ep >>=_) _ _ _
 unfold setNextDrawn
 refine S8 (S8 (wpAny_setState_of ho hd hf ?_))
 dsimp only
 rw [if_neg (by simp),hx]
 refine S9 ?_
 show Sh _ _ (setField (.ref it) 1 (rawInt ((i:Int)+1)) >>=_) _ _ _
 refine S8 (wpAny_setField_rec hit (by simp) λh1 he1 sb1=>?_)
 refine S9 ⟨_,rfl,S9 (hQ h1 ?_ λb o hb e=>(sb1.2 b hb).trans e)⟩
 simp [rawInt] at he1
 exact he1
theorem Yc8 (hh:A.handled=none) (hit:Jpt s.heap it a (.ref T) i es.size ep) (ho:s.heap.get? a=some o) (hd:o.data= .set es ep t) (hf:t.fits es.size=true) (hT:s.heap.get? T=some oT) (dT:oT.data= .seq ps m)
  (hp:ps[i]?=none) (hQ:∀h',Heap.ExtBut it s.heap h'->Q none {s with heap:=h'}):Sh (model prog w) A (pyNext (.ref it)) Q E s:=by
 have hTy:s.TypeIs (.ref it) "set_iterator" :=⟨_,hit,rfl⟩
 unfold pyNext
 refine S8 (wpAny_attempt (wpAny_callSpecial?_slot (name:=Str.ofString "__next__") hTy Sa8 (wpAny_call_entry Sa8 hTy Jmz ?_ (Jn7 _))))
 unfold Builtin.«set_iterator.__next__»
 refine S8 (S9 (S8 (wpAny_fieldsOf hit rfl ?_)))
 show Sh _ _ (setEntries a >>=_) _ _ _
 refine S8 (wpAny_setEntries_of ho hd hf ?_)
 rw [if_neg (by simp)]
 show Sh _ _ (seqItems? (.ref T) >>=_) _ _ _
 refine S8 (wpAny_seqItems hT dT ?_)
 dsimp only
 rw [show ((i:Nat):Int).toNat=i from ybh i,hp]
 show Sh _ _ (setField (.ref it) 0 (rawInt 0) >>=_) _ _ _
 refine S8 (wpAny_setField_rec hit (by simp) λh1 he1 sb1=>?_)
 refine S8 (wpAny_setField (s:={s with heap:=h1}) he1 rfl (by simp) ?_)
 show Sh _ _ (newExc (.type "StopIteration") [] >>=_) _ _ _
 refine S8 ?_
 simp only [newExc,newTuple]
 refine S8 (wpAny_newObj_type ?_ (by size_fits))
 refine S8 (m:=firstArgMember _ _) (wpAny_of_eq (a:=Value.none) (by first|rfl|(simp only [firstArgMember];rfl)) ?_)
 refine wpAny_newObj_type ?_ (by size_fits)
 simp only [raiseNew]
 refine S8 (wpAny_handled ?_)
 rw [show A.in1.handled=none from hh]
 refine S8 (S9 (wpAny_throw ?_))
 refine S8 (wpAny_isInstance (T:="StopIteration") (b:=true) ⟨_,yo _ rfl,rfl⟩ isSubtype_stop ?_)
 exact S9 (hQ _ (((sb1.trans (yak.update ..)).extBut.push _).push _))
end
section
variable {prog:Sb} {w:Sd} {A:Se} {E:S6->S7->Prop} {s:S7} {it a:S5} {i ep slot:Nat} {o:Obj} {es:Array (Int×S6)} {t:SetTable}
theorem Jpe {Q:Bool->S7->Prop} (h:Q (w.params.followText "set-order") s):Sh (model prog w) A setsByText Q E s:=by
 unfold setsByText
 exact S8 (wpAny_askSetting (S9 h))
theorem Jv5 {Q:Option (S6×Nat)->S7->Prop} (hb:w.params.followText "set-order" =true) (ho:s.heap.get? a=some o) (hd:o.data= .set es ep t) (hf:t.fits es.size=true)
  (h:Q (((pickOrder (w.params.setOrder a ep) es)[i]?).map λe=>(e.2,slot)) s):Sh (model prog w) A (setNext a slot i ep) Q E s:=by
 unfold setNext
 refine S8 (wpAny_setState_of ho hd hf ?_)
 dsimp only
 refine S8 (Jpe ?_)
 rw [hb,if_pos rfl,if_neg (by simp)]
 unfold setWalk
 refine S8 (S8 (wpAny_setState_of ho hd hf ?_))
 dsimp only
 refine S8 (Jpe ?_)
 rw [hb,if_pos rfl]
 exact S8 (wpAny_askSetting (S9 (S9 h)))
theorem Jt8 {Q:Option (S6×Nat)->S7->Prop} (hb:w.params.followText "set-order" =false) (ho:s.heap.get? a=some o) (hd:o.data= .set es ep t) (hf:t.fits es.size=true) (hl:t.led=true) (hp:(!t.plain&&decide (es.size > 1))=false)
  (h:Q (match es[SetTable.below t.place slot]?,t.place[SetTable.below t.place slot]? with|some (_,x),some j=>some (x,j+1)|_,_=>none) s):Sh (model prog w) A (setNext a slot i ep) Q E s:=by
 unfold setNext
 refine S8 (wpAny_setState_of ho hd hf ?_)
 dsimp only
 refine S8 (Jpe ?_)
 rw [hb,if_neg (by simp)]
 refine wpAny_ite_split (λhab=>?_) (λ_=>?_)
 ·have q:(!t.plain&&decide (es.size > 1))=true:=hab
  rw [hp] at q
  cases q
 refine S8 ?_
 refine wpAny_ite_split (λhab=>?_) (λ_=>S9 (S9 h))
 have q:(!t.led&&!es.isEmpty)=true:=hab
 rw [hl] at q
 cases q
end
theorem Jq2:Slot "set_iterator" "__iter__" "set_iterator.__iter__" :=
 .of (owner:="set_iterator") (n:="__iter__") (by rw [typeLookup_type,builtinLookup_eq_fast];kernel_rfl) (by decide +kernel) (by decide +kernel) (by decide +kernel)
  (by first|exact .inl (by decide +kernel)|exact .inr (by decide +kernel)) (by rw [isSubtype_type];kernel_rfl)
theorem Jtr:entryFor table "set_iterator.__iter__" =some Builtin.«dict_keyiterator.__iter__»:=
 entryFor_alias (id':="dict_keyiterator.__iter__") (by kernel_rfl) (by first|rfl|decide +kernel) (by decide +kernel) (by kernel_rfl)
theorem Juj (a:S6):argsOk "set_iterator.__iter__" ⟨[a],[]⟩:=by
 unfold argsOk;rw [signature?_of (id:="set_iterator.__iter__") (n:=['_','_','r','e','t','i','_','_']) (o:=['r','o','t','a','r','e','t','i','_','t','e','s']) (by kernel_rfl) Jvc];kernel_rfl
section
variable {prog:Sb} {w:Sd} {A:Se} {E:S6->S7->Prop} {s:S7} {it a:S5}
theorem Jts {first:S6} {i n ep:Nat} {Q:S6->S7->Prop} (hit:Jpt s.heap it a first i n ep) (h:Q (.ref it) s):Sh (model prog w) A (pyIter (.ref it)) Q E s:=by
 have hT:s.TypeIs (.ref it) "set_iterator" :=⟨_,hit,rfl⟩
 refine wpAny_pyIter_slot hT Jq2 (wpAny_call_entry Jq2 hT Jtr ?_ (Juj _))
 show Sh _ _ (ret (.ref it)) _ _ s
 exact S9 ⟨_,rfl,"set_iterator",_,hT,Sa8.lookup,h⟩
end
section
variable {prog:Sb} {w:Sd} {A:Se} {it a T:S5} {ep m:Nat} {o oT:Obj} {es:Array (Int×S6)} {t:SetTable} {ps:Array S6}
structure Jsm (w:Sd) (o:Obj) (es:Array (Int×S6)) (ep:Nat) (t:SetTable):Prop where
 data:o.data= .set es ep t
 fits:t.fits es.size=true
 good:Jps (Jnz w) t
def atV (l:List (Int×S6)) (i:Nat) (v:S6):Prop:=(l.map (·.2))[i]?=some v
theorem Yaa (hh:A.handled=none) (hb:w.params.followText "set-order" =true) (S:Jsm w o es ep t) (ne:a≠it):
  Walks prog w A it [it,a] [it] es.size (atV (pickOrder (w.params.setOrder a ep) es).toList) (λi h=>h.get? a=some o/\Jpt h it a (rawInt (0:Nat)) i es.size ep) where
 sub:=λb hb=>by simp at hb;simp [hb]
 frame:=λi h h' st k=>⟨k a (by simp) _ st.1,k it (by simp) _ st.2⟩
 item:=λi s Q E hi st hQ=>by
  have hl:(pickOrder (w.params.setOrder a ep) es).toList.length=es.size:=(Jrq _ es).length_eq.trans (by simp)
  have hs:i < (pickOrder (w.params.setOrder a ep) es).size:=by simpa [<-hl] using hi
  refine Jvb (x:=(pickOrder (w.params.setOrder a ep) es)[i].2) (next:=0) st.2 st.1 S.data S.fits (λA Q E h=>Jv5 hb st.1 S.data S.fits (by rw [yco hs];exact h)) λh' e1 k1=>?_
  exact hQ _ h' s.toks (by show ((pickOrder (w.params.setOrder a ep) es).toList.map (·.2))[i]?=_;simp [hs]) ⟨k1 a _ ne st.1,e1⟩ λb o' hb' q=>k1 b o' (by simpa using hb') q
 done:=λs Q E st hQ=>by
  have hl:(pickOrder (w.params.setOrder a ep) es).toList.length=es.size:=(Jrq _ es).length_eq.trans (by simp)
  refine Jxs hh st.2 st.1 S.data S.fits (λA Q E h=>Jv5 hb st.1 S.data S.fits (by rw [Array.getElem?_eq_none (by rw [<-hl];simp)];exact h)) λh' eb=>?_
  exact hQ h' s.toks λb o' hb' q=>eb b o' (by simpa using hb') q
 self:=λi s Q E st h=>Jts st.2 h
def nxt (t:SetTable) (i:Nat):Nat:=if i=0 then 0 else t.place.getD (i - 1) 0+1
theorem Jul {i:Nat} (rs:Jq3 t.place) (hi:i<=t.place.size):SetTable.below t.place (nxt t i)=i:=by
 unfold nxt
 by_cases z:i=0
 ·rw [if_pos z,z]
  exact Jy4 rs
 ·rw [if_neg z,Jy3 rs (by omega)]
  omega
theorem Jz9 (hh:A.handled=none) (hb:w.params.followText "set-order" =false) (S:Jsm w o es ep t) (hp:(!t.plain&&decide (es.size > 1))=false) (ne:a≠it):
  Walks prog w A it [it,a] [it] es.size (atV es.toList) (λi h=>h.get? a=some o/\Jpt h it a (rawInt (nxt t i)) i es.size ep) where
 sub:=λb hb=>by simp at hb;simp [hb]
 frame:=λi h h' st k=>⟨k a (by simp) _ st.1,k it (by simp) _ st.2⟩
 item:=λi s Q E hi st hQ=>by
  have sz:t.place.size=es.size:=by have:=S.fits;simp [SetTable.fits] at this;exact this.1
  have rs:Jq3 t.place:=by
   cases hpl:t.plain with
   |true=>exact S.good.1 hpl
   |false=>
    rw [hpl] at hp
    simp at hp
    exact λi k ik hk=>by omega
  have led:t.led=true:=by rw [S.good.2];unfold Jnz;rw [hb];rfl
  have hi':i < t.place.size:=by rw [sz];exact hi
  refine Jvb (x:=es[i].2) (next:=nxt t (i+1)) st.2 st.1 S.data S.fits (λA Q E h=>Jt8 hb st.1 S.data S.fits led hp ?_) λh' e1 k1=>?_
  ·rw [Jul rs (yap hi'),yco hi,yco hi']
   have e:nxt t (i+1)=t.place[i]+1:=by unfold nxt;rw [if_neg (Nat.succ_ne_zero _)];simp [ybp,hi']
   rw [e] at h
   exact h
  ·exact hQ _ h' s.toks (by show (es.toList.map (·.2))[i]?=_;simp [hi]) ⟨k1 a _ ne st.1,e1⟩ λb o' hb' q=>k1 b o' (by simpa using hb') q
 done:=λs Q E st hQ=>by
  have sz:t.place.size=es.size:=by have:=S.fits;simp [SetTable.fits] at this;exact this.1
  have rs:Jq3 t.place:=by
   cases hpl:t.plain with
   |true=>exact S.good.1 hpl
   |false=>
    rw [hpl] at hp
    simp at hp
    exact λi k ik hk=>by omega
  have led:t.led=true:=by rw [S.good.2];unfold Jnz;rw [hb];rfl
  refine Jxs hh st.2 st.1 S.data S.fits (λA Q E h=>Jt8 hb st.1 S.data S.fits led hp ?_) λh' eb=>?_
  ·rw [Jul rs (by omega),Array.getElem?_eq_none (yg _)]
   exact h
  ·exact hQ h' s.toks λb o' hb' q=>eb b o' (by simpa using hb') q
 self:=λi s Q E st h=>Jts st.2 h
theorem Jz8 (hh:A.handled=none) (S:Jsm w o es ep t) {ns:List Nat} (pm:ns.Perm (yv es.size)) (dT:oT.data= .seq (ns.map λi:Nat=>rawInt i).toArray m) (ne:a≠it) (nT:T≠it):
  Walks prog w A it [it,a,T] [it] es.size (atV (ns.filterMap (es[·]?))) (λi h=>h.get? a=some o/\h.get? T=some oT/\Jpt h it a (.ref T) i es.size ep) where
 sub:=λb hb=>by simp at hb;simp [hb]
 frame:=λi h h' st k=>⟨k a (by simp) _ st.1,k T (by simp) _ st.2.1,k it (by simp) _ st.2.2⟩
 item:=λi s Q E hi st hQ=>by
  have hl:ns.length=es.size:=by rw [pm.length_eq,yaw]
  have hi':i < ns.length:=by rw [hl];exact hi
  have hm:ns[i] < es.size:=yae.mp (pm.mem_iff.mp (ycg hi'))
  refine Yx (p:=ns[i]) (x:=es[ns[i]].2) (h0:=es[ns[i]].1) st.2.2 st.1 S.data S.fits st.2.1 dT (by simp [hi']) (by rw [yco hm]) λh' e1 k1=>?_
  refine hQ _ h' s.toks ?_ ⟨k1 a _ ne st.1,k1 T _ nT st.2.1,e1⟩ λb o' hb' q=>k1 b o' (by simpa using hb') q
  show ((ns.filterMap (es[·]?)).map (·.2))[i]?=_
  have all:∀(l:List Nat),(∀x∈l,x < es.size)->(l.filterMap (es[·]?)).map (·.2)=l.map λx=>(es.getD x (0,.none)).2:=by
   intro l
   induction l with
   |nil=>intro _;rfl
   |cons x l ih=>
    intro hx
    have lx:=hx x (yar ..)
    rw [ycq,yco lx,yas,yas,ih λy hy=>hx y (yaq _ hy)]
    simp [ybp,lx]
  rw [all ns λx hx=>yae.mp (pm.mem_iff.mp hx)]
  simp [hi',ybp,hm]
 done:=λs Q E st hQ=>by
  have hl:ns.length=es.size:=by rw [pm.length_eq,yaw]
  refine Yc8 hh st.2.2 st.1 S.data S.fits st.2.1 dT (by simp [hl]) λh' eb=>?_
  exact hQ h' s.toks λb o' hb' q=>eb b o' (by simpa using hb') q
 self:=λi s Q E st h=>Jts st.2.2 h
end
section
variable {prog:Sb} {w:Sd} {A:Se} {E:S6->S7->Prop} {s:S7} {a:S5} {ep:Nat} {o:Obj} {es:Array (Int×S6)} {t:SetTable}
theorem Yc5 {A':Se} (hh:A'.handled=none) (ho:s.heap.get? a=some o) (hex:o.ExactSet) (S:Jsm w o es ep t) (hz:es.size<=Sa) {Q:S6->S7->Prop}
  (h:∀(h1:Sg) (d1:Drawn) (it:S5) (fp:List S5) (ord:List (Int×S6)) (St:Nat->Sg->Prop),ord.Perm es.toList->(∀b o,s.heap.get? b=some o->h1.get? b=some o)->s.heap.objs.size<=it->(∀b∈fp,b=a\/s.heap.objs.size<=b)->
   Walks prog w A' it fp [it] es.size (atV ord) St->St 0 h1->Q (.ref it) {s with heap:=h1,drawn:=d1}):
  Sh (model prog w) A (pyIter (.ref a)) Q E s:=by
 have hT:s.TypeIs (.ref a) "set" :=⟨o,ho,hex.1⟩
 refine wpAny_pyIter_slot hT PySem.F.slot_set_iter (wpAny_call_entry PySem.F.slot_set_iter hT Jtq ?_ (PySem.F.args_set_iter_1 _))
 unfold Builtin.«frozenset.__iter__»
 refine S8 ?_
 unfold Builtin.Frozenset.slot0
 refine S8 (S9 (S9 ?_))
 refine S8 ?_
 unfold Builtin.Frozenset.sizeOf
 refine S8 (wpAny_setEntries_of ho S.data S.fits (S9 ?_))
 refine S8 ?_
 unfold setDrawn
 refine S8 (wpAny_setState_of ho S.data S.fits ?_)
 dsimp only
 refine S8 (Jpe (S9 ?_))
 have lt:a < s.heap.objs.size:=yk ho
 refine wpAny_ite_split (λhab=>?_) (λhab=>?_)
 ·have q:(!w.params.followText "set-order" &&(!t.plain&&decide (es.size > 1)))=true:=hab
  refine S8 (Yav es.size (yv es.size) _ _ (by simp) λns d pm=>?_)
  have hl:ns.length=es.size:=by rw [pm.length_eq,yaw]
  unfold newTuple
  refine S8 (wpAny_newObj_type ?_ (show (ns.map λi:Nat=>rawInt i).toArray.size<=Sa by simp;omega))
  refine S8 (wpAny_setEpoch_of (yj _ ho) S.data S.fits ?_)
  unfold newFields
  refine S8 (wpAny_newObj_type ?_ (by size_fits))
  refine S9 ⟨_,rfl,"set_iterator",_,⟨_,yo _ rfl,rfl⟩,Sa8.lookup,?_⟩
  refine h _ d _ _ (ns.filterMap (es[·]?)) _ ?_ (λb o e=>yj _ (yj _ e)) ?_ ?_ (Jz8 (T:=s.heap.objs.size) hh S pm rfl ?_ ?_) ⟨yj _ (yj _ ho),yj _ (yo _ rfl),yo _ rfl⟩
  ·have e:(yv es.size).filterMap (es[·]?)=es.toList:=by
    refine List.ext_getElem? λi=>?_
    have all:∀(n:Nat),n<=es.size->(yv n).filterMap (es[·]?)=es.toList.take n:=by
     intro n
     induction n with
     |zero=>intro _;rfl
     |succ n ih=>
      intro hn
      rw [ybq,List.filterMap_append,ih (by omega),yan]
      simp [show n < es.size by omega]
    rw [all es.size (yg _),yat (by simp)]
   rw [<-e]
   exact pm.filterMap _
  ·simp
  ·intro b hb
   simp at hb
   rcases hb with rfl|rfl|rfl
   ·right;simp
   ·left;rfl
   ·right;exact yg _
  ·rw [yaf]
   exact yr (ybx lt)
  ·rw [yaf]
   exact yr (ybl _)
 ·have q:¬((!w.params.followText "set-order" &&(!t.plain&&decide (es.size > 1)))=true):=hab
  refine S8 (S9 (S8 (wpAny_setEpoch_of ho S.data S.fits ?_)))
  unfold newFields
  refine S8 (wpAny_newObj_type ?_ (by size_fits))
  refine S9 ⟨_,rfl,"set_iterator",_,⟨_,yo _ rfl,rfl⟩,Sa8.lookup,?_⟩
  have fpk:∀b∈ [s.heap.objs.size,a],b=a\/s.heap.objs.size<=b:=λb hb=>by
   simp at hb
   rcases hb with rfl|rfl
   ·right;exact yg _
   ·left;rfl
  cases hb:w.params.followText "set-order" with
  |true=>exact h _ s.drawn _ _ _ _ (Jrq _ es) (λb o e=>yj _ e) (yg _) fpk (Yaa hh hb S (yr lt)) ⟨yj _ ho,yo _ rfl⟩
  |false=>
   rw [hb] at q
   exact h _ s.drawn _ _ _ _ (List.Perm.refl _) (λb o e=>yj _ e) (yg _) fpk (Jz9 hh hb S (by simpa using q) (yr lt)) ⟨yj _ ho,yo _ rfl⟩
end
end L2
namespace L2
open PySem PySem.Spec PyProof.Rows PySem.W PySem.Calls
section
variable {prog:Sb} {w:Sd} {A:Se} {E:S6->S7->Prop} {s:S7} {a:S5} {ep:Nat} {o:Obj} {es:Array (Int×S6)} {t:SetTable}
theorem Yc3 {Q:Bool->S7->Prop} (hT:s.TypeIs (.ref a) "set") (h:Q false s):Sh (model prog w) A (Builtin.List.listLengthHint (.ref a)) Q E s:=by
 unfold Builtin.List.listLengthHint
 refine S8 (wpAny_specialOf hT PySem.F.slot_set_len.lookup ?_)
 generalize hid:("set.__len__" :String)=id0
 wp_delta
 rw [show splitId id0=some ("set","__len__") from by subst hid;decide +kernel]
 subst hid
 refine S8 (wpAny_isInstance (T:="set") (b:=true) hT (by rw [isSubtype_type];kernel_rfl) ?_)
 refine wpAny_ite_split (λhab=>absurd hab (by decide)) (λ_=>?_)
 refine wpAny_ite_split (λ_=>?_) (λhab=>absurd (by decide +kernel) hab)
 refine S8 (wpAny_typeOf hT ?_)
 exact S9 h
theorem Jyy {R:Result->S7->Prop} (hh:A.handled=none) (ho:s.heap.get? a=some o) (hex:o.ExactSet) (S:Jsm w o es ep t) (hz:es.size<=Sa) (L:S5) (hLa:L≠a) (res:S6) (hL:s.heap.get? L=some {cls:=.type "list",data:=.seq #[]})
  (hR:∀h' d tk acc c ord,ord.Perm es.toList->(∀b o,b≠L->s.heap.get? b=some o->h'.get? b=some o)->h'.get? L=some {cls:=.type "list",dict:=none,data:=.seq acc c,slots:=#[]}->ItemsOf (atV ord) acc es.size->R (.ok (.ret res)) {s with heap:=h',toks:=tk,drawn:=d}):
  Sh (model prog w) A.in1 (Builtin.List.listExtendWith (.ref L) (.ref a) res)
   (λfin s'=>match fin with| .done f=>R (.ok f) s'| .again c'=>c'.quiet=true/\codeAny (model prog w) A c' R s') (λe s'=>R (.error e) s') s:=by
 have hT:s.TypeIs (.ref a) "set" :=⟨o,ho,hex.1⟩
 unfold Builtin.List.listExtendWith
 refine S8 (wpAny_typeOf hT ?_)
 have h1:Builtin.List.listSameRef (.ref L) (.ref a)=false:=by simp [Builtin.List.listSameRef,hLa]
 rw [if_neg (by rw [h1];decide)]
 refine S8 (Yc5 (A':=A.in1) hh ho hex S hz λh1 d1 it fp ord St pm kp li hfp W st=>?_)
 have lL:L < s.heap.objs.size:=yk hL
 have hLf:L∉fp:=λq=>(hfp L q).elim hLa λz=>absurd lL (yav.mpr z)
 have key:∀(h:Sg) (c:Nat),St 0 h->(∀b o,b≠L->s.heap.get? b=some o->h.get? b=some o)->h.get? L=some {cls:=.type "list",data:=.seq #[] c}->
   codeAny (model prog w) A (.builtin "list.extend.loop" ⟨[.ref L,.ref it,res],[]⟩) R {s with heap:=h,drawn:=d1}:=by
  intro h c hst hk hL1
  refine codeAny_extend_loopS W.toS hz L hLf res es.size 0 _ #[] c rfl (yam _) hst hL1 (ItemsOf.nil _) λs' acc' c' hm hS' hacc=>?_
  rw [Moved.eq_with hm]
  refine hR s'.heap d1 s'.toks acc' c' ord pm (λb o hb e=>hm.heap b o (λhmem=>?_) (hk b o hb e)) hS' hacc
  rcases yn.mp hmem with e'|hmem
  ·exact hb e'
  ·exact absurd (yk e) (by rw [ybd.mp hmem];exact yav.mpr li)
 have hL1:=kp L _ hL
 refine S8 (wpAny_holding (Yc3 ⟨o,kp _ _ ho,hex.1⟩ ?_))
 refine wpAny_ite_split (λ_=>?_) (λ_=>S9 ⟨plainId_quiet PySem.F.plain_extend_loop _,key _ 0 st (λb o _ e=>kp b o e) hL1⟩)
 refine S8 (wpAny_rule ?_)
 refine S8 ?_
 show Sh _ _ (updateSeq L (·.push .none) >>=λ_=>updateSeq L (·.pop)) _ _ _
 refine S8 (wpAny_updateSeq hL1 rfl ?_)
 have hS₂:=ybn (Obj.mapSeq (·.push Value.none)) hL1 rfl
 refine wpAny_updateSeq (hz:=by seq_fits) hS₂ rfl ?_
 have hS₃:=ybn (Obj.mapSeq (·.pop)) hS₂ rfl
 refine S9 ⟨plainId_quiet PySem.F.plain_extend_loop _,key _ _ ?_ (λb o hb e=>?_) hS₃⟩
 ·refine W.frame 0 _ _ st λb hb o e=>?_
  have hbS:b≠L:=λh=>hLf (h▸hb)
  exact (ybb _ _ (yi hbS)).trans ((ybb _ _ (yi hbS)).trans e)
 ·exact (ybb _ _ (yi hb)).trans ((ybb _ _ (yi hb)).trans (kp b o e))
theorem Jxr {R:List S6->S7->Prop} (hh:A.handled=none) (ho:s.heap.get? a=some o) (hex:o.ExactSet) (S:Jsm w o es ep t) (hz:es.size<=Sa)
  (h:∀h' d tk acc ord,ord.Perm es.toList->(∀b o,s.heap.get? b=some o->h'.get? b=some o)->s.heap.objs.size < h'.objs.size->ItemsOf (atV ord) acc es.size->R acc.toList {s with heap:=h',toks:=tk,drawn:=d}):Sh (model prog w) A (collect (.ref a)) R E s:=by
 have lt:a < s.heap.objs.size:=yk ho
 unfold collect
 refine S8 (wpAny_runValue (codeAny_builtin entry_proto_collect' ?_))
 rw [Around.under_plainId PySem.F.plain_proto_collect _]
 show Sh _ A.in1 (newList [] >>=λl=>again (.builtin "list.__iadd__" ⟨[l,.ref a],[]⟩)) _ _ s
 refine S8 (wpAny_newObj_type ?_)
 refine S9 ⟨plainId_quiet PySem.F.plain_list_iadd _,codeAny_builtin entry_list_iadd' ?_⟩
 rw [Around.under_plainId PySem.F.plain_list_iadd _]
 show Sh _ A.in1 (Builtin.List.listExtendWith (.ref s.heap.objs.size) (.ref a) (.ref s.heap.objs.size)) _ _ _
 have key:=Jyy (prog:=prog) (A:=A) (s:={s with heap:=s.heap.push {cls:=.type "list",data:=.seq ([]:List S6).toArray}})
  (R:=λ(q:Result) (s':S7)=>∃(h':Sg) (d:Drawn) (tk:Nat) (acc:Array S6) (c:Nat) (ord:List (Int×S6)),q= .ok (.ret (.ref s.heap.objs.size))/\s'={s with heap:=h',toks:=tk,drawn:=d}/\ord.Perm es.toList/\
   (∀b o,s.heap.get? b=some o->h'.get? b=some o)/\h'.get? s.heap.objs.size=some {cls:=.type "list",dict:=none,data:=.seq acc c,slots:=#[]}/\ItemsOf (atV ord) acc es.size)
  hh (yj _ ho) hex S hz s.heap.objs.size (yax lt) (.ref s.heap.objs.size) (yo _ rfl)
  (λh' d tk acc c ord pm hk hS' hacc=>⟨h',d,tk,acc,c,ord,rfl,rfl,pm,λb o e=>hk b o (yr (yk e)) (yj _ e),hS',hacc⟩)
 refine wpAny_mono key (λfin s' x=>?_) λe s' x=>?_
 ·cases fin with
  |done f=>
   obtain ⟨h',d,tk,acc,c,ord,e,rfl,pm,hk,hS',hacc⟩:=x
   cases e
   show Sh _ A (load s.heap.objs.size >>=_) _ _ _
   refine S8 (wpAny_load hS' ?_)
   exact S9 (h h' d tk acc ord pm hk (yk hS') hacc)
  |again c₁=>
   refine ⟨x.1,codeAny_mono x.2 λq s₂ y=>?_⟩
   obtain ⟨h',d,tk,acc,c,ord,rfl,rfl,pm,hk,hS',hacc⟩:=y
   show Sh _ A (load s.heap.objs.size >>=_) _ _ _
   refine S8 (wpAny_load hS' ?_)
   exact S9 (h h' d tk acc ord pm hk (yk hS') hacc)
 ·obtain ⟨_,_,_,_,_,_,e',_⟩:=x
  cases e'
theorem Ya {l l':List S6} (p:l.Perm l'):∀{ns:List Int},IntsAre l' ns->∃ns1,IntsAre l ns1/\ns1.Perm ns:=by
 induction p with
 |nil=>intro ns h;cases h;exact ⟨[],.nil,.nil⟩
 |cons x _ ih=>
  intro ns h
  cases h with
  |cons n t h=>
   obtain ⟨ns1,a1,a2⟩:=ih h
   exact ⟨n::ns1,.cons n t a1,a2.cons n⟩
 |swap x y l=>
  intro ns h
  cases h with
  |cons n t h=>
   cases h with
   |cons m u h=>exact ⟨_,.cons m u (.cons n t h),List.Perm.swap ..⟩
 |trans _ _ ih1 ih2=>
  intro ns h
  obtain ⟨n2,a1,a2⟩:=ih2 h
  obtain ⟨n1,b1,b2⟩:=ih1 a1
  exact ⟨n1,b1,b2.trans a2⟩
theorem Jz0 {ns:List Int} {Q:S6->S7->Prop} (hh:A.handled=none) (ho:s.heap.get? a=some o) (hex:o.ExactSet) (S:Jsm w o es ep t) (h64:es.size < 64) (hI:IntsAre (es.toList.map (·.2)) ns)
  (h:∀h' d tk D c (out:Array S6) (ns':List Int),(∀b o,s.heap.get? b=some o->h'.get? b=some o)->s.heap.objs.size<=D->h'.get? D=some {cls:=.type "list",data:=.seq out c}->IntsAre out.toList ns'->ns'.Perm ns->ns'.Pairwise (·<=·)->
   Q (.ref D) {s with heap:=h',toks:=tk,drawn:=d}):Sh (model prog w) A (call (.builtin "sorted") [.ref a]) Q E s:=by
 have hz:es.size<=Sa:=by rw [sizeLine_eq];omega
 refine Calls.call_function_entry kind_sorted plain_sorted entry_sorted (args_sorted1 _) ?_
 unfold Builtin.«sorted»
 refine S8 (m:=checkCount "sorted" 1 1 _) (S9 ?_)
 refine S8 (Jxr (A:=A.in1) hh ho hex S hz λh1 d tk acc ord pm kp lt hI1=>?_)
 have hl:acc.toList.length=es.size:=by rw [ybj];exact hI1.1
 have ea:acc.toList=ord.map (·.2):=by
  refine List.ext_getElem? λi=>?_
  by_cases lt:i < acc.toList.length
  ·have e1:acc.toList[i]?=some acc.toList[i]:=yp lt
   have e2:acc[i]?=some acc.toList[i]:=by rw [<-Array.getElem?_toList];exact e1
   rw [e1]
   exact (hI1.2 i _ e2).symm
  ·rw [List.getElem?_eq_none (yav.mp lt),List.getElem?_eq_none]
   rw [yf,pm.length_eq,ybj]
   omega
 obtain ⟨ns1,hI2,p2⟩:∃ns1,IntsAre acc.toList ns1/\ns1.Perm ns:=by
  rw [ea]
  exact Ya (pm.map (·.2)) hI
 refine S8 (wpAny_newList ?_ (by rw [hl];exact hz))
 have hoL:(h1.push (seqObj "list" acc.toList.toArray 0)).get? h1.objs.size=some (seqObj "list" acc.toList.toArray 0):=yo _ rfl
 refine S8 (wpAny_holding (wpAny_call_entry slot_list_sort ⟨_,hoL,rfl⟩ entry_list_sort (list_sort_tree hoL hI2 (by rw [hl];exact h64) λout ns' a1 a2 a3=>⟨_,rfl,?_⟩) (args_list_sort _)))
 refine S9 ⟨_,rfl,?_⟩
 obtain ⟨c,e⟩:=sortedHeap_at (h:=h1.push (seqObj "list" acc.toList.toArray 0)) (vs:=acc.toList) (out:=out) (n:=0) hoL
 exact h _ d tk h1.objs.size c out ns' (λb o q=>by
  have lb:b < h1.objs.size:=yk (kp b o q)
  rw [sortedHeap_old (yr lb) (by rw [size_push'];exact ybx lb),Heap.get?_push_ne _ _ _ (yr lb)]
  exact kp b o q) (yap lt) e a1 (a2.trans p2) a3
end
end L2
namespace L2
open PySem PySem.Spec PyProof.Rows PySem.W
def ZS (P:Sb) (w:Sd) (a:S5) (zs:List Int):HO:=.ext λh=>Scp (Jkj P w) (Jnz w) h a (inZ zs) zs.length
theorem Spw {P:Sb} {w:Sd} {H:Hp} {h:Sg} {a:S5} {zs:List Int} (hS:Scp (Jkj P w) (Jnz w) h a (inZ zs) zs.length):Sa7 P w H h a (ZS P w a zs):=
 ⟨hS,(let ⟨o,_,_,_,ho,_⟩:=hS;⟨o,ho⟩),λ_ _ p k=>p.at k λ_=>rfl⟩
theorem Su.drew {X:Cx} {pins:List (S5×Obj)} {σ:St} {H:Hp} {s:S7} (d:Drawn) (I:Su X pins σ H s):Su X pins σ H {s with drawn:=d}:=
 ⟨I.ok,I.os,I.bare,I.base,I.loc,I.cell,I.free,I.freeC,I.pin,I.hok,I.len⟩
section
variable {X:Cx}
theorem Jtz {K:Si} (hK:X.K=K) (hc:X.calm=true):Jmd X (.type "set") (λxs H Q=>∃(l:S5) (zs:List Int),xs= [.ref l]/\Sw K H l (zs.map V.int)/\zs.length<=50/\∀a,H a=none->Q (.ref a) (upd H a (ZS X.prog X.w a zs))):=by
 subst hK
 intro pins s σ H xs us Q I r h
 obtain ⟨l,zs,rfl,hq,hz,q⟩:=h
 obtain ⟨u,rfl,ru⟩:=Jnc r
 obtain rfl:u=Value.ref l:=ru
 obtain ⟨its,rv,pl,_⟩:=I.list hq
 have hlen:=rv.length
 rw [yf] at hlen
 refine Yc4 (zs:=zs) (I.ok.hd hc) pl.isList (by simpa using hlen) (λi v hv=>?_) (by simp only [yu];unfold scanBound;omega) λh' tk hS kk=>
  ⟨.ref s.heap.objs.size,_,I.laid (a:=s.heap.objs.size) (o:=ZS X.prog X.w s.heap.objs.size zs) (t':=tk) kk (yg _) (Spw hS),rfl,q _ (I.hok.fresh (yg _))⟩
 have hv':its[i]?=some v:=by simpa using hv
 have hlt:i < zs.length:=by have:=(yq.mp hv').1;omega
 obtain ⟨u,hu,ru⟩:=rv.get (i:=i) (x:=V.int zs[i]) (by rw [ym,yp hlt];rfl)
 rw [hv'] at hu
 cases hu
 obtain ⟨t,rfl⟩:=ru
 exact ⟨zs[i],t,yp hlt,rfl⟩
theorem Ydl {P:Sb} {w:Sd} {zs:List Int}:∀{l:List (Int×S6)},ElemsOf (Jkj P w) l->(∀e∈l,∀k,(Jkj P w).is k e.2=true->inZ zs k=true)->Sds (Jkj P w) l->
  ∃ns:List Int,IntsAre (l.map (·.2)) ns/\ns.Nodup/\∀n,n∈ns↔∃e∈l,(Jkj P w).is (.inl n) e.2=true:=by
 intro l
 induction l with
 |nil=>intro _ _ _;exact ⟨[],.nil,ybo,λn=>by simp⟩
 |cons e l ih=>
  intro h1 h2 h3
  obtain ⟨ns,a1,a2,a3⟩:=ih h1.tail (λe' he=>h2 e' (yaq _ he)) (List.pairwise_cons.mp h3).2
  obtain ⟨⟨k,hk,_⟩,_⟩:=h1.head
  have hz:=h2 e (yar ..) k hk
  cases k with
  |inr y=>cases hz
  |inl n=>
   obtain ⟨t,et⟩:=(show ∃t,e.2=Value.int n t from Ybx hk)
   refine ⟨n::ns,by rw [yas,et];exact .cons n t a1,yaz.mpr ⟨λhm=>?_,a2⟩,λm=>?_⟩
   ·obtain ⟨e',he',q⟩:=(a3 n).mp hm
    exact (List.pairwise_cons.mp h3).1 e' he' _ hk q
   ·rw [yn,a3 m]
    constructor
    ·rintro (rfl|⟨e',he',q⟩)
     ·exact ⟨e,yar ..,hk⟩
     ·exact ⟨e',yaq _ he',q⟩
    ·rintro ⟨e',he',q⟩
     rcases yn.mp he' with rfl|he'
     ·left
      have:=(Jkj P w).inj e'.2 _ _ q hk
      exact yaa.inj this
     ·exact .inr ⟨e',he',q⟩
theorem Yb {vs:List S6} {ns:List Int} (h:IntsAre vs ns):Sa0 (ns.map V.int) vs:=by
 induction h with
 |nil=>exact .nil
 |cons n t _ ih=>exact .cons ⟨t,rfl⟩ ih
theorem Jsr (hc:X.calm=true):Jmd X (.builtin "sorted") (λxs H Q=>∃(a:S5) (zs:List Int),xs= [.ref a]/\H a=some (ZS X.prog X.w a zs)/\zs.length<=50/\
  ∀l (ns:List Int),H l=none->ns.Pairwise (· < ·)->(∀n,n∈ns↔n∈zs)->Q (.ref l) (upd H l (.lst (ns.map V.int)))):=by
 intro pins s σ H xs us Q I r h
 obtain ⟨a,zs,rfl,ha,hz,q⟩:=h
 obtain ⟨u,rfl,ru⟩:=Jnc r
 obtain rfl:u=Value.ref a:=ru
 obtain ⟨hS,_,_⟩:=(show Sa7 X.prog X.w H s.heap a (ZS X.prog X.w a zs) from I.hok a _ ha)
 obtain ⟨o,es,ep,t,ho,hex,hd,hel,hmem,hb,hf,hn,hG,hap⟩:=hS
 obtain ⟨ns,hI,nd,mem⟩:=Ydl (zs:=zs) hel (λe he k hk=>(hmem k).mpr ⟨e,he,hk⟩) hap
 refine Jz0 (ns:=ns) (I.ok.hd hc) ho hex ⟨hd,hf,hG⟩ (by omega) hI λh' d tk D c out ns' kp hD eD hI' pm pw=>?_
 have nd':ns'.Nodup:=pm.nodup_iff.mpr nd
 have lt:ns'.Pairwise (· < ·):=by
  refine (pw.and nd').imp ?_
  intro x y ⟨h1,h2⟩
  exact Int.lt_iff_le_and_ne.mpr ⟨h1,h2⟩
 have mm:∀n,n∈ns'↔n∈zs:=λn=>by
  rw [pm.mem_iff,mem n,<-hmem (.inl n)]
  show zs.contains n=true↔_
  exact ycu
 have len:ns'.length<=50:=by
  have e1:=pm.length_eq
  have e2:∀{vs:List S6} {ms:List Int},IntsAre vs ms->vs.length=ms.length:=by
   intro vs ms hh
   induction hh with
   |nil=>rfl
   |cons _ _ _ ih=>simp [ih]
  have e3:=e2 hI
  rw [yf,ybj] at e3
  omega
 refine ⟨.ref D,_,(I.laid (a:=D) (o:=.lst (ns'.map V.int)) (t':=tk) kp hD ⟨by rw [yf,sizeLine_eq];omega,out.toList,c,Yb hI',by simpa using eD⟩).drew d,rfl,q D ns' (I.hok.fresh hD) lt mm⟩
end
theorem Sl6:bootBuiltins "any" =some (.builtin "any"):=by decide +kernel
theorem Jzy:bootBuiltins "sorted" =some (.builtin "sorted"):=by decide +kernel
theorem Jzd:bootBuiltins "dict" =some (.type "dict"):=by decide +kernel
theorem Yaf:bootBuiltins "range" =some (.type "range"):=by decide +kernel
section
variable {X:Cx}
theorem Jth (hu:X.A.units+64 < cLine):OpR X (compareOp .In) (λy x H Q=>∃a o,x= .ref a/\Siw H a y o/\Q (.bl o.isSome) H):=by
 intro pins s σ H y x v u Q I ry rx h
 obtain ⟨a,o,rfl,g,q⟩:=h
 obtain rfl:u=Value.ref a:=rx
 exact St9 (by omega) I g ry λs3 I3=>⟨.bl o.isSome,H,I3,rfl,q⟩
theorem Jo1 (hu:X.A.units+64 < cLine):OpR X (compareOp .NotIn) (λy x H Q=>∃a o,x= .ref a/\Siw H a y o/\Q (.bl (!o.isSome)) H):=by
 intro pins s σ H y x v u Q I ry rx h
 obtain ⟨a,o,rfl,g,q⟩:=h
 obtain rfl:u=Value.ref a:=rx
 exact Yde (by omega) I g ry λs3 I3=>⟨.bl (!o.isSome),H,I3,rfl,q⟩
end
section
variable {X:Cx} {CX:CXT} {k j i:Nat} {sp:S5->Sp} {x:Str} {p pos:Pos} {e:Expr} {es:List Expr} {t:TA} {R:St->XK}
theorem Jv7 {P:Sb} {w:Sd} {K:Si} {mg:Str->Option S6} {base:Sg} (eP:X.prog=P) (ew:X.w=w) (eK:X.K=K) (em:X.mg=mg) (eb:X.base=base) (G:∀f,Jrv P w K mg base CX0 k f (sp f)) (hr:Sal j X.A) (hk:k<=j) (i:Nat) (ha:PA X (e::es) t) (hN:X.N[i]?=some x:=by rfl) (hv:Vis X.env.scope x:=by first|exact ye rfl|exact yal (ye rfl)|exact yal (yal rfl))
  (hd:(x==("__debug__" :Str))=false:=by decide) (hcd:(x==("__classdict__" :Str))=false:=by decide) (he:starEach (e::es) X.env=(false,eval e X.env)::starEach es X.env:=by rfl) (hpl:(backTo pos (starEach es X.env)).any (·.1)=false:=by rfl):
  PE X (.Call (.Name x p) (e::es) [] pos) (Jwo i sp (λ_=>E0) t):=by
 subst eP ew eK em eb
 exact Ybk G hr hk i ha hN hv hd hcd he hpl
end
section
variable {X:Cx} {o i value:Expr} {pos pos':Pos} {td ty tv:TE}
theorem Ys (hu:X.A.units+64 < cLine) (ho:PE X o td) (hi:PE X i ty) (hv:PE X value tv) (hs:swapsWith value (some (.Subscript o i pos')) pos.line X.env=pure false):
  PS X (.Assign [.Subscript o i pos'] value pos) (Skb td ty tv):=Ydx (by omega) ho hi hv hs
end
def DX (P:Sb) (w:Sd) (a:S5) (o:Obj) (kvs:List (Key×V)):HO:=
 .ext λh=>h.get? a=some o/\kvs.length<=Sa/\(a==sysModules)=false/\∃vs es ep,KV kvs vs/\o.data= .dict es ep/\h.DictAt (Jkj P w) a vs ep
def DK (P:Sb) (w:Sd) (H:Hp) (a:S5) (kvs:List (Key×V)):Prop:=H a=some (.dK kvs)\/(∃o,H a=some (.frz o (.dK kvs)))\/∃o,H a=some (DX P w a o kvs)
section
variable {P:Sb} {w:Sd} {H H':Hp} {h:Sg} {a:S5} {o:Obj} {kvs:List (Key×V)}
theorem Sow (ok:HOk P w H h) (d:DK P w H a kvs):kvs.length<=Sa/\(a==sysModules)=false/\∃vs,KV kvs vs/\h.DictOf (Jkj P w) a vs:=by
 rcases d with e|⟨o,e⟩|⟨o,e⟩
 ·exact Jus ok (.inl e)
 ·exact Jus ok (.inr ⟨o,e⟩)
 ·obtain ⟨⟨_,z,hd,vs,es,ep,rel,d,da⟩,_⟩:=(show Sa7 P w H h a (DX P w a o kvs) from ok a _ e)
  exact ⟨z,hd,vs,rel,da.dictOf⟩
end
section
variable {X:Cx} {pins:List (S5×Obj)} {σ:St} {H:Hp} {s:S7} {a:S5} {o:Obj} {kvs:List (Key×V)}
def Yct (P:Sb) (w:Sd) (td ty:TE):TE:=λσ H Q=>td σ H λx H1=>ty σ H1 λy H2=>∃a kvs k v,x= .ref a/\DK P w H2 a kvs/\y=kV k/\Jn4 kvs k=some v/\Q v H2
theorem Ybl {o i:Expr} {pos:Pos} {td ty:TE} (ho:PE X o td) (hi:PE X i ty) (hs:Skz i):PE X (.Subscript o i pos) (Yct X.prog X.w td ty):=by
 intro pins s σ H Q I h
 refine Yek PySem.F.slot_dict_getitem.lookup hs (thn (ho pins s σ H _ I h) λu s1 ⟨x,H1,I1,rx,q1⟩=>thn (hi pins s1 σ H1 _ I1 q1) λiv s2 zq=>?_)
 obtain ⟨y,H2,I2,ry,a,kvs,k,v,ex,g,ey,l,q2⟩:=zq
 subst ex ey
 obtain rfl:u=Value.ref a:=rx
 obtain ⟨z,hd,vs,rel,dd⟩:=Sow I2.hok g
 obtain ⟨w',hw,rw'⟩:=Sc7.some_of (v:=v) (o:=valueAt vs k) (by rw [<-l];exact rel.val k)
 exact ⟨dd.typeIs,wpAny_getItem_of (Jv0 ry) dd.mapOf hw ⟨v,H2,I2.tok _,rw',q2⟩⟩
end
section
variable {prog:Sb} {w:Sd} {A:Se} {E:S6->S7->Prop} {s:S7}
end
section
variable {X:Cx}
theorem Yo {P:Sb} {w:Sd} {o i:Expr} {pos:Pos} {td ty:TE} (hP:X.prog=P) (hw:X.w=w) (ho:PE X o td) (hi:PE X i ty) (hs:Skz i):PE X (.Subscript o i pos) (Yct P w td ty):=by
 subst hP hw
 exact Ybl ho hi hs
end
def Jxi (z:Str) (k:Nat):Str:=⟨(yw k z.cps).foldl (·++·) #[]⟩
theorem Yby (a:Array Nat):∀(k:Nat) (acc:Array Nat),((yw k a).foldl (·++·) acc).size=acc.size+k*a.size:=by
 intro k
 induction k with
 |zero=>intro acc;simp
 |succ k ih=>
  intro acc
  rw [ybw,List.foldl_cons,ih,Array.size_append,Nat.succ_mul]
  omega
theorem Jxj (z:Str) (k:Nat):(Jxi z k).length=k*z.length:=by
 show ((yw k z.cps).foldl (·++·) #[]).size=_
 rw [Yby]
 simp
 rfl
section
variable {X:Cx}
theorem Jyq:OpR X (binaryOp .Mult) (λx y H Q=>∃(z:Str) (k:Nat),x= .str z/\y= .int (k:Int)/\k<=100/\1<=z.length/\z.length<=100/\Q (.str (Jxi z k)) H):=by
 intro pins s σ H x y v u Q I rx ry h
 obtain ⟨z,k,rfl,rfl,hk,h1,h2,q⟩:=h
 obtain ⟨t,rfl⟩:=rx
 obtain ⟨t',rfl⟩:=ry
 have fin:∀n,EP X pins σ Q (.str (Jxi z k) n) {s with toks:=s.toks+1}:=λn=>⟨.str (Jxi z k),H,I.tok _,⟨_,rfl⟩,q⟩
 by_cases c0:k=0
 ·subst c0
  exact P.mul_str_none (by decide) (by decide) (fin _)
 have hz:(z.length==0)=false:=by simp;omega
 refine P.mul_str ?_ (λ_ _=>?_) (λ_ _=>?_) ?_
 ·rw [decide_eq_false (by omega),decide_eq_false (by omega)]
  rfl
 ·have:(100:Int)<=(2^63 - 1)/(k:Int):=by
   refine (Int.le_ediv_iff_mul_le (by omega)).mpr ?_
   have:(k:Int)<=100:=by omega
   omega
  omega
 ·show decide _=false
  have a1:z.length*(k:Int).toNat<=100*100:=Nat.mul_le_mul h2 (by simpa using hk)
  refine decide_eq_false ?_
  rw [sizeLine_eq]
  omega
 ·rw [if_neg (by omega),hz,yce]
  by_cases c1:k=1
  ·subst c1
   rw [if_pos (by rfl)]
   refine ⟨.str z,H,I,⟨_,rfl⟩,?_⟩
   have e:Jxi z 1=z:=by
    unfold Jxi
    cases z
    simp
   rw [<-e]
   exact q
  ·rw [if_neg (by simp;omega)]
   refine ⟨?_,?_⟩
   ·have a1:k*z.length<=100*100:=Nat.mul_le_mul hk h2
    have a2:=Jxj z k
    show (Jxi z k).length<=Sa
    rw [a2,sizeLine_eq]
    omega
   ·exact fin _
end
section
variable {X:Cx} {x:Str} {np pos:Pos} {C0:S5} {b₀:Sf} {suite:List Sf} {rest:List ExceptHandler} {ts:S5->TS} {th:TH}
end
end L2
namespace L2
open PySem PySem.Spec PyProof.Rows
theorem lvS {n:Nat} (u:List S6) (e:u.length=n+1):∃a r,u=a::r/\r.length=n:=by
 cases u with
 |nil=>cases e
 |cons a r=>exact ⟨a,r,rfl,Nat.succ.inj e⟩
theorem lv1 (u:List S6) (e:u.length=1):∃a,u= [a]:=by
 obtain ⟨a,r,rfl,z⟩:=lvS u e
 cases r with
 |nil=>exact ⟨a,rfl⟩
 |cons b r=>cases z
theorem lv2 (u:List S6) (e:u.length=2):∃a b,u= [a,b]:=by
 obtain ⟨a,r,rfl,z⟩:=lvS u e
 obtain ⟨b,rfl⟩:=lv1 r z
 exact ⟨a,b,rfl⟩
theorem lv3 (u:List S6) (e:u.length=3):∃a b c,u= [a,b,c]:=by
 obtain ⟨a,r,rfl,z⟩:=lvS u e
 obtain ⟨b,c,rfl⟩:=lv2 r z
 exact ⟨a,b,c,rfl⟩
theorem lv4 (u:List S6) (e:u.length=4):∃a b c d,u= [a,b,c,d]:=by
 obtain ⟨a,r,rfl,z⟩:=lvS u e
 obtain ⟨b,c,d,rfl⟩:=lv3 r z
 exact ⟨a,b,c,d,rfl⟩
theorem lv5 (u:List S6) (e:u.length=5):∃a b c d f,u= [a,b,c,d,f]:=by
 obtain ⟨a,r,rfl,z⟩:=lvS u e
 obtain ⟨b,c,d,f,rfl⟩:=lv4 r z
 exact ⟨a,b,c,d,f,rfl⟩
theorem lv6 (u:List S6) (e:u.length=6):∃a b c d f g,u= [a,b,c,d,f,g]:=by
 obtain ⟨a,r,rfl,z⟩:=lvS u e
 obtain ⟨b,c,d,f,g,rfl⟩:=lv5 r z
 exact ⟨a,b,c,d,f,g,rfl⟩
theorem lv7 (u:List S6) (e:u.length=7):∃a b c d f g i,u= [a,b,c,d,f,g,i]:=by
 obtain ⟨a,r,rfl,z⟩:=lvS u e
 obtain ⟨b,c,d,f,g,i,rfl⟩:=lv6 r z
 exact ⟨a,b,c,d,f,g,i,rfl⟩
end L2

namespace K76
open PySem L2 PyProof.Rows PySem.NumText
def top (i:Nat):Sf:=PySem.Challenge.pw_weirwatch_k76_local_keepers_asked.main.body.getD i (.Pass ⟨0,0,0,0⟩)
set_option genInjectivity false in
structure Ad where
 Jf6:S5
 Jf7:Sc
 Jf8:S5
 Jf9:Sc
 Jfa:S5
 Jfb:Sc
 Jfc:S5
 Jfd:Sc
 Jfe:S5
 Jff:Sc
 Jfg:S5
 Jfh:Sc
 Jfi:S5
 Jfj:Sc
 Jfk:S5
 Jfl:Sc
 Jfm:S5
 Jfn:Sc
 Jfo:S5
 Jfp:Sc
 Jfq:S5
 Jfr:Sc
 Jfs:S5
 Jft:Sc
 Jfu:S5
 Jfv:Sc
 Jfw:S5
 Jfx:Sc
 Jfy:S5
 Jfz:Sc
 Jg0:S5
 Jg1:Sc
 Jg2:S5
 Jg3:Sc
 Jg4:S5
 Jg5:Sc
 Jg6:S5
 Jg7:Sc
 Jg8:S5
 Jg9:Sc
 Jga:S5
 Jgb:Sc
 Jgc:S5
 Jgd:Sc
 Jge:S5
 Jgf:Sc
 Jgg:S5
 Jgh:Sc
 Jgi:S5
 Jgj:Sc
 Jgk:S5
 Jgl:Sc
 Jgm:S5
 Jgn:Sc
 Jgo:S5
 Jgp:Sc
 Jgq:S5
 Jgr:Sc
 Jgs:S5
 Jgt:Sc
 Jgu:S5
 Jgv:Sc
 Jgw:S5
 Jgx:Sc
 Jgy:S5
 Jgz:Sc
 Jh0:S5
 Jh1:Sc
 Jh2:S5
 Jh3:Sc
 Jh4:S5
 Jh5:Sc
 Jh6:S5
 Jh7:Sc
 Jh8:S5
 Jh9:Sc
 Jha:S5
 Jhb:Sc
 Jhc:S5
 Jhd:Sc
 Jhe:S5
 Jhf:Sc
 Jhg:S5
 Jhh:Sc
 Jhi:S5
 Jhj:Sc
 Jhk:S5
 Jhl:Sc
 Jhm:S5
 Jhn:Sc
 Jho:S5
 Jhp:Sc
 Jhq:S5
 Jhr:Sc
 Jhs:S5
 Jht:Sc
 Jhu:S5
 Jhv:Sc
 Jhw:S5
 Jhx:Sc
 Jhy:S5
 Jhz:Sc
 Ji0:S5
 Ji1:Sc
 Ji2:S5
 Ji3:Sc
 Ji4:S5
 Ji5:Sc
 Ji6:S5
 Ji7:Sc
 Ji8:S5
 Ji9:Sc
 Jia:S5
 Jib:Sc
 Jic:S5
 Jid:Sc
 Jie:S5
 Jif:Sc
 Jig:S5
 Jih:Sc
 Jii:S5
 Jij:Sc
 Jik:S5
 Jil:Sc
 Jim:S5
 Jin:Sc
 Jio:S5
 Jip:Sc
 Jiq:S5
 Jir:Sc
 Jis:S5
 Jit:Sc
 Jiu:S5
 Jiv:Sc
 Jiw:S5
 Jix:Sc
 Jiy:S5
 Jiz:Sc
 Jj0:S5
 Jj1:Sc
 Jj2:S5
 Jj3:Sc
 Jj4:S5
 Jj5:Sc
 a_law:S5
 d_law:Sc
 Jj6:Tok
 Jj7:Tok
 Jj8:Tok
 Jj9:Tok
 Jja:Tok
 Jjb:Tok
 Jjc:Tok
 Jjd:Tok
 Jje:Tok
 Jjf:Tok
 Jjg:Tok
 Jjh:S5
 Jji:S5
 Jjj:S5
 Jjk:S5
 Jjl:S5
 Jjm:S5
 Jjn:S5
 Jjo:S5
 Jjp:S5
 Jjq:S5
 Jjr:S5
 Jjs:S5
 Jjt:S5
 Jju:S5
 Jjv:S5
 Jjw:S5
 Jjx:S5
 Jjy:S5
 Jjz:S5
 Jk0:S5
 Jk1:S5
 Jk2:S5
structure Tx (K:Si) (mg:Str->Option S6) (a:Ad):Prop where
 J0:FT K mg "is_whole" (top 15) ["thing","low","high"] a.Jfm a.Jfn
 J1:FT K mg "is_made_of" (top 16) ["text","signs"] a.Jfo a.Jfp
 J2:FT K mg "is_name" (top 17) ["thing"] a.Jfq a.Jfr
 J3:FT K mg "is_row" (top 19) ["thing","lows","highs"] a.Jfs a.Jft
 J4:FT K mg "is_pair" (top 20) ["thing"] a.Jfu a.Jfv
 J5:FT K mg "is_standing" (top 21) ["river","thing"] a.Jfw a.Jfx
 J6:FT K mg "found_by_rounds" (top 23) ["many","comes"] a.Jfy a.Jfz
 J7:FT K mg "is_safe" (top 24) ["ends","lost"] a.Jg0 a.Jg1
 J8:FT K mg "is_promised" (top 27) ["thing"] a.Jg2 a.Jg3
 J9:FT K mg "levels_of" (top 28) ["basin"] a.Jg4 a.Jg5
 Ja:FT K mg "ends_alone" (top 29) ["basin","up","level","setting"] a.Jg6 a.Jg7
 Jb:FT K mg "ends_by_setting" (top 30) ["basin","up","hi","level"] a.Jg8 a.Jg9
 Jc:FT K mg "lost_alone" (top 31) ["ways"] a.Jga a.Jgb
 Jd:FT K mg "settings_alone" (top 32) ["basin","up","hi"] a.Jgc a.Jgd
 Je:FT K mg "first_safe" (top 33) ["by_setting","lost"] a.Jge a.Jgf
 Jf:FT K mg "are_numbers" (top 34) ["river","thing"] a.Jgg a.Jgh
 Jg:FT K mg "settings_by" (top 35) ["river","numbers"] a.Jgi a.Jgj
 Jh:FT K mg "first_lost" (top 36) ["levels","by_basin"] a.Jgk a.Jgl
 Ji:FT K mg "refuse_lost" (top 37) ["levels","by_basin"] a.Jgm a.Jgn
 Jj:FT K mg "local_keeper" (top 38) ["river","numbers"] a.Jgo a.Jgp
 Jk:FT K mg "are_marks" (top 43) ["thing","lowest"] a.Jgq a.Jgr
 Jl:FT K mg "kept_marks" (top 44) ["marks","lowest"] a.Jgs a.Jgt
 Jm:FT K mg "refuse_no_level" (top 58) ["thing","low","high"] a.Jhk a.Jhl
 Jn:FT K mg "are_unlike" (top 61) ["names"] a.Jho a.Jhp
 Jo:FT K mg "are_basins" (top 62) ["thing"] a.Jhq a.Jhr
 Jp:FT K mg "are_towns" (top 63) ["thing","basins"] a.Jhs a.Jht
 Jq:FT K mg "_law_cell" (top 66) ["_law_script","_law_k"] a.Jhy a.Jhz
 Jr:FT K mg "_law_stream" (top 67) ["_law_cell_here"] a.Ji0 a.Ji1
 Js:FT K mg "_law_take" (top 68) ["_law_stream_here","_law_many"] a.Ji2 a.Ji3
 Jt:FT K mg "_law_marks" (top 69) ["_law_stream_here","_law_least_here"] a.Ji4 a.Ji5
 Ju:FT K mg "_law_basin" (top 70) ["_law_stream_here","_law_name"] a.Ji6 a.Ji7
 Jv:FT K mg "_law_gate" (top 71) ["_law_kind","_law_marks_here"] a.Ji8 a.Ji9
 Jw:FT K mg "_law_made" (top 72) ["_law_told"] a.Jia a.Jib
 Jx:FT K mg "_law_lets" (top 73) ["_law_told","_law_setting","_law_level"] a.Jic a.Jid
 Jy:FT K mg "_law_bad" (top 74) ["_law_told","_law_up","_law_left","_law_lost_here"] a.Jie a.Jif
 Jz:FT K mg "_law_lost" (top 75) ["_law_told","_law_up","_law_hi"] a.Jig a.Jih
 Ja0:FT K mg "_law_easy" (top 76) ["_law_stream_here","_law_name"] a.Jii a.Jij
 Ja1:FT K mg "_law_basins" (top 77) ["_law_stream_here"] a.Jik a.Jil
 Ja2:FT K mg "_law_least" (top 78) ["_law_told"] a.Jim a.Jin
 Ja3:FT K mg "_law_lists" (top 79) ["_law_stream_here","_law_told"] a.Jio a.Jip
 Ja4:FT K mg "_law_losts" (top 80) ["_law_told","_law_numbers"] a.Jiq a.Jir
 Ja5:FT K mg "_law_first_broken" (top 81) ["_law_losts_here","_law_levels"] a.Jis a.Jit
 Ja6:FT K mg "_law_settings" (top 82) ["_law_told","_law_numbers","_law_losts_here","_law_levels"] a.Jiu a.Jiv
 Ja7:FT K mg "_law_asked" (top 83) ["_law_keeper","_law_standing","_law_k"] a.Jiw a.Jix
 Ja8:FT K mg "_law_right" (top 84) ["_law_keeper","_law_told","_law_numbers","_law_losts_here","_law_levels","_law_wet"] a.Jiy a.Jiz
 Ja9:FT K mg "_law_kept" (top 85) ["_law_river_here","_law_told","_law_numbers","_law_losts_here"] a.Jj0 a.Jj1
 Jaa:FT K mg "_law_all_right" (top 86) ["_law_river_here","_law_told","_law_kept_here","_law_stream_here"] a.Jj2 a.Jj3
 Jab:FT K mg "_law_river" (top 87) ["_law_told","_law_cloud","_law_place"] a.Jj4 a.Jj5
 f_law:FT K mg "law" (top 88) ["_law_script"] a.a_law a.d_law
 Jac:mg "LETTERS" =some (.str "abcdefghijklmnopqrstuvwxyz" a.Jj6)
 Jad:mg "MOST_LETTERS" =some (.int 8 a.Jj7)
 Jae:mg "MOST_PROMISED" =some (.int 12 a.Jj8)
 Jaf:mg "MOST_SETTINGS" =some (.int 4 a.Jj9)
 Jag:mg "HIGHEST_MARK" =some (.int 12 a.Jja)
 Jah:mg "HIGHEST_LEVEL" =some (.int 1000 a.Jjb)
 Jai:mg "HIGHEST" =some (.int 12 a.Jjc)
 Jaj:mg "MOST_RAIN" =some (.int 6 a.Jjd)
 Jak:mg "MOST_CLOUD" =some (.int 12 a.Jje)
 Jal:mg "MOST_BASINS" =some (.int 16 a.Jjf)
 Jam:mg "MOST_TOWNS" =some (.int 3 a.Jjg)
 Jan:mg "all" =none
 Jao:mg "any" =none
 Jap:mg "bool" =none
 Jaq:mg "dict" =none
 Jar:mg "enumerate" =none
 Jas:mg "int" =none
 Jat:mg "isinstance" =none
 Jau:mg "len" =none
 Jav:mg "list" =none
 Jaw:mg "max" =none
 Jax:mg "min" =none
 Jay:mg "range" =none
 Jaz:mg "set" =none
 Jb0:mg "sorted" =none
 Jb1:mg "str" =none
 Jb2:mg "tuple" =none
 Jb3:mg "zip" =none
 Jb4:mg "WeirError" =some (.ref a.Jjh)
 Jb5:mg "NoName" =some (.ref a.Jji)
 Jb6:mg "NoGate" =some (.ref a.Jjj)
 Jb7:mg "NoBasin" =some (.ref a.Jjk)
 q81:mg "NoTown" =some (.ref a.Jjl)
 Jb8:mg "NoCloud" =some (.ref a.Jjm)
 Jb9:mg "NoRiver" =some (.ref a.Jjn)
 Jba:mg "NoStanding" =some (.ref a.Jjo)
 Jbb:mg "NoNumber" =some (.ref a.Jjp)
 Jbc:mg "NoPromise" =some (.ref a.Jjq)
 Jbd:mg "Gate" =some (.ref a.Jjr)
 Jbe:mg "StepGate" =some (.ref a.Jjs)
 Jbf:mg "FlapGate" =some (.ref a.Jjt)
 Jbg:mg "PartGate" =some (.ref a.Jju)
 Jbh:mg "StuckGate" =some (.ref a.Jjv)
 Jbi:mg "Basin" =some (.ref a.Jjw)
 Jbj:mg "Town" =some (.ref a.Jjx)
 Jbk:mg "River" =some (.ref a.Jjy)
 q95:Sk K (.ref a.Jji) "__init__" =some (some (.ref a.Jf6))
 q96:Sk K (.ref a.Jjj) "__init__" =some (some (.ref a.Jf8))
 q97:Sk K (.ref a.Jjk) "__init__" =some (some (.ref a.Jfa))
 q98:Sk K (.ref a.Jjm) "__init__" =some (some (.ref a.Jfc))
 q99:Sk K (.ref a.Jjn) "__init__" =some (some (.ref a.Jfe))
 Jbl:Sk K (.ref a.Jjo) "__init__" =some (some (.ref a.Jfg))
 Jbm:Sk K (.ref a.Jjp) "__init__" =some (some (.ref a.Jfi))
 Jbn:Sk K (.ref a.Jjq) "__init__" =some (some (.ref a.Jfk))
 Jbo:Sk K (.ref a.Jjr) "lets" =some (some (.ref a.Jgu))
 Jbp:Sk K (.ref a.Jjs) "__init__" =some (some (.ref a.Jgw))
 Jbq:Sk K (.ref a.Jjs) "settings" =some (some (.ref a.Jgy))
 Jbr:Sk K (.ref a.Jjs) "passes" =some (some (.ref a.Jh0))
 Jbs:Sk K (.ref a.Jjt) "__init__" =some (some (.ref a.Jh2))
 Jbt:Sk K (.ref a.Jjt) "settings" =some (some (.ref a.Jh4))
 Jbu:Sk K (.ref a.Jjt) "passes" =some (some (.ref a.Jh6))
 Jbv:Sk K (.ref a.Jju) "__init__" =some (some (.ref a.Jh8))
 Jbw:Sk K (.ref a.Jju) "settings" =some (some (.ref a.Jha))
 Jbx:Sk K (.ref a.Jju) "passes" =some (some (.ref a.Jhc))
 Jby:Sk K (.ref a.Jjv) "__init__" =some (some (.ref a.Jhe))
 Jbz:Sk K (.ref a.Jjv) "settings" =some (some (.ref a.Jhg))
 Jc0:Sk K (.ref a.Jjv) "passes" =some (some (.ref a.Jhi))
 Jc1:Sk K (.ref a.Jjw) "__init__" =some (some (.ref a.Jhm))
 Jc2:Sk K (.ref a.Jjy) "__init__" =some (some (.ref a.Jhu))
 Jc3:Sk K (.ref a.Jjy) "beginning" =some (some (.ref a.Jhw))
 Jc4:FM K "__init__" "NoName.__init__" (Jkn (top 3) 0) ["self","thing"] a.Jf6 a.Jf7
 Jc5:FM K "__init__" "NoGate.__init__" (Jkn (top 4) 0) ["self","thing"] a.Jf8 a.Jf9
 Jc6:FM K "__init__" "NoBasin.__init__" (Jkn (top 5) 0) ["self","thing"] a.Jfa a.Jfb
 Jc7:FM K "__init__" "NoCloud.__init__" (Jkn (top 7) 0) ["self","thing"] a.Jfc a.Jfd
 Jc8:FM K "__init__" "NoRiver.__init__" (Jkn (top 8) 0) ["self","thing"] a.Jfe a.Jff
 Jc9:FM K "__init__" "NoStanding.__init__" (Jkn (top 9) 0) ["self","thing"] a.Jfg a.Jfh
 Jca:FM K "__init__" "NoNumber.__init__" (Jkn (top 10) 0) ["self","thing"] a.Jfi a.Jfj
 Jcb:FM K "__init__" "NoPromise.__init__" (Jkn (top 11) 0) ["self","basin"] a.Jfk a.Jfl
 Jcc:FM K "lets" "Gate.lets" (Jkn (top 46) 0) ["self","setting","level"] a.Jgu a.Jgv
 Jcd:FM K "__init__" "StepGate.__init__" (Jkn (top 47) 0) ["self","marks"] a.Jgw a.Jgx
 Jce:FM K "settings" "StepGate.settings" (Jkn (top 47) 1) ["self"] a.Jgy a.Jgz
 Jcf:FM K "passes" "StepGate.passes" (Jkn (top 47) 2) ["self","setting","level"] a.Jh0 a.Jh1
 Jcg:FM K "__init__" "FlapGate.__init__" (Jkn (top 48) 0) ["self","marks"] a.Jh2 a.Jh3
 Jch:FM K "settings" "FlapGate.settings" (Jkn (top 48) 1) ["self"] a.Jh4 a.Jh5
 Jci:FM K "passes" "FlapGate.passes" (Jkn (top 48) 2) ["self","setting","level"] a.Jh6 a.Jh7
 Jcj:FM K "__init__" "PartGate.__init__" (Jkn (top 49) 0) ["self","marks"] a.Jh8 a.Jh9
 Jck:FM K "settings" "PartGate.settings" (Jkn (top 49) 1) ["self"] a.Jha a.Jhb
 Jcl:FM K "passes" "PartGate.passes" (Jkn (top 49) 2) ["self","setting","level"] a.Jhc a.Jhd
 Jcm:FM K "__init__" "StuckGate.__init__" (Jkn (top 50) 0) ["self","gate","setting"] a.Jhe a.Jhf
 Jcn:FM K "settings" "StuckGate.settings" (Jkn (top 50) 1) ["self"] a.Jhg a.Jhh
 Jco:FM K "passes" "StuckGate.passes" (Jkn (top 50) 2) ["self","setting","level"] a.Jhi a.Jhj
 Jcp:FM K "__init__" "Basin.__init__" (Jkn (top 59) 0) ["self","name","low","high","start","rain","gate"] a.Jhm a.Jhn
 Jcq:FM K "__init__" "River.__init__" (Jkn (top 64) 0) ["self","cloud","gain","basins","towns"] a.Jhu a.Jhv
 Jcr:FM K "beginning" "River.beginning" (Jkn (top 64) 2) ["self"] a.Jhw a.Jhx
 Jcs:Saj K a.Jji a.Jjh a.Jf6
 Jct:Saj K a.Jjj a.Jjh a.Jf8
 Jcu:Saj K a.Jjk a.Jjh a.Jfa
 Jcv:Saj K a.Jjm a.Jjh a.Jfc
 Jcw:Saj K a.Jjn a.Jjh a.Jfe
 Jcx:Saj K a.Jjo a.Jjh a.Jfg
 Jcy:Saj K a.Jjp a.Jjh a.Jfi
 Jcz:Saj K a.Jjq a.Jjh a.Jfk
 Jd0:Siy K a.Jjq
 Jd1:Cls K a.Jjs
 Jd2:Sge K a.Jjs
 Jd3:Mk K a.Jjs a.Jgw
 Jd4:Joe K a.Jjs "lets" a.Jgu
 Jd5:Joe K a.Jjs "settings" a.Jgy
 Jd6:Joe K a.Jjs "passes" a.Jh0
 Jd7:Cls K a.Jjt
 Jd8:Sge K a.Jjt
 Jd9:Mk K a.Jjt a.Jh2
 Jda:Joe K a.Jjt "lets" a.Jgu
 Jdb:Joe K a.Jjt "settings" a.Jh4
 Jdc:Joe K a.Jjt "passes" a.Jh6
 Jdd:Cls K a.Jju
 Jde:Sge K a.Jju
 Jdf:Mk K a.Jju a.Jh8
 Jdg:Joe K a.Jju "lets" a.Jgu
 Jdh:Joe K a.Jju "settings" a.Jha
 Jdi:Joe K a.Jju "passes" a.Jhc
 Jdj:Cls K a.Jjv
 Jdk:Sge K a.Jjv
 Jdl:Mk K a.Jjv a.Jhe
 Jdm:Joe K a.Jjv "lets" a.Jgu
 Jdn:Joe K a.Jjv "settings" a.Jhg
 Jdo:Joe K a.Jjv "passes" a.Jhi
 Jdp:Cls K a.Jjw
 Jdq:Sge K a.Jjw
 Jdr:Mk K a.Jjw a.Jhm
 Jds:Cls K a.Jjx
 Jdt:Sge K a.Jjx
 Jdu:Cls K a.Jjy
 Jdv:Mk K a.Jjy a.Jhu
 Jdw:Joe K a.Jjy "beginning" a.Jhw
 Jdx:NoAttr K a.Jji "thing"
 Jdy:NoAttr K a.Jjj "thing"
 Jdz:NoAttr K a.Jjk "thing"
 Je0:NoAttr K a.Jjq "basin"
 Je1:NoAttr K a.Jjs "marks"
 Je2:NoAttr K a.Jjt "marks"
 Je3:NoAttr K a.Jju "marks"
 Je4:NoAttr K a.Jjv "gate"
 Je5:NoAttr K a.Jjv "setting"
 Je6:NoAttr K a.Jjw "name"
 Je7:NoAttr K a.Jjw "low"
 Je8:NoAttr K a.Jjw "high"
 Je9:NoAttr K a.Jjw "start"
 Jea:NoAttr K a.Jjw "rain"
 Jeb:NoAttr K a.Jjw "gate"
 Jec:NoAttr K a.Jjx "name"
 Jed:NoAttr K a.Jjx "basin"
 Jee:NoAttr K a.Jjy "cloud"
 Jef:NoAttr K a.Jjy "gain"
 Jeg:NoAttr K a.Jjy "basins"
 Jeh:NoAttr K a.Jjy "towns"
 Jei:Nst K a.Jga a.Jjz a.Jk0
 Jej:W.tabIn K "lost_alone" =some (a.Jjz,a.Jk0)
 Jek:Nst K a.Jgo a.Jk1 a.Jk2
 Jel:W.tabIn K "local_keeper" =some (a.Jk1,a.Jk2)
 tnd: [a.Jk0,a.Jk2].Nodup
 Jem:Sj K (.ref a.Jjs) (.ref a.Jjr)=some true
 Jen:Sj K (.ref a.Jjt) (.ref a.Jjr)=some true
 Jeo:Sj K (.ref a.Jju) (.ref a.Jjr)=some true
 Jep:Sj K (.ref a.Jjv) (.ref a.Jjr)=some true
 Jeq:Sj K (.ref a.Jjw) (.ref a.Jjw)=some true
 Jer:Sj K (.ref a.Jjx) (.ref a.Jjx)=some true
 Jes:Sj K (.ref a.Jjs) (.type "bool")=some false
 Jet:Sj K (.ref a.Jjt) (.type "bool")=some false
 Jeu:Sj K (.ref a.Jju) (.type "bool")=some false
 Jev:Sj K (.ref a.Jjv) (.type "bool")=some false
 Jew:W.kitAny K (.ref a.Jjs) [.ref a.Jjs,.ref a.Jjt,.ref a.Jju,.ref a.Jjv]=some true
 Jex:W.kitAny K (.ref a.Jjt) [.ref a.Jjs,.ref a.Jjt,.ref a.Jju,.ref a.Jjv]=some true
 Jey:W.kitAny K (.ref a.Jju) [.ref a.Jjs,.ref a.Jjt,.ref a.Jju,.ref a.Jjv]=some true
 Jez:W.kitAny K (.ref a.Jjv) [.ref a.Jjs,.ref a.Jjt,.ref a.Jju,.ref a.Jjv]=some true
 Jf0:Sj K (.ref a.Jjs) (.ref a.Jjv)=some false
 Jf1:Sj K (.ref a.Jjt) (.ref a.Jjv)=some false
 Jf2:Sj K (.ref a.Jju) (.ref a.Jjv)=some false
 Jf3:Sl K a.Jjq (.ref a.Jjq)=some true
 Jf4:Sj K (.ref a.Jjq) (.ref a.Jjh)=some true
 Jf5:W.kitAny K (.ref a.Jjq) [.ref a.Jjp,.ref a.Jjo]=some false
def Jl9:Int->List V->Bool
 |_,[]=>true
 |lo,.int i::r=>(decide (lo<=i)&&decide (i<=12))&&Jl9 (i+1) r
 |_,_::_=>false
def Jmc (lo:Int) (xs:List V):Bool:=decide (1<=xs.length/\xs.length<=4)&&Jl9 lo xs
theorem Js1 (lo:Int) (x:V) (r:List V):Jl9 lo (x::r)=(Jl2 x lo 12&&match x with| .int i=>Jl9 (i+1) r|_=>false):=by
 cases x <;> simp [Jl9,Jl2]
inductive Sq (H:Hp):V->List V->Prop where
 |lst {p:S5} {xs:List V}:H p=some (.lst xs)->Sq H (.ref p) xs
 |tup {p:S5} {xs:List V}:H p=some (.tup xs)->Sq H (.ref p) xs
theorem Sq.same {H H':Hp} {x:V} {xs:List V} (s:Sn H H') (h:Sq H x xs):Sq H' x xs:=by
 cases h with
 |lst e=>exact .lst (s _ _ e)
 |tup e=>exact .tup (s _ _ e)
theorem Sq.ty {K:Si} {H:Hp} {x:V} {xs:List V} (h:Sq H x xs):∃t,TyX K H x t/\tpB t=true/\W.kitAny K t [.type "list",.type "tuple"]=some true:=by
 cases h with
 |lst e=>exact ⟨_,.of (.lst e),rfl,rfl⟩
 |tup e=>exact ⟨_,.of (.tup e),rfl,rfl⟩
inductive Shp (K:Si) (H:Hp) (lo:Int):V->Bool->Prop where
 |seq {x:V} {xs:List V}:Sq H x xs->(∀y∈xs,Tm K H y)->Shp K H lo x (Jmc lo xs)
 |non {x:V} {t:S6}:TyX K H x t->W.kitAny K t [.type "list",.type "tuple"]=some false->Shp K H lo x false
def Spf (K:Si):Sp:=λvs H Q _=>∃(x:V) (lo:Int) (b:Bool),vs= [x,.int lo]/\Shp K H lo x b/\∀H',Sn H H'->Q (.bl b) H'
def Rf (a:Ad) (H H':Hp) (x:V) (c:S6) (eo:Option S5):Prop:=∃e dx,c= .ref a.Jjj/\eo=some e/\Sn H H'/\H' e=some (XO e a.Jjj (some dx) false)/\H' dx=some (XD dx [("thing",x)])
theorem Rf.of {a:Ad} {H H1 H':Hp} {x:V} {c:S6} {eo:Option S5} (s:Sn H H1) (h:Rf a H1 H' x c eo):Rf a H H' x c eo:=by
 obtain ⟨e,dx,h1,h2,h3,h4,h5⟩:=h
 exact ⟨e,dx,h1,h2,s.trans h3,h4,h5⟩
theorem Rf.new {a:Ad} {H:Hp} {x:V} {e dx:S5} (h1:H e=none) (h2:H dx=none) (ne:dx≠e):Rf a H (upd (upd (upd H dx (XD dx [("thing",x)])) e (XO e a.Jjj (some dx) true)) e (XO e a.Jjj (some dx) false)) x (.ref a.Jjj) (some e):=by
 refine ⟨e,dx,rfl,rfl,?_,Sv,?_⟩
 ·rw [Jn8]
  intro b o q
  rw [Sz (Jkb q h1),Sz (Jkb q h2)]
  exact q
 ·rw [Sz ne,Sz ne,Sv]
def Sm2 (K:Si) (a:Ad):Sp:=λvs H Q E=>∃(x:V) (lo:Int),vs= [x,.int lo]/\
 ((∃xs,Sq H x xs/\(∀y∈xs,Tm K H y)/\Jmc lo xs=true/\∀t H',Sn H H'->H' t=some (.tup xs)->Q (.ref t) H')\/(Shp K H lo x false/\∀c eo H',Rf a H H' x c eo->E c eo H'))
def IsC (a:Ad) (C:S5):Prop:=C=a.Jjs\/C=a.Jjt\/C=a.Jju
def Sbg (C:S5) (H:Hp) (g:S5) (xs:List V):Prop:=∃dx t,H g=some (.ins C dx [("marks",.ref t)])/\H t=some (.tup xs)
theorem Sbg.same {C:S5} {H H':Hp} {g:S5} {xs:List V} (s:Sn H H') (h:Sbg C H g xs):Sbg C H' g xs:=by obtain ⟨dx,t,h1,h2⟩:=h;exact ⟨dx,t,s _ _ h1,s _ _ h2⟩
def Jwn (K:Si) (a:Ad) (lo:Int):Sp:=λvs H Q E=>∃(p C dx:S5) (x:V),vs= [.ref p,x]/\H p=some (.ins C dx [])/\Cls K C/\NoAttr K C "marks" /\
 ((∃xs,Sq H x xs/\(∀y∈xs,Tm K H y)/\Jmc lo xs=true/\∀t H',Sn H H'->H' t=some (.tup xs)->Q .non (upd H' p (.ins C dx [("marks",.ref t)])))\/(Shp K H lo x false/\∀c eo H',Rf a H H' x c eo->E c eo H'))
def Yck (C:S5):Sp:=λvs H Q _=>∃(p:S5) (xs:List V),vs= [.ref p]/\Sbg C H p xs/\Q (.int xs.length) H
def Spi:Sp:=λvs H Q _=>∃x,vs= [x]/\Q (.int 1) H
inductive GS (K:Si) (a:Ad) (H:Hp):V->Nat->Prop where
 |plain {g C:S5} {xs:List V}:IsC a C->Sbg C H g xs->xs.length<=4->GS K a H (.ref g) xs.length
 |stuck {g dx:S5} {x y:V}:H g=some (.ins a.Jjv dx [("gate",x),("setting",y)])->GS K a H (.ref g) 1
theorem GS.same {K:Si} {a:Ad} {H H':Hp} {x:V} {n:Nat} (s:Sn H H') (h:GS K a H x n):GS K a H' x n:=by
 cases h with
 |plain i g l=>exact .plain i (g.same s) l
 |stuck e=>exact .stuck (s _ _ e)
def Jzt (K:Si) (a:Ad):Sp:=λvs H Q E=>∃(p dx:S5) (x y:V),vs= [.ref p,x,y]/\H p=some (.ins a.Jjv dx [])/\
 ((∃t,TyX K H x t/\Sj K t (.ref a.Jjr)=some false/\∀c eo H',Rf a H H' x c eo->E c eo H')\/
  (∃n,GS K a H x n/\Tm K H y/\Jl2 y 0 (n - 1)=false/\∀c eo H',Rf a H H' y c eo->E c eo H')\/
  (∃n,GS K a H x n/\Tm K H y/\Jl2 y 0 (n - 1)=true/\Q .non (upd H p (.ins a.Jjv dx [("gate",x),("setting",y)]))))
def Knd (z:Str):Prop:=z=("step" :Str)\/z=("flap" :Str)\/z=("part" :Str)
def Jn0 (z:Str):Int:=if z=("part" :Str) then 1 else 0
def cOf (a:Ad) (z:Str):S5:=if z=("step" :Str) then a.Jjs else if z=("flap" :Str) then a.Jjt else a.Jju
theorem Yai {a:Ad} {z:Str}:IsC a (cOf a z):=by
 unfold cOf
 split
 ·exact .inl rfl
 ·split
  ·exact .inr (.inl rfl)
  ·exact .inr (.inr rfl)
theorem Js5:¬(("part" :Str)="step"):=by decide +kernel
theorem Jqw:¬(("part" :Str)="flap"):=by decide +kernel
theorem Jqv:¬(("flap" :Str)="step"):=by decide +kernel
theorem Ybd:¬(("flap" :Str)="part"):=by decide +kernel
theorem Sk5:¬(("step" :Str)="part"):=by decide +kernel
theorem Jtt {x y:Str} (h:¬x=y):¬V.str x=V.str y:=λe=>h (V.str.inj e)
def LET:Str:="abcdefghijklmnopqrstuvwxyz"
def Jww (g z:Str):Bool:=z.cps.toList.all λc=>decide (c∈g.cps.toList)
def Js4 (z:Str):Bool:=decide (1<=z.length/\z.length<=8)&&Jww LET z
structure Wd (n:Nat) (z:Str):Prop where
 len:z.length<=n
 low:∀c∈z.cps.toList,c < 128
theorem Ydm (z:Str):z.cps.toList.length=z.length:=ybj
theorem Smr {z:Str} {n:Nat} (h:(decide (z.length<=n)&&z.cps.toList.all (λc=>decide (c < 128)))=true):Wd n z:=by
 rw [yag] at h
 exact ⟨of_decide_eq_true h.1,λc hc=>of_decide_eq_true (yau.mp h.2 c hc)⟩
def Jn9:V->Bool
 | .str z=>Js4 z
 |_=>false
def Nmd (K:Si) (H:Hp) (x:V):Prop:=Tm K H x/\∀z,x= .str z->Wd 50 z
def Sm6:Sp:=λvs H Q _=>∃z g:Str,vs= [.str z,.str g]/\z.length<=2000/\∀H',Sn H H'->Q (.bl (Jww g z)) H'
def Sm7 (K:Si):Sp:=λvs H Q _=>∃x:V,vs= [x]/\Nmd K H x/\∀H',Sn H H'->Q (.bl (Jn9 x)) H'
def RfC (C:S5) (H H':Hp) (x:V) (c:S6) (eo:Option S5):Prop:=∃e dx,c= .ref C/\eo=some e/\Sn H H'/\H' e=some (XO e C (some dx) false)/\H' dx=some (XD dx [("thing",x)])
theorem RfC.of {C:S5} {H H1 H':Hp} {x:V} {c:S6} {eo:Option S5} (s:Sn H H1) (h:RfC C H1 H' x c eo):RfC C H H' x c eo:=by
 obtain ⟨e,dx,h1,h2,h3,h4,h5⟩:=h
 exact ⟨e,dx,h1,h2,s.trans h3,h4,h5⟩
theorem RfC.new {C:S5} {H:Hp} {x:V} {e dx:S5} (h1:H e=none) (h2:H dx=none) (ne:dx≠e):RfC C H (upd (upd (upd H dx (XD dx [("thing",x)])) e (XO e C (some dx) true)) e (XO e C (some dx) false)) x (.ref C) (some e):=by
 refine ⟨e,dx,rfl,rfl,?_,Sv,?_⟩
 ·rw [Jn8]
  intro b o q
  rw [Sz (Jkb q h1),Sz (Jkb q h2)]
  exact q
 ·rw [Sz ne,Sz ne,Sv]
def Yy (K:Si) (a:Ad):Sp:=λvs H Q E=>∃(x:V) (lo hi:Int),vs= [x,.int lo,.int hi]/\Tm K H x/\((Jl2 x lo hi=true/\Q .non H)\/(Jl2 x lo hi=false/\∀c eo H',RfC a.Jjk H H' x c eo->E c eo H'))
inductive Due (n lo hi st rn g:V) (gb:Bool):Option (Nat×V)->Prop
 |name:Jn9 n=false->Due n lo hi st rn g gb (some (0,n))
 |low:Jn9 n=true->Jl2 lo 0 12=false->Due n lo hi st rn g gb (some (1,lo))
 |high (l:Int):Jn9 n=true->lo= .int l->Jl2 lo 0 12=true->Jl2 hi l 12=false->Due n lo hi st rn g gb (some (1,hi))
 |start (l h:Int):Jn9 n=true->lo= .int l->hi= .int h->Jl2 lo 0 12=true->Jl2 hi l 12=true->Jl2 st l h=false->Due n lo hi st rn g gb (some (1,st))
 |rain (l h:Int):Jn9 n=true->lo= .int l->hi= .int h->Jl2 lo 0 12=true->Jl2 hi l 12=true->Jl2 st l h=true->Jl2 rn 0 6=false->Due n lo hi st rn g gb (some (1,rn))
 |gate (l h:Int):Jn9 n=true->lo= .int l->hi= .int h->Jl2 lo 0 12=true->Jl2 hi l 12=true->Jl2 st l h=true->Jl2 rn 0 6=true->gb=false->Due n lo hi st rn g gb (some (2,g))
 |good (l h:Int):Jn9 n=true->lo= .int l->hi= .int h->Jl2 lo 0 12=true->Jl2 hi l 12=true->Jl2 st l h=true->Jl2 rn 0 6=true->gb=true->Due n lo hi st rn g gb none
inductive Six (n b wt:V):Option (Nat×V)->Prop
 |name:Jn9 n=false->Six n b wt (some (0,n))
 |basin:Jn9 n=true->Jn9 b=false->Six n b wt (some (0,b))
 |want:Jn9 n=true->Jn9 b=true->Jl2 wt 1 6=false->Six n b wt (some (3,wt))
 |good:Jn9 n=true->Jn9 b=true->Jl2 wt 1 6=true->Six n b wt none
def St7 (a:Ad):Nat->S5
 |0=>a.Jji
 |1=>a.Jjk
 |2=>a.Jjj
 |_=>a.Jjl
def GtI (K:Si) (a:Ad) (H:Hp) (g:V) (gb:Bool):Prop:=∃t,TyX K H g t/\Sj K t (.ref a.Jjr)=some gb/\W.kitAny K t [.ref a.Jjs,.ref a.Jjt,.ref a.Jju,.ref a.Jjv]=some gb/\
 ∃b,Sj K t (.type "bool")=some b/\(gb=true->b=false)/\t≠ .type "float"
def Sie (n lo hi st rn g:V):List (Str×V):=[("name",n),("low",lo),("high",hi),("start",st),("rain",rn),("gate",g)]
def twnF (n b wt:V):List (Str×V):=[("name",n),("basin",b),("want",wt)]
def Snu (a:Ad) (d:Option (Nat×V)) (H:Hp) (E:XK) (G:Prop):Prop:=match d with
 |none=>G
 |some (k,x)=>∀c eo H',RfC (St7 a k) H H' x c eo->E c eo H'
def Jzr (K:Si) (a:Ad):Sp:=λvs H Q E=>∃(p dx:S5) (n lo hi st rn g:V) (gb:Bool) (d:Option (Nat×V)),vs= [.ref p,n,lo,hi,st,rn,g]/\H p=some (.ins a.Jjw dx [])/\Nmd K H n/\Tm K H lo/\Tm K H hi/\Tm K H st/\Tm K H rn/\GtI K a H g gb/\Due n lo hi st rn g gb d/\
 Snu a d H E (∀H',Sn H H'->Q .non (upd H' p (.ins a.Jjw dx (Sie n lo hi st rn g))))
theorem Jwr {K:Si} {H H':Hp} {x:V} {t:S6} (s:Sn H H') (h:TyX K H x t):TyX K H' x t:=h.same (λb o _ q=>s b o q) (λb fs q=>s b _ q)
theorem GtI.same {K:Si} {a:Ad} {H H':Hp} {g:V} {gb:Bool} (s:Sn H H') (h:GtI K a H g gb):GtI K a H' g gb:=by obtain ⟨t,ty,r⟩:=h;exact ⟨t,Jwr s ty,r⟩
theorem Smo {K:Si} {H:Hp} {x:V} {t:S6} (h:TyX K H x t) (e:t= .type "str"):∃z,x= .str z:=by
 cases h with
 |exc=>cases e
 |of ty=>
  cases ty with
  |str z=>exact ⟨z,rfl⟩
  |ins=>cases e
  |non=>exact absurd (Value.type.inj e) (by decide)
  |bl=>exact absurd (Value.type.inj e) (by decide)
  |int=>exact absurd (Value.type.inj e) (by decide)
  |flt=>exact absurd (Value.type.inj e) (by decide)
  |lst=>exact absurd (Value.type.inj e) (by decide)
  |frz=>exact absurd (Value.type.inj e) (by decide)
  |tup=>exact absurd (Value.type.inj e) (by decide)
  |dK=>exact absurd (Value.type.inj e) (by decide)
  |dT=>exact absurd (Value.type.inj e) (by decide)
structure Bsn where
 z:Str
 lo:Int
 hi:Int
 st:Int
 rn:Int
 g:V
 n:Nat
def Sfz (K:Si) (a:Ad) (H:Hp) (o:S5) (B:Bsn):Prop:=∃dx,H o=some (.ins a.Jjw dx (Sie (.str B.z) (.int B.lo) (.int B.hi) (.int B.st) (.int B.rn) B.g))/\GS K a H B.g B.n
theorem Sfz.same {K:Si} {a:Ad} {H H':Hp} {o:S5} {B:Bsn} (s:Sn H H') (h:Sfz K a H o B):Sfz K a H' o B:=by obtain ⟨dx,h1,h2⟩:=h;exact ⟨dx,s _ _ h1,h2.same s⟩
structure Twn where
 z:Str
 b:Str
 wt:Int
def Sgd (a:Ad) (H:Hp) (o:S5) (B:Twn):Prop:=∃dx,H o=some (.ins a.Jjx dx (twnF (.str B.z) (.str B.b) (.int B.wt)))
theorem Sgd.same {a:Ad} {H H':Hp} {o:S5} {B:Twn} (s:Sn H H') (h:Sgd a H o B):Sgd a H' o B:=by obtain ⟨dx,h1⟩:=h;exact ⟨dx,s _ _ h1⟩
def Sdw (K:Si) (a:Ad) (H:Hp):List S5->List Bsn->Prop
 | [],[]=>True
 |o::os,B::Bs=>Sfz K a H o B/\Sdw K a H os Bs
 |_,_=>False
def Sf2 (a:Ad) (H:Hp):List S5->List Twn->Prop
 | [],[]=>True
 |o::os,B::Bs=>Sgd a H o B/\Sf2 a H os Bs
 |_,_=>False
theorem Sdw.same {K:Si} {a:Ad} {H H':Hp} (s:Sn H H'):∀{os:List S5} {Bs:List Bsn},Sdw K a H os Bs->Sdw K a H' os Bs:=by
 intro os
 induction os with
 |nil=>
  intro Bs h
  cases Bs with
  |nil=>exact True.intro
  |cons B Bs=>exact False.elim h
 |cons o os ih=>
  intro Bs h
  cases Bs with
  |nil=>exact False.elim h
  |cons B Bs=>exact ⟨(And.left h).same s,ih (And.right h)⟩
theorem Sf2.same {a:Ad} {H H':Hp} (s:Sn H H'):∀{os:List S5} {Bs:List Twn},Sf2 a H os Bs->Sf2 a H' os Bs:=by
 intro os
 induction os with
 |nil=>
  intro Bs h
  cases Bs with
  |nil=>exact True.intro
  |cons B Bs=>exact False.elim h
 |cons o os ih=>
  intro Bs h
  cases Bs with
  |nil=>exact False.elim h
  |cons B Bs=>exact ⟨(And.left h).same s,ih (And.right h)⟩
theorem Sdw.len {K:Si} {a:Ad} {H:Hp} {os:List S5}:∀{Bs:List Bsn},Sdw K a H os Bs->os.length=Bs.length:=by
 induction os with
 |nil=>
  intro Bs h
  cases Bs with
  |nil=>rfl
  |cons B Bs=>exact h.elim
 |cons o os ih=>
  intro Bs h
  cases Bs with
  |nil=>exact h.elim
  |cons B Bs=>rw [ybg,ybg,ih h.2]
theorem Sf2.len {a:Ad} {H:Hp} {os:List S5}:∀{Bs:List Twn},Sf2 a H os Bs->os.length=Bs.length:=by
 induction os with
 |nil=>
  intro Bs h
  cases Bs with
  |nil=>rfl
  |cons B Bs=>exact h.elim
 |cons o os ih=>
  intro Bs h
  cases Bs with
  |nil=>exact h.elim
  |cons B Bs=>rw [ybg,ybg,ih h.2]
theorem Sdw.get {K:Si} {a:Ad} {H:Hp}:∀{os:List S5} {Bs:List Bsn} {i:Nat} {v:V},Sdw K a H os Bs->(os.map V.ref)[i]?=some v->∃o B,v= .ref o/\Bs[i]?=some B/\Sfz K a H o B:=by
 intro os
 induction os with
 |nil=>intro Bs i v h e;simp at e
 |cons o os ih=>
  intro Bs i v h e
  cases Bs with
  |nil=>exact False.elim h
  |cons B Bs=>
   cases i with
   |zero=>exact ⟨o,B,by simpa using e.symm,rfl,And.left h⟩
   |succ i=>exact ih (Bs:=Bs) (i:=i) (And.right h) (by simpa using e)
theorem Sf2.get {a:Ad} {H:Hp}:∀{os:List S5} {Bs:List Twn} {i:Nat} {v:V},Sf2 a H os Bs->(os.map V.ref)[i]?=some v->∃o B,v= .ref o/\Bs[i]?=some B/\Sgd a H o B:=by
 intro os
 induction os with
 |nil=>intro Bs i v h e;simp at e
 |cons o os ih=>
  intro Bs i v h e
  cases Bs with
  |nil=>exact False.elim h
  |cons B Bs=>
   cases i with
   |zero=>exact ⟨o,B,by simpa using e.symm,rfl,And.left h⟩
   |succ i=>exact ih (Bs:=Bs) (i:=i) (And.right h) (by simpa using e)
def Yco (K:Si):Sp:=λvs H Q _=>∃(l:S5) (zs:List Str),vs= [.ref l]/\Sw K H l (zs.map V.str)/\zs.length<=2000/\∀H',Sn H H'->Q (.bl (decide ((uq zs).length=zs.length))) H'
def Yca (K:Si) (a:Ad):Sp:=λvs H Q _=>∃(l:S5) (os:List S5) (Bs:List Bsn),vs= [.ref l]/\H l=some (.lst (os.map V.ref))/\Sdw K a H os Bs/\(1<=Bs.length/\Bs.length<=16)/\(Bs.map (·.z)).Nodup/\∀H',Sn H H'->Q (.bl true) H'
def Yei (K:Si) (a:Ad):Sp:=λvs H Q _=>∃(l m:S5) (os ts:List S5) (Bs:List Bsn) (Ts:List Twn),vs= [.ref m,.ref l]/\H l=some (.lst (os.map V.ref))/\Sdw K a H os Bs/\Bs.length<=16/\H m=some (.lst (ts.map V.ref))/\Sf2 a H ts Ts/\Ts.length<=3/\(Ts.map (·.z)).Nodup/\(∀t∈Ts,t.b∈Bs.map (·.z))/\∀H',Sn H H'->Q (.bl true) H'
section
variable {P:Sb} {w:Sd} {K:Si} {mg:Str->Option S6} {base:Sg} {a:Ad}
theorem Jqj:Jkd ["self","thing"] ["self","thing"] (Jk9 (Jkn (top 4) 0)):=⟨rfl,rfl,rfl,by decide +kernel,rfl,by decide +kernel,by decide +kernel⟩
theorem Jmv (T:Tx K mg a):Sx P w K mg base CX0 1 a.Jf8 a.Jf9 ["self","thing"] (Jo3 K "thing"):=by
 refine T.Jc5.fn.ok Jqj (λvs H Q E h=>?_) (λcdv A outer s H vs Q E hr h=>?_)
 ·obtain ⟨e,C,W,fI,y,rfl,_⟩:=h
  rfl
 ·obtain ⟨e,C,W,fI,y,rfl,q,c,n,k⟩:=h
  refine ⟨_,(Jk7 (Jny (pv 0) (pv 1) rfl)),?_⟩
  exact ⟨_,rfl,_,rfl,e,C,W,fI,true,rfl,q,c,n,k⟩
theorem Jxm:Jkd ["thing","low","high"] ["thing","low","high"] (Jk9 (top 15)):=⟨rfl,rfl,rfl,by decide +kernel,rfl,by decide +kernel,by decide +kernel⟩
theorem Jm0 (T:Tx K mg a):Sx P w K mg base CX0 1 a.Jfm a.Jfn ["thing","low","high"] (Yej K):=by
 refine T.J0.fn.ok Jxm (λvs H Q E h=>?_) (λcdv A outer s H vs Q E hr h=>?_)
 ·obtain ⟨x,lo,hi,rfl,_⟩:=h
  rfl
 ·obtain ⟨x,lo,hi,rfl,tm,k⟩:=h
  refine ⟨_,(Jk6 (Jku (PW.pt (Jop (Jkx (Jke Jlw (by rfl) T.Jat Jkq (So (pv 0) (So (Jm6 (v:=.ty "bool") (by rfl) T.Jap Jvl rfl) Ss)))) (Jo2 (Jl3 (Jkx (Jke Jlw (by rfl) T.Jat Jkq (So (pv 0) (So (Jm6 (v:=.ty "int") (by rfl) T.Jas Jy6 rfl) Ss)))))))) (Jk7 (Jkg Jmf)) Jki)
   (Jk7 (Jkg (Jxf Jnl Jnl (pv 1) (pv 0) (pv 2))))),?_⟩
  rcases tm with ⟨i,rfl⟩|⟨t,ty,ht⟩
  ·refine ⟨_,rfl,_,_,_,_,_,rfl,rfl,.of (.int i),(by rfl:Sj K (.type "int") (.type "bool")=some false),_,rfl,Jlb ⟨_,rfl,_,_,_,_,_,rfl,rfl,.of (.int i),(by rfl:Sj K (.type "int") (.type "int")=some true),_,rfl,Jlb ?_⟩⟩
   refine ⟨_,rfl,_,rfl,_,_,rfl,rfl,_,rfl,?_⟩
   have k':Q (.bl (decide (lo<=i)&&decide (i<=hi))) H:=k
   by_cases h1:lo<=i
   ·rw [decide_eq_true h1] at k'⊢
    exact Jmb ⟨_,rfl,_,_,rfl,rfl,by simpa using k'⟩
   ·rw [decide_eq_false h1] at k'⊢
    exact Jlb (by simpa using k')
  ·rw [Ydq ty ht] at k
   have e:=Smk (K:=K) ht
   cases eb:(t== .type "bool") with
   |true=>
    rw [eb] at e
    exact ⟨_,rfl,_,_,_,_,_,rfl,rfl,ty,e.2,_,rfl,Jmb (Jmb k)⟩
   |false=>
    rw [eb] at e
    exact ⟨_,rfl,_,_,_,_,_,rfl,rfl,ty,e.2,_,rfl,Jlb ⟨_,rfl,_,_,_,_,_,rfl,rfl,ty,e.1,_,rfl,Jmb k⟩⟩
theorem Sbp:Jkd ["thing","lowest","least","mark"] ["thing","lowest"] (Jk9 (top 43)):=⟨rfl,rfl,rfl,by decide +kernel,rfl,by decide +kernel,by decide +kernel⟩
theorem Jw0 (T:Tx K mg a):Sx P w K mg base CX0 2 a.Jgq a.Jgr ["thing","lowest"] (Spf K):=by
 have Sa5:=Jm0 (P:=P) (w:=w) (base:=base) T
 refine T.Jk.fn.ok Sbp (λvs H Q E h=>?_) (λcdv A outer s H vs Q E hr h=>?_)
 ·obtain ⟨x,lo,b,rfl,_⟩:=h
  rfl
 ·obtain ⟨x,lo,b,rfl,sh,k⟩:=h
  refine ⟨_,(Jk6 (Jku (Jl3 (Jkx (Jke Jqu (by rfl) T.Jat Jkq (So (pv 0) (So (Jm2 (So (Jm6 (v:=.ty "list") (by rfl) T.Jav Jpd rfl) (So (Jm6 (v:=.ty "tuple") (by rfl) T.Jb2 Jm3 rfl) Ss))) Ss))))) (Jk7 (Jkg Jmf)) Jki)
   (Jk6 (Jku (Jl3 (Jr4 Jnl Jnl Sy (Jke Jkp (by rfl) T.Jau Jlg (So (pv 0) Ss)) (Jlf (by rfl) T.Jaf (v:=.int 4) ⟨_,rfl⟩))) (Jk7 (Jkg Jmf)) Jki)
   (Jk6 (Jkh (i:=2) Sbp.nd rfl (ye rfl) (pv 1))
   (Jk6 (Jma PassesOwn.never rfl (Slv (pv 0)) (Jkf (i:=3) Sbp.nd rfl (ye rfl)) (Jk6 (Jku (Jl3 (Jkx (Jkc T.J0 Sa5 hr (by decide) (So (pv 3) (So (pv 2) (So (Jlf (by rfl) T.Jag (v:=.int 12) ⟨_,rfl⟩) Ss)))))) (Jk7 (Jkg Jmf)) Jki)
    (Jk7 (Jkh (i:=2) Sbp.nd rfl (ye rfl) (Jkl Jl0 (pv 3) Sy)))))
   (Jk7 (Jkg Jmf)))))),?_⟩
  cases sh with
  | @non t ty e=>
   refine ⟨_,rfl,(show 2<=Sa by decide),λp hp=>⟨_,p,_,_,t,_,rfl,Sv,rfl,ty.same (λb o _ q=>Sn.upd hp b o q) (λb fs q=>Sn.upd hp b _ q),e,_,rfl,Jmb (k _ (Sn.upd hp))⟩⟩
  | @seq xs sq tms=>
   obtain ⟨t,ty,_,e⟩:=sq.ty (K:=K)
   refine ⟨_,rfl,(show 2<=Sa by decide),λp hp=>⟨_,p,_,_,t,_,rfl,Sv,rfl,ty.same (λb o _ q=>Sn.upd hp b o q) (λb fs q=>Sn.upd hp b _ q),e,_,rfl,Jlb ?_⟩⟩
   have s1:=Sn.upd (o:=.tup [.ty "list",.ty "tuple"]) hp
   have sq1:=sq.same s1
   obtain ⟨q,rfl⟩:∃q,x= .ref q:=by cases sq <;> exact ⟨_,rfl⟩
   have len:Sw K (upd H p (.tup [.ty "list",.ty "tuple"])) q xs\/SqT K (upd H p (.tup [.ty "list",.ty "tuple"])) q xs:=by
    cases sq1 with
    |lst e=>exact .inl (Sw.of e)
    |tup e=>exact .inr (SqT.of e)
   refine ⟨_,rfl,q,xs,rfl,len,_,_,rfl,rfl,_,rfl,?_⟩
   have no:Jmc lo xs=false->∀H',Sn H H'->Q (.bl false) H':=λz H' s'=>by
    have:=k H' s'
    rw [z] at this
    exact this
   by_cases h1:(1:Int)<=(xs.length:Int)
   ·rw [decide_eq_true h1]
    refine Jmb ⟨_,_,rfl,rfl,_,rfl,?_⟩
    by_cases h2:(xs.length:Int)<=4
    ·rw [decide_eq_true h2]
     refine Jlb ⟨_,rfl,?_⟩
     have lz:decide (1<=xs.length/\xs.length<=4)=true:=decide_eq_true (by omega)
     have ar:Jmc lo xs=Jl9 lo xs:=by unfold Jmc;rw [lz,Bool.true_and]
     refine ⟨_,rfl,q,rfl,Ydf (xs:=xs) (λi σ H'=>∃(l:Int) (o:Option V),σ= [some (.ref q),some (.int lo),some (.int l),o]/\H'=upd H p (.tup [.ty "list",.ty "tuple"])/\Jl9 lo xs=Jl9 l (xs.drop i)) ⟨lo,_,rfl,rfl,rfl⟩ ?_ ?_ ?_⟩
     ·rcases len with z|z
      ·exact .inl λi σ H' _ ⟨_,_,_,e,_⟩=>by rw [e];exact z
      ·exact .inr λi σ H' _ ⟨_,_,_,e,_⟩=>by rw [e];exact z
     ·rintro i y σ H' hy ⟨l,o,rfl,rfl,em⟩
      have hd:xs.drop i=y::xs.drop (i+1):=by
       obtain ⟨hi,rfl⟩:=yq.mp hy
       exact List.drop_eq_getElem_cons hi
      refine ⟨_,rfl,_,rfl,y,l,12,rfl,(tms y (yad hy)).same s1,_,rfl,?_⟩
      cases z:Jl2 y l 12 with
      |false=>
       refine Jmb (no ?_ _ s1)
       rw [ar,em,hd,Js1,z,yci]
      |true=>
       rw [hd,Js1,z,Bool.true_and] at em
       cases y with
       |int i'=>exact Jlb ⟨_,rfl,_,_,rfl,rfl,i'+1,_,rfl,rfl,em⟩
       |_=>cases z
     ·rintro σ H' ⟨l,o,rfl,rfl,em⟩
      have e:Jmc lo xs=true:=by rw [ar,em,List.drop_of_length_le (yg _)];rfl
      have:=k _ s1
      rw [e] at this
      exact this
    ·rw [decide_eq_false h2]
     refine Jmb (no ?_ _ s1)
     unfold Jmc
     rw [decide_eq_false (by omega:¬(1<=xs.length/\xs.length<=4)),yci]
   ·rw [decide_eq_false h1]
    refine Jlb ⟨_,rfl,Jmb (no ?_ _ s1)⟩
    unfold Jmc
    rw [decide_eq_false (by omega:¬(1<=xs.length/\xs.length<=4)),yci]
theorem Juh:Jkd ["marks","lowest"] ["marks","lowest"] (Jk9 (top 44)):=⟨rfl,rfl,rfl,by decide +kernel,rfl,by decide +kernel,by decide +kernel⟩
theorem Jo0 (T:Tx K mg a):Sx P w K mg base (CXX P w) 3 a.Jgs a.Jgt ["marks","lowest"] (Sm2 K a):=by
 have Sg7:=Jw0 (P:=P) (w:=w) (base:=base) T
 have Sa6:=Jmv (P:=P) (w:=w) (base:=base) T
 refine T.Jl.fn.okX Juh (λvs H Q E h=>?_) (λcdv A outer s H vs Q E hr h=>?_)
 ·obtain ⟨x,lo,rfl,_⟩:=h
  rfl
 ·obtain ⟨x,lo,rfl,h⟩:=h
  refine ⟨_,(Jk6 (Jku (Jl3 (Jkx (Jkc T.Jk Sg7 hr (by decide) (So (pv 0) (So (pv 1) Ss))))) (Jk7 (Jll Jlp rfl (Jmn T.Jct Sa6 hr (by decide) T.Jc5.bd T.Jb6 (So (pv 0) Ss)))) Jki)
   (Jk7 (Jkg (Jla Jlt (by rfl) T.Jb2 Jm3 (So (pv 0) Ss))))),?_⟩
  rcases h with ⟨xs,sq,tms,e,k⟩|⟨sh,k⟩
  ·have sh:=Shp.seq (lo:=lo) sq tms
   rw [e] at sh
   refine ⟨_,rfl,_,rfl,x,lo,true,rfl,sh,λH1 s1=>⟨_,rfl,Jlb ?_⟩⟩
   cases sq with
   |lst e=>exact ⟨_,rfl,_,xs,rfl,.inl ⟨Sw.of (s1 _ _ e),λl hl=>k l _ (s1.trans (Sn.upd hl)) Sv⟩⟩
   |tup e=>exact ⟨_,rfl,_,xs,rfl,.inr ⟨SqT.of (s1 _ _ e),k _ _ s1 (s1 _ _ e)⟩⟩
  ·exact ⟨_,rfl,_,rfl,x,lo,false,rfl,sh,λH1 s1=>⟨_,rfl,Jmb (Jnn T.Jct T.Jdy rfl λe dx h1 h2 h3=>k _ _ _ ((Rf.new h1 h2 h3).of s1))⟩⟩
theorem Jp9:Jkd ["self","marks"] ["self","marks"] (Jk9 (Jkn (top 47) 0)):=⟨rfl,rfl,rfl,by decide +kernel,rfl,by decide +kernel,by decide +kernel⟩
theorem Job (T:Tx K mg a):Sx P w K mg base (CXX P w) 4 a.Jgw a.Jgx ["self","marks"] (Jwn K a 0):=by
 have Sba:=Jo0 (P:=P) (w:=w) (base:=base) T
 refine T.Jcd.fn.okX Jp9 (λvs H Q E h=>?_) (λcdv A outer s H vs Q E hr h=>?_)
 ·obtain ⟨p,C,dx,x,rfl,_⟩:=h
  rfl
 ·obtain ⟨p,C,dx,x,rfl,hp,c,n,h⟩:=h
  refine ⟨_,(Jk7 (Jmo (pv 0) (Jmg T.Jl Sba Jlp hr (by decide) (So (pv 1) (So Sy Ss))) rfl)),?_⟩
  rcases h with ⟨xs,sq,tms,e,k⟩|⟨sh,k⟩
  ·exact ⟨_,rfl,x,0,rfl,.inl ⟨xs,sq,tms,e,λt H' s' ht=>⟨_,rfl,p,C,dx,[],rfl,s' _ _ hp,c,n,by simp,k t H' s' ht⟩⟩⟩
  ·exact ⟨_,rfl,x,0,rfl,.inr ⟨sh,k⟩⟩
theorem Jpa:Jkd ["self"] ["self"] (Jk9 (Jkn (top 47) 1)):=⟨rfl,rfl,rfl,by decide +kernel,rfl,by decide +kernel,by decide +kernel⟩
theorem Joz (T:Tx K mg a):Sx P w K mg base CX0 1 a.Jgy a.Jgz ["self"] (Yck a.Jjs):=by
 refine T.Jce.fn.ok Jpa (λvs H Q E h=>?_) (λcdv A outer s H vs Q E hr h=>?_)
 ·obtain ⟨p,xs,rfl,_⟩:=h
  rfl
 ·obtain ⟨p,xs,rfl,⟨dx,t,h1,h2⟩,k⟩:=h
  refine ⟨_,(Jk7 (Jkg (Jke Jkp (by rfl) T.Jau Jlg (So (Jlh (pv 0) (by rfl)) Ss)))),?_⟩
  exact ⟨_,rfl,p,_,dx,_,_,rfl,h1,T.Jd1,T.Je1,rfl,t,xs,rfl,.inr (SqT.of h2),k⟩
theorem Jp4:Jkd ["self","marks"] ["self","marks"] (Jk9 (Jkn (top 48) 0)):=⟨rfl,rfl,rfl,by decide +kernel,rfl,by decide +kernel,by decide +kernel⟩
theorem Jo8 (T:Tx K mg a):Sx P w K mg base (CXX P w) 4 a.Jh2 a.Jh3 ["self","marks"] (Jwn K a 0):=by
 have Sba:=Jo0 (P:=P) (w:=w) (base:=base) T
 refine T.Jcg.fn.okX Jp4 (λvs H Q E h=>?_) (λcdv A outer s H vs Q E hr h=>?_)
 ·obtain ⟨p,C,dx,x,rfl,_⟩:=h
  rfl
 ·obtain ⟨p,C,dx,x,rfl,hp,c,n,h⟩:=h
  refine ⟨_,(Jk7 (Jmo (pv 0) (Jmg T.Jl Sba Jlp hr (by decide) (So (pv 1) (So Sy Ss))) rfl)),?_⟩
  rcases h with ⟨xs,sq,tms,e,k⟩|⟨sh,k⟩
  ·exact ⟨_,rfl,x,0,rfl,.inl ⟨xs,sq,tms,e,λt H' s' ht=>⟨_,rfl,p,C,dx,[],rfl,s' _ _ hp,c,n,by simp,k t H' s' ht⟩⟩⟩
  ·exact ⟨_,rfl,x,0,rfl,.inr ⟨sh,k⟩⟩
theorem Jp5:Jkd ["self"] ["self"] (Jk9 (Jkn (top 48) 1)):=⟨rfl,rfl,rfl,by decide +kernel,rfl,by decide +kernel,by decide +kernel⟩
theorem Jox (T:Tx K mg a):Sx P w K mg base CX0 1 a.Jh4 a.Jh5 ["self"] (Yck a.Jjt):=by
 refine T.Jch.fn.ok Jp5 (λvs H Q E h=>?_) (λcdv A outer s H vs Q E hr h=>?_)
 ·obtain ⟨p,xs,rfl,_⟩:=h
  rfl
 ·obtain ⟨p,xs,rfl,⟨dx,t,h1,h2⟩,k⟩:=h
  refine ⟨_,(Jk7 (Jkg (Jke Jkp (by rfl) T.Jau Jlg (So (Jlh (pv 0) (by rfl)) Ss)))),?_⟩
  exact ⟨_,rfl,p,_,dx,_,_,rfl,h1,T.Jd7,T.Je2,rfl,t,xs,rfl,.inr (SqT.of h2),k⟩
theorem Jp7:Jkd ["self","marks"] ["self","marks"] (Jk9 (Jkn (top 49) 0)):=⟨rfl,rfl,rfl,by decide +kernel,rfl,by decide +kernel,by decide +kernel⟩
theorem Joa (T:Tx K mg a):Sx P w K mg base (CXX P w) 4 a.Jh8 a.Jh9 ["self","marks"] (Jwn K a 1):=by
 have Sba:=Jo0 (P:=P) (w:=w) (base:=base) T
 refine T.Jcj.fn.okX Jp7 (λvs H Q E h=>?_) (λcdv A outer s H vs Q E hr h=>?_)
 ·obtain ⟨p,C,dx,x,rfl,_⟩:=h
  rfl
 ·obtain ⟨p,C,dx,x,rfl,hp,c,n,h⟩:=h
  refine ⟨_,(Jk7 (Jmo (pv 0) (Jmg T.Jl Sba Jlp hr (by decide) (So (pv 1) (So Sy Ss))) rfl)),?_⟩
  rcases h with ⟨xs,sq,tms,e,k⟩|⟨sh,k⟩
  ·exact ⟨_,rfl,x,1,rfl,.inl ⟨xs,sq,tms,e,λt H' s' ht=>⟨_,rfl,p,C,dx,[],rfl,s' _ _ hp,c,n,by simp,k t H' s' ht⟩⟩⟩
  ·exact ⟨_,rfl,x,1,rfl,.inr ⟨sh,k⟩⟩
theorem Jp8:Jkd ["self"] ["self"] (Jk9 (Jkn (top 49) 1)):=⟨rfl,rfl,rfl,by decide +kernel,rfl,by decide +kernel,by decide +kernel⟩
theorem Joy (T:Tx K mg a):Sx P w K mg base CX0 1 a.Jha a.Jhb ["self"] (Yck a.Jju):=by
 refine T.Jck.fn.ok Jp8 (λvs H Q E h=>?_) (λcdv A outer s H vs Q E hr h=>?_)
 ·obtain ⟨p,xs,rfl,_⟩:=h
  rfl
 ·obtain ⟨p,xs,rfl,⟨dx,t,h1,h2⟩,k⟩:=h
  refine ⟨_,(Jk7 (Jkg (Jke Jkp (by rfl) T.Jau Jlg (So (Jlh (pv 0) (by rfl)) Ss)))),?_⟩
  exact ⟨_,rfl,p,_,dx,_,_,rfl,h1,T.Jdd,T.Je3,rfl,t,xs,rfl,.inr (SqT.of h2),k⟩
theorem Jot:Jkd ["self"] ["self"] (Jk9 (Jkn (top 50) 1)):=⟨rfl,rfl,rfl,by decide +kernel,rfl,by decide +kernel,by decide +kernel⟩
theorem Joq (T:Tx K mg a):Sx P w K mg base CX0 1 a.Jhg a.Jhh ["self"] Spi:=by
 refine T.Jcn.fn.ok Jot (λvs H Q E h=>?_) (λcdv A outer s H vs Q E hr h=>?_)
 ·obtain ⟨x,rfl,_⟩:=h
  rfl
 ·obtain ⟨x,rfl,k⟩:=h
  refine ⟨_,(Jk7 (Jkg Sy)),?_⟩
  exact k
theorem Jn6 {j:Nat} {σ:L2.St} {H:Hp} {x:V} {n:Nat} {Q:VK} (T:Tx K mg a) (g:GS K a H x n) (k:Q (.int n) H) (hj:1<=j):
  ∃g' C dx fs f fd ps sp k',x= .ref g'/\H g'=some (.ins C dx fs)/\fs.lookup ("settings" :Str)=none/\Cls K C/\Joe K C "settings" f/\Sx P w K mg base CX0 k' f fd ps sp/\k'<=j/\Sbk K fd ps []/\Jz3 σ H λvs H2=>sp (x::vs) H2 Q E0:=by
 cases g with
 | @plain g C xs i ga l=>
  obtain ⟨dx,t,h1,h2⟩:=ga
  rcases i with rfl|rfl|rfl
  ·exact ⟨g,_,dx,_,_,_,_,_,_,rfl,h1,rfl,T.Jd1,T.Jd5,Joz T,hj,T.Jce.bd,g,xs,rfl,⟨dx,t,h1,h2⟩,k⟩
  ·exact ⟨g,_,dx,_,_,_,_,_,_,rfl,h1,rfl,T.Jd7,T.Jdb,Jox T,hj,T.Jch.bd,g,xs,rfl,⟨dx,t,h1,h2⟩,k⟩
  ·exact ⟨g,_,dx,_,_,_,_,_,_,rfl,h1,rfl,T.Jdd,T.Jdh,Joy T,hj,T.Jck.bd,g,xs,rfl,⟨dx,t,h1,h2⟩,k⟩
 | @stuck g dx x y h1=>exact ⟨g,_,dx,_,_,_,_,_,_,rfl,h1,rfl,T.Jdj,T.Jdn,Joq T,hj,T.Jcn.bd,_,rfl,k⟩
theorem GS.ty {H:Hp} {x:V} {n:Nat} (T:Tx K mg a) (g:GS K a H x n):∃t,TyX K H x t/\Sj K t (.ref a.Jjr)=some true:=by
 cases g with
 |plain i ga l=>
  obtain ⟨dx,t,h1,h2⟩:=ga
  rcases i with rfl|rfl|rfl
  ·exact ⟨_,.of (T.Jd2.ty T.Jd1 h1),T.Jem⟩
  ·exact ⟨_,.of (T.Jd8.ty T.Jd7 h1),T.Jen⟩
  ·exact ⟨_,.of (T.Jde.ty T.Jdd h1),T.Jeo⟩
 |stuck h1=>exact ⟨_,.of (T.Jdk.ty T.Jdj h1),T.Jep⟩
theorem Stj (x y:V):Jmp ("setting" :Str) y [(("gate" :Str),x)]= [(("gate" :Str),x),(("setting" :Str),y)]:=by
 have h:¬(("gate" :Str)="setting"):=by decide +kernel
 simp [Jmp,h]
theorem Jos:Jkd ["self","gate","setting"] ["self","gate","setting"] (Jk9 (Jkn (top 50) 0)):=⟨rfl,rfl,rfl,by decide +kernel,rfl,by decide +kernel,by decide +kernel⟩
theorem Jqy (T:Tx K mg a):Sx P w K mg base (CXX P w) 4 a.Jhe a.Jhf ["self","gate","setting"] (Jzt K a):=by
 have Sa5:=Jm0 (P:=P) (w:=w) (base:=base) T
 have Sa6:=Jmv (P:=P) (w:=w) (base:=base) T
 refine T.Jcm.fn.okX Jos (λvs H Q E h=>?_) (λcdv A outer s H vs Q E hr h=>?_)
 ·obtain ⟨p,dx,x,y,rfl,_⟩:=h
  rfl
 ·obtain ⟨p,dx,x,y,rfl,hp,h⟩:=h
  refine ⟨_,(Jk6 (Jku (Jl3 (Jkx (Jke Jlw (by rfl) T.Jat Jkq (So (pv 1) (So (Jlf (by rfl) T.Jbd (v:=.ref _) rfl) Ss))))) (Jk7 (Jll Jlp rfl (Jmn T.Jct Sa6 hr (by decide) T.Jc5.bd T.Jb6 (So (pv 1) Ss)))) Jki)
   (Jk6 (Jku (Jl3 (Jkx (Jkc T.J0 Sa5 hr (by decide) (So (pv 2) (So Sy (So (Jkl Jm9 (Jpk (pv 1) hr) Sy) Ss)))))) (Jk7 (Jll Jlp rfl (Jmn T.Jct Sa6 hr (by decide) T.Jc5.bd T.Jb6 (So (pv 2) Ss)))) Jki)
   (Jk6 (Jmo (pv 0) (pv 1) rfl)
   (Jk7 (Jmo (pv 0) (pv 2) rfl))))),?_⟩
  rcases h with ⟨t,ty,e,k⟩|⟨n,g,tm,e,k⟩|⟨n,g,tm,e,k⟩
  ·exact ⟨_,rfl,x,_,_,t,_,rfl,rfl,ty,e,_,rfl,Jmb (Jnn T.Jct T.Jdy rfl λe dx h1 h2 h3=>k _ _ _ (Rf.new h1 h2 h3))⟩
  ·obtain ⟨t,ty,et⟩:=g.ty T
   refine ⟨_,rfl,x,_,_,t,_,rfl,rfl,ty,et,_,rfl,Jlb ⟨_,rfl,_,rfl,Jn6 T g ⟨_,_,rfl,rfl,y,0,(n:Int) - 1,rfl,tm,_,rfl,?_⟩ (by decide)⟩⟩
   rw [e]
   exact Jmb (Jnn T.Jct T.Jdy rfl λe dx h1 h2 h3=>k _ _ _ (Rf.new h1 h2 h3))
  ·obtain ⟨t,ty,et⟩:=g.ty T
   refine ⟨_,rfl,x,_,_,t,_,rfl,rfl,ty,et,_,rfl,Jlb ⟨_,rfl,_,rfl,Jn6 T g ⟨_,_,rfl,rfl,y,0,(n:Int) - 1,rfl,tm,_,rfl,?_⟩ (by decide)⟩⟩
   rw [e]
   refine Jlb ⟨_,rfl,_,rfl,p,_,dx,[],rfl,hp,T.Jdj,T.Je4,by simp,_,rfl,_,rfl,p,_,dx,_,rfl,Sv,T.Jdj,T.Je5,by simp [Jmp],?_⟩
   show Q .non _
   rw [Jn8]
   exact Stj x y▸k
theorem Jxn:Jkd ["_law_script","_law_k"] ["_law_script","_law_k"] (Jk9 (top 66)):=⟨rfl,rfl,rfl,by decide +kernel,rfl,by decide +kernel,by decide +kernel⟩
theorem Jx9 (T:Tx K mg a):Sx P w K mg base CX0 1 a.Jhy a.Jhz ["_law_script","_law_k"] (Sm0 K):=by
 refine T.Jq.fn.ok Jxn (λvs H Q E h=>?_) (λcdv A outer s H vs Q E hr h=>?_)
 ·obtain ⟨x,ns,i,rfl,_⟩:=h
  rfl
 ·obtain ⟨x,ns,i,rfl,hS,k⟩:=h
  refine ⟨_,(Jk6 (Jku (Jkr Sk8 (pv 1) (Jke Jkp (by rfl) T.Jau Jlg (So (pv 0) Ss)) (Jkt _)) (Jk7 (Jkg (Jkm Jks (pv 0) (pv 1) (λ_ _=>rfl)))) Jki)
   (Jk7 (Jkg (Jkl Jl0 (Jkl Jro Sy (pv 1)) Sy)))),?_⟩
  refine ⟨_,rfl,_,rfl,x,_,rfl,.inl hS,_,_,rfl,rfl,_,rfl,Jnd (λq=>?_) (λq=>?_)⟩
  ·have hi:i < ns.length:=by
    have q':=of_decide_eq_true q
    rw [yf] at q'
    omega
   exact ⟨_,rfl,_,rfl,x,_,_,_,rfl,rfl,hS,Jzl hi,k _⟩
  ·exact ⟨_,rfl,_,_,rfl,rfl,.inl ⟨by decide,by decide⟩,_,_,rfl,rfl,k _⟩
theorem Jui:Jkd ["_law_cell_here"] ["_law_cell_here"] (Jk9 (top 67)):=⟨rfl,rfl,rfl,by decide +kernel,rfl,by decide +kernel,by decide +kernel⟩
theorem Jub (T:Tx K mg a):Sx P w K mg base CX0 1 a.Ji0 a.Ji1 ["_law_cell_here"] Ycn:=by
 refine T.Jr.fn.ok Jui (λvs H Q E h=>?_) (λcdv A outer s H vs Q E hr h=>?_)
 ·obtain ⟨c,rfl,_⟩:=h
  rfl
 ·obtain ⟨c,rfl,k⟩:=h
  refine ⟨_,(Jk7 (Jkg (Jl1 (So (Jke (Jng rfl) (by rfl) T.Jaw Jri (So Sy (So (Jkl Jm9 (pv 0) (Jkl Sls Sy Sy)) Ss))) (So (Jkl Jqg (pv 0) Sy) (So Sy Ss)))))),?_⟩
  refine ⟨_,rfl,_,_,rfl,rfl,⟨by decide,by decide,by decide⟩,_,_,rfl,rfl,_,_,rfl,_,rfl,_,_,rfl,rfl,(by show (0:Int) < 2147483647;decide),Jrs _ (by show 3<=2000;decide),λp hp=>?_⟩
  exact k p _ hp (Sn.upd hp) ⟨_,_,_,Sv⟩
theorem Sbz:Jkd ["_law_stream_here","_law_many","_law_digit","_law_number"] ["_law_stream_here","_law_many"] (Jk9 (top 68)):=⟨rfl,rfl,rfl,by decide +kernel,rfl,by decide +kernel,by decide +kernel⟩
theorem Jm8 (T:Tx K mg a):Sx P w K mg base CX0 1 a.Ji2 a.Ji3 ["_law_stream_here","_law_many"] Sme:=by
 refine T.Js.fn.ok Sbz (λvs H Q E h=>?_) (λcdv A outer s H vs Q E hr h=>?_)
 ·obtain ⟨p,m,rfl,_⟩:=h
  rfl
 ·obtain ⟨p,m,rfl,⟨a0,b0,c0,hp⟩,hm,hl,k⟩:=h
  refine ⟨_,(Jk6 (Jrr (Jkl Jl0 (Jkm Jks (pv 0) Sy (λ_ _=>rfl)) Sy) (Jtj (pv 0) Sy Jpb))
   (Jk6 (Jku (Jkr Jxe (Jkm Jks (pv 0) Sy (λ_ _=>rfl)) Sy (Jkt _)) (Jk6 (Jkh (i:=2) Sbz.nd rfl (ye rfl) (Jkl Jqg (Jkm Jks (pv 0) Sy (λ_ _=>rfl)) (pv 1)))
    (Jk6 (Jrr (Jkl Joc (Jkm Jks (pv 0) Sy (λ_ _=>rfl)) (pv 1)) (Jtj (pv 0) Sy Jpb))
    (Jk7 (Jkg (pv 2))))) Jki)
   (Jk6 (Jkh (i:=3) Sbz.nd rfl (ye rfl) (Jkl Jqg (Jkl Jro (Jkl Jl0 (Jkm Jks (pv 0) Sy (λ_ _=>rfl)) (Jkl Jro Sy (Jkm Jks (pv 0) Sy (λ_ _=>rfl)))) Sy) Sy))
   (Jk6 (Jkh (i:=3) Sbz.nd rfl (ye rfl) (Jkl Jqg (Jkl Jro (pv 3) (pv 3)) Sy))
   (Jk7 (Jkg (Jkl Jqg (Jkl Joc (Jkl Jqg (Jkl Jl0 (Jkl Jro (pv 3) (Jkl Jl0 (pv 3) Sy)) (Jkl Jro Sy (Jkm Jks (pv 0) Sy (λ_ _=>rfl)))) Sy) Sy) (pv 1)))))))),?_⟩
  refine ⟨_,rfl,p,_,_,_,rfl,rfl,Sw.of hp,rfl,_,_,rfl,rfl,_,rfl,p,_,_,_,rfl,rfl,hp,rfl,?_⟩
  refine ⟨_,rfl,p,_,_,_,rfl,rfl,Sw.of Sv,rfl,_,_,rfl,rfl,_,rfl,Jnd (λ_=>?_) (λ_=>?_)⟩
  ·refine ⟨_,rfl,p,_,_,_,rfl,rfl,Sw.of Sv,rfl,_,rfl,_,_,rfl,rfl,hm,?_⟩
   refine ⟨_,rfl,p,_,_,_,rfl,rfl,Sw.of Sv,rfl,_,rfl,_,_,rfl,rfl,⟨hm,hl⟩,_,rfl,p,_,_,_,rfl,rfl,Sv,rfl,?_⟩
   refine ⟨_,rfl,k _ _ (Int.emod_nonneg _ (by omega)) (Int.emod_lt_of_pos _ hm) ⟨λb o ne e=>?_,_,_,_,Sv⟩⟩
   rw [Sz ne,Sz ne]
   exact e
  ·refine ⟨_,rfl,p,_,_,_,rfl,rfl,Sw.of Sv,rfl,_,rfl,p,_,_,_,rfl,rfl,Sw.of Sv,rfl,_,_,rfl,rfl,.inl ⟨by decide,by decide⟩,_,_,rfl,rfl,_,_,rfl,rfl,.inr ⟨by decide,by decide⟩,_,_,rfl,rfl,(by show (0:Int) < 2147483629;decide),?_⟩
   have n1:∀x:Int,-(2^64) < x%2147483629/\x%2147483629 < 2^64:=λx=>by
    have h1:=Int.emod_nonneg x (show (2147483629:Int)≠0 by decide)
    have h2:=Int.emod_lt_of_pos x (show (0:Int) < 2147483629 by decide)
    constructor <;> omega
   have n2:∀x:Int,-(2^64) < x%2147483587/\x%2147483587 < 2^64:=λx=>by
    have h1:=Int.emod_nonneg x (show (2147483587:Int)≠0 by decide)
    have h2:=Int.emod_lt_of_pos x (show (0:Int) < 2147483587 by decide)
    constructor <;> omega
   refine ⟨_,rfl,_,rfl,_,_,rfl,rfl,.inl (n1 _),_,_,rfl,rfl,(by show (0:Int) < 2147483587;decide),?_⟩
   refine ⟨_,rfl,_,rfl,_,_,rfl,rfl,_,_,rfl,rfl,.inl (n2 _),_,rfl,p,_,_,_,rfl,rfl,Sw.of Sv,rfl,_,_,rfl,rfl,.inl ⟨by decide,by decide⟩,_,_,rfl,rfl,_,_,rfl,rfl,(by show (0:Int) < 2147483647;decide),_,_,rfl,rfl,⟨by decide,by decide⟩,_,rfl,_,_,rfl,rfl,hm,?_⟩
   refine k _ _ (Int.emod_nonneg _ (by omega)) (Int.emod_lt_of_pos _ hm) ⟨λb o ne e=>?_,_,_,_,Sv⟩
   rw [Sz ne]
   exact e
theorem Jqk:Jkd ["self","thing"] ["self","thing"] (Jk9 (Jkn (top 3) 0)):=⟨rfl,rfl,rfl,by decide +kernel,rfl,by decide +kernel,by decide +kernel⟩
theorem Jta (T:Tx K mg a):Sx P w K mg base CX0 1 a.Jf6 a.Jf7 ["self","thing"] (Jo3 K "thing"):=by
 refine T.Jc4.fn.ok Jqk (λvs H Q E h=>?_) (λcdv A outer s H vs Q E hr h=>?_)
 ·obtain ⟨e,C,W,fI,y,rfl,_⟩:=h
  rfl
 ·obtain ⟨e,C,W,fI,y,rfl,q,c,n,k⟩:=h
  refine ⟨_,(Jk7 (Jny (pv 0) (pv 1) rfl)),?_⟩
  exact ⟨_,rfl,_,rfl,e,C,W,fI,true,rfl,q,c,n,k⟩
theorem Jpo:Jkd ["self","thing"] ["self","thing"] (Jk9 (Jkn (top 5) 0)):=⟨rfl,rfl,rfl,by decide +kernel,rfl,by decide +kernel,by decide +kernel⟩
theorem Jsc (T:Tx K mg a):Sx P w K mg base CX0 1 a.Jfa a.Jfb ["self","thing"] (Jo3 K "thing"):=by
 refine T.Jc6.fn.ok Jpo (λvs H Q E h=>?_) (λcdv A outer s H vs Q E hr h=>?_)
 ·obtain ⟨e,C,W,fI,y,rfl,_⟩:=h
  rfl
 ·obtain ⟨e,C,W,fI,y,rfl,q,c,n,k⟩:=h
  refine ⟨_,(Jk7 (Jny (pv 0) (pv 1) rfl)),?_⟩
  exact ⟨_,rfl,_,rfl,e,C,W,fI,true,rfl,q,c,n,k⟩
theorem Jug:Jkd ["text","signs"] ["text","signs"] (Jk9 (top 16)):=⟨rfl,rfl,rfl,by decide +kernel,rfl,by decide +kernel,by decide +kernel⟩
theorem Ju9 (T:Tx K mg a):Sx P w K mg base CX0 1 a.Jfo a.Jfp ["text","signs"] Sm6:=by
 refine T.J1.fn.ok Jug (λvs H Q E h=>?_) (λcdv A outer s H vs Q E hr h=>?_)
 ·obtain ⟨z,g,rfl,_⟩:=h
  rfl
 ·obtain ⟨z,g,rfl,hz,k⟩:=h
  refine ⟨_,(Jk7 (Jkg (Jke (Jnh rfl) (by rfl) T.Jan Jq4 (So (Jl4 (N:=(["sign","signs"]:List Str)) (ini:=[none,some 1]) rfl (Slw (pv 0)) (λ_ _ _ _ _=>(Jkf (i:=0) (by decide +kernel:(["sign","signs"]:List Str).Nodup) rfl (ye rfl))) (λ_ _ _ _ _=>Jky) (λ_ _ _ _ _=>(Jmw Ym (pv 0) (pv 1) (by with_unfolding_all rfl)))) Ss)))),?_⟩
  refine ⟨_,rfl,z,rfl,λD hD=>?_⟩
  refine Yan (z:=z) (D:=D) (λi σ H'=>∃o,σ= [o,some (.str g)]/\H'=upd H D (.lst ((z.cps.toList.take i).map λc=>V.bl (decide (c∈g.cps.toList))))) ?_ ?_ ?_
  ·exact ⟨none,rfl,rfl⟩
  ·rintro i c σ H' hc ⟨o,rfl,rfl⟩
   refine Jlc ⟨_,rfl,_,rfl,⟨#[c]⟩,g,rfl,rfl,_,Sv,?_,_,rfl,?_⟩
   ·rw [yf,yah,Ydm]
    exact Jkk (by omega)
   ·rw [Jn8,StrLaws.found_one]
    have e:z.cps.toList[i]?=some c:=by simpa using hc
    rw [yan,e]
    simp
  ·rintro σ H' ⟨o,rfl,rfl⟩
   have e:z.cps.toList.take z.cps.size=z.cps.toList:=yat (by simp)
   refine ⟨D,z.cps.toList.map λc=>decide (c∈g.cps.toList),rfl,Sw.of (by rw [Sv,e,List.map_map];rfl),?_⟩
   have e2:(z.cps.toList.map λc=>decide (c∈g.cps.toList)).all id=Jww g z:=by
    unfold Jww
    rw [List.all_map]
    rfl
   rw [e2]
   exact k _ (Sn.upd hD)
theorem Ydr {H:Hp} {x:V} (h:Tm K H x) (n:∀z,x≠ .str z):∃t,TyX K H x t/\Sj K t (.type "str")=some false:=by
 rcases h with ⟨i,rfl⟩|⟨t,ty,ht⟩
 ·exact ⟨_,.of (.int i),rfl⟩
 ·refine ⟨t,ty,?_⟩
  unfold tpB at ht
  simp only [List.contains_cons,List.contains_nil,yce,Bool.or_eq_true,beq_iff_eq] at ht
  rcases ht with rfl|rfl|rfl|rfl|rfl|rfl
  ·rfl
  ·obtain ⟨z,e⟩:=Smo ty rfl
   exact absurd e (n z)
  ·rfl
  ·rfl
  ·rfl
  ·rfl
theorem Jyv:Jkd ["thing"] ["thing"] (Jk9 (top 17)):=⟨rfl,rfl,rfl,by decide +kernel,rfl,by decide +kernel,by decide +kernel⟩
theorem Jym (T:Tx K mg a):Sx P w K mg base CX0 2 a.Jfq a.Jfr ["thing"] (Sm7 K):=by
 have Sfp:=Ju9 (P:=P) (w:=w) (base:=base) T
 refine T.J2.fn.ok Jyv (λvs H Q E h=>?_) (λcdv A outer s H vs Q E hr h=>?_)
 ·obtain ⟨x,rfl,_⟩:=h
  rfl
 ·obtain ⟨x,rfl,nm,k⟩:=h
  refine ⟨_,(Jk6 (Jku (Jl3 (Jkx (Jke Jlw (by rfl) T.Jat Jkq (So (pv 0) (So (Jm6 (v:=.ty "str") (by rfl) T.Jb1 Sl7 rfl) Ss))))) (Jk7 (Jkg Jmf)) Jki)
   (Jk7 (Jkg (Jwd (Jxf Jnl Jnl Sy (Jke Jvn (by rfl) T.Jau Jlg (So (pv 0) Ss)) (Jlf (by rfl) T.Jad (v:=.int 8) ⟨_,rfl⟩)) (Jwf (Jkc T.J1 Sfp hr (by decide) (So (pv 0) (So (Jlf (by rfl) T.Jac (v:=.str "abcdefghijklmnopqrstuvwxyz") ⟨_,rfl⟩) Ss)))))))),?_⟩
  by_cases hx:∃z,x= .str z
  ·obtain ⟨z,rfl⟩:=hx
   have k:∀H',Sn H H'->Q (.bl (Js4 z)) H':=k
   have hz:z.length<=2000:=by have:=(nm.2 z rfl).len;omega
   refine ⟨_,rfl,_,_,_,_,_,rfl,rfl,.of (.str z),(by rfl:Sj K (.type "str") (.type "str")=some true),_,rfl,Jlb ?_⟩
   refine ⟨_,rfl,z,rfl,Jrs _ hz,_,_,rfl,rfl,_,rfl,?_⟩
   have no:¬(1<=z.length/\z.length<=8)->Q (.bl false) H:=λq=>by
    have k':=k H (Sn.refl H)
    unfold Js4 at k'
    rw [decide_eq_false q,yci] at k'
    exact k'
   by_cases h1:(1:Int)<=(z.length:Int)
   ·rw [decide_eq_true h1]
    refine Jmb ⟨_,_,rfl,rfl,_,rfl,?_⟩
    by_cases h2:(z.length:Int)<=8
    ·rw [decide_eq_true h2]
     refine Jmb ⟨_,rfl,z,_,rfl,hz,λH' s'=>?_⟩
     have e:Js4 z=Jww LET z:=by
      unfold Js4
      rw [decide_eq_true (by omega:1<=z.length/\z.length<=8),Bool.true_and]
     have k':=k H' s'
     rw [e] at k'
     exact k'
    ·rw [decide_eq_false h2]
     exact Jlb (no (by omega))
   ·rw [decide_eq_false h1]
    exact Jlb ⟨_,rfl,Jlb (no (by omega))⟩
  ·obtain ⟨t,ty,e1⟩:=Ydr nm.1 λz e=>hx ⟨z,e⟩
   have k':=k H (Sn.refl H)
   have e:Jn9 x=false:=by
    cases x with
    |str z=>exact absurd ⟨z,rfl⟩ hx
    |_=>rfl
   rw [e] at k'
   exact ⟨_,rfl,_,_,_,_,_,rfl,rfl,ty,e1,_,rfl,Jmb k'⟩
theorem Jqo:Jkd ["thing","low","high"] ["thing","low","high"] (Jk9 (top 58)):=⟨rfl,rfl,rfl,by decide +kernel,rfl,by decide +kernel,by decide +kernel⟩
theorem Jqf (T:Tx K mg a):Sx P w K mg base (CXX P w) 3 a.Jhk a.Jhl ["thing","low","high"] (Yy K a):=by
 have Sa5:=Jm0 (P:=P) (w:=w) (base:=base) T
 have Sd5:=Jsc (P:=P) (w:=w) (base:=base) T
 refine T.Jm.fn.okX Jqo (λvs H Q E h=>?_) (λcdv A outer s H vs Q E hr h=>?_)
 ·obtain ⟨x,lo,hi,rfl,_⟩:=h
  rfl
 ·obtain ⟨x,lo,hi,rfl,tm,h⟩:=h
  refine ⟨_,(Jk7 (Jku (Jl3 (Jkx (Jkc T.J0 Sa5 hr (by decide) (So (pv 0) (So (pv 1) (So (pv 2) Ss)))))) (Jk7 (Jll Jlp rfl (Jmn T.Jcu Sd5 hr (by decide) T.Jc6.bd T.Jb7 (So (pv 0) Ss)))) Jki)),?_⟩
  refine ⟨_,rfl,_,rfl,_,rfl,x,lo,hi,rfl,tm,_,rfl,?_⟩
  rcases h with ⟨e,k⟩|⟨e,k⟩
  ·rw [e]
   exact Jlb k
  ·rw [e]
   exact Jmb (Jnn T.Jcu T.Jdz rfl λe dx h1 h2 h3=>k _ _ _ (RfC.new h1 h2 h3))
theorem Jmy {f:Str} {v:V}:∀{fs:List (Str×V)},(fs.map (·.1)).contains f=false->Jmp f v fs=fs++ [(f,v)]
 | [],_=>rfl
 | (g,x) :: r,h=>by
  rw [yas,List.contains_cons,Bool.or_eq_false_iff] at h
  have ne:¬g=f:=λe=>by
   have:=h.1
   rw [e] at this
   simp at this
  show (if g=f then (g,v)::r else (g,x)::Jmp f v r)=_
  rw [if_neg ne,Jmy h.2]
  rfl
theorem Jr6:Jkd ["self","name","low","high","start","rain","gate"] ["self","name","low","high","start","rain","gate"] (Jk9 (Jkn (top 59) 0)):=⟨rfl,rfl,rfl,by decide +kernel,rfl,by decide +kernel,by decide +kernel⟩
theorem Jpx (T:Tx K mg a):Sx P w K mg base (CXX P w) 4 a.Jhm a.Jhn ["self","name","low","high","start","rain","gate"] (Jzr K a):=by
 have Sh7:=Jym (P:=P) (w:=w) (base:=base) T
 have Sas:=Jqf (P:=P) (w:=w) (base:=base) T
 have Sdc:=Jta (P:=P) (w:=w) (base:=base) T
 have Sa6:=Jmv (P:=P) (w:=w) (base:=base) T
 refine T.Jcp.fn.okX Jr6 (λvs H Q E h=>?_) (λcdv A outer s H vs Q E hr h=>?_)
 ·obtain ⟨p,dx,n,lo,hi,st,rn,g,gb,d,rfl,_⟩:=h
  rfl
 ·obtain ⟨p,dx,n,lo,hi,st,rn,g,gb,d,rfl,hp,nm,tlo,thi,tst,trn,gt,du,k⟩:=h
  refine ⟨?t,?B,?C⟩
  case B=>
   refine' Jk6 (Jku (Jl3 (Jkx (Jkc T.J2 Sh7 hr (by decide) (So (pv 1) Ss)))) (Jk7 (Jll Jlp rfl (Jmn T.Jcs Sdc hr (by decide) T.Jc4.bd T.Jb5 (So (pv 1) Ss)))) Jki) ?_
   rotate_left
   refine' Jk6 (Jlv (Jmg T.Jm Sas Jlp hr (by decide) (So (pv 2) (So Sy (So (Jlf (by rfl) T.Jai (v:=.int 12) ⟨_,rfl⟩) Ss))))) ?_
   rotate_left
   refine' Jk6 (Jlv (Jmg T.Jm Sas Jlp hr (by decide) (So (pv 3) (So (pv 2) (So (Jlf (by rfl) T.Jai (v:=.int 12) ⟨_,rfl⟩) Ss))))) ?_
   rotate_left
   refine' Jk6 (Jlv (Jmg T.Jm Sas Jlp hr (by decide) (So (pv 4) (So (pv 2) (So (pv 3) Ss))))) ?_
   rotate_left
   refine' Jk6 (Jlv (Jmg T.Jm Sas Jlp hr (by decide) (So (pv 5) (So Sy (So (Jlf (by rfl) T.Jaj (v:=.int 6) ⟨_,rfl⟩) Ss))))) ?_
   rotate_left
   refine' Jk6 (Jku (Jl3 (Jkx (Jke Jlw (by rfl) T.Jat Jkq (So (pv 6) (So (Jlf (by rfl) T.Jbd (v:=.ref _) rfl) Ss))))) (Jk7 (Jll Jlp rfl (Jmn T.Jct Sa6 hr (by decide) T.Jc5.bd T.Jb6 (So (pv 6) Ss)))) Jki) ?_
   rotate_left
   refine' Jk6 (Jmo (pv 0) (pv 1) rfl) ?_
   rotate_left
   refine' Jk6 (Jmo (pv 0) (pv 2) rfl) ?_
   rotate_left
   refine' Jk6 (Jmo (pv 0) (pv 3) rfl) ?_
   rotate_left
   refine' Jk6 (Jmo (pv 0) (pv 4) rfl) ?_
   rotate_left
   refine' Jk6 (Jmo (pv 0) (pv 5) rfl) ?_
   rotate_left
   exact (Jk7 (Jmo (pv 0) (pv 6) rfl))
  refine ⟨_,rfl,n,rfl,nm,λH1 s1=>⟨_,rfl,?_⟩⟩
  cases du with
  |name e=>
   rw [e]
   exact Jmb (Jnn T.Jcs T.Jdx rfl λe dx h1 h2 h3=>k _ _ _ ((RfC.new h1 h2 h3).of s1))
  |low e1 e2=>
   rw [e1]
   exact Jlb ⟨_,rfl,lo,0,12,rfl,tlo.same s1,.inr ⟨e2,λc eo H' rf=>k c eo H' (rf.of s1)⟩⟩
  |high l e1 e2 e3 e4=>
   subst e2
   rw [e1]
   refine Jlb ⟨_,rfl,_,0,12,rfl,tlo.same s1,.inl ⟨e3,?_⟩⟩
   exact ⟨_,rfl,_,rfl,hi,l,12,rfl,thi.same s1,.inr ⟨e4,λc eo H' rf=>k c eo H' (rf.of s1)⟩⟩
  |start l h e1 e2 e3 e4 e5 e6=>
   subst e2 e3
   rw [e1]
   refine Jlb ⟨_,rfl,_,0,12,rfl,tlo.same s1,.inl ⟨e4,?_⟩⟩
   refine ⟨_,rfl,_,rfl,_,l,12,rfl,thi.same s1,.inl ⟨e5,?_⟩⟩
   exact ⟨_,rfl,_,rfl,_,rfl,st,l,h,rfl,tst.same s1,.inr ⟨e6,λc eo H' rf=>k c eo H' (rf.of s1)⟩⟩
  |rain l h e1 e2 e3 e4 e5 e6 e7=>
   subst e2 e3
   rw [e1]
   refine Jlb ⟨_,rfl,_,0,12,rfl,tlo.same s1,.inl ⟨e4,?_⟩⟩
   refine ⟨_,rfl,_,rfl,_,l,12,rfl,thi.same s1,.inl ⟨e5,?_⟩⟩
   refine ⟨_,rfl,_,rfl,_,rfl,st,l,h,rfl,tst.same s1,.inl ⟨e6,?_⟩⟩
   exact ⟨_,rfl,rn,0,6,rfl,trn.same s1,.inr ⟨e7,λc eo H' rf=>k c eo H' (rf.of s1)⟩⟩
  |gate l h e1 e2 e3 e4 e5 e6 e7 e8=>
   subst e2 e3 e8
   obtain ⟨t,ty,g1,g2,g3⟩:=gt
   rw [e1]
   refine Jlb ⟨_,rfl,_,0,12,rfl,tlo.same s1,.inl ⟨e4,?_⟩⟩
   refine ⟨_,rfl,_,rfl,_,l,12,rfl,thi.same s1,.inl ⟨e5,?_⟩⟩
   refine ⟨_,rfl,_,rfl,_,rfl,st,l,h,rfl,tst.same s1,.inl ⟨e6,?_⟩⟩
   refine ⟨_,rfl,rn,0,6,rfl,trn.same s1,.inl ⟨e7,?_⟩⟩
   exact ⟨_,rfl,g,_,_,t,_,rfl,rfl,Jwr s1 ty,g1,_,rfl,Jmb (Jnn T.Jct T.Jdy rfl λe dx h1 h2 h3=>k _ _ _ ((RfC.new h1 h2 h3).of s1))⟩
  |good l h e1 e2 e3 e4 e5 e6 e7 e8=>
   subst e2 e3 e8
   obtain ⟨t,ty,g1,g2,g3⟩:=gt
   rw [e1]
   refine Jlb ⟨_,rfl,_,0,12,rfl,tlo.same s1,.inl ⟨e4,?_⟩⟩
   refine ⟨_,rfl,_,rfl,_,l,12,rfl,thi.same s1,.inl ⟨e5,?_⟩⟩
   refine ⟨_,rfl,_,rfl,_,rfl,st,l,h,rfl,tst.same s1,.inl ⟨e6,?_⟩⟩
   refine ⟨_,rfl,rn,0,6,rfl,trn.same s1,.inl ⟨e7,?_⟩⟩
   refine ⟨_,rfl,g,_,_,t,_,rfl,rfl,Jwr s1 ty,g1,_,rfl,Jlb ?_⟩
   refine ⟨_,rfl,_,rfl,p,_,dx,[],rfl,s1 _ _ hp,T.Jdp,T.Je6,by simp,?_⟩
   rw [show Jmp "name" n []=([("name",n)]:List (Str×V)) from rfl]
   refine ⟨_,rfl,_,rfl,p,_,dx,_,rfl,Sv,T.Jdp,T.Je7,by simp,?_⟩
   rw [show Jmp "low" (.int l) [("name",n)]=([("name",n),("low",(.int l))]:List (Str×V)) from Jmy (fs:=[("name",n)]) (show (["name"]:List Str).contains "low" =false by decide +kernel)]
   refine ⟨_,rfl,_,rfl,p,_,dx,_,rfl,Sv,T.Jdp,T.Je8,by simp,?_⟩
   rw [show Jmp "high" (.int h) [("name",n),("low",.int l)]=([("name",n),("low",.int l),("high",(.int h))]:List (Str×V)) from Jmy (fs:=[("name",n),("low",.int l)]) (show (["name","low"]:List Str).contains "high" =false by decide +kernel)]
   refine ⟨_,rfl,_,rfl,p,_,dx,_,rfl,Sv,T.Jdp,T.Je9,by simp,?_⟩
   rw [show Jmp "start" st [("name",n),("low",.int l),("high",.int h)]=([("name",n),("low",.int l),("high",.int h),("start",st)]:List (Str×V)) from Jmy (fs:=[("name",n),("low",.int l),("high",.int h)]) (show (["name","low","high"]:List Str).contains "start" =false by decide +kernel)]
   refine ⟨_,rfl,_,rfl,p,_,dx,_,rfl,Sv,T.Jdp,T.Jea,by simp,?_⟩
   rw [show Jmp "rain" rn [("name",n),("low",.int l),("high",.int h),("start",st)]=([("name",n),("low",.int l),("high",.int h),("start",st),("rain",rn)]:List (Str×V)) from Jmy (fs:=[("name",n),("low",.int l),("high",.int h),("start",st)]) (show (["name","low","high","start"]:List Str).contains "rain" =false by decide +kernel)]
   refine ⟨_,rfl,_,rfl,p,_,dx,_,rfl,Sv,T.Jdp,T.Jeb,by simp,?_⟩
   rw [show Jmp "gate" g [("name",n),("low",.int l),("high",.int h),("start",st),("rain",rn)]=([("name",n),("low",.int l),("high",.int h),("start",st),("rain",rn),("gate",g)]:List (Str×V)) from Jmy (fs:=[("name",n),("low",.int l),("high",.int h),("start",st),("rain",rn)]) (show (["name","low","high","start","rain"]:List Str).contains "gate" =false by decide +kernel)]
   show Q .non _
   simp only [Jn8]
   exact k _ s1
theorem Js3:∀(ns:List Int) (lo m n:Int),Jl9 lo (ns.map V.int)=true->ns.getLast?=some m->m+1<=n->n<=12->Jl9 lo ((ns++ [n]).map V.int)=true
 | [],_,_,_,_,h,_,_=>by simp at h
 | [x],lo,m,n,h,hl,h1,h2=>by
  have e:x=m:=by simpa using hl
  subst e
  simp [Jl9] at h⊢
  omega
 |x::y::r,lo,m,n,h,hl,h1,h2=>by
  have hl':(y::r).getLast?=some m:=by simpa using hl
  have h':((decide (lo<=x)&&decide (x<=12))&&Jl9 (x+1) ((y::r).map V.int))=true:=h
  rw [yag] at h'
  have ih:=Js3 (y::r) (x+1) m n h'.2 hl' h1 h2
  show ((decide (lo<=x)&&decide (x<=12))&&Jl9 (x+1) (((y::r)++ [n]).map V.int))=true
  rw [h'.1,ih]
  rfl
theorem Js2:∀(ns:List Int) (lo m:Int),Jl9 lo (ns.map V.int)=true->ns.getLast?=some m->lo<=m/\m<=12
 | [],_,_,_,h=>by simp at h
 | [x],lo,m,h,hl=>by
  have e:x=m:=by simpa using hl
  subst e
  simpa [Jl9] using h
 |x::y::r,lo,m,h,hl=>by
  have hl':(y::r).getLast?=some m:=by simpa using hl
  have h':((decide (lo<=x)&&decide (x<=12))&&Jl9 (x+1) ((y::r).map V.int))=true:=h
  rw [yag,yag,decide_eq_true_eq,decide_eq_true_eq] at h'
  have ih:=Js2 (y::r) (x+1) m h'.2 hl'
  omega
theorem Jsn {ns:List Int} {m:Int} (h:ns.getLast?=some m):atI (ns.map V.int) (-1)=some (.int m):=by
 have hl:1<=ns.length:=by cases ns <;> simp at h⊢
 have e:ixN (ns.map V.int).length (-1)=some (ns.length - 1):=by
  unfold ixN
  rw [yf,if_neg (by decide),if_pos (by omega)]
  congr 1
  omega
 unfold atI
 rw [e]
 show (ns.map V.int)[ns.length - 1]?=some (.int m)
 rw [ym,<-List.getLast?_eq_getElem?,h]
 rfl
def Yee:Sp:=λvs H Q _=>∃(p:S5) (lo:Int),vs= [.ref p,.int lo]/\Sbo H p/\(lo=0\/lo=1)/\∀(l:S5) (ns:List Int) (H':Hp),H l=none->But p H H'->H' l=some (.lst (ns.map V.int))->Jmc lo (ns.map V.int)=true->Q (.ref l) H'
theorem Scb:Jkd ["_law_stream_here","_law_least_here","_law_marks_here","_law_k"] ["_law_stream_here","_law_least_here"] (Jk9 (top 69)):=⟨rfl,rfl,rfl,by decide +kernel,rfl,by decide +kernel,by decide +kernel⟩
theorem Jw7 (T:Tx K mg a):Sx P w K mg base CX0 2 a.Ji4 a.Ji5 ["_law_stream_here","_law_least_here"] Yee:=by
 have Sr:=Jm8 (P:=P) (w:=w) (base:=base) T
 refine T.Jt.fn.ok Scb (λvs H Q E h=>?_) (λcdv A outer s H vs Q E hr h=>?_)
 ·obtain ⟨p,lo,rfl,_⟩:=h
  rfl
 ·obtain ⟨p,lo,rfl,st,hlo,k⟩:=h
  refine ⟨_,(Jk6 (Jkh (i:=2) Scb.nd rfl (ye rfl) (Jl1 (So (Jkl Jl0 (pv 1) (Jkc T.Js Sr hr (by decide) (So (pv 0) (So (Jkl Jm9 Sy (pv 1)) Ss)))) Ss)))
   (Jk6 (Jma PassesOwn.never rfl (Jlj (by rfl) T.Jay (So (Jkc T.Js Sr hr (by decide) (So (pv 0) (So Sy Ss))) Ss)) (Jkf (i:=3) Scb.nd rfl (ye rfl)) (Jk7 (Jku (Jkr Sk8 (Jkm Jks (pv 2) (Jv8 Jru Sy) (λ_ _=>rfl)) Sy (Jkt _)) (Jk7 (Jlv (Jq0 F.plainAttrs_list F.slot_list_append F.type_list_append Jlx (pv 2) (So (Jkl Jl0 (Jkl Jl0 (Jkm Jks (pv 2) (Jv8 Jru Sy) (λ_ _=>rfl)) Sy) (Jkc T.Js Sr hr (by decide) (So (pv 0) (So (Jkl Jm9 Sy (Jkm Jks (pv 2) (Jv8 Jru Sy) (λ_ _=>rfl))) Ss)))) Ss)))) Jki)))
   (Jk7 (Jkg (pv 2))))),?_⟩
  have hm:(0:Int) < 13 - lo/\(13 - lo).natAbs.log2 < 9000:=by rcases hlo with rfl|rfl <;> decide
  refine ⟨_,rfl,_,rfl,_,rfl,_,_,rfl,rfl,p,13 - lo,rfl,st,hm.1,hm.2,λr H1 r0 r1 b1=>⟨_,_,rfl,rfl,(show 1<=Sa by decide),λl hl=>?_⟩⟩
  have hl0:H l=none:=But.free st b1 hl
  have nlp:l≠p:=st.ne hl0
  have b1':But p H (upd H1 l (.lst [.int (lo+r)])):=b1.updD hl0 nlp
  refine ⟨_,rfl,p,4,rfl,b1'.2,by decide,by decide,λj H2 j0 j1 b2=>⟨j,rfl,by omega,by omega,?_⟩⟩
  refine Jn2 (λi σ H'=>∃(o:Option V) (ns:List Int) (m:Int),σ= [some (.ref p),some (.int lo),some (.ref l),o]/\But p H H'/\H' l=some (.lst (ns.map V.int))/\Jl9 lo (ns.map V.int)=true/\ns.getLast?=some m/\ns.length<=i+1)
   ⟨_,[lo+r],lo+r,rfl,b1'.trans b2,b2.1 _ _ nlp Sv,?_,rfl,by simp⟩ ?_ ?_
  ·simp [Jl9]
   omega
  ·rintro i σ H3 hi ⟨o,ns,m,rfl,b3,h3,hmk,hla,hle⟩
   have hb:=Js2 ns lo m hmk hla
   refine ⟨_,rfl,_,rfl,l,_,-1,_,rfl,rfl,Sw.of h3,Jsn hla,_,_,rfl,rfl,_,rfl,Jnd (λq=>?_) (λq=>?_)⟩
   ·have q':m < 12:=of_decide_eq_true q
    refine ⟨_,rfl,.inl ⟨rfl,_,Sw.of h3⟩,_,rfl,_,rfl,l,_,-1,_,rfl,rfl,Sw.of h3,Jsn hla,_,_,rfl,rfl,_,rfl,_,rfl,_,rfl,l,_,-1,_,rfl,rfl,Sw.of h3,Jsn hla,_,_,rfl,rfl,p,12 - m,rfl,b3.2,by omega,?_,λr' H4 s0 s1 b4=>?_⟩
    ·have:(12 - m).natAbs<=12:=by rcases hlo with rfl|rfl <;> omega
     exact yct (Nat.log2_le_self _) (by omega)
    ·have h4:=b4.1 _ _ nlp h3
     refine ⟨_,_,rfl,rfl,l,_,_,rfl,rfl,h4,by rw [yf];exact Jkk (by omega),?_⟩
     refine ⟨_,ns++ [m+1+r'],m+1+r',rfl,?_,?_,Js3 ns lo m _ hmk hla (by omega) (by omega),by simp,by simp;omega⟩
     ·refine ⟨λb o nb e=>?_,?_⟩
      ·rw [Sz (Jkb e hl0)]
       exact b4.1 _ _ nb (b3.1 _ _ nb e)
      ·obtain ⟨x,y,z,q⟩:=b4.2
       exact ⟨x,y,z,by rw [Sz (yi nlp)];exact q⟩
     ·rw [Sv]
      simp
   ·exact ⟨_,ns,m,rfl,b3,h3,hmk,hla,by omega⟩
  ·rintro σ H3 ⟨o,ns,m,rfl,b3,h3,hmk,hla,hle⟩
   refine ⟨_,rfl,k l ns H3 hl0 b3 h3 ?_⟩
   have hn:1<=ns.length:=by cases ns <;> simp at hla⊢
   unfold Jmc
   rw [hmk,Bool.and_true,yf]
   exact decide_eq_true (by omega)
structure Jnq where
 kd:Str
 ns:List Int
 sv:Option Int
structure Sbt (G:Jnq):Prop where
 kd:Knd G.kd
 ns:Jmc (Jn0 G.kd) (G.ns.map V.int)=true
 sv:∀i,G.sv=some i->0<=i/\i < G.ns.length
theorem Sbt.len {G:Jnq} (h:Sbt G):1<=G.ns.length/\G.ns.length<=4:=by
 have q:=h.ns
 unfold Jmc at q
 rw [yag,decide_eq_true_eq,yf] at q
 exact q.1
def nOf (G:Jnq):Nat:=match G.sv with
 |some _=>1
 |none=>G.ns.length
def GX (a:Ad) (H:Hp) (x:V) (G:Jnq):Prop:=∃(g:S5),Sbg (cOf a G.kd) H g (G.ns.map V.int)/\match G.sv with
 |none=>x= .ref g
 |some j=>∃s dx,x= .ref s/\H s=some (.ins a.Jjv dx [("gate",.ref g),("setting",.int j)])
theorem GX.same {a:Ad} {H H':Hp} {x:V} {G:Jnq} (s:Sn H H') (h:GX a H x G):GX a H' x G:=by
 obtain ⟨g,ga,r⟩:=h
 refine ⟨g,ga.same s,?_⟩
 cases e:G.sv with
 |none=>rw [e] at r;exact r
 |some j=>
  rw [e] at r
  obtain ⟨q,dx,r1,r2⟩:=r
  exact ⟨q,dx,r1,s _ _ r2⟩
theorem GX.gs {K:Si} {a:Ad} {H:Hp} {x:V} {G:Jnq} (gg:Sbt G) (h:GX a H x G):GS K a H x (nOf G):=by
 obtain ⟨g,ga,r⟩:=h
 unfold nOf
 cases e:G.sv with
 |none=>
  rw [e] at r
  subst r
  have q:=GS.plain (K:=K) Yai ga (by rw [yf];exact gg.len.2)
  rw [yf] at q
  exact q
 |some j=>
  rw [e] at r
  obtain ⟨q,dx,rfl,r2⟩:=r
  exact .stuck r2
theorem Jx7 {i:Int} (h:i.natAbs<=1000):i.natAbs.log2 < 9000:=yct (Nat.log2_le_self _) (by omega)
theorem ifF {b:Bool} {A B:Prop} (h:b=false) (k:B):if b=true then A else B:=by rw [h];exact Jlb k
theorem ifT {b:Bool} {A B:Prop} (h:b=true) (k:A):if b=true then A else B:=by rw [h];exact Jmb k
theorem Jpm {H:Hp} {ns:List Int} {y:V} (h:y∈ns.map V.int):Tm K H y:=by
 obtain ⟨i,_,rfl⟩:=ybc.mp h
 exact .inl ⟨i,rfl⟩
theorem Jo7 {C:S5} {lo:Int} {x:V} {H:Hp} {Q1:Hp->Prop} {E:XK} {g dx:S5} (c:Cls K C) (n:NoAttr K C "marks") (hg:H g=none) (hd:H dx=none) (ne:dx≠g)
  (h:∃xs,Sq H x xs/\(∀y∈xs,Tm K H y)/\Jmc lo xs=true/\∀H',Sn H H'->Sbg C H' g xs->Q1 H'):
  Jwn K a lo [.ref g,x] (upd (upd H dx (.own g)) g (.ins C dx [])) (λv H2=>v= .non/\Q1 H2) E:=by
 have s1:Sn H (upd (upd H dx (.own g)) g (.ins C dx [])):=λb o e=>by rw [Sz (Jkb e hg),Sz (Jkb e hd)];exact e
 refine ⟨g,C,dx,x,rfl,Sv,c,n,?_⟩
 obtain ⟨xs,sq,tms,e,k⟩:=h
 refine .inl ⟨xs,sq.same s1,λy hy=>(tms y hy).same s1,e,λt H' s' ht=>⟨rfl,?_⟩⟩
 have ng:t≠g:=Sk4 ht (s' _ _ Sv) (by intro z;cases z)
 exact k _ (λb o e=>by rw [Sz (Jkb e hg)];exact s' _ _ (s1 _ _ e)) ⟨dx,t,Sv,by rw [Sz ng];exact ht⟩
def Jpz (kd:Str) (m lv:Int):Int:=if kd=("step" :Str) then (if lv < m then lv else m) else if kd=("flap" :Str) then (if 0 > lv - m then 0 else lv - m) else lv/m
def lvG (G:Jnq) (s lv:Int):Int:=Jpz G.kd (G.ns.getD (match G.sv with|some j=>j|none=>s).toNat 0) lv
def Jz1 (C:S5) (lo:Int) (f:Int->Int->Int):Sp:=λvs H Q _=>∃(g:S5) (ns:List Int) (s lv:Int),vs= [.ref g,.int s,.int lv]/\Sbg C H g (ns.map V.int)/\(0<=s/\s < ns.length)/\(∀n∈ns,lo<=n/\n<=12)/\(0<=lv/\lv<=1000)/\Q (.int (f (ns.getD s.toNat 0) lv)) H
theorem Joj {ns:List Int} {s:Int} (h:0<=s/\s < ns.length):atI (ns.map V.int) s=some (.int (ns.getD s.toNat 0))/\ns.getD s.toNat 0∈ns:=by
 obtain ⟨i,rfl⟩:=ycp h.1
 have hi:i < ns.length:=by omega
 have e:ns.getD (i:Int).toNat 0=ns[i]:=by simp [yaj,hi]
 rw [e]
 exact ⟨Jzl hi,ycg hi⟩
theorem Jqn:Jkd ["self","setting","level"] ["self","setting","level"] (Jk9 (Jkn (top 47) 2)):=⟨rfl,rfl,rfl,by decide +kernel,rfl,by decide +kernel,by decide +kernel⟩
theorem Jqc (T:Tx K mg a):Sx P w K mg base CX0 1 a.Jh0 a.Jh1 ["self","setting","level"] (Jz1 a.Jjs 0 λm lv=>if lv < m then lv else m):=by
 refine T.Jcf.fn.ok Jqn (λvs H Q E h=>?_) (λcdv A outer s H vs Q E hr h=>?_)
 ·obtain ⟨g,ns,s,lv,rfl,_⟩:=h
  rfl
 ·obtain ⟨g,ns,s,lv,rfl,⟨dx,t,hg,ht⟩,hs,hn,hl,k⟩:=h
  obtain ⟨hat,hin⟩:=Joj hs
  refine ⟨?t,?B,?C⟩
  case B=>
   refine' Jk7 ?a
   case a=>exact (Jkg (Jke (Jpf rfl) (by rfl) T.Jax Jvm (So (Jkm Jkw (Jlh (pv 0) (by rfl)) (pv 1) (λ_ _=>rfl)) (So (pv 2) Ss))))
  exact ⟨_,rfl,g,_,dx,_,_,rfl,hg,T.Jd1,T.Je1,rfl,_,rfl,t,_,_,_,rfl,rfl,SqT.of ht,hat,_,rfl,_,_,rfl,k⟩
theorem Jqi:Jkd ["self","setting","level"] ["self","setting","level"] (Jk9 (Jkn (top 48) 2)):=⟨rfl,rfl,rfl,by decide +kernel,rfl,by decide +kernel,by decide +kernel⟩
theorem Jq8 (T:Tx K mg a):Sx P w K mg base CX0 1 a.Jh6 a.Jh7 ["self","setting","level"] (Jz1 a.Jjt 0 λm lv=>if 0 > lv - m then 0 else lv - m):=by
 refine T.Jci.fn.ok Jqi (λvs H Q E h=>?_) (λcdv A outer s H vs Q E hr h=>?_)
 ·obtain ⟨g,ns,s,lv,rfl,_⟩:=h
  rfl
 ·obtain ⟨g,ns,s,lv,rfl,⟨dx,t,hg,ht⟩,hs,hn,hl,k⟩:=h
  obtain ⟨hat,hin⟩:=Joj hs
  refine ⟨?t,?B,?C⟩
  case B=>
   refine' Jk7 ?a
   case a=>exact (Jkg (Jke (Jng rfl) (by rfl) T.Jaw Jri (So (Jkl Jm9 (pv 2) (Jkm Jkw (Jlh (pv 0) (by rfl)) (pv 1) (λ_ _=>rfl))) (So Sy Ss))))
  exact ⟨_,rfl,_,rfl,g,_,dx,_,_,rfl,hg,T.Jd7,T.Je2,rfl,_,rfl,t,_,_,_,rfl,rfl,SqT.of ht,hat,_,_,rfl,rfl,_,_,rfl,k⟩
theorem Jql:Jkd ["self","setting","level"] ["self","setting","level"] (Jk9 (Jkn (top 49) 2)):=⟨rfl,rfl,rfl,by decide +kernel,rfl,by decide +kernel,by decide +kernel⟩
theorem Jqa (T:Tx K mg a):Sx P w K mg base CX0 1 a.Jhc a.Jhd ["self","setting","level"] (Jz1 a.Jju 1 λm lv=>lv/m):=by
 refine T.Jcl.fn.ok Jql (λvs H Q E h=>?_) (λcdv A outer s H vs Q E hr h=>?_)
 ·obtain ⟨g,ns,s,lv,rfl,_⟩:=h
  rfl
 ·obtain ⟨g,ns,s,lv,rfl,⟨dx,t,hg,ht⟩,hs,hn,hl,k⟩:=h
  obtain ⟨hat,hin⟩:=Joj hs
  refine ⟨?t,?B,?C⟩
  case B=>
   refine' Jk7 ?a
   case a=>exact (Jkg (Jkl Joc (pv 2) (Jkm Jkw (Jlh (pv 0) (by rfl)) (pv 1) (λ_ _=>rfl))))
  have hm:=hn _ hin
  refine ⟨_,rfl,_,rfl,g,_,dx,_,_,rfl,hg,T.Jdd,T.Je3,rfl,_,rfl,t,_,_,_,rfl,rfl,SqT.of ht,hat,?_⟩
  exact ⟨_,_,rfl,rfl,⟨by omega,Jx7 (by omega)⟩,k⟩
theorem Jv4:∀{ns:List Int} {lo:Int},Jl9 lo (ns.map V.int)=true->∀n∈ns,lo<=n/\n<=12
 | [],_,_=>λ_ h=>nomatch h
 |x::r,lo,h=>by
  have h':((decide (lo<=x)&&decide (x<=12))&&Jl9 (x+1) (r.map V.int))=true:=h
  rw [yag,yag,decide_eq_true_eq,decide_eq_true_eq] at h'
  intro n hn
  rcases yn.mp hn with rfl|hn
  ·exact h'.1
  ·have:=Jv4 h'.2 n hn
   omega
theorem Sbt.marks {G:Jnq} (h:Sbt G):∀n∈G.ns,Jn0 G.kd<=n/\n<=12:=by
 have q:(decide (1<=(G.ns.map V.int).length/\(G.ns.map V.int).length<=4)&&Jl9 (Jn0 G.kd) (G.ns.map V.int))=true:=h.ns
 rw [yag] at q
 exact Jv4 q.2
theorem Js8 {H:Hp} {g:S5} {kd:Str} {ns:List Int} {s lv:Int} {Q:VK} (T:Tx K mg a) (hk:Knd kd) (ga:Sbg (cOf a kd) H g (ns.map V.int)) (hs:0<=s/\s < ns.length) (hn:∀n∈ns,Jn0 kd<=n/\n<=12) (hl:0<=lv/\lv<=1000) (k:Q (.int (Jpz kd (ns.getD s.toNat 0) lv)) H):
  ∃C dx fs f fd ps sp,H g=some (.ins C dx fs)/\fs.lookup ("passes" :Str)=none/\Cls K C/\Joe K C "passes" f/\Sx P w K mg base CX0 1 f fd ps sp/\Sbk K fd ps []/\sp [.ref g,.int s,.int lv] H Q E0:=by
 obtain ⟨dx,t,h1,h2⟩:=id ga
 rcases hk with rfl|rfl|rfl
 ·have e2:cOf a "step" =a.Jjs:=if_pos rfl
  rw [e2] at h1 ga
  exact ⟨_,dx,_,_,_,_,_,h1,rfl,T.Jd1,T.Jd6,Jqc T,T.Jcf.bd,g,ns,s,lv,rfl,ga,hs,hn,hl,k⟩
 ·have e2:cOf a "flap" =a.Jjt:=by unfold cOf;rw [if_neg Jqv,if_pos rfl]
  rw [e2] at h1 ga
  have ek:Jpz "flap" (ns.getD s.toNat 0) lv=(if 0 > lv - ns.getD s.toNat 0 then 0 else lv - ns.getD s.toNat 0):=by unfold Jpz;rw [if_neg Jqv,if_pos rfl]
  rw [ek] at k
  exact ⟨_,dx,_,_,_,_,_,h1,rfl,T.Jd7,T.Jdc,Jq8 T,T.Jci.bd,g,ns,s,lv,rfl,ga,hs,hn,hl,k⟩
 ·have e2:cOf a "part" =a.Jju:=by unfold cOf;rw [if_neg Js5,if_neg Jqw]
  rw [e2] at h1 ga
  have ek:Jpz "part" (ns.getD s.toNat 0) lv=lv/ns.getD s.toNat 0:=by unfold Jpz;rw [if_neg Js5,if_neg Jqw]
  rw [ek] at k
  exact ⟨_,dx,_,_,_,_,_,h1,rfl,T.Jdd,T.Jdi,Jqa T,T.Jcl.bd,g,ns,s,lv,rfl,ga,hs,hn,hl,k⟩
theorem Ybs {H:Hp} {g:S5} {kd:Str} {xs:List V} (T:Tx K mg a) (hk:Knd kd) (ga:Sbg (cOf a kd) H g xs):∃t,TyX K H (.ref g) t/\Sj K t (.ref a.Jjv)=some false:=by
 obtain ⟨dx,t,h1,h2⟩:=ga
 rcases hk with rfl|rfl|rfl
 ·rw [show cOf a "step" =a.Jjs from if_pos rfl] at h1
  exact ⟨_,.of (T.Jd2.ty T.Jd1 h1),T.Jf0⟩
 ·rw [show cOf a "flap" =a.Jjt by unfold cOf;rw [if_neg Jqv,if_pos rfl]] at h1
  exact ⟨_,.of (T.Jd8.ty T.Jd7 h1),T.Jf1⟩
 ·rw [show cOf a "part" =a.Jju by unfold cOf;rw [if_neg Js5,if_neg Jqw]] at h1
  exact ⟨_,.of (T.Jde.ty T.Jdd h1),T.Jf2⟩
def Yeg (a:Ad):Sp:=λvs H Q _=>∃(x g dx:S5) (y:V) (kd:Str) (ns:List Int) (j lv:Int),vs= [.ref x,y,.int lv]/\H x=some (.ins a.Jjv dx [("gate",.ref g),("setting",.int j)])/\Knd kd/\Sbg (cOf a kd) H g (ns.map V.int)/\(0<=j/\j < ns.length)/\(∀n∈ns,Jn0 kd<=n/\n<=12)/\(0<=lv/\lv<=1000)/\Q (.int (Jpz kd (ns.getD j.toNat 0) lv)) H
theorem Sb5:Jkd ["self","setting","level","inner"] ["self","setting","level"] (Jk9 (Jkn (top 50) 2)):=⟨rfl,rfl,rfl,by decide +kernel,rfl,by decide +kernel,by decide +kernel⟩
theorem Jpn (T:Tx K mg a):Sx P w K mg base CX0 2 a.Jhi a.Jhj ["self","setting","level"] (Yeg a):=by
 refine T.Jco.fn.ok Sb5 (λvs H Q E h=>?_) (λcdv A outer s H vs Q E hr h=>?_)
 ·obtain ⟨x,g,dx,y,kd,ns,j,lv,rfl,_⟩:=h
  rfl
 ·obtain ⟨x,g,dx,y,kd,ns,j,lv,rfl,hx,hk,ga,hj,hn,hl,k⟩:=h
  refine ⟨?t,?B,?C⟩
  case B=>
   refine' Jk6 ?a ?b
   case a=>exact (Jkh (i:=3) Sb5.nd rfl (ye rfl) (pv 0))
   case b=>
   refine' Jk6 ?c ?d
   case c=>exact (Jtl PassesOwn.never (Jkx (Jke Jlw (by rfl) T.Jat Jkq (So (Jlh (pv 3) (by rfl)) (So (Jlf (by rfl) T.Jbh (v:=.ref _) rfl) Ss)))) (Jk7 (Jkh (i:=3) Sb5.nd rfl (ye rfl) (Jlh (pv 3) (by rfl)))))
   case d=>
   refine' Jk7 ?e
   case e=>exact (Jkg (Jr0 (Jlh (pv 3) (by rfl)) hr (So (Jlh (pv 3) (by rfl)) (So (pv 2) Ss))))
  obtain ⟨t,tg,et⟩:=Ybs T hk ga
  obtain ⟨C,dx',fs,f,fd,ps,sp,h1,h2,c,m,ok,bd,hsp⟩:=Js8 (P:=P) (w:=w) (base:=base) (Q:=Q) T hk ga hj hn hl k
  refine ⟨_,rfl,λ_ σ' H'=>σ'= [some (.ref x),some y,some (.int lv),some (.ref x)]/\H'=H,⟨0,rfl,rfl⟩,?_⟩
  rintro n σ' H' ⟨rfl,rfl⟩
  refine ⟨_,rfl,x,_,dx,_,_,rfl,hx,T.Jdj,T.Je4,rfl,_,_,_,t,false,rfl,rfl,tg,et,_,rfl,Jlb ?_⟩
  exact ⟨_,rfl,x,_,dx,_,_,rfl,hx,T.Jdj,T.Je4,rfl,g,C,dx',fs,f,fd,ps,sp,1,rfl,h1,h2,c,m,ok,by decide,bd,_,rfl,x,_,dx,_,_,rfl,hx,T.Jdj,T.Je5,rfl,_,rfl,hsp⟩
theorem GX.passes {H:Hp} {x:V} {G:Jnq} {s lv:Int} {Q:VK} (T:Tx K mg a) (gg:Sbt G) (gx:GX a H x G) (hs:0<=s/\s < (nOf G:Int)) (hl:0<=lv/\lv<=1000) (k:Q (.int (lvG G s lv)) H):
  ∃o C dx fs f fd ps sp k',x= .ref o/\H o=some (.ins C dx fs)/\fs.lookup ("passes" :Str)=none/\Cls K C/\Joe K C "passes" f/\Sx P w K mg base CX0 k' f fd ps sp/\k'<=2/\Sbk K fd ps []/\sp [x,.int s,.int lv] H Q E0:=by
 obtain ⟨g,ga,r⟩:=gx
 unfold lvG at k
 unfold nOf at hs
 cases e:G.sv with
 |none=>
  rw [e] at r k hs
  subst r
  obtain ⟨C,dx',fs,f,fd,ps,sp,h1,h2,c,m,ok,bd,hsp⟩:=Js8 (P:=P) (w:=w) (base:=base) (Q:=Q) T gg.kd ga hs gg.marks hl k
  exact ⟨g,C,dx',fs,f,fd,ps,sp,1,rfl,h1,h2,c,m,ok,by decide,bd,hsp⟩
 |some j=>
  rw [e] at r k
  obtain ⟨q,dx,rfl,r2⟩:=r
  exact ⟨q,_,dx,_,_,_,_,_,2,rfl,r2,rfl,T.Jdj,T.Jdo,Jpn T,by decide,T.Jco.bd,q,g,dx,.int s,G.kd,G.ns,j,lv,rfl,r2,gg.kd,ga,gg.sv j e,gg.marks,hl,k⟩
def Ych (a:Ad):Sp:=λvs H Q _=>∃(x:V) (G:Jnq) (s lv:Int),vs= [x,.int s,.int lv]/\GX a H x G/\Sbt G/\(0<=s/\s < (nOf G:Int))/\(0<=lv/\lv<=1000)/\Q (.int (lvG G s lv)) H
theorem Jp6:Jkd ["self","thing"] ["self","thing"] (Jk9 (Jkn (top 10) 0)):=⟨rfl,rfl,rfl,by decide +kernel,rfl,by decide +kernel,by decide +kernel⟩
theorem Jo9 (T:Tx K mg a):Sx P w K mg base CX0 1 a.Jfi a.Jfj ["self","thing"] (Jo3 K "thing"):=by
 refine T.Jca.fn.ok Jp6 (λvs H Q E h=>?_) (λcdv A outer s H vs Q E hr h=>?_)
 ·obtain ⟨e,C,W,fI,y,rfl,_⟩:=h
  rfl
 ·obtain ⟨e,C,W,fI,y,rfl,q,c,n,k⟩:=h
  refine ⟨_,(Jk7 (Jny (pv 0) (pv 1) rfl)),?_⟩
  exact ⟨_,rfl,_,rfl,e,C,W,fI,true,rfl,q,c,n,k⟩
theorem Jwj:Jkd ["self","setting","level"] ["self","setting","level"] (Jk9 (Jkn (top 46) 0)):=⟨rfl,rfl,rfl,by decide +kernel,rfl,by decide +kernel,by decide +kernel⟩
theorem Jne (T:Tx K mg a):Sx P w K mg base (CXX P w) 3 a.Jgu a.Jgv ["self","setting","level"] (Ych a):=by
 have Sa5:=Jm0 (P:=P) (w:=w) (base:=base) T
 have Sa6:=Jmv (P:=P) (w:=w) (base:=base) T
 have Sb1:=Jo9 (P:=P) (w:=w) (base:=base) T
 refine T.Jcc.fn.okX Jwj (λvs H Q E h=>?_) (λcdv A outer s H vs Q E hr h=>?_)
 ·obtain ⟨x,G,s,lv,rfl,_⟩:=h
  rfl
 ·obtain ⟨x,G,s,lv,rfl,gx,gg,hs,hl,k⟩:=h
  refine ⟨?t,?B,?C⟩
  case B=>
   refine' Jk6 ?a ?b
   case a=>
    refine' Jku ?c ?d ?e
    case c=>exact (Jl3 (Jkx (Jkc T.J0 Sa5 hr (by decide) (So (pv 1) (So Sy (So (Jkl Jm9 (Jpk (pv 0) hr) Sy) Ss))))))
    case d=>
     refine' Jk7 ?f
     case f=>exact (Jll Jlp rfl (Jmn T.Jct Sa6 hr (by decide) T.Jc5.bd T.Jb6 (So (pv 1) Ss)))
    case e=>exact Jki
   case b=>
   refine' Jk6 ?g ?h
   case g=>
    refine' Jku ?i ?j ?k
    case i=>exact (Jl3 (Jkx (Jkc T.J0 Sa5 hr (by decide) (So (pv 2) (So Sy (So (Jlf (by rfl) T.Jah (v:=.int 1000) ⟨_,rfl⟩) Ss))))))
    case j=>
     refine' Jk7 ?l
     case l=>exact (Jll Jlp rfl (Jmn T.Jcy Sb1 hr (by decide) T.Jca.bd T.Jbb (So (pv 2) Ss)))
    case k=>exact Jki
   case h=>
   refine' Jk7 ?m
   case m=>exact (Jkg (Jr0 (pv 0) hr (So (pv 1) (So (pv 2) Ss))))
  have gs:GS K a H x (nOf G):=gx.gs gg
  obtain ⟨o,C,dx',fs,f,fd,ps,sp,k',rfl,h1,h2,c,m,ok,hk,bd,hsp⟩:=gx.passes (P:=P) (w:=w) (base:=base) (Q:=Q) T gg hs hl k
  refine ⟨_,rfl,_,rfl,Jn6 T gs ⟨_,_,rfl,rfl,.int s,0,(nOf G:Int) - 1,rfl,.inl ⟨s,rfl⟩,_,rfl,ifF (by simp [Jl2];omega) ?_⟩ (by decide)⟩
  refine ⟨_,rfl,.int lv,0,1000,rfl,.inl ⟨lv,rfl⟩,_,rfl,ifF (by simp [Jl2];omega) ?_⟩
  exact ⟨_,rfl,o,C,dx',fs,f,fd,ps,sp,k',rfl,h1,h2,c,m,ok,hk,bd,_,rfl,_,rfl,hsp⟩
def oV:Option Int->V
 |none=>.non
 |some i=>.int i
def okE (lost:List (Option Int)):Option Int->Bool
 |none=>false
 |some i=>(lost.getD i.toNat none).isNone
def Jxk (ends lost:List (Option Int)):Bool:=ends.all (okE lost)
def Smc:Sp:=λvs H Q _=>∃(L M:S5) (ends lost:List (Option Int)),vs= [.ref L,.ref M]/\H L=some (.lst (ends.map oV))/\H M=some (.lst (lost.map oV))/\(∀i,some i∈ends->0<=i/\i < lost.length)/\ends.length<=100/\
 ∀H',Sn H H'->Q (.bl (Jxk ends lost)) H'
def Sm9 (K:Si):Sp:=λvs H Q _=>∃x:V,vs= [x]/\Tm K H x/\Q (.bl (Jl2 x 0 12)) H
theorem Jyl (o:Option Int):decide (oV o= .non)=o.isNone:=by
 cases o with
 |none=>rfl
 |some z=>simp [oV]
theorem Sk6 {l:List (Option Int)} {i:Int} (h:0<=i/\i < l.length):atI (l.map oV) i=some (oV (l.getD i.toNat none)):=by
 obtain ⟨k,rfl⟩:=ycp h.1
 have hk:k < l.length:=by omega
 refine Jl8 ?_
 rw [ym,yp hk]
 simp [yaj,hk]
theorem Jto:Jkd ["thing"] ["thing"] (Jk9 (top 27)):=⟨rfl,rfl,rfl,by decide +kernel,rfl,by decide +kernel,by decide +kernel⟩
theorem Jtc (T:Tx K mg a):Sx P w K mg base CX0 2 a.Jg2 a.Jg3 ["thing"] (Sm9 K):=by
 have Sa5:=Jm0 (P:=P) (w:=w) (base:=base) T
 refine T.J8.fn.ok Jto (λvs H Q E h=>?_) (λcdv A outer s H vs Q E hr h=>?_)
 ·obtain ⟨x,rfl,_⟩:=h
  rfl
 ·obtain ⟨x,rfl,tx,k⟩:=h
  refine ⟨_,(Jk7 (Jkg (Jkc T.J0 Sa5 hr (by decide) (So (pv 0) (So Sy (So (Jlf (by rfl) T.Jae (v:=.int 12) ⟨_,rfl⟩) Ss)))))),?_⟩
  exact ⟨_,rfl,x,0,12,rfl,tx,k⟩
theorem Jyx:Jkd ["ends","lost"] ["ends","lost"] (Jk9 (top 24)):=⟨rfl,rfl,rfl,by decide +kernel,rfl,by decide +kernel,by decide +kernel⟩
theorem Jtd (T:Tx K mg a):Sx P w K mg base CX0 1 a.Jg0 a.Jg1 ["ends","lost"] Smc:=by
 refine T.J7.fn.ok Jyx (λvs H Q E h=>?_) (λcdv A outer s H vs Q E hr h=>?_)
 ·obtain ⟨L,M,ends,lost,rfl,_⟩:=h
  rfl
 ·obtain ⟨L,M,ends,lost,rfl,hL,hM,hb,hn,k⟩:=h
  refine ⟨_,(Jk7 (Jkg (Jke (Jnh rfl) (by rfl) T.Jan Jq4 (So (Jl4 (N:=(["end","lost"]:List Str)) (ini:=[none,some 1]) rfl (Jl5 (pv 0)) (λ_ _ _ _ _=>(Jkf (i:=0) (by decide +kernel:(["end","lost"]:List Str).Nodup) rfl (ye rfl))) (λ_ _ _ _ _=>Jky) (λ_ _ _ _ _=>(Jwd (Jmw Jsk (pv 0) Jlu (Jkt _)) (Jwf (Jmw Jti (Jkm (Jt0 (K:=K) rfl) (pv 1) (pv 0) (λ_ _=>rfl)) Jlu (Jkt _)))))) Ss)))),?_⟩
  refine ⟨_,rfl,L,rfl,⟨_,Sw.of hL⟩,λD hD=>?_⟩
  refine Jml ((ends.map (okE lost)).map V.bl) hD (by simp) (by simp;omega) hL ?_ ?_
  ·intro i x y H' Q' hx hy sm k'
   rw [ym,yy] at hx hy
   obtain ⟨e,he,rfl⟩:=hx
   obtain ⟨c,hc,rfl⟩:=hy
   rw [ym,he] at hc
   obtain rfl:okE lost e=c:=by simpa using hc
   cases e with
   |none=>exact ⟨_,rfl,rfl,false,rfl,Jlb (k' _ (Sn.refl _))⟩
   |some j=>
    have hj:=hb j (yad he)
    refine ⟨_,rfl,rfl,true,rfl,Jmb ?_⟩
    refine ⟨_,rfl,_,rfl,M,_,j,_,rfl,rfl,Sw.of (sm _ _ hM),Sk6 hj,rfl,?_⟩
    rw [Jyl]
    exact k' _ (Sn.refl _)
  ·intro H' sm hDs
   refine ⟨D,ends.map (okE lost),rfl,Sw.of hDs,?_⟩
   have e:(ends.map (okE lost)).all id=Jxk ends lost:=by
    unfold Jxk
    rw [List.all_map]
    rfl
   rw [e]
   exact k _ sm
structure BTd where
 z:Str
 lo:Int
 hi:Int
 st:Int
 rn:Int
 G:Jnq
structure BGd (B:BTd):Prop where
 lo:0<=B.lo/\B.lo<=B.hi
 hi:B.hi<=12
 rn:0<=B.rn/\B.rn<=6
 G:Sbt B.G
def BX (a:Ad) (H:Hp) (o:S5) (B:BTd):Prop:=∃dx g,H o=some (.ins a.Jjw dx (Sie (.str B.z) (.int B.lo) (.int B.hi) (.int B.st) (.int B.rn) g))/\GX a H g B.G
theorem BX.same {a:Ad} {H H':Hp} {o:S5} {B:BTd} (s:Sn H H') (h:BX a H o B):BX a H' o B:=by obtain ⟨dx,g,h1,h2⟩:=h;exact ⟨dx,g,s _ _ h1,h2.same s⟩
def Jt3 (B:BTd):List Int:=(yv (B.hi+1 - B.lo).toNat).map λk:Nat=>B.lo+k
def Jns (B:BTd) (e:Int):Option Int:=if B.lo<=e/\e<=B.hi then some (e - B.lo) else none
def Jms (B:BTd) (up lv s:Int):List (Option Int):=(yv (up+B.rn+1).toNat).map λc:Nat=>Jns B (lv - lvG B.G s lv+c)
def Yci (a:Ad):Sp:=λvs H Q _=>∃(o:S5) (B:BTd),vs= [.ref o]/\BX a H o B/\BGd B/\∀l H',Sn H H'->H' l=some (.lst ((Jt3 B).map V.int))->Q (.ref l) H'
def Sm1 (a:Ad):Sp:=λvs H Q _=>∃(o:S5) (B:BTd) (up lv s:Int),vs= [.ref o,.int up,.int lv,.int s]/\BX a H o B/\BGd B/\(0<=up/\up<=12)/\(0<=lv/\lv<=12)/\(0<=s/\s < (nOf B.G:Int))/\
 ∀l H',Sn H H'->H' l=some (.lst ((Jms B up lv s).map oV))->Q (.ref l) H'
theorem GX.lets {H:Hp} {x:V} {G:Jnq} {s lv:Int} (T:Tx K mg a) (gg:Sbt G) (gx:GX a H x G) (hs:0<=s/\s < (nOf G:Int)) (hl:0<=lv/\lv<=1000):
  ∃o C dx fs f fd ps sp k',x= .ref o/\H o=some (.ins C dx fs)/\fs.lookup ("lets" :Str)=none/\Cls K C/\Joe K C "lets" f/\Sx P w K mg base CX0 k' f fd ps sp/\k'<=3/\Sbk K fd ps []/\∀Q:VK,Q (.int (lvG G s lv)) H->sp [x,.int s,.int lv] H Q E0:=by
 have sp:∀Q:VK,Q (.int (lvG G s lv)) H->Ych a [x,.int s,.int lv] H Q E0:=λQ k=>⟨x,G,s,lv,rfl,gx,gg,hs,hl,k⟩
 obtain ⟨g,ga,r⟩:=gx
 obtain ⟨dx,t,h1,h2⟩:=id ga
 cases e:G.sv with
 |none=>
  rw [e] at r
  subst r
  rcases gg.kd with q|q|q
  ·rw [q,show cOf a "step" =a.Jjs from if_pos rfl] at h1
   exact ⟨g,_,dx,_,_,_,_,_,3,rfl,h1,rfl,T.Jd1,T.Jd4,(Jne T).calm,by decide,T.Jcc.bd,sp⟩
  ·rw [q,show cOf a "flap" =a.Jjt by unfold cOf;rw [if_neg Jqv,if_pos rfl]] at h1
   exact ⟨g,_,dx,_,_,_,_,_,3,rfl,h1,rfl,T.Jd7,T.Jda,(Jne T).calm,by decide,T.Jcc.bd,sp⟩
  ·rw [q,show cOf a "part" =a.Jju by unfold cOf;rw [if_neg Js5,if_neg Jqw]] at h1
   exact ⟨g,_,dx,_,_,_,_,_,3,rfl,h1,rfl,T.Jdd,T.Jdg,(Jne T).calm,by decide,T.Jcc.bd,sp⟩
 |some j=>
  rw [e] at r
  obtain ⟨q,dq,rfl,r2⟩:=r
  exact ⟨q,_,dq,_,_,_,_,_,3,rfl,r2,rfl,T.Jdj,T.Jdm,(Jne T).calm,by decide,T.Jcc.bd,sp⟩
theorem Jwl:Jkd ["basin"] ["basin"] (Jk9 (top 28)):=⟨rfl,rfl,rfl,by decide +kernel,rfl,by decide +kernel,by decide +kernel⟩
theorem Jwa (T:Tx K mg a):Sx P w K mg base CX0 1 a.Jg4 a.Jg5 ["basin"] (Yci a):=by
 refine T.J9.fn.ok Jwl (λvs H Q E h=>?_) (λcdv A outer s H vs Q E hr h=>?_)
 ·obtain ⟨o,B,rfl,_⟩:=h
  rfl
 ·obtain ⟨o,B,rfl,⟨dx,g,ho,gx⟩,bg,k⟩:=h
  have b1:=bg.lo
  have b2:=bg.hi
  refine ⟨_,(Jk7 (Jkg (Jla (Jty rfl) (by rfl) T.Jav Jpd (So (Jla Y0 (by rfl) T.Jay Yaf (So (Jlh (pv 0) (by rfl)) (So (Jkl Jl0 (Jlh (pv 0) (by rfl)) Sy) Ss))) Ss)))),?_⟩
  refine ⟨_,rfl,o,_,dx,_,_,rfl,ho,T.Jdp,T.Je7,rfl,_,rfl,o,_,dx,_,_,rfl,ho,T.Jdp,T.Je8,rfl,_,_,rfl,rfl,_,_,rfl,λp hp=>?_⟩
  refine ⟨p,_,_,rfl,Sv,by omega,by omega,by omega,by omega,λl hl=>?_⟩
  refine k l _ ((Sn.upd hp).trans (Sn.upd hl)) ?_
  rw [Sv]
  unfold Jt3
  rw [List.map_map]
  rfl
theorem Sc2:Jkd ["basin","up","level","setting","left","ends"] ["basin","up","level","setting"] (Jk9 (top 29)):=⟨rfl,rfl,rfl,by decide +kernel,rfl,by decide +kernel,by decide +kernel⟩
theorem Ju6 (T:Tx K mg a):Sx P w K mg base CX0 4 a.Jg6 a.Jg7 ["basin","up","level","setting"] (Sm1 a):=by
 refine T.Ja.fn.ok Sc2 (λvs H Q E h=>?_) (λcdv A outer s H vs Q E hr h=>?_)
 ·obtain ⟨o,B,up,lv,s,rfl,_⟩:=h
  rfl
 ·obtain ⟨o,B,up,lv,s,rfl,bx,bg,hup,hlv,hs,k⟩:=h
  obtain ⟨dx,g,ho,gx⟩:=id bx
  have b1:=bg.lo
  have b2:=bg.hi
  have b3:=bg.rn
  refine ⟨?t,?B,?C⟩
  case B=>
   refine' Jk6 ?a ?b
   case a=>exact (Jkh (i:=4) Sc2.nd rfl (yal rfl) (Jkl Jm9 (pv 2) (Jr0 (Jlh (pv 0) (by rfl)) hr (So (pv 3) (So (pv 2) Ss)))))
   case b=>
   refine' Jk6 ?c ?d
   case c=>exact (Jmj (i:=5) (N:=(["cubes","left"]:List Str)) (ini:=[none,some 4]) Sc2.nd rfl (ye rfl) rfl (Jlj (by rfl) T.Jay (So (Jkl Jl0 (Jkl Jl0 (pv 1) (Jlh (pv 0) (by rfl))) Sy) Ss)) (λ_ _ _ _ _=>(Jkf (i:=0) (by decide +kernel:(["cubes","left"]:List Str).Nodup) rfl (ye rfl))) (λ_ _ _ _ _=>Jky) (λ_ _ _ _ _=>(Jkl Jl0 (pv 1) (pv 0))))
   case d=>
   refine' Jk7 ?e
   case e=>exact (Jkg (Jl4 (N:=(["end","basin"]:List Str)) (ini:=[none,some 0]) rfl (Jl5 (pv 5)) (λ_ _ _ _ _=>(Jkf (i:=0) (by decide +kernel:(["end","basin"]:List Str).Nodup) rfl (ye rfl))) (λ_ _ _ _ _=>Jky) (λ_ _ _ _ _=>(Ybn (Jr4 Jnl Jnl (Jmh (K:=K) rfl (pv 1) (by rfl)) (pv 0) (Jmh (K:=K) rfl (pv 1) (by rfl))) (Jkl Jm9 (pv 0) (Jmh (K:=K) rfl (pv 1) (by rfl))) Jlu))))
  obtain ⟨q,C,dxq,fs,f,fd,ps,sp,k',eq,h1,h2,c',m,ok,hk,bd,hsp⟩:=GX.lets (P:=P) (w:=w) (base:=base) T bg.G gx hs (show 0<=lv/\lv<=1000 by omega)
  refine ⟨_,rfl,_,rfl,o,_,dx,_,_,rfl,ho,T.Jdp,T.Jeb,rfl,q,C,dxq,fs,f,fd,ps,sp,k',eq,h1,h2,c',m,ok,hk,bd,_,rfl,_,rfl,hsp _ ⟨_,_,rfl,rfl,?_⟩⟩
  refine ⟨_,rfl,_,rfl,o,_,dx,_,_,rfl,ho,T.Jdp,T.Jea,rfl,_,_,rfl,rfl,_,_,rfl,rfl,_,rfl,by omega,by omega,λD hD=>?_⟩
  refine Jmm (lo:=0) (λi σ H'=>(∃o,σ= [o,some (.int (lv - lvG B.G s lv))])/\H' D=some (.lst ((yv i).map λc:Nat=>V.int (lv - lvG B.G s lv+c)))/\Sn H H') ⟨⟨_,rfl⟩,Sv,Sn.upd hD⟩ ?_ ?_
  ·rintro i σ H' hi ⟨⟨o1,rfl⟩,hDs,sm⟩
   refine Jlc ⟨_,rfl,_,rfl,_,_,rfl,rfl,_,hDs,?_,⟨_,rfl⟩,?_,?_⟩
   ·rw [yf,yaw]
    exact Jkk (by omega)
   ·rw [Sv,ybq,yt]
    simp
   ·intro c u z
    rw [Sz (Jkb z hD)]
    exact sm _ _ z
  rintro σ1 H1 ⟨_,hDs,s1⟩
  refine ⟨_,rfl,D,rfl,⟨_,Sw.of hDs⟩,λD2 hD2=>?_⟩
  refine Jml ((Jms B up lv s).map oV) hD2 (by simp [Jms]) (by simp;omega) hDs ?_ ?_
  ·intro i x y H' Q' hx hy sm k'
   have lt:i < (up+B.rn+1).toNat:=by
    have:=(yq.mp hx).1
    simpa using this
   have ex:x= .int (lv - lvG B.G s lv+i):=by
    have:(List.map (λc:Nat=>V.int (lv - lvG B.G s lv+c)) (yv (up+B.rn+1).toNat))[i]?=some (V.int (lv - lvG B.G s lv+i)):=by simp [lt]
    rw [this] at hx
    exact (yac.inj hx).symm
   have ey:y=oV (Jns B (lv - lvG B.G s lv+i)):=by
    have:((Jms B up lv s).map oV)[i]?=some (oV (Jns B (lv - lvG B.G s lv+i))):=by unfold Jms;simp [lt]
    rw [this] at hy
    exact (yac.inj hy).symm
   subst ex ey
   have ho':=sm _ _ (s1 _ _ ho)
   refine ⟨_,rfl,o,_,dx,_,_,rfl,ho',T.Jdp,T.Je7,rfl,_,rfl,_,_,rfl,rfl,_,rfl,?_⟩
   refine Jnd (λc1=>?_) (λc1=>?_)
   ·have c1':=of_decide_eq_true c1
    refine ⟨_,rfl,o,_,dx,_,_,rfl,ho',T.Jdp,T.Je8,rfl,_,_,rfl,rfl,_,rfl,Jnd (λc2=>?_) (λc2=>?_)⟩
    ·have c2':=of_decide_eq_true c2
     refine ⟨_,rfl,_,rfl,o,_,dx,_,_,rfl,ho',T.Jdp,T.Je7,rfl,_,_,rfl,rfl,?_⟩
     have e:Jns B (lv - lvG B.G s lv+i)=some (lv - lvG B.G s lv+i - B.lo):=if_pos ⟨c1',c2'⟩
     rw [e] at k'
     exact k' _ (Sn.refl _)
    ·have c2':=λz=>c2 (decide_eq_true z)
     have e:Jns B (lv - lvG B.G s lv+i)=none:=if_neg λz=>c2' z.2
     rw [e] at k'
     exact k' _ (Sn.refl _)
   ·have c1':=λz=>c1 (decide_eq_true z)
    have e:Jns B (lv - lvG B.G s lv+i)=none:=if_neg λz=>c1' z.1
    rw [e] at k'
    exact ⟨_,rfl,Jlb (k' _ (Sn.refl _))⟩
  ·intro H' sm hDs2
   exact k D2 H' (s1.trans sm) hDs2
def usable (B:BTd) (hi lv:Int):List Int:=((yv (nOf B.G)).map λk:Nat=>(k:Int)).filter λs=>decide (lvG B.G s lv<=hi)
def Seb (B:BTd) (up lv:Int) (H:Hp) (s:Int) (r:S5×S5):Prop:=H r.1=some (.tup [.int s,.ref r.2])/\H r.2=some (.lst ((Jms B up lv s).map oV))
def Joo (us:List Int) (rs:List (S5×S5)):List (Key×V):=(us.zip rs).map λp=>(yaa p.1,V.ref p.2.2)
def Sd3 (B:BTd) (up hi lv:Int) (H:Hp) (p:S5):Prop:=∃o rs,H p=some (.frz o (.dK (Joo (usable B hi lv) rs)))/\Paired (Seb B up lv H) (usable B hi lv) rs
theorem Seb.same {B:BTd} {up lv:Int} {H H':Hp} {s:Int} {r:S5×S5} (sm:Sn H H') (h:Seb B up lv H s r):Seb B up lv H' s r:=⟨sm _ _ h.1,sm _ _ h.2⟩
theorem Sd3.same {B:BTd} {up hi lv:Int} {H H':Hp} {p:S5} (sm:Sn H H') (h:Sd3 B up hi lv H p):Sd3 B up hi lv H' p:=by
 obtain ⟨o,rs,h1,h2⟩:=h
 exact ⟨o,rs,sm _ _ h1,Paired.mapP h2 λs r q=>q.same sm⟩
theorem Seb.put {B:BTd} {up lv:Int} {H:Hp} {s:Int} {r:S5×S5} {D:S5} {rs:List (S5×S5)} {o:HO} (hup:0<=up) (hrn:0<=B.rn) (hD:H D=some (.lst (rs.map λr:S5×S5=>V.ref r.1))) (h:Seb B up lv H s r):Seb B up lv (upd H D o) s r:=by
 have n1:r.1≠D:=λz=>by have:=h.1;rw [z,hD] at this;cases this
 have n2:r.2≠D:=λz=>by
  have q:=h.2
  rw [z,hD] at q
  have e:=HO.lst.inj (yac.inj q)
  have l:(Jms B up lv s).length=(up+B.rn+1).toNat:=by simp [Jms]
  cases hc:Jms B up lv s with
  |nil=>rw [hc] at l;simp at l;omega
  |cons x xs=>
   rw [hc] at e
   cases rs with
   |nil=>simp at e
   |cons r' rs'=>
    simp at e
    cases x <;> exact nomatch e.1
 exact ⟨by rw [Sz n1];exact h.1,by rw [Sz n2];exact h.2⟩
theorem Jtm {B:BTd} {up lv:Int} {H:Hp}:∀{us:List Int} {rs:List (S5×S5)},Paired (Seb B up lv H) us rs->Jvh H (rs.map λr=>V.ref r.1) (Joo us rs)
 |_,_,.nil=>.nil
 |_,_,.cons h t=>.cons ⟨_,rfl,h.1⟩ (Jtm t)
theorem Jx5:∀{us:List Int} {rs:List (S5×S5)},us.length=rs.length->(Joo us rs).map (·.1)=us.map yaa
 | [],[],_=>rfl
 | [],_::_,h=>by simp at h
 |_::_,[],h=>by simp at h
 |u::us,r::rs,h=>by
  have:=Jx5 (us:=us) (rs:=rs) (by simpa using h)
  show yaa u::(Joo us rs).map (·.1)=_
  rw [this]
  rfl
theorem Jws (B:BTd) (hi lv:Int):(usable B hi lv).Nodup:=by
 unfold usable
 refine ycf.filter _ ?_
 refine ycf.map _ (λa b h=>?_) List.nodup_range
 intro z
 exact h (by exact_mod_cast z)
theorem Jon (B:BTd) (hi lv:Int) (h:nOf B.G<=4):(usable B hi lv).length<=4:=by
 unfold usable
 refine yab (ybi _ _) ?_
 simpa using h
theorem Jqq {B:BTd} {hi lv s:Int} (h:s∈usable B hi lv):0<=s/\s < (nOf B.G:Int):=by
 unfold usable at h
 obtain ⟨h1,_⟩:=ybs.mp h
 obtain ⟨k,hk,rfl⟩:=ybc.mp h1
 have:=yae.mp hk
 omega
theorem Jt6 {G:Jnq} (gg:Sbt G):nOf G<=4:=by
 unfold nOf
 have:=gg.len.2
 cases G.sv <;> simp <;> omega
def Smf (a:Ad):Sp:=λvs H Q _=>∃(o:S5) (B:BTd) (up hi lv:Int),vs= [.ref o,.int up,.int hi,.int lv]/\BX a H o B/\BGd B/\(0<=up/\up<=12)/\(0<=lv/\lv<=12)/\
 ∀p H',Sn H H'->Sd3 B up hi lv H' p->Q (.ref p) H'
theorem Sbw:Jkd ["basin","up","hi","level","usable"] ["basin","up","hi","level"] (Jk9 (top 30)):=⟨rfl,rfl,rfl,by decide +kernel,rfl,by decide +kernel,by decide +kernel⟩
theorem Jqd (T:Tx K mg a):Sx P w K mg base CX0 5 a.Jg8 a.Jg9 ["basin","up","hi","level"] (Smf a):=by
 have Sfm:=Ju6 (P:=P) (w:=w) (base:=base) T
 refine T.Jb.fn.ok Sbw (λvs H Q E h=>?_) (λcdv A outer s H vs Q E hr h=>?_)
 ·obtain ⟨o,B,up,hi,lv,rfl,_⟩:=h
  rfl
 ·obtain ⟨o,B,up,hi,lv,rfl,bx,bg,hup,hlv,k⟩:=h
  obtain ⟨dx,g,ho,gx⟩:=id bx
  have n4:=Jt6 bg.G
  refine ⟨?t,?B,?C⟩
  case B=>
   refine' Jk6 ?a ?b
   case a=>exact (Jmj (i:=4) (N:=(["setting","hi","level","basin"]:List Str)) (ini:=[none,some 2,some 3,some 0]) Sbw.nd rfl (ye rfl) rfl (Jlj (by rfl) T.Jay (So (Jpk (Jlh (pv 0) (by rfl)) hr) Ss)) (λ_ _ _ _ _=>(Jkf (i:=0) (by decide +kernel:(["setting","hi","level","basin"]:List Str).Nodup) rfl (ye rfl))) (λ_ _ _ _ _=>(Jnx (Jkr Jnl (Yp (P:=P) (w:=w) (K:=K) (mg:=mg) (base:=base) rfl rfl rfl rfl rfl (Jmh (K:=K) rfl (pv 3) (by rfl)) hr (So (pv 0) (So (pv 2) Ss))) (pv 1) (Jkt _)))) (λ_ _ _ _ _=>(pv 0)))
   case b=>
   refine' Jk7 ?c
   case c=>
   refine' Jkg ?d
   case d=>exact (Jla (Jso rfl) (by rfl) T.Jaq Jzd (So (Jl4 (N:=(["setting","basin","up","level"]:List Str)) (ini:=[none,some 0,some 1,some 3]) rfl (Jl5 (pv 4)) (λ_ _ _ _ _=>(Jkf (i:=0) (by decide +kernel:(["setting","basin","up","level"]:List Str).Nodup) rfl (ye rfl))) (λ_ _ _ _ _=>Jky) (λ_ _ _ _ _=>(Jm2 (So (pv 0) (So (Jkc T.Ja Sfm hr (by decide) (pa4 (pv 1) (pv 2) (pv 3) (pv 0))) Ss))))) Ss))
  refine ⟨_,rfl,o,_,dx,_,_,rfl,ho,T.Jdp,T.Jeb,rfl,Jn6 T (gx.gs bg.G) ⟨_,rfl,by omega,by omega,λD hD=>?_⟩ (by decide)⟩
  refine Jmm (lo:=0) (λi σ H'=>(∃o',σ= [o',some (.int hi),some (.int lv),some (.ref o)])/\H' D=some (.lst ((((yv i).map λk:Nat=>(k:Int)).filter λs=>decide (lvG B.G s lv<=hi)).map V.int))/\Sn H H') ⟨⟨_,rfl⟩,Sv,Sn.upd hD⟩ ?_ ?_
  ·rintro i σ H' hi' ⟨⟨o1,rfl⟩,hDs,sm⟩
   have hs:0<=(0+i:Int)/\(0+i:Int) < (nOf B.G:Int):=by omega
   obtain ⟨q,C,dxq,fs,f,fd,ps,sp,k',eq,h1,h2,c',m,ok,hk,bd,hsp⟩:=GX.lets (P:=P) (w:=w) (base:=base) T bg.G (gx.same sm) hs (show 0<=lv/\lv<=1000 by omega)
   refine ⟨_,rfl,o,_,dx,_,_,rfl,sm _ _ ho,T.Jdp,T.Jeb,rfl,q,C,dxq,fs,f,fd,ps,sp,k',eq,h1,h2,c',m,ok,Nat.le_succ_of_le hk,bd,_,rfl,_,rfl,hsp _ ⟨_,rfl,_,_,rfl,rfl,_,rfl,?_⟩⟩
   have e0:(0+(i:Int))=i:=by omega
   rw [e0]
   have ef:((yv (i+1)).map λk:Nat=>(k:Int)).filter (λs=>decide (lvG B.G s lv<=hi))=((yv i).map λk:Nat=>(k:Int)).filter (λs=>decide (lvG B.G s lv<=hi))++(if lvG B.G i lv<=hi then [(i:Int)] else []):=by
    rw [ybq,yt,ybr]
    congr 1
    by_cases c:lvG B.G i lv<=hi <;> simp [c]
   show if decide (lvG B.G i lv<=hi)=true then _ else _
   refine Jnd (λc=>?_) (λc=>?_)
   ·have c':=of_decide_eq_true c
    refine ⟨_,rfl,_,hDs,?_,⟨_,rfl⟩,?_,?_⟩
    ·rw [yf]
     refine Jkk (yab (ybi _ _) ?_)
     rw [yf,yaw]
     omega
    ·rw [Sv,ef,if_pos c',yt]
     rfl
    ·intro c2 u z
     rw [Sz (Jkb z hD)]
     exact sm _ _ z
   ·have c':¬lvG B.G i lv<=hi:=λz=>c (decide_eq_true z)
    refine ⟨⟨_,rfl⟩,?_,sm⟩
    rw [ef,if_neg c',yay]
    exact hDs
  rintro σ1 H1 ⟨_,hDs,s1⟩
  have hDs:H1 D=some (.lst ((usable B hi lv).map V.int)):=by
   have e:((nOf B.G:Nat):Int).toNat=nOf B.G:=ybh _
   rw [e] at hDs
   exact hDs
  have ul:=Jon B hi lv n4
  refine ⟨_,rfl,D,rfl,⟨_,Sw.of hDs⟩,λD2 hD2=>?_⟩
  refine Jle (K:=K) (xs:=(usable B hi lv).map V.int) (λi σ H'=>(∃o',σ= [o',some (.ref o),some (.int up),some (.int lv)])/\Sn H1 H'/\∃rs,H' D2=some (.lst (rs.map λr:S5×S5=>V.ref r.1))/\Paired (Seb B up lv H') ((usable B hi lv).take i) rs) ⟨⟨_,rfl⟩,Sn.upd hD2,[],Sv,.nil⟩ (λi σ H' _ ⟨_,sm,_⟩=>Sw.of (sm _ _ hDs)) ?_ ?_
  ·rintro i x σ H' hx ⟨⟨o1,rfl⟩,sm,rs,hDr,pr⟩
   rw [ym] at hx
   obtain ⟨u,hu,rfl⟩:=yy.mp hx
   have hus:=Jqq (yad hu)
   refine Jlc ⟨_,rfl,_,rfl,_,rfl,_,rfl,_,rfl,o,B,up,lv,u,rfl,(bx.same s1).same sm,bg,hup,hlv,hus,λl H2 s2 hl=>?_⟩
   refine ⟨(show 2<=Sa by decide),λT1 hT=>?_⟩
   have sT:=Sn.upd (o:=.tup [.int u,.ref l]) hT
   have hDr2:=sT _ _ (s2 _ _ hDr)
   have hlr:rs.length=i:=by
    have e1:=Paired.length pr
    rw [yah] at e1
    have:=(yq.mp hu).1
    omega
   have hil:i < (usable B hi lv).length:=(yq.mp hu).1
   refine ⟨_,hDr2,?_,⟨_,rfl⟩,?_,rs++ [(T1,l)],?_,?_⟩
   ·rw [yf]
    exact Jkk (by omega)
   ·intro c o' z
    rw [Sz (Jkb z hD2)]
    exact sT _ _ (s2 _ _ (sm _ _ z))
   ·rw [Sv,yt]
    rfl
   ·rw [yan,hu]
    refine Paired.snoc (Paired.mapP pr λs r q=>((q.same s2).same sT).put hup.1 bg.rn.1 hDr2) (Seb.put (r:=(T1,l)) hup.1 bg.rn.1 hDr2 ⟨Sv,sT _ _ hl⟩)
  rintro σ2 H2 ⟨_,s2,rs,hDr,pr⟩
  rw [yat (by rw [yf];exact yg _)] at pr
  have el:=Paired.length pr
  refine ⟨D2,_,Joo (usable B hi lv) rs,rfl,hDr,Jtm pr,?_,?_,λp o' hp=>?_⟩
  ·unfold Joo
   rw [yf,List.length_zip]
   omega
  ·rw [Jx5 el]
   exact ycf.map _ (λx y h z=>h (yaa.inj z)) (Jws B hi lv)
  ·exact k p _ ((s1.trans s2).trans (Sn.upd hp)) ⟨o',rs,Sv,Paired.mapP pr λs r q=>q.same (Sn.upd hp)⟩
def Jln (B:BTd) (up lv:Int) (lost:List (Option Int)) (s:Int):Bool:=Jxk (Jms B up lv s) lost
theorem Jzj {B:BTd} {up lv s:Int} {i:Int} (bg:BGd B) (h:some i∈Jms B up lv s):0<=i/\i < ((B.hi+1 - B.lo).toNat:Int):=by
 unfold Jms at h
 obtain ⟨c,_,e⟩:=ybc.mp h
 unfold Jns at e
 have b1:=bg.lo
 split at e
 ·rename_i q
  have e':=yac.inj e
  omega
 ·cases e
theorem Jx1 {B:BTd} {up lv s:Int} (bg:BGd B) (hup:0<=up/\up<=12):(Jms B up lv s).length<=100:=by
 unfold Jms
 rw [yf,yaw]
 have:=bg.rn
 omega
theorem Jvu:∀{us:List Int} {rs:List (S5×S5)} {F:Int->S5×S5->Prop} {i:Nat} {k:Key} {x:V},Paired F us rs->(Joo us rs)[i]?=some (k,x)->∃u r,us[i]?=some u/\k= .inl u/\x= .ref r.2/\F u r
 |_,_,_,_,_,_,.nil,h=>by simp [Joo] at h
 |_,_,_,0,k,x,.cons (a:=u) (b:=r) h t,e=>by
  have e':(yaa u,V.ref r.2)=(k,x):=by simpa [Joo] using e
  cases e'
  exact ⟨u,r,rfl,rfl,rfl,h⟩
 |_,_,_,i+1,k,x,.cons h t,e=>by
  obtain ⟨u,r,e1,e2⟩:=Jvu (i:=i) t (by simpa [Joo] using e)
  exact ⟨u,r,by simpa using e1,e2⟩
theorem Jzn {us:List Int} {rs:List (S5×S5)} (h:us.length=rs.length):(Joo us rs).length=us.length:=by
 unfold Joo
 rw [yf,List.length_zip]
 omega
def Ye4 (a:Ad):Sp:=λvs H Q _=>∃(p M:S5) (B:BTd) (up hi lv s:Int) (lost:List (Option Int)),vs= [.ref p,.ref M]/\Sd3 B up hi lv H p/\H M=some (.lst (lost.map oV))/\lost.length=(B.hi+1 - B.lo).toNat/\BGd B/\(0<=up/\up<=12)/\
 ((usable B hi lv).filter (Jln B up lv lost)).head?=some s/\∀H',Sn H H'->Q (.int s) H'
theorem Juf:Jkd ["by_setting","lost"] ["by_setting","lost"] (Jk9 (top 33)):=⟨rfl,rfl,rfl,by decide +kernel,rfl,by decide +kernel,by decide +kernel⟩
theorem Ju8 (T:Tx K mg a):Sx P w K mg base CX0 2 a.Jge a.Jgf ["by_setting","lost"] (Ye4 a):=by
 have Sdn:=Jtd (P:=P) (w:=w) (base:=base) T
 refine T.Je.fn.ok Juf (λvs H Q E h=>?_) (λcdv A outer s H vs Q E hr h=>?_)
 ·obtain ⟨p,M,B,up,hi,lv,s,lost,rfl,_⟩:=h
  rfl
 ·obtain ⟨p,M,B,up,hi,lv,s,lost,rfl,⟨ob,rs,hp,pr⟩,hM,hN,bg,hup,hs,k⟩:=h
  have n4:=Jon B hi lv (Jt6 bg.G)
  refine ⟨?t,?B,?C⟩
  case B=>
   refine' Jk7 ?a
   case a=>exact (Jkg (Jkm Jks (Jl4 (N:=(["setting","ends","lost"]:List Str)) (ini:=[none,none,some 1]) rfl (Ybr (pv 0)) (λ_ _ _ _ _=>(Jpl (K:=K) (n:=2) rfl rfl (Jkv (Jkf (i:=0) (by decide +kernel:(["setting","ends","lost"]:List Str).Nodup) rfl (ye rfl)) (Jkv (Jkf (i:=1) (by decide +kernel:(["setting","ends","lost"]:List Str).Nodup) rfl (ye rfl)) Jmx)))) (λ_ _ _ _ _=>(Jnx (Jkx (Jkc T.J7 Sdn hr (by decide) (So (pv 1) (So (pv 2) Ss)))))) (λ_ _ _ _ _=>(pv 0))) Sy (λ_ _=>rfl)))
  refine ⟨_,rfl,p,ob,_,rfl,hp,λD hD=>?_⟩
  refine Jy8 (λi σ H'=>(∃o1 o2,σ= [o1,o2,some (.ref M)])/\Sn H H'/\H' D=some (.lst ((((usable B hi lv).take i).filter (Jln B up lv lost)).map V.int))) ⟨⟨_,_,rfl⟩,Sn.upd hD,Sv⟩ (λi σ H' _ ⟨_,sm,_⟩=>sm _ _ hp) ?_ ?_
  ·rintro i kk x σ H' T1 hx ⟨⟨o1,o2,rfl⟩,sm,hDs⟩ hT
   obtain ⟨u,r,hu,rfl,rfl,row⟩:=Jvu pr hx
   have sT:=Sn.upd (o:=.tup [kV (.inl u),V.ref r.2]) hT
   refine ⟨T1,_,rfl,SqT.of Sv,rfl,_,_,rfl,_,_,rfl,rfl,?_⟩
   refine ⟨_,rfl,_,rfl,r.2,M,Jms B up lv u,lost,rfl,sT _ _ (sm _ _ row.2),sT _ _ (sm _ _ hM),λj hj=>?_,Jx1 bg hup,λH2 s2=>?_⟩
   ·have:=Jzj bg hj
    rw [hN]
    exact this
   have ef:(((usable B hi lv).take (i+1)).filter (Jln B up lv lost))=((usable B hi lv).take i).filter (Jln B up lv lost)++(if Jln B up lv lost u=true then [u] else []):=by
    rw [yan,hu,ybr]
    congr 1
    by_cases c:Jln B up lv lost u=true <;> simp [c]
   have hDs2:=s2 _ _ (sT _ _ hDs)
   have lt:i < (usable B hi lv).length:=(yq.mp hu).1
   refine ⟨_,rfl,?_⟩
   show if Jln B up lv lost u=true then _ else _
   refine Jnd (λc=>?_) (λc=>?_)
   ·refine ⟨_,rfl,_,hDs2,?_,⟨_,_,rfl⟩,?_,?_⟩
    ·rw [yf]
     refine Jkk (yab (ybi _ _) ?_)
     rw [yah]
     omega
    ·intro c2 o' z
     rw [Sz (Jkb z hD)]
     exact s2 _ _ (sT _ _ (sm _ _ z))
    ·rw [Sv,ef,if_pos c,yt]
     rfl
   ·refine ⟨⟨_,_,rfl⟩,(sm.trans sT).trans s2,?_⟩
    rw [ef,if_neg c,yay]
    exact hDs2
  ·rintro σ H' ⟨_,sm,hDs⟩
   rw [Jzn (Paired.length pr),ycl] at hDs
   refine ⟨D,_,0,_,rfl,rfl,Sw.of hDs,Jl8 (j:=0) ?_,k _ sm⟩
   rw [ym,<-List.head?_eq_getElem?,hs]
   rfl
abbrev lb_lost_alone:Array (Nat×Nat×Str):=#[((Jr3 (nst (top 31) 0)).line,(Jr3 (nst (top 31) 0)).col,"lost_alone.<locals>.comes")]
def Sdr (B:BTd) (up hi:Int) (H:Hp) (W:S5):Prop:=∃ps:List S5,H W=some (.lst (ps.map V.ref))/\Paired (λlv p=>Sd3 B up hi lv H p) (Jt3 B) ps
theorem Sdr.same {B:BTd} {up hi:Int} {H H':Hp} {W:S5} (sm:Sn H H') (h:Sdr B up hi H W):Sdr B up hi H' W:=by
 obtain ⟨ps,h1,h2⟩:=h
 exact ⟨ps,sm _ _ h1,Paired.mapP h2 λs r q=>q.same sm⟩
def nLv (B:BTd):Nat:=(B.hi+1 - B.lo).toNat
def Jmk (B:BTd) (up hi:Int) (lost:List (Option Int)) (n:Nat):Bool:=!((usable B hi (B.lo+n)).any (Jln B up (B.lo+n) lost))
def Srb (H:Hp) (f W:S5):Prop:=Sdb H f "comes" "lost_alone.<locals>.comes" (nst (top 31) 0) [("ways",.ref W)]
def Ye3:List V->Sp:=λcs vs H Q _=>∃(W M:S5) (B:BTd) (up hi:Int) (n:Nat) (lost:List (Option Int)),cs= [.ref W]/\vs= [.int n,.ref M]/\Sdr B up hi H W/\H M=some (.lst (lost.map oV))/\lost.length=nLv B/\BGd B/\(0<=up/\up<=12)/\n < nLv B/\
 ∀H',Sn H H'->Q (.bl (Jmk B up hi lost n)) H'
theorem Jl6 {α β:Type} {F:α->β->Prop} {l₁:List α} {l₂:List β} (r:Paired F l₁ l₂):∀{i:Nat} {x:α},l₁[i]?=some x->∃y,l₂[i]?=some y/\F x y:=by
 induction r with
 |nil=>intro i y h;simp at h
 |cons h t ih=>
  intro i y e
  cases i with
  |zero=>simp at e;subst e;exact ⟨_,rfl,h⟩
  |succ j=>exact ih (by simpa using e)
theorem Jpr:Jou ["number","found","ways"] ["number","found"] ["ways"] (Jk9 (nst (top 31) 0)):=⟨rfl,rfl,rfl,by decide +kernel,rfl,by decide +kernel,by decide +kernel,by decide +kernel⟩
theorem Ybf (T:Tx K mg a) (f:S5):Jrv P w K mg base CX0 2 f (Jzs "comes" "lost_alone.<locals>.comes" (nst (top 31) 0) ["ways"] Ye3 f):=by
 have Sdn:=Jtd (P:=P) (w:=w) (base:=base) T
 refine Ydd Jpr (λ_ _ _ _ _ us hl=>match us,hl with| [_,_],_=>rfl) (λcs vs H Q E h=>?_) (λf c clos A outer s H vs cs Q E hr h=>?_) f
 ·obtain ⟨W,M,B,up,hi,n,lost,rfl,rfl,_⟩:=h
  exact ⟨rfl,rfl⟩
 ·obtain ⟨W,M,B,up,hi,n,lost,rfl,rfl,wa,hM,hN,bg,hup,hn,k⟩:=h
  obtain ⟨ps,hW,pp⟩:=wa
  obtain ⟨p,hp,ob,rs,hd,pr⟩:=Jl6 pp (i:=n) (x:=B.lo+n) (by unfold Jt3;simp [show n < (B.hi+1 - B.lo).toNat from hn])
  refine ⟨?t,?B,?C⟩
  case B=>
   refine' Jk7 ?a
   case a=>exact (Jkg (Slu (Jke (Yaj rfl rfl) (by rfl) T.Jao Sl6 (So (Jl4 (N:=(["ends","found"]:List Str)) (ini:=[none,some 1]) rfl (Ydu (Jkm Jks (pv 2) (pv 0) (λ_ _=>rfl))) (λ_ _ _ _ _=>(Jkf (i:=0) (by decide +kernel:(["ends","found"]:List Str).Nodup) rfl (ye rfl))) (λ_ _ _ _ _=>Jky) (λ_ _ _ _ _=>(Jkc T.J7 Sdn hr (by decide) (So (pv 0) (So (pv 1) Ss))))) Ss))))
  have n4:=Jon B hi (B.lo+n) (Jt6 bg.G)
  refine ⟨_,rfl,_,rfl,W,_,(n:Int),_,rfl,rfl,Sw.of hW,Jl8 (j:=n) (by rw [ym,hp];rfl),p,ob,_,rfl,hd,λD hD=>?_⟩
  refine Y4 (λi σ H'=>(∃o1,σ= [o1,some (.ref M)])/\Sn H H'/\H' D=some (.lst ((((usable B hi (B.lo+n)).take i).map (Jln B up (B.lo+n) lost)).map V.bl))) ⟨⟨_,rfl⟩,Sn.upd hD,Sv⟩ (λi σ H' _ ⟨_,sm,_⟩=>sm _ _ hd) ?_ ?_
  ·rintro i kk x σ H' hx ⟨⟨o1,rfl⟩,sm,hDs⟩
   obtain ⟨u,r,hu,rfl,rfl,row⟩:=Jvu pr hx
   have lt:i < (usable B hi (B.lo+n)).length:=(yq.mp hu).1
   refine Jlc ⟨_,rfl,_,rfl,r.2,M,Jms B up (B.lo+n) u,lost,rfl,sm _ _ row.2,sm _ _ hM,λj hj=>?_,Jx1 bg hup,λH2 s2=>⟨_,s2 _ _ hDs,?_,⟨_,rfl⟩,?_,?_⟩⟩
   ·have:=Jzj bg hj
    rw [hN]
    exact this
   ·rw [yf,yf,yah]
    exact Jkk (by omega)
   ·intro c2 o' z
    rw [Sz (Jkb z hD)]
    exact s2 _ _ (sm _ _ z)
   ·rw [Sv,yan,hu,yt,yt]
    rfl
  ·rintro σ H' ⟨_,sm,hDs⟩
   rw [Jzn (Paired.length pr),ycl] at hDs
   refine ⟨D,_,rfl,Sw.of hDs,_,rfl,?_⟩
   have e:((usable B hi (B.lo+n)).map (Jln B up (B.lo+n) lost)).any id=(usable B hi (B.lo+n)).any (Jln B up (B.lo+n) lost):=by
    rw [List.any_map]
    rfl
   rw [e]
   exact k _ sm
def Jko (B:BTd) (up hi:Int) (lost:List (Option Int)):List Nat:=(yv (nLv B)).filter λn=>(lost.getD n none).isNone&&Jmk B up hi lost n
def Jnp (lost:List (Option Int)) (ns:List Nat) (r:Int):List (Option Int):=ns.foldl (λl n=>l.set n (some r)) lost
def Jnk (B:BTd) (up hi:Int):Nat->List (Option Int)->Int->List (Option Int)
 |0,l,_=>l
 |k+1,l,r=>if Jko B up hi l= [] then l else Jnk B up hi k (Jnp l (Jko B up hi l) (r+1)) (r+1)
def Jlm (B:BTd) (up hi:Int):List (Option Int):=Jnk B up hi (nLv B+1) (yw (nLv B) none) 0
def Jli (l:List (Option Int)):Nat:=l.countP λo=>o.isNone
theorem Jod (ns:List Nat) (r:Int):∀l:List (Option Int),(Jnp l ns r).length=l.length:=by
 induction ns with
 |nil=>intro l;rfl
 |cons n ns ih=>
  intro l
  show (Jnp (l.set n (some r)) ns r).length=_
  rw [ih]
  simp
theorem Jv9 (l:List (Option Int)) (ns:List Nat) (n:Nat) (r:Int):Jnp l (ns++ [n]) r=(Jnp l ns r).set n (some r):=by
 unfold Jnp
 rw [List.foldl_append]
 rfl
theorem Jvx (l:List (Option Int)) (n:Nat) (r:Int):Jli (l.set n (some r))<=Jli l:=by
 induction l generalizing n with
 |nil=>simp [Jli]
 |cons x l ih=>
  cases n with
  |zero=>unfold Jli;rw [List.set_cons_zero,yby,yby];simp
  |succ n=>
   have:=ih n
   unfold Jli at this⊢
   rw [List.set_cons_succ,yby,yby]
   omega
theorem Jvw (ns:List Nat) (r:Int):∀l:List (Option Int),Jli (Jnp l ns r)<=Jli l:=by
 induction ns with
 |nil=>intro l;exact yg _
 |cons n ns ih=>intro l;exact yab (ih (l.set n (some r))) (Jvx l n r)
theorem Jvy {l:List (Option Int)} {n:Nat} {r:Int} (h:l[n]?=some none):Jli (l.set n (some r)) < Jli l:=by
 induction l generalizing n with
 |nil=>simp at h
 |cons x l ih=>
  cases n with
  |zero=>
   obtain rfl:x=none:=by simpa using h
   unfold Jli
   rw [List.set_cons_zero,yby,yby]
   simp
  |succ n=>
   have:=ih (n:=n) (by simpa using h)
   unfold Jli at this⊢
   rw [List.set_cons_succ,yby,yby]
   omega
theorem Jrl {B:BTd} {up hi:Int} {l:List (Option Int)} {n:Nat} (hl:l.length=nLv B) (h:n∈Jko B up hi l):n < nLv B/\l[n]?=some none:=by
 unfold Jko at h
 obtain ⟨h1,h2⟩:=ybs.mp h
 have lt:=yae.mp h1
 rw [yag] at h2
 have hn:n < l.length:=by omega
 refine ⟨lt,?_⟩
 have:=h2.1
 rw [yaj,yp hn] at this
 rw [yp hn]
 simpa using this
theorem Jnv {B:BTd} {up hi r:Int} {l:List (Option Int)} (hl:l.length=nLv B) (h:Jko B up hi l≠ []):Jli (Jnp l (Jko B up hi l) r) < Jli l:=by
 cases hc:Jko B up hi l with
 |nil=>exact absurd hc h
 |cons n ns=>
  have q:=(Jrl hl (n:=n) (by rw [hc];exact yar ..)).2
  exact yct (Jvw ns r (l.set n (some r))) (Jvy q)
theorem Joi {B:BTd} {up hi:Int}:∀(k m:Nat) (l:List (Option Int)) (r:Int),l.length=nLv B->Jli l < k->Jli l < m->Jnk B up hi k l r=Jnk B up hi m l r:=by
 intro k
 induction k with
 |zero=>intro m l r _ h;omega
 |succ k ih=>
  intro m l r hl h1 h2
  cases m with
  |zero=>omega
  |succ m=>
   show (if Jko B up hi l= [] then l else _)=(if Jko B up hi l= [] then l else _)
   split
   ·rfl
   ·rename_i hf
    have:=Jnv (r:=r+1) hl hf
    exact ih m _ _ (by rw [Jod];exact hl) (by omega) (by omega)
def nsV (ns:List Nat):List V:=ns.map λn:Nat=>V.int n
def Ycj:Sp:=λvs H Q _=>∃(c W:S5) (B:BTd) (up hi:Int),vs= [.int (nLv B:Nat),.ref c]/\Srb H c W/\Sdr B up hi H W/\BGd B/\(0<=up/\up<=12)/\∀M H',Sn H H'->H M=none->H' M=some (.lst ((Jlm B up hi).map oV))->Q (.ref M) H'
def Sor (B:BTd) (up hi:Int) (H:Hp) (c M:S5):Nat->L2.St->Hp->Prop:=λm σ H'=>∃(l:List (Option Int)) (r:Int) (F:S5) (o5:Option V),σ= [some (.int (nLv B:Nat)),some (.ref c),some (.ref M),some (.int r),some (.ref F),o5]/\m=Jli l/\l.length=nLv B/\Sn H H'/\H' M=some (.lst (l.map oV))/\H' F=some (.lst (nsV (Jko B up hi l)))/\F≠M/\Jnk B up hi (Jli l+1) l r=Jlm B up hi
theorem Jyj {B:BTd} (bg:BGd B):nLv B<=13:=by
 unfold nLv
 have:=bg.lo
 have:=bg.hi
 omega
theorem Saa:Jkd ["many","comes","found","rounds","fresh","number"] ["many","comes"] (Jk9 (top 23)):=⟨rfl,rfl,rfl,by decide +kernel,rfl,by decide +kernel,by decide +kernel⟩
theorem Jqe (T:Tx K mg a):Sx P w K mg base CX0 3 a.Jfy a.Jfz ["many","comes"] Ycj:=by
 have Sgz:=Ybf (P:=P) (w:=w) (base:=base) T
 refine T.J6.fn.ok Saa (λvs H Q E h=>?_) (λcdv A outer s H vs Q E hr h=>?_)
 ·obtain ⟨c,W,B,up,hi,rfl,_⟩:=h
  rfl
 ·obtain ⟨c,W,B,up,hi,rfl,cm,wa,bg,hup,k⟩:=h
  have n13:=Jyj bg
  refine ⟨?t,?B,?C⟩
  case B=>
   refine' Jk6 ?a ?b
   case a=>exact (Jkh (i:=2) Saa.nd rfl (yal rfl) (Jl4 (N:=(["number"]:List Str)) (ini:=[none]) rfl (Jlj (by rfl) T.Jay (So (pv 0) Ss)) (λ_ _ _ _ _=>(Jkf (i:=0) (by decide +kernel:(["number"]:List Str).Nodup) rfl (ye rfl))) (λ_ _ _ _ _=>Jky) (λ_ _ _ _ _=>Jlu)))
   case b=>
   refine' Jk6 ?c ?d
   case c=>exact (Jkh (i:=3) Saa.nd rfl (ye rfl) Sy)
   case d=>
   refine' Jk6 ?e ?f
   case e=>exact (Jmj (i:=4) (N:=(["number","comes","found"]:List Str)) (ini:=[none,some 1,some 2]) Saa.nd rfl (ye rfl) rfl (Jlj (by rfl) T.Jay (So (pv 0) Ss)) (λ_ _ _ _ _=>(Jkf (i:=0) (by decide +kernel:(["number","comes","found"]:List Str).Nodup) rfl (ye rfl))) (λ_ _ _ _ _=>(Jnx (Jkx (Jv7 (P:=P) (w:=w) (K:=K) (mg:=mg) (base:=base) rfl rfl rfl rfl rfl Sgz hr (by decide) 1 (So (pv 0) (So (pv 2) Ss)))))) (λ_ _ _ _ _=>(pv 0)))
   case f=>
   refine' Jk6 ?g ?h
   case g=>exact (Jtl PassesOwn.never (Jkr Jxe (Jke Jkp (by rfl) T.Jau Jlg (So (pv 4) Ss)) Sy (Jkt _)) (Jk6 (Slx (i:=3) Saa.nd rfl (ye rfl) Sy Slh) (Jk6 (Jma PassesOwn.never rfl (Jl5 (pv 4)) (Jkf (i:=5) Saa.nd rfl (ye rfl)) (Jk7 (Jrr (pv 3) (Jtj (pv 2) (pv 5) Jpb)))) (Jk7 (Jmj (i:=4) (N:=(["number","comes","found"]:List Str)) (ini:=[none,some 1,some 2]) Saa.nd rfl (ye rfl) rfl (Jlj (by rfl) T.Jay (So (pv 0) Ss)) (λ_ _ _ _ _=>(Jkf (i:=0) (by decide +kernel:(["number","comes","found"]:List Str).Nodup) rfl (ye rfl))) (λ_ _ _ _ _=>(Jnx (PW.pt (Jys (Jkr Jti (Jkm (Jt0 (K:=K) rfl) (pv 2) (pv 0) (λ_ _=>rfl)) Jlu (Jkt _)) (Jwi (Jkx (Jv7 (P:=P) (w:=w) (K:=K) (mg:=mg) (base:=base) rfl rfl rfl rfl rfl Sgz hr (by decide) 1 (So (pv 0) (So (pv 2) Ss))))))))) (λ_ _ _ _ _=>(pv 0)))))))
   case h=>
   refine' Jk7 ?i
   case i=>exact (Jkg (pv 2))
  refine ⟨_,rfl,_,rfl,by omega,by omega,λM hM=>?_⟩
  refine Jmm (lo:=0) (λi σ H'=>(∃o',σ= [o'])/\H' M=some (.lst ((yw i (none:Option Int)).map oV))/\Sn H H') ⟨⟨_,rfl⟩,Sv,Sn.upd hM⟩ ?_ ?_
  ·rintro i σ H' hi' ⟨⟨o1,rfl⟩,hDs,sm⟩
   refine Jlc ⟨_,hDs,?_,⟨_,rfl⟩,?_,?_⟩
   ·rw [yf,ybv]
    exact Jkk (by omega)
   ·rw [Sv,ycv,yt]
    rfl
   ·intro c2 o' z
    rw [Sz (Jkb z hM)]
    exact sm _ _ z
  rintro σ1 H1 ⟨_,hMs,s1⟩
  rw [show ((nLv B:Nat):Int).toNat=nLv B from ybh _] at hMs
  refine ⟨_,rfl,_,rfl,by omega,by omega,λF hF=>?_⟩
  have ef:∀(p:Nat->Bool) (i:Nat),(yv (i+1)).filter p=(yv i).filter p++(if p i=true then [i] else []):=by
   intro p i
   rw [ybq,ybr]
   congr 1
   by_cases c:p i=true <;> simp [c]
  have fl:∀(p:Nat->Bool) (i:Nat),i<=13->(nsV ((yv i).filter p)).length < Sa:=by
   intro p i hi'
   unfold nsV
   rw [yf]
   refine Jkk (yab (ybi _ _) ?_)
   rw [yaw]
   omega
  refine Jmm (lo:=0) (λi σ H'=>(∃o',σ= [o',some (.ref c),some (.ref M)])/\Sn H1 H'/\H' F=some (.lst (nsV ((yv i).filter (Jmk B up hi (yw (nLv B) none)))))) ⟨⟨_,rfl⟩,Sn.upd hF,Sv⟩ ?_ ?_
  ·rintro i σ H' hi' ⟨⟨o1,rfl⟩,sm,hFs⟩
   have hi2:i < nLv B:=by rw [show ((nLv B:Nat):Int).toNat=nLv B from ybh _] at hi';exact hi'
   refine ⟨c,rfl,_,rfl,_,rfl,[.ref W],(cm.same s1).same sm,W,M,B,up,hi,i,_,rfl,by simp,(wa.same s1).same sm,sm _ _ hMs,by simp,bg,hup,hi2,λH2 s2=>⟨_,rfl,?_⟩⟩
   have hF2:=s2 _ _ hFs
   refine Jnd (λq=>?_) (λq=>?_)
   ·refine ⟨_,rfl,_,hF2,fl _ i (by omega),⟨_,rfl⟩,?_,?_⟩
    ·intro c2 o' z
     rw [Sz (Jkb z hF)]
     exact s2 _ _ (sm _ _ z)
    ·rw [Sv,ef,if_pos q]
     unfold nsV
     rw [yt]
     simp
   ·refine ⟨⟨_,rfl⟩,sm.trans s2,?_⟩
    rw [ef,if_neg q,yay]
    exact hF2
  rintro σ2 H2 ⟨_,s2,hFs⟩
  rw [show ((nLv B:Nat):Int).toNat=nLv B from ybh _] at hFs
  have e0:Jko B up hi (yw (nLv B) none)=(yv (nLv B)).filter (Jmk B up hi (yw (nLv B) none)):=by
   unfold Jko
   refine List.filter_congr λn hn=>?_
   have lt:=yae.mp hn
   simp [yaj,lt]
  have nFM:F≠M:=λz=>by rw [z,hMs] at hF;cases hF
  have sM:∀{H':Hp} {o:HO},Sn H H'->Sn H (upd H' M o):=λs b u z=>by rw [Sz (Jkb z hM)];exact s _ _ z
  refine ⟨Sor B up hi H c M,
   ⟨_,yw (nLv B) none,0,F,none,rfl,rfl,by simp,s1.trans s2,s2 _ _ hMs,by rw [e0];exact hFs,nFM,?_⟩,?_⟩
  ·refine Joi _ _ _ _ (by simp) (ybl _) ?_
   unfold Jli
   refine Nat.lt_succ_of_le (yab (ycy ..) ?_)
   simp
  rintro m σ' H' ⟨l,r,F,o5,rfl,rfl,hl,sm,hM',hF',nFM,hL⟩
  refine ⟨_,rfl,F,_,rfl,.inl (Sw.of hF'),_,_,rfl,rfl,_,rfl,Jnd (λq=>?_) (λq=>?_)⟩
  ·have ne:Jko B up hi l≠ []:=λz=>by
    rw [z] at q
    cases q
   refine ⟨λσ H'=>∃m',m' < Jli l/\Sor B up hi H c M m' σ H',λ_ _ h=>h,?_⟩
   refine ⟨_,rfl,_,_,rfl,rfl,?_⟩
   refine ⟨_,rfl,F,rfl,⟨_,Sw.of hF'⟩,?_⟩
   refine Jnj (K:=K) (xs:=nsV (Jko B up hi l)) (λi σ H2=>(∃o5,σ= [some (.int (nLv B:Nat)),some (.ref c),some (.ref M),some (.int (r+1)),some (.ref F),o5])/\Sn H H2/\H2 M=some (.lst ((Jnp l ((Jko B up hi l).take i) (r+1)).map oV))/\H2 F=some (.lst (nsV (Jko B up hi l)))) ⟨⟨_,rfl⟩,sm,hM',hF'⟩ (λi σ H2 _ h=>Sw.of h.2.2.2) ?_ ?_
   ·rintro i x σ H2 hx ⟨⟨o,rfl⟩,s',hM2,hF2⟩
    unfold nsV at hx
    rw [ym] at hx
    obtain ⟨n,hn,rfl⟩:=yy.mp hx
    have hn2:=Jrl hl (yad hn)
    refine ⟨_,rfl,_,rfl,_,rfl,M,_,(n:Int),n,rfl,rfl,hM2,?_,⟨_,rfl⟩,sM s',?_,?_⟩
    ·unfold ixN
     rw [yf,Jod,hl,if_pos (by omega),if_pos (by have:=hn2.1;omega)]
     simp
    ·rw [Sv,yan,hn]
     show _=some (HO.lst ((Jnp l (_++ [n]) (r+1)).map oV))
     rw [Jv9,List.map_set]
     rfl
    ·rw [Sz nFM]
     exact hF2
   rintro σ3 H3 ⟨⟨o,rfl⟩,s3,hM3,hF3⟩
   have el:(nsV (Jko B up hi l)).length=(Jko B up hi l).length:=by unfold nsV;rw [yf]
   rw [el,ycl] at hM3
   have lt2:=Jnv (r:=r+1) hl ne
   have ln2:(Jnp l (Jko B up hi l) (r+1)).length=nLv B:=by rw [Jod];exact hl
   have hL2:Jnk B up hi (Jli (Jnp l (Jko B up hi l) (r+1))+1) (Jnp l (Jko B up hi l) (r+1)) (r+1)=Jlm B up hi:=by
    rw [<-hL]
    show _=(if Jko B up hi l= [] then l else Jnk B up hi (Jli l) (Jnp l (Jko B up hi l) (r+1)) (r+1))
    rw [if_neg ne]
    exact Joi _ _ _ _ ln2 (ybl _) lt2
   generalize Jnp l (Jko B up hi l) (r+1)=l2 at hM3 lt2 ln2 hL2
   refine ⟨_,rfl,_,rfl,by omega,by omega,λF2 hF2=>?_⟩
   have nF2:F2≠M:=λz=>by rw [z,hM3] at hF2;cases hF2
   refine Jmm (lo:=0) (λi σ H'=>(∃o',σ= [o',some (.ref c),some (.ref M)])/\Sn H3 H'/\H' F2=some (.lst (nsV ((yv i).filter λn=>(l2.getD n none).isNone&&Jmk B up hi l2 n)))) ⟨⟨_,rfl⟩,Sn.upd hF2,Sv⟩ ?_ ?_
   ·rintro i σ H4 hi' ⟨⟨o1,rfl⟩,s4,hFs⟩
    have hi2:i < nLv B:=by rw [show ((nLv B:Nat):Int).toNat=nLv B from ybh _] at hi';exact hi'
    have zi:(0+(i:Int))=i:=by omega
    have hM4:=s4 _ _ hM3
    refine ⟨_,rfl,_,rfl,M,_,_,_,rfl,rfl,Sw.of hM4,Sk6 (i:=0+(i:Int)) (by omega),rfl,_,rfl,?_⟩
    rw [Jyl,zi,show ((i:Nat):Int).toNat=i from ybh _]
    refine Jnd (λq1=>?_) (λq1=>?_)
    ·refine ⟨c,rfl,_,rfl,_,rfl,[.ref W],(cm.same s3).same s4,W,M,B,up,hi,i,_,rfl,by simp,(wa.same s3).same s4,hM4,ln2,bg,hup,hi2,λH5 s5=>⟨_,rfl,?_⟩⟩
     have hF5:=s5 _ _ hFs
     refine Jnd (λq2=>?_) (λq2=>?_)
     ·refine ⟨_,rfl,_,hF5,fl _ i (by omega),⟨_,rfl⟩,?_,?_⟩
      ·intro c2 o' z
       rw [Sz (Jkb z hF2)]
       exact s5 _ _ (s4 _ _ z)
      ·rw [Sv,ef,if_pos (by rw [q1,q2];rfl)]
       unfold nsV
       rw [yt]
       simp
     ·refine ⟨⟨_,rfl⟩,s4.trans s5,?_⟩
      rw [ef,if_neg (by rw [q1];simpa using q2),yay]
      exact hF5
    ·refine ⟨⟨_,rfl⟩,s4,?_⟩
     rw [ef,if_neg (by intro z;rw [yag] at z;exact q1 z.1),yay]
     exact hFs
   rintro σ5 H5 ⟨_,s5,hFs⟩
   rw [show ((nLv B:Nat):Int).toNat=nLv B from ybh _] at hFs
   exact ⟨Jli l2,lt2,l2,r+1,F2,_,rfl,rfl,ln2,s3.trans s5,s5 _ _ hM3,hFs,nF2,hL2⟩
  ·have em:Jko B up hi l= []:=by
    cases hc:Jko B up hi l with
    |nil=>rfl
    |cons x xs=>
     rw [hc] at q
     exact absurd (by simp [nsV]) q
   have ee:Jlm B up hi=l:=by
    rw [<-hL]
    show (if Jko B up hi l= [] then l else _)=l
    rw [if_pos em]
   exact ⟨_,rfl,k M H' sm hM (by rw [ee];exact hM')⟩
def Yec (a:Ad):Sp:=λvs H Q _=>∃(W:S5) (Bd:BTd) (up hi:Int),vs= [.ref W]/\H a.Jk0=some (.tbl lb_lost_alone)/\Sdr Bd up hi H W/\BGd Bd/\(0<=up/\up<=12)/\∀M H',Sn H H'->H' M=some (.lst ((Jlm Bd up hi).map oV))->Q (.ref M) H'
theorem Jx8 (Bd:BTd):(Jt3 Bd).length=nLv Bd:=by
 unfold Jt3 nLv
 rw [yf,yaw]
theorem Sd4:Jkd ["ways","comes"] ["ways"] (Jk9 (top 31)):=⟨rfl,rfl,rfl,by decide +kernel,rfl,by decide +kernel,by decide +kernel⟩
theorem Juc (T:Tx K mg a) (B:Bmn mg base):Sx P w K mg base CX0 4 a.Jga a.Jgb ["ways"] (Yec a):=by
 have Sde:=Jqe (P:=P) (w:=w) (base:=base) T
 refine T.Jc.fn.okN T.Jei Sd4 (λvs H Q E h=>?_) (λA outer s H vs Q E hr h=>?_)
 ·obtain ⟨W,Bd,up,hi,rfl,_⟩:=h
  rfl
 ·obtain ⟨W,Bd,up,hi,rfl,ht,wa,bg,hup,k⟩:=h
  obtain ⟨ps,hW,pp⟩:=id wa
  have hl:ps.length=nLv Bd:=(Paired.length pp).symm.trans (Jx8 Bd)
  refine ⟨?t,?B,?C⟩
  case B=>
   refine' Ybj (st:=nst (top 31) 0) (name:="comes") (qual:="lost_alone.<locals>.comes") (i:=1) (lb:=lb_lost_alone) (caps:=[("ways",0)]) T.Jei B rfl rfl rfl rfl rfl (by rfl) Yb9 (λ_=>Jzo) Sd4.nd rfl rfl (by intro y hy;simp only [yn,yx,or_false] at hy;rcases hy with rfl <;> exact ⟨rfl,by decide,rfl,rfl,rfl⟩) (by decide +kernel) ?a
   case a=>
   refine' PSs.pb ?b
   case b=>
   refine' Jk7 ?c
   case c=>exact (Jkg (Jkc T.J6 Sde hr (by decide) (So (Jke Jkp (by rfl) T.Jau Jlg (So (pv 0) Ss)) (So (pv 1) Ss))))
  refine ⟨ht,[.ref W],?_,rfl,λf H' s' hf clo=>?_⟩
  ·intro y hy
   obtain rfl:y=(((("ways" :Str),0):Str×Nat),V.ref W):=ybd.mp hy
   rfl
  ·refine ⟨_,rfl,W,_,rfl,.inl (Sw.of (s' _ _ hW)),_,rfl,f,W,Bd,up,hi,?_,clo,wa.same s',bg,hup,λM H2 s2 _ hM=>k M H2 (s'.trans s2) hM⟩
   rw [yf,hl]
   rfl
theorem Jyc {B:BTd} {up hi:Int}:∀(k:Nat) (l:List (Option Int)) (r:Int),l.length=nLv B->Jli l < k->Jko B up hi (Jnk B up hi k l r)= []/\(Jnk B up hi k l r).length=nLv B:=by
 intro k
 induction k with
 |zero=>intro l r _ h;omega
 |succ k ih=>
  intro l r hl h
  show Jko B up hi (if Jko B up hi l= [] then l else _)= []/\(if Jko B up hi l= [] then l else _).length=_
  by_cases hf:Jko B up hi l= []
  ·rw [if_pos hf]
   exact ⟨hf,hl⟩
  ·rw [if_neg hf]
   have:=Jnv (r:=r+1) hl hf
   exact ih _ _ (by rw [Jod];exact hl) (by omega)
theorem Jt2 (B:BTd) (up hi:Int):Jko B up hi (Jlm B up hi)= []/\(Jlm B up hi).length=nLv B:=by
 refine Jyc _ _ _ (by simp) ?_
 unfold Jli
 refine Nat.lt_succ_of_le (yab (ycy ..) ?_)
 simp
def isHeld (B:BTd) (up hi:Int) (n:Nat):Bool:=((Jlm B up hi).getD n none).isNone
def Jo6 (B:BTd) (up hi:Int):List Nat:=(yv (nLv B)).filter (isHeld B up hi)
def Jlo (B:BTd) (up hi:Int) (n:Nat):Int:=(((usable B hi (B.lo+n)).filter (Jln B up (B.lo+n) (Jlm B up hi))).head?).getD 0
theorem Jsx {B:BTd} {up hi:Int} {n:Nat} (h:n∈Jo6 B up hi):n < nLv B/\((usable B hi (B.lo+n)).filter (Jln B up (B.lo+n) (Jlm B up hi))).head?=some (Jlo B up hi n):=by
 unfold Jo6 at h
 obtain ⟨h1,h2⟩:=ybs.mp h
 have lt:=yae.mp h1
 refine ⟨lt,?_⟩
 have d:=(Jt2 B up hi).1
 unfold Jko at d
 have q:=List.filter_eq_nil_iff.mp d n h1
 unfold isHeld at h2
 rw [h2,Bool.true_and] at q
 unfold Jmk at q
 unfold Jlo
 cases hc:(usable B hi (B.lo+n)).filter (Jln B up (B.lo+n) (Jlm B up hi)) with
 |nil=>
  refine absurd ?_ q
  rw [Bool.not_eq_true',List.any_eq_false]
  intro x hx
  exact List.filter_eq_nil_iff.mp hc x hx
 |cons x xs=>rfl
def Jqp (B:BTd) (up hi:Int):List (Key×V):=(Jo6 B up hi).map λn:Nat=>(yaa (B.lo+n),V.int (Jlo B up hi n))
theorem Sd3.put {B:BTd} {up hi lv:Int} {H:Hp} {p D:S5} {ps:List S5} {o:HO} (hup:0<=up) (hrn:0<=B.rn) (hD:H D=some (.lst (ps.map V.ref))) (h:Sd3 B up hi lv H p):Sd3 B up hi lv (upd H D o) p:=by
 obtain ⟨ob,rs,h1,h2⟩:=h
 have n1:p≠D:=λz=>by rw [z,hD] at h1;cases h1
 refine ⟨ob,rs,by rw [Sz n1];exact h1,Paired.mapP h2 λs r q=>Seb.put (rs:=ps.map λp=>(p,p)) hup hrn ?_ q⟩
 rw [hD,List.map_map]
 rfl
def Smd (a:Ad):Sp:=λvs H Q _=>∃(o:S5) (Bd:BTd) (up hi:Int),vs= [.ref o,.int up,.int hi]/\H a.Jk0=some (.tbl lb_lost_alone)/\BX a H o Bd/\BGd Bd/\(0<=up/\up<=12)/\
 ∀p ob H',Sn H H'->H' p=some (.frz ob (.dK (Jqp Bd up hi)))->Q (.ref p) H'
theorem Sat:Jkd ["basin","up","hi","ways","lost","held"] ["basin","up","hi"] (Jk9 (top 32)):=⟨rfl,rfl,rfl,by decide +kernel,rfl,by decide +kernel,by decide +kernel⟩
theorem Jqz (T:Tx K mg a) (Bm:Bmn mg base):Sx P w K mg base CX0 6 a.Jgc a.Jgd ["basin","up","hi"] (Smd a):=by
 have Sg9:=Jwa (P:=P) (w:=w) (base:=base) T
 have Sdd:=Jqd (P:=P) (w:=w) (base:=base) T
 have Sfq:=Juc (P:=P) (w:=w) T Bm
 have Sfo:=Ju8 (P:=P) (w:=w) (base:=base) T
 refine T.Jd.fn.ok Sat (λvs H Q E h=>?_) (λcdv A outer s H vs Q E hr h=>?_)
 ·obtain ⟨o,Bd,up,hi,rfl,_⟩:=h
  rfl
 ·obtain ⟨o,Bd,up,hi,rfl,ht,bx,bg,hup,k⟩:=h
  have n13:=Jyj bg
  refine ⟨?t,?B,?C⟩
  case B=>
   refine' Jk6 ?a ?b
   case a=>exact (Jkh (i:=3) Sat.nd rfl (yal rfl) (Jl4 (N:=(["level","basin","up","hi"]:List Str)) (ini:=[none,some 0,some 1,some 2]) rfl (Jl5 (Jkc T.J9 Sg9 hr (by decide) (So (pv 0) Ss))) (λ_ _ _ _ _=>(Jkf (i:=0) (by decide +kernel:(["level","basin","up","hi"]:List Str).Nodup) rfl (ye rfl))) (λ_ _ _ _ _=>Jky) (λ_ _ _ _ _=>(Jkc T.Jb Sdd hr (by decide) (pa4 (pv 1) (pv 2) (pv 3) (pv 0))))))
   case b=>
   refine' Jk6 ?c ?d
   case c=>exact (Jkh (i:=4) Sat.nd rfl (yal rfl) (Jkc T.Jc Sfq hr (by decide) (So (pv 3) Ss)))
   case d=>
   refine' Jk6 ?e ?f
   case e=>exact (Jmj (i:=5) (N:=(["number","turns"]:List Str)) (ini:=[none,none]) Sat.nd rfl (ye rfl) rfl (Jwg (by rfl) T.Jar (So (pv 4) Ss)) (λ_ _ _ _ _=>(Jpl (K:=K) (n:=2) rfl rfl (Jkv (Jkf (i:=0) (by decide +kernel:(["number","turns"]:List Str).Nodup) rfl (ye rfl)) (Jkv (Jkf (i:=1) (by decide +kernel:(["number","turns"]:List Str).Nodup) rfl (ye rfl)) Jmx)))) (λ_ _ _ _ _=>(Jnx (Jkr Jti (pv 1) Jlu (Jkt _)))) (λ_ _ _ _ _=>(pv 0)))
   case f=>
   refine' Jk7 ?g
   case g=>exact (Jkg (Jla (Jso rfl) (by rfl) T.Jaq Jzd (So (Jl4 (N:=(["number","lost","basin","ways"]:List Str)) (ini:=[none,some 4,some 0,some 3]) rfl (Jl5 (pv 5)) (λ_ _ _ _ _=>(Jkf (i:=0) (by decide +kernel:(["number","lost","basin","ways"]:List Str).Nodup) rfl (ye rfl))) (λ_ _ _ _ _=>Jky) (λ_ _ _ _ _=>(Jm2 (So (Jkl Jl0 (Jmh (K:=K) rfl (pv 2) (by rfl)) (pv 0)) (So (Jkc T.Je Sfo hr (by decide) (So (Jkm (Jt0 (K:=K) rfl) (pv 3) (pv 0) (λ_ _=>rfl)) (So (pv 1) Ss))) Ss))))) Ss)))
  refine ⟨_,rfl,o,Bd,rfl,bx,bg,λL H1 s1 hL=>⟨L,rfl,⟨_,Sw.of hL⟩,λD hD=>?_⟩⟩
  refine Jle (K:=K) (xs:=(Jt3 Bd).map V.int) (λi σ H'=>(∃o',σ= [o',some (.ref o),some (.int up),some (.int hi)])/\Sn H1 H'/\∃ps:List S5,H' D=some (.lst (ps.map V.ref))/\Paired (λlv p=>Sd3 Bd up hi lv H' p) ((Jt3 Bd).take i) ps) ⟨⟨_,rfl⟩,Sn.upd hD,[],Sv,.nil⟩ (λi σ H' _ ⟨_,sm,_⟩=>Sw.of (sm _ _ hL)) ?_ ?_
  ·rintro i x σ H' hx ⟨⟨o1,rfl⟩,sm,ps,hDs,pr⟩
   rw [ym] at hx
   obtain ⟨lv,hlv,rfl⟩:=yy.mp hx
   have il:i < (Jt3 Bd).length:=(yq.mp hlv).1
   have rg:0<=lv/\lv<=12:=by
    have e:=(yq.mp hlv).2
    unfold Jt3 at e il
    simp at e il
    have:=bg.lo
    have:=bg.hi
    omega
   refine Jlc ⟨_,rfl,_,rfl,_,rfl,_,rfl,o,Bd,up,hi,lv,rfl,(bx.same s1).same sm,bg,hup,rg,λp H2 s2 wp=>?_⟩
   have hD2:=s2 _ _ hDs
   have lp:ps.length=i:=by
    have e1:=Paired.length pr
    rw [yah] at e1
    omega
   rw [Jx8] at il
   refine ⟨_,hD2,?_,⟨_,rfl⟩,?_,ps++ [p],?_,?_⟩
   ·rw [yf]
    exact Jkk (by omega)
   ·intro c2 o' z
    rw [Sz (Jkb z hD)]
    exact s2 _ _ (sm _ _ z)
   ·rw [Sv,yt]
    rfl
   ·rw [yan,hlv]
    exact Paired.snoc (Paired.mapP pr λlv' p' q=>(q.same s2).put hup.1 bg.rn.1 hD2) (wp.put hup.1 bg.rn.1 hD2)
  rintro σ2 H2 ⟨_,s2,ps,hW,pr⟩
  rw [yat (by rw [yf];exact yg _)] at pr
  have s02:=s1.trans s2
  refine ⟨_,rfl,D,Bd,up,hi,rfl,s02 _ _ ht,⟨ps,hW,pr⟩,bg,hup,λM H3 s3 hM=>?_⟩
  have ll:=(Jt2 Bd up hi).2
  have ef:∀(p:Nat->Bool) (i:Nat),(yv (i+1)).filter p=(yv i).filter p++(if p i=true then [i] else []):=by
   intro p i
   rw [ybq,ybr]
   congr 1
   by_cases c:p i=true <;> simp [c]
  refine ⟨_,rfl,M,rfl,⟨_,Sw.of hM⟩,λD5 hD5=>?_⟩
  refine Yam (K:=K) (a:=M) (xs:=(Jlm Bd up hi).map oV) (λi σ H'=>(∃o1 o2,σ= [o1,o2])/\Sn H3 H'/\H' D5=some (.lst (nsV ((yv i).filter (isHeld Bd up hi))))) ⟨⟨_,_,rfl⟩,Sn.upd hD5,Sv⟩ (λi σ H' _ ⟨_,sm,_⟩=>Sw.of (sm _ _ hM)) ?_ ?_
  ·rintro i x σ H' T1 hx ⟨⟨o1,o2,rfl⟩,sm,hDs⟩ hT
   rw [ym] at hx
   obtain ⟨e,he,rfl⟩:=yy.mp hx
   have il:i < nLv Bd:=by have:=(yq.mp he).1;omega
   have eh:isHeld Bd up hi i=e.isNone:=by unfold isHeld;rw [yaj,he];rfl
   have sT:=Sn.upd (o:=.tup [.int i,oV e]) hT
   refine ⟨T1,_,rfl,SqT.of Sv,rfl,_,_,rfl,_,_,rfl,rfl,?_⟩
   refine ⟨_,rfl,rfl,_,rfl,?_⟩
   rw [Jyl,<-eh]
   have hDs2:=sT _ _ hDs
   refine Jnd (λq=>?_) (λq=>?_)
   ·refine ⟨_,rfl,_,hDs2,?_,⟨_,_,rfl⟩,?_,?_⟩
    ·unfold nsV
     rw [yf]
     refine Jkk (yab (ybi _ _) ?_)
     rw [yaw]
     omega
    ·intro c2 o' z
     rw [Sz (Jkb z hD5)]
     exact sT _ _ (sm _ _ z)
    ·rw [Sv,ef,if_pos q]
     unfold nsV
     rw [yt]
     rfl
   ·refine ⟨⟨_,_,rfl⟩,sm.trans sT,?_⟩
    rw [ef,if_neg q,yay]
    exact hDs2
  rintro σ4 H4 ⟨_,s4,hDs⟩
  rw [yf,ll] at hDs
  have hDs:H4 D5=some (.lst (nsV (Jo6 Bd up hi))):=hDs
  obtain ⟨dx,g,ho,gx⟩:=bx
  have hhl:(Jo6 Bd up hi).length<=13:=by
   unfold Jo6
   refine yab (ybi _ _) ?_
   rw [yaw]
   exact n13
  refine ⟨_,rfl,D5,rfl,⟨_,Sw.of hDs⟩,λD6 hD6=>?_⟩
  refine Jle (K:=K) (xs:=nsV (Jo6 Bd up hi)) (λi σ H'=>(∃o',σ= [o',some (.ref M),some (.ref o),some (.ref D)])/\Sn H4 H'/\∃ts:List S5,H' D6=some (.lst (ts.map V.ref))/\Paired (λ(n:Nat) t=>H' t=some (.tup [.int (Bd.lo+n),.int (Jlo Bd up hi n)])) ((Jo6 Bd up hi).take i) ts) ⟨⟨_,rfl⟩,Sn.upd hD6,[],Sv,.nil⟩ (λi σ H' _ ⟨_,sm,_⟩=>Sw.of (sm _ _ hDs)) ?_ ?_
  ·rintro i x σ H' hx ⟨⟨o1,rfl⟩,sm,ts,hD,pt⟩
   unfold nsV at hx
   rw [ym] at hx
   obtain ⟨n,hn,rfl⟩:=yy.mp hx
   have il:i < (Jo6 Bd up hi).length:=(yq.mp hn).1
   obtain ⟨nl,hf⟩:=Jsx (yad hn)
   have s24:=(s3.trans s4).trans sm
   obtain ⟨p,hp,wp⟩:=Jl6 pr (i:=n) (x:=Bd.lo+n) (by unfold Jt3;simp [show n < (Bd.hi+1 - Bd.lo).toNat from nl])
   refine Jlc ⟨_,rfl,o,_,dx,_,_,rfl,s24 _ _ (s02 _ _ ho),T.Jdp,T.Je7,rfl,_,rfl,_,_,rfl,rfl,_,rfl,_,rfl,D,_,(n:Int),_,rfl,rfl,Sw.of (s24 _ _ hW),Jl8 (j:=n) (by rw [ym,hp];rfl),_,rfl,p,M,Bd,up,hi,Bd.lo+n,Jlo Bd up hi n,Jlm Bd up hi,rfl,wp.same s24,(s4.trans sm) _ _ hM,ll,bg,hup,hf,λH5 s5=>?_⟩
   refine ⟨(show 2<=Sa by decide),λT1 hT=>?_⟩
   have sT:=Sn.upd (o:=.tup [.int (Bd.lo+n),.int (Jlo Bd up hi n)]) hT
   have hD2:=sT _ _ (s5 _ _ hD)
   have lt:ts.length=i:=by
    have e1:=Paired.length pt
    rw [yah] at e1
    omega
   have nt:∀{t:S5} {xs:List V},(upd H5 T1 (.tup [.int (Bd.lo+n),.int (Jlo Bd up hi n)])) t=some (.tup xs)->t≠D6:=λh z=>by rw [z,hD2] at h;cases h
   refine ⟨_,hD2,?_,⟨_,rfl⟩,?_,ts++ [T1],?_,?_⟩
   ·rw [yf]
    exact Jkk (by omega)
   ·intro c2 o' z
    rw [Sz (Jkb z hD6)]
    exact sT _ _ (s5 _ _ (sm _ _ z))
   ·rw [Sv,yt]
    rfl
   ·rw [yan,hn]
    refine Paired.snoc (Paired.mapP pt λm t q=>?_) ?_
    ·have q2:=sT _ _ (s5 _ _ q)
     rw [Sz (nt q2)]
     exact q2
    ·rw [Sz (nt Sv)]
     exact Sv
  rintro σ6 H6 ⟨_,s6,ts,hD,pt⟩
  rw [yat (by unfold nsV;rw [yf];exact yg _)] at pt
  refine ⟨D6,_,Jqp Bd up hi,rfl,hD,?_,?_,?_,λp ob hp=>k p ob _ (((s02.trans s3).trans (s4.trans s6)).trans (Sn.upd hp)) Sv⟩
  ·have go:∀{ns:List Nat} {ts:List S5},Paired (λ(n:Nat) t=>H6 t=some (.tup [.int (Bd.lo+n),.int (Jlo Bd up hi n)])) ns ts->Jvh H6 (ts.map V.ref) (ns.map λn:Nat=>(yaa (Bd.lo+n),V.int (Jlo Bd up hi n))):=by
    intro ns ts h
    induction h with
    |nil=>exact .nil
    |cons h t ih=>exact .cons ⟨_,rfl,h⟩ ih
   exact go pt
  ·unfold Jqp
   rw [yf]
   omega
  ·unfold Jqp
   rw [List.map_map]
   refine ycf.map _ (λx y h z=>h ?_) (ycf.filter _ List.nodup_range)
   have:=yaa.inj z
   omega
theorem Jue:Jkd ["names"] ["names"] (Jk9 (top 61)):=⟨rfl,rfl,rfl,by decide +kernel,rfl,by decide +kernel,by decide +kernel⟩
theorem Jpy (T:Tx K mg a):Sx P w K mg base CX0 1 a.Jho a.Jhp ["names"] (Yco K):=by
 refine T.Jn.fn.ok Jue (λvs H Q E h=>?_) (λcdv A outer s H vs Q E hr h=>?_)
 ·obtain ⟨l,zs,rfl,_⟩:=h
  rfl
 ·obtain ⟨l,zs,rfl,hq,hz,k⟩:=h
  refine ⟨_,(Jk7 (Jkg (Jmw Jnw (Jke Jsp (by rfl) T.Jau Jlg (So (Jla (Jsq rfl) (by rfl) T.Jaz Yag (So (pv 0) Ss)) Ss)) (Jke Jkp (by rfl) T.Jau Jlg (So (pv 0) Ss)) (Jkt _)))),?_⟩
  refine ⟨_,rfl,l,zs,rfl,hq,hz,λt ht=>⟨t,zs,rfl,Sv,?_⟩⟩
  have s1:=Sn.upd (o:=TxS P w t zs) ht
  refine ⟨_,rfl,l,_,rfl,.inl (s1.seq hq),rfl,?_⟩
  have e:decide (V.int ((uq zs).length:Nat)=V.int ((zs.map V.str).length:Nat))=decide ((uq zs).length=zs.length):=by
   rw [yf]
   by_cases h:(uq zs).length=zs.length
   ·rw [decide_eq_true h,decide_eq_true (by rw [h])]
   ·rw [decide_eq_false h,decide_eq_false (λq=>h (by have:=V.int.inj q;omega))]
  rw [e]
  exact k _ s1
theorem Jud:Jkd ["thing"] ["thing"] (Jk9 (top 62)):=⟨rfl,rfl,rfl,by decide +kernel,rfl,by decide +kernel,by decide +kernel⟩
theorem Ju5 (T:Tx K mg a):Sx P w K mg base CX0 2 a.Jhq a.Jhr ["thing"] (Yca K a):=by
 have Sc8:=Jpy (P:=P) (w:=w) (base:=base) T
 refine T.Jo.fn.ok Jud (λvs H Q E h=>?_) (λcdv A outer s H vs Q E hr h=>?_)
 ·obtain ⟨l,os,Bs,rfl,_⟩:=h
  rfl
 ·obtain ⟨l,os,Bs,rfl,hl,bl,hn,nd,k⟩:=h
  have len:=bl.len
  refine ⟨?t,?B,?C⟩
  case B=>
   refine' Jk6 ?a ?b
   case a=>
    refine' Jku ?c ?d ?e
    case c=>exact (PW.pt (Jop (Jl3 (Jkx (Jke Jqu (by rfl) T.Jat Jkq (So (pv 0) (So (Jm2 (So (Jm6 (v:=.ty "list") (by rfl) T.Jav Jpd rfl) (So (Jm6 (v:=.ty "tuple") (by rfl) T.Jb2 Jm3 rfl) Ss))) Ss))))) (Jo2 (Jl3 (Jr4 Jnl Jnl Sy (Jke Jkp (by rfl) T.Jau Jlg (So (pv 0) Ss)) (Jlf (by rfl) T.Jal (v:=.int 16) ⟨_,rfl⟩))))))
    case d=>
     refine' Jk7 ?f
     case f=>exact (Jkg Jmf)
    case e=>exact Jki
   case b=>
   refine' Jk6 ?g ?h
   case g=>
    refine' Jku ?i ?j ?k
    case i=>exact (Jl3 (Jkx (Jke (Jnh rfl) (by rfl) T.Jan Jq4 (So (Jl4 (N:=(["basin"]:List Str)) (ini:=[none]) rfl (Jl5 (pv 0)) (λ_ _ _ _ _=>(Jkf (i:=0) (by decide +kernel:(["basin"]:List Str).Nodup) rfl (ye rfl))) (λ_ _ _ _ _=>Jky) (λ_ _ _ _ _=>(Jke (Jup (K:=K) rfl) (by rfl) T.Jat Jkq (So (pv 0) (So (Jlf (by rfl) T.Jbi (v:=.ref _) rfl) Ss))))) Ss))))
    case j=>
     refine' Jk7 ?l
     case l=>exact (Jkg Jmf)
    case k=>exact Jki
   case h=>
   refine' Jk7 ?m
   case m=>exact (Jkg (Jkc T.Jn Sc8 hr (by decide) (So (Jl4 (N:=(["basin"]:List Str)) (ini:=[none]) rfl (Jl5 (pv 0)) (λ_ _ _ _ _=>(Jkf (i:=0) (by decide +kernel:(["basin"]:List Str).Nodup) rfl (ye rfl))) (λ_ _ _ _ _=>Jky) (λ_ _ _ _ _=>(Jmh (K:=K) rfl (pv 0) (by rfl)))) Ss)))
  refine ⟨_,rfl,(show 2<=Sa by decide),λp hp=>⟨_,p,_,_,.type "list",true,rfl,Sv,rfl,.of (.lst (Sn.upd hp _ _ hl)),rfl,_,rfl,Jlb ?_⟩⟩
  have s1:=Sn.upd (o:=.tup [.ty "list",.ty "tuple"]) hp
  refine ⟨_,rfl,l,_,rfl,.inl (Sw.of (s1 _ _ hl)),_,_,rfl,rfl,_,rfl,ifT (by rw [yf];simp;omega) ⟨_,_,rfl,rfl,_,rfl,ifF (by rw [yf];simp;omega) ?_⟩⟩
  refine ⟨_,rfl,l,rfl,⟨_,Sw.of (s1 _ _ hl)⟩,λD hD=>?_⟩
  refine Jle (K:=K) (a:=l) (xs:=os.map V.ref) (D:=D) (λi σ H'=>∃o,σ= [o]/\H' D=some (.lst ((yw i true).map V.bl))/\Sn (upd H p (.tup [.ty "list",.ty "tuple"])) H') ⟨_,rfl,Sv,Sn.upd hD⟩ (λi σ H' _ ⟨o,_,_,sm⟩=>Sw.of (sm _ _ (s1 _ _ hl))) ?_ ?_
  ·rintro i v σ H' hv ⟨o,rfl,hDs,sm⟩
   obtain ⟨ob,B,rfl,hB,dx,hb,gs⟩:=(bl.same (s1.trans sm)).get hv
   have hi:i < os.length:=by have:=(yq.mp hv).1;rwa [yf] at this
   refine Jlc ⟨_,rfl,_,_,_,_,true,rfl,rfl,.of (T.Jdq.ty T.Jdp hb),T.Jeq,_,hDs,?_,_,rfl,?_,λc o z=>?_⟩
   ·rw [yf,ybv]
    exact Jkk (by omega)
   ·rw [Sv,ycv,yt]
    rfl
   ·rw [Sz (Jkb z hD)]
    exact sm _ _ z
  rintro σ H1 ⟨o,rfl,hDs,sm⟩
  refine ⟨D,_,rfl,Sw.of hDs,_,rfl,ifF (by simp) ?_⟩
  have s2:=s1.trans sm
  refine ⟨_,rfl,l,rfl,⟨_,Sw.of (s2 _ _ hl)⟩,λD2 hD2=>?_⟩
  refine Jle (K:=K) (a:=l) (xs:=os.map V.ref) (D:=D2) (λi σ H'=>∃o,σ= [o]/\H' D2=some (.lst (((Bs.take i).map (·.z)).map V.str))/\Sn H1 H') ⟨_,rfl,Sv,Sn.upd hD2⟩ (λi σ H' _ ⟨o,_,_,sm⟩=>Sw.of (sm _ _ (s2 _ _ hl))) ?_ ?_
  ·rintro i v σ H' hv ⟨o,rfl,hDs,sm3⟩
   obtain ⟨ob,B,rfl,hB,dx,hb,gs⟩:=(bl.same (s2.trans sm3)).get hv
   refine Jlc ⟨_,rfl,ob,_,dx,_,_,rfl,hb,T.Jdp,T.Je6,rfl,_,hDs,?_,_,rfl,?_,λc o z=>?_⟩
   ·rw [yf,yf,yah]
    exact Jkk (by omega)
   ·rw [Sv,yan,hB]
    simp
   ·rw [Sz (Jkb z hD2)]
    exact sm3 _ _ z
  rintro σ H2 ⟨o,rfl,hDs,sm3⟩
  rw [yf,yat (by omega)] at hDs
  refine ⟨D2,Bs.map (·.z),rfl,Sw.of hDs,by rw [yf];omega,λH3 s3=>?_⟩
  rw [Jxz nd,decide_eq_true rfl]
  exact k _ ((s2.trans sm3).trans s3)
theorem Sdj:Jkd ["thing","basins","names"] ["thing","basins"] (Jk9 (top 63)):=⟨rfl,rfl,rfl,by decide +kernel,rfl,by decide +kernel,by decide +kernel⟩
theorem Jw1 (T:Tx K mg a):Sx P w K mg base CX0 2 a.Jhs a.Jht ["thing","basins"] (Yei K a):=by
 have Sc8:=Jpy (P:=P) (w:=w) (base:=base) T
 refine T.Jp.fn.ok Sdj (λvs H Q E h=>?_) (λcdv A outer s H vs Q E hr h=>?_)
 ·obtain ⟨l,m,os,ts,Bs,Ts,rfl,_⟩:=h
  rfl
 ·obtain ⟨l,m,os,ts,Bs,Ts,rfl,hl,bl,hn,hm,tl,tn,nd,inn,k⟩:=h
  have len:=bl.len
  have tlen:=tl.len
  refine ⟨?t,?B,?C⟩
  case B=>
   refine' Jk6 ?a ?b
   case a=>
    refine' Jku ?c ?d ?e
    case c=>exact (PW.pt (Jop (Jl3 (Jkx (Jke Jqu (by rfl) T.Jat Jkq (So (pv 0) (So (Jm2 (So (Jm6 (v:=.ty "list") (by rfl) T.Jav Jpd rfl) (So (Jm6 (v:=.ty "tuple") (by rfl) T.Jb2 Jm3 rfl) Ss))) Ss))))) (Jo2 (Jkr Jxe (Jke Jkp (by rfl) T.Jau Jlg (So (pv 0) Ss)) (Jlf (by rfl) T.Jam (v:=.int 3) ⟨_,rfl⟩) (Jkt _)))))
    case d=>
     refine' Jk7 ?f
     case f=>exact (Jkg Jmf)
    case e=>exact Jki
   case b=>
   refine' Jk6 ?g ?h
   case g=>
    refine' Jku ?i ?j ?k
    case i=>exact (Jl3 (Jkx (Jke (Jnh rfl) (by rfl) T.Jan Jq4 (So (Jl4 (N:=(["town"]:List Str)) (ini:=[none]) rfl (Jl5 (pv 0)) (λ_ _ _ _ _=>(Jkf (i:=0) (by decide +kernel:(["town"]:List Str).Nodup) rfl (ye rfl))) (λ_ _ _ _ _=>Jky) (λ_ _ _ _ _=>(Jke (Jup (K:=K) rfl) (by rfl) T.Jat Jkq (So (pv 0) (So (Jlf (by rfl) T.Jbj (v:=.ref _) rfl) Ss))))) Ss))))
    case j=>
     refine' Jk7 ?l
     case l=>exact (Jkg Jmf)
    case k=>exact Jki
   case h=>
   refine' Jk6 ?m ?n
   case m=>exact (Jkh (i:=2) Sdj.nd rfl (yal rfl) (Jl4 (N:=(["basin"]:List Str)) (ini:=[none]) rfl (Jl5 (pv 1)) (λ_ _ _ _ _=>(Jkf (i:=0) (by decide +kernel:(["basin"]:List Str).Nodup) rfl (ye rfl))) (λ_ _ _ _ _=>Jky) (λ_ _ _ _ _=>(Jmh (K:=K) rfl (pv 0) (by rfl)))))
   case n=>
   refine' Jk7 ?o
   case o=>exact (Jkg (Jwd (Jkc T.Jn Sc8 hr (by decide) (So (Jl4 (N:=(["town"]:List Str)) (ini:=[none]) rfl (Jl5 (pv 0)) (λ_ _ _ _ _=>(Jkf (i:=0) (by decide +kernel:(["town"]:List Str).Nodup) rfl (ye rfl))) (λ_ _ _ _ _=>Jky) (λ_ _ _ _ _=>(Jmh (K:=K) rfl (pv 0) (by rfl)))) Ss)) (Jwf (Jke (Jnh rfl) (by rfl) T.Jan Jq4 (So (Jl4 (N:=(["town","names"]:List Str)) (ini:=[none,some 2]) rfl (Jl5 (pv 0)) (λ_ _ _ _ _=>(Jkf (i:=0) (by decide +kernel:(["town","names"]:List Str).Nodup) rfl (ye rfl))) (λ_ _ _ _ _=>Jky) (λ_ _ _ _ _=>(Jmw (Jyp (K:=K) rfl) (Jmh (K:=K) rfl (pv 0) (by rfl)) (pv 1) (by with_unfolding_all rfl)))) Ss)))))
  refine ⟨_,rfl,(show 2<=Sa by decide),λp hp=>⟨_,p,_,_,.type "list",true,rfl,Sv,rfl,.of (.lst (Sn.upd hp _ _ hm)),rfl,_,rfl,Jlb ?_⟩⟩
  have s1:=Sn.upd (o:=.tup [.ty "list",.ty "tuple"]) hp
  refine ⟨_,rfl,m,_,rfl,.inl (Sw.of (s1 _ _ hm)),_,_,rfl,rfl,_,rfl,ifF (by rw [yf];simp;omega) ?_⟩
  refine ⟨_,rfl,m,rfl,⟨_,Sw.of (s1 _ _ hm)⟩,λD hD=>?_⟩
  refine Jle (K:=K) (a:=m) (xs:=ts.map V.ref) (D:=D) (λi σ H'=>∃o,σ= [o]/\H' D=some (.lst ((yw i true).map V.bl))/\Sn (upd H p (.tup [.ty "list",.ty "tuple"])) H') ⟨_,rfl,Sv,Sn.upd hD⟩ (λi σ H' _ ⟨o,_,_,sm⟩=>Sw.of (sm _ _ (s1 _ _ hm))) ?_ ?_
  ·rintro i v σ H' hv ⟨o,rfl,hDs,sm⟩
   obtain ⟨ob,B,rfl,hB,dx,hb⟩:=(tl.same (s1.trans sm)).get hv
   have hi:i < ts.length:=by have:=(yq.mp hv).1;rwa [yf] at this
   refine Jlc ⟨_,rfl,_,_,_,_,true,rfl,rfl,.of (T.Jdt.ty T.Jds hb),T.Jer,_,hDs,?_,_,rfl,?_,λc o z=>?_⟩
   ·rw [yf,ybv]
    exact Jkk (by omega)
   ·rw [Sv,ycv,yt]
    rfl
   ·rw [Sz (Jkb z hD)]
    exact sm _ _ z
  rintro σ H1 ⟨o,rfl,hDs,sm⟩
  refine ⟨D,_,rfl,Sw.of hDs,_,rfl,ifF (by simp) ?_⟩
  have s2:=s1.trans sm
  refine ⟨_,rfl,l,rfl,⟨_,Sw.of (s2 _ _ hl)⟩,λD2 hD2=>?_⟩
  refine Jle (K:=K) (a:=l) (xs:=os.map V.ref) (D:=D2) (λi σ H'=>∃o,σ= [o]/\H' D2=some (.lst (((Bs.take i).map (·.z)).map V.str))/\Sn H1 H') ⟨_,rfl,Sv,Sn.upd hD2⟩ (λi σ H' _ ⟨o,_,_,sm⟩=>Sw.of (sm _ _ (s2 _ _ hl))) ?_ ?_
  ·rintro i v σ H' hv ⟨o,rfl,hDs,sm3⟩
   obtain ⟨ob,B,rfl,hB,dx,hb,gs⟩:=(bl.same (s2.trans sm3)).get hv
   refine Jlc ⟨_,rfl,ob,_,dx,_,_,rfl,hb,T.Jdp,T.Je6,rfl,_,hDs,?_,_,rfl,?_,λc o z=>?_⟩
   ·rw [yf,yf,yah]
    exact Jkk (by omega)
   ·rw [Sv,yan,hB]
    simp
   ·rw [Sz (Jkb z hD2)]
    exact sm3 _ _ z
  rintro σ H2 ⟨o,rfl,hD2s,sm3⟩
  rw [yf,yat (by omega)] at hD2s
  have s3:=s2.trans sm3
  refine ⟨_,rfl,m,rfl,⟨_,Sw.of (s3 _ _ hm)⟩,λD3 hD3=>?_⟩
  refine Jle (K:=K) (a:=m) (xs:=ts.map V.ref) (D:=D3) (λi σ H'=>∃o,σ= [o]/\H' D3=some (.lst (((Ts.take i).map (·.z)).map V.str))/\Sn H2 H') ⟨_,rfl,Sv,Sn.upd hD3⟩ (λi σ H' _ ⟨o,_,_,sm⟩=>Sw.of (sm _ _ (s3 _ _ hm))) ?_ ?_
  ·rintro i v σ H' hv ⟨o,rfl,hDs,sm4⟩
   obtain ⟨ob,B,rfl,hB,dx,hb⟩:=(tl.same (s3.trans sm4)).get hv
   refine Jlc ⟨_,rfl,ob,_,dx,_,_,rfl,hb,T.Jds,T.Jec,rfl,_,hDs,?_,_,rfl,?_,λc o z=>?_⟩
   ·rw [yf,yf,yah]
    exact Jkk (by omega)
   ·rw [Sv,yan,hB]
    simp
   ·rw [Sz (Jkb z hD3)]
    exact sm4 _ _ z
  rintro σ H3 ⟨o,rfl,hD3s,sm4⟩
  rw [yf,yat (by omega)] at hD3s
  refine ⟨D3,Ts.map (·.z),rfl,Sw.of hD3s,by rw [yf];omega,λH4 s4=>⟨_,rfl,ifT (by rw [Jxz nd,decide_eq_true rfl]) ?_⟩⟩
  have s5:=(s3.trans sm4).trans s4
  have hD24:=s4 _ _ (sm4 _ _ hD2s)
  refine ⟨_,rfl,m,rfl,⟨_,Sw.of (s5 _ _ hm)⟩,λD4 hD4=>?_⟩
  refine Jle (K:=K) (a:=m) (xs:=ts.map V.ref) (D:=D4) (λi σ H'=>∃o,σ= [o,some (.ref D2)]/\H' D4=some (.lst ((yw i true).map V.bl))/\Sn H4 H') ⟨_,rfl,Sv,Sn.upd hD4⟩ (λi σ H' _ ⟨o,_,_,sm⟩=>Sw.of (sm _ _ (s5 _ _ hm))) ?_ ?_
  ·rintro i v σ H' hv ⟨o,rfl,hDs,sm6⟩
   obtain ⟨ob,B,rfl,hB,dx,hb⟩:=(tl.same (s5.trans sm6)).get hv
   have hi:i < ts.length:=by have:=(yq.mp hv).1;rwa [yf] at this
   refine Jlc ⟨_,rfl,ob,_,dx,_,_,rfl,hb,T.Jds,T.Jed,rfl,_,rfl,D2,_,rfl,.inl (Sw.of (sm6 _ _ hD24)),rfl,by simp [Jpw],?_⟩
   have e:inV (V.str B.b) ((Bs.map (·.z)).map V.str)=true:=by
    obtain ⟨z,hz,ez⟩:=ybc.mp (inn B (yad hB))
    unfold inV
    refine ycm.mpr ⟨V.str z.z,ybc.mpr ⟨z.z,ybc.mpr ⟨z,hz,rfl⟩,rfl⟩,?_⟩
    simp [eqV,ez]
   show ∃ys,_
   rw [if_neg yz,e]
   refine ⟨_,hDs,?_,_,rfl,?_,λc o z=>?_⟩
   ·rw [yf,ybv]
    exact Jkk (by omega)
   ·rw [Sv,ycv,yt]
    rfl
   ·rw [Sz (Jkb z hD4)]
    exact sm6 _ _ z
  rintro σ H5 ⟨o,rfl,hD4s,sm6⟩
  refine ⟨D4,_,rfl,Sw.of hD4s,?_⟩
  rw [show (yw (ts.map V.ref).length true).all id=true by simp]
  exact k _ (s5.trans sm6)
theorem Jpp:Jkd ["self","thing"] ["self","thing"] (Jk9 (Jkn (top 7) 0)):=⟨rfl,rfl,rfl,by decide +kernel,rfl,by decide +kernel,by decide +kernel⟩
theorem Jsd (T:Tx K mg a):Sx P w K mg base CX0 1 a.Jfc a.Jfd ["self","thing"] (Jo3 K "thing"):=by
 refine T.Jc7.fn.ok Jpp (λvs H Q E h=>?_) (λcdv A outer s H vs Q E hr h=>?_)
 ·obtain ⟨e,C,W,fI,y,rfl,_⟩:=h
  rfl
 ·obtain ⟨e,C,W,fI,y,rfl,q,c,n,k⟩:=h
  refine ⟨_,(Jk7 (Jny (pv 0) (pv 1) rfl)),?_⟩
  exact ⟨_,rfl,_,rfl,e,C,W,fI,true,rfl,q,c,n,k⟩
theorem Jpq:Jkd ["self","thing"] ["self","thing"] (Jk9 (Jkn (top 8) 0)):=⟨rfl,rfl,rfl,by decide +kernel,rfl,by decide +kernel,by decide +kernel⟩
theorem Jse (T:Tx K mg a):Sx P w K mg base CX0 1 a.Jfe a.Jff ["self","thing"] (Jo3 K "thing"):=by
 refine T.Jc8.fn.ok Jpq (λvs H Q E h=>?_) (λcdv A outer s H vs Q E hr h=>?_)
 ·obtain ⟨e,C,W,fI,y,rfl,_⟩:=h
  rfl
 ·obtain ⟨e,C,W,fI,y,rfl,q,c,n,k⟩:=h
  refine ⟨_,(Jk7 (Jny (pv 0) (pv 1) rfl)),?_⟩
  exact ⟨_,rfl,_,rfl,e,C,W,fI,true,rfl,q,c,n,k⟩
theorem Jxx {H:Hp} {p q:S5} {o u:HO} (h:p≠q):upd (upd H p o) q u=upd (upd H q u) p o:=by
 funext c
 by_cases h1:c=p
 ·subst h1
  rw [Sv,Sz h,Sv]
 ·rw [Sz h1]
  by_cases h2:c=q
  ·subst h2
   rw [Sv,Sv]
  ·rw [Sz h2,Sz h2,Sz h1]
def Sjd (c g b t:V):List (Str×V):=[("cloud",c),("gain",g),("basins",b),("towns",t)]
def Yeh (K:Si) (a:Ad):Sp:=λvs H Q _=>∃(p dx l m:S5) (c g:Int) (os ts:List S5) (Bs:List Bsn) (Ts:List Twn),vs= [.ref p,.int c,.int g,.ref l,.ref m]/\H p=some (.ins a.Jjy dx [])/\(0<=c/\c<=12)/\(0<=g/\g<=c)/\H l=some (.lst (os.map V.ref))/\Sdw K a H os Bs/\(1<=Bs.length/\Bs.length<=16)/\(Bs.map (·.z)).Nodup/\H m=some (.lst (ts.map V.ref))/\Sf2 a H ts Ts/\Ts.length<=3/\(Ts.map (·.z)).Nodup/\(∀t∈Ts,t.b∈Bs.map (·.z))/\∀H' b t,Sn H H'->H' b=some (.tup (os.map V.ref))->H' t=some (.tup (ts.map V.ref))->b≠p->t≠p->Q .non (upd H' p (.ins a.Jjy dx (Sjd (.int c) (.int g) (.ref b) (.ref t))))
theorem Jlz {i lo hi:Int} (h1:lo<=i) (h2:i<=hi):Jl2 (.int i) lo hi=true:=by
 show (decide (lo<=i)&&decide (i<=hi))=true
 rw [decide_eq_true h1,decide_eq_true h2]
 rfl
theorem Jr7:Jkd ["self","cloud","gain","basins","towns"] ["self","cloud","gain","basins","towns"] (Jk9 (Jkn (top 64) 0)):=⟨rfl,rfl,rfl,by decide +kernel,rfl,by decide +kernel,by decide +kernel⟩
theorem Ju4 (T:Tx K mg a):Sx P w K mg base (CXX P w) 4 a.Jhu a.Jhv ["self","cloud","gain","basins","towns"] (Yeh K a):=by
 have Sa5:=Jm0 (P:=P) (w:=w) (base:=base) T
 have Sfl:=Ju5 (P:=P) (w:=w) (base:=base) T
 have Sg8:=Jw1 (P:=P) (w:=w) (base:=base) T
 have Sbu:=Jsd (P:=P) (w:=w) (base:=base) T
 have Sbv:=Jse (P:=P) (w:=w) (base:=base) T
 refine T.Jcq.fn.okX Jr7 (λvs H Q E h=>?_) (λcdv A outer s H vs Q E hr h=>?_)
 ·obtain ⟨p,dx,l,m,c,g,os,ts,Bs,Ts,rfl,_⟩:=h
  rfl
 ·obtain ⟨p,dx,l,m,c,g,os,ts,Bs,Ts,rfl,hp,hc,hg,hl,bl,hn,nd,hm,tl,tn,tnd,inn,k⟩:=h
  refine ⟨?t,?B,?C⟩
  case B=>
   refine' Jk6 ?a ?b
   case a=>
    refine' Jku ?c ?d ?e
    case c=>exact (Jl3 (Jkx (Jkc T.J0 Sa5 hr (by decide) (So (pv 1) (So Sy (So (Jlf (by rfl) T.Jak (v:=.int 12) ⟨_,rfl⟩) Ss))))))
    case d=>
     refine' Jk7 ?f
     case f=>exact (Jll Jlp rfl (Jmn T.Jcv Sbu hr (by decide) T.Jc7.bd T.Jb8 (So (pv 1) Ss)))
    case e=>exact Jki
   case b=>
   refine' Jk6 ?g ?h
   case g=>
    refine' Jku ?i ?j ?k
    case i=>exact (Jl3 (Jkx (Jkc T.J0 Sa5 hr (by decide) (So (pv 2) (So Sy (So (pv 1) Ss))))))
    case j=>
     refine' Jk7 ?l
     case l=>exact (Jll Jlp rfl (Jmn T.Jcv Sbu hr (by decide) T.Jc7.bd T.Jb8 (So (pv 2) Ss)))
    case k=>exact Jki
   case h=>
   refine' Jk6 ?m ?n
   case m=>
    refine' Jku ?o ?p ?q
    case o=>exact (Jl3 (Jkx (Jkc T.Jo Sfl hr (by decide) (So (pv 3) Ss))))
    case p=>
     refine' Jk7 ?r
     case r=>exact (Jll Jlp rfl (Jmn T.Jcw Sbv hr (by decide) T.Jc8.bd T.Jb9 (So (pv 3) Ss)))
    case q=>exact Jki
   case n=>
   refine' Jk6 ?s ?u
   case s=>
    refine' Jku ?v ?w ?x
    case v=>exact (Jl3 (Jkx (Jkc T.Jp Sg8 hr (by decide) (So (pv 4) (So (pv 3) Ss)))))
    case w=>
     refine' Jk7 ?y
     case y=>exact (Jll Jlp rfl (Jmn T.Jcw Sbv hr (by decide) T.Jc8.bd T.Jb9 (So (pv 4) Ss)))
    case x=>exact Jki
   case u=>
   refine' Jk6 ?z ?a0
   case z=>exact (Jmo (pv 0) (pv 1) rfl)
   case a0=>
   refine' Jk6 ?b0 ?c0
   case b0=>exact (Jmo (pv 0) (pv 2) rfl)
   case c0=>
   refine' Jk6 ?d0 ?e0
   case d0=>exact (Jmo (pv 0) (Jla Jlt (by rfl) T.Jb2 Jm3 (So (pv 3) Ss)) rfl)
   case e0=>
   refine' Jk7 ?f0
   case f0=>exact (Jmo (pv 0) (Jla Jlt (by rfl) T.Jb2 Jm3 (So (pv 4) Ss)) rfl)
  refine ⟨_,rfl,_,0,12,rfl,.inl ⟨_,rfl⟩,_,rfl,ifF (by rw [Jlz hc.1 hc.2];rfl) ?_⟩
  refine ⟨_,rfl,_,rfl,_,0,c,rfl,.inl ⟨_,rfl⟩,_,rfl,ifF (by rw [Jlz hg.1 hg.2];rfl) ?_⟩
  refine ⟨_,rfl,l,os,Bs,rfl,hl,bl,hn,nd,λH1 s1=>⟨_,rfl,Jlb ?_⟩⟩
  refine ⟨_,rfl,_,rfl,l,m,os,ts,Bs,Ts,rfl,s1 _ _ hl,bl.same s1,hn.2,s1 _ _ hm,tl.same s1,tn,tnd,inn,λH2 s2=>⟨_,rfl,Jlb ?_⟩⟩
  have s3:=s1.trans s2
  have hp2:=s3 _ _ hp
  refine ⟨_,rfl,_,rfl,p,_,dx,[],rfl,hp2,T.Jdu,T.Jee,by simp,?_⟩
  rw [show Jmp "cloud" (.int c) []=([("cloud",.int c)]:List (Str×V)) from rfl]
  refine ⟨_,rfl,_,rfl,p,_,dx,_,rfl,Sv,T.Jdu,T.Jef,by simp,?_⟩
  rw [show Jmp "gain" (.int g) [("cloud",.int c)]=([("cloud",.int c),("gain",.int g)]:List (Str×V)) from Jmy (fs:=[("cloud",.int c)]) (show (["cloud"]:List Str).contains "gain" =false by decide +kernel),Jn8]
  have nl:l≠p:=λe=>by subst e;rw [hl] at hp;cases hp
  have nm:m≠p:=λe=>by subst e;rw [hm] at hp;cases hp
  refine ⟨_,rfl,l,_,rfl,.inl ⟨Sw.of (by rw [Sz nl];exact s3 _ _ hl),λb hb=>?_⟩⟩
  have nb:b≠p:=λe=>by subst e;rw [Sv] at hb;cases hb
  rw [Sz nb] at hb
  rw [Jxx nb.symm]
  refine ⟨_,rfl,p,_,dx,_,rfl,Sv,T.Jdu,T.Jeg,by simp,?_⟩
  rw [show Jmp "basins" (.ref b) [("cloud",.int c),("gain",.int g)]=([("cloud",.int c),("gain",.int g),("basins",.ref b)]:List (Str×V)) from Jmy (fs:=[("cloud",.int c),("gain",.int g)]) (show (["cloud","gain"]:List Str).contains "basins" =false by decide +kernel),Jn8]
  have s4:=s3.trans (Sn.upd (o:=.tup (os.map V.ref)) hb)
  refine ⟨_,rfl,m,_,rfl,.inl ⟨Sw.of (by rw [Sz nm];exact s4 _ _ hm),λt ht=>?_⟩⟩
  have nt:t≠p:=λe=>by subst e;rw [Sv] at ht;cases ht
  rw [Sz nt] at ht
  rw [Jxx nt.symm]
  refine ⟨_,rfl,p,_,dx,_,rfl,Sv,T.Jdu,T.Jeh,by simp,?_⟩
  rw [show Jmp "towns" (.ref t) [("cloud",.int c),("gain",.int g),("basins",.ref b)]=(Sjd (.int c) (.int g) (.ref b) (.ref t)) from Jmy (fs:=[("cloud",.int c),("gain",.int g),("basins",.ref b)]) (show (["cloud","gain","basins"]:List Str).contains "towns" =false by decide +kernel),Jn8]
  have s5:=Sn.upd (o:=.tup (ts.map V.ref)) ht
  exact k _ b t (s4.trans s5) (s5 _ _ Sv) Sv nb nt
def Sdh (H:Hp) (t:S5) (B:BTd):Prop:=∃m:S5,H t=some (.tup [.str B.z,.int B.lo,.int B.hi,.int B.st,.int B.rn,.str B.G.kd,.ref m])/\H m=some (.lst (B.G.ns.map V.int))/\B.G.sv=none
theorem Sdh.same {H H':Hp} {t:S5} {B:BTd} (s:Sn H H') (h:Sdh H t B):Sdh H' t B:=by obtain ⟨m,h1,h2,h3⟩:=h;exact ⟨m,s _ _ h1,s _ _ h2,h3⟩
def Ye7:Sp:=λvs H Q _=>∃(t:S5) (B:BTd) (s lv:Int),vs= [.ref t,.int s,.int lv]/\Sdh H t B/\Sbt B.G/\(0<=s/\s < (nOf B.G:Int))/\(0<=lv/\lv<=1000)/\Q (.int (lvG B.G s lv)) H
theorem Sdv:Jkd ["_law_told","_law_setting","_law_level","_law_mark"] ["_law_told","_law_setting","_law_level"] (Jk9 (top 73)):=⟨rfl,rfl,rfl,by decide +kernel,rfl,by decide +kernel,by decide +kernel⟩
theorem Js6 (T:Tx K mg a):Sx P w K mg base CX0 1 a.Jic a.Jid ["_law_told","_law_setting","_law_level"] Ye7:=by
 refine T.Jx.fn.ok Sdv (λvs H Q E h=>?_) (λcdv A outer s H vs Q E hr h=>?_)
 ·obtain ⟨t,B,s,lv,rfl,_⟩:=h
  rfl
 ·obtain ⟨t,B,s,lv,rfl,⟨m,ht,hm,sv⟩,gg,hs,hl,k⟩:=h
  have hs':0<=s/\s < B.G.ns.length:=by unfold nOf at hs;rw [sv] at hs;exact hs
  obtain ⟨hat,hin⟩:=Joj hs'
  have hmk:=gg.marks _ hin
  have e:lvG B.G s lv=Jpz B.G.kd (B.G.ns.getD s.toNat 0) lv:=by unfold lvG;rw [sv]
  rw [e] at k
  refine ⟨?t,?B,?C⟩
  case B=>
   refine' Jk6 ?a ?b
   case a=>exact (Jkh (i:=3) Sdv.nd rfl (ye rfl) (Jkm Jks (Jkm Jkw (pv 0) Sy (λ_ _=>rfl)) (pv 1) (λ_ _=>rfl)))
   case b=>
   refine' Jk6 ?c ?d
   case c=>
    refine' Jku ?e ?f ?g
    case e=>exact (Jkr Jnw (Jkm Jkw (pv 0) Sy (λ_ _=>rfl)) Jlk (Jkt _))
    case f=>
     refine' Jk7 ?h
     case h=>exact (Jkg (Jke (Jpf rfl) (by rfl) T.Jax Jvm (So (pv 3) (So (pv 2) Ss))))
    case g=>exact Jki
   case d=>
   refine' Jk6 ?i ?j
   case i=>
    refine' Jku ?k ?l ?m
    case k=>exact (Jkr Jnw (Jkm Jkw (pv 0) Sy (λ_ _=>rfl)) Jlk (Jkt _))
    case l=>
     refine' Jk7 ?n
     case n=>exact (Jkg (Jke (Jng rfl) (by rfl) T.Jaw Jri (So Sy (So (Jkl Jm9 (pv 2) (pv 3)) Ss))))
    case m=>exact Jki
   case j=>
   refine' Jk7 ?o
   case o=>exact (Jkg (Jkl Joc (pv 2) (pv 3)))
  refine ⟨_,rfl,t,_,6,_,rfl,rfl,SqT.of ht,rfl,_,rfl,m,_,s,_,rfl,rfl,Sw.of hm,hat,?_⟩
  generalize B.G.ns.getD s.toNat 0=mk at k hmk
  have kd:=gg.kd
  refine ⟨_,rfl,t,_,5,_,rfl,rfl,SqT.of ht,rfl,?_⟩
  rcases kd with kd|kd|kd
  ·rw [kd] at k⊢
   refine ⟨rfl,_,rfl,Yc rfl ?_⟩
   exact ⟨_,rfl,_,rfl,_,_,rfl,k⟩
  ·rw [kd] at k⊢
   refine ⟨rfl,_,rfl,Ju2 (Jtt Jqv) ?_⟩
   refine ⟨_,rfl,t,_,5,_,rfl,rfl,SqT.of ht,by rw [kd];rfl,rfl,_,rfl,Yc rfl ?_⟩
   refine ⟨_,rfl,_,rfl,_,_,rfl,rfl,_,_,rfl,?_⟩
   have e2:(if lv - mk > 0 then lv - mk else 0)=Jpz "flap" mk lv:=by
    unfold Jpz
    rw [if_neg Jqv,if_pos rfl]
    split <;> split <;> omega
   show Q (.int (if lv - mk > 0 then lv - mk else 0)) H
   rw [e2]
   exact k
  ·rw [kd] at k⊢
   refine ⟨rfl,_,rfl,Ju2 (Jtt Js5) ?_⟩
   refine ⟨_,rfl,t,_,5,_,rfl,rfl,SqT.of ht,by rw [kd];rfl,rfl,_,rfl,Ju2 (Jtt Jqw) ?_⟩
   have m1:1<=mk/\mk<=12:=by
    rw [kd] at hmk
    exact hmk
   exact ⟨_,rfl,_,rfl,_,_,rfl,rfl,⟨by omega,Jx7 (by omega)⟩,k⟩
def Ye5 (a:Ad):Sp:=λvs H Q _=>∃(m:S5) (kd:Str) (ns:List Int),vs= [.str kd,.ref m]/\H m=some (.lst (ns.map V.int))/\Sbt ⟨kd,ns,none⟩/\∀(g:S5) (H':Hp),Sn H H'->Sbg (cOf a kd) H' g (ns.map V.int)->Q (.ref g) H'
theorem Jxo:Jkd ["_law_kind","_law_marks_here"] ["_law_kind","_law_marks_here"] (Jk9 (top 71)):=⟨rfl,rfl,rfl,by decide +kernel,rfl,by decide +kernel,by decide +kernel⟩
theorem Jxb (T:Tx K mg a):Sx P w K mg base CX0 6 a.Ji8 a.Ji9 ["_law_kind","_law_marks_here"] (Ye5 a):=by
 have Sb3:=Job (P:=P) (w:=w) (base:=base) T
 have Sb0:=Jo8 (P:=P) (w:=w) (base:=base) T
 have Sb2:=Joa (P:=P) (w:=w) (base:=base) T
 refine T.Jv.fn.ok Jxo (λvs H Q E h=>?_) (λcdv A outer s H vs Q E hr h=>?_)
 ·obtain ⟨m,kd,ns,rfl,_⟩:=h
  rfl
 ·obtain ⟨m,kd,ns,rfl,hm,gg,k⟩:=h
  have hkd:Knd kd:=gg.kd
  have har:Jmc (Jn0 kd) (ns.map V.int)=true:=gg.ns
  refine ⟨?t,?B,?C⟩
  case B=>
   refine' Jk6 ?a ?b
   case a=>
    refine' Jku ?c ?d ?e
    case c=>exact (Jkr Jnw (pv 0) Jlk (Jkt _))
    case d=>
     refine' Jk7 ?f
     case f=>exact (Jkg (Jmi T.Jd3 Sb3.calm (hr.mono (by decide)) (by rfl) T.Jbe T.Jcd.bd .nil Jnm (So (pv 1) Ss)))
    case e=>exact Jki
   case b=>
   refine' Jk6 ?g ?h
   case g=>
    refine' Jku ?i ?j ?k
    case i=>exact (Jkr Jnw (pv 0) Jlk (Jkt _))
    case j=>
     refine' Jk7 ?l
     case l=>exact (Jkg (Jmi T.Jd9 Sb0.calm (hr.mono (by decide)) (by rfl) T.Jbf T.Jcg.bd .nil Jnm (So (pv 1) Ss)))
    case k=>exact Jki
   case h=>
   refine' Jk7 ?m
   case m=>exact (Jkg (Jmi T.Jdf Sb2.calm (hr.mono (by decide)) (by rfl) T.Jbg T.Jcj.bd .nil Jnm (So (pv 1) Ss)))
  rcases hkd with rfl|rfl|rfl
  ·have e1:Jn0 "step" =0:=if_neg Sk5
   have e2:cOf a "step" =a.Jjs:=if_pos rfl
   have hr':Jmc (0) (ns.map V.int)=true:=by rw [<-e1];exact har
   refine ⟨_,rfl,rfl,_,rfl,Yc rfl ⟨_,rfl,λg dx hg hd ne=>Jo7 T.Jd1 T.Je1 hg hd ne ⟨ns.map V.int,.lst hm,λy hy=>Jpm hy,hr',λH' s' ga=>?_⟩⟩⟩
   exact k g H' s' (by rw [e2];exact ga)
  ·have e1:Jn0 "flap" =0:=if_neg Ybd
   have e2:cOf a "flap" =a.Jjt:=by unfold cOf;rw [if_neg Jqv,if_pos rfl]
   have hr':Jmc (0) (ns.map V.int)=true:=by rw [<-e1];exact har
   refine ⟨_,rfl,rfl,_,rfl,Ju2 (Jtt Jqv) ⟨_,rfl,rfl,_,rfl,Yc rfl ⟨_,rfl,λg dx hg hd ne=>Jo7 T.Jd7 T.Je2 hg hd ne ⟨ns.map V.int,.lst hm,λy hy=>Jpm hy,hr',λH' s' ga=>?_⟩⟩⟩⟩
   exact k g H' s' (by rw [e2];exact ga)
  ·have e1:Jn0 "part" =1:=if_pos rfl
   have e2:cOf a "part" =a.Jju:=by unfold cOf;rw [if_neg Js5,if_neg Jqw]
   have hr':Jmc (1) (ns.map V.int)=true:=by rw [<-e1];exact har
   refine ⟨_,rfl,rfl,_,rfl,Ju2 (Jtt Js5) ⟨_,rfl,rfl,_,rfl,Ju2 (Jtt Jqw) ⟨_,rfl,λg dx hg hd ne=>Jo7 T.Jdd T.Je3 hg hd ne ⟨ns.map V.int,.lst hm,λy hy=>Jpm hy,hr',λH' s' ga=>?_⟩⟩⟩⟩
   exact k g H' s' (by rw [e2];exact ga)
structure TGd (B:BTd):Prop where
 b:BGd B
 st:B.lo<=B.st/\B.st<=B.hi
 nm:Js4 B.z=true
 wd:Wd 50 B.z
def Ye9 (a:Ad):Sp:=λvs H Q _=>∃(t:S5) (B:BTd),vs= [.ref t]/\Sdh H t B/\TGd B/\∀(o:S5) (H':Hp),Sn H H'->BX a H' o B->Q (.ref o) H'
theorem GS.gti {H:Hp} {x:V} {n:Nat} (T:Tx K mg a) (g:GS K a H x n):GtI K a H x true:=by
 cases g with
 |plain i ga l=>
  obtain ⟨dx,t,h1,h2⟩:=ga
  rcases i with rfl|rfl|rfl
  ·exact ⟨_,.of (T.Jd2.ty T.Jd1 h1),T.Jem,T.Jew,_,T.Jes,λ_=>rfl,by intro w';cases w'⟩
  ·exact ⟨_,.of (T.Jd8.ty T.Jd7 h1),T.Jen,T.Jex,_,T.Jet,λ_=>rfl,by intro w';cases w'⟩
  ·exact ⟨_,.of (T.Jde.ty T.Jdd h1),T.Jeo,T.Jey,_,T.Jeu,λ_=>rfl,by intro w';cases w'⟩
 |stuck h1=>exact ⟨_,.of (T.Jdk.ty T.Jdj h1),T.Jep,T.Jez,_,T.Jev,λ_=>rfl,by intro w';cases w'⟩
theorem Jxp:Jkd ["_law_told"] ["_law_told"] (Jk9 (top 72)):=⟨rfl,rfl,rfl,by decide +kernel,rfl,by decide +kernel,by decide +kernel⟩
theorem Jxd (T:Tx K mg a):Sx P w K mg base CX0 7 a.Jia a.Jib ["_law_told"] (Ye9 a):=by
 have Sg4:=Jxb (P:=P) (w:=w) (base:=base) T
 have Sbf:=Jpx (P:=P) (w:=w) (base:=base) T
 refine T.Jw.fn.ok Jxp (λvs H Q E h=>?_) (λcdv A outer s H vs Q E hr h=>?_)
 ·obtain ⟨t,B,rfl,_⟩:=h
  rfl
 ·obtain ⟨t,B,rfl,⟨m,ht,hm,sv⟩,tg,k⟩:=h
  have bg:=tg.b
  have gg:Sbt ⟨B.G.kd,B.G.ns,none⟩:=by
   have e:B.G=⟨B.G.kd,B.G.ns,none⟩:=by
    cases hG:B.G with
    |mk kd ns sv'=>
     rw [hG] at sv
     cases sv
     rfl
   rw [<-e]
   exact bg.G
  refine ⟨?t,?B,?C⟩
  case B=>
   refine' Jk7 ?a
   case a=>
   refine' Jkg ?b
   case b=>exact (Jmi T.Jdr Sbf.calm (hr.mono (by decide)) (by rfl) T.Jbi T.Jcp.bd .nil Jnm (pa6 (Jkm Jkw (pv 0) Sy (λ_ _=>rfl)) (Jkm Jkw (pv 0) Sy (λ_ _=>rfl)) (Jkm Jkw (pv 0) Sy (λ_ _=>rfl)) (Jkm Jkw (pv 0) Sy (λ_ _=>rfl)) (Jkm Jkw (pv 0) Sy (λ_ _=>rfl)) (Jkc T.Jv Sg4 hr (by decide) (So (Jkm Jkw (pv 0) Sy (λ_ _=>rfl)) (So (Jkm Jkw (pv 0) Sy (λ_ _=>rfl)) Ss)))))
  refine ⟨_,rfl,t,_,0,_,rfl,rfl,SqT.of ht,rfl,_,rfl,t,_,1,_,rfl,rfl,SqT.of ht,rfl,_,rfl,t,_,2,_,rfl,rfl,SqT.of ht,rfl,_,rfl,t,_,3,_,rfl,rfl,SqT.of ht,rfl,_,rfl,t,_,4,_,rfl,rfl,SqT.of ht,rfl,?_⟩
  refine ⟨_,rfl,t,_,5,_,rfl,rfl,SqT.of ht,rfl,_,rfl,t,_,6,_,rfl,rfl,SqT.of ht,rfl,m,B.G.kd,B.G.ns,rfl,hm,gg,λg H1 s1 ga=>?_⟩
  have gx:GX a H1 (.ref g) B.G:=by
   refine ⟨g,ga,?_⟩
   rw [sv]
  have gs:GS K a H1 (.ref g) (nOf B.G):=gx.gs bg.G
  intro x dx hx1 hd1 ne
  have sn:Sn H1 (upd (upd H1 dx (.own x)) x (.ins a.Jjw dx [])):=λb o e=>by rw [Sz (Jkb e hx1),Sz (Jkb e hd1)];exact e
  have b1:=bg.lo
  have b2:=bg.hi
  have b3:=bg.rn
  have b4:=tg.st
  refine ⟨x,dx,.str B.z,.int B.lo,.int B.hi,.int B.st,.int B.rn,.ref g,true,none,rfl,Sv,⟨.inr ⟨_,.of (.str B.z),rfl⟩,λy e=>by cases e;exact tg.wd⟩,.inl ⟨_,rfl⟩,.inl ⟨_,rfl⟩,.inl ⟨_,rfl⟩,.inl ⟨_,rfl⟩,(gs.gti T).same sn,.good B.lo B.hi tg.nm rfl rfl (Jlz (by omega) (by omega)) (Jlz (by omega) (by omega)) (Jlz b4.1 b4.2) (Jlz (by omega) (by omega)) rfl,λH2 s2=>⟨rfl,?_⟩⟩
  have s3:Sn H1 (upd H2 x (.ins a.Jjw dx (Sie (.str B.z) (.int B.lo) (.int B.hi) (.int B.st) (.int B.rn) (.ref g)))):=λb o e=>by rw [Sz (Jkb e hx1)];exact s2 _ _ (sn _ _ e)
  exact k x _ (s1.trans s3) ⟨dx,_,Sv,gx.same s3⟩
theorem Jr8 {t1 t2:TS} {D:Sbs} {σ:L2.St} {H:Hp} (Mid:L2.St->Hp->Prop) (h1:∀R,(∀σ H,Mid σ H->R σ H)->t1 {D with nx:=R} σ H) (h2:∀σ H,Mid σ H->t2 D σ H):Jxu t1 t2 D σ H:=h1 _ h2
theorem Sk2 (z:Str):(if decide (V.str z=V.str ("part" :Str))=true then (1:Int) else 0)=Jn0 z:=by
 unfold Jn0
 by_cases h:z=("part" :Str)
 ·rw [if_pos h,if_pos (decide_eq_true (by rw [h]))]
 ·rw [if_neg h,if_neg (by rw [decide_eq_false (Jtt h)];decide)]
theorem Sk1 (z:Str):Jn0 z=0\/Jn0 z=1:=by
 unfold Jn0
 split
 ·exact .inr rfl
 ·exact .inl rfl
theorem Jnu:∀(ns:List Int) (lo:Int),ns.Pairwise (· < ·)->(∀n∈ns,lo<=n/\n<=12)->Jl9 lo (ns.map V.int)=true:=by
 intro ns
 induction ns with
 |nil=>intro lo _ _;rfl
 |cons x r ih=>
  intro lo h b
  have hx:=b x (yar ..)
  obtain ⟨h1,h2⟩:=List.pairwise_cons.mp h
  have q:=ih (x+1) h2 λn hn=>⟨by have:=h1 n hn;omega,(b n (yaq _ hn)).2⟩
  show ((decide (lo<=x)&&decide (x<=12))&&Jl9 (x+1) (r.map V.int))=true
  rw [decide_eq_true hx.1,decide_eq_true hx.2,q]
  rfl
theorem Yg:∀(ns:List Int) (lo:Int),Jl9 lo (ns.map V.int)=true->∀n∈ns,lo<=n/\n<=12:=by
 intro ns
 induction ns with
 |nil=>intro lo _ n hn;simp at hn
 |cons x r ih=>
  intro lo h n hn
  have h':((decide (lo<=x)&&decide (x<=12))&&Jl9 (x+1) (r.map V.int))=true:=h
  rw [yag,yag,decide_eq_true_eq,decide_eq_true_eq] at h'
  rcases yn.mp hn with rfl|hn
  ·exact h'.1
  ·have:=ih _ h'.2 n hn
   omega
theorem St8 (ns:List Int):Jm7 (ns.map V.int) none (some 4)=(ns.take 4).map V.int:=by
 unfold Jm7
 rw [HT.sIx_none,show (some (4:Int))=some ((4:Nat):Int) from rfl,HT.sIx_nat,yf,List.drop_zero,Nat.sub_zero,List.map_take]
 by_cases h:4<=ns.length
 ·rw [Nat.min_eq_left h]
 ·rw [Nat.min_eq_right (by omega),yat (by rw [yf];exact yg _),yat (by rw [yf];omega)]
theorem Jyg {lo:Int} {ns zs:List Int} (h0:0<=lo) (h1:lo<=1) (hm:Jmc lo (zs.map V.int)=true) (hp:ns.Pairwise (· < ·)) (hi:∀n,n∈ns↔n∈zs++ [lo]):Jmc lo ((ns.take 4).map V.int)=true:=by
 unfold Jmc at hm⊢
 rw [yag] at hm
 have mb:=Yg zs lo hm.2
 have all:∀n∈ns,lo<=n/\n<=12:=λn hn=>by
  rcases ybf.mp ((hi n).mp hn) with h|h
  ·exact mb n h
  ·have:=ybd.mp h
   omega
 have ne:1<=ns.length:=by
  have:lo∈ns:=(hi lo).mpr (ybf.mpr (.inr (ybd.mpr rfl)))
  cases ns with
  |nil=>simp at this
  |cons _ _=>simp
 rw [yag]
 refine ⟨decide_eq_true ?_,Jnu _ _ (hp.sublist (List.take_sublist 4 ns)) λn hn=>all n (List.mem_of_mem_take hn)⟩
 rw [yf,yah]
 omega
def Sdi (H:Hp) (t m:S5) (B:BTd):Prop:=H t=some (.tup [.str B.z,.int B.lo,.int B.hi,.int B.st,.int B.rn,.str B.G.kd,.ref m])/\H m=some (.lst (B.G.ns.map V.int))/\B.G.sv=none
theorem Sdi.at {H:Hp} {t m:S5} {B:BTd} (h:Sdi H t m B):Sdh H t B:=⟨m,h⟩
theorem Sdi.but {p t m:S5} {H H':Hp} {B:BTd} (st:Sbo H p) (b:But p H H') (hm:m≠p) (h:Sdi H t m B):Sdi H' t m B:=⟨b.1 _ _ (Jpj st h.1 (λ_ _ _ z=>by cases z)) h.1,b.1 _ _ hm h.2.1,h.2.2⟩
theorem Sdi.same {t m:S5} {H H':Hp} {B:BTd} (s:Sn H H') (h:Sdi H t m B):Sdi H' t m B:=⟨s _ _ h.1,s _ _ h.2.1,h.2.2⟩
theorem Ycq {zs:List Str} {s:Int} (h:0<=s/\s < zs.length):∃z,atI (zs.map V.str) s=some (.str z)/\z∈zs:=by
 obtain ⟨i,rfl⟩:=ycp h.1
 have hi:i < zs.length:=by omega
 exact ⟨zs[i],Jl8 (by rw [ym,yp hi];rfl),ycg hi⟩
theorem Jv1 {i:Int} (h0:0<=i) (h:i<=1000):i.natAbs.log2 < 9000:=Jx7 (by omega)
def Jxt:Sp:=λvs H Q _=>∃(p:S5) (z:Str),vs= [.ref p,.str z]/\Sbo H p/\Js4 z=true/\Wd 50 z/\∀(t m:S5) (B:BTd) (H':Hp),But p H H'->m≠p->Sdi H' t m B->TGd B->B.z=z->Q (.ref t) H'
theorem Sai:Jkd ["_law_stream_here","_law_name","_law_low","_law_high","_law_start","_law_kind","_law_marks_here"] ["_law_stream_here","_law_name"] (Jk9 (top 70)):=⟨rfl,rfl,rfl,by decide +kernel,rfl,by decide +kernel,by decide +kernel⟩
theorem Jw3 (T:Tx K mg a):Sx P w K mg base CX0 3 a.Ji6 a.Ji7 ["_law_stream_here","_law_name"] Jxt:=by
 have Sr:=Jm8 (P:=P) (w:=w) (base:=base) T
 have Sfi:=Jw7 (P:=P) (w:=w) (base:=base) T
 refine T.Ju.fn.ok Sai (λvs H Q E h=>?_) (λcdv A outer s H vs Q E hr h=>?_)
 ·obtain ⟨p,z,rfl,_⟩:=h
  rfl
 ·obtain ⟨p,z,rfl,st,nm,wd,k⟩:=h
  refine ⟨?t,?B,?C⟩
  case B=>
   refine' Jk6 ?a ?b
   case a=>exact (Jkh (i:=2) Sai.nd rfl (ye rfl) (Jkc T.Js Sr hr (by decide) (So (pv 0) (So (Jkm Jks (Jl1 (So Sy (So Sy (So Sy Ss)))) (Jkc T.Js Sr hr (by decide) (So (pv 0) (So Sy Ss))) (λ_ _=>rfl)) Ss))))
   case b=>
   refine' Jk6 ?c ?d
   case c=>exact (Jkh (i:=3) Sai.nd rfl (ye rfl) (Jkl Jl0 (pv 2) (Jkc T.Js Sr hr (by decide) (So (pv 0) (So (Jkl Jm9 Sy (pv 2)) Ss)))))
   case d=>
   refine' Jk6 ?e ?f
   case e=>
    refine' Jku ?g ?h ?i
    case g=>exact (Jkr Jxe (Jkc T.Js Sr hr (by decide) (So (pv 0) (So Sy Ss))) Sy (Jkt _))
    case h=>
     refine' Jk7 ?j
     case j=>exact (Jkh (i:=3) Sai.nd rfl (ye rfl) (Jke (Jng rfl) (by rfl) T.Jaw Jri (So (pv 3) (So (Jkl Jm9 Sy (Jkc T.Js Sr hr (by decide) (So (pv 0) (So Sy Ss)))) Ss))))
    case i=>exact Jki
   case f=>
   refine' Jk6 ?k ?l
   case k=>exact (Jkh (i:=4) Sai.nd rfl (ye rfl) (Jkl Jl0 (pv 2) (Jkc T.Js Sr hr (by decide) (So (pv 0) (So (Jkl Jl0 (Jkl Jm9 (pv 3) (pv 2)) Sy) Ss)))))
   case l=>
   refine' Jk6 ?m ?n
   case m=>exact (Jkh (i:=5) Sai.nd rfl (ye rfl) (Jkm Jks (Jl1 (pa4 Jlk Jlk Jlk Jlk)) (Jkc T.Js Sr hr (by decide) (So (pv 0) (So Sy Ss))) (λ_ _=>rfl)))
   case n=>
   refine' Jk6 ?o ?p
   case o=>exact (Jkh (i:=6) Sai.nd rfl (ye rfl) (Jkc T.Jt Sfi hr (by decide) (So (pv 0) (So (Jla Juo (by rfl) T.Jas Jy6 (So (Jmw Jnw (pv 5) Jlk (Jkt _)) Ss)) Ss))))
   case p=>
   refine' Jk6 ?q ?r
   case q=>
    refine' Jku ?s ?u ?v
    case s=>exact (Jkr Jnw (Jkc T.Js Sr hr (by decide) (So (pv 0) (So Sy Ss))) Sy (Jkt _))
    case u=>
     refine' Jk7 ?w
     case w=>exact (Jkh (i:=6) Sai.nd rfl (ye rfl) (Jp3 Jra (Jke (Jsr rfl) (by rfl) T.Jb0 Jzy (So (Jla (Jtz rfl rfl) (by rfl) T.Jaz Yag (So (Jkl Jp1 (pv 6) (Jl1 (So (Jla Juo (by rfl) T.Jas Jy6 (So (Jmw Jnw (pv 5) Jlk (Jkt _)) Ss)) Ss))) Ss)) Ss)) Jr1 (Jr2 Sy)))
    case v=>exact Jki
   case r=>
   refine' Jk7 ?x
   case x=>
   refine' Jkg ?y
   case y=>
   refine' Jm2 ?z
   case z=>
   refine' pa7 ?a0 ?b0 ?c0 ?d0 ?e0 ?f0 ?g0
   case a0=>exact (pv 1)
   case b0=>exact (pv 2)
   case c0=>exact (pv 3)
   case d0=>exact (pv 4)
   case e0=>exact (Jkc T.Js Sr hr (by decide) (So (pv 0) (So (Jkm Jks (Jl1 (So Sy (So Sy Ss))) (Jkc T.Js Sr hr (by decide) (So (pv 0) (So Sy Ss))) (λ_ _=>rfl)) Ss)))
   case f0=>exact (pv 5)
   case g0=>exact (pv 6)
  refine ⟨_,rfl,(show 3<=Sa by decide),λl1 h1=>?_⟩
  have s1:=Sn.upd (o:=.lst [.int 13,.int 3,.int 3]) h1
  have n1:=st.ne h1
  refine ⟨_,rfl,p,3,rfl,st.same s1,by decide,by decide,λr1 H1 r10 r11 b1=>?_⟩
  obtain ⟨a1,m1⟩:=Joj (ns:=[13,3,3]) ⟨r10,r11⟩
  refine ⟨l1,_,r1,_,rfl,rfl,Sw.of (b1.1 _ _ n1 Sv),a1,?_⟩
  generalize ([13,3,3]:List Int).getD r1.toNat 0=mk at a1 m1
  have hmk:3<=mk/\mk<=13:=by
   simp at m1
   omega
  have c1:But p H H1:=((But.refl st).same s1).trans b1
  refine ⟨p,mk,rfl,c1.2,by omega,Jv1 (by omega) (by omega),λlo H2 lo0 lo1 b2=>?_⟩
  have c2:=c1.trans b2
  refine ⟨_,rfl,_,rfl,_,rfl,_,_,rfl,rfl,p,13 - lo,rfl,c2.2,by omega,Jv1 (by omega) (by omega),λr3 H3 r30 r31 b3=>⟨_,_,rfl,rfl,?_⟩⟩
  have c3:=c2.trans b3
  dsimp only [Jo5]
  refine Jr8 (λσ H4=>∃hi:Int,σ= [some (.ref p),some (.str z),some (.int lo),some (.int hi),none,none,none]/\lo<=hi/\hi<=12/\But p H H4) (λR hR=>?_) ?_
  ·refine ⟨_,rfl,p,3,rfl,c3.2,by decide,by decide,λr4 H4 r40 r41 b4=>⟨_,_,rfl,rfl,_,rfl,Jnd (λq=>?_) (λq=>?_)⟩⟩
   ·refine ⟨_,rfl,_,rfl,p,4,rfl,(c3.trans b4).2,by decide,by decide,λr5 H5 r50 r51 b5=>⟨_,_,rfl,rfl,_,_,rfl,hR _ _ ⟨_,rfl,?_,?_,(c3.trans b4).trans b5⟩⟩⟩
    ·split <;> omega
    ·split <;> omega
   ·exact hR _ _ ⟨_,rfl,by omega,by omega,c3.trans b4⟩
  rintro σ H4 ⟨hi,rfl,hi0,hi1,c4⟩
  refine ⟨_,rfl,_,rfl,_,rfl,_,rfl,_,_,rfl,rfl,_,_,rfl,rfl,p,hi - lo+1,rfl,c4.2,by omega,Jv1 (by omega) (by omega),λr5 H5 r50 r51 b5=>⟨_,_,rfl,rfl,?_⟩⟩
  have c5:=c4.trans b5
  refine ⟨(show 4<=Sa by decide),λl2 h2=>?_⟩
  have s2:=Sn.upd (o:=.lst [.str "step",.str "flap",.str "flap",.str "part"]) h2
  have n2:=c5.2.ne h2
  refine ⟨_,rfl,p,4,rfl,c5.2.same s2,by decide,by decide,λr6 H6 r60 r61 b6=>?_⟩
  obtain ⟨kd,a2,m2⟩:=Ycq (zs:=["step","flap","flap","part"]) ⟨r60,r61⟩
  refine ⟨l2,_,r6,_,rfl,rfl,Sw.of (b6.1 _ _ n2 Sv),a2,?_⟩
  have kn:Knd kd:=by
   simp at m2
   exact m2
  have c6:But p H H6:=(c5.same s2).trans b6
  refine ⟨_,rfl,_,rfl,rfl,.inr ⟨_,rfl,?_⟩⟩
  refine ⟨p,Jn0 kd,congrArg (λz=>[V.ref p,V.int z]) (Sk2 kd),c6.2,Sk1 kd,λm ns H7 hm0 b7 hm7 ar=>?_⟩
  have c7:=c6.trans b7
  have nm7:m≠p:=c6.2.ne hm0
  have l01:0<=Jn0 kd/\Jn0 kd<=1:=by rcases Sk1 kd with e|e <;> rw [e] <;> decide
  dsimp only [Jo5]
  refine Jr8 (λσ H8=>∃(m:S5) (ns:List Int),σ= [some (.ref p),some (.str z),some (.int lo),some (.int hi),some (.int (lo+r5)),some (.str kd),some (.ref m)]/\H8 m=some (.lst (ns.map V.int))/\m≠p/\Jmc (Jn0 kd) (ns.map V.int)=true/\But p H H8) (λR hR=>?_) ?_
  ·refine ⟨_,rfl,p,2,rfl,c7.2,by decide,by decide,λr8 H8 r80 r81 b8=>⟨rfl,_,rfl,Jnd (λq=>?_) (λq=>?_)⟩⟩
   ·have c8:=c7.trans b8
    have hm8:=b8.1 _ _ nm7 hm7
    refine ⟨_,rfl,_,rfl,rfl,.inr ⟨_,rfl,(show 1<=Sa by decide),λl3 h3=>?_⟩⟩
    have s3:=Sn.upd (o:=.lst [.int (if decide (V.str kd=V.str ("part" :Str))=true then (1:Int) else 0)]) h3
    have nl:ns.length<=4:=by
     unfold Jmc at ar
     rw [yag,decide_eq_true_eq,yf] at ar
     exact ar.1.2
    refine ⟨m,l3,_,_,rfl,rfl,s3 _ _ hm8,Sv,?_,λl4 h4=>?_⟩
    ·rw [yf]
     exact yap (Jkk (by simp;omega))
    have hl4:(upd (upd H8 l3 (.lst [.int (if decide (V.str kd=V.str ("part" :Str))=true then (1:Int) else 0)])) l4 (.lst (ns.map V.int++ [.int (if decide (V.str kd=V.str ("part" :Str))=true then (1:Int) else 0)]))) l4=some (.lst ((ns++ [Jn0 kd]).map V.int)):=by
     rw [Sv,Sk2,yt]
     rfl
    have s4:=s3.trans (Sn.upd (o:=.lst (ns.map V.int++ [.int (if decide (V.str kd=V.str ("part" :Str))=true then (1:Int) else 0)])) h4)
    refine ⟨l4,ns++ [Jn0 kd],rfl,Sw.of hl4,by simp;omega,λl5 h5=>?_⟩
    have s5:=s4.trans (Sn.upd (o:=ZS P w l5 (ns++ [Jn0 kd])) h5)
    refine ⟨l5,ns++ [Jn0 kd],rfl,Sv,by simp;omega,λl6 ms h6 hp hi=>?_⟩
    have s6:=s5.trans (Sn.upd (o:=.lst (ms.map V.int)) h6)
    refine ⟨4,rfl,l6,_,rfl,Sw.of Sv,λl7 h7=>hR _ _ ⟨l7,ms.take 4,rfl,?_,?_,Jyg l01.1 l01.2 ar hp hi,c8.same (s6.trans (Sn.upd h7))⟩⟩
    ·rw [Sv,St8]
    ·exact (c8.2.same s6).ne h7
   ·exact hR _ _ ⟨m,ns,rfl,b8.1 _ _ nm7 hm7,nm7,ar,c7.trans b8⟩
  rintro σ H8 ⟨m,ns,rfl,hm8,nm8,ar,c8⟩
  refine ⟨_,rfl,_,rfl,_,rfl,_,rfl,_,rfl,(show 2<=Sa by decide),λl9 h9=>?_⟩
  have s9:=Sn.upd (o:=.lst [.int 7,.int 3]) h9
  have n9:=c8.2.ne h9
  refine ⟨_,rfl,p,2,rfl,c8.2.same s9,by decide,by decide,λr9 H9 r90 r91 b9=>?_⟩
  obtain ⟨a9,m9⟩:=Joj (ns:=[7,3]) ⟨r90,r91⟩
  refine ⟨l9,_,r9,_,rfl,rfl,Sw.of (b9.1 _ _ n9 Sv),a9,?_⟩
  generalize ([7,3]:List Int).getD r9.toNat 0=mr at a9 m9
  have hmr:3<=mr/\mr<=7:=by
   simp at m9
   omega
  have c9:But p H H9:=(c8.same s9).trans b9
  refine ⟨p,mr,rfl,c9.2,by omega,Jv1 (by omega) (by omega),λrn H10 rn0 rn1 b10=>?_⟩
  refine ⟨_,rfl,_,rfl,(show 7<=Sa by decide),λt ht=>?_⟩
  have hm10:=b10.1 _ _ nm8 (b9.1 _ _ nm8 (s9 _ _ hm8))
  refine k t m ⟨z,lo,hi,lo+r5,rn,⟨kd,ns,none⟩⟩ _ ((c9.trans b10).same (Sn.upd ht)) nm8 ⟨Sv,Sn.upd ht _ _ hm10,rfl⟩ ⟨⟨⟨lo0,hi0⟩,hi1,⟨rn0,?_⟩,⟨kn,ar,λi e=>by cases e⟩⟩,⟨?_,?_⟩,nm,wd⟩ rfl
  ·show rn<=6
   omega
  ·show lo<=lo+r5
   omega
  ·show lo+r5<=hi
   omega
def Sb7 (a:Ad) (H:Hp) (r:S5) (Bs:List BTd) (c g:Int):Prop:=∃(dx b t:S5) (os:List S5),H r=some (.ins a.Jjy dx (Sjd (.int c) (.int g) (.ref b) (.ref t)))/\H b=some (.tup (os.map V.ref))/\Paired (λo B=>BX a H o B) os Bs
theorem Sb7.same {a:Ad} {H H':Hp} {r:S5} {Bs:List BTd} {c g:Int} (s:Sn H H') (h:Sb7 a H r Bs c g):Sb7 a H' r Bs c g:=by
 obtain ⟨dx,b,t,os,h1,h2,h3⟩:=h
 exact ⟨dx,b,t,os,s _ _ h1,s _ _ h2,Paired.mapP h3 λ_ _ q=>q.same s⟩
structure RGd (Bs:List BTd):Prop where
 len:1<=Bs.length/\Bs.length<=16
 all:∀B∈Bs,TGd B
def Ycp (B:BTd) (up hi:Int):Bool:=isHeld B up hi (B.st - B.lo).toNat
theorem Ya8 (f:Nat->Int) (lo:Int) (n:Nat):∀ns:List Nat,Jn4 (ns.map λm:Nat=>((yaa (lo+m):Key),V.int (f m))) (yaa (lo+n))=if n∈ns then some (.int (f n)) else none:=by
 intro ns
 induction ns with
 |nil=>rfl
 |cons m ns ih=>
  rw [yas]
  by_cases c:m=n
  ·subst c
   rw [Jm5 rfl,if_pos (yar ..)]
  ·have nin:n∈m::ns↔n∈ns:=⟨λz=>(yn.mp z).elim (λh=>absurd h.symm c) id,yaq _⟩
   rw [Jm4 (λz=>c (by have:=yaa.inj z;omega)),ih]
   by_cases d:n∈ns
   ·rw [if_pos d,if_pos (nin.mpr d)]
   ·rw [if_neg d,if_neg λz=>d (nin.mp z)]
theorem Jor:Jkd ["self","basin"] ["self","basin"] (Jk9 (Jkn (top 11) 0)):=⟨rfl,rfl,rfl,by decide +kernel,rfl,by decide +kernel,by decide +kernel⟩
theorem Jqx (T:Tx K mg a):Sx P w K mg base CX0 1 a.Jfk a.Jfl ["self","basin"] (Jo3 K "basin"):=by
 refine T.Jcb.fn.ok Jor (λvs H Q E h=>?_) (λcdv A outer s H vs Q E hr h=>?_)
 ·obtain ⟨e,C,W,fI,y,rfl,_⟩:=h
  rfl
 ·obtain ⟨e,C,W,fI,y,rfl,q,c,n,k⟩:=h
  refine ⟨_,(Jk7 (Jny (pv 0) (pv 1) rfl)),?_⟩
  exact ⟨_,rfl,_,rfl,e,C,W,fI,true,rfl,q,c,n,k⟩
def Jly (ns:List Int):List Int:=0::ns.dropLast
def Sid (Bs:List BTd) (ns:List Int):Bool:=(yv Bs.length).all λi=>match Bs[i]? with
 |some B=>Ycp B ((Jly ns).getD i 0) (ns.getD i 0)
 |none=>true
def Jno (B:BTd) (up hi l:Int):Bool:=isHeld B up hi (l - B.lo).toNat
def hldP (Bs:List BTd) (ns ls:List Int):Bool:=(yv Bs.length).all λi=>match Bs[i]? with
 |some B=>Jno B ((Jly ns).getD i 0) (ns.getD i 0) (ls.getD i 0)
 |none=>true
theorem Sk3 {B:BTd} {l:Int} (h:B.lo<=l/\l<=B.hi) (up hi:Int):Jn4 (Jqp B up hi) (yaa l)=if Jno B up hi l=true then some (.int (Jlo B up hi (l - B.lo).toNat)) else none:=by
 have e:l=B.lo+((l - B.lo).toNat:Int):=by omega
 have q:=Ya8 (Jlo B up hi) B.lo (l - B.lo).toNat (Jo6 B up hi)
 rw [<-e] at q
 unfold Jqp
 rw [q]
 unfold Jno
 cases hc:isHeld B up hi (l - B.lo).toNat with
 |true=>
  have hm:(l - B.lo).toNat∈Jo6 B up hi:=ybs.mpr ⟨yae.mpr (by unfold nLv;omega),hc⟩
  rw [if_pos hm,if_pos rfl]
 |false=>
  have hm:¬(l - B.lo).toNat∈Jo6 B up hi:=λz=>by
   have q:=(ybs.mp z).2
   rw [hc] at q
   cases q
  rw [if_neg hm,if_neg yz]
def LvG (Bs:List BTd) (ls:List Int):Prop:=ls.length=Bs.length/\∀(i:Nat) B l,Bs[i]?=some B->ls[i]?=some l->B.lo<=l/\l<=B.hi
theorem LvG.start {Bs:List BTd} (h:∀B∈Bs,TGd B):LvG Bs (Bs.map (·.st)):=⟨by simp,λi B l hB hl=>by
 rw [ym,hB] at hl
 cases hl
 exact (h B (yad hB)).st⟩
theorem Jq6 (Bs:List BTd) (ns:List Int):hldP Bs ns (Bs.map (·.st))=Sid Bs ns:=by
 unfold hldP Sid
 rw [ybk,yau,yau]
 refine forall_congr' λi=>forall_congr' λ_=>?_
 cases hB:Bs[i]? with
 |none=>exact Iff.rfl
 |some B=>
  have e:(Bs.map (·.st)).getD i 0=B.st:=by rw [yaj,ym,hB];rfl
  show Jno B _ _ ((Bs.map (·.st)).getD i 0)=true↔Ycp B _ _=true
  rw [e]
  exact Iff.rfl
def NGd (n:Nat) (ns:List Int):Prop:=ns.length=n/\∀x∈ns,0<=x/\x<=12
theorem Ycz {n:Nat} {ns:List Int} (h:NGd n ns) (hn:1<=n):(Jly ns).length=n:=by
 have:=h.1
 unfold Jly
 rw [ybg,List.length_dropLast]
 omega
theorem Yem {n:Nat} {ns:List Int} (h:NGd n ns):∀x∈Jly ns,0<=x/\x<=12:=by
 intro x hx
 unfold Jly at hx
 rcases yn.mp hx with rfl|hx
 ·decide
 ·exact h.2 x ((List.dropLast_sublist _).subset hx)
def Sdt (H:Hp) (B:BTd) (up hi:Int) (p:S5):Prop:=∃ob,H p=some (.frz ob (.dK (Jqp B up hi)))
theorem Sdt.same {H H':Hp} {B:BTd} {up hi:Int} {p:S5} (s:Sn H H') (h:Sdt H B up hi p):Sdt H' B up hi p:=by obtain ⟨ob,e⟩:=h;exact ⟨ob,s _ _ e⟩
def Ye2 (a:Ad):Sp:=λvs H Q _=>∃(r:S5) (Bs:List BTd) (c g:Int),vs= [.ref r]/\Sb7 a H r Bs c g/\Bs.length<=16/\∀(t s:S5) (H':Hp),Sn H H'->H' t=some (.tup [.ref s,.int c])->H' s=some (.tup ((Bs.map (·.st)).map V.int))->Q (.ref t) H'
def Sm8 (a:Ad):Sp:=λvs H Q _=>∃(r l:S5) (Bs:List BTd) (c g:Int) (ns:List Int),vs= [.ref r,.ref l]/\Sb7 a H r Bs c g/\H l=some (.lst (ns.map V.int))/\NGd Bs.length ns/\Bs.length<=16/\∀H',Sn H H'->Q (.bl true) H'
def Ycl (a:Ad):Sp:=λvs H Q _=>∃(r l:S5) (Bs:List BTd) (c g:Int) (ns:List Int),vs= [.ref r,.ref l]/\H a.Jk0=some (.tbl lb_lost_alone)/\Sb7 a H r Bs c g/\RGd Bs/\H l=some (.lst (ns.map V.int))/\NGd Bs.length ns/\
 ∀(d:S5) (ps:List S5) (H':Hp),Sn H H'->H' d=some (.lst (ps.map V.ref))->ps.length=Bs.length->(∀(i:Nat) B p,Bs[i]?=some B->ps[i]?=some p->Sdt H' B ((Jly ns).getD i 0) (ns.getD i 0) p)->Q (.ref d) H'
def Jwu (Bs:List BTd) (ns ls:List Int) (i:Nat):Prop:=i < Bs.length/\(∀B,Bs[i]?=some B->Jno B ((Jly ns).getD i 0) (ns.getD i 0) (ls.getD i 0)=false)/\∀(j:Nat) B,j < i->Bs[j]?=some B->Jno B ((Jly ns).getD j 0) (ns.getD j 0) (ls.getD j 0)=true
def Ycc:Sp:=λvs H Q _=>∃(s d:S5) (Bs:List BTd) (ns ls:List Int) (ps:List S5),vs= [.ref s,.ref d]/\H s=some (.tup (ls.map V.int))/\LvG Bs ls/\H d=some (.lst (ps.map V.ref))/\RGd Bs/\ps.length=Bs.length/\(∀(i:Nat) B p,Bs[i]?=some B->ps[i]?=some p->Sdt H B ((Jly ns).getD i 0) (ns.getD i 0) p)/\
 (hldP Bs ns ls=true->∀H',Sn H H'->Q .non H')/\(hldP Bs ns ls=false->∀(i:Nat) H',Jwu Bs ns ls i->Sn H H'->Q (.int (i:Int)) H')
theorem Ycw {i j k:Nat} {T:S5} {x y z:V} {σ:L2.St} {H:Hp} {A B:L2.St->Hp->Prop} (hT:SqT K H T [x,y,z]) (h:A (((σ.set i (some x)).set j (some y)).set k (some z)) H):
  Sjb K 3 (Juw (Jo5 i) (Juw (Jo5 j) (Juw (Jo5 k) Sld))) (.ref T) σ H λσ3 H3=>Ya1 σ3 H3 λb H4=>if b=true then A σ3 H4 else B σ3 H4:=by
 refine ⟨T,_,rfl,hT,rfl,_,_,rfl,_,_,rfl,_,_,rfl,rfl,?_⟩
 show if true=true then A (((σ.set i (some x)).set j (some y)).set k (some z)) H else B (((σ.set i (some x)).set j (some y)).set k (some z)) H
 rw [if_pos rfl]
 exact h
theorem Jqm:Jkd ["self"] ["self"] (Jk9 (Jkn (top 64) 2)):=⟨rfl,rfl,rfl,by decide +kernel,rfl,by decide +kernel,by decide +kernel⟩
theorem Jqb (T:Tx K mg a):Sx P w K mg base CX0 1 a.Jhw a.Jhx ["self"] (Ye2 a):=by
 refine T.Jcr.fn.ok Jqm (λvs H Q E h=>?_) (λcdv A outer s H vs Q E hr h=>?_)
 ·obtain ⟨r,Bs,c,g,rfl,_⟩:=h
  rfl
 ·obtain ⟨r,Bs,c,g,rfl,rv,l16,k⟩:=h
  obtain ⟨dx,b,t,os,hr0,hb,pr⟩:=id rv
  have len:=Paired.length pr
  refine ⟨?t,?B,?C⟩
  case B=>
   refine' Jk7 ?a
   case a=>exact (Jkg (Jm2 (So (Jla Jlt (by rfl) T.Jb2 Jm3 (So (Jl4 (N:=(["basin"]:List Str)) (ini:=[none]) rfl (Jyr (Jlh (pv 0) (by rfl))) (λ_ _ _ _ _=>(Jkf (i:=0) (by decide +kernel:(["basin"]:List Str).Nodup) rfl (ye rfl))) (λ_ _ _ _ _=>Jky) (λ_ _ _ _ _=>(Jmh (K:=K) rfl (pv 0) (by rfl)))) Ss)) (So (Jlh (pv 0) (by rfl)) Ss))))
  refine ⟨_,rfl,r,_,dx,_,_,rfl,hr0,T.Jdu,T.Jeg,rfl,b,rfl,⟨_,SqT.of hb⟩,λD hD=>?_⟩
  refine Jrj ((Bs.map (·.st)).map V.int) hD (by simp [len]) (by simp;omega) hb ?_ ?_
  ·intro i x y H' Q' hx hy sm k'
   rw [ym] at hx
   obtain ⟨o,ho,rfl⟩:=yy.mp hx
   obtain ⟨B,hB,bx⟩:=Jl6 pr ho
   rw [ym,ym,hB] at hy
   cases hy
   obtain ⟨dx',g,h1,_⟩:=bx.same sm
   exact ⟨_,rfl,o,_,dx',_,_,rfl,h1,T.Jdp,T.Je9,rfl,k' _ (Sn.refl _)⟩
  intro H1 s1 hD1
  refine ⟨D,_,rfl,.inl ⟨Sw.of hD1,λS hS=>?_⟩⟩
  have s2:=Sn.upd (o:=.tup ((Bs.map (·.st)).map V.int)) hS
  refine ⟨_,rfl,r,_,dx,_,_,rfl,s2 _ _ (s1 _ _ hr0),T.Jdu,T.Jee,rfl,(show 2<=Sa by decide),λT1 hT1=>?_⟩
  exact k T1 S _ ((s1.trans s2).trans (Sn.upd hT1)) Sv (Sn.upd hT1 _ _ Sv)
theorem Jtn:Jkd ["river","thing"] ["river","thing"] (Jk9 (top 34)):=⟨rfl,rfl,rfl,by decide +kernel,rfl,by decide +kernel,by decide +kernel⟩
theorem Jtb (T:Tx K mg a):Sx P w K mg base CX0 3 a.Jgg a.Jgh ["river","thing"] (Sm8 a):=by
 have Ses:=Jtc (P:=P) (w:=w) (base:=base) T
 refine T.Jf.fn.ok Jtn (λvs H Q E h=>?_) (λcdv A outer s H vs Q E hr h=>?_)
 ·obtain ⟨r,l,Bs,c,g,ns,rfl,_⟩:=h
  rfl
 ·obtain ⟨r,l,Bs,c,g,ns,rfl,rv,hl,ng,l16,k⟩:=h
  obtain ⟨dx,b,t,os,hr0,hb,pr⟩:=id rv
  have len:=Paired.length pr
  have nl:=ng.1
  refine ⟨?t,?B,?C⟩
  case B=>
   refine' Jk6 ?a ?b
   case a=>
    refine' Jku ?c ?d ?e
    case c=>exact (PW.pt (Jop (Jl3 (Jkx (Jke Jlw (by rfl) T.Jat Jkq (So (pv 1) (So (Jm6 (v:=.ty "list") (by rfl) T.Jav Jpd rfl) Ss))))) (Jo2 (Jkr Jzp (Jke Jkp (by rfl) T.Jau Jlg (So (pv 1) Ss)) (Jke Jkp (by rfl) T.Jau Jlg (So (Jlh (pv 0) (by rfl)) Ss)) (Jkt _)))))
    case d=>
     refine' Jk7 ?f
     case f=>exact (Jkg Jmf)
    case e=>exact Jki
   case b=>
   refine' Jk7 ?g
   case g=>exact (Jkg (Jke (Jnh rfl) (by rfl) T.Jan Jq4 (So (Jl4 (N:=(["number"]:List Str)) (ini:=[none]) rfl (Jl5 (pv 1)) (λ_ _ _ _ _=>(Jkf (i:=0) (by decide +kernel:(["number"]:List Str).Nodup) rfl (ye rfl))) (λ_ _ _ _ _=>Jky) (λ_ _ _ _ _=>(Jkc T.J8 Ses hr (by decide) (So (pv 0) Ss)))) Ss)))
  refine ⟨_,rfl,_,_,_,.type "list",true,rfl,rfl,.of (.lst hl),rfl,_,rfl,Jlb ?_⟩
  refine ⟨_,rfl,l,_,rfl,.inl (Sw.of hl),_,rfl,r,_,dx,_,_,rfl,hr0,T.Jdu,T.Jeg,rfl,b,_,rfl,.inr (SqT.of hb),rfl,_,rfl,ifF ?_ ?_⟩
  ·rw [yf,yf,nl,len]
   simp
  refine ⟨_,rfl,l,rfl,⟨_,Sw.of hl⟩,λD hD=>?_⟩
  refine Jml ((yw ns.length true).map V.bl) hD (by simp) (by simp;omega) hl ?_ ?_
  ·intro i x y H' Q' hx hy sm k'
   rw [ym] at hx
   obtain ⟨n,hn,rfl⟩:=yy.mp hx
   have il:i < ns.length:=(yq.mp hn).1
   have ey:y= .bl true:=by
    rw [ym,ycw,if_pos il] at hy
    exact (yac.inj hy).symm
   subst ey
   have hb':=ng.2 n (yad hn)
   refine ⟨_,rfl,.int n,rfl,.inl ⟨n,rfl⟩,?_⟩
   rw [Jlz hb'.1 hb'.2]
   exact k' _ (Sn.refl _)
  intro H1 s1 hD1
  refine ⟨D,_,rfl,Sw.of hD1,?_⟩
  rw [show (yw ns.length true).all id=true by simp]
  exact k _ s1
theorem Sct:Jkd ["river","numbers","ups"] ["river","numbers"] (Jk9 (top 35)):=⟨rfl,rfl,rfl,by decide +kernel,rfl,by decide +kernel,by decide +kernel⟩
theorem Jtg (T:Tx K mg a) (Bm:Bmn mg base):Sx P w K mg base CX0 7 a.Jgi a.Jgj ["river","numbers"] (Ycl a):=by
 have Sdo:=Jqz (P:=P) (w:=w) T Bm
 refine T.Jg.fn.ok Sct (λvs H Q E h=>?_) (λcdv A outer s H vs Q E hr h=>?_)
 ·obtain ⟨r,l,Bs,c,g,ns,rfl,_⟩:=h
  rfl
 ·obtain ⟨r,l,Bs,c,g,ns,rfl,ht,rv,rg,hl,ng,k⟩:=h
  obtain ⟨dx,b,t,os,hr0,hb,pr⟩:=id rv
  have len:=Paired.length pr
  have l16:=rg.len
  have nl:=ng.1
  have ul:=Ycz ng l16.1
  refine ⟨?t,?B,?C⟩
  case B=>
   refine' Jk6 ?a ?b
   case a=>exact (Jkh (i:=2) Sct.nd rfl (ye rfl) (Jkl Jp1 (Jl1 (So Sy Ss)) (Jp3 Jra (pv 1) Jr1 (Jr2 (Jv8 Jru Sy)))))
   case b=>
   refine' Jk7 ?c
   case c=>exact (Jkg (Jl4 (N:=(["basin","up","hi"]:List Str)) (ini:=[none,none,none]) rfl (Jwh true false false (by rfl) T.Jb3 (So (Jlh (pv 0) (by rfl)) (So (pv 2) (So (pv 1) Ss)))) (λ_ _ _ _ _=>(Jpl (K:=K) (n:=3) rfl rfl (Jkv (Jkf (i:=0) (by decide +kernel:(["basin","up","hi"]:List Str).Nodup) rfl (ye rfl)) (Jkv (Jkf (i:=1) (by decide +kernel:(["basin","up","hi"]:List Str).Nodup) rfl (ye rfl)) (Jkv (Jkf (i:=2) (by decide +kernel:(["basin","up","hi"]:List Str).Nodup) rfl (ye rfl)) Jmx))))) (λ_ _ _ _ _=>Jky) (λ_ _ _ _ _=>(Jkc T.Jd Sdo hr (by decide) (So (pv 0) (So (pv 1) (So (pv 2) Ss)))))))
  refine ⟨(show 1<=Sa by decide),λz hz=>?_⟩
  have s1:=Sn.upd (o:=.lst [.int 0]) hz
  refine ⟨_,rfl,_,rfl,_,rfl,l,_,rfl,Sw.of (s1 _ _ hl),λz2 hz2=>?_⟩
  have s2:=Sn.upd (o:=.lst (Jm7 (ns.map V.int) none (some (-1)))) hz2
  have ec:Jm7 (ns.map V.int) none (some (-1))=ns.dropLast.map V.int:=by
   unfold Jm7
   rw [HT.sIx_none,yf]
   show ((ns.map V.int).drop 0).take (((-1:Int)+(ns.length:Int)).toNat - 0)=_
   rw [List.drop_zero,List.dropLast_eq_take,List.map_take]
   congr 1
   omega
  refine ⟨z,z2,_,_,rfl,rfl,s2 _ _ Sv,Sv,?_,λU hU=>?_⟩
  ·rw [ec]
   simp
   exact yap (Jkk (by omega))
  have s3:=(s1.trans s2).trans (Sn.upd (o:=.lst ([.int 0]++Jm7 (ns.map V.int) none (some (-1)))) hU)
  have hU':(upd (upd (upd H z (.lst [.int 0])) z2 (.lst (Jm7 (ns.map V.int) none (some (-1))))) U (.lst ([.int 0]++Jm7 (ns.map V.int) none (some (-1))))) U=some (.lst ((Jly ns).map V.int)):=by
   rw [Sv,ec]
   rfl
  generalize upd (upd (upd H z (.lst [.int 0])) z2 (.lst (Jm7 (ns.map V.int) none (some (-1))))) U (.lst ([.int 0]++Jm7 (ns.map V.int) none (some (-1))))=H3 at s3 hU'
  refine ⟨_,rfl,r,_,dx,_,_,rfl,s3 _ _ hr0,T.Jdu,T.Jeg,rfl,_,rfl,_,rfl,b,U,l,rfl,⟨_,SqT.of (s3 _ _ hb)⟩,⟨_,Sw.of hU'⟩,⟨_,Sw.of (s3 _ _ hl)⟩,λD hD=>?_⟩
  refine Jur (K:=K) (xs:=os.map V.ref) (ys:=(Jly ns).map V.int) (us:=ns.map V.int) (λi σ H'=>(∃o1 o2 o3,σ= [o1,o2,o3])/\Sn H3 H'/\∃ps:List S5,H' D=some (.lst (ps.map V.ref))/\ps.length=i/\∀(j:Nat) B p,Bs[j]?=some B->ps[j]?=some p->Sdt H' B ((Jly ns).getD j 0) (ns.getD j 0) p) ⟨⟨_,_,_,rfl⟩,Sn.upd hD,[],Sv,rfl,λj B p _ h=>by simp at h⟩ (λi σ H' _ ⟨_,sm,_⟩=>⟨SqT.of (sm _ _ (s3 _ _ hb)),Sw.of (sm _ _ hU'),Sw.of (sm _ _ (s3 _ _ hl))⟩) (by simp;omega) (by simp;omega) ?_ ?_
  ·rintro i x y u σ H' T1 hx hy hu ⟨⟨o1,o2,o3,rfl⟩,sm,ps,hDs,hpl,hps⟩ hT
   rw [ym] at hx hy hu
   obtain ⟨o,ho,rfl⟩:=yy.mp hx
   obtain ⟨up,hup,rfl⟩:=yy.mp hy
   obtain ⟨hi,hhi,rfl⟩:=yy.mp hu
   obtain ⟨B,hB,bx⟩:=Jl6 pr ho
   have il:i < Bs.length:=(yq.mp hB).1
   have tg:=rg.all B (yad hB)
   have sT:=Sn.upd (o:=.tup [.ref o,.int up,.int hi]) hT
   have s4:=(s3.trans sm).trans sT
   have b1:=Yem ng up (yad hup)
   refine Ycw (SqT.of Sv) ⟨_,rfl,_,rfl,_,rfl,o,B,up,hi,rfl,s4 _ _ ht,bx.same s4,tg.b,b1,λp ob H5 s5 hp=>?_⟩
   have hD5:=s5 _ _ (sT _ _ hDs)
   have npD:∀{q:S5} {ob:Obj} {kvs:List (Key×V)},H5 q=some (.frz ob (.dK kvs))->q≠D:=λh z=>by rw [z,hD5] at h;cases h
   refine ⟨_,hD5,?_,⟨_,_,_,rfl⟩,?_,ps++ [p],?_,?_,?_⟩
   ·rw [yf]
    exact Jkk (by omega)
   ·intro c2 o' z'
    rw [Sz (Jkb z' hD)]
    exact s5 _ _ (sT _ _ (sm _ _ z'))
   ·rw [Sv,yt]
    rfl
   ·rw [yai,hpl]
    rfl
   ·intro j B' p' hB' hp'
    by_cases cj:j < ps.length
    ·rw [ycd cj] at hp'
     obtain ⟨ob',e'⟩:=hps j B' p' hB' hp'
     have e5:=s5 _ _ (sT _ _ e')
     exact ⟨ob',by rw [Sz (npD e5)];exact e5⟩
    ·have jl:=(yq.mp hp').1
     rw [yai] at jl
     have ej:j=i:=by simp at jl;omega
     subst ej
     rw [ycc (by omega),show j - ps.length=0 by omega] at hp'
     have ep:p'=p:=by simpa using hp'.symm
     subst ep
     rw [hB] at hB'
     cases hB'
     have e1:(Jly ns).getD j 0=up:=by rw [yaj,hup];rfl
     have e2:ns.getD j 0=hi:=by rw [yaj,hhi];rfl
     rw [e1,e2]
     exact ⟨ob,by rw [Sz (npD hp)];exact hp⟩
  ·rintro σ H' ⟨_,sm,ps,hDs,hpl,hps⟩
   exact k D ps H' (s3.trans sm) hDs (by rw [hpl,yf,len]) hps
theorem Sc3:Jkd ["levels","by_basin","place","level"] ["levels","by_basin"] (Jk9 (top 36)):=⟨rfl,rfl,rfl,by decide +kernel,rfl,by decide +kernel,by decide +kernel⟩
theorem Ju7 (T:Tx K mg a):Sx P w K mg base CX0 1 a.Jgk a.Jgl ["levels","by_basin"] Ycc:=by
 refine T.Jh.fn.ok Sc3 (λvs H Q E h=>?_) (λcdv A outer s H vs Q E hr h=>?_)
 ·obtain ⟨s',d,Bs,ns,ls,ps,rfl,_⟩:=h
  rfl
 ·obtain ⟨s',d,Bs,ns,ls,ps,rfl,hs,lg,hd,rg,hpl,hps,k1,k2⟩:=h
  have hu64:=Jnt hr
  have l16:=rg.len
  have ll:=lg.1
  refine ⟨?t,?B,?C⟩
  case B=>
   refine' Jk6 ?a ?b
   case a=>
    refine' Jma ?c ?d ?e ?f ?g
    case c=>exact PassesOwn.never
    case d=>exact rfl
    case e=>exact (Ybq (by rfl) T.Jar (So (pv 0) Ss))
    case f=>exact (Jrp rfl (Jkv (Jkf (i:=2) Sc3.nd rfl (ye rfl)) (Jkv (Jkf (i:=3) Sc3.nd rfl (ye rfl)) Jmx)))
    case g=>
    refine' Jk7 ?h
    case h=>
    refine' Jku ?i ?j ?k
    case i=>exact (Jkr (Jo1 hu64) (pv 3) (Jkm Jks (pv 1) (pv 2) (λ_ _=>rfl)) (by with_unfolding_all rfl))
    case j=>
     refine' Jk7 ?l
     case l=>exact (Jkg (pv 2))
    case k=>exact Jki
   case b=>
   refine' Jk7 ?m
   case m=>exact (Jkg Jlu)
  refine ⟨_,rfl,s',rfl,⟨_,SqT.of hs⟩,?_⟩
  refine Yb0 (K:=K) (a:=s') (xs:=ls.map V.int) (λi σ H'=>(∃o2 o3,σ= [some (.ref s'),some (.ref d),o2,o3])/\Sn H H'/\∀(j:Nat) B,j < i->Bs[j]?=some B->Jno B ((Jly ns).getD j 0) (ns.getD j 0) (ls.getD j 0)=true) ⟨⟨_,_,rfl⟩,Sn.refl _,λj B h=>absurd h (ycn _)⟩ (λi σ H' _ ⟨_,sm,_⟩=>SqT.of (sm _ _ hs)) ?_ ?_
  ·rintro i x σ H' T1 hx ⟨⟨o2,o3,rfl⟩,sm,all⟩ hT
   rw [ym] at hx
   obtain ⟨v,hv,rfl⟩:=yy.mp hx
   have il:i < ls.length:=(yq.mp hv).1
   have hB:Bs[i]?=some (Bs[i]'(by omega)):=yp _
   generalize Bs[i]'(by omega)=B at hB
   have rb:=lg.2 i B v hB hv
   have ev:ls.getD i 0=v:=by rw [yaj,hv];rfl
   have sT:=Sn.upd (o:=.tup [.int i,.int v]) hT
   have s1:=sm.trans sT
   have hp:ps[i]?=some (ps[i]'(by omega)):=yp _
   obtain ⟨ob,e⟩:=hps i B _ hB hp
   refine ⟨T1,_,rfl,SqT.of Sv,rfl,_,_,rfl,_,_,rfl,rfl,?_⟩
   refine ⟨_,rfl,_,rfl,_,rfl,d,_,(i:Int),_,rfl,rfl,Sw.of (s1 _ _ hd),Jl8 (j:=i) (by rw [ym,hp];rfl),_,_,rfl,.inl ⟨_,yaa v,.inr ⟨ob,s1 _ _ e⟩,rfl,rfl⟩,_,rfl,?_⟩
   rw [Sk3 rb]
   cases hc:Jno B ((Jly ns).getD i 0) (ns.getD i 0) v with
   |false=>
    rw [if_neg yz]
    refine Jmb ⟨_,rfl,k2 ?_ i _ ⟨by omega,λB' hB'=>by rw [hB] at hB';cases hB';rw [ev];exact hc,all⟩ s1⟩
    unfold hldP
    rw [List.all_eq_false]
    refine ⟨i,yae.mpr (by omega),?_⟩
    rw [hB]
    show ¬(Jno B ((Jly ns).getD i 0) (ns.getD i 0) (ls.getD i 0)=true)
    rw [ev,hc]
    decide
   |true=>
    rw [if_pos rfl]
    refine Jlb ⟨⟨_,_,rfl⟩,s1,λj B' hj hB'=>?_⟩
    by_cases cj:j < i
    ·exact all j B' cj hB'
    ·have:j=i:=by omega
     subst this
     rw [hB] at hB'
     cases hB'
     rw [ev]
     exact hc
  ·rintro σ H' ⟨_,sm,all⟩
   refine k1 ?_ _ sm
   unfold hldP
   rw [yau]
   intro i hi
   have il:=yae.mp hi
   cases hB:Bs[i]? with
   |none=>rfl
   |some B=>exact all i B (by simp;omega) hB
abbrev lb_local_keeper:Array (Nat×Nat×Str):=#[((Jr3 (nst (top 38) 3)).line,(Jr3 (nst (top 38) 3)).col,"local_keeper.<locals>.keeper")]
def Smb:Sp:=λvs H Q _=>∃(p l m:S5) (ls lo hi:List Int),vs= [.ref p,.ref l,.ref m]/\H p=some (.tup (ls.map V.int))/\H l=some (.lst (lo.map V.int))/\H m=some (.lst (hi.map V.int))/\lo.length=ls.length/\hi.length=ls.length/\ls.length<=16/\(∀(i:Nat) (x y z:Int),ls[i]?=some x->lo[i]?=some y->hi[i]?=some z->y<=x/\x<=z)/\∀H',Sn H H'->Q (.bl true) H'
def Yef:Sp:=λvs H Q _=>∃(p:S5) (x y:V),vs= [.ref p]/\H p=some (.tup [x,y])/\Q (.bl true) H
def Ycm (a:Ad):Sp:=λvs H Q _=>∃(r y s:S5) (Bs:List BTd) (c g wt:Int) (ls:List Int),vs= [.ref r,.ref y]/\Sb7 a H r Bs c g/\Bs.length<=16/\H y=some (.tup [.ref s,.int wt])/\H s=some (.tup (ls.map V.int))/\LvG Bs ls/\(0<=wt/\wt<=c)/\∀H',Sn H H'->Q (.bl true) H'
def Sma (a:Ad):Sp:=λvs H Q E=>∃(s d:S5) (Bs:List BTd) (ns ls:List Int) (ps:List S5),vs= [.ref s,.ref d]/\H s=some (.tup (ls.map V.int))/\LvG Bs ls/\H d=some (.lst (ps.map V.ref))/\RGd Bs/\ps.length=Bs.length/\(∀(i:Nat) B p,Bs[i]?=some B->ps[i]?=some p->Sdt H B ((Jly ns).getD i 0) (ns.getD i 0) p)/\
 (hldP Bs ns ls=true->∀H',Sn H H'->Q .non H')/\(hldP Bs ns ls=false->∀(i:Nat) e dx H',Jwu Bs ns ls i->Sn H H'->H' e=some (XO e a.Jjq (some dx) false)->H' dx=some (XD dx [("basin",.int (i:Int))])->E (.ref a.Jjq) (some e) H')
def Jnb (Bs:List BTd) (ns ls:List Int):List Int:=(yv Bs.length).map λi=>match Bs[i]? with
 |some B=>Jlo B ((Jly ns).getD i 0) (ns.getD i 0) (ls.getD i 0 - B.lo).toNat
 |none=>0
def Si1 (H:Hp) (d:S5) (Bs:List BTd) (ns:List Int):Prop:=∃ps:List S5,H d=some (.lst (ps.map V.ref))/\ps.length=Bs.length/\∀(i:Nat) B p,Bs[i]?=some B->ps[i]?=some p->Sdt H B ((Jly ns).getD i 0) (ns.getD i 0) p
theorem Si1.same {H H':Hp} {d:S5} {Bs:List BTd} {ns:List Int} (s:Sn H H') (h:Si1 H d Bs ns):Si1 H' d Bs ns:=by obtain ⟨ps,h1,h2,h3⟩:=h;exact ⟨ps,s _ _ h1,h2,λi B p e1 e2=>(h3 i B p e1 e2).same s⟩
def Scn (H:Hp) (f r d:S5) (Bs:List BTd) (ns:List Int):Prop:=Si1 H d Bs ns/\Sdb H f "keeper" "local_keeper.<locals>.keeper" (nst (top 38) 3) [("by_basin",.ref d),("river",.ref r)]
def Sph (a:Ad):List V->Sp:=λcs vs H Q E=>∃(d r y s:S5) (x:V) (Bs:List BTd) (c g wt:Int) (ns ls:List Int),cs= [.ref d,.ref r]/\vs= [.ref y,x]/\Sb7 a H r Bs c g/\RGd Bs/\Si1 H d Bs ns/\H y=some (.tup [.ref s,.int wt])/\H s=some (.tup (ls.map V.int))/\LvG Bs ls/\(0<=wt/\wt<=c)/\
 (hldP Bs ns ls=true->∀(t u:S5) (H':Hp),Sn H H'->H' t=some (.tup [.ref u,.non])->H' u=some (.tup ((Jnb Bs ns ls).map V.int))->Q (.ref t) H')/\(hldP Bs ns ls=false->∀(i:Nat) e dx H',Jwu Bs ns ls i->Sn H H'->H' e=some (XO e a.Jjq (some dx) false)->H' dx=some (XD dx [("basin",.int (i:Int))])->E (.ref a.Jjq) (some e) H')
def Yeb (a:Ad):Sp:=λvs H Q E=>∃(r l:S5) (Bs:List BTd) (c g:Int) (ns:List Int),vs= [.ref r,.ref l]/\H a.Jk0=some (.tbl lb_lost_alone)/\H a.Jk2=some (.tbl lb_local_keeper)/\Sb7 a H r Bs c g/\RGd Bs/\H l=some (.lst (ns.map V.int))/\NGd Bs.length ns/\
 (Sid Bs ns=true->∀f d H',Sn H H'->Scn H' f r d Bs ns->Q (.ref f) H')/\(Sid Bs ns=false->∀(i:Nat) e dx H',Jwu Bs ns (Bs.map (·.st)) i->Sn H H'->H' e=some (XO e a.Jjq (some dx) false)->H' dx=some (XD dx [("basin",.int (i:Int))])->E (.ref a.Jjq) (some e) H')
theorem Jol:Jkd ["self","thing"] ["self","thing"] (Jk9 (Jkn (top 9) 0)):=⟨rfl,rfl,rfl,by decide +kernel,rfl,by decide +kernel,by decide +kernel⟩
theorem Jq9 (T:Tx K mg a):Sx P w K mg base CX0 1 a.Jfg a.Jfh ["self","thing"] (Jo3 K "thing"):=by
 refine T.Jc9.fn.ok Jol (λvs H Q E h=>?_) (λcdv A outer s H vs Q E hr h=>?_)
 ·obtain ⟨e,C,W,fI,y,rfl,_⟩:=h
  rfl
 ·obtain ⟨e,C,W,fI,y,rfl,q,c,n,k⟩:=h
  refine ⟨_,(Jk7 (Jny (pv 0) (pv 1) rfl)),?_⟩
  exact ⟨_,rfl,_,rfl,e,C,W,fI,true,rfl,q,c,n,k⟩
theorem Yu:Jkd ["thing","lows","highs"] ["thing","lows","highs"] (Jk9 (top 19)):=⟨rfl,rfl,rfl,by decide +kernel,rfl,by decide +kernel,by decide +kernel⟩
theorem Yj (T:Tx K mg a):Sx P w K mg base CX0 2 a.Jfs a.Jft ["thing","lows","highs"] Smb:=by
 have Sa5:=Jm0 (P:=P) (w:=w) (base:=base) T
 refine T.J3.fn.ok Yu (λvs H Q E h=>?_) (λcdv A outer s H vs Q E hr h=>?_)
 ·obtain ⟨p,l,m,ls,lo,hi,rfl,_⟩:=h
  rfl
 ·obtain ⟨p,l,m,ls,lo,hi,rfl,hp,hl,hm,e1,e2,l16,inn,k⟩:=h
  refine ⟨?t,?B,?C⟩
  case B=>
   refine' Jk6 ?a ?b
   case a=>
    refine' Jku ?c ?d ?e
    case c=>exact (PW.pt (Jop (Jl3 (Jkx (Jke Jlw (by rfl) T.Jat Jkq (So (pv 0) (So (Jm6 (v:=.ty "tuple") (by rfl) T.Jb2 Jm3 rfl) Ss))))) (Jo2 (Jkr Jzp (Jke Jkp (by rfl) T.Jau Jlg (So (pv 0) Ss)) (Jke Jkp (by rfl) T.Jau Jlg (So (pv 1) Ss)) (Jkt _)))))
    case d=>
     refine' Jk7 ?f
     case f=>exact (Jkg Jmf)
    case e=>exact Jki
   case b=>
   refine' Jk7 ?g
   case g=>exact (Jkg (Jke (Jnh rfl) (by rfl) T.Jan Jq4 (So (Jl4 (N:=(["number","low","high"]:List Str)) (ini:=[none,none,none]) rfl (Jwh true false false (by rfl) T.Jb3 (So (pv 0) (So (pv 1) (So (pv 2) Ss)))) (λ_ _ _ _ _=>(Jpl (K:=K) (n:=3) rfl rfl (Jkv (Jkf (i:=0) (by decide +kernel:(["number","low","high"]:List Str).Nodup) rfl (ye rfl)) (Jkv (Jkf (i:=1) (by decide +kernel:(["number","low","high"]:List Str).Nodup) rfl (ye rfl)) (Jkv (Jkf (i:=2) (by decide +kernel:(["number","low","high"]:List Str).Nodup) rfl (ye rfl)) Jmx))))) (λ_ _ _ _ _=>Jky) (λ_ _ _ _ _=>(Jkc T.J0 Sa5 hr (by decide) (So (pv 0) (So (pv 1) (So (pv 2) Ss)))))) Ss)))
  refine ⟨_,rfl,_,_,_,.type "tuple",true,rfl,rfl,.of (.tup hp),rfl,_,rfl,Jlb ?_⟩
  refine ⟨_,rfl,p,_,rfl,.inr (SqT.of hp),_,rfl,l,_,rfl,.inl (Sw.of hl),rfl,_,rfl,ifF (by simp [e1]) ?_⟩
  refine ⟨_,rfl,_,rfl,_,rfl,p,l,m,rfl,⟨_,SqT.of hp⟩,⟨_,Sw.of hl⟩,⟨_,Sw.of hm⟩,λD hD=>?_⟩
  refine Jur (K:=K) (l1:=p) (l2:=l) (l3:=m) (b1:=true) (b2:=false) (b3:=false) (xs:=ls.map V.int) (ys:=lo.map V.int) (us:=hi.map V.int) (D:=D) (λi σ H'=>(∃o1 o2 o3,σ= [o1,o2,o3])/\Sn H H'/\H' D=some (.lst ((yw i true).map V.bl))) ⟨⟨_,_,_,rfl⟩,Sn.upd hD,Sv⟩ (λi σ H' _ ⟨_,sm,_⟩=>⟨SqT.of (sm _ _ hp),Sw.of (sm _ _ hl),Sw.of (sm _ _ hm)⟩) (by simp [e1]) (by simp [e2]) ?_ ?_
  ·rintro i x y u σ H' T1 hx hy hu ⟨⟨o1,o2,o3,rfl⟩,sm,hDs⟩ hT
   rw [ym] at hx hy hu
   obtain ⟨v,hv,rfl⟩:=yy.mp hx
   obtain ⟨vl,hvl,rfl⟩:=yy.mp hy
   obtain ⟨vh,hvh,rfl⟩:=yy.mp hu
   have il:i < ls.length:=(yq.mp hv).1
   have b:=inn i v vl vh hv hvl hvh
   have sT:=Sn.upd (o:=.tup [.int v,.int vl,.int vh]) hT
   refine Ycw (SqT.of Sv) ⟨_,rfl,_,rfl,_,rfl,.int v,vl,vh,rfl,.inl ⟨v,rfl⟩,?_⟩
   rw [Jlz b.1 b.2]
   refine ⟨_,sT _ _ hDs,?_,⟨_,_,_,rfl⟩,?_,?_⟩
   ·rw [yf,ybv]
    exact Jkk (by omega)
   ·intro c2 o' z
    rw [Sz (Jkb z hD)]
    exact sT _ _ (sm _ _ z)
   ·rw [Sv,ycv,yt]
    rfl
  ·rintro σ H' ⟨_,sm,hDs⟩
   refine ⟨D,_,rfl,Sw.of hDs,?_⟩
   rw [show (yw (ls.map V.int).length true).all id=true by simp]
   exact k _ sm
theorem Jyw:Jkd ["thing"] ["thing"] (Jk9 (top 20)):=⟨rfl,rfl,rfl,by decide +kernel,rfl,by decide +kernel,by decide +kernel⟩
theorem Jyn (T:Tx K mg a):Sx P w K mg base CX0 1 a.Jfu a.Jfv ["thing"] Yef:=by
 refine T.J4.fn.ok Jyw (λvs H Q E h=>?_) (λcdv A outer s H vs Q E hr h=>?_)
 ·obtain ⟨p,x,y,rfl,_⟩:=h
  rfl
 ·obtain ⟨p,x,y,rfl,hp,k⟩:=h
  refine ⟨?t,?B,?C⟩
  case B=>
   refine' Jk7 ?a
   case a=>exact (Jkg (Jwd (Jke Jlw (by rfl) T.Jat Jkq (So (pv 0) (So (Jm6 (v:=.ty "tuple") (by rfl) T.Jb2 Jm3 rfl) Ss))) (Jwf (Jmw Jnw (Jke Jkp (by rfl) T.Jau Jlg (So (pv 0) Ss)) Sy (Jkt _)))))
  refine ⟨_,rfl,_,_,_,.type "tuple",true,rfl,rfl,.of (.tup hp),rfl,_,rfl,Jmb ?_⟩
  exact ⟨_,rfl,p,_,rfl,.inr (SqT.of hp),rfl,k⟩
theorem Jtp:Jkd ["river","thing"] ["river","thing"] (Jk9 (top 21)):=⟨rfl,rfl,rfl,by decide +kernel,rfl,by decide +kernel,by decide +kernel⟩
theorem Jte (T:Tx K mg a):Sx P w K mg base CX0 3 a.Jfw a.Jfx ["river","thing"] (Ycm a):=by
 have Sh8:=Jyn (P:=P) (w:=w) (base:=base) T
 have Sa5:=Jm0 (P:=P) (w:=w) (base:=base) T
 have Si4:=Yj (P:=P) (w:=w) (base:=base) T
 refine T.J5.fn.ok Jtp (λvs H Q E h=>?_) (λcdv A outer s H vs Q E hr h=>?_)
 ·obtain ⟨r,y,s',Bs,c,g,wt,ls,rfl,_⟩:=h
  rfl
 ·obtain ⟨r,y,s',Bs,c,g,wt,ls,rfl,rv,l16,hy,hs,lg,hw,k⟩:=h
  obtain ⟨dx,b,t,os,hr0,hb,pr⟩:=id rv
  have len:=Paired.length pr
  have ll:=lg.1
  refine ⟨?t,?B,?C⟩
  case B=>
   refine' Jk6 ?a ?b
   case a=>
    refine' Jku ?c ?d ?e
    case c=>exact (PW.pt (Jop (Jl3 (Jkx (Jkc T.J4 Sh8 hr (by decide) (So (pv 1) Ss)))) (Jo2 (Jl3 (Jkx (Jkc T.J0 Sa5 hr (by decide) (So (Jkm Jkw (pv 1) Sy (λ_ _=>rfl)) (So Sy (So (Jlh (pv 0) (by rfl)) Ss)))))))))
    case d=>
     refine' Jk7 ?f
     case f=>exact (Jkg Jmf)
    case e=>exact Jki
   case b=>
   refine' Jk7 ?g
   case g=>exact (Jkg (Jkc T.J3 Si4 hr (by decide) (So (Jkm Jkw (pv 1) Sy (λ_ _=>rfl)) (So (Jl4 (N:=(["basin"]:List Str)) (ini:=[none]) rfl (Jyr (Jlh (pv 0) (by rfl))) (λ_ _ _ _ _=>(Jkf (i:=0) (by decide +kernel:(["basin"]:List Str).Nodup) rfl (ye rfl))) (λ_ _ _ _ _=>Jky) (λ_ _ _ _ _=>(Jmh (K:=K) rfl (pv 0) (by rfl)))) (So (Jl4 (N:=(["basin"]:List Str)) (ini:=[none]) rfl (Jyr (Jlh (pv 0) (by rfl))) (λ_ _ _ _ _=>(Jkf (i:=0) (by decide +kernel:(["basin"]:List Str).Nodup) rfl (ye rfl))) (λ_ _ _ _ _=>Jky) (λ_ _ _ _ _=>(Jmh (K:=K) rfl (pv 0) (by rfl)))) Ss)))))
  refine ⟨_,rfl,y,_,_,rfl,hy,_,rfl,Jlb ?_⟩
  refine ⟨_,rfl,y,_,1,_,rfl,rfl,SqT.of hy,rfl,_,rfl,r,_,dx,_,_,rfl,hr0,T.Jdu,T.Jee,rfl,.int wt,0,c,rfl,.inl ⟨wt,rfl⟩,_,rfl,?_⟩
  rw [Jlz hw.1 hw.2]
  refine Jlb ?_
  refine ⟨_,rfl,y,_,0,_,rfl,rfl,SqT.of hy,rfl,_,rfl,r,_,dx,_,_,rfl,hr0,T.Jdu,T.Jeg,rfl,b,rfl,⟨_,SqT.of hb⟩,λD hD=>?_⟩
  refine Jrj ((Bs.map (·.lo)).map V.int) hD (by simp [len]) (by simp;omega) hb ?_ ?_
  ·intro i x y' H' Q' hx hy' sm k'
   rw [ym] at hx
   obtain ⟨o,ho,rfl⟩:=yy.mp hx
   obtain ⟨B,hB,bx⟩:=Jl6 pr ho
   rw [ym,ym,hB] at hy'
   cases hy'
   obtain ⟨dx',g',h1,_⟩:=bx.same sm
   exact ⟨_,rfl,o,_,dx',_,_,rfl,h1,T.Jdp,T.Je7,rfl,k' _ (Sn.refl _)⟩
  intro H1 s1 hD1
  refine ⟨_,rfl,r,_,dx,_,_,rfl,s1 _ _ hr0,T.Jdu,T.Jeg,rfl,b,rfl,⟨_,SqT.of (s1 _ _ hb)⟩,λD2 hD2=>?_⟩
  refine Jrj ((Bs.map (·.hi)).map V.int) hD2 (by simp [len]) (by simp;omega) (s1 _ _ hb) ?_ ?_
  ·intro i x y' H' Q' hx hy' sm k'
   rw [ym] at hx
   obtain ⟨o,ho,rfl⟩:=yy.mp hx
   obtain ⟨B,hB,bx⟩:=Jl6 pr ho
   rw [ym,ym,hB] at hy'
   cases hy'
   obtain ⟨dx',g',h1,_⟩:=(bx.same s1).same sm
   exact ⟨_,rfl,o,_,dx',_,_,rfl,h1,T.Jdp,T.Je8,rfl,k' _ (Sn.refl _)⟩
  intro H2 s2 hD2'
  refine ⟨s',D,D2,ls,Bs.map (·.lo),Bs.map (·.hi),rfl,s2 _ _ (s1 _ _ hs),s2 _ _ hD1,hD2',by simp [ll],by simp [ll],by omega,λi x yl yh hx hl hh=>?_,λH3 s3=>k _ ((s1.trans s2).trans s3)⟩
  rw [ym] at hl hh
  obtain ⟨B,hB,rfl⟩:=yy.mp hl
  rw [hB] at hh
  cases hh
  exact lg.2 i B x hB hx
theorem Scs:Jkd ["levels","by_basin","place"] ["levels","by_basin"] (Jk9 (top 37)):=⟨rfl,rfl,rfl,by decide +kernel,rfl,by decide +kernel,by decide +kernel⟩
theorem Jp0 (T:Tx K mg a):Sx P w K mg base (CXX P w) 3 a.Jgm a.Jgn ["levels","by_basin"] (Sma a):=by
 have Sfn:=Ju7 (P:=P) (w:=w) (base:=base) T
 have Scj:=Jqx (P:=P) (w:=w) (base:=base) T
 refine T.Ji.fn.okX Scs (λvs H Q E h=>?_) (λcdv A outer s H vs Q E hr h=>?_)
 ·obtain ⟨s',d,Bs,ns,ls,ps,rfl,_⟩:=h
  rfl
 ·obtain ⟨s',d,Bs,ns,ls,ps,rfl,hs,lg,hd,rg,hpl,hps,k1,k2⟩:=h
  refine ⟨?t,?B,?C⟩
  case B=>
   refine' Jk6 ?a ?b
   case a=>exact (Jkh (i:=2) Scs.nd rfl (ye rfl) (Jkc T.Jh Sfn hr (by decide) (So (pv 0) (So (pv 1) Ss))))
   case b=>
   refine' Jk7 ?c
   case c=>
   refine' Jku ?d ?e ?f
   case d=>exact (Jkr Jsk (pv 2) Jlu (Jkt _))
   case e=>
    refine' Jk7 ?g
    case g=>exact (Jll Jlp rfl (Jmn T.Jcz Scj hr (by decide) T.Jcb.bd T.Jbc (So (pv 2) Ss)))
   case f=>exact Jki
  refine ⟨_,rfl,_,rfl,s',d,Bs,ns,ls,ps,rfl,hs,lg,hd,rg,hpl,hps,λe H1 s1=>?_,λe i H1 hi s1=>?_⟩
  ·exact ⟨_,rfl,rfl,_,rfl,ifF (by rfl) (k1 e _ s1)⟩
  ·refine ⟨_,rfl,rfl,_,rfl,ifT (by rfl) ?_⟩
   refine Jnn T.Jcz T.Je0 rfl λe' dx' h1 h2 h3=>?_
   refine k2 e i e' dx' _ hi ?_ Sv ?_
   ·rw [Jn8]
    intro b' o' q
    have q':=s1 _ _ q
    rw [Sz (Jkb q' h1),Sz (Jkb q' h2)]
    exact q'
   ·rw [Sz h3,Sz h3,Sv]
theorem Jom:Jou ["standing","k","by_basin","river"] ["standing","k"] ["by_basin","river"] (Jk9 (nst (top 38) 3)):=⟨rfl,rfl,rfl,by decide +kernel,rfl,by decide +kernel,by decide +kernel,by decide +kernel⟩
theorem Yk (T:Tx K mg a) (f:S5):Jrv P w K mg base (CXX P w) 4 f (Jzs "keeper" "local_keeper.<locals>.keeper" (nst (top 38) 3) ["by_basin","river"] (Sph a) f):=by
 have Set:=Jte (P:=P) (w:=w) (base:=base) T
 have Scg:=Jq9 (P:=P) (w:=w) (base:=base) T
 have Sc0:=Jp0 (P:=P) (w:=w) (base:=base) T
 refine Yak Jom (λ_ _ _ _ _ us hl=>match us,hl with| [_,_],_=>rfl) (λcs vs H Q E h=>?_) (λf c clos A outer s H vs cs Q E hr h=>?_) f
 ·obtain ⟨d,r,y,s',x,Bs,c,g,wt,ns,ls,rfl,rfl,_⟩:=h
  exact ⟨rfl,rfl⟩
 ·obtain ⟨d,r,y,s',x,Bs,cl,g,wt,ns,ls,rfl,rfl,rv,rg,⟨ps,hd,hpl,hps⟩,hy,hs,lg,hw,k,kx⟩:=h
  have l16:=rg.len
  have ll:=lg.1
  refine ⟨?t,?B,?C⟩
  case B=>
   refine' Jk6 ?a ?b
   case a=>
    refine' Jku ?c ?d ?e
    case c=>exact (Jl3 (Jkx (Jkc T.J5 Set hr (by decide) (So (pv 3) (So (pv 0) Ss)))))
    case d=>
     refine' Jk7 ?f
     case f=>exact (Jll Yd8 rfl (Jmn T.Jcx Scg hr (by decide) T.Jc9.bd T.Jba (So (pv 0) Ss)))
    case e=>exact Jki
   case b=>
   refine' Jk6 ?g ?h
   case g=>exact (Jlv (Jmg T.Ji Sc0 Yd8 hr (by decide) (So (Jkm Jkw (pv 0) Sy (λ_ _=>rfl)) (So (pv 2) Ss))))
   case h=>
   refine' Jk7 ?i
   case i=>exact (Jkg (Jm2 (So (Jla Jlt (by rfl) T.Jb2 Jm3 (So (Jl4 (N:=(["by_level","level"]:List Str)) (ini:=[none,none]) rfl (Ydv false true (by rfl) T.Jb3 (So (pv 2) (So (Jkm Jkw (pv 0) Sy (λ_ _=>rfl)) Ss))) (λ_ _ _ _ _=>(Jpl (K:=K) (n:=2) rfl rfl (Jkv (Jkf (i:=0) (by decide +kernel:(["by_level","level"]:List Str).Nodup) rfl (ye rfl)) (Jkv (Jkf (i:=1) (by decide +kernel:(["by_level","level"]:List Str).Nodup) rfl (ye rfl)) Jmx)))) (λ_ _ _ _ _=>Jky) (λ_ _ _ _ _=>(Yo (P:=P) (w:=w) rfl rfl (pv 0) (pv 1) (λ_ _=>rfl)))) Ss)) (So Jlu Ss))))
  refine ⟨_,rfl,_,rfl,r,y,s',Bs,cl,g,wt,ls,rfl,rv,l16.2,hy,hs,lg,hw,λH1 s1=>⟨_,rfl,Jlb ?_⟩⟩
  refine ⟨_,rfl,y,_,0,_,rfl,rfl,SqT.of (s1 _ _ hy),rfl,_,rfl,s',d,Bs,ns,ls,ps,rfl,s1 _ _ hs,lg,s1 _ _ hd,rg,hpl,λi B p e1 e2=>(hps i B p e1 e2).same s1,λhp H2 s2=>?_,λe i eo dxo H2 hi s2 q1 q2=>kx e i eo dxo _ hi (s1.trans s2) q1 q2⟩
  have s12:=s1.trans s2
  refine ⟨_,rfl,_,rfl,y,_,0,_,rfl,rfl,SqT.of (s12 _ _ hy),rfl,d,s',rfl,⟨_,Sw.of (s12 _ _ hd)⟩,⟨_,SqT.of (s12 _ _ hs)⟩,λD hD=>?_⟩
  have sk:∀(i:Nat) B l,Bs[i]?=some B->ls[i]?=some l->(Jnb Bs ns ls)[i]?=some (Jlo B ((Jly ns).getD i 0) (ns.getD i 0) (l - B.lo).toNat)/\Jno B ((Jly ns).getD i 0) (ns.getD i 0) l=true:=by
   intro i B l hB hl
   have il:i < Bs.length:=(yq.mp hB).1
   have ev:ls.getD i 0=l:=by rw [yaj,hl];rfl
   refine ⟨?_,?_⟩
   ·unfold Jnb
    rw [ym,List.getElem?_range il]
    show some (match Bs[i]? with|some B=>Jlo B ((Jly ns).getD i 0) (ns.getD i 0) (ls.getD i 0 - B.lo).toNat|none=>0)=_
    rw [hB,ev]
   ·have q:=hp
    unfold hldP at q
    rw [yau] at q
    have q2:=q i (yae.mpr il)
    rw [hB] at q2
    have q3:Jno B ((Jly ns).getD i 0) (ns.getD i 0) (ls.getD i 0)=true:=q2
    rw [ev] at q3
    exact q3
  refine Y5 (K:=K) (l1:=d) (l2:=s') (b1:=false) (b2:=true) (xs:=ps.map V.ref) (ys:=ls.map V.int) (D:=D) (λi σ H'=>(∃o1 o2,σ= [o1,o2])/\Sn H2 H'/\H' D=some (.lst (((Jnb Bs ns ls).take i).map V.int))) ⟨⟨_,_,rfl⟩,Sn.upd hD,Sv⟩ (λi σ H' _ ⟨_,sm,_⟩=>⟨Sw.of (sm _ _ (s12 _ _ hd)),SqT.of (sm _ _ (s12 _ _ hs))⟩) (by simp;omega) ?_ ?_
  ·rintro i u v σ H' T1 hu hv ⟨⟨o1,o2,rfl⟩,sm,hDs⟩ hT
   rw [ym] at hu hv
   obtain ⟨p,hpi,rfl⟩:=yy.mp hu
   obtain ⟨l,hl,rfl⟩:=yy.mp hv
   have il:i < ls.length:=(yq.mp hl).1
   have hB:Bs[i]?=some (Bs[i]'(by omega)):=yp _
   generalize Bs[i]'(by omega)=B at hB
   obtain ⟨k1,k2⟩:=sk i B l hB hl
   have rb:=lg.2 i B l hB hl
   have val:=Sk3 rb ((Jly ns).getD i 0) (ns.getD i 0)
   rw [if_pos k2] at val
   obtain ⟨ob,e⟩:=hps i B p hB hpi
   have sT:=Sn.upd (o:=.tup [.ref p,.int l]) hT
   refine Spt (SqT.of Sv) ⟨_,rfl,_,rfl,p,_,yaa l,_,rfl,.inr (.inl ⟨ob,sT _ _ (sm _ _ (s12 _ _ e))⟩),rfl,val,_,sT _ _ hDs,?_,⟨_,_,rfl⟩,?_,?_⟩
   ·rw [yf,yah]
    exact Jkk (by omega)
   ·intro c2 o' z
    rw [Sz (Jkb z hD)]
    exact sT _ _ (sm _ _ z)
   ·rw [Sv,yan,k1,yt]
    rfl
  ·rintro σ H' ⟨_,sm,hDs⟩
   have sl:(Jnb Bs ns ls).length=Bs.length:=by unfold Jnb;rw [yf,yaw]
   rw [yf,yat (by omega)] at hDs
   refine ⟨D,_,rfl,.inl ⟨Sw.of hDs,λU hU=>⟨(show 2<=Sa by decide),λT1 hT1=>?_⟩⟩⟩
   exact k hp T1 U _ ((s12.trans sm).trans ((Sn.upd hU).trans (Sn.upd hT1))) Sv (Sn.upd hT1 _ _ Sv)
theorem Sbm:Jkd ["river","numbers","by_basin","keeper"] ["river","numbers"] (Jk9 (top 38)):=⟨rfl,rfl,rfl,by decide +kernel,rfl,by decide +kernel,by decide +kernel⟩
theorem Jsg (T:Tx K mg a) (B:Bmn mg base):Sx P w K mg base (CXX P w) 8 a.Jgo a.Jgp ["river","numbers"] (Yeb a):=by
 have Ser:=Jtb (P:=P) (w:=w) (base:=base) T
 have Sb1:=Jo9 (P:=P) (w:=w) (base:=base) T
 have Seu:=Jtg (P:=P) (w:=w) T B
 have Sc0:=Jp0 (P:=P) (w:=w) (base:=base) T
 refine T.Jj.fn.okN T.Jek Sbm (λvs H Q E h=>?_) (λA outer s H vs Q E hr h=>?_)
 ·obtain ⟨r,l,Bs,c,g,ns,rfl,_⟩:=h
  rfl
 ·obtain ⟨r,l,Bs,c,g,ns,rfl,ht,htk,rv,rg,hl,ng,k1,k2⟩:=h
  have l16:=rg.len
  refine ⟨?t,?B,?C⟩
  case B=>
   refine' Jwc ?a ?b
   case a=>
    refine' Jku ?c ?d ?e
    case c=>exact (Jl3 (Jkx (Jkc T.Jf Ser hr (by decide) (So (pv 0) (So (pv 1) Ss)))))
    case d=>
     refine' Jk7 ?f
     case f=>exact (Jll Jlp rfl (Jmn T.Jcy Sb1 hr (by decide) T.Jca.bd T.Jbb (So (pv 1) Ss)))
    case e=>exact Jki
   case b=>
   refine' Jwc ?g ?h
   case g=>exact (Jkh (i:=2) Sbm.nd rfl (yal rfl) (Jkc T.Jg Seu hr (by decide) (So (pv 0) (So (pv 1) Ss))))
   case h=>
   refine' Jwc ?i ?j
   case i=>exact (Jlv (Jmg T.Ji Sc0 Jlp hr (by decide) (So (Jkm Jkw (Jpk (pv 0) hr) Sy (λ_ _=>rfl)) (So (pv 2) Ss))))
   case j=>
   refine' Ybj (st:=nst (top 38) 3) (name:="keeper") (qual:="local_keeper.<locals>.keeper") (i:=3) (lb:=lb_local_keeper) (caps:=[("by_basin",2),("river",0)]) T.Jek B rfl rfl rfl rfl rfl (by rfl) Yb9 (λ_=>Jzo) Sbm.nd rfl rfl (by intro y hy;simp only [yn,yx,or_false] at hy;rcases hy with rfl|rfl <;> exact ⟨rfl,by decide,rfl,rfl,rfl⟩) (by decide +kernel) ?k
   case k=>
   refine' PSs.pb ?l
   case l=>
   refine' Jk7 ?m
   case m=>exact (Jkg (pv 3))
  refine ⟨_,rfl,_,rfl,r,l,Bs,c,g,ns,rfl,rv,hl,ng,l16.2,λH1 s1=>⟨_,rfl,Jlb ?_⟩⟩
  refine ⟨_,rfl,_,rfl,r,l,Bs,c,g,ns,rfl,s1 _ _ ht,rv.same s1,rg,s1 _ _ hl,ng,λd ps H2 s2 hd hpl hps=>?_⟩
  have s12:=s1.trans s2
  obtain ⟨dx,b,t,os,hr0,hb,pr⟩:=id (rv.same s12)
  refine ⟨_,rfl,r,_,dx,_,_,_,_,_,1,rfl,hr0,rfl,T.Jdu,T.Jdw,Jqb T,by decide,T.Jcr.bd,r,Bs,c,g,rfl,rv.same s12,l16.2,λt1 S H3 s3 ht1 hS=>?_⟩
  refine ⟨t1,_,0,_,rfl,rfl,SqT.of ht1,rfl,_,rfl,S,d,Bs,ns,_,ps,rfl,hS,LvG.start rg.all,s3 _ _ hd,rg,hpl,λi B p e1 e2=>(hps i B p e1 e2).same s3,λe H4 s4=>?_,λe i eo dxo H4 hi s4 q1 q2=>k2 (by rw [<-Jq6];exact e) i eo dxo _ hi ((s12.trans s3).trans s4) q1 q2⟩
  rw [Jq6] at e
  have s04:=(s12.trans s3).trans s4
  refine ⟨s04 _ _ htk,[.ref d,.ref r],?_,rfl,λf H' s' hf clo=>?_⟩
  ·intro y hy
   simp only [List.zip_cons_cons,List.zip_nil_right,yn,yx,or_false] at hy
   rcases hy with rfl|rfl <;> rfl
  ·exact ⟨_,rfl,k1 e f d H' (s04.trans s') ⟨⟨ps,s' _ _ (s4 _ _ (s3 _ _ hd)),hpl,λi B p e1 e2=>(((hps i B p e1 e2).same s3).same s4).same s'⟩,clo⟩⟩
def Sco (B:BTd) (lost:List (Option Int)) (kvs:List (Key×V)):Prop:=∀e:Int,B.lo<=e->e<=B.hi->(Jn4 kvs (yaa e)).isSome=(lost.getD (e - B.lo).toNat none).isSome
def Jr5 (B:BTd) (up left:Int) (lost:List (Option Int)):Bool:=(yv (up+B.rn+1).toNat).all λc:Nat=>okE lost (Jns B (left+c))
def Spg:Sp:=λvs H Q _=>∃(t L:S5) (B:BTd) (up left:Int) (kvs:List (Key×V)) (lost:List (Option Int)),vs= [.ref t,.int up,.int left,.ref L]/\Sdh H t B/\BGd B/\(0<=up/\up<=12)/\H L=some (.dK kvs)/\Sco B lost kvs/\
 (Jr5 B up left lost=true->Q .non H)/\(Jr5 B up left lost=false->∀i:Int,Q (.int i) H)
theorem Sed:Jkd ["_law_told","_law_up","_law_left","_law_lost_here","_law_more"] ["_law_told","_law_up","_law_left","_law_lost_here"] (Jk9 (top 74)):=⟨rfl,rfl,rfl,by decide +kernel,rfl,by decide +kernel,by decide +kernel⟩
theorem Jtf (T:Tx K mg a):Sx P w K mg base CX0 1 a.Jie a.Jif ["_law_told","_law_up","_law_left","_law_lost_here"] Spg:=by
 refine T.Jy.fn.ok Sed (λvs H Q E h=>?_) (λcdv A outer s H vs Q E hr h=>?_)
 ·obtain ⟨t,L,B,up,left,kvs,lost,rfl,_⟩:=h
  rfl
 ·obtain ⟨t,L,B,up,left,kvs,lost,rfl,⟨m,ht,hm,sv⟩,bg,hup,hL,ld,k1,k2⟩:=h
  have hu64:=Jnt hr
  have b3:=bg.rn
  refine ⟨?t,?B,?C⟩
  case B=>
   refine' Jk6 ?a ?b
   case a=>
    refine' Jma ?c ?d ?e ?f ?g
    case c=>exact PassesOwn.never
    case d=>exact rfl
    case e=>exact (Jlj (by rfl) T.Jay (So (Jkl Jl0 (Jkl Jl0 (pv 1) (Jkm Jkw (pv 0) Sy (λ_ _=>rfl))) Sy) Ss))
    case f=>exact (Jkf (i:=4) Sed.nd rfl (ye rfl))
    case g=>
    refine' Jk7 ?h
    case h=>
    refine' Jku ?i ?j ?k
    case i=>exact (PW.pt (Jop (Jl3 (Jr4 Jnl Jnl (Jkm Jkw (pv 0) Sy (λ_ _=>rfl)) (Jkl Jl0 (pv 2) (pv 4)) (Jkm Jkw (pv 0) Sy (λ_ _=>rfl)))) (Jo2 (Jkr (Jth hu64) (Jkl Jl0 (pv 2) (pv 4)) (pv 3) (by with_unfolding_all rfl)))))
    case j=>
     refine' Jk7 ?l
     case l=>exact (Jkg (pv 4))
    case k=>exact Jki
   case b=>
   refine' Jk7 ?m
   case m=>exact (Jkg Jlu)
  refine ⟨_,rfl,_,rfl,t,_,4,_,rfl,rfl,SqT.of ht,rfl,_,_,rfl,rfl,_,_,rfl,rfl,_,rfl,by omega,by omega,?_⟩
  have bad:∀i:Nat,i < (up+B.rn+1).toNat->okE lost (Jns B (left+i))=false->Jr5 B up left lost=false:=λi hi e=>by
   unfold Jr5
   rw [List.all_eq_false]
   exact ⟨i,yae.mpr hi,by rw [e];simp⟩
  refine Jn2 (lo:=0) (λi σ H'=>(∃o,σ= [some (.ref t),some (.int up),some (.int left),some (.ref L),o])/\H'=H/\∀c:Nat,c < i->okE lost (Jns B (left+c))=true) ⟨⟨_,rfl⟩,rfl,λc h=>absurd h (ycn _)⟩ ?_ ?_
  ·rintro i σ H' hi ⟨⟨o,rfl⟩,rfl,all⟩
   have zi:(0+(i:Int))=i:=by omega
   rw [zi]
   refine ⟨_,rfl,t,_,1,_,rfl,rfl,SqT.of ht,rfl,_,rfl,_,rfl,_,_,rfl,rfl,_,_,rfl,rfl,_,rfl,?_⟩
   have out:¬(B.lo<=left+i/\left+i<=B.hi)->Jr5 B up left lost=false:=λh=>bad i hi (by unfold Jns;rw [if_neg h];rfl)
   refine Jnd (λc1=>?_) (λc1=>?_)
   ·have c1':=of_decide_eq_true c1
    refine ⟨_,rfl,t,_,2,_,rfl,rfl,SqT.of ht,rfl,_,_,rfl,rfl,_,rfl,?_⟩
    by_cases c2:left+i<=B.hi
    ·have e2:decide (left+(i:Int)<=B.hi)=true:=decide_eq_true c2
     show if (!decide (left+(i:Int)<=B.hi))=true then _ else _
     rw [e2]
     refine Jlb ?_
     refine ⟨_,rfl,_,rfl,_,_,rfl,rfl,_,rfl,L,_,rfl,.inl ⟨_,yaa (left+i),.inl hL,rfl,rfl⟩,_,rfl,?_⟩
     have ed:=ld (left+i) c1' c2
     have eo:Jns B (left+i)=some (left+i - B.lo):=by unfold Jns;rw [if_pos ⟨c1',c2⟩]
     rw [ed]
     cases hc:lost.getD (left+i - B.lo).toNat none with
     |none=>
      refine Jlb ⟨⟨_,rfl⟩,rfl,λc hc'=>?_⟩
      by_cases z:c < i
      ·exact all c z
      ·have:c=i:=by omega
       subst this
       rw [eo]
       show (lost.getD (left+c - B.lo).toNat none).isNone=true
       rw [hc]
       rfl
     |some q=>
      refine Jmb ⟨_,rfl,k2 (bad i hi ?_) _⟩
      rw [eo]
      show (lost.getD (left+i - B.lo).toNat none).isNone=false
      rw [hc]
      rfl
    ·have e2:decide (left+(i:Int)<=B.hi)=false:=decide_eq_false c2
     show if (!decide (left+(i:Int)<=B.hi))=true then _ else _
     rw [e2]
     exact Jmb (Jmb ⟨_,rfl,k2 (out λz=>c2 z.2) _⟩)
   ·have c1':¬B.lo<=left+i:=λz=>c1 (decide_eq_true z)
    refine ⟨_,rfl,Jmb (Jmb ⟨_,rfl,k2 (out λz=>c1' z.1) _⟩)⟩
  ·rintro σ H' ⟨_,rfl,all⟩
   refine k1 ?_
   unfold Jr5
   rw [yau]
   intro c hc
   exact all c (yae.mp hc)
theorem Jxl (B:BTd) (up lv s:Int) (lost:List (Option Int)):Jr5 B up (lv - lvG B.G s lv) lost=Jln B up lv lost s:=by
 unfold Jr5 Jln Jxk Jms
 rw [List.all_map]
 rfl
theorem Yal (B:BTd) (up hi:Int) (lost:List (Option Int)) (n:Nat):Jmk B up hi lost n=((usable B hi (B.lo+n)).filter (Jln B up (B.lo+n) lost)).isEmpty:=by
 unfold Jmk
 cases hc:(usable B hi (B.lo+n)).filter (Jln B up (B.lo+n) lost) with
 |nil=>
  show _=true
  rw [Bool.not_eq_true',List.any_eq_false]
  intro x hx
  exact List.filter_eq_nil_iff.mp hc x hx
 |cons x xs=>
  show _=false
  have hx:x∈(usable B hi (B.lo+n)).filter (Jln B up (B.lo+n) lost):=by rw [hc];exact yar ..
  obtain ⟨h1,h2⟩:=ybs.mp hx
  rw [Bool.not_eq_false',ycm]
  exact ⟨x,h1,h2⟩
theorem Sco.put {B:BTd} {l:List (Option Int)} {kvs:List (Key×V)} {n:Nat} {r:Int} (h:Sco B l kvs) (hl:l.length=nLv B) (hn:n < nLv B) {kvs':List (Key×V)} (hk:∀e:Int,(Jn4 kvs' (yaa e)).isSome=((Jn4 kvs (yaa e)).isSome||decide (e=B.lo+n))):Sco B (l.set n (some r)) kvs':=by
 intro e h1 h2
 rw [hk e,h e h1 h2]
 by_cases q:e=B.lo+n
 ·subst q
  have e1:(B.lo+(n:Int) - B.lo).toNat=n:=by omega
  rw [e1]
  have:n < l.length:=by omega
  simp [yaj,this]
 ·have e1:(e - B.lo).toNat≠n:=λz=>q (by omega)
  rw [decide_eq_false q,yce]
  simp [yaj,ycr (yi e1)]
theorem Jst {K:Si} {H:Hp}:∀ns:List Int,Scd K H (ns.map V.int) (ns.map PyData.int)
 | []=>.nil
 |_::r=>.cons (.int _) (Jst r)
theorem Jls (ns:List Int):SeqAt.shaped (.list (ns.map PyData.int))=true:=by
 have e1:∀l:List Int,PyData.canLayAll0 (l.map PyData.int)=true:=by
  intro l
  induction l with
  |nil=>rfl
  |cons c r ih=>simp only [yas,PyData.canLayAll0,PyData.canLay0,ih,Bool.and_self]
 have e2:∀l:List Int,PyData.depthAll (l.map PyData.int)=0:=by
  intro l
  induction l with
  |nil=>rfl
  |cons c r ih=>simp [PyData.depthAll,PyData.depth,ih]
 simp [SeqAt.shaped,PyData.canLay0,PyData.depth,e1 ns,e2]
theorem Jx2 (ns:List Int):PyData.eqv (.list (ns.map PyData.int)) (.list [])=ns.isEmpty:=by
 cases ns <;> rfl
theorem Ybw (kvs:List (Key×V)) (k:Key) (v:V):(Jqh kvs k v).length<=kvs.length+1:=by
 unfold Jqh
 split <;> simp
def frL (B:BTd) (up hi:Int) (l:List (Option Int)) (i:Nat):List Int:=((yv i).filter λn=>(l.getD n none).isNone&&Jmk B up hi l n).map λn:Nat=>B.lo+(n:Int)
theorem Jsv (B:BTd) (up hi:Int) (l:List (Option Int)) (i:Nat):frL B up hi l (i+1)=frL B up hi l i++(if ((l.getD i none).isNone&&Jmk B up hi l i)=true then [B.lo+(i:Int)] else []):=by
 unfold frL
 rw [ybq,ybr,yt]
 congr 1
 by_cases c:((l.getD i none).isNone&&Jmk B up hi l i)=true
 ·rw [ybz,if_pos c,if_pos c];rfl
 ·rw [ybz,if_neg c,if_neg c];rfl
theorem Ydh (B:BTd) (up hi:Int) (l:List (Option Int)) (i:Nat):(frL B up hi l i).length<=i:=by
 unfold frL
 rw [yf]
 refine yab (ybi _ _) ?_
 rw [yaw]
 exact yg _
def Sol (B:BTd) (up hi:Int) (H:Hp) (t L:S5):Nat->L2.St->Hp->Prop:=λm σ H'=>∃(l:List (Option Int)) (r:Int) (fl:Bool) (kvs:List (Key×V)) (o6 o7 o8 o9 o10:Option V),
 σ= [some (.ref t),some (.int up),some (.int hi),some (.ref L),some (.int r),some (.bl fl),o6,o7,o8,o9,o10]/\Sn H H'/\H' L=some (.dK kvs)/\Sco B l kvs/\l.length=nLv B/\kvs.length+13*Jli l<=169/\
 ((fl=true/\m=Jli l+1/\Jnk B up hi (Jli l+1) l r=Jlm B up hi)\/(fl=false/\m=0/\l=Jlm B up hi))
def Ye8:Sp:=λvs H Q _=>∃(t:S5) (B:BTd) (up hi:Int),vs= [.ref t,.int up,.int hi]/\Sdh H t B/\BGd B/\(0<=up/\up<=12)/\
 ∀(L:S5) (kvs:List (Key×V)) (H':Hp),Sn H H'->H' L=some (.dK kvs)->Sco B (Jlm B up hi) kvs->Q (.ref L) H'
theorem Sae:Jkd ["_law_told","_law_up","_law_hi","_law_lost_here","_law_number","_law_more","_law_some","_law_level","_law_good","_law_lefts","_law_safe"] ["_law_told","_law_up","_law_hi"] (Jk9 (top 75)):=⟨rfl,rfl,rfl,by decide +kernel,rfl,by decide +kernel,by decide +kernel⟩
theorem Js7 (T:Tx K mg a):Sx P w K mg base CX0 2 a.Jig a.Jih ["_law_told","_law_up","_law_hi"] Ye8:=by
 have Sby:=Js6 (P:=P) (w:=w) (base:=base) T
 have Sd6:=Jtf (P:=P) (w:=w) (base:=base) T
 refine T.Jz.fn.ok Sae (λvs H Q E h=>?_) (λcdv A outer s H vs Q E hr h=>?_)
 ·obtain ⟨t,B,up,hi,rfl,_⟩:=h
  rfl
 ·obtain ⟨t,B,up,hi,rfl,td,bg,hup,k⟩:=h
  have hu64:=Jnt hr
  have n13:=Jyj bg
  have b1:=bg.lo
  have b2:=bg.hi
  have b3:=bg.rn
  have n4:=Jt6 bg.G
  obtain ⟨mm,ht,hm,sv⟩:=id td
  have en:nOf B.G=B.G.ns.length:=by unfold nOf;rw [sv]
  refine ⟨?t,?B,?C⟩
  case B=>
   refine' Jk6 ?a ?b
   case a=>exact (Jkh (i:=3) Sae.nd rfl (yal rfl) Ybm)
   case b=>
   refine' Jk6 ?c ?d
   case c=>exact (Jkh (i:=4) Sae.nd rfl (ye rfl) Sy)
   case d=>
   refine' Jk6 ?e ?f
   case e=>exact (Jkh (i:=5) Sae.nd rfl (ye rfl) Jmf)
   case f=>
   refine' Jk6 ?g ?h
   case g=>exact (Jtl PassesOwn.never (Ybv (pv 5) (λ_=>rfl)) (Jk6 (Jkh (i:=4) Sae.nd rfl (ye rfl) (Jkl Jl0 (pv 4) Sy)) (Jk6 (Jkh (i:=6) Sae.nd rfl (ye rfl) (Jl1 Ss)) (Jk6 (Jma PassesOwn.never rfl (Yq (by rfl) T.Jay (So (Jkm Jkw (pv 0) Sy (λ_ _=>rfl)) (So (Jkl Jl0 (Jkm Jkw (pv 0) Sy (λ_ _=>rfl)) Sy) Ss))) (Jkf (i:=7) Sae.nd rfl (yal rfl)) (Jk6 (Jmj (i:=8) (N:=(["_law_setting","_law_hi","_law_told","_law_level"]:List Str)) (ini:=[none,some 2,some 0,some 7]) Sae.nd rfl (ye rfl) rfl (Jlj (by rfl) T.Jay (So (Jke Jkp (by rfl) T.Jau Jlg (So (Jkm Jkw (pv 0) Sy (λ_ _=>rfl)) Ss)) Ss)) (λ_ _ _ _ _=>(Jkf (i:=0) (by decide +kernel:(["_law_setting","_law_hi","_law_told","_law_level"]:List Str).Nodup) rfl (ye rfl))) (λ_ _ _ _ _=>(Jnx (Jkr Jnl (Jkc T.Jx Sby hr (by decide) (So (pv 2) (So (pv 0) (So (pv 3) Ss)))) (pv 1) (Jkt _)))) (λ_ _ _ _ _=>(pv 0))) (Jk6 (Jmj (i:=9) (N:=(["_law_setting","_law_level","_law_told"]:List Str)) (ini:=[none,some 7,some 0]) Sae.nd rfl (ye rfl) rfl (Jl5 (pv 8)) (λ_ _ _ _ _=>(Jkf (i:=0) (by decide +kernel:(["_law_setting","_law_level","_law_told"]:List Str).Nodup) rfl (ye rfl))) (λ_ _ _ _ _=>Jky) (λ_ _ _ _ _=>(Jkl Jm9 (pv 1) (Jkc T.Jx Sby hr (by decide) (So (pv 2) (So (pv 0) (So (pv 1) Ss))))))) (Jk6 (Jmj (i:=10) (N:=(["_law_left","_law_told","_law_up","_law_lost_here"]:List Str)) (ini:=[none,some 0,some 1,some 3]) Sae.nd rfl (ye rfl) rfl (Jl5 (pv 9)) (λ_ _ _ _ _=>(Jkf (i:=0) (by decide +kernel:(["_law_left","_law_told","_law_up","_law_lost_here"]:List Str).Nodup) rfl (ye rfl))) (λ_ _ _ _ _=>(Jnx (Jkr Jti (Jkc T.Jy Sd6 hr (by decide) (pa4 (pv 1) (pv 2) (pv 0) (pv 3))) Jlu (Jkt _)))) (λ_ _ _ _ _=>(pv 0))) (Jk7 (Jku (PW.pt (Jys (Jkr (Jo1 hu64) (pv 7) (pv 3) (by with_unfolding_all rfl)) (Jwi (Jkr (Jwb hu64) (pv 10) (Jl1 Ss) (Jkt _))))) (Jk7 (Jlv (Jq0 F.plainAttrs_list F.slot_list_append F.type_list_append Jlx (pv 6) (So (pv 7) Ss)))) Jki)))))) (Jk6 (Jma PassesOwn.never rfl (Jl5 (pv 6)) (Jkf (i:=7) Sae.nd rfl (yal rfl)) (Jk7 (Ys hu64 (pv 3) (pv 7) (pv 4) rfl))) (Jk7 (Jkh (i:=5) Sae.nd rfl (ye rfl) (Jmw (Ybg hu64) (pv 6) (Jl1 Ss) (Jkt _)))))))))
   case h=>
   refine' Jk7 ?i
   case i=>exact (Jkg (pv 3))
  intro L hL
  have sL:∀{H':Hp} {o:HO},Sn H H'->Sn H (upd H' L o):=λs b u z=>by rw [Sz (Jkb z hL)];exact s _ _ z
  refine ⟨Sol B up hi H t L,⟨_,yw (nLv B) none,0,true,[],none,none,none,none,none,rfl,Sn.upd hL,Sv,?_,by simp,?_,.inl ⟨rfl,rfl,?_⟩⟩,?_⟩
  ·intro e _ _
   rw [Yd0,yaj,ycw]
   split <;> rfl
  ·have:Jli (yw (nLv B) none)<=nLv B:=by
    unfold Jli
    refine yab (ycy ..) ?_
    simp
   simp
   omega
  ·refine Joi _ _ _ _ (by simp) (ybl _) ?_
   unfold Jli
   refine Nat.lt_succ_of_le (yab (ycy ..) ?_)
   simp
  rintro m σ' H' ⟨l,r,fl,kvs,o6,o7,o8,o9,o10,rfl,sm,hLd,ld,hl,hk,cs⟩
  refine ⟨_,rfl,fl,rfl,?_⟩
  rcases cs with ⟨rfl,rfl,hloop⟩|⟨rfl,rfl,rfl⟩
  ·refine Jmb ⟨λσ H'=>∃m',m' < Jli l+1/\Sol B up hi H t L m' σ H',λ_ _ h=>h,?_⟩
   refine ⟨_,rfl,_,_,rfl,rfl,?_⟩
   refine ⟨(show 0<=Sa by decide),λS hS=>?_⟩
   have hS0:H S=none:=by
    cases hc:H S with
    |none=>rfl
    |some u=>rw [sm _ _ hc] at hS;cases hS
   have nSL:S≠L:=λz=>by rw [z,hLd] at hS;cases hS
   have s1:Sn H (upd H' S (.lst [])):=sm.trans (Sn.upd hS)
   refine ⟨_,rfl,t,_,1,_,rfl,rfl,SqT.of (s1 _ _ ht),rfl,_,rfl,t,_,2,_,rfl,rfl,SqT.of (s1 _ _ ht),rfl,_,_,rfl,rfl,_,_,rfl,⟨by omega,by omega,by omega,by omega⟩,?_⟩
   refine Jn2 (lo:=B.lo) (λi σ H2=>(∃o7 o8 o9 o10,σ= [some (.ref t),some (.int up),some (.int hi),some (.ref L),some (.int (r+1)),some (.bl true),some (.ref S),o7,o8,o9,o10])/\Sn H H2/\H2 L=some (.dK kvs)/\H2 S=some (.lst ((frL B up hi l i).map V.int))) ⟨⟨_,_,_,_,rfl⟩,s1,by rw [Sz (yi nSL)];exact hLd,Sv⟩ ?_ ?_
   ·rintro i σ H2 hi' ⟨⟨o7,o8,o9,o10,rfl⟩,s2,hL2,hS2⟩
    have hi2:i < nLv B:=hi'
    have hi3:(i:Int) < B.hi+1 - B.lo:=by unfold nLv at hi2;omega
    generalize elv:B.lo+(i:Int)=lv
    have hlv:0<=lv/\lv<=1000:=by omega
    refine ⟨_,rfl,t,_,6,_,rfl,rfl,SqT.of (s2 _ _ ht),rfl,mm,_,rfl,.inl (Sw.of (s2 _ _ hm)),_,rfl,by rw [yf];omega,by rw [yf];omega,λD hD=>?_⟩
    refine Jmm (lo:=0) (λj σ H3=>(∃o,σ= [o,some (.int hi),some (.ref t),some (.int lv)])/\Sn H2 H3/\H3 D=some (.lst ((((yv j).map λk:Nat=>(k:Int)).filter λs=>decide (lvG B.G s lv<=hi)).map V.int))) ⟨⟨_,rfl⟩,Sn.upd hD,Sv⟩ ?_ ?_
    ·rintro j σ H3 hj ⟨⟨o1,rfl⟩,s3,hD3⟩
     have hj2:j < B.G.ns.length:=by simpa using hj
     have zj:(0+(j:Int))=j:=by omega
     rw [zj]
     refine ⟨_,rfl,_,rfl,_,rfl,t,B,(j:Int),lv,rfl,(td.same s2).same s3,bg.G,⟨by omega,by omega⟩,hlv,_,rfl,_,_,rfl,rfl,_,rfl,Jnd (λq=>?_) (λq=>?_)⟩
     ·refine ⟨_,rfl,_,hD3,?_,⟨_,rfl⟩,?_,?_⟩
      ·rw [yf]
       refine Jkk (yab (ybi _ _) ?_)
       simp
       omega
      ·intro c2 o' z
       rw [Sz (Jkb z hD)]
       exact s3 _ _ z
      ·rw [Sv,ybq,yt,ybr,yt]
       congr 3
       show _=List.map V.int (List.filter _ [(j:Int)])
       rw [ybz,if_pos q]
       rfl
     ·refine ⟨⟨_,rfl⟩,s3,?_⟩
      rw [hD3,ybq,yt,ybr,yt]
      congr 2
      show _=_++List.map V.int (List.filter _ [(j:Int)])
      rw [ybz,if_neg q]
      simp
    rintro σ3 H3 ⟨_,s3,hD3⟩
    have hD3:H3 D=some (.lst ((usable B hi lv).map V.int)):=by
     rw [hD3]
     unfold usable
     rw [en]
     simp
    have n5:=Jon B hi lv n4
    refine ⟨_,rfl,D,rfl,⟨_,Sw.of hD3⟩,λD2 hD2=>?_⟩
    refine Jml ((usable B hi lv).map λs=>V.int (lv - lvG B.G s lv)) hD2 (by simp) (by simp;omega) hD3 ?_ ?_
    ·intro j x y H4 Q' hx hy s4 k'
     rw [ym] at hx hy
     obtain ⟨u,hu,rfl⟩:=yy.mp hx
     rw [hu] at hy
     cases hy
     exact ⟨_,rfl,_,rfl,_,rfl,_,rfl,t,B,u,lv,rfl,((td.same s2).same s3).same s4,bg.G,Jqq (yad hu),hlv,_,_,rfl,rfl,k' _ (Sn.refl _)⟩
    intro H4 s4 hD4
    have hL4:=s4 _ _ (s3 _ _ hL2)
    refine ⟨_,rfl,D2,rfl,⟨_,Sw.of hD4⟩,λD3 hD3'=>?_⟩
    refine Jle (K:=K) (xs:=(usable B hi lv).map λs=>V.int (lv - lvG B.G s lv)) (λj σ H5=>(∃o,σ= [o,some (.ref t),some (.int up),some (.ref L)])/\Sn H4 H5/\H5 D3=some (.lst (((((usable B hi lv).take j).filter (Jln B up lv l)).map λs=>lv - lvG B.G s lv).map V.int))) ⟨⟨_,rfl⟩,Sn.upd hD3',Sv⟩ (λj σ H5 _ ⟨_,s5,_⟩=>Sw.of (s5 _ _ hD4)) ?_ ?_
    ·rintro j x σ H5 hx ⟨⟨o1,rfl⟩,s5,hD5⟩
     rw [ym] at hx
     obtain ⟨u,hu,rfl⟩:=yy.mp hx
     have il:j < (usable B hi lv).length:=(yq.mp hu).1
     have es:Jr5 B up (lv - lvG B.G u lv) l=Jln B up lv l u:=Jxl B up lv u l
     refine ⟨_,rfl,_,rfl,_,rfl,_,rfl,t,L,B,up,lv - lvG B.G u lv,kvs,l,rfl,(((td.same s2).same s3).same s4).same s5,bg,hup,s5 _ _ hL4,ld,λq=>?_,λq z=>?_⟩
     ·rw [es] at q
      refine ⟨rfl,_,rfl,ifT (by simp) ?_⟩
      refine ⟨_,rfl,_,hD5,?_,⟨_,rfl⟩,?_,?_⟩
      ·rw [yf,yf]
       refine Jkk (yab (ybi _ _) ?_)
       rw [yah]
       omega
      ·intro c2 o' z
       rw [Sz (Jkb z hD3')]
       exact s5 _ _ z
      ·rw [Sv,yan,hu,ybr,yt,yt]
       congr 3
       show _=List.map V.int (List.map _ (List.filter _ [u]))
       rw [ybz,if_pos q]
       rfl
     ·rw [es] at q
      refine ⟨rfl,_,rfl,ifF (by simp) ?_⟩
      refine ⟨⟨_,rfl⟩,s5,?_⟩
      rw [hD5,yan,hu,ybr,yt,yt]
      congr 2
      show _=_++List.map V.int (List.map _ (List.filter _ [u]))
      rw [ybz,if_neg (by rw [q];decide)]
      simp
    rintro σ5 H5 ⟨_,s5,hD5⟩
    rw [yf,ycl] at hD5
    have s25:=((s3.trans s4).trans s5)
    have hL5:=s25 _ _ hL2
    have hS5:=s25 _ _ hS2
    refine ⟨_,rfl,_,rfl,L,_,rfl,.inl ⟨_,yaa lv,.inl hL5,rfl,rfl⟩,_,rfl,?_⟩
    have ed:=ld lv (by omega) (by omega)
    rw [show (lv - B.lo).toNat=i by omega] at ed
    rw [ed]
    have ec:=Yal B up hi l i
    rw [elv] at ec
    cases hc:l.getD i none with
    |some v=>
     refine Jlb (Jlb ⟨⟨_,_,_,_,rfl⟩,s2.trans s25,hL5,?_⟩)
     rw [Jsv,hc,if_neg (by simp),yay]
     exact hS5
    |none=>
     refine Jmb ⟨_,rfl,(show 0<=Sa by decide),λE hE=>⟨_,_,.lst (Sw.of (Sn.upd hE _ _ hD5)) (Jst _),.lst (Sw.of Sv) .nil,Jls _,rfl,_,rfl,?_⟩⟩
     rw [if_neg yz,Jx2]
     have s5E:=Sn.upd (o:=.lst []) hE
     have ee:((List.map (λs=>lv - lvG B.G s lv) (List.filter (Jln B up lv l) (usable B hi lv))).isEmpty)=Jmk B up hi l i:=by
      rw [ec,List.isEmpty_map]
     rw [ee]
     refine Jnd (λq=>?_) (λq=>?_)
     ·have hS6:=s5E _ _ hS5
      refine ⟨_,rfl,.inl ⟨rfl,_,Sw.of hS6⟩,_,rfl,S,_,_,rfl,rfl,hS6,?_,⟨_,_,_,_,rfl⟩,?_,?_,?_⟩
      ·rw [yf]
       exact Jkk (yab (Ydh ..) (by omega))
      ·intro c2 o' z
       rw [Sz (Jkb z hS0)]
       exact s5E _ _ (s25 _ _ (s2 _ _ z))
      ·rw [Sz (yi nSL)]
       exact s5E _ _ hL5
      ·rw [Sv,Jsv,hc,q,if_pos (by rfl),yt,elv]
       rfl
     ·refine ⟨⟨_,_,_,_,rfl⟩,(s2.trans s25).trans s5E,s5E _ _ hL5,?_⟩
      rw [Jsv,hc,if_neg (by simpa using q),yay]
      exact s5E _ _ hS5
   ·rintro σ2 H2 ⟨⟨o7,o8,o9,o10,rfl⟩,s2,hL2,hS2⟩
    have hS2:H2 S=some (.lst (((Jko B up hi l).map λn:Nat=>B.lo+(n:Int)).map V.int)):=hS2
    refine ⟨_,rfl,S,rfl,⟨_,Sw.of hS2⟩,?_⟩
    refine Jnj (K:=K) (xs:=((Jko B up hi l).map λn:Nat=>B.lo+(n:Int)).map V.int) (λj σ H3=>(∃o7,σ= [some (.ref t),some (.int up),some (.int hi),some (.ref L),some (.int (r+1)),some (.bl true),some (.ref S),o7,o8,o9,o10])/\Sn H H3/\H3 S=some (.lst (((Jko B up hi l).map λn:Nat=>B.lo+(n:Int)).map V.int))/\∃kvs',H3 L=some (.dK kvs')/\Sco B (Jnp l ((Jko B up hi l).take j) (r+1)) kvs'/\kvs'.length<=kvs.length+j) ⟨⟨_,rfl⟩,s2,hS2,kvs,hL2,ld,yg _⟩ (λj σ H3 _ h=>Sw.of h.2.2.1) ?_ ?_
    ·rintro j x σ H3 hx ⟨⟨o7,rfl⟩,s3,hS3,kvs',hL3,ld3,hk3⟩
     rw [ym,ym] at hx
     obtain ⟨z,hz,rfl⟩:=yy.mp hx
     obtain ⟨n,hn,rfl⟩:=yy.mp hz
     have hn2:=Jrl hl (yad hn)
     have jl:j < (Jko B up hi l).length:=(yq.mp hn).1
     have f13:(Jko B up hi l).length<=13:=by
      unfold Jko
      refine yab (ybi _ _) ?_
      rw [yaw]
      exact n13
     refine ⟨_,rfl,_,rfl,_,rfl,L,_,rfl,Si2.k (k:=yaa (B.lo+(n:Int))) hL3 (Jkk (by omega)),⟨_,rfl⟩,sL s3,?_,_,Sv,?_,?_⟩
     ·rw [Sz nSL]
      exact hS3
     ·rw [yan,hn]
      show Sco B (Jnp l (_++ [n]) (r+1)) _
      rw [Jv9]
      refine Sco.put ld3 (by rw [Jod];exact hl) hn2.1 λe=>?_
      rw [Yd1]
      by_cases c:e=B.lo+(n:Int)
      ·rw [if_pos (by rw [c]),decide_eq_true c]
       simp
      ·rw [if_neg (λz=>c (yaa.inj z)),decide_eq_false c,yce]
     ·have:=Ybw kvs' (yaa (B.lo+(n:Int))) (V.int (r+1))
      omega
    ·rintro σ3 H3 ⟨⟨o7,rfl⟩,s3,hS3,kvs',hL3,ld3,hk3⟩
     rw [yf,yf] at ld3 hk3
     rw [ycl] at ld3
     have f13:(Jko B up hi l).length<=13:=by
      unfold Jko
      refine yab (ybi _ _) ?_
      rw [yaw]
      exact n13
     refine ⟨_,rfl,(show 0<=Sa by decide),λE hE=>⟨_,_,.lst (Sw.of (Sn.upd hE _ _ hS3)) (Jst _),.lst (Sw.of Sv) .nil,Jls _,rfl,?_⟩⟩
     have s3E:=Sn.upd (o:=.lst []) hE
     rw [if_pos rfl,Jx2,List.isEmpty_map]
     by_cases em:Jko B up hi l= []
     ·rw [em]
      have ee:Jlm B up hi=l:=by
       rw [<-hloop]
       show (if Jko B up hi l= [] then l else _)=l
       rw [if_pos em]
      rw [em] at ld3 hk3
      refine ⟨0,Nat.succ_pos _,l,r+1,false,kvs',_,_,_,_,_,rfl,s3.trans s3E,s3E _ _ hL3,ld3,hl,?_,.inr ⟨rfl,rfl,ee.symm⟩⟩
      simp at hk3
      omega
     ·have lt2:=Jnv (r:=r+1) hl em
      have ln2:(Jnp l (Jko B up hi l) (r+1)).length=nLv B:=by rw [Jod];exact hl
      have e0:(Jko B up hi l).isEmpty=false:=by
       cases hc:Jko B up hi l with
       |nil=>exact absurd hc em
       |cons _ _=>rfl
      rw [e0]
      refine ⟨_,?_,Jnp l (Jko B up hi l) (r+1),r+1,true,kvs',_,_,_,_,_,rfl,s3.trans s3E,s3E _ _ hL3,ld3,ln2,?_,.inl ⟨rfl,rfl,?_⟩⟩
      ·omega
      ·omega
      ·rw [<-hloop]
       show _=(if Jko B up hi l= [] then l else Jnk B up hi (Jli l) (Jnp l (Jko B up hi l) (r+1)) (r+1))
       rw [if_neg em]
       exact Joi _ _ _ _ ln2 (ybl _) lt2
  ·refine Jlb ⟨_,rfl,k L kvs H' sm hLd ld⟩
theorem Sjz {r:Int} (h0:0<=r) (h1:r < 5):0<=r/2/\r/2 < 3:=by omega
theorem Sov {lo x y:Int} (h0:lo<=x) (h1:x < y) (h2:y<=12):Jmc lo ([x,y].map V.int)=true:=by
 unfold Jmc
 have:Jl9 lo ([x,y].map V.int)=true:=Jnu _ _ (by simpa using h1) (by simp;omega)
 rw [this]
 rfl
theorem St6 {lo x y z:Int} (h0:lo<=x) (h1:x < y) (h2:y < z) (h3:z<=12):Jmc lo ([x,y,z].map V.int)=true:=by
 unfold Jmc
 have:Jl9 lo ([x,y,z].map V.int)=true:=Jnu _ _ (by simp;omega) (by simp;omega)
 rw [this]
 rfl
theorem St5 {lo x:Int} (h0:lo<=x) (h1:x<=12):Jmc lo ([x].map V.int)=true:=by
 unfold Jmc
 have:Jl9 lo ([x].map V.int)=true:=Jnu _ _ (by simp) (by simp;omega)
 rw [this]
 rfl
theorem Sao:Jkd ["_law_stream_here","_law_name","_law_low","_law_rain","_law_start","_law_kind","_law_some","_law_marks_here"] ["_law_stream_here","_law_name"] (Jk9 (top 76)):=⟨rfl,rfl,rfl,by decide +kernel,rfl,by decide +kernel,by decide +kernel⟩
theorem Jxa (T:Tx K mg a):Sx P w K mg base CX0 3 a.Jii a.Jij ["_law_stream_here","_law_name"] Jxt:=by
 have Sr:=Jm8 (P:=P) (w:=w) (base:=base) T
 refine T.Ja0.fn.ok Sao (λvs H Q E h=>?_) (λcdv A outer s H vs Q E hr h=>?_)
 ·obtain ⟨p,z,rfl,_⟩:=h
  rfl
 ·obtain ⟨p,z,rfl,st,nm,wd,k⟩:=h
  refine ⟨?t,?B,?C⟩
  case B=>
   refine' Jk6 ?a ?b
   case a=>exact (Jkh (i:=2) Sao.nd rfl (ye rfl) (Jkc T.Js Sr hr (by decide) (So (pv 0) (So Sy Ss))))
   case b=>
   refine' Jk6 ?c ?d
   case c=>exact (Jkh (i:=3) Sao.nd rfl (ye rfl) (Jkc T.Js Sr hr (by decide) (So (pv 0) (So Sy Ss))))
   case d=>
   refine' Jk6 ?e ?f
   case e=>exact (Jkh (i:=4) Sao.nd rfl (ye rfl) (Jkl Jl0 (pv 2) (Jkc T.Js Sr hr (by decide) (So (pv 0) (So Sy Ss)))))
   case f=>
   refine' Jk6 ?g ?h
   case g=>exact (Jkh (i:=5) Sao.nd rfl (ye rfl) (Jkm Jks (Jl1 (So Jlk (So Jlk (So Jlk Ss)))) (Jkl Joc (Jkc T.Js Sr hr (by decide) (So (pv 0) (So Sy Ss))) Sy) (λ_ _=>rfl)))
   case h=>
   refine' Jk6 ?i ?j
   case i=>exact (Jkh (i:=6) Sao.nd rfl (ye rfl) (Jl1 (So (Jl1 (So (pv 2) (So (Jkl Jl0 (Jkl Jl0 (pv 2) Sy) (Jkc T.Js Sr hr (by decide) (So (pv 0) (So Sy Ss)))) Ss))) (So (Jl1 (So (Jkl Jl0 Sy (Jkc T.Js Sr hr (by decide) (So (pv 0) (So Sy Ss)))) (So Sy (So Sy Ss)))) (So (Jl1 (So Sy (So Sy Ss))) Ss)))))
   case j=>
   refine' Jk6 ?k ?l
   case k=>exact (Jkh (i:=7) Sao.nd rfl (ye rfl) (Jkm Jks (pv 6) (Jkl Joc (Jkc T.Js Sr hr (by decide) (So (pv 0) (So Sy Ss))) Sy) (λ_ _=>rfl)))
   case l=>
   refine' Jk6 ?m ?n
   case m=>
    refine' Jku ?o ?p ?q
    case o=>exact (Jkr Jnw (pv 5) Jlk (Jkt _))
    case p=>
     refine' Jk7 ?r
     case r=>exact (Jkh (i:=7) Sao.nd rfl (ye rfl) (Jl1 (So (Jkl Jl0 Sy (Jkc T.Js Sr hr (by decide) (So (pv 0) (So Sy Ss)))) Ss)))
    case q=>exact Jki
   case n=>
   refine' Jk7 ?s
   case s=>
   refine' Jkg ?u
   case u=>
   refine' Jm2 ?v
   case v=>
   refine' pa7 ?w ?x ?y ?z ?a0 ?b0 ?c0
   case w=>exact (pv 1)
   case x=>exact (pv 2)
   case y=>exact (Jkl Jm9 Sy (Jkc T.Js Sr hr (by decide) (So (pv 0) (So Sy Ss))))
   case z=>exact (pv 4)
   case a0=>exact (pv 3)
   case b0=>exact (pv 5)
   case c0=>exact (pv 7)
  refine ⟨_,rfl,p,3,rfl,st,by decide,by decide,λlo H1 lo0 lo1 b1=>?_⟩
  refine ⟨_,rfl,p,3,rfl,b1.2,by decide,by decide,λrn H2 rn0 rn1 b2=>?_⟩
  have c2:=b1.trans b2
  refine ⟨_,rfl,_,rfl,p,4,rfl,c2.2,by decide,by decide,λr3 H3 r30 r31 b3=>⟨_,_,rfl,rfl,?_⟩⟩
  have c3:=c2.trans b3
  refine ⟨(show 3<=Sa by decide),λl1 h1=>?_⟩
  have s1:=Sn.upd (o:=.lst [.str "flap",.str "step",.str "part"]) h1
  have n1:=c3.2.ne h1
  refine ⟨_,rfl,p,5,rfl,c3.2.same s1,by decide,by decide,λr4 H4 r40 r41 b4=>⟨_,_,rfl,rfl,⟨by decide,by decide⟩,?_⟩⟩
  obtain ⟨kd,a4,m4⟩:=Ycq (zs:=["flap","step","part"]) (Sjz r40 r41)
  refine ⟨l1,_,_,_,rfl,rfl,Sw.of (b4.1 _ _ n1 Sv),a4,?_⟩
  have kn:Knd kd:=by
   simp at m4
   rcases m4 with e|e|e
   ·exact .inr (.inl e)
   ·exact .inl e
   ·exact .inr (.inr e)
  have c4:But p H H4:=(c3.same s1).trans b4
  refine ⟨_,rfl,_,rfl,_,_,rfl,rfl,_,rfl,p,3,rfl,c4.2,by decide,by decide,λr5 H5 r50 r51 b5=>⟨_,_,rfl,rfl,(show 2<=Sa by decide),λla hla=>?_⟩⟩
  have c5:=c4.trans b5
  have na:=c5.2.ne hla
  have sa:=Sn.upd (o:=.lst [.int lo,.int (lo+2+r5)]) hla
  refine ⟨_,rfl,p,2,rfl,c5.2.same sa,by decide,by decide,λr6 H6 r60 r61 b6=>⟨_,_,rfl,rfl,(show 3<=Sa by decide),λlb hlb=>?_⟩⟩
  have c6:=(c5.same sa).trans b6
  have nb:=c6.2.ne hlb
  have ha6:=b6.1 _ _ na Sv
  have sb:=Sn.upd (o:=.lst [.int (1+r6),.int 4,.int 9]) hlb
  refine ⟨(show 2<=Sa by decide),λlc hlc=>?_⟩
  have sc:=Sn.upd (o:=.lst [.int 1,.int 2]) hlc
  have nc:lc≠p:=(c6.same sb).2.ne hlc
  refine ⟨(show 3<=Sa by decide),λls hls=>?_⟩
  have sd:=Sn.upd (o:=.lst [.ref la,.ref lb,.ref lc]) hls
  have ns:ls≠p:=((c6.same sb).same sc).2.ne hls
  have c7:=((c6.same sb).same sc).same sd
  have ha:=sd _ _ (sc _ _ (sb _ _ ha6))
  have hb:=sd _ _ (sc _ _ (Sv (H:=H6) (a:=lb) (o:=.lst [.int (1+r6),.int 4,.int 9])))
  have hc:=sd _ _ (Sv (H:=upd H6 lb (.lst [.int (1+r6),.int 4,.int 9])) (a:=lc) (o:=.lst [.int 1,.int 2]))
  have hs:=Sv (H:=upd (upd H6 lb (.lst [.int (1+r6),.int 4,.int 9])) lc (.lst [.int 1,.int 2])) (a:=ls) (o:=.lst [.ref la,.ref lb,.ref lc])
  generalize upd (upd (upd H6 lb (.lst [.int (1+r6),.int 4,.int 9])) lc (.lst [.int 1,.int 2])) ls (.lst [.ref la,.ref lb,.ref lc])=H7 at c7 ha hb hc hs
  refine ⟨_,rfl,_,rfl,p,5,rfl,c7.2,by decide,by decide,λr8 H8 r80 r81 b8=>⟨_,_,rfl,rfl,⟨by decide,by decide⟩,?_⟩⟩
  have c8:=c7.trans b8
  have pick:∃(m:S5) (ns:List Int),atI [V.ref la,.ref lb,.ref lc] (r8/2)=some (.ref m)/\m≠p/\H8 m=some (.lst (ns.map V.int))/\(1<=ns.length/\ns.length<=4)/\Jl9 0 (ns.map V.int)=true:=by
   have q:=Sjz r80 r81
   have cs:r8/2=0\/r8/2=1\/r8/2=2:=by omega
   have a2:=Sov (lo:=0) (x:=lo) (y:=lo+2+r5) (by omega) (by omega) (by omega)
   have a3:=St6 (lo:=0) (x:=1+r6) (y:=4) (z:=9) (by omega) (by omega) (by omega) (by omega)
   have a1:=Sov (lo:=0) (x:=1) (y:=2) (by omega) (by omega) (by omega)
   unfold Jmc at a1 a2 a3
   rw [yag] at a1 a2 a3
   rcases cs with e|e|e <;> rw [e]
   ·exact ⟨la,[lo,lo+2+r5],rfl,na,b8.1 _ _ na ha,by simp,a2.2⟩
   ·exact ⟨lb,[1+r6,4,9],rfl,nb,b8.1 _ _ nb hb,by simp,a3.2⟩
   ·exact ⟨lc,[1,2],rfl,nc,b8.1 _ _ nc hc,by simp,a1.2⟩
  obtain ⟨m,ms,am,nm',hm,lm,mb⟩:=pick
  refine ⟨ls,_,_,_,rfl,rfl,Sw.of (b8.1 _ _ ns hs),am,?_⟩
  dsimp only [Jo5]
  refine Jr8 (λσ H9=>∃(m:S5) (ns:List Int),σ= [some (.ref p),some (.str z),some (.int lo),some (.int rn),some (.int (lo+r3)),some (.str kd),some (.ref ls),some (.ref m)]/\H9 m=some (.lst (ns.map V.int))/\m≠p/\Jmc (Jn0 kd) (ns.map V.int)=true/\But p H H9) (λR hR=>?_) ?_
  ·refine ⟨_,rfl,rfl,_,rfl,Jnd (λq=>?_) (λq=>?_)⟩
   ·have ek:kd="part" :=V.str.inj (of_decide_eq_true q)
    refine ⟨_,rfl,p,2,rfl,c8.2,by decide,by decide,λr9 H9 r90 r91 b9=>⟨_,_,rfl,rfl,(show 1<=Sa by decide),λl9 h9=>hR _ _ ⟨l9,[1+r9],rfl,Sv,(c8.trans b9).2.ne h9,?_,(c8.trans b9).same (Sn.upd h9)⟩⟩⟩
    rw [ek,show Jn0 "part" =1 from if_pos rfl]
    exact St5 (by omega) (by omega)
   ·have ek:¬kd="part" :=λz=>q (decide_eq_true (by rw [z]))
    refine hR _ _ ⟨m,ms,rfl,hm,nm',?_,c8⟩
    rw [show Jn0 kd=0 from if_neg ek]
    unfold Jmc
    rw [mb,yf,decide_eq_true lm]
    rfl
  rintro σ H9 ⟨m,ns,rfl,hm,nm9,ar,c9⟩
  refine ⟨_,rfl,_,rfl,_,rfl,p,3,rfl,c9.2,by decide,by decide,λr10 H10 r100 r101 b10=>⟨_,_,rfl,rfl,_,rfl,_,rfl,_,rfl,_,rfl,(show 7<=Sa by decide),λt ht=>?_⟩⟩
  have hm10:=b10.1 _ _ nm9 hm
  refine k t m ⟨z,lo,12 - r10,lo+r3,rn,⟨kd,ns,none⟩⟩ _ ((c9.trans b10).same (Sn.upd ht)) nm9 ⟨Sv,Sn.upd ht _ _ hm10,rfl⟩ ⟨⟨⟨lo0,?_⟩,?_,⟨rn0,?_⟩,⟨kn,ar,λi e=>by cases e⟩⟩,⟨?_,?_⟩,nm,wd⟩ rfl
  ·show lo<=12 - r10
   omega
  ·show 12 - r10<=12
   omega
  ·show rn<=6
   omega
  ·show lo<=lo+r3
   omega
  ·show lo+r3<=12 - r10
   omega
def Sca (p:S5) (H:Hp) (ts:List S5) (Bs:List BTd):Prop:=Paired (λt B=>∃m,m≠p/\Sdi H t m B) ts Bs
theorem Sca.same {p:S5} {H H':Hp} {ts:List S5} {Bs:List BTd} (s:Sn H H') (h:Sca p H ts Bs):Sca p H' ts Bs:=Paired.mapP h λ_ _ ⟨m,n,q⟩=>⟨m,n,q.same s⟩
theorem Sca.but {p:S5} {H H':Hp} {ts:List S5} {Bs:List BTd} (st:Sbo H p) (b:But p H H') (h:Sca p H ts Bs):Sca p H' ts Bs:=Paired.mapP h λ_ _ ⟨m,n,q⟩=>⟨m,n,q.but st b n⟩
theorem Sdi.put {H:Hp} {t m L:S5} {B:BTd} {xs:List V} {o:HO} (tg:TGd B) (hL:H L=some (.lst xs)) (hx:∀x∈xs,∃q,x=V.ref q) (h:Sdi H t m B):Sdi (upd H L o) t m B:=by
 have n1:t≠L:=λz=>by have:=h.1;rw [z,hL] at this;cases this
 have n2:m≠L:=λz=>by
  have q:=h.2.1
  rw [z,hL] at q
  have e:=HO.lst.inj (yac.inj q)
  have l:=tg.b.G.len.1
  cases hc:B.G.ns with
  |nil=>rw [hc] at l;simp at l
  |cons x r=>
   rw [hc] at e
   obtain ⟨y,hy⟩:=hx (V.int x) (by rw [e];exact yar ..)
   cases hy
 exact ⟨by rw [Sz n1];exact h.1,by rw [Sz n2];exact h.2.1,h.2.2⟩
theorem Ybh {α β:Type} {F G:α->β->Prop} {l₁:List α} {l₂:List β} (h:Paired F l₁ l₂):(∀x y,y∈l₂->F x y->G x y)->Paired G l₁ l₂:=by
 induction h with
 |nil=>intro _;exact .nil
 |cons h t ih=>intro f;exact .cons (f _ _ (yar ..) h) (ih λx y hy=>f x y (yaq _ hy))
theorem Sca.put {p L:S5} {H:Hp} {ts us:List S5} {Bs:List BTd} {o:HO} (tg:∀B∈Bs,TGd B) (hL:H L=some (.lst (us.map V.ref))) (h:Sca p H ts Bs):Sca p (upd H L o) ts Bs:=by
 refine Ybh h λt B hB ⟨m,n,q⟩=>⟨m,n,q.put (tg B hB) hL λx hx=>?_⟩
 obtain ⟨u,_,rfl⟩:=ybc.mp hx
 exact ⟨u,rfl⟩
def AP:Str:="abcde"
def nmP (i:Nat):Str:=(⟨#[AP.cps.getD i 0]⟩:Str)++Jxi "xy" (i%3)
theorem Slq:∀i,i < 5->Js4 (nmP i)=true/\(decide ((nmP i).length<=50)&&(nmP i).cps.toList.all (λc=>decide (c < 128)))=true:=by decide +kernel
theorem Slp:((yv 5).map nmP).Nodup:=by decide +kernel
theorem Ydp {n:Nat} (h:n<=5):((yv n).map nmP).Nodup:=by
 refine List.Nodup.sublist ?_ Slp
 refine List.Sublist.map _ ?_
 rw [show (5:Nat)=n+(5 - n) by omega,List.range_add]
 exact List.sublist_append_left _ _
theorem Sou {i:Nat} (h:i < 5):atI AP.cps.toList (i:Int)=some (AP.cps.getD i 0):=by
 have:∀i,i < 5->AP.cps.toList[i]?=some (AP.cps.getD i 0):=by decide +kernel
 exact Jl8 (this i h)
def Ycg:Sp:=λvs H Q _=>∃p:S5,vs= [.ref p]/\Sbo H p/\∀(L:S5) (ts:List S5) (Bs:List BTd) (H':Hp),But p H H'->H L=none->H' L=some (.lst (ts.map V.ref))->Sca p H' ts Bs->RGd Bs->(Bs.map (·.z)).Nodup->Q (.ref L) H'
theorem Sbj:Jkd ["_law_stream_here","_law_found","_law_place","_law_name"] ["_law_stream_here"] (Jk9 (top 77)):=⟨rfl,rfl,rfl,by decide +kernel,rfl,by decide +kernel,by decide +kernel⟩
theorem Jua (T:Tx K mg a):Sx P w K mg base CX0 4 a.Jik a.Jil ["_law_stream_here"] Ycg:=by
 have Sr:=Jm8 (P:=P) (w:=w) (base:=base) T
 have Sg3:=Jxa (P:=P) (w:=w) (base:=base) T
 have Sfe:=Jw3 (P:=P) (w:=w) (base:=base) T
 refine T.Ja1.fn.ok Sbj (λvs H Q E h=>?_) (λcdv A outer s H vs Q E hr h=>?_)
 ·obtain ⟨p,rfl,_⟩:=h
  rfl
 ·obtain ⟨p,rfl,st,k⟩:=h
  refine ⟨?t,?B,?C⟩
  case B=>
   refine' Jk6 ?a ?b
   case a=>exact (Jkh (i:=1) Sbj.nd rfl (ye rfl) (Jl1 Ss))
   case b=>
   refine' Jk6 ?c ?d
   case c=>
    refine' Jma ?e ?f ?g ?h ?i
    case e=>exact PassesOwn.never
    case f=>exact rfl
    case g=>exact (Jlj (by rfl) T.Jay (So (Jkl Jl0 Sy (Jkc T.Js Sr hr (by decide) (So (pv 0) (So Sy Ss)))) Ss))
    case h=>exact (Jkf (i:=2) Sbj.nd rfl (ye rfl))
    case i=>
    refine' Jk6 ?j ?k
    case j=>exact (Jkh (i:=3) Sbj.nd rfl (ye rfl) (Jkl Jyo (Jkm Sli Jlk (pv 2) (λ_ _=>rfl)) (Jkl Jyq Jlk (Jkl Jqg (pv 2) Sy))))
    case k=>
    refine' Jk7 ?l
    case l=>
    refine' Jku ?m ?n ?o
    case m=>exact (Jkr Jxe (Jkc T.Js Sr hr (by decide) (So (pv 0) (So Sy Ss))) Sy (Jkt _))
    case n=>
     refine' Jk7 ?p
     case p=>exact (Jlv (Jq0 F.plainAttrs_list F.slot_list_append F.type_list_append Jlx (pv 1) (So (Jkc T.Ja0 Sg3 hr (by decide) (So (pv 0) (So (pv 3) Ss))) Ss)))
    case o=>
    refine' Jk7 ?q
    case q=>exact (Jlv (Jq0 F.plainAttrs_list F.slot_list_append F.type_list_append Jlx (pv 1) (So (Jkc T.Ju Sfe hr (by decide) (So (pv 0) (So (pv 3) Ss))) Ss)))
   case d=>
   refine' Jk7 ?r
   case r=>exact (Jkg (pv 1))
  refine ⟨(show 0<=Sa by decide),λL hL=>?_⟩
  have hL0:H L=none:=hL
  have nL:L≠p:=st.ne hL0
  have s5:=Sn.upd (o:=.lst []) hL
  have c4:=But.of st s5
  refine ⟨_,rfl,p,5,rfl,c4.2,by decide,by decide,λr1 H1 r10 r11 b1=>⟨_,_,rfl,rfl,?_⟩⟩
  have hL1:=b1.1 _ _ nL (Sv (H:=H) (a:=L) (o:=.lst []))
  obtain ⟨n,en⟩:=ycp (show 0<=1+r1 by omega)
  refine ⟨_,rfl,by omega,by omega,?_⟩
  rw [en]
  refine Jn2 (lo:=0) (λi σ H'=>∃(o4 o5:Option V) (ts:List S5) (Bs:List BTd),σ= [some (.ref p),some (.ref L),o4,o5]/\But p H H'/\H' L=some (.lst (ts.map V.ref))/\Sca p H' ts Bs/\Bs.length=i/\(∀B∈Bs,TGd B)/\Bs.map (·.z)=(yv i).map nmP)
   ⟨_,_,[],[],rfl,c4.trans b1,hL1,.nil,rfl,(λB h=>nomatch h),rfl⟩ ?_ ?_
  ·rintro i σ H' hi ⟨o4,o5,ts,Bs,rfl,c5,hL5,tl,hlen,tg,hz⟩
   have hi2:i < n:=by simpa using hi
   have hi3:i < 5:=by omega
   have zi:(0+(i:Int))=i:=by omega
   rw [zi]
   have lt:=Paired.length tl
   obtain ⟨nok,nw⟩:=Slq i hi3
   have wd:Wd 50 (nmP i):=Smr nw
   have app:∀{H6 H7:Hp} {t m:S5} {B:BTd},But p H' H6->But p H6 H7->m≠p->Sdi H7 t m B->TGd B->B.z=nmP i->H7 L=some (.lst (ts.map V.ref))/\(ts.map V.ref).length < Sa/\(∃(o4 o5:Option V) (ts':List S5) (Bs':List BTd),[some (.ref p),some (.ref L),some (.int (i:Int)),some (.str (nmP i))]= [some (V.ref p),some (.ref L),o4,o5]/\But p H (upd H7 L (.lst (ts.map V.ref++ [.ref t])))/\(upd H7 L (.lst (ts.map V.ref++ [.ref t]))) L=some (.lst (ts'.map V.ref))/\Sca p (upd H7 L (.lst (ts.map V.ref++ [.ref t]))) ts' Bs'/\Bs'.length=i+1/\(∀B∈Bs',TGd B)/\Bs'.map (·.z)=(yv (i+1)).map nmP):=by
    intro H6 H7 t m B b6 b7 nm tm tgB eB
    have b67:=b6.trans b7
    have hL7:=b67.1 _ _ nL hL5
    have tl7:=tl.but c5.2 b67
    have c7:=c5.trans b67
    refine ⟨hL7,by rw [yf];exact Jkk (by omega),_,_,ts++ [t],Bs++ [B],rfl,c7.updD hL0 nL,?_,?_,?_,?_,?_⟩
    ·rw [Sv,yt]
     rfl
    ·refine Paired.snoc (Sca.put tg hL7 tl7) ⟨m,nm,tm.put tgB hL7 λx hx=>?_⟩
     obtain ⟨u,_,rfl⟩:=ybc.mp hx
     exact ⟨u,rfl⟩
    ·rw [yai,hlen]
     rfl
    ·intro B' hB'
     rcases ybf.mp hB' with h|h
     ·exact tg B' h
     ·rw [ybd.mp h]
      exact tgB
    ·rw [yt,hz,ybq,yt]
     show _++ [B.z]=_++ [nmP i]
     rw [eB]
   refine ⟨_,rfl,AP,_,_,rfl,rfl,Jrs _ (by decide +kernel),Sou hi3,_,rfl,_,_,rfl,rfl,(show (0:Int) < 3 by decide),"xy",i%3,rfl,congrArg V.int (by omega),by omega,by decide +kernel,by decide +kernel,_,_,rfl,rfl,?_,?_⟩
   ·have e1:(⟨#[AP.cps.getD i 0]⟩:Str).length=1:=rfl
    have e2:=Jxj "xy" (i%3)
    have e3:("xy" :Str).length=2:=by decide +kernel
    rw [e1,e2,e3,sizeLine_eq]
    omega
   refine ⟨_,rfl,p,6,rfl,c5.2,by decide,by decide,λr6 H6 r60 r61 b6=>⟨_,_,rfl,rfl,_,rfl,Jnd (λq=>?_) (λq=>?_)⟩⟩
   ·refine ⟨_,rfl,.inl ⟨rfl,_,Sw.of (b6.1 _ _ nL hL5)⟩,_,rfl,_,rfl,p,nmP i,rfl,b6.2,nok,wd,λt m B H7 b7 nm tm tgB eB=>?_⟩
    obtain ⟨f1,f2,f3⟩:=app b6 b7 nm tm tgB eB
    exact ⟨L,_,_,rfl,rfl,f1,f2,f3⟩
   ·refine ⟨_,rfl,.inl ⟨rfl,_,Sw.of (b6.1 _ _ nL hL5)⟩,_,rfl,_,rfl,p,nmP i,rfl,b6.2,nok,wd,λt m B H7 b7 nm tm tgB eB=>?_⟩
    obtain ⟨f1,f2,f3⟩:=app b6 b7 nm tm tgB eB
    exact ⟨L,_,_,rfl,rfl,f1,f2,f3⟩
  ·rintro σ H' ⟨o4,o5,ts,Bs,rfl,c5,hL5,tl,hlen,tg,hz⟩
   have hlen':Bs.length=n:=by simpa using hlen
   refine ⟨_,rfl,k L ts Bs H' c5 hL0 hL5 tl ⟨by omega,tg⟩ ?_⟩
   rw [hz]
   exact Ydp (by simp;omega)
def Sf1 (H:Hp) (ts:List S5) (Bs:List BTd):Prop:=Paired (λt B=>Sdh H t B) ts Bs
theorem Sf1.same {H H':Hp} {ts:List S5} {Bs:List BTd} (s:Sn H H') (h:Sf1 H ts Bs):Sf1 H' ts Bs:=Paired.mapP h λ_ _ q=>q.same s
theorem Sca.s {p:S5} {H:Hp} {ts:List S5} {Bs:List BTd} (h:Sca p H ts Bs):Sf1 H ts Bs:=Paired.mapP h λ_ _ ⟨_,_,q⟩=>q.at
theorem Yaq (acc:List Int):atI (Jm7 (acc.map V.int) (some (-1)) none++ [.int 0]) 0=some (.int (acc.getLast?.getD 0)):=by
 refine Jl8 (j:=0) ?_
 rcases List.eq_nil_or_concat acc with rfl|⟨l,x,rfl⟩
 ·rfl
 ·rw [List.concat_eq_append]
  have ln:((l++ [x]).map V.int).length=l.length+1:=by rw [yf,yai];rfl
  have e:Jm7 ((l++ [x]).map V.int) (some (-1)) none= [.int x]:=by
   unfold Jm7
   rw [ln]
   have e1:HT.sIx (l.length+1) 0 (some (-1))=l.length:=by
    show (if (-1:Int) < 0 then ((-1:Int)+((l.length+1:Nat):Int)).toNat else min (-1:Int).toNat (l.length+1))=_
    rw [if_pos (by decide)]
    omega
   have e2:HT.sIx (l.length+1) (l.length+1) none=l.length+1:=rfl
   rw [e1,e2,yt,List.drop_append,yf,List.drop_of_length_le (by rw [yf];exact yg _),Nat.sub_self,show l.length+1 - l.length=1 by omega]
   rfl
  rw [e]
  simp
def Ycd:Sp:=λvs H Q _=>∃(L:S5) (ts:List S5) (Bs:List BTd),vs= [.ref L]/\H L=some (.lst (ts.map V.ref))/\Sf1 H ts Bs/\RGd Bs/\∀(acc:List Int) (F:S5) (H':Hp),NGd Bs.length acc->Sn H H'->H F=none->H' F=some (.lst (acc.map V.int))->Q (.ref F) H'
theorem Sbb:Jkd ["_law_told","_law_found","_law_one","_law_up","_law_good"] ["_law_told"] (Jk9 (top 78)):=⟨rfl,rfl,rfl,by decide +kernel,rfl,by decide +kernel,by decide +kernel⟩
theorem Jw4 (T:Tx K mg a):Sx P w K mg base CX0 4 a.Jim a.Jin ["_law_told"] Ycd:=by
 have Sck:=Js7 (P:=P) (w:=w) (base:=base) T
 refine T.Ja2.fn.ok Sbb (λvs H Q E h=>?_) (λcdv A outer s H vs Q E hr h=>?_)
 ·obtain ⟨L,ts,Bs,rfl,_⟩:=h
  rfl
 ·obtain ⟨L,ts,Bs,rfl,hL,td,rg,k⟩:=h
  have hu64:=Jnt hr
  have len:=Paired.length td
  have l16:=rg.len
  refine ⟨?t,?B,?C⟩
  case B=>
   refine' Jk6 ?a ?b
   case a=>exact (Jkh (i:=1) Sbb.nd rfl (ye rfl) (Jl1 Ss))
   case b=>
   refine' Jk6 ?c ?d
   case c=>
    refine' Jma ?e ?f ?g ?h ?i
    case e=>exact PassesOwn.never
    case f=>exact rfl
    case g=>exact (Jl5 (pv 0))
    case h=>exact (Jkf (i:=2) Sbb.nd rfl (yal rfl))
    case i=>
    refine' Jk6 ?j ?k
    case j=>exact (Jkh (i:=3) Sbb.nd rfl (yal rfl) (Jkm Jks (Jkl Jp1 (Jp3 Jra (pv 1) (Jr2 (Jv8 Jru Sy)) Jr1) (Jl1 (So Sy Ss))) Sy (λ_ _=>rfl)))
    case k=>
    refine' Jk6 ?l ?m
    case l=>exact (Jmj (i:=4) (N:=(["_law_hi","_law_one","_law_up"]:List Str)) (ini:=[none,some 2,some 3]) Sbb.nd rfl (ye rfl) rfl (Jlj (by rfl) T.Jay (So Sy Ss)) (λ_ _ _ _ _=>(Jkf (i:=0) (by decide +kernel:(["_law_hi","_law_one","_law_up"]:List Str).Nodup) rfl (ye rfl))) (λ_ _ _ _ _=>(Jnx (Jkr (Jo1 hu64) (Jkm (Jph (K:=K) rfl) (pv 1) Sy (λ_ _=>rfl)) (Jkc T.Jz Sck hr (by decide) (So (pv 1) (So (pv 2) (So (pv 0) Ss)))) (by with_unfolding_all rfl)))) (λ_ _ _ _ _=>(pv 0)))
    case m=>
    refine' Jk7 ?n
    case n=>exact (Jlv (Jq0 F.plainAttrs_list F.slot_list_append F.type_list_append Jlx (pv 1) (So (Jkm Jks (Jkl Jp1 (pv 4) (Jl1 (So Sy Ss))) Sy (λ_ _=>rfl)) Ss)))
   case d=>
   refine' Jk7 ?o
   case o=>exact (Jkg (pv 1))
  refine ⟨(show 0<=Sa by decide),λF hF=>?_⟩
  have s1:=Sn.upd (o:=.lst []) hF
  have sF:∀{H':Hp} {o:HO},Sn H H'->Sn H (upd H' F o):=λs b u z=>by rw [Sz (Jkb z hF)];exact s _ _ z
  refine ⟨_,rfl,L,rfl,⟨_,Sw.of (s1 _ _ hL)⟩,?_⟩
  refine Jnj (K:=K) (xs:=ts.map V.ref) (λi σ H'=>∃(acc:List Int) (o2 o3 o4:Option V),σ= [some (.ref L),some (.ref F),o2,o3,o4]/\Sn H H'/\H' F=some (.lst (acc.map V.int))/\acc.length=i/\(∀x∈acc,0<=x/\x<=12)) ⟨[],_,_,_,rfl,s1,Sv,rfl,(λx h=>nomatch h)⟩ (λi σ H' _ ⟨_,_,_,_,_,sm,_⟩=>Sw.of (sm _ _ hL)) ?_ ?_
  ·rintro i x σ H' hx ⟨acc,o2,o3,o4,rfl,sm,hF',hlen,hin⟩
   rw [ym] at hx
   obtain ⟨t,ht,rfl⟩:=yy.mp hx
   obtain ⟨B,hB,tB⟩:=Jl6 td ht
   have il:i < Bs.length:=(yq.mp hB).1
   have tg:=rg.all B (yad hB)
   have at0:=Yaq acc
   have hup:0<=acc.getLast?.getD 0/\acc.getLast?.getD 0<=12:=by
    cases hc:acc.getLast? with
    |none=>decide
    |some v=>exact hin v (List.mem_of_getLast? hc)
   generalize acc.getLast?.getD 0=up at hup at0
   refine ⟨_,rfl,_,rfl,_,rfl,F,_,rfl,Sw.of hF',λz1 hz1=>⟨(show 1<=Sa by decide),λz2 hz2=>?_⟩⟩
   have q1:=Sn.upd (o:=.lst (Jm7 (acc.map V.int) (some (-1)) none)) hz1
   have q2:=Sn.upd (o:=.lst [.int 0]) hz2
   refine ⟨z1,z2,_,_,rfl,rfl,q2 _ _ Sv,Sv,?_,λz3 hz3=>?_⟩
   ·have:=Jrw (acc.map V.int) (some (-1)) none
    rw [yf] at this
    exact yap (Jkk (by simp;omega))
   have q3:=Sn.upd (o:=.lst (Jm7 (acc.map V.int) (some (-1)) none++ [.int 0])) hz3
   have s4:=(q1.trans q2).trans q3
   refine ⟨z3,_,0,_,rfl,rfl,Sw.of Sv,at0,?_⟩
   generalize upd (upd (upd H' z1 (.lst (Jm7 (acc.map V.int) (some (-1)) none))) z2 (.lst [.int 0])) z3 (.lst (Jm7 (acc.map V.int) (some (-1)) none++ [.int 0]))=H4 at s4⊢
   have sm4:=sm.trans s4
   refine ⟨13,rfl,by decide,by decide,λD hD=>?_⟩
   refine Jmm (lo:=0) (n:=13) (λj σ H3=>(∃o,σ= [o,some (.ref t),some (.int up)])/\Sn H4 H3/\∃gs:List Int,H3 D=some (.lst (gs.map V.int))/\gs.length<=j/\(∀x∈gs,0<=x/\x<=12)) ⟨⟨_,rfl⟩,Sn.upd hD,[],Sv,yg _,(λx h=>nomatch h)⟩ ?_ ?_
   ·rintro j σ H3 hj ⟨⟨o1,rfl⟩,s3,gs,hD3,gl,gin⟩
    have zj:(0+(j:Int))=j:=by omega
    rw [zj]
    have tB3:=(tB.same sm4).same s3
    obtain ⟨mm,htt,hmm,sv⟩:=id tB3
    refine ⟨_,rfl,t,_,3,_,rfl,rfl,SqT.of htt,rfl,_,rfl,_,rfl,_,rfl,t,B,up,(j:Int),rfl,tB3,tg.b,hup,λLL kvs H5 s5 hLL ld=>?_⟩
    have s35:=s3.trans s5
    have hD5:=s5 _ _ hD3
    refine ⟨_,_,rfl,.inl ⟨_,yaa B.st,.inl hLL,rfl,rfl⟩,_,rfl,Jnd (λq=>?_) (λq=>?_)⟩
    ·refine ⟨_,rfl,_,hD5,?_,⟨_,rfl⟩,?_,gs++ [(j:Int)],?_,?_,?_⟩
     ·rw [yf]
      exact Jkk (by omega)
     ·intro c2 o' z
      rw [Sz (Jkb z hD)]
      exact s35 _ _ z
     ·rw [Sv,yt]
      rfl
     ·rw [yai]
      simp
      omega
     ·intro x hx
      rcases ybf.mp hx with h|h
      ·exact gin x h
      ·rw [ybd.mp h]
       omega
    ·exact ⟨⟨_,rfl⟩,s35,gs,hD5,by omega,gin⟩
   rintro σ3 H3 ⟨_,s3,gs,hD3,gl,gin⟩
   have hF3:=s3 _ _ (s4 _ _ hF')
   refine ⟨_,rfl,.inl ⟨rfl,_,Sw.of hF3⟩,_,rfl,(show 1<=Sa by decide),λz4 hz4=>?_⟩
   have q4:=Sn.upd (o:=.lst [.int 12]) hz4
   refine ⟨D,z4,_,_,rfl,rfl,q4 _ _ hD3,Sv,?_,λz5 hz5=>?_⟩
   ·rw [yf]
    exact yap (Jkk (by simp;omega))
   have q5:=q4.trans (Sn.upd (o:=.lst (gs.map V.int++ [.int 12])) hz5)
   have a0:∃u:Int,atI (gs.map V.int++ [.int 12]) 0=some (.int u)/\0<=u/\u<=12:=by
    cases gs with
    |nil=>exact ⟨12,Jl8 (j:=0) rfl,by decide,by decide⟩
    |cons u gs=>exact ⟨u,Jl8 (j:=0) rfl,gin u (yar ..)⟩
   obtain ⟨u,au,bu⟩:=a0
   refine ⟨z5,_,0,_,rfl,rfl,Sw.of Sv,au,F,_,_,rfl,rfl,q5 _ _ hF3,?_,acc++ [u],_,_,_,rfl,sF ((sm4.trans s3).trans q5),?_,?_,?_⟩
   ·rw [yf]
    exact Jkk (by omega)
   ·rw [Sv,yt]
    rfl
   ·rw [yai,hlen]
    rfl
   ·intro x hx
    rcases ybf.mp hx with h|h
    ·exact hin x h
    ·rw [ybd.mp h]
     exact bu
  ·rintro σ H' ⟨acc,o2,o3,o4,rfl,sm,hF',hlen,hin⟩
   rw [yf] at hlen
   exact ⟨_,rfl,k acc F H' ⟨by omega,hin⟩ sm hF hF'⟩
theorem Jsi {l:List Int} {i:Nat} (h:i < l.length):l[i]?=some (l.getD i 0):=by
 rw [yaj,yp h]
 rfl
theorem Jxy {ns:List Int} {i:Nat} (h:i < ns.length):(Jly ns).getD i 0=(0::ns).getD i 0:=by
 cases i with
 |zero=>rfl
 |succ i=>
  unfold Jly
  show ns.dropLast.getD i 0=ns.getD i 0
  rw [yaj,yaj,List.dropLast_eq_take,List.getElem?_take,if_pos (by omega)]
theorem Slc (k:Nat):(yw k [V.int 12]).flatten=(yw k (12:Int)).map V.int:=by
 induction k with
 |zero=>rfl
 |succ k ih=>rw [ybw,ycs,ih,ybw,yas];rfl
theorem Sly {ns:List Int} {n i:Nat} {x:Int} (ng:NGd n ns) (hi:i < n) (hx:0<=x/\x<=12):NGd n (ns.take i++ [x]++ns.drop (i+1)):=by
 have nl:=ng.1
 refine ⟨?_,λy hy=>?_⟩
 ·rw [yai,yai,yah,List.length_drop]
  simp
  omega
 ·rcases ybf.mp hy with h|h
  ·rcases ybf.mp h with h|h
   ·exact ng.2 y (List.mem_of_mem_take h)
   ·rw [ybd.mp h]
    exact hx
  ·exact ng.2 y (List.mem_of_mem_drop h)
theorem Sla (ns:List Int) (i:Nat) (h:i<=ns.length):Jm7 (ns.map V.int) none (some (i:Int))=(ns.take i).map V.int:=by
 unfold Jm7
 rw [HT.sIx_none,HT.sIx_nat,yf,Nat.min_eq_left h,List.drop_zero,Nat.sub_zero,List.map_take]
theorem Yap (ns:List Int) (i:Nat) (h:i<=ns.length):Jm7 (ns.map V.int) (some (i:Int)) none=(ns.drop i).map V.int:=by
 unfold Jm7
 rw [HT.sIx_nat,yf,Nat.min_eq_left h,<-List.map_drop]
 show List.take (ns.length - i) ((ns.drop i).map V.int)=_
 rw [yat (by rw [yf,List.length_drop];exact yg _)]
theorem BX.but {a:Ad} {p o:S5} {H H':Hp} {B:BTd} (st:Sbo H p) (b:But p H H') (h:BX a H o B):BX a H' o B:=by
 have k:∀d o,(∀x y z:Int,o≠HO.lst [.int x,.int y,.int z])->H d=some o->H' d=some o:=λd o n e=>b.1 _ _ (Jpj st e n) e
 obtain ⟨dx',g,g1,g0,⟨dy,t',g3,g4⟩,g5⟩:=h
 refine ⟨dx',g,k _ _ (λ_ _ _ z=>by cases z) g1,g0,⟨dy,t',k _ _ (λ_ _ _ z=>by cases z) g3,k _ _ (λ_ _ _ z=>by cases z) g4⟩,?_⟩
 cases hs:B.G.sv with
 |none=>rw [hs] at g5;exact g5
 |some j=>
  rw [hs] at g5
  obtain ⟨s,dx,e,q⟩:=g5
  exact ⟨s,dx,e,k _ _ (λ_ _ _ z=>by cases z) q⟩
theorem Sb7.but {a:Ad} {p:S5} {H H':Hp} {r:S5} {Bs:List BTd} {c g:Int} (st:Sbo H p) (b:But p H H') (h:Sb7 a H r Bs c g):Sb7 a H' r Bs c g:=by
 obtain ⟨dx,q,t,os,h1,h2,h3⟩:=h
 have k:∀d o,(∀x y z:Int,o≠HO.lst [.int x,.int y,.int z])->H d=some o->H' d=some o:=λd o n e=>b.1 _ _ (Jpj st e n) e
 exact ⟨dx,q,t,os,k _ _ (λ_ _ _ z=>by cases z) h1,k _ _ (λ_ _ _ z=>by cases z) h2,Paired.mapP h3 λo B q=>q.but st b⟩
def Sea (H:Hp) (p R:S5) (n:Nat) (ls:List S5):Prop:=∀l∈ls,l≠p/\l≠R/\∃ns:List Int,NGd n ns/\H l=some (.lst (ns.map V.int))
theorem Sea.but {H H':Hp} {p R:S5} {n:Nat} {ls:List S5} (b:But p H H') (h:Sea H p R n ls):Sea H' p R n ls:=λl hl=>by
 obtain ⟨h1,h2,ns,h3,h4⟩:=h l hl
 exact ⟨h1,h2,ns,h3,b.1 _ _ h1 h4⟩
theorem Sea.put {H:Hp} {p R:S5} {n:Nat} {ls:List S5} {o:HO} (h:Sea H p R n ls):Sea (upd H R o) p R n ls:=λl hl=>by
 obtain ⟨h1,h2,ns,h3,h4⟩:=h l hl
 exact ⟨h1,h2,ns,h3,by rw [Sz h2];exact h4⟩
def Yce:Sp:=λvs H Q _=>∃(p L:S5) (ts:List S5) (Bs:List BTd),vs= [.ref p,.ref L]/\Sbo H p/\L≠p/\H L=some (.lst (ts.map V.ref))/\Sca p H ts Bs/\RGd Bs/\∀(R:S5) (ls:List S5) (H':Hp),But p H H'->R≠p->ls.length<=10->H' R=some (.lst (ls.map V.ref))->Sea H' p R Bs.length ls->Q (.ref R) H'
theorem Say:Jkd ["_law_stream_here","_law_told","_law_least_here","_law_place","_law_lists_here","_law_more","_law_number"] ["_law_stream_here","_law_told"] (Jk9 (top 79)):=⟨rfl,rfl,rfl,by decide +kernel,rfl,by decide +kernel,by decide +kernel⟩
theorem Jw5 (T:Tx K mg a):Sx P w K mg base CX0 5 a.Jio a.Jip ["_law_stream_here","_law_told"] Yce:=by
 have Sr:=Jm8 (P:=P) (w:=w) (base:=base) T
 have Sff:=Jw4 (P:=P) (w:=w) (base:=base) T
 refine T.Ja3.fn.ok Say (λvs H Q E h=>?_) (λcdv A outer s H vs Q E hr h=>?_)
 ·obtain ⟨p,L,ts,Bs,rfl,_⟩:=h
  rfl
 ·obtain ⟨p,L,ts,Bs,rfl,st,nL,hL,td,rg,k⟩:=h
  have len:=Paired.length td
  have l16:=rg.len
  refine ⟨?t,?B,?C⟩
  case B=>
   refine' Jk6 ?a ?b
   case a=>exact (Jkh (i:=2) Say.nd rfl (ye rfl) (Jkc T.Ja2 Sff hr (by decide) (So (pv 1) Ss)))
   case b=>
   refine' Jk6 ?c ?d
   case c=>exact (Jkh (i:=3) Say.nd rfl (ye rfl) (Jkc T.Js Sr hr (by decide) (So (pv 0) (So (Jke Jkp (by rfl) T.Jau Jlg (So (pv 1) Ss)) Ss))))
   case d=>
   refine' Jk6 ?e ?f
   case e=>exact (Jkh (i:=4) Say.nd rfl (ye rfl) (Jl1 (So (pv 2) (So (Jkl Slt (Jl1 (So Sy Ss)) (Jke Jkp (by rfl) T.Jau Jlg (So (pv 1) Ss))) (So (Jl4 (N:=(["_law_one","_law_stream_here"]:List Str)) (ini:=[none,some 0]) rfl (Jl5 (pv 1)) (λ_ _ _ _ _=>(Jkf (i:=0) (by decide +kernel:(["_law_one","_law_stream_here"]:List Str).Nodup) rfl (ye rfl))) (λ_ _ _ _ _=>Jky) (λ_ _ _ _ _=>(Jkc T.Js Sr hr (by decide) (So (pv 1) (So Sy Ss))))) Ss)))))
   case f=>
   refine' Jk6 ?g ?h
   case g=>
    refine' Jma ?i ?j ?k ?l ?m
    case i=>exact PassesOwn.never
    case j=>exact rfl
    case k=>exact (Jl5 (Jl1 (So (Jv8 Jru Sy) (So Sy Ss))))
    case l=>exact (Jkf (i:=5) Say.nd rfl (ye rfl))
    case m=>
    refine' Jk6 ?n ?o
    case n=>exact (Jkh (i:=6) Say.nd rfl (ye rfl) (Jke (Jng rfl) (by rfl) T.Jaw Jri (So Sy (So (Jke (Jpf rfl) (by rfl) T.Jax Jvm (So Sy (So (Jkl Jl0 (Jkm Jks (pv 2) (pv 3) (λ_ _=>rfl)) (pv 5)) Ss))) Ss))))
    case o=>
    refine' Jk7 ?p
    case p=>exact (Jlv (Jq0 F.plainAttrs_list F.slot_list_append F.type_list_append Jlx (pv 4) (So (Jkl Jp1 (Jkl Jp1 (Jp3 Jra (pv 2) Jr1 (Jr2 (pv 3))) (Jl1 (So (pv 6) Ss))) (Jp3 Jra (pv 2) (Jr2 (Jkl Jl0 (pv 3) Sy)) Jr1)) Ss)))
   case h=>
   refine' Jk7 ?q
   case q=>exact (Jkg (pv 4))
  refine ⟨_,rfl,L,ts,Bs,rfl,hL,td.s,rg,λacc F H1 ng s1 hF0 hF=>?_⟩
  have nF:F≠p:=st.ne hF0
  have nl:=ng.1
  have c1:=But.of st s1
  refine ⟨_,rfl,_,rfl,L,_,rfl,.inl (Sw.of (s1 _ _ hL)),p,_,rfl,c1.2,?_,?_,λra H2 a0 a1 b2=>?_⟩
  ·rw [yf];omega
  ·rw [yf];exact Jx7 (by omega)
  rw [yf,len] at a1
  obtain ⟨i,rfl⟩:=ycp a0
  have il:i < Bs.length:=by omega
  have c2:=c1.trans b2
  have hL2:=c2.1 _ _ nL hL
  have hF2:=b2.1 _ _ nF hF
  refine ⟨_,rfl,(show 1<=Sa by decide),λz1 hz1=>?_⟩
  have q1:=Sn.upd (o:=.lst [.int 12]) hz1
  refine ⟨_,rfl,L,_,rfl,.inl (Sw.of (q1 _ _ hL2)),z1,_,_,rfl,rfl,Sv,?_,?_,?_,λz2 hz2=>?_⟩
  ·rw [yf];omega
  ·rw [yf];omega
  ·rw [yf];exact yap (Jkk (by simp;omega))
  have q2:=Sn.upd (o:=.lst (yw ((ts.map V.ref).length:Int).toNat [V.int 12]).flatten) hz2
  have hz2':(upd (upd H2 z1 (.lst [.int 12])) z2 (.lst (yw ((ts.map V.ref).length:Int).toNat [V.int 12]).flatten)) z2=some (.lst ((yw Bs.length (12:Int)).map V.int)):=by
   rw [Sv,yf,len,show (Bs.length:Int).toNat=Bs.length by omega,Slc]
  have n2:z2≠p:=(c2.same q1).2.ne hz2
  have c3:=c2.same (q1.trans q2)
  have hF3:=(q1.trans q2) _ _ hF2
  have hL3:=(q1.trans q2) _ _ hL2
  have nF2:F≠z2:=Jkb (q1 _ _ hF2) hz2
  generalize upd (upd H2 z1 (.lst [.int 12])) z2 (.lst (yw ((ts.map V.ref).length:Int).toNat [V.int 12]).flatten)=H3 at hz2' c3 hF3 hL3⊢
  refine ⟨_,rfl,L,rfl,⟨_,Sw.of hL3⟩,λD hD=>?_⟩
  have nD:D≠p:=c3.2.ne hD
  refine Jle (K:=K) (xs:=ts.map V.ref) (λj σ H'=>(∃o,σ= [o,some (.ref p)])/\But p H3 H'/\∃gs:List Int,H' D=some (.lst (gs.map V.int))/\gs.length=j/\∀x∈gs,0<=x/\x<=12) ⟨⟨_,rfl⟩,(But.refl c3.2).same (Sn.upd hD),[],Sv,rfl,(λx h=>nomatch h)⟩ (λj σ H' _ ⟨_,cc,_⟩=>Sw.of (cc.1 _ _ nL hL3)) ?_ ?_
  ·rintro j y' σ H' hy ⟨⟨o,rfl⟩,cc,gs,hgs,gl,gin⟩
   have jl:j < ts.length:=by
    have:=(yq.mp hy).1
    simpa using this
   refine Jlc ⟨_,rfl,p,13,rfl,cc.2,by decide,by decide,λr H10 r0 r1 b10=>?_⟩
   refine ⟨_,b10.1 _ _ nD hgs,?_,⟨_,rfl⟩,(cc.trans b10).updD hD nD,gs++ [r],?_,?_,?_⟩
   ·rw [yf]
    exact Jkk (by omega)
   ·rw [Sv,yt]
    rfl
   ·rw [yai,gl]
    rfl
   ·intro x hx
    rcases ybf.mp hx with h|h
    ·exact gin x h
    ·rw [ybd.mp h]
     omega
  rintro σ4 H4 ⟨_,b4,gs,hgs,gl,gin⟩
  rw [yf] at gl
  have c4:=c3.trans b4
  have hF4:=b4.1 _ _ nF hF3
  have hz4:=b4.1 _ _ n2 hz2'
  refine ⟨(show 3<=Sa by decide),λR hR=>?_⟩
  have nR:R≠p:=c4.2.ne hR
  have hR0:H R=none:=But.free st c4 hR
  have q5:=Sn.upd (o:=.lst [.ref F,.ref z2,.ref D]) hR
  have c5:=c4.same q5
  have num:Sea (upd H4 R (.lst [.ref F,.ref z2,.ref D])) p R Bs.length [F,z2,D]:=by
   intro l hl
   simp only [yn,yx,or_false] at hl
   rcases hl with rfl|rfl|rfl
   ·exact ⟨nF,Jkb hF4 hR,acc,ng,q5 _ _ hF4⟩
   ·exact ⟨n2,Jkb hz4 hR,_,⟨ybv,λx hx=>by rw [(List.mem_replicate.mp hx).2];decide⟩,q5 _ _ hz4⟩
   ·exact ⟨nD,Jkb hgs hR,gs,⟨by omega,gin⟩,q5 _ _ hgs⟩
  have hR5:(upd H4 R (.lst [.ref F,.ref z2,.ref D])) R=some (.lst ([F,z2,D].map V.ref)):=Sv
  have hF5:=q5 _ _ hF4
  have nFR:F≠R:=Jkb hF4 hR
  generalize upd H4 R (.lst [.ref F,.ref z2,.ref D])=H5 at c5 num hR5 hF5⊢
  refine ⟨_,rfl,(show 2<=Sa by decide),λZ hZ=>?_⟩
  have q6:=Sn.upd (o:=.lst [.int (-1),.int 1]) hZ
  have nZ:Z≠p:=c5.2.ne hZ
  have nZR:Z≠R:=λz=>by rw [z,hR5] at hZ;cases hZ
  refine ⟨Z,rfl,⟨_,Sw.of Sv⟩,?_⟩
  have num6:Sea (upd H5 Z (.lst [.int (-1),.int 1])) p R Bs.length [F,z2,D]:=num.but ((But.refl c5.2).same q6)
  refine Jnj (K:=K) (a:=Z) (xs:=[.int (-1),.int 1]) (λj σ H'=>∃(ls:List S5) (o5 o6:Option V),σ= [some (.ref p),some (.ref L),some (.ref F),some (.int (i:Int)),some (.ref R),o5,o6]/\But p H H'/\H' Z=some (.lst [.int (-1),.int 1])/\H' F=some (.lst (acc.map V.int))/\H' R=some (.lst (ls.map V.ref))/\ls.length=3+j/\Sea H' p R Bs.length ls) ⟨[F,z2,D],_,_,rfl,c5.same q6,Sv,q6 _ _ hF5,q6 _ _ hR5,rfl,num6⟩ (λj σ H' _ ⟨_,_,_,_,_,hz,_⟩=>Sw.of hz) ?_ ?_
  ·rintro j x σ H' hx ⟨ls,o5,o6,rfl,cc,hZ',hF',hR',hl,nm⟩
   have hj:j < 2:=(yq.mp hx).1
   have ex:∃e:Int,x= .int e/\ -1<=e/\e<=1:=by
    rcases (show j=0\/j=1 by omega) with rfl|rfl
    ·cases hx;exact ⟨_,rfl,by decide,by decide⟩
    ·cases hx;exact ⟨_,rfl,by decide,by decide⟩
   obtain ⟨e,rfl,e0,e1⟩:=ex
   obtain ⟨a1',m1⟩:=Joj (ns:=acc) (s:=(i:Int)) ⟨by omega,by omega⟩
   have bx:=ng.2 _ m1
   generalize acc.getD (i:Int).toNat 0=fv at a1' bx
   have ct:=Sla acc i (by omega)
   have cf:=Yap acc (i+1) (by omega)
   refine ⟨_,rfl,_,rfl,F,_,(i:Int),_,rfl,rfl,Sw.of hF',a1',_,rfl,_,_,rfl,rfl,_,_,rfl,_,_,rfl,?_⟩
   generalize hv:(if (if fv+e < 12 then fv+e else (12:Int)) > 0 then (if fv+e < 12 then fv+e else (12:Int)) else (0:Int))=nv
   have bv:0<=nv/\nv<=12:=by
    rw [<-hv]
    split <;> split <;> omega
   refine ⟨_,rfl,.inl ⟨rfl,_,Sw.of hR'⟩,_,rfl,_,rfl,_,rfl,F,_,rfl,Sw.of hF',λy1 hy1=>?_⟩
   have w1:=Sn.upd (o:=.lst (Jm7 (acc.map V.int) none (some (i:Int)))) hy1
   refine ⟨_,rfl,(show 1<=Sa by decide),λy2 hy2=>?_⟩
   have w2:=w1.trans (Sn.upd (o:=.lst [.int nv]) hy2)
   refine ⟨y1,y2,_,_,rfl,rfl,Sn.upd hy2 _ _ Sv,Sv,?_,λy3 hy3=>?_⟩
   ·rw [ct,yf,yah]
    exact yap (Jkk (by simp;omega))
   have w3:=w2.trans (Sn.upd (o:=.lst (Jm7 (acc.map V.int) none (some (i:Int))++ [.int nv])) hy3)
   refine ⟨_,rfl,_,rfl,_,_,rfl,rfl,_,rfl,F,_,rfl,Sw.of (w3 _ _ hF'),λy4 hy4=>?_⟩
   have w4:=w3.trans (Sn.upd (o:=.lst (Jm7 (acc.map V.int) (some ((i:Int)+1)) none)) hy4)
   refine ⟨y3,y4,_,_,rfl,rfl,Sn.upd hy4 _ _ Sv,Sv,?_,λy5 hy5=>?_⟩
   ·rw [ct,show ((i:Int)+1)=((i+1:Nat):Int) by omega,cf,yai,yf,yf,yah,List.length_drop]
    exact yap (Jkk (by simp;omega))
   have e5:Jm7 (acc.map V.int) none (some (i:Int))++ [V.int nv]++Jm7 (acc.map V.int) (some ((i:Int)+1)) none=(acc.take i++ [nv]++acc.drop (i+1)).map V.int:=by
    rw [ct,show ((i:Int)+1)=((i+1:Nat):Int) by omega,cf,yt,yt]
    rfl
   rw [e5]
   have q7:=Sn.upd (o:=.lst ((acc.take i++ [nv]++acc.drop (i+1)).map V.int)) hy5
   have w5:=w4.trans q7
   have pg:=Sly ng il bv
   generalize acc.take i++ [nv]++acc.drop (i+1)=more at pg w5 q7
   have h5:(upd (upd (upd (upd (upd H' y1 (.lst (Jm7 (acc.map V.int) none (some (i:Int))))) y2 (.lst [.int nv])) y3 (.lst (Jm7 (acc.map V.int) none (some (i:Int))++ [.int nv]))) y4 (.lst (Jm7 (acc.map V.int) (some ((i:Int)+1)) none))) y5 (.lst (more.map V.int))) y5=some (.lst (more.map V.int)):=Sv
   have n5:y5≠p:=(cc.same w4).2.ne hy5
   have n5R:y5≠R:=λz=>by rw [z,w4 _ _ hR'] at hy5;cases hy5
   generalize upd (upd (upd (upd (upd H' y1 (.lst (Jm7 (acc.map V.int) none (some (i:Int))))) y2 (.lst [.int nv])) y3 (.lst (Jm7 (acc.map V.int) none (some (i:Int))++ [.int nv]))) y4 (.lst (Jm7 (acc.map V.int) (some ((i:Int)+1)) none))) y5 (.lst (more.map V.int))=H8 at w5 h5⊢
   have hR8:=w5 _ _ hR'
   have c8:=cc.same w5
   refine ⟨R,_,_,rfl,rfl,hR8,?_,ls++ [y5],_,_,rfl,c8.updD hR0 nR,by rw [Sz nZR];exact w5 _ _ hZ',by rw [Sz nFR];exact w5 _ _ hF',by rw [Sv,yt];rfl,by rw [yai,hl];rfl,?_⟩
   ·rw [yf]
    exact Jkk (by omega)
   ·intro l hl'
    rcases ybf.mp hl' with h|h
    ·exact ((nm.but ((But.refl cc.2).same w5)).put) l h
    ·rw [ybd.mp h]
     exact ⟨n5,n5R,more,pg,by rw [Sz n5R];exact h5⟩
  ·rintro σ H' ⟨ls,o5,o6,rfl,cc,hZ',hF',hR',hl,nm⟩
   have hl':ls.length=5:=hl
   exact ⟨_,rfl,k R ls H' cc nR (by omega) hR' nm⟩
def Sfv (H:Hp) (Bs:List BTd) (ns:List Int) (ds:List S5):Prop:=ds.length=Bs.length/\∀(i:Nat) B d,Bs[i]?=some B->ds[i]?=some d->∃kvs,H d=some (.dK kvs)/\Sco B (Jlm B ((Jly ns).getD i 0) (ns.getD i 0)) kvs
theorem Sfv.same {H H':Hp} {Bs:List BTd} {ns:List Int} {ds:List S5} (s:Sn H H') (h:Sfv H Bs ns ds):Sfv H' Bs ns ds:=⟨h.1,λi B d e1 e2=>(h.2 i B d e1 e2).elim λkvs q=>⟨kvs,s _ _ q.1,q.2⟩⟩
def Yed:Sp:=λvs H Q _=>∃(L N:S5) (ts:List S5) (Bs:List BTd) (ns:List Int),vs= [.ref L,.ref N]/\H L=some (.lst (ts.map V.ref))/\Sf1 H ts Bs/\RGd Bs/\H N=some (.lst (ns.map V.int))/\NGd Bs.length ns/\∀(M:S5) (ds:List S5) (H':Hp),Sn H H'->H M=none->H' M=some (.lst (ds.map V.ref))->Sfv H' Bs ns ds->Q (.ref M) H'
def Ycb:Sp:=λvs H Q _=>∃(M l:S5) (ds:List S5) (Bs:List BTd) (ns ls:List Int),vs= [.ref M,.ref l]/\H M=some (.lst (ds.map V.ref))/\Sfv H Bs ns ds/\RGd Bs/\H l=some (.lst (ls.map V.int))/\LvG Bs ls/\(hldP Bs ns ls=true->∀H',Sn H H'->Q .non H')/\(hldP Bs ns ls=false->∀(i:Nat) H',Jwu Bs ns ls i->Sn H H'->Q (.int (i:Int)) H')
theorem Jwk:Jkd ["_law_told","_law_numbers"] ["_law_told","_law_numbers"] (Jk9 (top 80)):=⟨rfl,rfl,rfl,by decide +kernel,rfl,by decide +kernel,by decide +kernel⟩
theorem Jw6 (T:Tx K mg a):Sx P w K mg base CX0 3 a.Jiq a.Jir ["_law_told","_law_numbers"] Yed:=by
 have Sck:=Js7 (P:=P) (w:=w) (base:=base) T
 refine T.Ja4.fn.ok Jwk (λvs H Q E h=>?_) (λcdv A outer s H vs Q E hr h=>?_)
 ·obtain ⟨L,N,ts,Bs,ns,rfl,_⟩:=h
  rfl
 ·obtain ⟨L,N,ts,Bs,ns,rfl,hL,td,rg,hN,ng,k⟩:=h
  have len:=Paired.length td
  have l16:=rg.len
  have nl:=ng.1
  refine ⟨?t,?B,?C⟩
  case B=>
   refine' Jk7 ?a
   case a=>exact (Jkg (Jl4 (N:=(["_law_one","_law_up","_law_hi"]:List Str)) (ini:=[none,none,none]) rfl (Jwh false false false (by rfl) T.Jb3 (So (pv 0) (So (Jkl Jp1 (Jl1 (So Sy Ss)) (pv 1)) (So (pv 1) Ss)))) (λ_ _ _ _ _=>(Jpl (K:=K) (n:=3) rfl rfl (Jkv (Jkf (i:=0) (by decide +kernel:(["_law_one","_law_up","_law_hi"]:List Str).Nodup) rfl (ye rfl)) (Jkv (Jkf (i:=1) (by decide +kernel:(["_law_one","_law_up","_law_hi"]:List Str).Nodup) rfl (ye rfl)) (Jkv (Jkf (i:=2) (by decide +kernel:(["_law_one","_law_up","_law_hi"]:List Str).Nodup) rfl (ye rfl)) Jmx))))) (λ_ _ _ _ _=>Jky) (λ_ _ _ _ _=>(Jkc T.Jz Sck hr (by decide) (So (pv 0) (So (pv 1) (So (pv 2) Ss)))))))
  refine ⟨_,rfl,(show 1<=Sa by decide),λz1 hz1=>?_⟩
  have q1:=Sn.upd (o:=.lst [.int 0]) hz1
  refine ⟨_,rfl,z1,N,_,_,rfl,rfl,Sv,q1 _ _ hN,?_,λU hU=>?_⟩
  ·rw [yf]
   exact yap (Jkk (by simp;omega))
  have q2:=q1.trans (Sn.upd (o:=.lst ([.int 0]++ns.map V.int)) hU)
  have hU':(upd (upd H z1 (.lst [.int 0])) U (.lst ([.int 0]++ns.map V.int))) U=some (.lst ((0::ns).map V.int)):=Sv
  generalize upd (upd H z1 (.lst [.int 0])) U (.lst ([.int 0]++ns.map V.int))=H2 at q2 hU'
  refine ⟨_,rfl,L,U,N,rfl,⟨_,Sw.of (q2 _ _ hL)⟩,⟨_,Sw.of hU'⟩,⟨_,Sw.of (q2 _ _ hN)⟩,λD hD=>?_⟩
  have hD0:H D=none:=by
   cases hc:H D with
   |none=>rfl
   |some u=>rw [q2 _ _ hc] at hD;cases hD
  refine Jss (K:=K) (l1:=L) (l2:=U) (l3:=N) (b1:=false) (b2:=false) (b3:=false) (xs:=ts.map V.ref) (ys:=(0::ns).map V.int) (us:=ns.map V.int) (D:=D) (λi σ H'=>(∃o1 o2 o3,σ= [o1,o2,o3])/\Sn H2 H'/\∃ds:List S5,H' D=some (.lst (ds.map V.ref))/\ds.length=i/\∀(j:Nat) B d,Bs[j]?=some B->ds[j]?=some d->∃kvs,H' d=some (.dK kvs)/\Sco B (Jlm B ((Jly ns).getD j 0) (ns.getD j 0)) kvs) ⟨⟨_,_,_,rfl⟩,Sn.upd hD,[],Sv,rfl,λj B p _ h=>by simp at h⟩ (λi σ H' _ ⟨_,sm,_⟩=>⟨Sw.of (sm _ _ (q2 _ _ hL)),Sw.of (sm _ _ hU'),Sw.of (sm _ _ (q2 _ _ hN))⟩) (by simp;omega) (by simp;omega) ?_ ?_
  ·rintro i x y u σ H' T1 hx hy hu ⟨⟨o1,o2,o3,rfl⟩,sm,ds,hDs,hdl,hds⟩ hT
   rw [ym] at hx hy hu
   obtain ⟨t,ht,rfl⟩:=yy.mp hx
   obtain ⟨up,hup,rfl⟩:=yy.mp hy
   obtain ⟨hi,hhi,rfl⟩:=yy.mp hu
   obtain ⟨B,hB,tB⟩:=Jl6 td ht
   have il:i < Bs.length:=(yq.mp hB).1
   have tg:=rg.all B (yad hB)
   have eu:(Jly ns).getD i 0=up:=by
    rw [Jxy (by omega),yaj,hup]
    rfl
   have eh:ns.getD i 0=hi:=by
    rw [yaj,hhi]
    rfl
   have bu:0<=up/\up<=12:=by
    rcases yn.mp (yad hup) with rfl|h
    ·decide
    ·exact ng.2 _ h
   have sT:=Sn.upd (o:=.tup [.ref t,.int up,.int hi]) hT
   have s4:=(q2.trans sm).trans sT
   refine Ycw (SqT.of Sv) ⟨_,rfl,_,rfl,_,rfl,t,B,up,hi,rfl,tB.same s4,tg.b,bu,λq kvs H5 s5 hq ld=>?_⟩
   have hD5:=s5 _ _ (sT _ _ hDs)
   have nD:∀{d:S5} {kv:List (Key×V)},H5 d=some (.dK kv)->d≠D:=λe z=>by rw [z,hD5] at e;cases e
   refine ⟨_,hD5,?_,⟨_,_,_,rfl⟩,?_,ds++ [q],?_,?_,?_⟩
   ·rw [yf]
    exact Jkk (by omega)
   ·intro c2 o' z'
    rw [Sz (Jkb z' hD)]
    exact s5 _ _ (sT _ _ (sm _ _ z'))
   ·rw [Sv,yt]
    rfl
   ·rw [yai,hdl]
    rfl
   ·intro j B' q' hB' hq'
    by_cases cj:j < ds.length
    ·rw [ycd cj] at hq'
     obtain ⟨kv,x2,x3⟩:=hds j B' q' hB' hq'
     have x2':=s5 _ _ (sT _ _ x2)
     exact ⟨kv,by rw [Sz (nD x2')];exact x2',x3⟩
    ·have ej:j=i:=by
      have:=(yq.mp hq').1
      simp at this
      omega
     subst ej
     rw [hB] at hB'
     cases hB'
     rw [ycc (by omega),hdl,Nat.sub_self] at hq'
     cases hq'
     rw [eu,eh]
     exact ⟨kvs,by rw [Sz (nD hq)];exact hq,ld⟩
  rintro σ3 H3 ⟨_,q3,ds,hD3,hdl,hds⟩
  rw [yf,len] at hdl
  exact k D ds H3 (q2.trans q3) hD0 hD3 ⟨hdl,hds⟩
theorem Sb6:Jkd ["_law_losts_here","_law_levels","_law_place","_law_lost_here"] ["_law_losts_here","_law_levels"] (Jk9 (top 81)):=⟨rfl,rfl,rfl,by decide +kernel,rfl,by decide +kernel,by decide +kernel⟩
theorem Jna (T:Tx K mg a):Sx P w K mg base CX0 1 a.Jis a.Jit ["_law_losts_here","_law_levels"] Ycb:=by
 refine T.Ja5.fn.ok Sb6 (λvs H Q E h=>?_) (λcdv A outer s H vs Q E hr h=>?_)
 ·obtain ⟨M,l,ds,Bs,ns,ls,rfl,_⟩:=h
  rfl
 ·obtain ⟨M,l,ds,Bs,ns,ls,rfl,hM,⟨dl,hds⟩,rg,hl,lg,k1,k2⟩:=h
  have hu64:=Jnt hr
  have l16:=rg.len
  have ll:=lg.1
  refine ⟨?t,?B,?C⟩
  case B=>
   refine' Jk6 ?a ?b
   case a=>
    refine' Jma ?c ?d ?e ?f ?g
    case c=>exact PassesOwn.never
    case d=>exact rfl
    case e=>exact (Jwg (by rfl) T.Jar (So (pv 0) Ss))
    case f=>exact (Jrp rfl (Jkv (Jkf (i:=2) Sb6.nd rfl (ye rfl)) (Jkv (Jkf (i:=3) Sb6.nd rfl (ye rfl)) Jmx)))
    case g=>
    refine' Jk7 ?h
    case h=>
    refine' Jku ?i ?j ?k
    case i=>exact (Jkr (Jth hu64) (Jkm Jks (pv 1) (pv 2) (λ_ _=>rfl)) (pv 3) (by with_unfolding_all rfl))
    case j=>
     refine' Jk7 ?l
     case l=>exact (Jkg (pv 2))
    case k=>exact Jki
   case b=>
   refine' Jk7 ?m
   case m=>exact (Jkg Jlu)
  refine ⟨_,rfl,M,rfl,⟨_,Sw.of hM⟩,?_⟩
  refine Jzk (K:=K) (a:=M) (xs:=ds.map V.ref) (λi σ H'=>(∃o2 o3,σ= [some (.ref M),some (.ref l),o2,o3])/\Sn H H'/\∀(j:Nat) B,j < i->Bs[j]?=some B->Jno B ((Jly ns).getD j 0) (ns.getD j 0) (ls.getD j 0)=true) ⟨⟨_,_,rfl⟩,Sn.refl _,λj B h=>absurd h (ycn _)⟩ (λi σ H' _ ⟨_,sm,_⟩=>Sw.of (sm _ _ hM)) ?_ ?_
  ·rintro i x σ H' T1 hx ⟨⟨o2,o3,rfl⟩,sm,all⟩ hT
   rw [ym] at hx
   obtain ⟨d,hd,rfl⟩:=yy.mp hx
   have il:i < ds.length:=(yq.mp hd).1
   have hB:Bs[i]?=some (Bs[i]'(by omega)):=yp _
   generalize Bs[i]'(by omega)=B at hB
   obtain ⟨kvs,e,ld⟩:=hds i B d hB hd
   have hv:=Jsi (l:=ls) (i:=i) (by omega)
   generalize hev:ls.getD i 0=v at hv
   have rb:=lg.2 i B v hB hv
   have sT:=Sn.upd (o:=.tup [.int i,.ref d]) hT
   have s1:=sm.trans sT
   refine ⟨T1,_,rfl,SqT.of Sv,rfl,_,_,rfl,_,_,rfl,rfl,?_⟩
   refine ⟨_,rfl,_,rfl,l,_,(i:Int),_,rfl,rfl,Sw.of (s1 _ _ hl),Jl8 (j:=i) (by rw [ym,hv];rfl),_,rfl,_,_,rfl,.inl ⟨_,yaa v,.inl (s1 _ _ e),rfl,rfl⟩,_,rfl,?_⟩
   have eh:(Jn4 kvs (yaa v)).isSome=!Jno B ((Jly ns).getD i 0) (ns.getD i 0) v:=by
    rw [ld v rb.1 rb.2]
    unfold Jno isHeld
    cases (Jlm B ((Jly ns).getD i 0) (ns.getD i 0)).getD (v - B.lo).toNat none <;> rfl
   rw [eh]
   cases hc:Jno B ((Jly ns).getD i 0) (ns.getD i 0) v with
   |false=>
    refine Jmb ⟨_,rfl,k2 ?_ i _ ⟨by omega,λB' hB'=>by rw [hB] at hB';cases hB';rw [hev];exact hc,all⟩ s1⟩
    unfold hldP
    rw [List.all_eq_false]
    refine ⟨i,yae.mpr (by omega),?_⟩
    rw [hB]
    show ¬(Jno B ((Jly ns).getD i 0) (ns.getD i 0) (ls.getD i 0)=true)
    rw [hev,hc]
    decide
   |true=>
    refine Jlb ⟨⟨_,_,rfl⟩,s1,λj B' hj hB'=>?_⟩
    by_cases cj:j < i
    ·exact all j B' cj hB'
    ·have:j=i:=by omega
     subst this
     rw [hB] at hB'
     cases hB'
     rw [hev]
     exact hc
  ·rintro σ H' ⟨_,sm,all⟩
   refine k1 ?_ _ sm
   unfold hldP
   rw [yau]
   intro i hi
   have il:=yae.mp hi
   cases hB:Bs[i]? with
   |none=>rfl
   |some B=>exact all i B (by simp;omega) hB
def Ju0 (B:BTd) (up hi lv:Int) (j:Nat):List Int:=((yv j).filter λs:Nat=>Jln B up lv (Jlm B up hi) s&&decide (lvG B.G s lv<=hi)).map λs:Nat=>(s:Int)
theorem Sle (B:BTd) (up hi lv:Int):Ju0 B up hi lv (nOf B.G)=(usable B hi lv).filter (Jln B up lv (Jlm B up hi)):=by
 unfold Ju0 usable
 rw [List.filter_filter,List.filter_map]
 rfl
theorem Yb4 (B:BTd) (up hi lv:Int) (j:Nat):Ju0 B up hi lv (j+1)=if (Jln B up lv (Jlm B up hi) j&&decide (lvG B.G j lv<=hi))=true then Ju0 B up hi lv j++ [(j:Int)] else Ju0 B up hi lv j:=by
 unfold Ju0
 rw [ybq,ybr,yt]
 split
 ·rename_i h
  rw [ybz,if_pos h]
  rfl
 ·rename_i h
  rw [ybz,if_neg h]
  simp
theorem Ydj (B:BTd) (up hi lv:Int) (j:Nat):(Ju0 B up hi lv j).length<=j:=by
 unfold Ju0
 rw [yf]
 exact yab (ybi ..) (by simp)
theorem Yc7 {Bs:List BTd} {ns ls:List Int} {i:Nat} {B:BTd} (hB:Bs[i]?=some B):(Jnb Bs ns ls)[i]?=some (Jlo B ((Jly ns).getD i 0) (ns.getD i 0) (ls.getD i 0 - B.lo).toNat):=by
 have il:i < Bs.length:=(yq.mp hB).1
 unfold Jnb
 rw [ym,List.getElem?_range il]
 show some (match Bs[i]? with|some B=>Jlo B ((Jly ns).getD i 0) (ns.getD i 0) (ls.getD i 0 - B.lo).toNat|none=>0)=_
 rw [hB]
theorem Ydk {Bs:List BTd} {ns ls:List Int} {i:Nat} {B:BTd} (h:hldP Bs ns ls=true) (hB:Bs[i]?=some B):Jno B ((Jly ns).getD i 0) (ns.getD i 0) (ls.getD i 0)=true:=by
 unfold hldP at h
 rw [yau] at h
 have q:=h i (yae.mpr (yq.mp hB).1)
 rw [hB] at q
 exact q
def Yea:Sp:=λvs H Q _=>∃(L N M l:S5) (ts ds:List S5) (Bs:List BTd) (ns ls:List Int),vs= [.ref L,.ref N,.ref M,.ref l]/\H L=some (.lst (ts.map V.ref))/\Sf1 H ts Bs/\RGd Bs/\H N=some (.lst (ns.map V.int))/\NGd Bs.length ns/\H M=some (.lst (ds.map V.ref))/\Sfv H Bs ns ds/\H l=some (.lst (ls.map V.int))/\LvG Bs ls/\hldP Bs ns ls=true/\∀(u:S5) (H':Hp),Sn H H'->H' u=some (.tup ((Jnb Bs ns ls).map V.int))->Q (.ref u) H'
theorem Sa9:Jkd ["_law_told","_law_numbers","_law_losts_here","_law_levels","_law_settings_here","_law_place","_law_one","_law_up","_law_good","_law_setting","_law_out","_law_bad_here"] ["_law_told","_law_numbers","_law_losts_here","_law_levels"] (Jk9 (top 82)):=⟨rfl,rfl,rfl,by decide +kernel,rfl,by decide +kernel,by decide +kernel⟩
theorem Jsf (T:Tx K mg a):Sx P w K mg base CX0 2 a.Jiu a.Jiv ["_law_told","_law_numbers","_law_losts_here","_law_levels"] Yea:=by
 have Sby:=Js6 (P:=P) (w:=w) (base:=base) T
 have Sd6:=Jtf (P:=P) (w:=w) (base:=base) T
 refine T.Ja6.fn.ok Sa9 (λvs H Q E h=>?_) (λcdv A outer s H vs Q E hr h=>?_)
 ·obtain ⟨L,N,M,l,ts,ds,Bs,ns,ls,rfl,_⟩:=h
  rfl
 ·obtain ⟨L,N,M,l,ts,ds,Bs,ns,ls,rfl,hL,td,rg,hN,ng,hM,⟨dl,hds⟩,hl,lg,hp,k⟩:=h
  have len:=Paired.length td
  have l16:=rg.len
  have nl:=ng.1
  have ll:=lg.1
  refine ⟨?t,?B,?C⟩
  case B=>
   refine' Jk6 ?a ?b
   case a=>exact (Jkh (i:=4) Sa9.nd rfl (ye rfl) (Jl1 Ss))
   case b=>
   refine' Jk6 ?c ?d
   case c=>
    refine' Jma ?e ?f ?g ?h ?i
    case e=>exact PassesOwn.never
    case f=>exact rfl
    case g=>exact (Jwg (by rfl) T.Jar (So (pv 0) Ss))
    case h=>exact (Jrp rfl (Jkv (Jkf (i:=5) Sa9.nd rfl (ye rfl)) (Jkv (Jkf (i:=6) Sa9.nd rfl (ye rfl)) Jmx)))
    case i=>
    refine' Jk6 ?j ?k
    case j=>exact (Jkh (i:=7) Sa9.nd rfl (ye rfl) (Jkm Jks (Jkl Jp1 (Jl1 (So Sy Ss)) (pv 1)) (pv 5) (λ_ _=>rfl)))
    case k=>
    refine' Jk6 ?l ?m
    case l=>exact (Jkh (i:=8) Sa9.nd rfl (ye rfl) (Jl1 Ss))
    case m=>
    refine' Jk6 ?n ?o
    case n=>
     refine' Jma ?p ?q ?r ?s ?u
     case p=>exact PassesOwn.never
     case q=>exact rfl
     case r=>exact (Jlj (by rfl) T.Jay (So (Jke Jkp (by rfl) T.Jau Jlg (So (Jkm Jkw (pv 6) Sy (λ_ _=>rfl)) Ss)) Ss))
     case s=>exact (Jkf (i:=9) Sa9.nd rfl (ye rfl))
     case u=>
     refine' Jk6 ?v ?w
     case v=>exact (Jkh (i:=10) Sa9.nd rfl (ye rfl) (Jkc T.Jx Sby hr (by decide) (So (pv 6) (So (pv 9) (So (Jkm Jks (pv 3) (pv 5) (λ_ _=>rfl)) Ss)))))
     case w=>
     refine' Jk6 ?x ?y
     case x=>exact (Jkh (i:=11) Sa9.nd rfl (ye rfl) (Jkc T.Jy Sd6 hr (by decide) (pa4 (pv 6) (pv 7) (Jkl Jm9 (Jkm Jks (pv 3) (pv 5) (λ_ _=>rfl)) (pv 10)) (Jkm Jks (pv 2) (pv 5) (λ_ _=>rfl)))))
     case y=>
     refine' Jk7 ?z
     case z=>
     refine' Jku ?a0 ?b0 ?c0
     case a0=>exact (PW.pt (Jys (Jkr Jnl (pv 10) (Jkm Jks (pv 1) (pv 5) (λ_ _=>rfl)) (Jkt _)) (Jwi (Jkr Jti (pv 11) Jlu (Jkt _)))))
     case b0=>
      refine' Jk7 ?d0
      case d0=>exact (Jlv (Jq0 F.plainAttrs_list F.slot_list_append F.type_list_append Jlx (pv 8) (So (pv 9) Ss)))
     case c0=>exact Jki
    case o=>
    refine' Jk7 ?e0
    case e0=>exact (Jlv (Jq0 F.plainAttrs_list F.slot_list_append F.type_list_append Jlx (pv 4) (So (Jkm Jks (pv 8) Sy (λ_ _=>rfl)) Ss)))
   case d=>
   refine' Jk7 ?f0
   case f0=>exact (Jkg (Jla Jlt (by rfl) T.Jb2 Jm3 (So (pv 4) Ss)))
  refine ⟨(show 0<=Sa by decide),λS hS=>?_⟩
  have s1:=Sn.upd (o:=.lst []) hS
  have sS:∀{H':Hp} {o:HO},Sn H H'->Sn H (upd H' S o):=λs b u z=>by rw [Sz (Jkb z hS)];exact s _ _ z
  refine ⟨_,rfl,L,rfl,⟨_,Sw.of (s1 _ _ hL)⟩,?_⟩
  refine Jzk (K:=K) (a:=L) (xs:=ts.map V.ref) (λi σ H'=>(∃o5 o6 o7 o8 o9 o10 o11:Option V,σ= [some (.ref L),some (.ref N),some (.ref M),some (.ref l),some (.ref S),o5,o6,o7,o8,o9,o10,o11])/\Sn H H'/\H' S=some (.lst (((Jnb Bs ns ls).take i).map V.int))) ⟨⟨_,_,_,_,_,_,_,rfl⟩,s1,Sv⟩ (λi σ H' _ ⟨_,sm,_⟩=>Sw.of (sm _ _ hL)) ?_ ?_
  ·rintro i x σ H' T1 hx ⟨⟨o5,o6,o7,o8,o9,o10,o11,rfl⟩,sm,hS'⟩ hT
   rw [ym] at hx
   obtain ⟨t,ht,rfl⟩:=yy.mp hx
   obtain ⟨B,hB,tB⟩:=Jl6 td ht
   have il:i < Bs.length:=(yq.mp hB).1
   have tg:=rg.all B (yad hB)
   have bg:=tg.b
   have hd:ds[i]?=some (ds[i]'(by omega)):=yp _
   generalize ds[i]'(by omega)=d at hd
   obtain ⟨kvs,hkv,ld⟩:=hds i B d hB hd
   have hv:=Jsi (l:=ls) (i:=i) (by omega)
   have hh:=Ydk hp hB
   have sa:=Yc7 (ns:=ns) (ls:=ls) hB
   have rb:=lg.2 i B _ hB hv
   have eu:=Jxy (ns:=ns) (i:=i) (by omega)
   have hup:(0::ns)[i]?=some ((0::ns).getD i 0):=Jsi (by simp;omega)
   have bu:0<=(0::ns).getD i 0/\(0::ns).getD i 0<=12:=by
    rcases yn.mp (yad hup) with e|h
    ·rw [e];decide
    ·exact ng.2 _ h
   rw [<-eu] at bu hup
   have hhi:=Jsi (l:=ns) (i:=i) (by omega)
   generalize (Jly ns).getD i 0=up at ld hh sa bu hup
   generalize ns.getD i 0=hi at ld hh sa hhi
   generalize ls.getD i 0=lv at hh sa hv rb
   have sT:=Sn.upd (o:=.tup [.int i,.ref t]) hT
   have s2:=sm.trans sT
   have b1:=bg.lo
   have b2:=bg.hi
   have n4:=Jt6 bg.G
   have al:∀{H3:Hp},Sn H H3->atI (ls.map V.int) (i:Int)=some (.int lv):=λ_=>Jl8 (by rw [ym,hv];rfl)
   refine ⟨T1,_,rfl,SqT.of Sv,rfl,_,_,rfl,_,_,rfl,rfl,?_⟩
   generalize hHT:upd H' T1 (.tup [.int i,.ref t])=HT at s2 sT
   refine ⟨(show 1<=Sa by decide),λz1 hz1=>?_⟩
   have q1:=Sn.upd (o:=.lst [.int 0]) hz1
   refine ⟨_,rfl,z1,N,_,_,rfl,rfl,Sv,q1 _ _ (s2 _ _ hN),?_,λU hU=>?_⟩
   ·rw [yf]
    exact yap (Jkk (by simp;omega))
   have q2:=q1.trans (Sn.upd (o:=.lst ([.int 0]++ns.map V.int)) hU)
   refine ⟨_,rfl,U,_,(i:Int),_,rfl,rfl,Sw.of Sv,Jl8 (v:=.int up) (by show ((0::ns).map V.int)[i]?=_;rw [ym,hup];rfl),?_⟩
   have s3:=s2.trans q2
   have sT3:=sT.trans q2
   generalize upd (upd HT z1 (.lst [.int 0])) U (.lst ([.int 0]++ns.map V.int))=H3 at s3 sT3⊢
   refine ⟨(show 0<=Sa by decide),λG hG=>?_⟩
   have q4:=Sn.upd (o:=.lst []) hG
   have sG:∀{H':Hp} {o:HO},Sn H3 H'->Sn H3 (upd H' G o):=λs b u z=>by rw [Sz (Jkb z hG)];exact s _ _ z
   obtain ⟨mm,ht',hm',sv⟩:=id tB
   have en:nOf B.G=B.G.ns.length:=by unfold nOf;rw [sv]
   have s4:=s3.trans q4
   refine ⟨_,rfl,t,_,6,_,rfl,rfl,SqT.of (s4 _ _ ht'),rfl,mm,_,rfl,.inl (Sw.of (s4 _ _ hm')),_,rfl,by rw [yf];omega,by rw [yf];omega,?_⟩
   refine Jn2 (lo:=0) (λj σ H'=>(∃o9 o10 o11:Option V,σ= [some (.ref L),some (.ref N),some (.ref M),some (.ref l),some (.ref S),some (.int (i:Int)),some (.ref t),some (.int up),some (.ref G),o9,o10,o11])/\Sn H3 H'/\H' G=some (.lst ((Ju0 B up hi lv j).map V.int))) ⟨⟨_,_,_,rfl⟩,q4,Sv⟩ ?_ ?_
   ·rintro j σ H5 hj ⟨⟨o9',o10',o11',rfl⟩,s5,hG5⟩
    have hj2:j < nOf B.G:=by
     rw [en]
     simpa using hj
    have zj:(0+(j:Int))=j:=by omega
    rw [zj]
    have s35:=s3.trans s5
    have gs:=Yb4 B up hi lv j
    have gl:=Ydj B up hi lv j
    refine ⟨_,rfl,_,rfl,_,rfl,_,rfl,l,_,(i:Int),_,rfl,rfl,Sw.of (s35 _ _ hl),al s35,t,B,(j:Int),lv,rfl,tB.same s35,bg.G,⟨by omega,by omega⟩,⟨by omega,by omega⟩,?_⟩
    have sx:=Jxl B up lv (j:Int) (Jlm B up hi)
    refine ⟨_,rfl,_,rfl,_,rfl,_,rfl,l,_,(i:Int),_,rfl,rfl,Sw.of (s35 _ _ hl),al s35,_,rfl,_,_,rfl,rfl,_,rfl,_,rfl,M,_,(i:Int),_,rfl,rfl,Sw.of (s35 _ _ hM),Jl8 (v:=.ref d) (by rw [ym,hd];rfl),t,d,B,up,lv - lvG B.G j lv,kvs,Jlm B up hi,rfl,tB.same s35,bg,bu,s35 _ _ hkv,ld,λz=>?_,λz i'=>?_⟩
    ·rw [sx] at z
     rw [z,Bool.true_and] at gs
     refine ⟨_,rfl,_,rfl,_,rfl,N,_,(i:Int),_,rfl,rfl,Sw.of (s35 _ _ hN),Jl8 (v:=.int hi) (by rw [ym,hhi];rfl),_,_,rfl,rfl,_,rfl,Jnd (λq=>?_) (λq=>?_)⟩
     ·rw [q,if_pos rfl] at gs
      refine ⟨_,rfl,rfl,_,rfl,ifT (by rfl) ?_⟩
      refine ⟨_,rfl,.inl ⟨rfl,_,Sw.of hG5⟩,_,rfl,G,_,_,rfl,rfl,hG5,?_,⟨_,_,_,rfl⟩,sG s5,?_⟩
      ·rw [yf]
       exact Jkk (by omega)
      ·rw [Sv,gs,yt]
       rfl
     ·rw [if_neg q] at gs
      exact ifF (by simpa using q) ⟨⟨_,_,_,rfl⟩,s5,by rw [gs];exact hG5⟩
    ·rw [sx] at z
     rw [z,yci,if_neg yz] at gs
     have inv:(∃o9 o10 o11:Option V,[some (.ref L),some (.ref N),some (.ref M),some (.ref l),some (.ref S),some (.int (i:Int)),some (.ref t),some (.int up),some (.ref G),some (.int (j:Int)),some (.int (lvG B.G j lv)),some (.int i')]= [some (V.ref L),some (.ref N),some (.ref M),some (.ref l),some (.ref S),some (.int (i:Int)),some (.ref t),some (.int up),some (.ref G),o9,o10,o11])/\Sn H3 H5/\H5 G=some (.lst ((Ju0 B up hi lv (j+1)).map V.int)):=⟨⟨_,_,_,rfl⟩,s5,by rw [gs];exact hG5⟩
     refine ⟨_,rfl,_,rfl,_,rfl,N,_,(i:Int),_,rfl,rfl,Sw.of (s35 _ _ hN),Jl8 (v:=.int hi) (by rw [ym,hhi];rfl),_,_,rfl,rfl,_,rfl,Jnd (λq=>?_) (λq=>?_)⟩
     ·exact ⟨_,rfl,rfl,_,rfl,ifF (by rfl) inv⟩
     ·exact ifF (by simpa using q) inv
   ·rintro σ H5 ⟨⟨o9',o10',o11',rfl⟩,s5,hG5⟩
    have hG5':H5 G=some (.lst (((usable B hi lv).filter (Jln B up lv (Jlm B up hi))).map V.int)):=by
     rw [<-Sle,en]
     have e:(((B.G.ns.map V.int).length:Int) - 0).toNat=B.G.ns.length:=by rw [yf];omega
     rw [yf] at hG5
     exact hG5
    have elv:B.lo+((lv - B.lo).toNat:Int)=lv:=by omega
    have hn:(lv - B.lo).toNat∈Jo6 B up hi:=ybs.mpr ⟨yae.mpr (by unfold nLv;omega),hh⟩
    have hf:=(Jsx hn).2
    rw [elv] at hf
    have a0:atI (((usable B hi lv).filter (Jln B up lv (Jlm B up hi))).map V.int) 0=some (.int (Jlo B up hi (lv - B.lo).toNat)):=by
     refine Jl8 (j:=0) ?_
     rw [ym,<-List.head?_eq_getElem?,hf]
     rfl
    have hS5:=s5 _ _ (sT3 _ _ hS')
    refine ⟨_,rfl,.inl ⟨rfl,_,Sw.of hS5⟩,_,rfl,G,_,0,_,rfl,rfl,Sw.of hG5',a0,S,_,_,rfl,rfl,hS5,?_,⟨_,_,_,_,_,_,_,rfl⟩,sS (s3.trans s5),?_⟩
    ·rw [yf,yah]
     exact Jkk (by omega)
    ·rw [Sv,yan,sa,yt]
     rfl
  ·rintro σ H' ⟨⟨o5,o6,o7,o8,o9,o10,o11,rfl⟩,sm,hS'⟩
   have sl:(Jnb Bs ns ls).length=Bs.length:=by unfold Jnb;rw [yf,yaw]
   rw [yf,yat (by omega)] at hS'
   exact ⟨_,rfl,S,_,rfl,.inl ⟨Sw.of hS',λu hu=>k u _ (sm.trans (Sn.upd hu)) Sv⟩⟩
structure Agr (B C:BTd):Prop where
 lo:B.lo=C.lo
 hi:B.hi=C.hi
 rn:B.rn=C.rn
 n:nOf B.G=nOf C.G
 lv:∀s lv:Int,0<=s->s < (nOf C.G:Int)->lvG B.G s lv=lvG C.G s lv
theorem Agr.refl (B:BTd):Agr B B:=⟨rfl,rfl,rfl,rfl,λ_ _ _ _=>rfl⟩
section
variable {B C:BTd} (g:Agr B C) (up hi:Int)
include g
theorem Agr.nLv:nLv B=nLv C:=by unfold K76.nLv;rw [g.lo,g.hi]
theorem Agr.usable (lv:Int):usable B hi lv=usable C hi lv:=by
 unfold K76.usable
 rw [g.n]
 refine List.filter_congr λs hs=>?_
 obtain ⟨k,hk,rfl⟩:=ybc.mp hs
 have:=yae.mp hk
 rw [g.lv _ lv (by omega) (by omega)]
theorem Agr.ends {lv s:Int} (h0:0<=s) (h1:s < (nOf C.G:Int)):Jms B up lv s=Jms C up lv s:=by
 unfold Jms
 rw [g.rn,g.lv s lv h0 h1]
 refine List.map_congr_left λc _=>?_
 unfold Jns
 rw [g.lo,g.hi]
theorem Agr.safe {lv s:Int} (l:List (Option Int)) (h:s∈K76.usable C hi lv):Jln B up lv l s=Jln C up lv l s:=by
 have r:=Jqq h
 unfold Jln
 rw [g.ends up r.1 r.2]
theorem Agr.comes (l:List (Option Int)) (n:Nat):Jmk B up hi l n=Jmk C up hi l n:=by
 unfold Jmk
 rw [g.lo,g.usable hi]
 congr 1
 rw [ybk,ycm,ycm]
 constructor
 ·rintro ⟨s,h1,h2⟩
  exact ⟨s,h1,by rw [<-g.safe up hi l h1];exact h2⟩
 ·rintro ⟨s,h1,h2⟩
  exact ⟨s,h1,by rw [g.safe up hi l h1];exact h2⟩
theorem Agr.fresh (l:List (Option Int)):Jko B up hi l=Jko C up hi l:=by
 unfold Jko
 rw [g.nLv]
 refine List.filter_congr λn _=>?_
 rw [g.comes up hi]
theorem Agr.loop:∀(k:Nat) (l:List (Option Int)) (r:Int),Jnk B up hi k l r=Jnk C up hi k l r:=by
 intro k
 induction k with
 |zero=>intro l r;rfl
 |succ k ih=>
  intro l r
  show (if Jko B up hi l= [] then l else Jnk B up hi k (Jnp l (Jko B up hi l) (r+1)) (r+1))=(if Jko C up hi l= [] then l else Jnk C up hi k (Jnp l (Jko C up hi l) (r+1)) (r+1))
  rw [g.fresh up hi,ih]
theorem Agr.lost:Jlm B up hi=Jlm C up hi:=by
 unfold Jlm
 rw [g.nLv,g.loop up hi]
theorem Agr.isHeld (n:Nat):isHeld B up hi n=isHeld C up hi n:=by
 unfold K76.isHeld
 rw [g.lost up hi]
theorem Agr.first (n:Nat):Jlo B up hi n=Jlo C up hi n:=by
 unfold Jlo
 rw [g.lo,g.usable hi,g.lost up hi]
 congr 2
 exact List.filter_congr λs hs=>g.safe up hi _ hs
end
theorem Agr.hld {B C:BTd} (g:Agr B C) (up hi l:Int):Jno C up hi l=Jno B up hi l:=by
 unfold Jno
 rw [g.lo,g.isHeld up hi]
def Sbe (Bs Cs:List BTd):Prop:=Cs.length=Bs.length/\∀(i:Nat) B C,Bs[i]?=some B->Cs[i]?=some C->Agr B C/\B.st=C.st
theorem Sbe.at {Bs Cs:List BTd} (h:Sbe Bs Cs) {i:Nat} {C:BTd} (hC:Cs[i]?=some C):∃B,Bs[i]?=some B/\Agr B C/\B.st=C.st:=by
 have il:i < Bs.length:=by have:=(yq.mp hC).1;have:=h.1;omega
 exact ⟨_,yp il,h.2 i _ C (yp il) hC⟩
theorem Sbe.to {Bs Cs:List BTd} (h:Sbe Bs Cs) {i:Nat} {B:BTd} (hB:Bs[i]?=some B):∃C,Cs[i]?=some C/\Agr B C/\B.st=C.st:=by
 have il:i < Cs.length:=by have:=(yq.mp hB).1;have:=h.1;omega
 exact ⟨_,yp il,h.2 i B _ hB (yp il)⟩
theorem Sbe.hldP {Bs Cs:List BTd} (h:Sbe Bs Cs) (ns ls:List Int):hldP Cs ns ls=hldP Bs ns ls:=by
 unfold K76.hldP
 rw [h.1,ybk,yau,yau]
 have e:∀i,i < Bs.length->∃B C,Bs[i]?=some B/\Cs[i]?=some C/\Agr B C:=λi hi=>by
  obtain ⟨C,h1,h2,_⟩:=h.to (yp hi)
  exact ⟨_,C,yp hi,h1,h2⟩
 constructor
 ·intro q i hi
  have q1:=q i hi
  obtain ⟨B,C,h1,h2,g⟩:=e i (yae.mp hi)
  rw [h2] at q1
  rw [h1]
  have q2:Jno C ((Jly ns).getD i 0) (ns.getD i 0) (ls.getD i 0)=true:=q1
  rw [g.hld] at q2
  exact q2
 ·intro q i hi
  have q1:=q i hi
  obtain ⟨B,C,h1,h2,g⟩:=e i (yae.mp hi)
  rw [h1] at q1
  rw [h2]
  have q2:Jno B ((Jly ns).getD i 0) (ns.getD i 0) (ls.getD i 0)=true:=q1
  rw [<-g.hld] at q2
  exact q2
theorem Sbe.sets {Bs Cs:List BTd} (h:Sbe Bs Cs) (ns ls:List Int):Jnb Cs ns ls=Jnb Bs ns ls:=by
 unfold Jnb
 rw [h.1]
 refine List.map_congr_left λi hi=>?_
 obtain ⟨C,h1,g,_⟩:=h.to (yp (yae.mp hi))
 rw [h1,yp (yae.mp hi)]
 show Jlo C _ _ _=Jlo _ _ _ _
 rw [g.first,g.lo]
theorem Sbe.lv {Bs Cs:List BTd} (h:Sbe Bs Cs) {ls:List Int} (q:LvG Bs ls):LvG Cs ls:=⟨by rw [h.1];exact q.1,λi C l hC hl=>by
 obtain ⟨B,hB,g,_⟩:=h.at hC
 have:=q.2 i B l hB hl
 rw [g.lo,g.hi] at this
 exact this⟩
theorem Sbe.fst {Bs Cs:List BTd} (h:Sbe Bs Cs) {ns ls:List Int} {i j:Nat} (f:Jwu Cs ns ls i) (f':Jwu Bs ns ls j):i=j:=by
 have key:∀k,k < Bs.length->∃B C,Bs[k]?=some B/\Cs[k]?=some C/\Agr B C:=λk hk=>by
  obtain ⟨C,h1,h2,_⟩:=h.to (yp hk)
  exact ⟨_,C,yp hk,h1,h2⟩
 have hi:=f.1
 rw [h.1] at hi
 have hj:=f'.1
 rcases Nat.lt_trichotomy i j with c|c|c
 ·obtain ⟨B,C,h1,h2,g⟩:=key i hi
  have q1:=f.2.1 C h2
  have q2:=f'.2.2 i B c h1
  rw [g.hld,q2] at q1
  cases q1
 ·exact c
 ·obtain ⟨B,C,h1,h2,g⟩:=key j hj
  have q1:=f.2.2 j C c h2
  have q2:=f'.2.1 B h1
  rw [g.hld,q2] at q1
  cases q1
theorem Sbe.st {Bs Cs:List BTd} (h:Sbe Bs Cs):Cs.map (·.st)=Bs.map (·.st):=by
 refine List.ext_getElem (by simp [h.1]) λi h1 h2=>?_
 rw [List.getElem_map,List.getElem_map]
 rw [yf] at h1 h2
 exact (h.2 i _ _ (yp h2) (yp h1)).2.symm
theorem Scn.same {H H':Hp} {f r d:S5} {Bs:List BTd} {ns:List Int} (s:Sn H H') (h:Scn H f r d Bs ns):Scn H' f r d Bs ns:=⟨h.1.same s,h.2.same s⟩
theorem Jsa {z:Str} (hz:PyData.strOk z=true) (ns:List Int):SeqAt.shaped (.tuple [.str z,.tuple [.tuple (ns.map PyData.int),.none]])=true:=by
 have e1:∀l:List Int,PyData.canLayAll0 (l.map PyData.int)=true:=by
  intro l
  induction l with
  |nil=>rfl
  |cons c r ih=>simp only [yas,PyData.canLayAll0,PyData.canLay0,ih,Bool.and_self]
 have e2:∀l:List Int,PyData.depthAll (l.map PyData.int)=0:=by
  intro l
  induction l with
  |nil=>rfl
  |cons c r ih=>simp [PyData.depthAll,PyData.depth,ih]
 simp [SeqAt.shaped,PyData.canLay0,PyData.canLayAll0,PyData.depth,PyData.depthAll,e1 ns,e2,hz]
theorem Yaz (z:Str) (ns:List Int):PyData.eqv (.tuple [.str z,.tuple [.tuple (ns.map PyData.int),.none]]) (.tuple [.str z,.tuple [.tuple (ns.map PyData.int),.none]])=true:=by
 have h:∀l:List Int,PyData.eqvAll (l.map PyData.int) (l.map PyData.int)=true:=by
  intro l
  induction l with
  |nil=>rfl
  |cons c r ih=>simp [PyData.eqvAll,PyData.eqv,ih]
 simp [PyData.eqv,PyData.eqvAll,h]
theorem Yay (z:Str) (i:Int):PyData.eqv (.tuple [.str z,.int i]) (.tuple [.str z,.int i])=true:=by
 simp [PyData.eqv,PyData.eqvAll]
theorem Js9 {z:Str} (hz:PyData.strOk z=true) (i:Int):SeqAt.shaped (.tuple [.str z,.int i])=true:=by
 simp [SeqAt.shaped,PyData.canLay0,PyData.canLayAll0,PyData.depth,PyData.depthAll,hz]
def Sm4 (a:Ad):Sp:=λvs H Q _=>∃(f r d y s:S5) (x:V) (Cs:List BTd) (c g wt:Int) (ns ls:List Int),vs= [.ref f,.ref y,x]/\Scn H f r d Cs ns/\Sb7 a H r Cs c g/\RGd Cs/\H y=some (.tup [.ref s,.int wt])/\H s=some (.tup (ls.map V.int))/\LvG Cs ls/\(0<=wt/\wt<=c)/\
 (hldP Cs ns ls=true->∀(t tt u:S5) H',Sn H H'->H' t=some (.tup [.str "told",.ref tt])->H' tt=some (.tup [.ref u,.non])->H' u=some (.tup ((Jnb Cs ns ls).map V.int))->Q (.ref t) H')/\(hldP Cs ns ls=false->∀(i:Nat) (t:S5) H',Jwu Cs ns ls i->Sn H H'->H' t=some (.tup [.str "none",.int (i:Int)])->Q (.ref t) H')
def Ycf (a:Ad):Sp:=λvs H Q _=>∃(f r d L N M l:S5) (ts ds:List S5) (Bs Cs:List BTd) (c g wt:Int) (ns ls:List Int),vs= [.ref f,.ref L,.ref N,.ref M,.ref l,.int wt]/\Scn H f r d Cs ns/\Sb7 a H r Cs c g/\RGd Cs/\RGd Bs/\Sbe Bs Cs/\H L=some (.lst (ts.map V.ref))/\Sf1 H ts Bs/\H N=some (.lst (ns.map V.int))/\NGd Bs.length ns/\H M=some (.lst (ds.map V.ref))/\Sfv H Bs ns ds/\H l=some (.lst (ls.map V.int))/\LvG Bs ls/\(0<=wt/\wt<=c)/\∀H',Sn H H'->Q (.bl true) H'
theorem Jmr {H:Hp}:∀ns:List Int,Scd K H (ns.map V.int) (ns.map PyData.int):=by
 intro ns
 induction ns with
 |nil=>exact .nil
 |cons n r ih=>exact .cons (.int n) ih
theorem Sax:Jkd ["_law_keeper","_law_standing","_law_k","_law_found","e"] ["_law_keeper","_law_standing","_law_k"] (Jk9 (top 83)):=⟨rfl,rfl,rfl,by decide +kernel,rfl,by decide +kernel,by decide +kernel⟩
theorem Jw2 (T:Tx K mg a):Sx P w K mg base CX0 6 a.Jiw a.Jix ["_law_keeper","_law_standing","_law_k"] (Sm4 a):=by
 have Si5:=λf=>Yk (P:=P) (w:=w) (base:=base) T f
 refine T.Ja7.fn.ok Sax (λvs H Q E h=>?_) (λcdv A outer s H vs Q E hr h=>?_)
 ·obtain ⟨f,r,d,y,s',x,Cs,c,g,wt,ns,ls,rfl,_⟩:=h
  rfl
 ·obtain ⟨f,r,d,y,s',x,Cs,c,g,wt,ns,ls,rfl,kp,rv,rg,hy,hs,lg,hw,k1,k2⟩:=h
  refine ⟨?t,?B,?C⟩
  case B=>
   refine' Jk6 ?a ?b
   case a=>exact (Jkh (i:=3) Sax.nd rfl (ye rfl) Jlu)
   case b=>
   refine' Jk6 ?c ?d
   case c=>exact (Ybu ⟨rfl,rfl⟩ (λ_ _ hw=>(Jk7 (Jkh (i:=3) Sax.nd rfl (ye rfl) (Jm2 (So Jlk (So (Yn hw Si5 hr (by decide) 0 (So (pv 1) (So (pv 2) Ss))) Ss)))))) (by exact Sk9 T.Jd0 T.Jbc Sax.nd (i:=4) rfl rfl (λ_=>(Jk6 (Jkh (i:=3) Sax.nd rfl (ye rfl) (Jm2 (So Jlk (So (Jwe (pv 4) (by rfl)) Ss)))) (Jk7 (Jku (PW.pt (Jop (Jkx (Jke Jlw (by rfl) T.Jat Jkq (So (Jwe (pv 4) (by rfl)) (So (Jm6 (v:=.ty "bool") (by rfl) T.Jap Jvl rfl) Ss)))) (Jop (Jkx (Jke Jqu (by rfl) T.Jat Jkq (So (pv 4) (So (Jm2 (So (Jlf (by rfl) T.Jbb (v:=.ref _) rfl) (So (Jlf (by rfl) T.Jba (v:=.ref _) rfl) Ss))) Ss)))) (Jo2 (Jl3 (Jkx (Jke Jlw (by rfl) T.Jat Jkq (So (pv 4) (So (Jlf (by rfl) T.Jb4 (v:=.ref _) rfl) Ss))))))))) (Jk7 (Jkh (i:=3) Sax.nd rfl (ye rfl) Jlu)) Jki)))) Ybp))
   case d=>
   refine' Jk7 ?e
   case e=>exact (Jkg (pv 3))
  refine λpins=>⟨f,rfl,_,rfl,_,rfl,[.ref d,.ref r],kp.2,d,r,y,s',x,Cs,c,g,wt,ns,ls,rfl,rfl,rv,rg,kp.1,hy,hs,lg,hw,λhp tt u H1 s1 htt hu=>?_,λhp i e dx H1 fi s1 x1 x2=>?_⟩
  ·refine ⟨(show 2<=Sa by decide),λt ht=>?_⟩
   have u2:=Sn.upd (o:=.tup [.str "told",.ref tt]) ht
   exact ⟨_,rfl,k1 hp t tt u _ (s1.trans u2) Sv (u2 _ _ htt) (u2 _ _ hu)⟩
  ·have ty:∀{H'},Sn H1 H'->TyX K H' (.ref e) (.ref a.Jjq):=λs=>.exc (s _ _ x1) (s _ _ x2) T.Jcz
   refine ⟨e,_,true,rfl,rfl,T.Jf3,Jmb ?_⟩
   refine ⟨_,rfl,e,_,_,_,dx,_,_,_,rfl,x1,x2,T.Jcz,T.Je0,rfl,(show 2<=Sa by decide),λt ht=>?_⟩
   have u2:=Sn.upd (o:=.tup [.str "none",.int (i:Int)]) ht
   refine ⟨_,rfl,e,_,_,_,dx,_,_,_,rfl,u2 _ _ x1,u2 _ _ x2,T.Jcz,T.Je0,rfl,_,_,_,.type "int",false,rfl,rfl,.of (.int _),rfl,_,rfl,Jlb ?_⟩
   refine ⟨_,rfl,(show 2<=Sa by decide),λtp etp=>?_⟩
   have u3:=Sn.upd (o:=.tup [.ref a.Jjp,.ref a.Jjo]) etp
   refine ⟨_,tp,_,_,_,false,rfl,Sv,rfl,ty (u2.trans u3),T.Jf5,_,rfl,Jlb ?_⟩
   refine ⟨_,rfl,_,_,_,_,_,rfl,rfl,ty (u2.trans u3),T.Jf4,_,rfl,Jlb ?_⟩
   exact ⟨_,rfl,k2 hp i t _ fi ((s1.trans u2).trans u3) (u3 _ _ Sv)⟩
theorem Scc:Jkd ["_law_keeper","_law_told","_law_numbers","_law_losts_here","_law_levels","_law_wet","_law_found","_law_broken"] ["_law_keeper","_law_told","_law_numbers","_law_losts_here","_law_levels","_law_wet"] (Jk9 (top 84)):=⟨rfl,rfl,rfl,by decide +kernel,rfl,by decide +kernel,by decide +kernel⟩
theorem Jw8 (T:Tx K mg a):Sx P w K mg base CX0 7 a.Jiy a.Jiz ["_law_keeper","_law_told","_law_numbers","_law_losts_here","_law_levels","_law_wet"] (Ycf a):=by
 have Sfd:=Jw2 (P:=P) (w:=w) (base:=base) T
 have Sb4:=Jna (P:=P) (w:=w) (base:=base) T
 have Sdy:=Jsf (P:=P) (w:=w) (base:=base) T
 refine T.Ja8.fn.ok Scc (λvs H Q E h=>?_) (λcdv A outer s H vs Q E hr h=>?_)
 ·obtain ⟨f,r,d,L,N,M,l,ts,ds,Bs,Cs,c,g,wt,ns,ls,rfl,_⟩:=h
  rfl
 ·obtain ⟨f,r,d,L,N,M,l,ts,ds,Bs,Cs,c,g,wt,ns,ls,rfl,kp,rv,rgC,rg,ag,hL,td,hN,ng,hM,lo,hl,lg,hw,k⟩:=h
  have hu64:=Jnt hr
  refine ⟨?t,?B,?C⟩
  case B=>
   refine' Jk6 ?a ?b
   case a=>exact (Jkh (i:=6) Scc.nd rfl (ye rfl) (Jkc T.Ja7 Sfd hr (by decide) (So (pv 0) (So (Jm2 (So (Jla Jlt (by rfl) T.Jb2 Jm3 (So (pv 4) Ss)) (So (pv 5) Ss))) (So (pv 5) Ss)))))
   case b=>
   refine' Jk6 ?c ?d
   case c=>exact (Jkh (i:=7) Scc.nd rfl (ye rfl) (Jkc T.Ja5 Sb4 hr (by decide) (So (pv 3) (So (pv 4) Ss))))
   case d=>
   refine' Jk6 ?e ?f
   case e=>
    refine' Jku ?g ?h ?i
    case g=>exact (Jkr Jsk (pv 7) Jlu (Jkt _))
    case h=>
     refine' Jk7 ?j
     case j=>exact (Jkg (Jmw (Jwb hu64) (pv 6) (Jm2 (So Jlk (So (pv 7) Ss))) (Jkt _)))
    case i=>exact Jki
   case f=>
   refine' Jk7 ?k
   case k=>
   refine' Jkg ?l
   case l=>exact (Jmw (Jwb hu64) (pv 6) (Jm2 (So Jlk (So (Jm2 (So (Jkc T.Ja6 Sdy hr (by decide) (pa4 (pv 1) (pv 2) (pv 3) (pv 4))) (So Jlu Ss))) Ss))) (Jkt _))
  refine ⟨_,rfl,_,rfl,l,_,rfl,.inl ⟨Sw.of hl,λt1 ht1=>?_⟩⟩
  have q1:=Sn.upd (o:=.tup (ls.map V.int)) ht1
  refine ⟨_,rfl,(show 2<=Sa by decide),λy1 hy1=>?_⟩
  have q2:=q1.trans (Sn.upd (o:=.tup [.ref t1,.int wt]) hy1)
  have eP:=ag.hldP ns ls
  refine ⟨_,rfl,f,r,d,y1,t1,.int wt,Cs,c,g,wt,ns,ls,rfl,kp.same q2,rv.same q2,rgC,Sv,Sn.upd hy1 _ _ Sv,ag.lv lg,hw,λhp t tt u H1 s1 ht htt hu=>?_,λhp i t H1 fi s1 ht=>?_⟩
  ·rw [eP] at hp
   have s2:=q2.trans s1
   refine ⟨_,rfl,_,rfl,M,l,ds,Bs,ns,ls,rfl,s2 _ _ hM,lo.same s2,rg,s2 _ _ hl,lg,λ_ H2 s3=>?_,λe=>(by rw [hp] at e;cases e)⟩
   refine ⟨_,rfl,rfl,_,rfl,ifF (by rfl) ?_⟩
   have s4:=s2.trans s3
   refine ⟨_,rfl,_,rfl,_,rfl,_,rfl,_,rfl,L,N,M,l,ts,ds,Bs,ns,ls,rfl,s4 _ _ hL,td.same s4,rg,s4 _ _ hN,ng,s4 _ _ hM,lo.same s4,s4 _ _ hl,lg,hp,λu' H3 s5 hu'=>?_⟩
   rw [ag.sets] at hu
   refine ⟨(show 2<=Sa by decide),λv1 hv1=>?_⟩
   have w1:=Sn.upd (o:=.tup [.ref u', .non]) hv1
   refine ⟨(show 2<=Sa by decide),λv2 hv2=>?_⟩
   have w2:=w1.trans (Sn.upd (o:=.tup [.str "told",.ref v1]) hv2)
   have s6:=(s3.trans s5).trans w2
   refine ⟨_,_,.tup (SqT.of (s6 _ _ ht)) (.cons (.str _) (.cons (.tup (SqT.of (s6 _ _ htt)) (.cons (.tup (SqT.of (s6 _ _ hu)) (Jmr _)) (.cons .non .nil))) .nil)),.tup (SqT.of Sv) (.cons (.str _) (.cons (.tup (SqT.of (Sn.upd hv2 _ _ Sv)) (.cons (.tup (SqT.of (w2 _ _ hu')) (Jmr _)) (.cons .non .nil))) .nil)),Jsa (by decide +kernel) _,Jsa (by decide +kernel) _,?_⟩
   rw [if_neg yz,Yaz]
   exact k _ (s2.trans s6)
  ·rw [eP] at hp
   have s2:=q2.trans s1
   refine ⟨_,rfl,_,rfl,M,l,ds,Bs,ns,ls,rfl,s2 _ _ hM,lo.same s2,rg,s2 _ _ hl,lg,λe=>(by rw [hp] at e;cases e),λ_ j H2 fj s3=>?_⟩
   have ij:=ag.fst fi fj
   subst ij
   refine ⟨_,rfl,rfl,_,rfl,ifT (by rfl) ?_⟩
   refine ⟨_,rfl,_,rfl,(show 2<=Sa by decide),λv2 hv2=>?_⟩
   have w2:=Sn.upd (o:=.tup [.str "none",.int (i:Int)]) hv2
   refine ⟨_,_,.tup (SqT.of (w2 _ _ (s3 _ _ ht))) (.cons (.str _) (.cons (.int _) .nil)),.tup (SqT.of Sv) (.cons (.str _) (.cons (.int _) .nil)),Js9 (by decide +kernel) _,Js9 (by decide +kernel) _,?_⟩
   rw [if_neg yz,Yay]
   exact k _ ((s2.trans s3).trans w2)
theorem Scn.put {H:Hp} {l f r d:S5} {Bs:List BTd} {ns ms:List Int} {u:HO} (h1:1<=Bs.length) (hl:H l=some (.lst (ms.map V.int))) (h:Scn H f r d Bs ns):Scn (upd H l u) f r d Bs ns:=by
 have k:∀d o,(∀xs,o≠HO.lst xs)->H d=some o->(upd H l u) d=some o:=λd o n e=>by
  rw [Sz λz=>?_]
  ·exact e
  ·rw [z,hl] at e
   exact n _ (yac.inj e).symm
 obtain ⟨⟨ps,a1,a2,a3⟩,⟨clos,c,c1,c2,c3,c4,c5,c6⟩⟩:=h
 have cel:∀{d:S5} {v:V},Sbx H d v->Sbx (upd H l u) d v:=λ⟨o,u',x1,x2,x3⟩=>⟨o,u',k _ _ (λ_ z=>by cases z) x1,x2,x3⟩
 refine ⟨⟨ps,?_,a2,λi B q e1 e2=>(a3 i B q e1 e2).elim λob e=>⟨ob,k _ _ (λ_ z=>by cases z) e⟩⟩,⟨clos,c,k _ _ (λ_ z=>by cases z) c1,k _ _ (λ_ z=>by cases z) c2,c3,c4,λx d e=>(c5 x d e).elim λv q=>⟨v,cel q⟩,λx v e=>(c6 x v e).elim λd q=>⟨d,q.1,cel q.2⟩⟩⟩
 rw [Sz λz=>?_]
 ·exact a1
 ·rw [z,hl] at a1
  have e:=HO.lst.inj (yac.inj a1)
  cases ps with
  |nil=>simp at a2;omega
  |cons q ps=>
   cases ms with
   |nil=>cases e
   |cons m ms=>cases e
def Ye6 (a:Ad):Sp:=λvs H Q _=>∃(r L N M:S5) (ts ds:List S5) (Bs Cs:List BTd) (c g:Int) (ns:List Int),vs= [.ref r,.ref L,.ref N,.ref M]/\H a.Jk0=some (.tbl lb_lost_alone)/\H a.Jk2=some (.tbl lb_local_keeper)/\Sb7 a H r Cs c g/\RGd Cs/\RGd Bs/\Sbe Bs Cs/\H L=some (.lst (ts.map V.ref))/\Sf1 H ts Bs/\H N=some (.lst (ns.map V.int))/\NGd Bs.length ns/\H M=some (.lst (ds.map V.ref))/\Sfv H Bs ns ds/\
 (∀(t f d:S5) H',Sn H H'->H' t=some (.tup [.bl true,.ref f])->Scn H' f r d Cs ns->Q (.ref t) H')/\(∀(t:S5) H',Sn H H'->H' t=some (.tup [.bl true,.non])->Q (.ref t) H')
theorem Jsu (ns:List Int):PyData.eqv (.list (ns.map PyData.int)) (.list (ns.map PyData.int))=true:=by
 have h:∀l:List Int,PyData.eqvAll (l.map PyData.int) (l.map PyData.int)=true:=by
  intro l
  induction l with
  |nil=>rfl
  |cons c r ih=>simp [PyData.eqvAll,PyData.eqv,ih]
 simp [PyData.eqv,h]
theorem Sap:Jkd ["_law_river_here","_law_told","_law_numbers","_law_losts_here","_law_handed","_law_keeper","_law_found","e","_law_due"] ["_law_river_here","_law_told","_law_numbers","_law_losts_here"] (Jk9 (top 85)):=⟨rfl,rfl,rfl,by decide +kernel,rfl,by decide +kernel,by decide +kernel⟩
theorem Jxc (T:Tx K mg a) (Bm:Bmn mg base):Sx P w K mg base CX0 9 a.Jj0 a.Jj1 ["_law_river_here","_law_told","_law_numbers","_law_losts_here"] (Ye6 a):=by
 have Se7:=Jsg (P:=P) (w:=w) T Bm
 have Sb4:=Jna (P:=P) (w:=w) (base:=base) T
 refine T.Ja9.fn.ok Sap (λvs H Q E h=>?_) (λcdv A outer s H vs Q E hr h=>?_)
 ·obtain ⟨r,L,N,M,ts,ds,Bs,Cs,c,g,ns,rfl,_⟩:=h
  rfl
 ·obtain ⟨r,L,N,M,ts,ds,Bs,Cs,c,g,ns,rfl,ht,htk,rv,rgC,rg,ag,hL,td,hN,ng,hM,lo,k1,k2⟩:=h
  have hu64:=Jnt hr
  have len:=Paired.length td
  have l16:=rg.len
  have nl:=ng.1
  refine ⟨?t,?B,?C⟩
  case B=>
   refine' Jk6 ?a ?b
   case a=>exact (Jkh (i:=4) Sap.nd rfl (ye rfl) (Jla Jvo (by rfl) T.Jav Jpd (So (pv 2) Ss)))
   case b=>
   refine' Jk6 ?c ?d
   case c=>exact (Jkh (i:=5) Sap.nd rfl (ye rfl) Jlu)
   case d=>
   refine' Jk6 ?e ?f
   case e=>exact (Jkh (i:=6) Sap.nd rfl (ye rfl) Jlu)
   case f=>
   refine' Jk6 ?g ?h
   case g=>exact (Ybu ⟨rfl,rfl⟩ (λ_ _ hw=>(Jk7 (Jkh (i:=5) Sap.nd rfl (ye rfl) (Jmg T.Jj Se7 hw hr (by decide) (So (pv 0) (So (pv 4) Ss)))))) (by exact Sk9 T.Jd0 T.Jbc Sap.nd (i:=7) rfl rfl (λ_=>(Jk7 (Jkh (i:=6) Sap.nd rfl (ye rfl) (Jwe (pv 7) (by rfl))))) Ybp))
   case h=>
   refine' Jk6 ?i ?j
   case i=>exact (Jkh (i:=8) Sap.nd rfl (ye rfl) (Jkc T.Ja5 Sb4 hr (by decide) (So (pv 3) (So (Jl4 (N:=(["_law_one"]:List Str)) (ini:=[none]) rfl (Jl5 (pv 1)) (λ_ _ _ _ _=>(Jkf (i:=0) (by decide +kernel:(["_law_one"]:List Str).Nodup) rfl (ye rfl))) (λ_ _ _ _ _=>Jky) (λ_ _ _ _ _=>(Jkm (Jph (K:=K) rfl) (pv 0) Sy (λ_ _=>rfl)))) Ss))))
   case j=>
   refine' Jk6 ?k ?l
   case k=>
    refine' Jku ?m ?n ?o
    case m=>exact (PW.pt (Jop (Jkr Jzp (pv 6) (pv 8) (Jkt _)) (Jop (Jkx (Jke Jlw (by rfl) T.Jat Jkq (So (pv 6) (So (Jm6 (v:=.ty "bool") (by rfl) T.Jap Jvl rfl) Ss)))) (Jo2 (Jkr (Ybg hu64) (pv 4) (pv 2) (Jkt _))))))
    case n=>
     refine' Jk7 ?p
     case p=>exact (Jkg (Jm2 (So Jmf (So Jlu Ss))))
    case o=>exact Jki
   case l=>
   refine' Jk6 ?q ?r
   case q=>exact (Jrr (Jkl Jm9 Sy (Jkm Jks (pv 4) Sy (λ_ _=>rfl))) (Jtj (pv 4) Sy Jpb))
   case r=>
   refine' Jk6 ?s ?u
   case s=>exact (Jlv (Jq0 F.plainAttrs_list F.slot_list_append F.type_list_append Jlx (pv 4) (So Sy Ss)))
   case u=>
   refine' Jk7 ?v
   case v=>exact (Jkg (Jm2 (So Jmf (So (pv 5) Ss))))
  refine ⟨_,rfl,N,_,rfl,.inl (Sw.of hN),λhd hhd=>?_⟩
  have q1:=Sn.upd (o:=.lst (ns.map V.int)) hhd
  have sh:∀{H':Hp} {o:HO},Sn H H'->Sn H (upd H' hd o):=λs b u z=>by rw [Sz (Jkb z hhd)];exact s _ _ z
  have hd1:(upd H hd (.lst (ns.map V.int))) hd=some (.lst (ns.map V.int)):=Sv
  have lv0:LvG Bs (Bs.map (·.st)):=LvG.start rg.all
  have e0:Sid Cs ns=hldP Bs ns (Bs.map (·.st)):=by rw [<-Jq6,ag.hldP,ag.st]
  generalize upd H hd (.lst (ns.map V.int))=H1 at q1 hd1⊢
  refine λpins=>⟨_,rfl,_,rfl,r,hd,Cs,c,g,ns,rfl,q1 _ _ ht,q1 _ _ htk,rv.same q1,rgC,hd1,by rw [ag.1];exact ng,λap f d H2 s2 kp=>?_,λap i e dx H2 fi s2 x1 x2=>?_⟩
  ·rw [e0] at ap
   have s12:=q1.trans s2
   refine ⟨_,rfl,_,rfl,L,rfl,⟨_,Sw.of (s12 _ _ hL)⟩,λD hD=>?_⟩
   refine Jml ((Bs.map (·.st)).map V.int) hD (by simp;omega) (by simp;omega) (s12 _ _ hL) ?_ ?_
   ·rintro j x y H' Q' hx hy sm kk
    rw [ym] at hx
    obtain ⟨t',ht',rfl⟩:=yy.mp hx
    obtain ⟨B,hB,m,tB,_⟩:=Jl6 td ht'
    rw [ym,ym,hB] at hy
    cases hy
    exact ⟨_,rfl,t',_,3,_,rfl,rfl,SqT.of (sm _ _ (s12 _ _ tB)),rfl,kk _ (Sn.refl _)⟩
   intro H3 s3 hD3
   have s13:=s12.trans s3
   refine ⟨M,D,ds,Bs,ns,_,rfl,s13 _ _ hM,lo.same s13,rg,hD3,lv0,λ_ H4 s4=>?_,λz=>(by rw [ap] at z;cases z)⟩
   have s14:=s13.trans s4
   have hd4:=s4 _ _ (s3 _ _ (s2 _ _ hd1))
   refine ⟨_,rfl,_,rfl,rfl,_,rfl,ifF (by rfl) ?_⟩
   refine ⟨_,rfl,_,_,_,.type "NoneType",false,rfl,rfl,.of .non,rfl,_,rfl,Jlb ?_⟩
   refine ⟨_,rfl,_,rfl,_,_,.lst (Sw.of hd4) (Jmr _),.lst (Sw.of (s14 _ _ hN)) (Jmr _),Jls _,Jls _,_,rfl,?_⟩
   rw [if_pos rfl,Jsu]
   refine Jlb ?_
   have kp4:=(kp.same s3).same s4
   obtain ⟨n0,nr,rfl⟩:∃n0 nr,ns=n0::nr:=by
    cases ns with
    |nil=>simp at nl;omega
    |cons n0 nr=>exact ⟨n0,nr,rfl⟩
   refine ⟨_,rfl,hd,_,0,_,rfl,rfl,Sw.of hd4,Jl8 (j:=0) rfl,_,_,rfl,rfl,_,rfl,hd,_,0,0,rfl,rfl,hd4,(by simp [ixN];try omega),?_⟩
   have kp5:=kp4.put (u:=.lst (((12 - n0)::nr).map V.int)) (by have:=rgC.len;omega) hd4
   have hd5:(upd H4 hd (.lst (((12 - n0)::nr).map V.int))) hd=some (.lst (((12 - n0)::nr).map V.int)):=Sv
   have s15:=sh (o:=.lst (((12 - n0)::nr).map V.int)) s14
   refine ⟨_,rfl,.inl ⟨rfl,_,Sw.of hd5⟩,hd,_,_,rfl,rfl,hd5,?_,?_⟩
   ·rw [yf]
    simp at nl
    exact Jkk (by simp;omega)
   have kp6:=kp5.put (u:=.lst (((12 - n0)::nr).map V.int++ [.int 3])) (by have:=rgC.len;omega) hd5
   have s16:=sh (o:=.lst (((12 - n0)::nr).map V.int++ [.int 3])) s15
   refine ⟨_,rfl,(show 2<=Sa by decide),λt1 ht1=>?_⟩
   have u7:=Sn.upd (o:=.tup [.bl true,.ref f]) ht1
   exact k1 t1 f d _ (s16.trans u7) Sv (kp6.same u7)
  ·rw [e0] at ap
   have s12:=q1.trans s2
   refine ⟨e,_,true,rfl,rfl,T.Jf3,Jmb ?_⟩
   refine ⟨_,rfl,e,_,_,_,dx,_,_,_,rfl,x1,x2,T.Jcz,T.Je0,rfl,?_⟩
   refine ⟨_,rfl,_,rfl,L,rfl,⟨_,Sw.of (s12 _ _ hL)⟩,λD hD=>?_⟩
   refine Jml ((Bs.map (·.st)).map V.int) hD (by simp;omega) (by simp;omega) (s12 _ _ hL) ?_ ?_
   ·rintro j x y H' Q' hx hy sm kk
    rw [ym] at hx
    obtain ⟨t',ht',rfl⟩:=yy.mp hx
    obtain ⟨B,hB,m,tB,_⟩:=Jl6 td ht'
    rw [ym,ym,hB] at hy
    cases hy
    exact ⟨_,rfl,t',_,3,_,rfl,rfl,SqT.of (sm _ _ (s12 _ _ tB)),rfl,kk _ (Sn.refl _)⟩
   intro H3 s3 hD3
   have s13:=s12.trans s3
   refine ⟨M,D,ds,Bs,ns,_,rfl,s13 _ _ hM,lo.same s13,rg,hD3,lv0,λz=>(by rw [ap] at z;cases z),λ_ j H4 fj s4=>?_⟩
   rw [ag.st] at fi
   have ij:=ag.fst fi fj
   subst ij
   have s14:=s13.trans s4
   have hd4:=s4 _ _ (s3 _ _ (s2 _ _ hd1))
   refine ⟨_,rfl,_,rfl,rfl,_,rfl,ifF (by simp) ?_⟩
   refine ⟨_,rfl,_,_,_,.type "int",false,rfl,rfl,.of (.int _),rfl,_,rfl,Jlb ?_⟩
   refine ⟨_,rfl,_,rfl,_,_,.lst (Sw.of hd4) (Jmr _),.lst (Sw.of (s14 _ _ hN)) (Jmr _),Jls _,Jls _,_,rfl,?_⟩
   rw [if_pos rfl,Jsu]
   refine Jlb ?_
   obtain ⟨n0,nr,rfl⟩:∃n0 nr,ns=n0::nr:=by
    cases ns with
    |nil=>simp at nl;omega
    |cons n0 nr=>exact ⟨n0,nr,rfl⟩
   refine ⟨_,rfl,hd,_,0,_,rfl,rfl,Sw.of hd4,Jl8 (j:=0) rfl,_,_,rfl,rfl,_,rfl,hd,_,0,0,rfl,rfl,hd4,(by simp [ixN];try omega),?_⟩
   have hd5:(upd H4 hd (.lst (((12 - n0)::nr).map V.int))) hd=some (.lst (((12 - n0)::nr).map V.int)):=Sv
   have s15:=sh (o:=.lst (((12 - n0)::nr).map V.int)) s14
   refine ⟨_,rfl,.inl ⟨rfl,_,Sw.of hd5⟩,hd,_,_,rfl,rfl,hd5,?_,?_⟩
   ·rw [yf]
    simp at nl
    exact Jkk (by simp;omega)
   have s16:=sh (o:=.lst (((12 - n0)::nr).map V.int++ [.int 3])) s15
   refine ⟨_,rfl,(show 2<=Sa by decide),λt1 ht1=>?_⟩
   exact k2 t1 _ (s16.trans (Sn.upd ht1)) Sv
theorem Jxh {os:List S5}:∀x y z:Int,HO.lst (os.map V.ref)≠ .lst [.int x,.int y,.int z]:=by
 intro x y z e
 cases os with
 |nil=>cases e
 |cons o r=>cases e
def Sc6 (H:Hp) (p r:S5) (Bs Cs:List BTd) (e:S5):Prop:=∃(N M f d:S5) (ds:List S5) (ns:List Int),H e=some (.tup [.ref N,.ref M,.ref f])/\N≠p/\H N=some (.lst (ns.map V.int))/\NGd Bs.length ns/\H M=some (.lst (ds.map V.ref))/\Sfv H Bs ns ds/\Scn H f r d Cs ns
def Soq (H:Hp) (xs:List V):Prop:=(∃i r,xs=V.int i::r)\/∃q r u,xs=V.ref q::r/\H q=some u/\∀ys,u≠ .tup ys
theorem Sc6.imp {H H':Hp} {p r e:S5} {Bs Cs:List BTd} (st:Sbo H p) (h1:1<=Bs.length) (hc:Cs.length=Bs.length) (k:∀b o,H b=some o->(∀xs,o≠ .lst xs)->H' b=some o) (kl:∀b xs,H b=some (.lst xs)->b≠p->Soq H xs->H' b=some (.lst xs)) (h:Sc6 H p r Bs Cs e):Sc6 H' p r Bs Cs e:=by
 obtain ⟨N,M,f,d,ds,ns,he,nN,hN,ng,hM,⟨l1,l2⟩,⟨ps,a1,a2,a3⟩,⟨clos,c,c1,c2,c3,c4,c5,c6⟩⟩:=h
 have cel:∀{d:S5} {v:V},Sbx H d v->Sbx H' d v:=λ⟨o,u',x1,x2,x3⟩=>⟨o,u',k _ _ x1 (λ_ z=>by cases z),x2,x3⟩
 refine ⟨N,M,f,d,ds,ns,k _ _ he (λ_ z=>by cases z),nN,kl _ _ hN nN ?_,ng,kl _ _ hM (Jpj st hM Jxh) ?_,⟨l1,λi B d e1 e2=>(l2 i B d e1 e2).elim λkvs q=>⟨kvs,k _ _ q.1 (λ_ z=>by cases z),q.2⟩⟩,⟨ps,kl _ _ a1 (Jpj st a1 Jxh) ?_,a2,λi B q e1 e2=>(a3 i B q e1 e2).elim λob e=>⟨ob,k _ _ e (λ_ z=>by cases z)⟩⟩,⟨clos,c,k _ _ c1 (λ_ z=>by cases z),k _ _ c2 (λ_ z=>by cases z),c3,c4,λx d e=>(c5 x d e).elim λv q=>⟨v,cel q⟩,λx v e=>(c6 x v e).elim λd q=>⟨d,q.1,cel q.2⟩⟩⟩
 ·have nl:=ng.1
  cases ns with
  |nil=>simp at nl;omega
  |cons n nr=>exact .inl ⟨n,_,rfl⟩
 ·cases ds with
  |nil=>simp at l1;omega
  |cons q qs=>
   obtain ⟨kvs,e1,_⟩:=l2 0 _ q (yp (by omega)) rfl
   exact .inr ⟨q,_,_,rfl,e1,λ_ z=>by cases z⟩
 ·cases ps with
  |nil=>simp at a2;omega
  |cons q qs=>
   obtain ⟨ob,e1⟩:=a3 0 _ q (yp (by omega)) rfl
   exact .inr ⟨q,_,_,rfl,e1,λ_ z=>by cases z⟩
def Shi (H:Hp) (p r:S5) (Bs Cs:List BTd) (es:List S5):Prop:=∀e∈es,Sc6 H p r Bs Cs e
theorem Sc6.same {H H':Hp} {p r e:S5} {Bs Cs:List BTd} (s:Sn H H') (h:Sc6 H p r Bs Cs e):Sc6 H' p r Bs Cs e:=by
 obtain ⟨N,M,f,d,ds,ns,he,nN,hN,ng,hM,lo,kp⟩:=h
 exact ⟨N,M,f,d,ds,ns,s _ _ he,nN,s _ _ hN,ng,s _ _ hM,lo.same s,kp.same s⟩
theorem Sc6.but {H H':Hp} {p r e:S5} {Bs Cs:List BTd} (st:Sbo H p) (h1:1<=Bs.length) (hc:Cs.length=Bs.length) (b:But p H H') (h:Sc6 H p r Bs Cs e):Sc6 H' p r Bs Cs e:=
 h.imp st h1 hc (λ_ _ e n=>b.1 _ _ (Jpj st e λ_ _ _=>n _) e) (λ_ _ e n _=>b.1 _ _ n e)
def Sm3 (a:Ad):Sp:=λvs H Q _=>∃(r L R p:S5) (ts es:List S5) (Bs Cs:List BTd) (c g:Int),vs= [.ref r,.ref L,.ref R,.ref p]/\Sb7 a H r Cs c g/\RGd Cs/\RGd Bs/\Sbe Bs Cs/\(0<=c/\c<=12)/\Sbo H p/\L≠p/\R≠p/\H L=some (.lst (ts.map V.ref))/\Sca p H ts Bs/\H R=some (.lst (es.map V.ref))/\Shi H p r Bs Cs es/\∀H',But p H H'->Q (.bl true) H'
theorem Sab:Jkd ["_law_river_here","_law_told","_law_kept_here","_law_stream_here","_law_turn","_law_levels","_law_wet","_law_numbers","_law_losts_here","_law_keeper"] ["_law_river_here","_law_told","_law_kept_here","_law_stream_here"] (Jk9 (top 86)):=⟨rfl,rfl,rfl,by decide +kernel,rfl,by decide +kernel,by decide +kernel⟩
theorem Jrn (T:Tx K mg a):Sx P w K mg base CX0 8 a.Jj2 a.Jj3 ["_law_river_here","_law_told","_law_kept_here","_law_stream_here"] (Sm3 a):=by
 have Sr:=Jm8 (P:=P) (w:=w) (base:=base) T
 have Sfj:=Jw8 (P:=P) (w:=w) (base:=base) T
 refine T.Jaa.fn.ok Sab (λvs H Q E h=>?_) (λcdv A outer s H vs Q E hr h=>?_)
 ·obtain ⟨r,L,R,p,ts,es,Bs,Cs,c,g,rfl,_⟩:=h
  rfl
 ·obtain ⟨r,L,R,p,ts,es,Bs,Cs,c,g,rfl,rv,rgC,rg,ag,hc,st,nL,nR,hL,td,hR,kt,k⟩:=h
  have len:=Paired.length td
  have l16:=rg.len
  refine ⟨?t,?B,?C⟩
  case B=>
   refine' Jk6 ?a ?b
   case a=>
    refine' Jma ?c ?d ?e ?f ?g
    case c=>exact PassesOwn.never
    case d=>exact rfl
    case e=>exact (Jlj (by rfl) T.Jay (So Sy Ss))
    case f=>exact (Jkf (i:=4) Sab.nd rfl (ye rfl))
    case g=>
    refine' Jk6 ?h ?i
    case h=>exact (Jmj (i:=5) (N:=(["_law_one","_law_stream_here"]:List Str)) (ini:=[none,some 3]) Sab.nd rfl (ye rfl) rfl (Jl5 (pv 1)) (λ_ _ _ _ _=>(Jkf (i:=0) (by decide +kernel:(["_law_one","_law_stream_here"]:List Str).Nodup) rfl (ye rfl))) (λ_ _ _ _ _=>Jky) (λ_ _ _ _ _=>(Jkl Jl0 (Jkm (Jph (K:=K) rfl) (pv 0) Sy (λ_ _=>rfl)) (Jkc T.Js Sr hr (by decide) (So (pv 1) (So (Jkl Jl0 (Jkl Jm9 (Jkm (Jph (K:=K) rfl) (pv 0) Sy (λ_ _=>rfl)) (Jkm (Jph (K:=K) rfl) (pv 0) Sy (λ_ _=>rfl))) Sy) Ss))))))
    case i=>
    refine' Jk6 ?j ?k
    case j=>
     refine' Jku ?l ?m ?n
     case l=>exact (Jkr Jnw (pv 4) Sy (Jkt _))
     case m=>
      refine' Jk7 ?o
      case o=>exact (Jmj (i:=5) (N:=(["_law_one"]:List Str)) (ini:=[none]) Sab.nd rfl (ye rfl) rfl (Jl5 (pv 1)) (λ_ _ _ _ _=>(Jkf (i:=0) (by decide +kernel:(["_law_one"]:List Str).Nodup) rfl (ye rfl))) (λ_ _ _ _ _=>Jky) (λ_ _ _ _ _=>(Jkm (Jph (K:=K) rfl) (pv 0) Sy (λ_ _=>rfl))))
     case n=>exact Jki
    case k=>
    refine' Jk6 ?p ?q
    case p=>exact (Jkh (i:=6) Sab.nd rfl (ye rfl) (Jkc T.Js Sr hr (by decide) (So (pv 3) (So (Jkl Jl0 (Jlh (pv 0) (by rfl)) Sy) Ss))))
    case q=>
    refine' Jk7 ?r
    case r=>
    refine' Jma ?s ?u ?v ?w ?x
    case s=>exact PassesOwn.never
    case u=>exact rfl
    case v=>exact (Jl5 (pv 2))
    case w=>exact (Jrp rfl (Jkv (Jkf (i:=7) Sab.nd rfl (ye rfl)) (Jkv (Jkf (i:=8) Sab.nd rfl (ye rfl)) (Jkv (Jkf (i:=9) Sab.nd rfl (ye rfl)) Jmx))))
    case x=>
    refine' Jk7 ?y
    case y=>
    refine' Jku ?z ?a0 ?b0
    case z=>exact (Jl3 (Jkx (Jkc T.Ja8 Sfj hr (by decide) (pa6 (pv 9) (pv 1) (pv 7) (pv 8) (pv 5) (pv 6)))))
    case a0=>
     refine' Jk7 ?c0
     case c0=>exact (Jkg Jmf)
    case b0=>exact Jki
   case b=>
   refine' Jk7 ?d0
   case d0=>exact (Jkg Jmf)
  refine ⟨3,rfl,by decide,by decide,?_⟩
  refine Jn2 (lo:=0) (λi σ H'=>(∃o4 o5 o6 o7 o8 o9,σ= [some (.ref r),some (.ref L),some (.ref R),some (.ref p),o4,o5,o6,o7,o8,o9])/\But p H H') ⟨⟨_,_,_,_,_,_,rfl⟩,But.refl st⟩ ?_ ?_
  ·rintro i σ H1 _ ⟨⟨o4,o5,o6,o7,o8,o9,rfl⟩,b1⟩
   have hL1:=b1.1 _ _ nL hL
   have td1:=td.but st b1
   refine ⟨_,rfl,L,rfl,⟨_,Sw.of hL1⟩,λD hD=>?_⟩
   have nD:D≠p:=b1.2.ne hD
   refine Jle (K:=K) (xs:=ts.map V.ref) (λj σ H'=>(∃o,σ= [o,some (.ref p)])/\But p H1 H'/\∃gs:List Int,H' D=some (.lst (gs.map V.int))/\gs.length=j/\∀(i:Nat) B x,Bs[i]?=some B->gs[i]?=some x->B.lo<=x/\x<=B.hi) ⟨⟨_,rfl⟩,(But.refl b1.2).same (Sn.upd hD),[],Sv,rfl,(λi B x _ h=>by simp at h)⟩ (λj σ H' _ ⟨_,cc,_⟩=>Sw.of (cc.1 _ _ nL hL1)) ?_ ?_
   ·rintro j y' σ H' hy ⟨⟨o,rfl⟩,cc,gs,hgs,gl,gin⟩
    rw [ym] at hy
    obtain ⟨t',ht',rfl⟩:=yy.mp hy
    obtain ⟨B,hB,m,_,tB⟩:=Jl6 (td1.but b1.2 cc) ht'
    have jl:j < Bs.length:=(yq.mp hB).1
    have tg:=rg.all B (yad hB)
    have x1:=tg.b.lo
    have x2:=tg.b.hi
    refine Jlc ⟨_,rfl,t',_,1,_,rfl,rfl,SqT.of tB.1,rfl,_,rfl,_,rfl,t',_,2,_,rfl,rfl,SqT.of tB.1,rfl,_,rfl,t',_,1,_,rfl,rfl,SqT.of tB.1,rfl,_,_,rfl,rfl,_,_,rfl,rfl,p,_,rfl,cc.2,by omega,Jv1 (by omega) (by omega),λx H10 r0 r1 b10=>⟨_,_,rfl,rfl,?_⟩⟩
    refine ⟨_,b10.1 _ _ nD hgs,?_,⟨_,rfl⟩,(cc.trans b10).updD hD nD,gs++ [B.lo+x],?_,?_,?_⟩
    ·rw [yf]
     exact Jkk (by omega)
    ·rw [Sv,yt]
     rfl
    ·rw [yai,gl]
     rfl
    ·intro i' B' x' hB' hx'
     by_cases cj:i' < gs.length
     ·rw [ycd cj] at hx'
      exact gin i' B' x' hB' hx'
     ·have ej:i'=j:=by
       have:=(yq.mp hx').1
       simp at this
       omega
      subst ej
      rw [hB] at hB'
      cases hB'
      rw [ycc (by omega),gl,Nat.sub_self] at hx'
      cases hx'
      omega
   rintro σ4 H2 ⟨_,b2,gs,hgs,gl,gin⟩
   rw [yf,len] at gl
   have c2:=b1.trans b2
   have lg:LvG Bs gs:=⟨gl,gin⟩
   unfold Ycu
   dsimp only
   refine Jr8 (λσ H3=>∃(l:S5) (ls:List Int),σ= [some (.ref r),some (.ref L),some (.ref R),some (.ref p),some (.int (0+(i:Int))),some (.ref l),o6,o7,o8,o9]/\But p H H3/\l≠p/\H3 l=some (.lst (ls.map V.int))/\LvG Bs ls) (λR hR=>?_) ?_
   ·refine ⟨_,rfl,rfl,_,rfl,Jnd (λ_=>?_) (λ_=>?_)⟩
    ·have hL2:=b2.1 _ _ nL hL1
     refine ⟨_,rfl,L,rfl,⟨_,Sw.of hL2⟩,λV1 hV1=>?_⟩
     have nV:V1≠p:=c2.2.ne hV1
     refine Jml ((Bs.map (·.st)).map V.int) hV1 (by simp;omega) (by simp;omega) hL2 ?_ ?_
     ·rintro j x y H' Q' hx hy sm kk
      rw [ym] at hx
      obtain ⟨t',ht',rfl⟩:=yy.mp hx
      obtain ⟨B,hB,m,_,tB⟩:=Jl6 (td1.but b1.2 b2) ht'
      rw [ym,ym,hB] at hy
      cases hy
      exact ⟨_,rfl,t',_,3,_,rfl,rfl,SqT.of (sm _ _ tB.1),rfl,kk _ (Sn.refl _)⟩
     intro H3 s3 hV3
     exact hR _ _ ⟨V1,_,rfl,c2.same s3,nV,hV3,LvG.start rg.all⟩
    ·exact hR _ _ ⟨D,gs,rfl,c2,nD,hgs,lg⟩
   ·rintro σ3 H3 ⟨l,ls,rfl,c3,nl,hl,lg3⟩
    have rv3:=rv.but st c3
    obtain ⟨dx,b,t,os,hr0,_⟩:=id rv3
    refine ⟨_,rfl,_,rfl,r,_,dx,_,_,rfl,hr0,T.Jdu,T.Jee,rfl,_,_,rfl,rfl,p,c+1,rfl,c3.2,by omega,Jv1 (by omega) (by omega),λwt H4 w0 w1 b4=>?_⟩
    have c4:=c3.trans b4
    have rv4:=rv.but st c4
    have td4:=td.but st c4
    have hR4:=c4.1 _ _ nR hR
    have hL4:=c4.1 _ _ nL hL
    have hl4:=b4.1 _ _ nl hl
    have kt4:Shi H4 p r Bs Cs es:=λe he=>(kt e he).but st l16.1 ag.1 c4
    refine ⟨_,rfl,R,rfl,⟨_,Sw.of hR4⟩,?_⟩
    refine Jnj (K:=K) (a:=R) (xs:=es.map V.ref) (λj σ H'=>(∃o7 o8 o9,σ= [some (.ref r),some (.ref L),some (.ref R),some (.ref p),some (.int (0+(i:Int))),some (.ref l),some (.int wt),o7,o8,o9])/\Sn H4 H') ⟨⟨_,_,_,rfl⟩,Sn.refl _⟩ (λj σ H' _ ⟨_,sm⟩=>Sw.of (sm _ _ hR4)) ?_ ?_
    ·rintro j x σ H' hx ⟨⟨o7,o8,o9,rfl⟩,sm⟩
     rw [ym] at hx
     obtain ⟨e,he,rfl⟩:=yy.mp hx
     obtain ⟨N,M,f,d,ds,ns,hE,nN,hN,ng,hM,lo,kp⟩:=(kt4 e (yad he)).same sm
     refine ⟨e,_,rfl,SqT.of hE,rfl,_,_,rfl,_,_,rfl,_,_,rfl,rfl,?_⟩
     exact ⟨_,rfl,_,rfl,_,rfl,_,rfl,_,rfl,_,rfl,f,r,d,L,N,M,l,ts,ds,Bs,Cs,c,g,wt,ns,ls,rfl,kp,rv4.same sm,rgC,rg,ag,sm _ _ hL4,td4.s.same sm,hN,ng,hM,lo,sm _ _ hl4,lg3,⟨w0,by omega⟩,λH5 s5=>⟨_,rfl,Jlb ⟨⟨_,_,_,rfl⟩,sm.trans s5⟩⟩⟩
    ·rintro σ5 H5 ⟨⟨o7,o8,o9,rfl⟩,sm⟩
     exact ⟨⟨_,_,_,_,_,_,rfl⟩,c4.same sm⟩
  ·rintro σ H' ⟨_,b⟩
   exact k H' b
theorem BX.put {a:Ad} {H:Hp} {o D:S5} {B:BTd} {xs:List V} {u:HO} (hD:H D=some (.lst xs)) (h:BX a H o B):BX a (upd H D u) o B:=by
 obtain ⟨dx,g,h1,g0,⟨dy,t,h3,h4⟩,h5⟩:=h
 have n:∀{b:S5} {v:HO},H b=some v->(∀ys,v≠ .lst ys)->(upd H D u) b=some v:=λe ne=>by
  rw [Sz λz=>?_]
  ·exact e
  ·rw [z,hD] at e
   exact ne _ (yac.inj e).symm
 refine ⟨dx,g,n h1 (λ_ z=>by cases z),g0,⟨dy,t,n h3 (λ_ z=>by cases z),n h4 (λ_ z=>by cases z)⟩,?_⟩
 cases hs:B.G.sv with
 |none=>rw [hs] at h5;exact h5
 |some j=>
  rw [hs] at h5
  obtain ⟨s,dx,e,q⟩:=h5
  exact ⟨s,dx,e,n q (λ_ z=>by cases z)⟩
theorem Sb7.put {a:Ad} {H:Hp} {r D:S5} {Bs:List BTd} {c g:Int} {xs:List V} {u:HO} (hD:H D=some (.lst xs)) (h:Sb7 a H r Bs c g):Sb7 a (upd H D u) r Bs c g:=by
 obtain ⟨dx,q,t,os,h1,h2,h3⟩:=h
 have n:∀{b:S5} {v:HO},H b=some v->(∀ys,v≠ .lst ys)->(upd H D u) b=some v:=λe ne=>by
  rw [Sz λz=>?_]
  ·exact e
  ·rw [z,hD] at e
   exact ne _ (yac.inj e).symm
 exact ⟨dx,q,t,os,n h1 (λ_ z=>by cases z),n h2 (λ_ z=>by cases z),Paired.mapP h3 λo B q=>q.put hD⟩
theorem Sl3 {K:Si} {a:Ad} {H:Hp} {os:List S5} {Bs:List BTd} (h:Paired (λo B=>BX a H o B) os Bs):(∀B∈Bs,TGd B)->∃Cs:List Bsn,Sdw K a H os Cs/\Cs.map (·.z)=Bs.map (·.z)/\Cs.length=Bs.length:=by
 induction h with
 |nil=>intro _;exact ⟨[],trivial,rfl,rfl⟩
 | @cons o B os Bs h t ih=>
  intro tg
  obtain ⟨Cs,c1,c2,c3⟩:=ih λB' hB'=>tg B' (yaq _ hB')
  obtain ⟨dx,g,h1,gx⟩:=h
  exact ⟨⟨B.z,B.lo,B.hi,B.st,B.rn,g,nOf B.G⟩::Cs,⟨⟨dx,h1,gx.gs (tg B (yar ..)).b.G⟩,c1⟩,by simp [c2],by simp [c3]⟩
theorem Ybi {α β:Type} {F:α->β->Prop} {l₁:List α} {l₂:List β} (h:Paired F l₁ l₂) {x:α} {y:β} (f:F x y):∀i:Nat,Paired F (l₁.set i x) (l₂.set i y):=by
 induction h with
 |nil=>intro _;exact .nil
 |cons h t ih=>
  intro i
  cases i with
  |zero=>exact .cons f t
  |succ i=>exact .cons h (ih i)
theorem Sbe.refl (Bs:List BTd):Sbe Bs Bs:=⟨rfl,λi B C h1 h2=>by rw [h1] at h2;cases h2;exact ⟨Agr.refl B,rfl⟩⟩
theorem Sbe.set {Bs:List BTd} {i:Nat} {B C:BTd} (hB:Bs[i]?=some B) (g:Agr B C) (e:B.st=C.st):Sbe Bs (Bs.set i C):=by
 refine ⟨by simp,λj B' C' h1 h2=>?_⟩
 rw [List.getElem?_set] at h2
 by_cases c:i=j
 ·subst c
  rw [if_pos rfl] at h2
  split at h2
  ·cases h2
   rw [hB] at h1
   cases h1
   exact ⟨g,e⟩
  ·cases h2
 ·rw [if_neg c,h1] at h2
  cases h2
  exact ⟨Agr.refl _,rfl⟩
theorem Spv {Bs:List BTd} {i:Nat} {B C:BTd} (hB:Bs[i]?=some B) (e:C.z=B.z):(Bs.set i C).map (·.z)=Bs.map (·.z):=by
 refine List.ext_getElem? λj=>?_
 rw [ym,ym,List.getElem?_set]
 by_cases c:i=j
 ·subst c
  have il:=(yq.mp hB).1
  rw [if_pos rfl,if_pos il,hB]
  show some C.z=some B.z
  rw [e]
 ·rw [if_neg c]
theorem Sp6:¬(("step" :Str)="flap"):=by decide +kernel
theorem Yc1 {t1 t2 t3 t4:TS} {D:Sbs} {σ:L2.St} {H:Hp} (Mid:L2.St->Hp->Prop) (h1:∀R,(∀σ H,Mid σ H->R σ H)->Jxu t1 (Jxu t2 t3) {D with nx:=R} σ H) (h2:∀σ H,Mid σ H->t4 D σ H):Jxu t1 (Jxu t2 (Jxu t3 t4)) D σ H:=h1 _ h2
theorem Ybb {kd:Str} {mk:Int} (lv:Int):lvG ⟨kd,[mk],none⟩ 0 lv=lvG ⟨kd,[mk],some 0⟩ 0 lv:=rfl
theorem Slo (lv:Int):lvG ⟨"step",[12],none⟩ 0 lv=lvG ⟨"step",[0,12],some 1⟩ 0 lv:=rfl
def Sm5 (a:Ad):Sp:=λvs H Q _=>∃(L:S5) (ts:List S5) (Bs:List BTd) (c:Int) (i:Nat),vs= [.ref L,.int c,.int (i:Int)]/\H L=some (.lst (ts.map V.ref))/\Sf1 H ts Bs/\RGd Bs/\(Bs.map (·.z)).Nodup/\(0<=c/\c<=12)/\i < Bs.length/\∀(y:S5) (Cs:List BTd) (H':Hp),Sn H H'->Sb7 a H' y Cs c 0->RGd Cs->Sbe Bs Cs->Q (.ref y) H'
theorem Jtu {H1:Hp} {g y dy:S5} {kd:Str} {ns:List Int} {j:Int} {Q1:Hp->Prop} {E:XK} (ga:Sbg (cOf a kd) H1 g (ns.map V.int)) (hn:ns.length<=4) (hj:0<=j/\j < ns.length) (hy:H1 y=none) (hdy:H1 dy=none)
  (k:∀H2,Sn H1 H2->GX a H2 (.ref y) ⟨kd,ns,some j⟩->Q1 H2):Jzt K a [.ref y,.ref g,.int j] (upd (upd H1 dy (.own y)) y (.ins a.Jjv dy [])) (λv H2=>v= .non/\Q1 H2) E:=by
 have gp:GS K a H1 (.ref g) ns.length:=by
  have q:=GS.plain (K:=K) Yai ga (by rw [yf];exact hn)
  rw [yf] at q
  exact q
 have sn:Sn H1 (upd (upd H1 dy (.own y)) y (.ins a.Jjv dy [])):=λb o e=>by rw [Sz (Jkb e hy),Sz (Jkb e hdy)];exact e
 have sy:Sn H1 (upd (upd (upd H1 dy (.own y)) y (.ins a.Jjv dy [])) y (.ins a.Jjv dy [("gate",.ref g),("setting",.int j)])):=by
  rw [Jn8]
  exact λb o e=>by rw [Sz (Jkb e hy),Sz (Jkb e hdy)];exact e
 exact ⟨y,dy,_,.int j,rfl,Sv,.inr (.inr ⟨ns.length,gp.same sn,.inl ⟨j,rfl⟩,by simp [Jl2];omega,rfl,k _ sy ⟨g,ga.same sy,y,dy,rfl,Sv⟩⟩)⟩
theorem Yad (T:Tx K mg a) {H1:Hp} {x dx g:S5} {C:BTd} {Q1:Hp->Prop} {E:XK} (tg:TGd C) (gx:GX a H1 (.ref g) C.G) (hx1:H1 x=none) (hd1:H1 dx=none)
  (k:∀H2,Sn H1 H2->BX a H2 x C->Q1 H2):Jzr K a [.ref x,.str C.z,.int C.lo,.int C.hi,.int C.st,.int C.rn,.ref g] (upd (upd H1 dx (.own x)) x (.ins a.Jjw dx [])) (λv H2=>v= .non/\Q1 H2) E:=by
 have bg:=tg.b
 have gs:GS K a H1 (.ref g) (nOf C.G):=gx.gs bg.G
 have sn:Sn H1 (upd (upd H1 dx (.own x)) x (.ins a.Jjw dx [])):=λb o e=>by rw [Sz (Jkb e hx1),Sz (Jkb e hd1)];exact e
 have b1:=bg.lo
 have b2:=bg.hi
 have b3:=bg.rn
 have b4:=tg.st
 refine ⟨x,dx,.str C.z,.int C.lo,.int C.hi,.int C.st,.int C.rn,.ref g,true,none,rfl,Sv,⟨.inr ⟨_,.of (.str C.z),rfl⟩,λy e=>by cases e;exact tg.wd⟩,.inl ⟨_,rfl⟩,.inl ⟨_,rfl⟩,.inl ⟨_,rfl⟩,.inl ⟨_,rfl⟩,(gs.gti T).same sn,.good C.lo C.hi tg.nm rfl rfl (Jlz (by omega) (by omega)) (Jlz (by omega) (by omega)) (Jlz b4.1 b4.2) (Jlz (by omega) (by omega)) rfl,λH2 s2=>⟨rfl,?_⟩⟩
 have s3:Sn H1 (upd H2 x (.ins a.Jjw dx (Sie (.str C.z) (.int C.lo) (.int C.hi) (.int C.st) (.int C.rn) (.ref g)))):=λb o e=>by rw [Sz (Jkb e hx1)];exact s2 _ _ (sn _ _ e)
 exact k _ s3 ⟨dx,_,Sv,gx.same s3⟩
theorem Saz:Jkd ["_law_told","_law_cloud","_law_place","_law_basins_here","_law_one","_law_gate_here"] ["_law_told","_law_cloud","_law_place"] (Jk9 (top 87)):=⟨rfl,rfl,rfl,by decide +kernel,rfl,by decide +kernel,by decide +kernel⟩
theorem Jw9 (T:Tx K mg a):Sx P w K mg base CX0 8 a.Jj4 a.Jj5 ["_law_told","_law_cloud","_law_place"] (Sm5 a):=by
 have Sg6:=Jxd (P:=P) (w:=w) (base:=base) T
 have Sb3:=Job (P:=P) (w:=w) (base:=base) T
 have Sb0:=Jo8 (P:=P) (w:=w) (base:=base) T
 have Sb2:=Joa (P:=P) (w:=w) (base:=base) T
 have Sav:=Jqy (P:=P) (w:=w) (base:=base) T
 have Sbf:=Jpx (P:=P) (w:=w) (base:=base) T
 have Sdl:=Ju4 (P:=P) (w:=w) (base:=base) T
 refine T.Jab.fn.ok Saz (λvs H Q E h=>?_) (λcdv A outer s H vs Q E hr h=>?_)
 ·obtain ⟨L,ts,Bs,c,i,rfl,_⟩:=h
  rfl
 ·obtain ⟨L,ts,Bs,c,i,rfl,hL,td,rg,nz,hc,il,k⟩:=h
  have hu64:=Jnt hr
  have len:=Paired.length td
  have l16:=rg.len
  refine ⟨?t,?B,?C⟩
  case B=>
   refine' Jk6 ?a ?b
   case a=>exact (Jmj (i:=3) (N:=(["_law_one"]:List Str)) (ini:=[none]) Saz.nd rfl (ye rfl) rfl (Jl5 (pv 0)) (λ_ _ _ _ _=>(Jkf (i:=0) (by decide +kernel:(["_law_one"]:List Str).Nodup) rfl (ye rfl))) (λ_ _ _ _ _=>Jky) (λ_ _ _ _ _=>(Jkc T.Jw Sg6 hr (by decide) (So (pv 0) Ss))))
   case b=>
   refine' Jk6 ?c ?d
   case c=>exact (Jkh (i:=4) Saz.nd rfl (ye rfl) (Jkm Jks (pv 0) (pv 2) (λ_ _=>rfl)))
   case d=>
   refine' Jk6 ?e ?f
   case e=>
    refine' Jku ?g ?h ?i
    case g=>exact (Jkr Jnw (Jke Jkp (by rfl) T.Jau Jlg (So (Jkm Jkw (pv 4) Sy (λ_ _=>rfl)) Ss)) Sy (Jkt _))
    case h=>
     refine' Jk6 ?j ?k
     case j=>exact (Jkh (i:=5) Saz.nd rfl (ye rfl) (Jmi T.Jdl Sav.calm (hr.mono (by decide)) (by rfl) T.Jbh T.Jcm.bd .nil Jnm (So (Jmi T.Jd3 Sb3.calm (hr.mono (by decide)) (by rfl) T.Jbe T.Jcd.bd .nil Jnm (So (Jl1 (So Sy (So Sy Ss))) Ss)) (So Sy Ss))))
     case k=>
     refine' Jk6 ?l ?m
     case l=>
      refine' Jku ?n ?o ?p
      case n=>exact (Jkr Jnw (Jkm Jkw (pv 4) Sy (λ_ _=>rfl)) Jlk (Jkt _))
      case o=>
       refine' Jk7 ?q
       case q=>exact (Jkh (i:=5) Saz.nd rfl (ye rfl) (Jmi T.Jdl Sav.calm (hr.mono (by decide)) (by rfl) T.Jbh T.Jcm.bd .nil Jnm (So (Jmi T.Jd9 Sb0.calm (hr.mono (by decide)) (by rfl) T.Jbf T.Jcg.bd .nil Jnm (So (Jl1 (So (Jkm Jks (Jkm Jkw (pv 4) Sy (λ_ _=>rfl)) Sy (λ_ _=>rfl)) Ss)) Ss)) (So Sy Ss))))
      case p=>exact Jki
     case m=>
     refine' Jk6 ?r ?s
     case r=>
      refine' Jku ?u ?v ?w
      case u=>exact (Jkr Jnw (Jkm Jkw (pv 4) Sy (λ_ _=>rfl)) Jlk (Jkt _))
      case v=>
       refine' Jk7 ?x
       case x=>exact (Jkh (i:=5) Saz.nd rfl (ye rfl) (Jmi T.Jdl Sav.calm (hr.mono (by decide)) (by rfl) T.Jbh T.Jcm.bd .nil Jnm (So (Jmi T.Jdf Sb2.calm (hr.mono (by decide)) (by rfl) T.Jbg T.Jcj.bd .nil Jnm (So (Jl1 (So (Jkm Jks (Jkm Jkw (pv 4) Sy (λ_ _=>rfl)) Sy (λ_ _=>rfl)) Ss)) Ss)) (So Sy Ss))))
      case w=>exact Jki
     case s=>
     refine' Jk7 ?y
     case y=>
     refine' Jku ?z ?a0 ?b0
     case z=>exact (PW.pt (Jop (Jkr Jzp (Jkm Jkw (pv 4) Sy (λ_ _=>rfl)) Jlk (Jkt _)) (Jo2 (Jkr (Jwb hu64) (Jkm Jkw (pv 4) Sy (λ_ _=>rfl)) (Jl1 (So Sy Ss)) (Jkt _)))))
     case a0=>
      refine' Jk7 ?c0
      case c0=>
      refine' Jrr ?d0 ?e0
      case d0=>exact (Jmi T.Jdr Sbf.calm (hr.mono (by decide)) (by rfl) T.Jbi T.Jcp.bd .nil Jnm (pa6 (Jkm Jkw (pv 4) Sy (λ_ _=>rfl)) (Jkm Jkw (pv 4) Sy (λ_ _=>rfl)) (Jkm Jkw (pv 4) Sy (λ_ _=>rfl)) (Jkm Jkw (pv 4) Sy (λ_ _=>rfl)) (Jkm Jkw (pv 4) Sy (λ_ _=>rfl)) (pv 5)))
      case e0=>exact (Jtj (pv 3) (pv 2) Jpb)
     case b0=>exact Jki
    case i=>exact Jki
   case f=>
   refine' Jk7 ?f0
   case f0=>
   refine' Jkg ?g0
   case g0=>exact (Jmi T.Jdv Sdl.calm (hr.mono (by decide)) (by rfl) T.Jbk T.Jcq.bd .nil Jnm (pa4 (pv 1) Sy (pv 3) (Jl1 Ss)))
  refine ⟨_,rfl,L,rfl,⟨_,Sw.of hL⟩,λD hD=>?_⟩
  refine Jle (K:=K) (xs:=ts.map V.ref) (λj σ H'=>(∃o,σ= [o])/\Sn H H'/\∃os:List S5,H' D=some (.lst (os.map V.ref))/\Paired (λo B=>BX a H' o B) os (Bs.take j)) ⟨⟨_,rfl⟩,Sn.upd hD,[],Sv,.nil⟩ (λj σ H' _ ⟨_,sm,_⟩=>Sw.of (sm _ _ hL)) ?_ ?_
  ·rintro j y σ H' hy ⟨⟨o,rfl⟩,sm,os,hDs,po⟩
   rw [ym] at hy
   obtain ⟨t,ht,rfl⟩:=yy.mp hy
   obtain ⟨C,hC,tC⟩:=Jl6 td ht
   have jl:j < Bs.length:=(yq.mp hC).1
   have tg:=rg.all C (yad hC)
   refine Jlc ⟨_,rfl,t,C,rfl,tC.same sm,tg,λob H5 s5 bx=>?_⟩
   have hD5:=s5 _ _ hDs
   have ol:os.length=j:=by
    have:=Paired.length po
    rw [yah] at this
    omega
   refine ⟨_,hD5,?_,⟨_,rfl⟩,?_,os++ [ob],?_,?_⟩
   ·rw [yf]
    exact Jkk (by omega)
   ·intro c2 o' z
    rw [Sz (Jkb z hD)]
    exact s5 _ _ (sm _ _ z)
   ·rw [Sv,yt]
    rfl
   ·rw [yan,hC]
    exact Paired.snoc (Paired.mapP po λ_ _ q=>(q.same s5).put hD5) (bx.put hD5)
  rintro σ4 H1 ⟨_,s1,os,hDs,po⟩
  rw [yf,yat (by omega)] at po
  have ol:=Paired.length po
  obtain ⟨t,ht⟩:∃t,ts[i]?=some t:=⟨_,yp (by omega)⟩
  obtain ⟨B,hB,m,tB,hm,sv⟩:=Jl6 td ht
  have tg:=rg.all B (yad hB)
  have ati:atI (ts.map V.ref) (i:Int)=some (.ref t):=Jl8 (by rw [ym,ht];rfl)
  refine ⟨_,rfl,_,rfl,L,_,(i:Int),_,rfl,rfl,Sw.of (s1 _ _ hL),ati,?_⟩
  unfold Ycu
  dsimp only
  refine Jr8 (λσ H'=>∃(o5:Option V) (os:List S5) (Cs:List BTd),σ= [some (.ref L),some (.int c),some (.int (i:Int)),some (.ref D),some (.ref t),o5]/\Sn H H'/\H' D=some (.lst (os.map V.ref))/\Paired (λo B=>BX a H' o B) os Cs/\RGd Cs/\Sbe Bs Cs/\Cs.map (·.z)=Bs.map (·.z)) (λR hR=>?_) ?_
  ·have tB1:=s1 _ _ tB
   have hm1:=s1 _ _ hm
   refine ⟨_,rfl,t,_,6,_,rfl,rfl,SqT.of tB1,rfl,m,_,rfl,.inl (Sw.of hm1),rfl,_,rfl,Jnd (λq1=>?_) (λ_=>?_)⟩
   ·obtain ⟨zB,loB,hiB,stB,rnB,⟨kd,ns,sv'⟩⟩:=B
    cases (show sv'=none from sv)
    have l1:ns.length=1:=by
     have q2:(ns.length:Int)=1:=by simpa using q1
     omega
    obtain ⟨mk,rfl⟩:∃mk,ns= [mk]:=List.length_eq_one_iff.mp l1
    have gg:Sbt ⟨kd,[mk],none⟩:=tg.b.G
    have kdk:Knd kd:=gg.kd
    have e1:Jn0 "flap" =0:=if_neg Ybd
    have e2:Jn0 "part" =1:=if_pos rfl
    have e3:cOf a "step" =a.Jjs:=if_pos rfl
    have e4:cOf a "flap" =a.Jjt:=by unfold cOf;rw [if_neg Jqv,if_pos rfl]
    have e5:cOf a "part" =a.Jju:=by unfold cOf;rw [if_neg Js5,if_neg Jqw]
    have ns1:Jmc (Jn0 kd) ([mk].map V.int)=true:=gg.ns
    refine Yc1 (λσ H2=>∃(y:S5) (G:Jnq),σ= [some (.ref L),some (.int c),some (.int (i:Int)),some (.ref D),some (.ref t),some (.ref y)]/\Sn H1 H2/\GX a H2 (.ref y) G/\Sbt G/\nOf G=1/\(kd≠"step" \/mk=12->∀lv,lvG ⟨kd,[mk],none⟩ 0 lv=lvG G 0 lv)) (λR' hR'=>?_) ?_
    ·refine ⟨(show 2<=Sa by decide),λz hz g dg hg hd ne=>Jo7 T.Jd1 T.Je1 hg hd ne ⟨[.int 0,.int 12],.lst Sv,λy hy=>Jpm (ns:=[0,12]) hy,by decide,λH2 s2 ga=>?_⟩⟩
     have v2:=(Sn.upd (o:=.lst [.int 0,.int 12]) hz).trans s2
     intro y dy hy hdy ney
     refine Jtu (kd:="step") (ns:=[0,12]) (j:=1) (by rw [e3];exact ga) (by decide) (by decide) hy hdy λH3 s3 gx=>?_
     have v3:=v2.trans s3
     have tB3:=v3 _ _ tB1
     have hm3:=v3 _ _ hm1
     refine ⟨_,rfl,t,_,5,_,rfl,rfl,SqT.of tB3,rfl,?_⟩
     rcases kdk with rfl|rfl|rfl
     ·refine ⟨rfl,_,rfl,Ju2 (Jtt Sp6) ?_⟩
      refine ⟨_,rfl,t,_,5,_,rfl,rfl,SqT.of tB3,rfl,rfl,_,rfl,Ju2 (Jtt Sk5) ?_⟩
      refine hR' _ _ ⟨y,_,rfl,v3,gx,⟨.inl rfl,by decide +kernel,λi e=>by cases e;decide⟩,rfl,λh lv=>?_⟩
      rcases h with h|rfl
      ·exact absurd rfl h
      ·exact Slo lv
     ·refine ⟨rfl,_,rfl,Yc rfl ?_⟩
      rw [e1] at ns1
      refine ⟨_,rfl,t,_,6,_,rfl,rfl,SqT.of tB3,rfl,m,_,0,_,rfl,rfl,Sw.of hm3,Jl8 (j:=0) rfl,(show 1<=Sa by decide),λz4 hz4 g4 dg4 hg4 hd4 ne4=>Jo7 T.Jd7 T.Je2 hg4 hd4 ne4 ⟨[.int mk],.lst Sv,λy hy=>Jpm (ns:=[mk]) hy,ns1,λH5 s5 ga5=>?_⟩⟩
      have v5:=(v3.trans (Sn.upd (o:=.lst [.int mk]) hz4)).trans s5
      intro y5 dy5 hy5 hdy5 ney5
      refine Jtu (kd:="flap") (ns:=[mk]) (j:=0) (by rw [e4];exact ga5) (by simp) (by simp) hy5 hdy5 λH6 s6 gx6=>?_
      have v6:=v5.trans s6
      refine ⟨_,rfl,t,_,5,_,rfl,rfl,SqT.of (v6 _ _ tB1),rfl,rfl,_,rfl,Ju2 (Jtt Ybd) ?_⟩
      exact hR' _ _ ⟨y5,_,rfl,v6,gx6,⟨gg.kd,gg.ns,λi e=>by cases e;simp⟩,rfl,λh lv=>Ybb lv⟩
     ·refine ⟨rfl,_,rfl,Ju2 (Jtt Jqw) ?_⟩
      rw [e2] at ns1
      refine ⟨_,rfl,t,_,5,_,rfl,rfl,SqT.of tB3,rfl,rfl,_,rfl,Yc rfl ?_⟩
      refine ⟨_,rfl,t,_,6,_,rfl,rfl,SqT.of tB3,rfl,m,_,0,_,rfl,rfl,Sw.of hm3,Jl8 (j:=0) rfl,(show 1<=Sa by decide),λz4 hz4 g4 dg4 hg4 hd4 ne4=>Jo7 T.Jdd T.Je3 hg4 hd4 ne4 ⟨[.int mk],.lst Sv,λy hy=>Jpm (ns:=[mk]) hy,ns1,λH5 s5 ga5=>?_⟩⟩
      have v5:=(v3.trans (Sn.upd (o:=.lst [.int mk]) hz4)).trans s5
      intro y5 dy5 hy5 hdy5 ney5
      refine Jtu (kd:="part") (ns:=[mk]) (j:=0) (by rw [e5];exact ga5) (by simp) (by simp) hy5 hdy5 λH6 s6 gx6=>?_
      exact hR' _ _ ⟨y5,_,rfl,v5.trans s6,gx6,⟨gg.kd,gg.ns,λi e=>by cases e;simp⟩,rfl,λh lv=>Ybb lv⟩
    ·rintro σ6 H2 ⟨y,G,rfl,s2,gx,gG,n1,lvs⟩
     have tB2:=s2 _ _ tB1
     have hm2:=s2 _ _ hm1
     have hD2:=s2 _ _ hDs
     have po2:=Paired.mapP po λ_ _ q=>q.same (a:=a) s2
     have tgC:TGd ⟨zB,loB,hiB,stB,rnB,G⟩:=⟨⟨tg.b.lo,tg.b.hi,tg.b.rn,gG⟩,tg.st,tg.nm,tg.wd⟩
     have fin:∀(x:S5) (H3:Hp),(kd≠"step" \/mk=12)->Sn H2 H3->BX a H3 x ⟨zB,loB,hiB,stB,rnB,G⟩->∃(o5:Option V) (os':List S5) (Cs:List BTd),[some (.ref L),some (.int c),some (.int (i:Int)),some (.ref D),some (.ref t),some (.ref y)]= [some (V.ref L),some (.int c),some (.int (i:Int)),some (.ref D),some (.ref t),o5]/\Sn H (upd H3 D (.lst ((os.map V.ref).set i (.ref x))))/\(upd H3 D (.lst ((os.map V.ref).set i (.ref x)))) D=some (.lst (os'.map V.ref))/\Paired (λo B=>BX a (upd H3 D (.lst ((os.map V.ref).set i (.ref x)))) o B) os' Cs/\RGd Cs/\Sbe Bs Cs/\Cs.map (·.z)=Bs.map (·.z):=by
      intro x H3 hh s3 bx
      have hD3:=s3 _ _ hD2
      have ag:Agr ⟨zB,loB,hiB,stB,rnB,⟨kd,[mk],none⟩⟩ ⟨zB,loB,hiB,stB,rnB,G⟩:=⟨rfl,rfl,rfl,by show 1=nOf G;rw [n1],λs lv h0 h1=>by
       have h1':s < (nOf G:Int):=h1
       have:s=0:=by rw [n1] at h1';omega
       subst this
       exact lvs hh lv⟩
      refine ⟨_,os.set i x,Bs.set i ⟨zB,loB,hiB,stB,rnB,G⟩,rfl,λb o e=>?_,by rw [Sv,List.map_set],Ybi (Paired.mapP po2 λ_ _ q=>(q.same s3).put hD3) (bx.put hD3) i,⟨by rw [List.length_set];exact l16,λC hC=>?_⟩,Sbe.set hB ag rfl,Spv hB rfl⟩
      ·rw [Sz (Jkb e hD)]
       exact s3 _ _ (s2 _ _ (s1 _ _ e))
      ·rcases List.mem_or_eq_of_mem_set hC with h|h
       ·exact rg.all C h
       ·rw [h]
        exact tgC
     refine ⟨_,rfl,t,_,5,_,rfl,rfl,SqT.of tB2,rfl,rfl,_,rfl,?_⟩
     by_cases hk:kd="step"
     ·subst hk
      refine ifF (by simp) ?_
      refine ⟨_,rfl,t,_,6,_,rfl,rfl,SqT.of tB2,rfl,(show 1<=Sa by decide),λz3 hz3=>?_⟩
      have u3:=Sn.upd (o:=.lst [.int 12]) hz3
      refine ⟨_,_,.lst (Sw.of (u3 _ _ hm2)) (Jmr [mk]),.lst (Sw.of Sv) (Jmr [12]),Jls [mk],Jls [12],_,rfl,?_⟩
      rw [if_neg yz]
      by_cases hm12:mk=12
      ·subst hm12
       rw [Jsu [12]]
       refine Jmb ?_
       have tB3:=u3 _ _ tB2
       refine ⟨_,rfl,t,_,0,_,rfl,rfl,SqT.of tB3,rfl,_,rfl,t,_,1,_,rfl,rfl,SqT.of tB3,rfl,_,rfl,t,_,2,_,rfl,rfl,SqT.of tB3,rfl,_,rfl,t,_,3,_,rfl,rfl,SqT.of tB3,rfl,_,rfl,t,_,4,_,rfl,rfl,SqT.of tB3,rfl,_,rfl,?_⟩
       intro x dx hx1 hd1 ne
       refine Yad (C:=⟨zB,loB,hiB,stB,rnB,G⟩) T tgC (gx.same u3) hx1 hd1 λH4 s4 bx=>?_
       have u4:=u3.trans s4
       exact ⟨_,rfl,_,rfl,D,_,(i:Int),i,rfl,rfl,u4 _ _ hD2,by simp [ixN];omega,hR _ _ (fin x H4 (.inr rfl) u4 bx)⟩
      ·have en:PyData.eqv (.list ([mk].map PyData.int)) (.list ([12].map PyData.int))=false:=by simp [PyData.eqv,PyData.eqvAll,hm12]
       rw [en]
       refine Jlb ?_
       exact hR _ _ ⟨_,os,Bs,rfl,(s1.trans s2).trans u3,u3 _ _ hD2,Paired.mapP po2 λ_ _ q=>q.same u3,rg,Sbe.refl Bs,rfl⟩
     ·refine ifT (by simp [hk]) ?_
      refine ⟨_,rfl,t,_,0,_,rfl,rfl,SqT.of tB2,rfl,_,rfl,t,_,1,_,rfl,rfl,SqT.of tB2,rfl,_,rfl,t,_,2,_,rfl,rfl,SqT.of tB2,rfl,_,rfl,t,_,3,_,rfl,rfl,SqT.of tB2,rfl,_,rfl,t,_,4,_,rfl,rfl,SqT.of tB2,rfl,_,rfl,?_⟩
      intro x dx hx1 hd1 ne
      refine Yad (C:=⟨zB,loB,hiB,stB,rnB,G⟩) T tgC gx hx1 hd1 λH4 s4 bx=>?_
      exact ⟨_,rfl,_,rfl,D,_,(i:Int),i,rfl,rfl,s4 _ _ hD2,by simp [ixN];omega,hR _ _ (fin x H4 (.inl hk) s4 bx)⟩
   ·exact hR _ _ ⟨_,os,Bs,rfl,s1,hDs,po,rg,Sbe.refl Bs,rfl⟩
  ·rintro σ5 H2 ⟨o5,os,Cs,rfl,s2,hD2,po2,rgC,ag,ez⟩
   refine ⟨_,rfl,_,rfl,(show 0<=Sa by decide),λM hM=>?_⟩
   have u3:=Sn.upd (o:=.lst []) hM
   intro y dy hy hdy ne
   have sn:Sn (upd H2 M (.lst [])) (upd (upd (upd H2 M (.lst [])) dy (.own y)) y (.ins a.Jjy dy [])):=λb o e=>by rw [Sz (Jkb e hy),Sz (Jkb e hdy)];exact e
   have s3n:=u3.trans sn
   obtain ⟨Es,bl,cz,cl'⟩:=Sl3 (K:=K) (Paired.mapP po2 λ_ _ q=>q.same s3n) rgC.all
   have lC:=rgC.len
   refine ⟨y,dy,D,M,c,0,os,[],Es,[],rfl,Sv,hc,⟨by decide,hc.1⟩,s3n _ _ hD2,bl,by omega,by rw [cz,ez];exact nz,sn _ _ Sv,trivial,by simp,ybo,(λt h=>nomatch h),λH8 b t s8 hb ht nb nt=>⟨rfl,?_⟩⟩
   have s9:Sn H2 (upd H8 y (.ins a.Jjy dy (Sjd (.int c) (.int 0) (.ref b) (.ref t)))):=λd o e=>by
    rw [Sz (Jkb (u3 _ _ e) hy)]
    exact s8 _ _ (s3n _ _ e)
   exact k y Cs _ (s2.trans s9) ⟨dy,b,t,os,Sv,by rw [Sz nb];exact hb,Paired.mapP po2 λ_ _ q=>q.same s9⟩ rgC ag
theorem Shi.put {H:Hp} {p r R e:S5} {Bs Cs:List BTd} {es:List S5} {u:HO} (st:Sbo H p) (h1:1<=Bs.length) (hc:Cs.length=Bs.length) (hR:H R=some (.lst (es.map V.ref))) (h:Shi H p r Bs Cs es) (he:Sc6 H p r Bs Cs e):Sc6 (upd H R u) p r Bs Cs e:=by
 refine he.imp st h1 hc (λb o e n=>?_) (λb xs e _ pl=>?_)
 ·rw [Sz λz=>?_]
  ·exact e
  ·rw [z,hR] at e
   exact n _ (yac.inj e).symm
 ·rw [Sz λz=>?_]
  ·exact e
  ·rw [z,hR] at e
   have ex:=HO.lst.inj (yac.inj e)
   subst ex
   cases es with
   |nil=>rcases pl with ⟨_,_,q⟩|⟨_,_,_,q,_⟩ <;> cases q
   |cons q qs=>
    rcases pl with ⟨_,_,z⟩|⟨_,_,v,z,e1,e2⟩
    ·cases z
    ·cases z
     obtain ⟨N,M,f,d,ds,ns,x,_⟩:=h q (yar ..)
     rw [x] at e1
     exact e2 _ (yac.inj e1).symm
def spLaw (K:Si) (a:Ad):Sp:=λvs H Q _=>∃(x:S5) (ns:List Int),vs= [.ref x]/\Sw K H x (ns.map V.int)/\ns.length<=63/\H a.Jk0=some (.tbl lb_lost_alone)/\H a.Jk2=some (.tbl lb_local_keeper)/\∀H',Q (.bl true) H'
theorem Sc4:Jkd ["_law_script","_law_k","_law_stream_here","_law_told","_law_river_here","_law_kept_here","_law_numbers","_law_losts_here","_law_right_here","_law_keeper"] ["_law_script"] (Jk9 (top 88)):=⟨rfl,rfl,rfl,by decide +kernel,rfl,by decide +kernel,by decide +kernel⟩
theorem ok_law (T:Tx K mg a) (B:Bmn mg base):Sx P w K mg base CX0 12 a.a_law a.d_law ["_law_script"] (spLaw K a):=by
 have Sg2:=Jx9 (P:=P) (w:=w) (base:=base) T
 have Seq:=Jub (P:=P) (w:=w) (base:=base) T
 have Sr:=Jm8 (P:=P) (w:=w) (base:=base) T
 have Sep:=Jua (P:=P) (w:=w) (base:=base) T
 have Sfk:=Jw9 (P:=P) (w:=w) (base:=base) T
 have Sfg:=Jw5 (P:=P) (w:=w) (base:=base) T
 have Sfh:=Jw6 (P:=P) (w:=w) (base:=base) T
 have Sg5:=Jxc (P:=P) (w:=w) T B
 have Sdm:=Jrn (P:=P) (w:=w) (base:=base) T
 refine T.f_law.fn.ok Sc4 (λvs H Q E h=>?_) (λcdv A outer s H vs Q E hr h=>?_)
 ·obtain ⟨x,ns,rfl,_⟩:=h
  rfl
 ·obtain ⟨x,ns,rfl,hS,hl,htb,htk,k⟩:=h
  refine ⟨?t,?B,?C⟩
  case B=>
   refine' Jk6 ?a ?b
   case a=>
    refine' Jma ?c ?d ?e ?f ?g
    case c=>exact PassesOwn.never
    case d=>exact rfl
    case e=>exact (Jlj (by rfl) T.Jay (So (Jke (Jng rfl) (by rfl) T.Jaw Jri (So Sy (So (Jke (Jpf rfl) (by rfl) T.Jax Jvm (So Sy (So (Jke Jkp (by rfl) T.Jau Jlg (So (pv 0) Ss)) Ss))) Ss))) Ss))
    case f=>exact (Jkf (i:=1) Sc4.nd rfl (ye rfl))
    case g=>
    refine' Jk6 ?h ?i
    case h=>exact (Jkh (i:=2) Sc4.nd rfl (ye rfl) (Jkc T.Jr Seq hr (by decide) (So (Jkc T.Jq Sg2 hr (by decide) (So (pv 0) (So (pv 1) Ss))) Ss)))
    case i=>
    refine' Jk6 ?j ?k
    case j=>exact (Jkh (i:=3) Sc4.nd rfl (ye rfl) (Jkc T.Ja1 Sep hr (by decide) (So (pv 2) Ss)))
    case k=>
    refine' Jk6 ?l ?m
    case l=>exact (Jkh (i:=4) Sc4.nd rfl (ye rfl) (Jkc T.Jab Sfk hr (by decide) (So (pv 3) (So (Jkc T.Js Sr hr (by decide) (So (pv 2) (So Sy Ss))) (So (Jkc T.Js Sr hr (by decide) (So (pv 2) (So (Jke Jkp (by rfl) T.Jau Jlg (So (pv 3) Ss)) Ss))) Ss)))))
    case m=>
    refine' Jk6 ?n ?o
    case n=>exact (Jkh (i:=5) Sc4.nd rfl (ye rfl) (Jl1 Ss))
    case o=>
    refine' Jk6 ?p ?q
    case p=>
     refine' Jma ?r ?s ?u ?v ?w
     case r=>exact PassesOwn.never
     case s=>exact rfl
     case u=>exact (Jl5 (Jkc T.Ja3 Sfg hr (by decide) (So (pv 2) (So (pv 3) Ss))))
     case v=>exact (Jkf (i:=6) Sc4.nd rfl (ye rfl))
     case w=>
     refine' Jk6 ?x ?y
     case x=>exact (Jkh (i:=7) Sc4.nd rfl (ye rfl) (Jkc T.Ja4 Sfh hr (by decide) (So (pv 3) (So (pv 6) Ss))))
     case y=>
     refine' Jk6 ?z ?a0
     case z=>
      refine' Jrr ?b0 ?c0
      case b0=>exact (Jkc T.Ja9 Sg5 hr (by decide) (pa4 (pv 4) (pv 3) (pv 6) (pv 7)))
      case c0=>exact (Jrp rfl (Jkv (Jkf (i:=8) Sc4.nd rfl (ye rfl)) (Jkv (Jkf (i:=9) Sc4.nd rfl (ye rfl)) Jmx)))
     case a0=>
     refine' Jk6 ?d0 ?e0
     case d0=>
      refine' Jku ?f0 ?g0 ?h0
      case f0=>exact (Jl3 (Jkx (pv 8)))
      case g0=>
       refine' Jk7 ?i0
       case i0=>exact (Jkg Jmf)
      case h0=>exact Jki
     case e0=>
     refine' Jk7 ?j0
     case j0=>
     refine' Jku ?k0 ?l0 ?m0
     case k0=>exact (Jkr Jsk (pv 9) Jlu (Jkt _))
     case l0=>
      refine' Jk7 ?n0
      case n0=>exact (Jlv (Jq0 F.plainAttrs_list F.slot_list_append F.type_list_append Jlx (pv 5) (So (Jm2 (So (pv 6) (So (pv 7) (So (pv 9) Ss)))) Ss)))
     case m0=>exact Jki
    case q=>
    refine' Jk7 ?o0
    case o0=>
    refine' Jku ?p0 ?q0 ?r0
    case p0=>exact (Jl3 (Jkx (Jkc T.Jaa Sdm hr (by decide) (pa4 (pv 4) (pv 3) (pv 5) (pv 2)))))
    case q0=>
     refine' Jk7 ?s0
     case s0=>exact (Jkg Jmf)
    case r0=>exact Jki
   case b=>
   refine' Jk7 ?u0
   case u0=>exact (Jkg Jmf)
  refine ⟨_,rfl,x,_,rfl,.inl hS,_,_,rfl,_,_,rfl,_,rfl,?_,?_,?_⟩
  ·split <;> split <;> omega
  ·rw [yf]
   split <;> split <;> omega
  refine Jn2 (lo:=0) (λi σ H'=>(∃o1 o2 o3 o4 o5 o6 o7 o8 o9,σ= [some (.ref x),o1,o2,o3,o4,o5,o6,o7,o8,o9])/\Sn H H') ⟨⟨_,_,_,_,_,_,_,_,_,rfl⟩,Sn.refl _⟩ ?_ ?_
  ·rintro i σ H0 _ ⟨⟨o1,o2,o3,o4,o5,o6,o7,o8,o9,rfl⟩,s0⟩
   refine ⟨_,rfl,_,rfl,x,ns,0+i,by simp,s0.seq hS,λcl=>⟨cl,rfl,λp H1 hp s1 st=>?_⟩⟩
   have hp0:H p=none:=by
    cases hc:H p with
    |none=>rfl
    |some u=>rw [s0 _ _ hc] at hp;cases hp
   have done:∀{H':Hp},But p H1 H'->Sn H H':=λb c o z=>b.1 _ _ (Jkb z hp0) (s1 _ _ (s0 _ _ z))
   refine ⟨_,rfl,p,rfl,st,λL ts Bs H2 b2 hL0 hL tl rg nz=>?_⟩
   have nL:L≠p:=st.ne hL0
   have lts:=Paired.length tl
   have l16:=rg.len
   refine ⟨_,rfl,_,rfl,p,13,rfl,b2.2,by decide,by decide,λc H3 c0 c1 b3=>?_⟩
   have d3:=b2.trans b3
   have hL3:=b3.1 _ _ nL hL
   refine ⟨_,rfl,_,rfl,L,_,rfl,.inl (Sw.of hL3),p,_,rfl,d3.2,?_,?_,λra H4 a0 a1 b4=>?_⟩
   ·rw [yf];omega
   ·rw [yf];exact Jx7 (by omega)
   rw [yf,lts] at a1
   obtain ⟨pl,rfl⟩:=ycp a0
   have d4:=d3.trans b4
   have hL4:=b4.1 _ _ nL hL3
   have tl4:=(tl.but b2.2 b3).but d3.2 b4
   refine ⟨L,ts,Bs,c,pl,rfl,hL4,tl4.s,rg,nz,⟨c0,by omega⟩,by omega,λy Cs H5 s5 rv rgC ag=>?_⟩
   have d5:=d4.same s5
   refine ⟨(show 0<=Sa by decide),λR hR=>?_⟩
   have hR0:H1 R=none:=But.free st d5 hR
   have nR:R≠p:=st.ne hR0
   have nLR:L≠R:=Jkb (s5 _ _ hL4) hR
   have u6:=Sn.upd (o:=.lst []) hR
   have d6:=d5.same u6
   have s56:=s5.trans u6
   have hR6:(upd H5 R (.lst [])) R=some (.lst []):=Sv
   generalize upd H5 R (.lst [])=H6 at u6 d6 s56 hR6⊢
   refine ⟨_,rfl,_,rfl,p,L,ts,Bs,rfl,d6.2,nL,s56 _ _ hL4,tl4.same s56,rg,λZ ls H7 b7 nZ ll hZ num=>?_⟩
   have d7:=d6.trans b7
   refine ⟨Z,rfl,⟨_,Sw.of hZ⟩,?_⟩
   have hR7:=b7.1 _ _ nR hR6
   have nZR:ls.length=0\/Z≠R:=by
    cases ls with
    |nil=>exact .inl rfl
    |cons q qs=>exact .inr λz=>by rw [z,hR7] at hZ;cases hZ
   refine Jnj (K:=K) (a:=Z) (xs:=ls.map V.ref) (λj σ H'=>∃(es:List S5) (o6 o7 o8 o9:Option V),σ= [some (.ref x),some (.int (0+(i:Int))),some (.ref p),some (.ref L),some (.ref y),some (.ref R),o6,o7,o8,o9]/\But p H1 H'/\H' L=some (.lst (ts.map V.ref))/\Sca p H' ts Bs/\Sb7 a H' y Cs c 0/\H' Z=some (.lst (ls.map V.ref))/\Sea H' p Z Bs.length ls/\H' R=some (.lst (es.map V.ref))/\es.length<=j/\Shi H' p y Bs Cs es) ⟨[],_,_,_,_,rfl,d7,b7.1 _ _ nL (s56 _ _ hL4),(tl4.same s56).but d6.2 b7,(rv.same u6).but d6.2 b7,hZ,num,hR7,yg _,(λe h=>nomatch h)⟩ (λj σ H' _ ⟨_,_,_,_,_,_,_,_,_,_,hz,_⟩=>Sw.of hz) ?_ ?_
   ·rintro j xN σ H' hx ⟨es,o6,o7,o8,o9,rfl,dd,hL',tl',rv',hZ',num',hR',ej,kt⟩
    rw [ym] at hx
    obtain ⟨N,hNj,rfl⟩:=yy.mp hx
    have mN:=yad hNj
    have jl:j < ls.length:=(yq.mp hNj).1
    obtain ⟨nNp,nNZ,ms,ng,hN⟩:=num' N mN
    have zR:Z≠R:=nZR.resolve_left (by omega)
    refine ⟨_,rfl,_,rfl,L,N,ts,Bs,ms,rfl,hL',tl'.s,rg,hN,ng,λM ds H8 s8 hM0 hM lo=>?_⟩
    have d8:=dd.same s8
    have sH8:=done d8
    refine ⟨_,rfl,_,rfl,_,rfl,_,rfl,y,L,N,M,ts,ds,Bs,Cs,c,0,ms,rfl,sH8 _ _ htb,sH8 _ _ htk,rv'.same s8,rgC,rg,ag,s8 _ _ hL',tl'.s.same s8,s8 _ _ hN,ng,hM,lo,λt f d H9 s9 ht kp=>?_,λt H9 s9 ht=>?_⟩
    ·refine ⟨t,_,rfl,SqT.of ht,rfl,_,_,rfl,_,_,rfl,rfl,?_⟩
     refine ⟨_,rfl,_,rfl,Jlb ?_⟩
     refine ⟨_,rfl,rfl,_,rfl,ifT (by rfl) ?_⟩
     have s89:=s8.trans s9
     have d9:=dd.same s89
     have hR9:=s89 _ _ hR'
     refine ⟨_,rfl,.inl ⟨rfl,_,Sw.of hR9⟩,_,rfl,_,rfl,_,rfl,(show 3<=Sa by decide),λe he=>?_⟩
     have u10:=Sn.upd (o:=.tup [.ref N,.ref M,.ref f]) he
     have sA:=s89.trans u10
     have d10:=dd.same sA
     have hR10:=u10 _ _ hR9
     have ke:Sc6 (upd H9 e (.tup [.ref N,.ref M,.ref f])) p y Bs Cs e:=⟨N,M,f,d,ds,ms,Sv,nNp,sA _ _ hN,ng,u10 _ _ (s9 _ _ hM),(lo.same s9).same u10,kp.same u10⟩
     generalize upd H9 e (.tup [.ref N,.ref M,.ref f])=H10 at u10 sA d10 hR10 ke⊢
     have kt10:Shi H10 p y Bs Cs es:=λq hq=>(kt q hq).same sA
     refine ⟨R,_,_,rfl,rfl,hR10,by rw [yf];exact Jkk (by omega),es++ [e],_,_,_,_,rfl,d10.updD hR0 nR,by rw [Sz nLR];exact sA _ _ hL',Sca.put rg.all hR10 (tl'.same sA),(rv'.same sA).put hR10,by rw [Sz zR];exact sA _ _ hZ',?_,by rw [Sv,yt];rfl,by rw [yai];simp;omega,?_⟩
     ·intro l hl
      obtain ⟨n1,n2,qs,n3,n4⟩:=num' l hl
      refine ⟨n1,n2,qs,n3,?_⟩
      rw [Sz λz=>?_]
      ·exact sA _ _ n4
      ·have q:=sA _ _ n4
       rw [z,hR10] at q
       have e1:=HO.lst.inj (yac.inj q)
       have l1:=n3.1
       cases qs with
       |nil=>simp at l1;omega
       |cons a1 a2=>
        cases es with
        |nil=>cases e1
        |cons b1 b2=>cases e1
     ·intro q hq
      rcases ybf.mp hq with h|h
      ·exact kt10.put d10.2 l16.1 ag.1 hR10 (kt10 q h)
      ·rw [ybd.mp h]
       exact kt10.put d10.2 l16.1 ag.1 hR10 ke
    ·refine ⟨t,_,rfl,SqT.of ht,rfl,_,_,rfl,_,_,rfl,rfl,?_⟩
     refine ⟨_,rfl,_,rfl,Jlb ?_⟩
     refine ⟨_,rfl,rfl,_,rfl,ifF (by rfl) ?_⟩
     have s89:=s8.trans s9
     exact ⟨es,_,_,_,_,rfl,dd.same s89,s89 _ _ hL',tl'.same s89,rv'.same s89,s89 _ _ hZ',num'.but ((But.refl dd.2).same s89),s89 _ _ hR',by omega,λq hq=>(kt q hq).same s89⟩
   ·rintro σ9 H9 ⟨es,o6,o7,o8,o9,rfl,dd,hL',tl',rv',hZ',num',hR',ej,kt⟩
    exact ⟨_,rfl,_,rfl,_,rfl,_,rfl,y,L,R,p,ts,es,Bs,Cs,c,0,rfl,rv',rgC,rg,ag,⟨c0,by omega⟩,dd.2,nL,nR,hL',tl',hR',kt,λH12 b12=>⟨_,rfl,Jlb ⟨⟨_,_,_,_,_,_,_,_,_,rfl⟩,done (dd.trans b12)⟩⟩⟩
  ·rintro σ H' _
   exact k _
end
end K76
namespace PySem.W.Fast
def tw364177281967063662:=()
def tw7067817473307453715:=()
def tw7853465847608031483:=()
def tw9354826546298169935:=()
def tw16572809542230120446:=()
def tw1329680529536574148:=()
def tw11598461169451087580:=()
def tw8806520858567170186:=()
def tw1065718023676012353:=()
def tw2532119737563014764:=()
def tw963677621054795319:=()
def tw12279953149217443106:=()
def tw13453236448394400530:=()
def tw899314514695709867:=()
def tw13180089746299215703:=()
def tw17345129190069915261:=()
def tw4555498330134608359:=()
def tw16805422702159490612:=()
def tw3120678350890687090:=()
def tw18406924695746584067:=()
def tw3695350283901685571:=()
def tw15842187263226662803:=()
def tw12076575304175685841:=()
def tw12582141254342847364:=()
def tw9881841300470522157:=()
def tw9691619601404901357:=()
def tw14282974911378159363:=()
def tw9486965038159957031:=()
def tw13980275761418010297:=()
def tw10328943424507527069:=()
def tw14250977524796323950:=()
def tw6653964924922730810:=()
def tw5042400640192792733:=()
def tw7728599885883157421:=()
def tw9001521409498253600:=()
def tw9533705829697381610:=()
def tw2501154039628777301:=()
def tw5332940909679417681:=()
def tw17755200046351651796:=()
def tw14438583520529548590:=()
def tw10930089808026418294:=()
def tw6159152725217713312:=()
def tw13120414752246155896:=()
def tw6831460352860434575:=()
def tw14079046262079845575:=()
def tw13507270562479580700:=()
def tw7251769042646337843:=()
def tw14537232703474434166:=()
def tw11537133230195550909:=()
def tw4468307330903486425:=()
def tw8273998871129646467:=()
def tw7269526643442533428:=()
def tw16814100983858147372:=()
def tw1266177767327049588:=()
def tw10935458232892989367:=()
def tw4570342188084804853:=()
def tw15998063387157915920:=()
def tw9139014464479233413:=()
def tw3804997628103531278:=()
def tw2594215798177641:=()
def tw13095383343940335049:=()
def tw8353619328262435406:=()
def tw10600081689835418307:=()
def tw13890142292758487264:=()
def tw10277261104057924984:=()
def tw14941222699058631939:=()
def tw5926209384208033500:=()
def tw9813150157409085465:=()
def tw4395175581220731722:=()
def tw11591393999127313821:=()
def tw3651727397494785010:=()
def tw5902458713696818440:=()
def tw15523372587905556162:=()
def tw16149224352181447590:=()
def tw2187708219102056045:=()
def tw4909141941296695326:=()
def tw1563939340040613155:=()
def tw2105965394898892430:=()
def tw12181236716988407545:=()
def tw6921047519525403048:=()
def tw10325220736035544319:=()
def tw12362856734816847343:=()
def tw16601438632555510774:=()
def tw10588293882112031302:=()
def tw5044033850595101619:=()
def tw10502463662145094202:=()
def tw13067377824694676953:=()
def tw3892530963680734746:=()
def tw14360459533438726415:=()
def tw16906063625600930990:=()
def tw6987761308484825856:=()
def tw6877036337178468445:=()
def tw11459378037798015857:=()
def tw3722711579641821000:=()
def tw9419804706337132597:=()
def tw2658246967918962816:=()
def tw3634412507287323194:=()
def tw8608200926148599597:=()
def tw5723421552721545839:=()
def tw12350520495715657688:=()
def tw4497626850280697707:=()
def tw412813944417043754:=()
def tw4254087144532357190:=()
def tw7556734337600471939:=()
def tw7926149221475189816:=()
def tw4472440281804110200:=()
def tw11159685158907223853:=()
def tw1966328751446797100:=()
def tw9308588803205598186:=()
def tw14641877322149732208:=()
def tw4927981909968635342:=()
def tw1249161977556761715:=()
def tw6474319199038348564:=()
def tw17061864316193181995:=()
def tw2266514685974293883:=()
def tw3800095199569617512:=()
def tw2935759212125370991:=()
def tw1709507998984927133:=()
def tw3925465205033390460:=()
def tw1531534835146718228:=()
def tw695051647769262434:=()
def tw7125284820045140765:=()
def tw17149011161307387966:=()
def tw15232038128505429442:=()
def tw2441281735915143691:=()
def tw4453654556661922762:=()
def tw10441860621871229448:=()
def tw8616517613591627708:=()
def tw10295272511653878170:=()
def tw13156897760589736896:=()
def tw3908986735115682144:=()
def tw424795464038626467:=()
def tw15531779672092150019:=()
def tw14768277730852665847:=()
def tw17553136253777470639:=()
def tw5290909072144598485:=()
def tw8314271093850412290:=()
def tw15562840141487023706:=()
def tw9205338169337864098:=()
def tw3299550760479402189:=()
def tw1364379922861251499:=()
def tw1546065094164316761:=()
def tw16402342429702714102:=()
def tw16316740342190605794:=()
def tw16159345076895008361:=()
def tw2231935096595062947:=()
def tw15662515168509889219:=()
def tw15068612444733416463:=()
def tw4978298514896442958:=()
def tw2356046175840072484:=()
def tw1098653912401448660:=()
def tw12857934406983107361:=()
def tw14238151125909838094:=()
def tw1926224067404016282:=()
def tw7426846248956199791:=()
def tw6246803249483510393:=()
def tw14936516287452592510:=()
def tw12487340444648545750:=()
def tw11221689629447005064:=()
def tw418190588045089858:=()
def tw13390401865781062660:=()
def tw16954895341150165467:=()
def tw5880881352472514008:=()
def tw8767562049509257395:=()
def tw1888493454155934233:=()
def tw6186863685828523509:=()
def tw3762670371728979333:=()
def tw6972109897298630265:=()
def tw11978079023482102651:=()
def tw15383340651852038604:=()
def tw16402788175711560814:=()
def tw15348533439784369705:=()
def tw2896205983105698352:=()
def tw16727186988478937812:=()
def tw4232358165672008030:=()
def tw13316565127038969984:=()
def tw17185584683238876330:=()
def tw7586367662658164339:=()
def tw6231158933930620158:=()
def tw9362087943144571793:=()
def tw12142401347167910587:=()
def tw14220747974339457795:=()
def tw14884684957981780015:=()
def tw4729696557300961466:=()
def tw10910045323832535109:=()
def tw13886310752849332202:=()
def tw270835601208146828:=()
def tw7076863234949911197:=()
def tw2646506224002315820:=()
def tw13218273510859790219:=()
def tw16685576480301484714:=()
def tw444283949948922627:=()
def tw18213637356761073227:=()
def tw11679468036491757569:=()
def tw4588206054290244810:=()
def tw11522332509489568943:=()
def tw11182696098430560036:=()
def tw17711233276190192878:=()
def tw2876847752892964638:=()
def tw18219211618692847711:=()
def tw17211754609009632680:=()
def tw11944979165795802186:=()
def tw13541800922821987994:=()
def tw2651478461113219335:=()
def tw2894405432022972203:=()
def tw6521430617119216892:=()
def tw8857471403281963454:=()
def tw17808980776547786517:=()
def tw7988337941154391610:=()
def tw15346424733420810702:=()
def tw9337315172348709561:=()
def tw17605661304247378014:=()
def tw2034085309191690208:=()
def tw17656877614632149614:=()
def tw8283009000467626649:=()
def tw7301547646162509827:=()
def tw7341684267811966639:=()
def tw17262780187931891904:=()
def tw9801062412841421348:=()
def tw7677002855271172613:=()
def tw2697963478505478982:=()
def tw14634116204615046449:=()
def tw11727817564604800850:=()
def tw10673489908466025531:=()
def tw8571381141373405469:=()
def tw1023222105644284267:=()
def tw1922175995236229973:=()
def tw2540680829305434637:=()
def tw11215996002905230487:=()
def tw5146716284756121401:=()
def tw9108120675443570941:=()
def tw14860837484755711265:=()
def tw12990708744060212738:=()
def tw16201576504887602764:=()
def tw15579602904678636048:=()
def tw9608220862424737670:=()
def tw17943590591636876909:=()
def tw7793710386973054194:=()
def tw14368763847495739997:=()
def tw5566896372640353263:=()
def tw860048206982981283:=()
def tw6398569059512499171:=()
def tw2221089625558360681:=()
def tw3647518908655382829:=()
def tw956673487049908562:=()
def tw13119554165866444571:=()
def tw17028067867223229023:=()
def tw4070440411106245927:=()
def tw12756858139199901111:=()
def tw9147378344737973523:=()
def tw1717301026457375197:=()
def tw10892616452311477633:=()
def tw1607552252335857840:=()
def tw9505176733031339133:=()
def tw11266956000124237507:=()
def tw13525611066559075847:=()
def tw10510535722609156884:=()
def tw14733473339122410043:=()
def tw6537777624517185658:=()
def tw12230571976409893961:=()
def tw10663395682189449046:=()
def tw11539765735399486755:=()
def tw7425697950193683939:=()
def tw13062821001702185796:=()
def tw128439062534924549:=()
def tw1816809375563007461:=()
def tw16293622663826524710:=()
def tw1010406321205087878:=()
def tw9429187501508132487:=()
def tw17433491251124211591:=()
def tw9163508961859006408:=()
def tw5777868473779306472:=()
def tw2720123355184449097:=()
def tw7357469747955419532:=()
def tw11078153749748326030:=()
def tw13077254366364771823:=()
def tw10323901509703308432:=()
def tw16783627952767063763:=()
def tw3087338144762606452:=()
def tw9723876984603022710:=()
def tw639913509460713946:=()
def tw3241366002059695196:=()
def tw5659734772052821468:=()
def tw8624482493766571516:=()
def tw9595450418694374140:=()
def tw8520402104876730013:=()
def tw15570477731759124126:=()
def tw11789218167070985508:=()
def tw2708613962760250752:=()
def tw13930600690414742657:=()
def tw12758912109236751841:=()
def tw18127019116209217058:=()
def tw15236283706784331714:=()
def tw3242362314172134051:=()
def tw16974832887841614468:=()
def tw17328709632677734856:=()
def tw8419549422279765736:=()
def tw1247890868810986506:=()
def tw15298188743604780428:=()
def tw515796105892439532:=()
def tw2979922347297561613:=()
def tw9024233375180350702:=()
def tw1010985484987419248:=()
def tw283972728096732561:=()
def tw4337737103685434386:=()
def tw6446051048010468818:=()
def tw16062261267525865972:=()
def tw10086974445183521300:=()
def tw14451636471202001013:=()
def tw15774753724730311931:=()
def tw14134926347971679964:=()
def tw11500233393932001053:=()
def tw17171794469347973758:=()
def tw686497797583302214:=()
def tw13657356325979198539:=()
def tw9061691460324999758:=()
def tw9014009281324098835:=()
def tw14543239700041090675:=()
def tw11237662045077326905:=()
def tw6153725889850346265:=()
def tw9878061234051035071:=()
def tw12709709539050169361:=()
def tw6417788445860130033:=()
def tw17304131888839956275:=()
def tw16630069462313952312:=()
def tw4373727963694087130:=()
def tw7133165130778008098:=()
def tw13162492439685405577:=()
def tw5565112177764421506:=()
def tw3850670763666809440:=()
def tw16513754270998356483:=()
def tw11398351354213774148:=()
def tw6375714733207524997:=()
def tw1605226857320809735:=()
def tw16730123630863948460:=()
def tw11986297356264857838:=()
def tw10988581905311735024:=()
def tw12937903092957415152:=()
def tw3936556374105769747:=()
def tw5101864468797377557:=()
def tw11632105647565851861:=()
def tw12119160596713534710:=()
def tw2112916897861003223:=()
def tw1122520439223957147:=()
def tw10195047703342232541:=()
def tw1115605699719418591:=()
def tw17284514489462540063:=()
def tw1731150781746216608:=()
def tw11409248200478444674:=()
def tw2330571348675422724:=()
def tw2836002533951612261:=()
def tw16511457226252026952:=()
def tw6774169682277732685:=()
def tw6499840950199837718:=()
def tw8351314275028121623:=()
def tw11189654155731044282:=()
def tw2809832158267635803:=()
def tw14766143707449624830:=()
def tw8058528510199465311:=()
def tw17783681234828832396:=()
def tw16851315087839120583:=()
def tw5765912770461896782:=()
def tw284614202838647249:=()
def tw17087765467374741237:=()
def tw10557841474016393985:=()
def tw15293537947857993347:=()
def tw11946578685128083056:=()
def tw17376138039696593616:=()
def tw9639933920642671283:=()
def tw10505552798399272660:=()
def tw2013193621858469813:=()
def tw7282480456505172662:=()
def tw334469539268961944:=()
def tw10894399382700098302:=()
def tw13841634255727809976:=()
def tw12169287587984627580:=()
def tw10874945769315307008:=()
def tw4551049087111234403:=()
def tw13292175927276484133:=()
def tw9641272888364787301:=()
def tw14532292071266595078:=()
def tw1253118694693157799:=()
def tw8816127621309886056:=()
def tw12070161647265437257:=()
def tw17017961721807946796:=()
def tw18065622850105074668:=()
def tw13411671959556421997:=()
def tw8143844259037754318:=()
def tw1020279049633124369:=()
def tw16062204099036537489:=()
def tw18149642083761414961:=()
def tw11227357916589819284:=()
def tw1004751882655454132:=()
def tw17374737152238321781:=()
def tw15095121875644868917:=()
def tw15977848190118229208:=()
def tw6022872300770731739:=()
def tw16551590669880919294:=()
def tw10349361329199202501:=()
def tw16811969326394194976:=()
def tw6192476535737651522:=()
def tw15569130199171104299:=()
def tw2785091267929590475:=()
def tw15240935693711344684:=()
def tw14697051601942936557:=()
def tw12956774230950278607:=()
def tw17592423611535097304:=()
def tw14501662451564014586:=()
def tw9377774862575576251:=()
def tw7228988359640871869:=()
def tw10210469991053142609:=()
def tw1519318248692339168:=()
def tw3944005866773410874:=()
def tw14633432694198537443:=()
def tw10258293881938211459:=()
def tw9799648943895260677:=()
def tw3447665487212130150:=()
def tw10542238426807006239:=()
def tw17988256703040649407:=()
def tw9505229769857997195:=()
def tw437114165204100167:=()
def tw17374681436523076916:=()
def tw14975664273508355381:=()
def tw11303077150842789367:=()
def tw6891794236551530622:=()
def tw3229842578191530187:=()
def tw890162110737947179:=()
def tw16398406167245029644:=()
def tw12081736470383210818:=()
def tw9272493859583941222:=()
def tw2407693073888544758:=()
def tw15356574812826320186:=()
def tw9401084236158167366:=()
def tw8494113727678890560:=()
def tw5632189465138188449:=()
def tw2938030740330303013:=()
def tw5346459883105159207:=()
def tw6025437787528083783:=()
def tw15089559122116194404:=()
def tw3814943152173842594:=()
def tw5312004996954336642:=()
def tw13664643251452051043:=()
def tw4518611204873016583:=()
def tw2356447554108780423:=()
def tw310666904532539821:=()
def tw8017191389312370830:=()
def tw14938012869470016750:=()
def tw12202526232332537102:=()
def tw14222986371755087055:=()
def tw5073636289813064789:=()
def tw4585053096304872949:=()
def tw14238600101226568693:=()
def tw10016505201228802166:=()
def tw4923261898656988662:=()
def tw2240653428999426360:=()
def tw693823956946903257:=()
def tw15792140188221648987:=()
def tw12761144972080802085:=()
def tw16307059076908003242:=()
def tw2274793675360214065:=()
def tw14487874011872229458:=()
def tw11163436282236581650:=()
def tw12515500161997044500:=()
def tw4354442963688319796:=()
def tw17303589237287102741:=()
def tw2952688690015324534:=()
def tw9817631910771833047:=()
def tw956816014388454752:=()
def tw9331783348271446126:=()
def tw7596209383033241089:=()
def tw6473386077025387106:=()
def tw15929734455291746082:=()
def tw14830711462193498243:=()
def tw15726710982027404041:=()
def tw8878582088519488078:=()
def tw12694496460887176239:=()
def tw345454323758831602:=()
def tw6635666722936969268:=()
def tw9488280294087986559:=()
def tw13497252619406584866:=()
def tw5456599845875519909:=()
end PySem.W.Fast
open PySem PySem.W PyProof.Rows
set_option maxRecDepth 100000 in
set_option maxHeartbeats 0 in
theorem PySem.Challenge.cw_weirwatch_k76_local_keepers_asked_holds : PySem.Challenge.rw_weirwatch_k76_local_keepers_asked.Holds := by
 w_on;o_law;k_head;(case hw=>w_witness2)
 k_fill
 refine L2.walk_ofT (l:=PySem.Challenge.rw_weirwatch_k76_local_keepers_asked) (n:=63) (k:=12) (x:="_law_script") (CX:=L2.CX0) rfl (by decide) rfl ⟨rfl,by decide,by decide⟩ (λw h Y=>PySem.W.km_in_of Y) ?K ?F ?C
 case K=>intro w;kernel_rfl
 case F=>
  intro w mg fa h KX G TB hmg
  have T:∃a:K76.Ad,(∀(s:S7) (v:S6),BindsTo s a.d_law ⟨[v],[]⟩ [("_law_script",v)])/\K76.Tx (L2.KOf KX) mg a:=by
   have hh:=λaa ab ac ad ae af ag ah ai aj ak al am an ao ap aq ar au av aw ax ay az ba bb bc bd be bf bg bh bi bj bk bl bm bn bo bp bq br bs bt bu bv bw bx bz ca cb cc cd ce cf cg ch ci cj ck cl cm cn co cp cq cr cs ct cu cv cw cx cy cz da db dc dd de df dg dh di dj dk dl dm dn dp dq dr ds dt du dv dw dx dy dz ea eb ec ed ee ef eg eh ei ej ek el em en eo ep eq er es et eu ev ew ex ey ez fb fc fd fe ff fg fh fi fj fk fl fm fn fo fp fq fr fs ft fu fv fw fx fy fz ga gb gc gd ge gf gg gh gi gj gk gl gm gn go gp gq gr gs gt gu gv gw gx gy gz ha hb=>@K76.Tx.mk (L2.KOf KX) mg ⟨aa,ab,ac,ad,ae,af,ag,ah,ai,aj,ak,al,am,an,ao,ap,aq,ar,au,av,aw,ax,ay,az,ba,bb,bc,bd,be,bf,bg,bh,bi,bj,bk,bl,bm,bn,bo,bp,bq,br,bs,bt,bu,bv,bw,bx,bz,ca,cb,cc,cd,ce,cf,cg,ch,ci,cj,ck,cl,cm,cn,co,cp,cq,cr,cs,ct,cu,cv,cw,cx,cy,cz,da,db,dc,dd,de,df,dg,dh,di,dj,dk,dl,dm,dn,dp,dq,dr,ds,dt,du,dv,dw,dx,dy,dz,ea,eb,ec,ed,ee,ef,eg,eh,ei,ej,ek,el,em,en,eo,ep,eq,er,es,et,eu,ev,ew,ex,ey,ez,fb,fc,fd,fe,ff,fg,fh,fi,fj,fk,fl,fm,fn,fo,fp,fq,fr,fs,ft,fu,fv,fw,fx,fy,fz,ga,gb,gc,gd,ge,gf,gg,gh,gi,gj,gk,gl,gm,gn,go,gp,gq,gr,gs,gt,gu,gv,gw,gx,gy,gz,ha,hb⟩
   dsimp only [L2.KOf,L2.NoAttr] at hh⊢
   apply Exists.intro
   refine' ⟨?bb,?tx⟩
   case tx=>
    apply hh
    iterate 49 (refine' L2.ft_mk KX G ?a ?b ?c ?d ?e;(case a=>k_is);(case b=>k_is);(case c=>k_is);(case d=>k_is);(case e=>first|(intro _ _ _ _ _ _ u h;obtain ⟨_,rfl⟩:=L2.lv1 u h;rfl)|(intro _ _ _ _ _ _ u h;obtain ⟨_,_,rfl⟩:=L2.lv2 u h;rfl)|(intro _ _ _ _ _ _ u h;obtain ⟨_,_,_,rfl⟩:=L2.lv3 u h;rfl)|(intro _ _ _ _ _ _ u h;obtain ⟨_,_,_,_,rfl⟩:=L2.lv4 u h;rfl)|(intro _ _ _ _ _ _ u h;obtain ⟨_,_,_,_,_,rfl⟩:=L2.lv5 u h;rfl)|(intro _ _ _ _ _ _ u h;obtain ⟨_,_,_,_,_,_,rfl⟩:=L2.lv6 u h;rfl)|(intro _ _ _ _ _ _ u h;obtain ⟨_,_,_,_,_,_,_,rfl⟩:=L2.lv7 u h;rfl)))
    iterate 11 (refine' PySem.W.mg_of KX G ?a;(case a=>k_is))
    iterate 17 (refine' PySem.W.mg_none_of KX G ?a;(case a=>k_is))
    iterate 18 (refine' PySem.W.mg_of KX G ?a;(case a=>k_is))
    iterate 24 (k_is)
    iterate 24 (refine' L2.fm_mk ?a ?b ?c ?d;(case a=>k_is);(case b=>k_is);(case c=>k_is);(case d=>first|(intro _ _ _ _ _ _ u h;obtain ⟨_,rfl⟩:=L2.lv1 u h;rfl)|(intro _ _ _ _ _ _ u h;obtain ⟨_,_,rfl⟩:=L2.lv2 u h;rfl)|(intro _ _ _ _ _ _ u h;obtain ⟨_,_,_,rfl⟩:=L2.lv3 u h;rfl)|(intro _ _ _ _ _ _ u h;obtain ⟨_,_,_,_,rfl⟩:=L2.lv4 u h;rfl)|(intro _ _ _ _ _ _ u h;obtain ⟨_,_,_,_,_,rfl⟩:=L2.lv5 u h;rfl)|(intro _ _ _ _ _ _ u h;obtain ⟨_,_,_,_,_,_,rfl⟩:=L2.lv6 u h;rfl)|(intro _ _ _ _ _ _ u h;obtain ⟨_,_,_,_,_,_,_,rfl⟩:=L2.lv7 u h;rfl)))
    iterate 8 (refine' L2.xc_mk ?a ?b ?c;(case a=>k_is);(case b=>kernel_rfl);(case c=>kernel_rfl))
    refine' L2.ec_mk ?a ?b;(case a=>k_is);(case b=>k_is)
    iterate 32 (constructor <;> k_is)
    iterate 21 (k_is)
    refine' L2.nst_mk ?a ?b ?c ?d ?e;(case a=>k_is);(case b=>rfl);(case c=>k_is);(case d=>rfl);(case e=>rfl)
    kernel_rfl
    refine' L2.nst_mk ?a ?b ?c ?d ?e;(case a=>k_is);(case b=>rfl);(case c=>k_is);(case d=>rfl);(case e=>rfl)
    kernel_rfl
    decide
    iterate 20 (kernel_rfl)
   case bb=>exact λs v=>.of_eq rfl
  obtain ⟨a,b,T⟩:=T
  have e:=hmg.symm.trans T.f_law.mgx
  cases e
  exact ⟨a.d_law,K76.spLaw (L2.KOf KX) a,[(a.Jk0,K76.lb_lost_alone),(a.Jk2,K76.lb_local_keeper)],b,List.forall_mem_cons.mpr ⟨L2.tab_kn (y:="lost_alone") TB rfl T.Jej,List.forall_mem_cons.mpr ⟨L2.tab_kn (y:="local_keeper") TB rfl T.Jel,λ_ z=>nomatch z⟩⟩,T.tnd,λbase kb nb B=>K76.ok_law T B,λH x ns hl ht hS=>⟨x,ns,rfl,hS,hl,ht _ (.head _),ht _ (.tail _ (.head _)),λ_=>rfl⟩⟩
 case C=>exact λ_ _ _ _ z=>z
#print axioms PySem.Challenge.cw_weirwatch_k76_local_keepers_asked_holds
