import PyProof.Rows.All
import Wide.All
import OpenK.AllK
import Wide.FinOn
import Lean
import PyProof.EqAt
import PyProof.EqKinds
import PyProof.TupleCall
import PySem.Challenge.RW_weirwatch_k14_whole_runs
open PySem renaming Addr → S1, Value → S2, Shared → S3, wpAny_bind → S4, wpAny_pure → S5, sizeLine → S6, Program → S7, FuncData → S8, World → S9, Around → Sa, Heap → Sb, wpAny → Sc
open PySem.W renaming Frag → Se, kitOne → Sf, findIn → Sg, mroIn → Sh, instObj → Si
open Or renaming inl → ye
open List renaming length_map → yf, getElem?_map → yg, getElem?_eq_getElem → yh, getElem?_eq_some_iff → yj, mem_cons → ym, size_toArray → yn, mem_of_getElem? → yp, mem_cons_of_mem → yr, length_take → yy, range → yz, replicate → yaa, map_append → yab, take_of_length_le → yac, not_mem_nil → yad, length_append → yae, mem_map → yaf, take_add_one → yag, mem_cons_self → yak, length_cons → yal, map → yam, lookup_cons → yas, getD_eq_getElem?_getD → yat, mem_map_of_mem → yau, map_map → yav, all_eq_true → yaw, getElem_mem → yax, sum_cons → yay, mem_range → yaz, mem_append_right → ybb, getElem?_of_mem → ybc, append_nil → ybe, mem_append → ybh, lookup → ybi, map_cons → ybj, length_replicate → ybo, nodup_cons → ybq, getElem?_replicate → ybu, getElem?_append → yca, getElem?_append_right → ycb, getElem?_append_left → ycc, getElem?_zip_eq_some → ycd, length_eq_zero_iff → yce, getElem?_eq_none → ycf
open PySem.Heap renaming lt_size → yi, get?_push_of_some → yl, get?_push_size → yq, size_push → yao, SameBut → yba, get?_update_other → ybk, get?_update_self → ybv
open Nat renaming le_refl → yk, ne_of_lt → yo, lt_of_lt_of_le → yah, zero_le → yai, le_trans → yan, lt_irrefl → yar, ne_of_gt → ybd, le_of_lt → ybg, lt_succ_self → ybp, lt_succ_of_lt → ybx, not_lt_zero → yby
open Ne renaming symm → yt
open Option renaming some → yv, map_eq_some_iff → yw, isSome_iff_exists → ybt
open Bool renaming and_eq_true → yx, false_ne_true → yaj, false_and → ybf, true_and → ybn
open And renaming left → yap, right → yaq
open Int renaming toNat_natCast → ybl, eq_ofNat_of_zero_le → ybm, emod_nonneg → ybr, emod_lt_of_pos → ybs
open Array renaming getElem?_eq_some_iff → ybw
open Function renaming comp_def → ybz
set_option Elab.async false
set_option linter.all false
set_option maxRecDepth 100000
namespace L2
open PySem PySem.Spec PyProof.Rows
abbrev Key:=Sum Int Str
def Yal:Key->S2->Bool
 | .inl k,v=>Value.isInt k v
 | .inr x,v=>Value.isStrOf x v
def Svd (w:S9):Key->Int
 | .inl k=>hashInt k
 | .inr x=>hashStr w x
theorem Jod:∀{k} {v},Yal k v=true->(∃i t,k=Sum.inl i/\v=Value.int i t)\/(∃x t,k=Sum.inr x/\v=Value.str x t)
 | .inl i,v,h=>by
  obtain ⟨t,e⟩:=Value.isInt_shape h
  exact .inl ⟨i,t,rfl,e⟩
 | .inr x,v,h=>by
  obtain ⟨t,e⟩:=Value.isStrOf_shape h
  exact .inr ⟨x,t,rfl,e⟩
theorem Ybj (x) (t):Yal (.inr x) (.str x t)=true:=by simp [Yal,Value.isStrOf]
theorem Sn6 (a b):decide ((Sum.inl a:Key)=Sum.inl b)=(a==b):=by grind
theorem Sn9 (a b):decide ((Sum.inr a:Key)=Sum.inr b)=decide (a=b):=by simp
theorem Sn7 (a) (b):decide ((Sum.inl a:Key)=Sum.inr b)=false:=rfl
theorem Sn8 (a) (b):decide ((Sum.inr a:Key)=Sum.inl b)=false:=rfl
def Joy (prog:S7) (w:S9):PySem.KeyKind prog w Key where
 is:=Yal
 hash:=Svd w
 inj:=λv a b ha hb=>by
  rcases Jod ha with ⟨i,t,rfl,rfl⟩|⟨x,t,rfl,rfl⟩
  ·rcases Jod hb with ⟨j,u,rfl,e⟩|⟨y,u,rfl,e⟩
   ·injection e with e1 _;rw [e1]
   ·exact nomatch e
  ·rcases Jod hb with ⟨j,u,rfl,e⟩|⟨y,u,rfl,e⟩
   ·exact nomatch e
   ·injection e with e1 _;rw [e1]
 byValue:=λk v h=>by
  rcases Jod h with ⟨i,t,rfl,rfl⟩|⟨x,t,rfl,rfl⟩ <;> rfl
 pyHash:=λhv h=>by
  rcases Jod hv with ⟨i,t,rfl,rfl⟩|⟨x,t,rfl,rfl⟩
  ·exact wpAny_pyHash_int h
  ·exact wpAny_pyHash_str h
 eqBool:=λhu hv h=>by
  rcases Jod hu with ⟨i,t,rfl,rfl⟩|⟨x,t,rfl,rfl⟩
  ·rcases Jod hv with ⟨j,u,rfl,rfl⟩|⟨y,u,rfl,rfl⟩
   ·rw [Sn6] at h;exact wpAny_eqBool_int h
   ·rw [Sn7] at h;exact SeqAt.EqAt.int_str i t y u _ _ _ _ h
  ·rcases Jod hv with ⟨j,u,rfl,rfl⟩|⟨y,u,rfl,rfl⟩
   ·rw [Sn8] at h;exact SeqAt.EqAt.str_int x t j u _ _ _ _ h
   ·rw [Sn9] at h;exact wpAny_eqBool_str h
 «strs»:=λk x t v h=>by
  rcases Jod h with ⟨i,u,rfl,e⟩|⟨y,u,rfl,e⟩
  ·exact nomatch e
  ·injection e with e1 _
   subst e1
   cases v <;> rfl
theorem Juu (prog) (w) (x) (t):(Joy prog w).is (.inr x) (.str x t)=true:=Ybj x t
inductive V where
 |non|bl (b:Bool)|int (i:Int)|str (x:Str)|byt (b:Array UInt8)|flt (b:UInt64)|ref (a:S1)|ty (n:String)
 deriving DecidableEq
def Sa5:V->S2->Prop
 | .non,u=>u=Value.none
 | .bl b,u=>u=Value.bool b
 | .int i,u=>∃t,u=Value.int i t
 | .str x,u=>∃t,u=Value.str x t
 | .byt b,u=>∃t,u=Value.bytes b t
 | .flt b,u=>∃t,u=Value.float b t
 | .ref a,u=>u=Value.ref a
 | .ty n,u=>u=Value.type n
abbrev Sa0:List V->List S2->Prop:=Paired Sa5
theorem Sa0.length (r:Sa0 xs us):xs.length=us.length:=Paired.length r
theorem Sa0.get:∀{xs} {us} {i:Nat} {x},Sa0 xs us->xs[i]?=some x->∃u,us[i]?=some u/\Sa5 x u
 |_,_,_,_,.nil,e=>by simp at e
 |_,_,0,_,.cons r _,e=>by simp at e;subst e;exact ⟨_,rfl,r⟩
 |_,_,i+1,x,.cons _ t,e=>by
  obtain ⟨u,h1,h2⟩:=Sa0.get t (by simpa using e)
  exact ⟨u,by simpa using h1,h2⟩
theorem Sa0.set {x:V} {u:S2} (r:Sa5 x u):∀{xs:List V} {us:List S2} (i:Nat),Sa0 xs us->Sa0 (xs.set i x) (us.set i u)
 |_,_,_,.nil=>.nil
 |_,_,0,.cons _ t=>.cons r t
 |_,_,i+1,.cons q t=>.cons q (Sa0.set r i t)
theorem Sa0.append:∀{xs ys:List V} {us ws:List S2},Sa0 xs us->Sa0 ys ws->Sa0 (xs++ys) (us++ws)
 |_,_,_,_,.nil,s=>s
 |_,_,_,_,.cons r t,s=>.cons r (Sa0.append t s)
theorem Sa0.take:∀{xs:List V} {us:List S2} (n:Nat),Sa0 xs us->Sa0 (xs.take n) (us.take n)
 |_,_,0,_=>.nil
 |_,_,_+1,.nil=>.nil
 |_,_,n+1,.cons r t=>.cons r (Sa0.take n t)
theorem Sa0.drop:∀{xs:List V} {us:List S2} (n:Nat),Sa0 xs us->Sa0 (xs.drop n) (us.drop n)
 |_,_,0,r=>r
 |_,_,_+1,.nil=>.nil
 |_,_,n+1,.cons _ t=>Sa0.drop n t
def Sdp:Option V->Option S2->Prop
 |some v,some u=>Sa5 v u
 |none,none=>True
 |_,_=>False
def KV {κ:Type}:List (κ×V)->List (κ×S2)->Prop:=Paired λ(p:κ×V) (q:κ×S2)=>p.1=q.1/\Sa5 p.2 q.2
def kV:Key->V
 | .inl i=>.int i
 | .inr x=>.str x
inductive HO where
 |lst (xs:List V)
 |tup (xs:List V)
 |dK (kvs:List (Key×V))|dT (kvs:List (List Key×V))
 |set (S:Int->Bool) (n:Nat)
 |ins (C dx:S1) (fs:List (Str×V))
 |own (x:S1)
 |xd (fs:List (Str×V))
 |cod (q:Str)
 |rng (lo hi:Int)
 |frz (o:Obj) (u:HO)
 |tbl (ps:Array (Nat×Nat×Str))
 |ext (φ:Sb->Prop)
abbrev Hp:=S1->Option HO
def upd (H:Hp) (a:S1) (o:HO):Hp:=λb=>if b=a then some o else H b
theorem Sr:upd H a o a=some o:=by unfold upd;rw [if_pos rfl]
theorem Sz (h:b≠a):upd H a o b=H b:=by unfold upd;rw [if_neg h]
theorem Jp1:upd (upd H a o) a u=upd H a u:=by
 funext b;unfold upd;split <;> rfl
theorem Sqz {H:Hp} {a b} {o u} (h:H a=some o) (h':H b=some u) (d:o≠u):a≠b:=by grind
theorem Jmw {H:Hp} {a b} {o} (h:H a=some o) (h':H b=none):a≠b:=by grind
def Sj8 (o:Obj):HO:=.frz o (.ext λ_=>True)
def Scy (H:Hp) (lb:Array (Nat×Nat×Str)):List S2->Prop
 | []=>True
 | .int l _:: .int c _::v::r=>(∃(n m:Nat) (q:Str) (a:S1),(n,m,q)∈lb/\l=n/\c=m/\v= .ref a/\H a=some (.cod q))/\Scy H lb r
 |_=>False
theorem Scy.mono (k:∀b q,H b=some (.cod q)->H' b=some (.cod q)) (x:Scy H lb l):Scy H' lb l:=by
 fun_induction Scy H lb l with
 |case1=>exact True.intro
 |case2 l _ c _ v r ih=>
  obtain ⟨⟨n,m,q,a,h1,h2,h3,h4,h5⟩,h6⟩:=x
  exact ⟨⟨n,m,q,a,h1,h2,h3,h4,k _ _ h5⟩,ih h6⟩
 |case3=>exact x.elim
section
variable (P:S7) (w:S9)
def Sb6 (H:Hp) (h:Sb) (a:S1):HO->Prop
 | .lst xs=>xs.length<=S6/\∃(its:List S2) (n:Nat),Sa0 xs its/\h.get? a=some {cls:=.type "list",data:=.seq its.toArray n}
 | .tup xs=>xs.length<=S6/\∃its:List S2,Sa0 xs its/\IsTup h a its.toArray
 | .dK kvs=>kvs.length<=S6/\(a==sysModules)=false/\∃vs,KV kvs vs/\h.DictOf (Joy P w) a vs
 | .dT kvs=>kvs.length<=S6/\(a==sysModules)=false/\∃xs:List (List Key×S1×S2),
   Paired (λ(p:List Key×V) (q:List Key×S1×S2)=>p.1=q.1/\H q.2.1=some (.tup (p.1.map kV))/\Sa5 p.2 q.2.2) kvs xs/\
   ∃o es ep,h.get? a=some o/\o.ExactDict/\o.data= .dict es ep/\es.toList=xs.map (entryOfKey (tupleKind (Joy P w)))/\(xs.map (·.1)).Nodup
 | .set S n=>h.SetOf (intKind P w) a S n
 | .ins C dx fs=>H dx=some (.own a)/\fs.length<=1000/\dx≠a/\h.get? a=some (Si C dx)/\
   ∃mA,h.Ns1 dx mA/\(∀f,Sdp (fs.lookup f) (mA f))/\PySem.Within mA (fs.map (·.1))
 | .own _=>∃o,h.get? a=some o
 | .xd fs=>∃mA,h.Ns1 a mA/\∀f,Sdp (fs.lookup f) (mA f)
 | .rng lo hi=>∃t u v,h.get? a=some {cls:=.type "range",data:=.fields #[.int lo t,.int hi u,.int 1 v]}
 | .frz o u=>h.get? a=some o/\Sb6 H h a u
 | .tbl lb=>∃ts:Array S2,h.get? a=some ⟨.none,none,.fields ts,#[]⟩/\Scy H lb ts.toList
 | .cod q=>h.CodeRec (.ref a) q
 | .ext φ=>φ h/\(∃o,h.get? a=some o)/\∀h1 h2:Sb,φ h1->(∀o,h1.get? a=some o->h2.get? a=some o)->φ h2
def HOk (H:Hp) (h:Sb):Prop:=∀a o,H a=some o->Sb6 P w H h a o
end
section
variable {P:S7} {w:S9} {H H':Hp} {h h':Sb} {a:S1} {o:HO}
theorem Sb6.lt (x:Sb6 P w H h a o):a < h.objs.size:=by
 cases o with
 |lst xs=>obtain ⟨_,_,_,_,e⟩:=x;exact yi e
 |tup xs=>obtain ⟨_,_,_,p⟩:=x;exact p.lt
 |dK kvs=>obtain ⟨_,_,_,_,o,_,_,e,_⟩:=x;exact yi e
 |dT kvs=>obtain ⟨_,_,_,_,o,_,_,e,_⟩:=x;exact yi e
 |set S n=>obtain ⟨o,_,_,_,e,_⟩:=x;exact yi e
 |ins C dx fs=>obtain ⟨_,_,_,e,_⟩:=x;exact yi e
 |own y=>obtain ⟨_,e⟩:=x;exact yi e
 |xd fs=>obtain ⟨_,⟨_,_,_,e,_⟩,_⟩:=x;exact yi e
 |rng lo hi=>obtain ⟨_,_,_,e⟩:=x;exact yi e
 |frz ob u=>obtain ⟨e,_⟩:=x;exact yi e
 |tbl lb=>obtain ⟨_,e,_⟩:=x;exact yi e
 |cod q=>obtain ⟨_,_,_,_,e1,e2,_⟩:=x;cases e1;exact yi e2
 |ext φ=>obtain ⟨_,⟨_,e⟩,_⟩:=x;exact yi e
theorem Paired.mapP {α β:Type} {F G:α->β->Prop}:∀{l₁:List α} {l₂:List β},Paired F l₁ l₂->(∀a b,F a b->G a b)->Paired G l₁ l₂
 |_,_,.nil,_=>.nil
 |_,_,.cons r t,f=>.cons (f _ _ r) (Paired.mapP t f)
theorem Sb6.stay (x:Sb6 P w H h a o) (k:∀b u,(b=a\/H b=some (.own a))->h.get? b=some u->h'.get? b=some u)
  (ho:∀b,H b=some (.own a)->H' b=some (.own a)) (ht:∀b xs,H b=some (.tup xs)->H' b=some (.tup xs)) (hc:∀b q,H b=some (.cod q)->H' b=some (.cod q)):Sb6 P w H' h' a o:=by
 induction o with
 |lst xs=>obtain ⟨z,its,n,r,e⟩:=x;exact ⟨z,its,n,r,k _ _ (.inl rfl) e⟩
 |tup xs=>obtain ⟨z,its,r,ob,e,c⟩:=x;exact ⟨z,its,r,ob,k _ _ (.inl rfl) e,c⟩
 |dK kvs=>obtain ⟨z,y,vs,r,ob,es,ep,e,c⟩:=x;exact ⟨z,y,vs,r,ob,es,ep,k _ _ (.inl rfl) e,c⟩
 |dT kvs=>
  obtain ⟨z,y,xs,r,ob,es,ep,e,c⟩:=x
  exact ⟨z,y,xs,Paired.mapP r λp q z=>⟨z.1,ht _ _ z.2.1,z.2.2⟩,ob,es,ep,k _ _ (.inl rfl) e,c⟩
 |set S n=>obtain ⟨ob,es,ep,t,e,c⟩:=x;exact ⟨ob,es,ep,t,k _ _ (.inl rfl) e,c⟩
 |ins C dx fs=>
  obtain ⟨d,z,ne,e,mA,⟨od,es,ep,e2,c⟩,r⟩:=x
  exact ⟨ho _ d,z,ne,k _ _ (.inl rfl) e,mA,⟨od,es,ep,k _ _ (.inr d) e2,c⟩,r⟩
 |own y=>obtain ⟨ob,e⟩:=x;exact ⟨ob,k _ _ (.inl rfl) e⟩
 |xd fs=>obtain ⟨mA,⟨od,es,ep,e,c⟩,r⟩:=x;exact ⟨mA,⟨od,es,ep,k _ _ (.inl rfl) e,c⟩,r⟩
 |rng lo hi=>obtain ⟨t,u,v,e⟩:=x;exact ⟨t,u,v,k _ _ (.inl rfl) e⟩
 |frz ob u ih=>obtain ⟨e,q⟩:=x;exact ⟨k _ _ (.inl rfl) e,ih q⟩
 |tbl lb=>obtain ⟨ts,e,r⟩:=x;exact ⟨ts,k _ _ (.inl rfl) e,r.mono hc⟩
 |cod q=>obtain ⟨c,o,vs,t,e1,e2,e3,e4⟩:=x;cases e1;exact ⟨_,o,vs,t,rfl,k _ _ (.inl rfl) e2,e3,e4⟩
 |ext φ=>obtain ⟨p,⟨o,e⟩,st⟩:=x;exact ⟨st _ _ p λo q=>k _ _ (.inl rfl) q,⟨o,k _ _ (.inl rfl) e⟩,st⟩
theorem HOk.lt (x:HOk P w H h) (e:H a=some o):a < h.objs.size:=(x a o e).lt
theorem HOk.fresh (x:HOk P w H h) (e:h.objs.size<=a):H a=none:=by
 cases q:H a with
 |none=>rfl
 |some u=>exact absurd (yah (x.lt q) e) (yar _)
theorem HOk.kept (x:HOk P w H h) (k:∀b u,h.get? b=some u->h'.get? b=some u):HOk P w H h':=λa o e=>
 (x a o e).stay (λb u _ q=>k b u q) (λ_ q=>q) (λ_ _ q=>q) λ_ _ q=>q
theorem HOk.laid (x:HOk P w H h) (k:∀b u,h.get? b=some u->h'.get? b=some u) (hp:h.objs.size<=a) (new:Sb6 P w (upd H a o) h' a o):HOk P w (upd H a o) h':=λb u e=>by
 have hn:=x.fresh hp
 by_cases hb:b=a
 ·subst hb;rw [Sr] at e;cases e;exact new
 ·rw [Sz hb] at e
  exact (x b u e).stay (λc v _ q=>k c v q) (λc q=>by rw [Sz (Jmw q hn)];exact q) (λc xs q=>by rw [Sz (Jmw q hn)];exact q) λc xs q=>by rw [Sz (Jmw q hn)];exact q
end
def Rd (H:Hp) (a:S1) (u:HO):Prop:=H a=some u\/∃o,H a=some (.frz o u)
theorem Rd.ok (r:Rd H a u) (x:HOk P w H h):Sb6 P w H h a u:=by
 rcases r with r|⟨o,r⟩
 ·exact x a u r
 ·obtain ⟨_,q⟩:=x a _ r
  exact q
def Mut:Option HO->Prop
 |some (.lst _)=>True
 |some (.dK _)=>True
 |some (.dT _)=>True
 |some (.set _ _)=>True
 |some (.ins _ _ _)=>True
 |some (.ext _)=>True
 |_=>False
section
variable {P:S7} {w:S9} {H:Hp} {h h':Sb} {x e:S1} {o':HO}
theorem HOk.write (ok:HOk P w H h) (mu:Mut (H x)) (he:e=x\/H e=some (.own x)) (k:∀b u,b≠e->h.get? b=some u->h'.get? b=some u) (heo:∃u,h'.get? e=some u)
  (new:Sb6 P w (upd H x o') h' x o'):HOk P w (upd H x o') h':=λb u q=>by
 have nown:∀c y,H c=some (.own y)->c≠x:=λc y r z=>by subst z;rw [r] at mu;exact mu
 have ntup:∀c xs,H c=some (.tup xs)->c≠x:=λc xs r z=>by subst z;rw [r] at mu;exact mu
 by_cases hb:b=x
 ·subst hb;rw [Sr] at q;cases q;exact new
 ·rw [Sz hb] at q
  by_cases hbe:b=e
  ·have q':H b=some (.own x):=by
    rcases he with z|z
    ·exact absurd (hbe.trans z) hb
    ·rw [hbe];exact z
   rw [q] at q';cases q'
   obtain ⟨v,hv⟩:=heo
   exact ⟨v,by rw [hbe];exact hv⟩
  ·refine (ok b u q).stay (λc v hc r=>k c v ?_ r) (λc r=>by rw [Sz (nown c b r)];exact r) (λc xs r=>by rw [Sz (ntup c xs r)];exact r) λc xs r=>by rw [Sz λz=>by subst z;rw [r] at mu;exact mu];exact r
   rcases hc with rfl|hc
   ·exact hbe
   ·rintro rfl
    rcases he with z|z
    ·exact nown c b hc z
    ·rw [hc] at z;cases z;exact hb rfl
end
structure Un (fs ex:List S1) (H H':Hp) (h h':Sb):Prop where
 keep:∀b o,h.get? b=some o->H b=none->b∉fs->b∉ex->h'.get? b=some o
 slot:∀b o,h.get? b=some o->H b=none->b∈fs->b∉ex->∃sl,h'.get? b=some {o with slots:=sl}
 free:∀b o,h.get? b=some o->H b=none->b∉ex->H' b=none
 there:∀b o,h.get? b=some o->b∉ex->∃o',h'.get? b=some o'
 tups:∀b xs,H b=some (.tup xs)->H' b=some (.tup xs)
 frzs:∀b o u,H b=some (.frz o u)->H' b=some (.frz o u)
 tbls:∀b ps,H b=some (.tbl ps)->∃more,H' b=some (.tbl (ps++more))
section
variable {fs fs' ex ex':List S1} {H H1 H2:Hp} {h h1 h2 h':Sb} {a x e:S1} {o:HO}
theorem Un.any (u:Un fs ex H H1 h h1) (q:h.get? b=some ob) (n:H b=none) (hx:b∉ex):∃sl,h1.get? b=some {ob with slots:=sl}:=by
 by_cases hb:b∈fs
 ·exact u.slot b ob q n hb hx
 ·exact ⟨ob.slots,u.keep b ob q n hb hx⟩
theorem Un.trans (a:Un fs ex H H1 h h1) (b:Un fs ex H1 H2 h1 h2):Un fs ex H H2 h h2 where
 keep:=λc ob q n hc hx=>b.keep c ob (a.keep c ob q n hc hx) (a.free c ob q n hx) hc hx
 slot:=λc ob q n hc hx=>by
  obtain ⟨sl,e1⟩:=a.slot c ob q n hc hx
  obtain ⟨sl',e2⟩:=b.slot c _ e1 (a.free c ob q n hx) hc hx
  exact ⟨sl',e2⟩
 free:=λc ob q n hx=>by
  obtain ⟨o',e1⟩:=a.there c ob q hx
  exact b.free c o' e1 (a.free c ob q n hx) hx
 there:=λc ob q hx=>by
  obtain ⟨o',e1⟩:=a.there c ob q hx
  exact b.there c o' e1 hx
 tups:=λc xs q=>b.tups c xs (a.tups c xs q)
 frzs:=λc ob xs q=>b.frzs c ob xs (a.frzs c ob xs q)
 tbls:=λc ps q=>by
  obtain ⟨m1,e1⟩:=a.tbls c ps q
  obtain ⟨m2,e2⟩:=b.tbls c _ e1
  exact ⟨m1++m2,by rw [e2,Array.append_assoc]⟩
theorem Un.kept (k:∀b u,h.get? b=some u->h'.get? b=some u):Un fs ex H H h h':=
 ⟨λb ob q _ _ _=>k b ob q,λb ob q _ _ _=>⟨ob.slots,k b ob q⟩,λ_ _ _ n _=>n,λb ob q _=>⟨ob,k b ob q⟩,λ_ _ q=>q,λ_ _ _ q=>q,λ_ ps q=>⟨#[],by rw [q];simp⟩⟩
theorem Un.refl:Un fs ex H H h h:=Un.kept λ_ _ q=>q
theorem Un.laid (k:∀b u,h.get? b=some u->h'.get? b=some u) (hp:h.objs.size<=a) (hn:H a=none):Un fs ex H (upd H a o) h h' where
 keep:=λb u q _ _ _=>k b u q
 slot:=λb u q _ _ _=>⟨u.slots,k b u q⟩
 free:=λb u q n _=>by rw [Sz (yo (yah (yi q) hp))];exact n
 there:=λb u q _=>⟨u,k b u q⟩
 tups:=λb xs q=>by rw [Sz (Jmw q hn)];exact q
 frzs:=λb u xs q=>by rw [Sz (Jmw q hn)];exact q
 tbls:=λb ps q=>⟨#[],by rw [Sz (Jmw q hn),q];simp⟩
theorem Un.write (mu:Mut (H x)) (he:e=x\/H e=some (.own x)) (k:∀b u,b≠e->h.get? b=some u->h'.get? b=some u) (heo:∃u,h'.get? e=some u):Un fs ex H (upd H x o) h h':=by
 have hx:∀b,H b=none->b≠x:=λb n z=>by subst z;rw [n] at mu;exact mu
 have hb:∀b,H b=none->b≠e:=λb n z=>by
  subst z
  rcases he with r|r
  ·exact hx b n r
  ·rw [n] at r;cases r
 have hm:∀b u,H b=some u->¬Mut (some u)->b≠x:=λb u q nm z=>by subst z;rw [q] at mu;exact nm mu
 refine ⟨λb u q n _ _=>k b u (hb b n) q,λb u q n _ _=>⟨u.slots,k b u (hb b n) q⟩,λb u q n _=>by rw [Sz (hx b n)];exact n,λb u q _=>?_,
  λb xs q=>by rw [Sz (hm b _ q λz=>z)];exact q,λb u xs q=>by rw [Sz (hm b _ q λz=>z)];exact q,λb ps q=>⟨#[],by rw [Sz (hm b _ q λz=>z),q];simp⟩⟩
 by_cases hbe:b=e
 ·subst hbe;exact heo
 ·exact ⟨u,k b u hbe q⟩
end
def trk (h:Sb) (H:Hp):List S1:=(yz h.objs.size).filter λa=>(H a).isSome
def Jxv (h:Sb) (H:Hp):Sb:=PySem.W.hideAll h (trk h H)
theorem Ybh (h) (H):(Jxv h H).objs.size=h.objs.size:=PySem.W.hideAll_size _ _
theorem Jvp {H} {b} {o} (e:h.get? b=some o) (n:H b=none):(Jxv h H).get? b=some o:=
 PySem.W.hideAll_get _ e λhm=>by
  have q:=(List.mem_filter.mp hm).2
  rw [n] at q;simp at q
theorem Yew (e:(Jxv h H).get? b=some o):h.get? b=some o/\H b=none:=by
 have e':=PySem.W.of_hideAll (trk h H) e
 refine ⟨e',?_⟩
 cases q:H b with
 |none=>rfl
 |some x=>
  have hm:b∈trk h H:=List.mem_filter.mpr ⟨yaz.mpr (yi e'),by simp [q]⟩
  have z:(Jxv h H).get? b=none:=PySem.W.hideAll_none (trk h H) hm
  rw [z] at e;cases e
structure Mod (K:Se) (mg:Str->Option S2) (base:Sb):Prop where
 kin:K.In base
 glob:base.Ns mainGlobals mg
 blt:∃mb,base.Ns builtinsNs mb/\∀x:Str,x≠"__name__" ->mb x=bootBuiltins x
 nolimit:base.NoLimit
structure Cx where
 prog:S7
 w:S9
 K:Se
 mg:Str->Option S2
 base:Sb
 A:Sa
 N:List Str
 s₀:S3
 H₀:Hp
 env:Env
 outer:List Env
 stack:List Env
 ex:List S1
 fn:Str->Bool
 calm:Bool
 pn:List (S1×Obj)
 xe:S2->S3->Prop
def frs (l:List Env):List S1:=l.filterMap (·.frame)
abbrev Cx.fs (X:Cx):List S1:=frs X.outer
def Vis (sc:Scope) (x:Str):Prop:=sc.names.lookup x=some .local\/sc.names.lookup x=some .cell\/sc.names.lookup x=some .free
def Loc (sc:Scope) (x:Str):Prop:=sc.names.lookup x=some .local\/sc.names.lookup x=some .cell
def Sut (env:Env) (h:Sb) (m:Str->Option S2) (x:Str) (u:S2):Prop:=
 (env.kindOf x=some .local/\m x=some u)\/((env.kindOf x=some .cell\/env.kindOf x=some .free)/\∃c,env.cells.lookup x=some c/\h.IsCell c (some u))
structure Cx.Ok (X:Cx):Prop where
 mod:Mod X.K X.mg X.base
 kind:X.env.scope.kind= .function
 glob:X.env.globals=mainGlobals
 blt:X.env.builtins=builtinsNs
 above:X.s₀.heap.objs.size<=X.env.locals
 inj:∀x y c,X.env.cells.lookup x=some c->X.env.cells.lookup y=some c->x=y
 has:∀x,(X.env.kindOf x=some .cell\/X.env.kindOf x=some .free)->∃c,X.env.cells.lookup x=some c
 cab:∀x c,X.fn x=true->X.env.cells.lookup x=some c->X.s₀.heap.objs.size<=c
 hd:X.calm=true->X.A.handled=none
 frames:X.A.frames=some X.stack
 stk:X.stack=X.outer\/(X.stack=X.env::X.outer/\X.env.frame=some X.env.locals)
 exf:∀b∈X.ex,b≠X.env.locals/\∀x c,X.env.cells.lookup x=some c->c≠b
 bs:∀b o,X.base.get? b=some o->X.s₀.heap.get? b=some o/\X.H₀ b=none
 bsz:X.base.objs.size<=X.s₀.heap.objs.size
 noex:∀b o,X.base.get? b=some o->b∉X.ex
 exfs:∀b∈X.ex,b∉X.fs
 funs:X.s₀.heap.FunFrames X.base X.outer
 frf:∀b∈X.fs,X.H₀ b=none
structure Sn (X:Cx) (pins:List (S1×Obj)) (σ:List (Option V)) (H:Hp) (s:S3):Prop where
 ok:X.Ok
 os:s.os=X.s₀.os
 bare:AllBare s.gens
 base:Un X.fs X.ex X.H₀ H X.s₀.heap s.heap
 loc:∃m,s.heap.Ns X.env.locals m/\∀(i:Nat) (x:Str) (v:V),X.N[i]?=some x->σ[i]?=some (some v)->Vis X.env.scope x->∃u,Sa5 v u/\Sut X.env s.heap m x u
 cell:∀x c,X.env.cells.lookup x=some c->∃v,s.heap.IsCell c v
 free:H X.env.locals=none
 freeC:∀x c,X.env.cells.lookup x=some c->H c=none\/(X.fn x=false/\∃o,H c=some (Sj8 o))
 pin:∀p∈X.pn++pins,s.heap.get? p.1=some p.2/\H p.1=none/\p.1≠X.env.locals/\p.1∉X.fs/\∀v,p.2.data≠ .cell v
 hok:HOk X.prog X.w H s.heap
 len:σ.length=X.N.length
section
variable {X:Cx} {pins:List (S1×Obj)} {σ:List (Option V)} {H H':Hp} {s:S3} {h':Sb}
theorem Cx.Ok.nofr (ok:X.Ok) (e:X.base.get? b=some o):b∉X.fs:=λhb=>by
 have:=(ok.funs.mem hb).1
 rw [e] at this;cases this
theorem Sn.bs (I:Sn X pins σ H s):∀b o,X.base.get? b=some o->s.heap.get? b=some o/\H b=none:=λb o e=>
 ⟨I.base.keep b o (I.ok.bs b o e).1 (I.ok.bs b o e).2 (I.ok.nofr e) (I.ok.noex b o e),I.base.free b o (I.ok.bs b o e).1 (I.ok.bs b o e).2 (I.ok.noex b o e)⟩
theorem Sn.bk (I:Sn X pins σ H s):∀b o,X.base.get? b=some o->s.heap.get? b=some o:=λb o e=>(I.bs b o e).1
theorem Sn.mod (I:Sn X pins σ H s):Mod X.K X.mg X.base:=I.ok.mod
theorem Sn.kIn (I:Sn X pins σ H s):X.K.In s.heap:=I.ok.mod.kin.keeps I.bk
theorem Sn.lt (I:Sn X pins σ H s):X.env.locals < s.heap.objs.size:=let ⟨_,hn,_⟩:=I.loc;hn.lt
theorem Sn.sz (I:Sn X pins σ H s):X.s₀.heap.objs.size<=s.heap.objs.size:=yan I.ok.above (ybg I.lt)
theorem Sn.nofs (I:Sn X pins σ H s) (h:s.heap.objs.size<=a):a∉X.fs:=λhb=>by
 obtain ⟨_,o,ho,_⟩:=I.ok.funs.mem hb
 exact absurd (yah (yi ho) (yan I.sz h)) (yar _)
theorem Sn.cne (I:Sn X pins σ H s):∀x c,X.env.cells.lookup x=some c->c≠X.env.locals:=λx c e z=>by
 obtain ⟨v,o,ho,hd⟩:=I.cell x c e
 obtain ⟨m,⟨o',es,ep,ho',hd',_⟩,_⟩:=I.loc
 rw [z,ho'] at ho;cases ho;rw [hd'] at hd;cases hd
theorem Sn.funs (I:Sn X pins σ H s):s.heap.FunFrames X.base X.outer:=by
 have all:∀l,(∀b∈frs l,b∈X.fs)->X.s₀.heap.FunFrames X.base l->s.heap.FunFrames X.base l:=by
  intro l
  induction l with
  |nil=>intro _ _;trivial
  |cons env r ih=>
   rintro hs ⟨hk,⟨L,o,hf,hn,ho,hd⟩,hr⟩
   have hL:=hs L (by unfold frs;rw [List.filterMap_cons,hf];exact yak)
   obtain ⟨sl,e⟩:=I.base.slot L o ho (I.ok.frf L hL) hL λz=>I.ok.exfs L z hL
   exact ⟨hk,⟨L,_,hf,hn,e,hd⟩,ih (λb hb=>hs b (by unfold frs;rw [List.filterMap_cons,hf];exact yr _ hb)) hr⟩
 exact all X.outer (λ_ hb=>hb) I.ok.funs
theorem Sn.stack (I:Sn X pins σ H s):s.heap.FunFrames X.base X.stack:=by
 rcases I.ok.stk with e|⟨e,hf⟩
 ·rw [e];exact I.funs
 ·rw [e]
  obtain ⟨m,hn,_⟩:=I.loc
  exact .cons (by rw [I.ok.kind];decide) hf hn (Heap.get?_none_of_le (yan I.ok.bsz I.ok.above)) I.funs
theorem Sn.stkSub (I:Sn X pins σ H s):∀b∈frs X.stack,b∈X.env.locals::X.fs:=λb hb=>by
 rcases I.ok.stk with e|⟨e,hf⟩
 ·rw [e] at hb;exact yr _ hb
 ·rw [e] at hb
  unfold frs at hb
  rw [List.filterMap_cons,hf] at hb
  exact hb
theorem Sn.stkFree (I:Sn X pins σ H s):∀b∈frs X.stack,H b=none:=λb hb=>by
 rcases ym.mp (I.stkSub b hb) with e|hb
 ·rw [e];exact I.free
 ·obtain ⟨_,o,ho,_⟩:=I.ok.funs.mem hb
  exact I.base.free b o ho (I.ok.frf b hb) λz=>I.ok.exfs b z hb
theorem Sn.step {ch:List S1} (I:Sn X pins σ H s)
  (hch:∀b∈ch,(b∈X.ex\/X.s₀.heap.objs.size<=b)/\b≠X.env.locals/\(∀x c,X.env.cells.lookup x=some c->c≠b)/\∀p∈X.pn++pins,p.1≠b)
  (keep:∀b o,b≠X.env.locals->b∉X.fs->b∉ch->s.heap.get? b=some o->H b=none->h'.get? b=some o)
  (slot:∀b o,b≠X.env.locals->b∈X.fs->b∉ch->s.heap.get? b=some o->H b=none->∃sl,h'.get? b=some {o with slots:=sl}) (free:∀b o,b∉ch->s.heap.get? b=some o->H b=none->H' b=none)
  (there:∀b o,b∉ch->s.heap.get? b=some o->∃o',h'.get? b=some o')
  (tups:∀b xs,H b=some (.tup xs)->H' b=some (.tup xs)) (frzs:∀b o u,H b=some (.frz o u)->H' b=some (.frz o u)) (tbls:∀b ps,H b=some (.tbl ps)->∃more,H' b=some (.tbl (ps++more)))
  (ns:∀m,s.heap.Ns X.env.locals m->h'.Ns X.env.locals m) (hok:HOk X.prog X.w H' h') (hg:AllBare g'):
  Sn X pins σ H' {s with heap:=h',gens:=g',drawn:=d',toks:=t'}:=by
 have neL:∀b o,X.s₀.heap.get? b=some o->b≠X.env.locals:=λb o e=>yo (yah (yi e) I.ok.above)
 have neC:∀b o,X.s₀.heap.get? b=some o->b∉X.ex->b∉ch:=λb o e hx hb=>by
  rcases (hch b hb).1 with z|z
  ·exact hx z
  ·exact absurd (yah (yi e) z) (yar _)
 have cellK:∀x c,X.env.cells.lookup x=some c->∀v,s.heap.IsCell c v->h'.IsCell c v:=λx c e v ⟨o,ho,hd⟩=>by
  have nch:=λz=>(hch c z).2.2.1 x c e rfl
  rcases I.freeC x c e with n|⟨_,ob,q⟩
  ·by_cases hc:c∈X.fs
   ·obtain ⟨sl,q⟩:=slot c o (I.cne x c e) hc nch ho n
    exact ⟨_,q,hd⟩
   ·exact ⟨o,keep c o (I.cne x c e) hc nch ho n,hd⟩
  ·obtain ⟨e1,_⟩:=I.hok c _ q
   obtain ⟨e2,_⟩:=hok c _ (frzs c ob _ q)
   rw [ho] at e1;cases e1
   exact ⟨_,e2,hd⟩
 refine ⟨I.ok,I.os,hg,⟨λb o e n hb hx=>?_,λb o e n hb hx=>?_,λb o e n hx=>?_,λb o e hx=>?_,λb xs e=>tups b xs (I.base.tups b xs e),λb o xs e=>frzs b o xs (I.base.frzs b o xs e),λb ps e=>?_⟩,?_,λx c e=>?_,?_,λx c e=>?_,λp hp=>?_,hok,I.len⟩
 ·exact keep b o (neL b o e) hb (neC b o e hx) (I.base.keep b o e n hb hx) (I.base.free b o e n hx)
 ·obtain ⟨sl,e1⟩:=I.base.slot b o e n hb hx
  obtain ⟨sl',e2⟩:=slot b _ (neL b o e) hb (neC b o e hx) e1 (I.base.free b o e n hx)
  exact ⟨sl',e2⟩
 ·obtain ⟨o',e1⟩:=I.base.there b o e hx
  exact free b o' (neC b o e hx) e1 (I.base.free b o e n hx)
 ·obtain ⟨o',e1⟩:=I.base.there b o e hx
  exact there b o' (neC b o e hx) e1
 ·obtain ⟨m1,e1⟩:=I.base.tbls b ps e
  obtain ⟨m2,e2⟩:=tbls b _ e1
  exact ⟨m1++m2,by rw [e2,Array.append_assoc]⟩
 ·obtain ⟨m,hn,hl⟩:=I.loc
  refine ⟨m,ns m hn,λi x v e1 e2 e3=>?_⟩
  obtain ⟨u,r,l⟩:=hl i x v e1 e2 e3
  refine ⟨u,r,?_⟩
  rcases l with l|⟨k,c,e,z⟩
  ·exact .inl l
  ·exact .inr ⟨k,c,e,cellK x c e _ z⟩
 ·obtain ⟨v,z⟩:=I.cell x c e
  exact ⟨v,cellK x c e v z⟩
 ·obtain ⟨m,⟨o,_,_,ho,_⟩,_⟩:=I.loc
  exact free _ o (λz=>(hch _ z).2.1 rfl) ho I.free
 ·obtain ⟨v,o,ho,hd⟩:=I.cell x c e
  rcases I.freeC x c e with n|⟨hf,ob,q⟩
  ·exact .inl (free c o (λz=>(hch c z).2.2.1 x c e rfl) ho n)
  ·exact .inr ⟨hf,ob,frzs c ob _ q⟩
 ·obtain ⟨e,n,ne,nf,d⟩:=I.pin p hp
  have nch:=λz=>(hch p.1 z).2.2.2 p hp rfl
  exact ⟨keep p.1 p.2 ne nf nch e n,free p.1 p.2 nch e n,ne,nf,d⟩
theorem Sn.un (I:Sn X pins σ H s) (u:Un X.fs [] H H' s.heap h') (hok:HOk X.prog X.w H' h'):Sn X pins σ H' {s with heap:=h',toks:=t'}:=by
 obtain ⟨m,⟨o,es,ep,ho,r⟩,_⟩:=id I.loc
 obtain ⟨sl,hL⟩:=u.any ho I.free (by simp)
 exact I.step (ch:=[]) (λ_ z=>nomatch z) (λb o _ hb _ e n=>u.keep b o e n hb (by simp)) (λb o _ hb _ e n=>u.slot b o e n hb (by simp)) (λb o _ e n=>u.free b o e n (by simp)) (λb o _ e=>u.there b o e (by simp)) u.tups u.frzs u.tbls (λm' hm=>by
  obtain ⟨o',es',ep',ho',r'⟩:=hm
  rw [ho] at ho';cases ho'
  exact ⟨_,es',ep',hL,r'⟩) hok I.bare
theorem Sn.call (I:Sn X pins σ H s) (u:Un (frs X.stack) ch H H' s.heap h') (hok:HOk X.prog X.w H' h') (hg:AllBare g')
  (hch:∀b∈ch,(b∈X.ex\/X.s₀.heap.objs.size<=b)/\b≠X.env.locals/\(∀x c,X.env.cells.lookup x=some c->c≠b)/\∀p∈X.pn++pins,p.1≠b):
  Sn X pins σ H' {s with heap:=h',gens:=g',drawn:=d',toks:=t'}:=by
 obtain ⟨m,⟨o,es,ep,ho,r⟩,_⟩:=id I.loc
 obtain ⟨sl,hL⟩:=u.any ho I.free λz=>(hch _ z).2.1 rfl
 exact I.step hch (λb o hL hb hc e n=>u.keep b o e n (λz=>(ym.mp (I.stkSub b z)).elim hL hb) hc) (λb o _ _ hc e n=>u.any e n hc) (λb o hc e n=>u.free b o e n hc) (λb o hc e=>u.there b o e hc) u.tups u.frzs u.tbls (λm' hm=>by
  obtain ⟨o',es',ep',ho',r'⟩:=hm
  rw [ho] at ho';cases ho'
  exact ⟨_,es',ep',hL,r'⟩) hok hg
theorem Sn.turned (I:Sn X pins σ H s) (k:∀b o,b≠it->s.heap.get? b=some o->h'.get? b=some o) (hn:H it=none) (hL:it≠X.env.locals)
  (h1:it∈X.ex\/X.s₀.heap.objs.size<=it) (h2:∀x c,X.env.cells.lookup x=some c->c≠it) (h3:∀p∈X.pn++pins,p.1≠it):Sn X pins σ H {s with heap:=h',toks:=t'}:=by
 have nit:∀b u,H b=some u->b≠it:=λb u e z=>by rw [z,hn] at e;cases e
 refine I.step (ch:=[it]) (λb hb=>?_) (λb o _ _ hc e _=>k b o (λz=>hc (by simp [z])) e) (λb o _ _ hc e _=>⟨o.slots,k b o (λz=>hc (by simp [z])) e⟩) (λ_ _ _ _ n=>n)
  (λb o hc e=>⟨o,k b o (λz=>hc (by simp [z])) e⟩) (λ_ _ e=>e) (λ_ _ _ e=>e) (λb ps e=>⟨#[],by rw [e];simp⟩) (λm hm=>?_) (λb u e=>?_) I.bare
 ·have e:=by simpa using hb
  subst e
  exact ⟨h1,hL,h2,h3⟩
 ·obtain ⟨o,es,ep,ho,r⟩:=hm
  exact ⟨o,es,ep,k _ o (yt hL) ho,r⟩
 ·refine (I.hok b u e).stay (λc v hc q=>k c v ?_ q) (λ_ q=>q) (λ_ _ q=>q) λ_ _ q=>q
  rcases hc with z|z
  ·rw [z];exact nit b u e
  ·exact nit c _ z
theorem Sn.tok (I:Sn X pins σ H s) (t):Sn X pins σ H {s with toks:=t}:=I.un Un.refl I.hok
theorem Sn.kept (I:Sn X pins σ H s) (k:∀b u,s.heap.get? b=some u->h'.get? b=some u):Sn X pins σ H {s with heap:=h',toks:=t'}:=I.un (Un.kept k) (I.hok.kept k)
theorem Sn.laid (I:Sn X pins σ H s) (k:∀b u,s.heap.get? b=some u->h'.get? b=some u) (hp:s.heap.objs.size<=a) (new:Sb6 X.prog X.w (upd H a o) h' a o):
  Sn X pins σ (upd H a o) {s with heap:=h',toks:=t'}:=I.un (Un.laid k hp (I.hok.fresh hp)) (I.hok.laid k hp new)
theorem Sn.write (I:Sn X pins σ H s) (mu:Mut (H x)) (he:e=x\/H e=some (.own x)) (k:∀b u,b≠e->s.heap.get? b=some u->h'.get? b=some u) (heo:∃u,h'.get? e=some u)
  (new:Sb6 X.prog X.w (upd H x o) h' x o):Sn X pins σ (upd H x o) {s with heap:=h',toks:=t'}:=I.un (Un.write mu he k heo) (I.hok.write mu he k heo new)
theorem Sn.pins_of (I:Sn X pins σ H s) (h:∀p∈pins',s.heap.get? p.1=some p.2/\H p.1=none/\p.1≠X.env.locals/\p.1∉X.fs/\∀v,p.2.data≠ .cell v):Sn X pins' σ H s:=
 ⟨I.ok,I.os,I.bare,I.base,I.loc,I.cell,I.free,I.freeC,λp hp=>(ybh.mp hp).elim (λz=>I.pin p (List.mem_append_left _ z)) (h p),I.hok,I.len⟩
theorem Jzd {N:List Str} (hN:N.Nodup) {i:Nat} (a:N[i]?=some x) (b:N[j]?=some x):i=j:=by
 obtain ⟨h1,e1⟩:=yj.mp a
 obtain ⟨h2,e2⟩:=yj.mp b
 exact (List.getElem_inj hN).mp (e1.trans e2.symm)
theorem Jxi {E} {i} {x} {v} {u} {Q} (I:Sn X pins σ H s) (hN:X.N.Nodup) (hi:X.N[i]?=some x) (hx:Loc X.env.scope x) (r:Sa5 v u)
  (h:∀s',Sn X pins (σ.set i (some v)) H s'->(∃a,yba a s.heap s'.heap/\(a=X.env.locals\/X.env.cells.lookup x=some a))->Q () s') (hf:X.fn x=true\/X.env.scope.names.lookup x=some .local:=by first|exact .inl rfl|exact .inr rfl|assumption):Sc M A (storeName X.env x u) Q E s:=by
 obtain ⟨m,hn,hl⟩:=id I.loc
 have hcls:(X.env.scope.kind== .class||(X.env.scope.kind== .module&&X.env.locals !=X.env.globals))=false:=by rw [I.ok.kind];rfl
 have hiσ:i < σ.length:=by rw [I.len];exact (yj.mp hi).1
 have cne:=I.cne
 have tracked:∀{a:S1} {h':Sb},(∃o,s.heap.get? a=some o/\H a=none)->yba a s.heap h'->HOk X.prog X.w H h':=λ{a h'} ha hs b ob e=>by
  obtain ⟨_,_,hfree⟩:=ha
  refine (I.hok b ob e).stay (λc w' hc q=>(hs.2 c ?_).trans q) (λ_ q=>q) (λ_ _ q=>q) λ_ _ q=>q
  rintro rfl
  rcases hc with rfl|hc
  ·rw [hfree] at e;cases e
  ·rw [hfree] at hc;cases hc
 rcases hx with hk|hk
 ·refine wpAny_storeName_local hk hn (λh' hn' hs=>?_) hcls
  obtain ⟨oL,_,_,hoL,_⟩:=id hn
  refine h _ ⟨I.ok,I.os,I.bare,⟨λb o e n hb hx=>?_,λb o e n hb hx=>?_,I.base.free,λb o e hx=>?_,I.base.tups,I.base.frzs,I.base.tbls⟩,⟨_,hn',λj y v' e1 e2 e3=>?_⟩,λy c e=>?_,I.free,I.freeC,λp hp=>?_,tracked ⟨oL,hoL,I.free⟩ hs,by simpa using I.len⟩ ⟨_,hs,.inl rfl⟩
  ·exact (hs.2 b (yo (yah (yi e) I.ok.above))).trans (I.base.keep b o e n hb hx)
  ·obtain ⟨sl,e1⟩:=I.base.slot b o e n hb hx
   exact ⟨sl,(hs.2 b (yo (yah (yi e) I.ok.above))).trans e1⟩
  ·obtain ⟨o',e1⟩:=I.base.there b o e hx
   exact ⟨o',(hs.2 b (yo (yah (yi e) I.ok.above))).trans e1⟩
  ·by_cases hj:j=i
   ·subst hj
    rw [hi] at e1;cases e1
    rw [List.getElem?_set_self hiσ] at e2
    cases e2
    exact ⟨u,r,.inl ⟨hk,by simp⟩⟩
   ·rw [List.getElem?_set_ne (yt hj)] at e2
    obtain ⟨u',r',q⟩:=hl j y v' e1 e2 e3
    refine ⟨u',r',?_⟩
    rcases q with ⟨k,e⟩|⟨k,c,e,z⟩
    ·refine .inl ⟨k,?_⟩
     have:y≠x:=λe=>hj (Jzd hN e1 (e▸hi))
     simp [this,e]
    ·exact .inr ⟨k,c,e,z.sameBut hs (cne y c e)⟩
  ·obtain ⟨w',z⟩:=I.cell y c e
   exact ⟨w',z.sameBut hs (cne y c e)⟩
  ·obtain ⟨e,n,ne,nf,d⟩:=I.pin p hp
   exact ⟨(hs.2 p.1 ne).trans e,n,ne,nf,d⟩
 ·have hfn:X.fn x=true:=by
   rcases hf with z|z
   ·exact z
   ·rw [z] at hk;cases hk
  obtain ⟨c,hc⟩:=I.ok.has x (.inl hk)
  obtain ⟨w',z⟩:=I.cell x c hc
  refine wpAny_storeName_cell I.ok.kind hk hc z (λh' hc' hs=>?_)
  obtain ⟨oc,hoc,hocd⟩:=id z
  refine h {s with heap:=h'} ⟨I.ok,I.os,I.bare,⟨λb o e n hb hx=>?_,λb o e n hb hx=>?_,I.base.free,λb o e hx=>?_,I.base.tups,I.base.frzs,I.base.tbls⟩,⟨m,hn.sameBut hs (yt (cne x c hc)),λj y v' e1 e2 e3=>?_⟩,λy c' e=>?_,I.free,I.freeC,λp hp=>?_,tracked ⟨oc,hoc,(I.freeC x c hc).elim id λz=>by rw [hfn] at z;cases z.1⟩ hs,by simpa using I.len⟩ ⟨c,hs,.inr hc⟩
  ·exact (hs.2 b (yo (yah (yi e) (I.ok.cab x c hfn hc)))).trans (I.base.keep b o e n hb hx)
  ·obtain ⟨sl,e1⟩:=I.base.slot b o e n hb hx
   exact ⟨sl,(hs.2 b (yo (yah (yi e) (I.ok.cab x c hfn hc)))).trans e1⟩
  ·obtain ⟨o',e1⟩:=I.base.there b o e hx
   exact ⟨o',(hs.2 b (yo (yah (yi e) (I.ok.cab x c hfn hc)))).trans e1⟩
  ·by_cases hj:j=i
   ·subst hj
    rw [hi] at e1;cases e1
    rw [List.getElem?_set_self hiσ] at e2
    cases e2
    exact ⟨u,r,.inr ⟨.inl hk,c,hc,hc'⟩⟩
   ·rw [List.getElem?_set_ne (yt hj)] at e2
    obtain ⟨u',r',q⟩:=hl j y v' e1 e2 e3
    refine ⟨u',r',?_⟩
    rcases q with q|⟨k,c',e,z'⟩
    ·exact .inl q
    ·refine .inr ⟨k,c',e,z'.sameBut hs ?_⟩
     rintro rfl
     exact hj (Jzd hN e1 (I.ok.inj _ _ _ e hc▸hi))
  ·by_cases hcc:c'=c
   ·subst hcc;exact ⟨_,hc'⟩
   ·obtain ⟨w2,z2⟩:=I.cell y c' e
    exact ⟨w2,z2.sameBut hs hcc⟩
  ·obtain ⟨e,n,ne,nf,d⟩:=I.pin p hp
   refine ⟨(hs.2 p.1 ?_).trans e,n,ne,nf,d⟩
   intro q
   rw [q,hoc] at e
   exact d w' (by rw [<-(yv.inj e)];exact hocd)
theorem Jw9 {i} {x} {v} {u} {Q} (I:Sn X pins σ H s) (hN:X.N.Nodup) (hi:X.N[i]?=some x) (hx:Loc X.env.scope x) (r:Sa5 v u)
  (h:∀s',Sn X pins (σ.set i (some v)) H s'->Q () s') (hf:X.fn x=true\/X.env.scope.names.lookup x=some .local:=by first|exact .inl rfl|exact .inr rfl|assumption):Sc M A (storeName X.env x u) Q E s:=
 Jxi I hN hi hx r (λs' I' _=>h s' I') hf
theorem Sn.call' (I:Sn X pins σ H s) (ho:s'.os=s.os) (u:Un (frs X.stack) ch H H' s.heap s'.heap) (hok:HOk X.prog X.w H' s'.heap) (hg:AllBare s'.gens)
  (hch:∀b∈ch,(b∈X.ex\/X.s₀.heap.objs.size<=b)/\b≠X.env.locals/\(∀x c,X.env.cells.lookup x=some c->c≠b)/\∀p∈X.pn++pins,p.1≠b):Sn X pins σ H' s':=by
 obtain ⟨h',g',d',t',o'⟩:=s'
 subst ho
 exact I.call u hok hg hch
end
abbrev XK:=S2->Option S1->Hp->Prop
abbrev St:=List (Option V)
abbrev VK:=V->Hp->Prop
abbrev TE:=St->Hp->VK->Prop
abbrev TT:=St->Hp->(Bool->Hp->Prop)->Prop
abbrev TA:=St->Hp->(List V->Hp->Prop)->Prop
structure Jt9 where
 nx:St->Hp->Prop
 rt:VK
 bk:St->Hp->Prop:=λ_ _=>False
 ct:St->Hp->Prop:=λ_ _=>False
abbrev TS:=Jt9->St->Hp->Prop
def EP (X:Cx) (pins:List (S1×Obj)) (σ:St) (Q:VK) (u:S2) (s':S3):Prop:=∃v H',Sn X pins σ H' s'/\Sa5 v u/\Q v H'
def TP (X:Cx) (pins:List (S1×Obj)) (σ:St) (Q:Bool->Hp->Prop) (b:Bool) (s':S3):Prop:=∃H',Sn X pins σ H' s'/\Q b H'
def AP (X:Cx) (pins:List (S1×Obj)) (σ:St) (Q:List V->Hp->Prop) (us:List S2) (s':S3):Prop:=∃vs H',Sn X pins σ H' s'/\Sa0 vs us/\Q vs H'
def SP (X:Cx) (pins:List (S1×Obj)) (D:Jt9) (f:Flow) (s':S3):Prop:=
 match f with
 | .next=>∃σ' H',Sn X pins σ' H' s'/\D.nx σ' H'
 | .brk=>∃σ' H',Sn X pins σ' H' s'/\D.bk σ' H'
 | .cont=>∃σ' H',Sn X pins σ' H' s'/\D.ct σ' H'
 | .ret u=>∃v σ' H',Sn X pins σ' H' s'/\Sa5 v u/\D.rt v H'
def PE (X:Cx) (e:Expr) (t:TE):Prop:=
 ∀(pins:List (S1×Obj)) (s:S3) (σ:St) (H:Hp) (Q:VK),Sn X pins σ H s->t σ H Q->Sc (model X.prog X.w) X.A (eval e X.env) (EP X pins σ Q) X.xe s
def PT (X:Cx) (e:Expr) (t:TT):Prop:=
 ∀(pins:List (S1×Obj)) (s:S3) (σ:St) (H:Hp) (Q:Bool->Hp->Prop),Sn X pins σ H s->t σ H Q->Sc (model X.prog X.w) X.A (isTrue e X.env (eval e X.env)) (TP X pins σ Q) X.xe s
def PW (X:Cx) (e:Expr) (t:TT):Prop:=
 ∀(whole:Sem S2) (pins:List (S1×Obj)) (s:S3) (σ:St) (H:Hp) (Q:Bool->Hp->Prop),Sn X pins σ H s->t σ H Q->Sc (model X.prog X.w) X.A (isTrue e X.env whole) (TP X pins σ Q) X.xe s
theorem PW.pt (h:PW X e t):PT X e t:=h _
def PA (X:Cx) (es:List Expr) (t:TA):Prop:=
 ∀(pos:Pos) (pins:List (S1×Obj)) (s:S3) (σ:St) (H:Hp) (Q:List V->Hp->Prop),Sn X pins σ H s->t σ H Q->Sc (model X.prog X.w) X.A (spliced (backTo pos (starEach es X.env))) (AP X pins σ Q) X.xe s
def PS (X:Cx) (st:Stmt) (t:TS):Prop:=
 ∀(pins:List (S1×Obj)) (s:S3) (σ:St) (H:Hp) (D:Jt9),Sn X pins σ H s->t D σ H->Sc (model X.prog X.w) X.A (exec st X.env) (SP X pins D) X.xe s
def PSs (X:Cx) (st:List Stmt) (t:TS):Prop:=
 ∀(pins:List (S1×Obj)) (s:S3) (σ:St) (H:Hp) (D:Jt9),Sn X pins σ H s->t D σ H->Sc (model X.prog X.w) X.A (execs st X.env) (SP X pins D) X.xe s
theorem thn (h:Sc M A t Q E s) (hQ:∀a s,Q a s->Q' a s):Sc M A t Q' E s:=wpAny_mono h hQ λ_ _ x=>x
section
variable {X:Cx}
inductive Soj (i:Nat) (σ:St) (H:Hp) (Q:VK):Prop where
 |mk (v:_) (_:σ[i]?=some (some v)) (_:Q v H)
def tC (v:V):TE:=λ_ H Q=>Q v H
theorem Yd7 (hN:X.N[i]?=some x) (hv:Vis X.env.scope x) (hd:(x==("__debug__" :Str))=false:=by decide) (hcd:(x==("__classdict__" :Str))=false:=by decide):PE X (.Name x pos) (Soj i):=by
 rintro pins s σ H Q I ⟨v,e,h⟩
 obtain ⟨m,hn,hl⟩:=I.loc
 obtain ⟨u,r,l⟩:=hl i x v hN e hv
 have fin:EP X pins σ Q u s:=⟨v,H,I,r,h⟩
 rcases l with ⟨hk,hm⟩|⟨hk,c,hc,hcell⟩
 ·exact wpAny_Name (wpAny_loadName_local I.ok.kind hk hn hm fin) hd
 ·rcases hk with hk|hk
  ·exact wpAny_Name (wpAny_loadName_cell I.ok.kind hk hc hcell fin) hd
  ·exact wpAny_Name (wpAny_loadName_free I.ok.kind hk hc hcell fin hcd) hd
theorem So:PE X (.Constant (.int i) j pos) (tC (.int i)):=λ_ _ _ H _ I h=>wpAny_Constant_int ⟨.int i,H,I.tok _,⟨_,rfl⟩,h⟩
theorem Jov:PE X (.Constant (.bool b) j pos) (tC (.bl b)):=λ_ _ _ H _ I h=>Constant_bool ⟨.bl b,H,I,rfl,h⟩
theorem Jqd:PE X (.Constant .none j pos) (tC .non):=λ_ _ _ H _ I h=>Constant_none ⟨.non,H,I,rfl,h⟩
theorem Jom:PE X (.Constant (.str x) j pos) (tC (.str x)):=λ_ _ _ H _ I h=>Calls.Constant_str ⟨.str x,H,I.tok _,⟨_,rfl⟩,h⟩
def Gl (X:Cx) (x:Str):Prop:=X.env.kindOf x=some .globalImplicit
theorem Jtf {pins} {s} {σ:St} {H} {x} {u} {pos} {Q} (I:Sn X pins σ H s) (hg:Gl X x) (hm:X.mg x=some u) (h:Q u s)
  (hd:(x==("__debug__" :Str))=false:=by decide):Sc (model X.prog X.w) X.A (eval (.Name x pos) X.env) Q E s:=
 Calls.Name_function_global I.ok.kind hg (Calls.loadGlobal_global (by rw [I.ok.glob];exact I.mod.glob.keeps I.bk) hm h) hd
theorem Jqo {E} {pins} {s} {σ:St} {H} {x} {u} {pos} {Q} (I:Sn X pins σ H s) (hg:Gl X x) (hm:X.mg x=none) (hv:bootBuiltins x=some u) (h:Q u s)
  (hn:x≠"__name__" :=by decide) (hd:(x==("__debug__" :Str))=false:=by decide):Sc (model X.prog X.w) X.A (eval (.Name x pos) X.env) Q E s:=by
 obtain ⟨mb,h1,h2⟩:=I.mod.blt
 exact Calls.Name_function_global I.ok.kind hg (Calls.loadGlobal_builtin (by rw [I.ok.glob];exact I.mod.glob.keeps I.bk) hm (by rw [I.ok.blt];exact h1.keeps I.bk) ((h2 x hn).trans hv) h) hd
theorem Jo5 (hg:Gl X x) (hm:X.mg x=some u) (r:Sa5 v u) (hd:(x==("__debug__" :Str))=false:=by decide):PE X (.Name x pos) (tC v):=
 λ_ _ _ H _ I h=>Jtf I hg hm ⟨v,H,I,r,h⟩ hd
theorem Joh (hg:Gl X x) (hm:X.mg x=none) (hv:bootBuiltins x=some u) (r:Sa5 v u) (hn:x≠"__name__" :=by decide) (hd:(x==("__debug__" :Str))=false:=by decide):PE X (.Name x pos) (tC v):=
 λ_ _ _ H _ I h=>Jqo I hg hm hv ⟨v,H,I,r,h⟩ hn hd
variable {a b:Expr} {ta tb:TE} {pos:Pos}
inductive Svz (Q:(Bool->Hp->Prop)) (x:V) (H1:Hp):Prop where
 |mk (c:_) (_:x= .bl c) (_:Q c H1)
def tB (t:TE):TT:=λσ H Q=>t σ H (Svz Q)
theorem Jnf (h:PE X e t) (he:∀whole,isTrue e X.env whole=(do let v<-whole;standAt e.pos;holding [v] (truthy v)):=by intro _;rfl):PT X e (tB t):=by
 intro pins s σ H Q I hw
 refine isTrue_plain (thn (h pins s σ H _ I hw) λv s1 zq=>?_) (he _)
 obtain ⟨x,H1,I1,r1,q1⟩:=zq
 obtain ⟨d,rfl,q⟩:=q1
 cases r1
 exact wpAny_truthy_bool ⟨H1,I1,q⟩
variable {tA tB':TT} {rest:List Expr}
def Svy (t u:TT):TT:=λσ H Q=>t σ H λc H1=>if c=true then u σ H1 Q else Q false H1
def tOr (t u:TT):TT:=λσ H Q=>t σ H λc H1=>if c=true then Q true H1 else u σ H1 Q
def Sw4 (t:TT):TT:=λσ H Q=>t σ H λc H1=>Q (!c) H1
theorem Yav (ha:PT X a tA):PW X (.BoolOp .And [a] pos) tA:=by
 intro wh pins s σ H Q I h
 refine isTrue_and (thn (ha pins s σ H Q I h) λc s1 e=>?_)
 cases c with
 |true=>exact isTrue_and_nil e
 |false=>exact e
theorem Jqf (ha:PT X a tA):PW X (.BoolOp .Or [a] pos) tA:=by
 intro wh pins s σ H Q I h
 refine isTrue_or (thn (ha pins s σ H Q I h) λc s1 e=>?_)
 cases c with
 |false=>exact isTrue_or_nil e
 |true=>exact e
theorem Ydc (ha:PT X a tA) (hb:PW X (.BoolOp .And (b::rest) pos) tB'):PW X (.BoolOp .And (a::b::rest) pos) (Svy tA tB'):=by
 intro wh pins s σ H Q I h
 refine isTrue_and (thn (ha pins s σ H _ I h) λc s1 zq=>?_)
 obtain ⟨H1,I1,q1⟩:=zq
 cases c with
 |true=>exact hb wh pins s1 σ H1 Q I1 q1
 |false=>exact ⟨H1,I1,q1⟩
theorem Jri (ha:PT X a tA) (hb:PW X (.BoolOp .Or (b::rest) pos) tB'):PW X (.BoolOp .Or (a::b::rest) pos) (tOr tA tB'):=by
 intro wh pins s σ H Q I h
 refine isTrue_or (thn (ha pins s σ H _ I h) λc s1 zq=>?_)
 obtain ⟨H1,I1,q1⟩:=zq
 cases c with
 |true=>exact ⟨H1,I1,q1⟩
 |false=>exact hb wh pins s1 σ H1 Q I1 q1
theorem Jnh (ha:PT X a tA):PT X (.UnaryOp .Not a pos) (Sw4 tA):=by
 intro pins s σ H Q I h
 exact isTrue_not (ha pins s σ H (λc H1=>Q (!c) H1) I h)
inductive Yft (ta tb:TE) (σ:St) (Q:VK) (x:V) (H1:Hp):Prop where
 |mk (c:_) (_:x= .bl c) (_:if c=true then tb σ H1 Q else Q (.bl false) H1)
def Sro (ta tb:TE):TE:=λσ H Q=>ta σ H (Yft ta tb σ Q)
theorem Jyf (h:PE X a t):PE X (.BoolOp op [a] pos) t:=λpins s σ H Q I hw=>BoolOp_one (h pins s σ H Q I hw)
theorem Jye (ha:PE X a ta) (hb:PE X (.BoolOp .And (b::rest) pos) tb):PE X (.BoolOp .And (a::b::rest) pos) (Sro ta tb):=by
 intro pins s σ H Q I h
 refine BoolOp_and (thn (ha pins s σ H _ I h) λv s1 zq=>?_)
 obtain ⟨x,H1,I1,r1,q1⟩:=zq
 obtain ⟨c,rfl,q1⟩:=q1
 cases r1
 refine wpAny_truthy_bool ?_
 cases c with
 |true=>exact hb pins s1 σ H1 Q I1 q1
 |false=>exact ⟨.bl false,H1,I1,rfl,q1⟩
def tIf (t:TT) (ta tb:TE):TE:=λσ H Q=>t σ H λc H1=>if c=true then ta σ H1 Q else tb σ H1 Q
theorem Jw3 (hc:PT X c tA) (ha:PE X a ta) (hb:PE X b tb):PE X (.IfExp c a b pos) (tIf tA ta tb):=by
 intro pins s σ H Q I h
 refine wpAny_IfExp (thn (hc pins s σ H _ I h) λd s1 zq=>?_)
 obtain ⟨H1,I1,q1⟩:=zq
 cases d with
 |true=>exact ha pins s1 σ H1 Q I1 q1
 |false=>exact hb pins s1 σ H1 Q I1 q1
end
def Sv (K:Se) (H:Hp) (a:S1) (xs:List V):Prop:=
 Rd H a (.lst xs)\/
  ∃(o:Obj) (its:Array S2) (n:Nat),K.lookup a=some o/\o.cls= .type "list" /\o.dict=none/\o.data= .seq its n/\its.size<=S6/\Sa0 xs its.toList
def Su (K:Se) (H:Hp) (a:S1) (xs:List V):Prop:=
 Rd H a (.tup xs)\/
  ∃(o:Obj) (its:Array S2) (n:Nat),K.lookup a=some o/\o.cls= .type "tuple" /\o.data= .seq its n/\its.size<=S6/\Sa0 xs its.toList
def Sv3:S2->Option V
 | .none=>some .non
 | .bool b=>some (.bl b)
 | .int i _=>some (.int i)
 | .str x _=>some (.str x)
 | .bytes b _=>some (.byt b)
 | .float b _=>some (.flt b)
 | .ref a=>some (.ref a)
 | .type n=>some (.ty n)
 |_=>none
theorem Sa5.abs (r:Sa5 x u):Sv3 u=some x:=by
 cases x with
 |non=>cases r;rfl
 |bl _=>cases r;rfl
 |int _=>obtain ⟨t,rfl⟩:=r;rfl
 |str _=>obtain ⟨t,rfl⟩:=r;rfl
 |byt _=>obtain ⟨t,rfl⟩:=r;rfl
 |flt _=>obtain ⟨t,rfl⟩:=r;rfl
 |ref _=>cases r;rfl
 |ty _=>cases r;rfl
theorem Sa5.inj (r:Sa5 x u) (q:Sa5 y u):x=y:=yv.inj (r.abs.symm.trans q.abs)
theorem Sa0.inj:∀{xs ys:List V} {us:List S2},Sa0 xs us->Sa0 ys us->xs=ys
 |_,_,_,.nil,.nil=>rfl
 |_,_,_,.cons r t,.cons r' t'=>by rw [r.inj r',Sa0.inj t t']
section
variable {X:Cx} {pins:List (S1×Obj)} {σ:St} {H:Hp} {s:S3} {a:S1} {xs ys:List V}
theorem Sv.of {K} (h:H a=some (.lst xs)):Sv K H a xs:=.inl (.inl h)
theorem Su.of {K} (h:H a=some (.tup xs)):Su K H a xs:=.inl (.inl h)
theorem Sn.list (I:Sn X pins σ H s) (h:Sv X.K H a xs):∃its:List S2,Sa0 xs its/\PlainL s.heap a its.toArray/\xs.length<=S6:=by
 rcases h with h|⟨o,its,n,hk,hc,hd,hs,hz,r⟩
 ·obtain ⟨z,its,n,r,e⟩:=h.ok I.hok
  exact ⟨its,r,⟨_,n,e,rfl,rfl,rfl⟩,z⟩
 ·refine ⟨its.toList,r,⟨o,n,I.kIn a o hk,hc,hd,by simpa using hs⟩,?_⟩
  have e:=r.length
  simp only [Array.length_toList] at e
  omega
theorem Sn.tuple (I:Sn X pins σ H s) (h:Su X.K H a xs):∃its:List S2,Sa0 xs its/\IsTup s.heap a its.toArray/\xs.length<=S6:=by
 rcases h with h|⟨o,its,n,hk,hc,hs,hz,r⟩
 ·obtain ⟨z,its,r,p⟩:=h.ok I.hok
  exact ⟨its,r,p,z⟩
 ·refine ⟨its.toList,r,⟨o,I.kIn a o hk,hc,n,by simpa using hs⟩,?_⟩
  have e:=r.length
  simp only [Array.length_toList] at e
  omega
theorem Sn.list_inj (I:Sn X pins σ H s) (h:Sv X.K H a xs) (h':Sv X.K H a ys):xs=ys:=by
 obtain ⟨its,r,⟨o,n,e,_,_,d⟩,_⟩:=I.list h
 obtain ⟨its',r',⟨o',n',e',_,_,d'⟩,_⟩:=I.list h'
 rw [e] at e';cases e'
 rw [d] at d'
 injection d' with d1 _
 have:=by simpa using congrArg Array.toList d1
 subst this
 exact r.inj r'
theorem Sn.tuple_inj (I:Sn X pins σ H s) (h:Su X.K H a xs) (h':Su X.K H a ys):xs=ys:=by
 obtain ⟨its,r,⟨o,e,_,n,d⟩,_⟩:=I.tuple h
 obtain ⟨its',r',⟨o',e',_,n',d'⟩,_⟩:=I.tuple h'
 rw [e] at e';cases e'
 rw [d] at d'
 injection d' with d1 _
 have:=by simpa using congrArg Array.toList d1
 subst this
 exact r.inj r'
end
abbrev Cx.wish (X:Cx) (E:S2->S3->Prop):Cx:={X with xe:=E}
abbrev Cx.nox (X:Cx):Cx:=X.wish λ_ _=>False
theorem Cx.Ok.wish {X:Cx} (ok:X.Ok) (E):(X.wish E).Ok:=
 ⟨ok.mod,ok.kind,ok.glob,ok.blt,ok.above,ok.inj,ok.has,ok.cab,ok.hd,ok.frames,ok.stk,ok.exf,ok.bs,ok.bsz,ok.noex,ok.exfs,ok.funs,ok.frf⟩
theorem Cx.Ok.unwish {X:Cx} (ok:(X.wish E).Ok):X.Ok:=
 ⟨ok.mod,ok.kind,ok.glob,ok.blt,ok.above,ok.inj,ok.has,ok.cab,ok.hd,ok.frames,ok.stk,ok.exf,ok.bs,ok.bsz,ok.noex,ok.exfs,ok.funs,ok.frf⟩
section
variable {X:Cx} {pins:List (S1×Obj)} {σ:St} {H:Hp} {s:S3} {E:S2->S3->Prop}
theorem Sn.wish (I:Sn X pins σ H s) (E):Sn (X.wish E) pins σ H s:=⟨I.ok.wish E,I.os,I.bare,I.base,I.loc,I.cell,I.free,I.freeC,I.pin,I.hok,I.len⟩
theorem Sn.unwish (I:Sn (X.wish E) pins σ H s):Sn X pins σ H s:=⟨I.ok.unwish,I.os,I.bare,I.base,I.loc,I.cell,I.free,I.freeC,I.pin,I.hok,I.len⟩
theorem SP.unwish (h:SP (X.wish E) pins D f s'):SP X pins D f s':=by
 cases f with
 |next=>obtain ⟨σ',H',I,q⟩:=h;exact ⟨σ',H',I.unwish,q⟩
 |brk=>obtain ⟨σ',H',I,q⟩:=h;exact ⟨σ',H',I.unwish,q⟩
 |cont=>obtain ⟨σ',H',I,q⟩:=h;exact ⟨σ',H',I.unwish,q⟩
 |ret u=>obtain ⟨v,σ',H',I,r,q⟩:=h;exact ⟨v,σ',H',I.unwish,r,q⟩
theorem PSs.nox {st} (h:PSs X.nox st t):PSs X st t:=λpins s σ H D I hw=>
 wpAny_mono (h pins s σ H D (I.wish _) hw) (λ_ _ q=>q.unwish) λ_ _ z=>False.elim z
end
section
variable {X:Cx} {st:Stmt} {rest:List Stmt} {t u:TS} {e:Expr} {te:TE} {pos:Pos}
def Srx:TS:=λD σ H=>D.nx σ H
def Soh (t u:TS):TS:=λD σ H=>t {D with nx:=u D} σ H
theorem Jn6:PSs X [] Srx:=λ_ _ σ H _ I h=>wpAny_execs_nil ⟨σ,H,I,h⟩
theorem Sw (h1:PS X st t) (h2:PSs X rest u):PSs X (st::rest) (Soh t u):=by
 intro pins s σ H D I h
 refine wpAny_execs_cons (thn (h1 pins s σ H {D with nx:=u D} I h) λf s1 q=>?_)
 cases f with
 |next=>
  obtain ⟨σ',H',I',q⟩:=q
  exact h2 pins s1 σ' H' D I' q
 |ret v=>exact q
 |brk=>exact q
 |cont=>exact q
theorem Sy (h1:PS X st t):PSs X [st] t:=by
 intro pins s σ H D I h
 refine wpAny_execs_cons (thn (h1 pins s σ H D I h) λf s1 q=>?_)
 cases f with
 |next=>exact wpAny_execs_nil q
 |ret v=>exact q
 |brk=>exact q
 |cont=>exact q
def Sod:TS:=λD σ H=>D.bk σ H
theorem Jzs:PS X (.Break pos) Sod:=λ_ _ σ H _ I h=>wpAny_Break ⟨σ,H,I,h⟩
theorem Sn.quiet (I:Sn X pins σ H s):interactive X.env=false:=by simp [interactive,I.ok.kind]
def Srs (te:TE):TS:=λD σ H=>te σ H λ_ H1=>D.nx σ H1
theorem Jp0 (he:PE X e te) (hs:swapsWith e none pos.line X.env=pure false:=by rfl):PS X (.Expr e pos) (Srs te):=by
 intro pins s σ H D I h
 exact wpAny_Expr_any (thn (he pins s σ H _ I h) λv s1 ⟨x,H1,I1,r1,q1⟩=>⟨σ,H1,I1,q1⟩) I.quiet hs
def Sw5 (te:TE):TS:=λD σ H=>te σ H D.rt
theorem Jn0 (he:PE X e te):PS X (.Return (some e) pos) (Sw5 te):=by
 intro pins s σ H D I h
 exact wpAny_Return_some (thn (he pins s σ H _ I h) λv s1 ⟨x,H1,I1,r1,q1⟩=>⟨x,σ,H1,I1,r1,q1⟩)
def Sw2 (c:TT) (t u:TS):TS:=λD σ H=>c σ H λb H1=>if b=true then t D σ H1 else u D σ H1
theorem Jng (hc:PT X c tc) (ha:PSs X a t) (hb:PSs X b u):PS X (.If c a b pos) (Sw2 tc t u):=by
 intro pins s σ H D I h
 refine wpAny_If (thn (hc pins s σ H _ I h) λd s1 zq=>?_)
 obtain ⟨H1,I1,q1⟩:=zq
 cases d with
 |true=>exact ha pins s1 σ H1 D I1 q1
 |false=>exact hb pins s1 σ H1 D I1 q1
end
abbrev TG:=V->St->Hp->(St->Hp->Prop)->Prop
abbrev TGs:=List V->St->Hp->(St->Hp->Prop)->Prop
def PG (X:Cx) (target:Expr) (t:TG):Prop:=
 ∀(pins:List (S1×Obj)) (s:S3) (σ:St) (H:Hp) (v:V) (u:S2) (Q:St->Hp->Prop),Sn X pins σ H s->Sa5 v u->t v σ H Q->
  Sc (model X.prog X.w) X.A (assign target X.env u) (λ_ s'=>∃σ' H',Sn X pins σ' H' s'/\Q σ' H') X.xe s
def PGs (X:Cx) (ts:List Expr) (t:TGs):Prop:=
 ∀(pins:List (S1×Obj)) (s:S3) (σ:St) (H:Hp) (vs:List V) (us:List S2) (Q:St->Hp->Prop),Sn X pins σ H s->Sa0 vs us->t vs σ H Q->
  Sc (model X.prog X.w) X.A (assignInOrder ((assignEach ts X.env).map (·.2)) us) (λ_ s'=>∃σ' H',Sn X pins σ' H' s'/\Q σ' H') X.xe s
abbrev Smj:=V->V->V->Hp->(Hp->Prop)->Prop
def Smi (X:Cx) (t:Smj):Prop:=
 ∀(pins:List (S1×Obj)) (s:S3) (σ:St) (H:Hp) (o i v:V) (ov iv u:S2) (Q:Hp->Prop),Sn X pins σ H s->Sa5 o ov->Sa5 i iv->Sa5 v u->t o i v H Q->
  Sc (model X.prog X.w) X.A (setItem ov iv u) (λ_ s'=>∃H',Sn X pins σ H' s'/\Q H') X.xe s
abbrev TIp:=V->V->Hp->VK->Prop
def PIp (X:Cx) (op:Operator) (t:TIp):Prop:=
 ∀(pins:List (S1×Obj)) (s:S3) (σ:St) (H:Hp) (x y:V) (v u:S2) (Q:VK),Sn X pins σ H s->Sa5 x v->Sa5 y u->t x y H Q->
  Sc (model X.prog X.w) X.A (inplaceOp op v u) (EP X pins σ Q) X.xe s
section
variable {X:Cx} {pos:Pos}
def Jpa (i:Nat):TG:=λv σ H Q=>Q (σ.set i (some v)) H
theorem Jmz (hN:X.N.Nodup) (hi:X.N[i]?=some x) (hx:Loc X.env.scope x) (hf:X.fn x=true\/X.env.scope.names.lookup x=some .local:=by first|exact .inl rfl|exact .inr rfl|assumption):PG X (.Name x pos) (Jpa i):=by
 intro pins s σ H v u Q I r h
 exact wpAny_assign_Name (Jw9 I hN hi hx r (λs' I'=>⟨_,H,I',h⟩) hf)
def Sks:TGs:=λvs σ H Q=>vs= []/\Q σ H
def Jso (t:TG) (u:TGs):TGs:=λvs σ H Q=>∃v r,vs=v::r/\t v σ H λσ' H'=>u r σ' H' Q
theorem Joe:PGs X [] Sks:=by
 rintro pins s σ H vs us Q I r ⟨e,h⟩
 subst e
 cases r
 exact assignInOrder_nil ⟨σ,H,I,h⟩
theorem Jn7 (h1:PG X e t) (h2:PGs X es u)
  (hs:(assignEach (e::es) X.env).map (·.2)=assign e X.env::(assignEach es X.env).map (·.2):=by rfl):PGs X (e::es) (Jso t u):=by
 rintro pins s σ H vs us Q I r ⟨v,vr,e1,h⟩
 subst e1
 cases r with
 |cons r rr=>
  rw [hs]
  exact assignInOrder_cons (thn (h1 pins s σ H _ _ _ I r h) λ_ s1 ⟨σ1,H1,I1,q1⟩=>h2 pins s1 σ1 H1 _ _ Q I1 rr q1)
inductive Sj9 (K:Se) (n:Nat) (t:TGs) (v:V) (σ:St) (H:Hp) (Q:(St->Hp->Prop)):Prop where
 |mk (a:_) (xs:_) (_:v= .ref a) (_:Su K H a xs) (_:xs.length=n) (_:t xs σ H Q)
theorem Jr7 {k} (hc:X.calm=true) (h:PGs X es t)
  (hn:(assignEach es X.env).length=n:=by rfl) (hst:(assignEach es X.env).findIdx? (·.1)=none:=by rfl):PG X (.Tuple es k pos) (Sj9 X.K n t):=by
 rintro pins s σ H v u Q I r ⟨a,xs,e1,hq,hl,hw⟩
 subst e1
 cases r
 obtain ⟨its,rv,ht,hz⟩:=I.tuple hq
 refine assign_Tuple_tuple (I.ok.hd hc) ht (by simp [hn,<-hl,rv.length]) hst λh' hx=>?_
 have I1:Sn X pins σ H {s with heap:=h'}:=I.kept λb o e=>hx b o (yo (yi e)) e
 exact h pins _ σ H xs _ Q I1 (by simpa using rv) hw
def Sv8 (to ti:TE) (t:Smj):TG:=λv σ H Q=>to σ H λo H1=>ti σ H1 λi H2=>t o i v H2 λH3=>Q σ H3
theorem Js1 (ho:PE X o to) (hi:PE X i ti) (hs:Smi X t)
  (ha:∀v,assign (.Subscript o i pos) X.env v=(do
   let ov<-holding [v] (eval o X.env)
   let iv<-holding [v,ov] (eval i X.env)
   standAt pos
   holding [v,ov,iv] (setItem ov iv v)
   release [v,ov,iv] []):=by intro _;rfl):PG X (.Subscript o i pos) (Sv8 to ti t):=by
 intro pins s σ H v u Q I r h
 exact S4 (wpAny_holding (thn (ho pins s σ H _ I h) λov s1 ⟨x,H1,I1,r1,q1⟩=>S4 (wpAny_holding (thn (hi pins s1 σ H1 _ I1 q1) λiv s2 ⟨y,H2,I2,r2,q2⟩=>S4 (wpAny_standAt (S4 (wpAny_holding (thn (hs pins s2 σ H2 x y v ov iv u _ I2 r1 r2 r q2) λ_ s3 ⟨H3,I3,q3⟩=>wpAny_release ⟨σ,H3,I3,q3⟩))))))))
def Srp (te:TE) (g:TG):TS:=λD σ H=>te σ H λx H1=>g x σ H1 D.nx
theorem Jpi (he:PE X e te) (hg:PG X tg g) (hs:swapsWithSole [tg] e pos.line X.env=pure false:=by rfl) (hw:swappedStores [tg] e X.env=pure none:=by rfl)
  (h1:(assignEach [tg] X.env).map (·.2)= [assign tg X.env]:=by rfl):PS X (.Assign [tg] e pos) (Srp te g):=by
 intro pins s σ H D I h
 refine wpAny_Assign_stores (thn (he pins s σ H _ I h) λv s1 zq=>?_) hs hw
 obtain ⟨x,H1,I1,r1,q1⟩:=zq
 rw [h1]
 exact thn (hg pins s1 σ H1 x v _ I1 r1 q1) λ_ s2 q=>q
theorem Jn3 (hN:X.N.Nodup) (hi:X.N[i]?=some x) (hx:Loc X.env.scope x) (he:PE X e te) (hs:swapsWith e (some (.Name x pos')) pos.line X.env=pure false:=by rfl) (hf:X.fn x=true\/X.env.scope.names.lookup x=some .local:=by first|exact .inl rfl|exact .inr rfl|assumption):
  PS X (.Assign [.Name x pos'] e pos) (Srp te (Jpa i)):=by
 intro pins s σ H D I h
 exact wpAny_Assign_Name (thn (he pins s σ H _ I h) λv s1 ⟨y,H1,I1,r1,q1⟩=>Jw9 I1 hN hi hx r1 (λs2 I2=>⟨_,H1,I2,q1⟩) hf) hs
def Srq (to ti te:TE) (tget:V->V->Hp->VK->Prop) (tip:TIp) (tset:Smj):TS:=λD σ H=>to σ H λo H1=>ti σ H1 λi H2=>tget o i H2 λx H3=>te σ H3 λy H4=>tip x y H4 λz H5=>tset o i z H5 λH6=>D.nx σ H6
def Sqi (X:Cx) (t:V->V->Hp->VK->Prop):Prop:=
 ∀(pins:List (S1×Obj)) (s:S3) (σ:St) (H:Hp) (o i:V) (ov iv:S2) (Q:VK),Sn X pins σ H s->Sa5 o ov->Sa5 i iv->t o i H Q->
  Sc (model X.prog X.w) X.A (getItem ov iv) (EP X pins σ Q) X.xe s
theorem Yf3 (ho:PE X o to) (hi:PE X i ti) (hg:Sqi X tget) (he:PE X e te) (hp:PIp X op tip) (hs:Smi X tset)
  (ha:∀ov iv new,augStore i ov iv new=(do holding [new,ov,iv] (setItem ov iv new);release [new,ov,iv] [];pure .next):=by intros;rfl):PS X (.AugAssign (.Subscript o i tpos) op e pos) (Srq to ti te tget tip tset):=by
 intro pins s σ H D I h
 exact wpAny_AugAssign_SubscriptAny (thn (ho pins s σ H _ I h) λov s1 ⟨x1,H1,I1,r1,q1⟩=>thn (hi pins s1 σ H1 _ I1 q1) λiv s2 ⟨x2,H2,I2,r2,q2⟩=>thn (hg pins s2 σ H2 x1 x2 ov iv _ I2 r1 r2 q2) λold s3 ⟨x3,H3,I3,r3,q3⟩=>thn (he pins s3 σ H3 _ I3 q3) λv s4 ⟨x4,H4,I4,r4,q4⟩=>thn (hp pins s4 σ H4 x3 x4 old v _ I4 r3 r4 q4) λnew s5 ⟨x5,H5,I5,r5,q5⟩=>thn (hs pins s5 σ H5 x1 x2 x5 ov iv new _ I5 r1 r2 r5 q5) λ_ s6 ⟨H6,I6,q6⟩=>⟨σ,H6,I6,q6⟩) ha
inductive ipI (f:Int->Int->Int) (x:V) (y:V) (H:Hp) (Q:VK):Prop where
 |mk (i:_) (j:_) (_:x= .int i) (_:y= .int j) (_:Q (.int (f i j)) H)
theorem Sn1:PIp X .Sub (ipI λi j=>i - j):=by
 rintro pins s σ H x y v u Q I r1 r2 ⟨i,j,e1,e2,q⟩
 subst e1;subst e2
 obtain ⟨t,rfl⟩:=r1
 obtain ⟨t',rfl⟩:=r2
 exact isub_int ⟨.int _,H,I.tok _,⟨_,rfl⟩,q⟩
def Sok (c:TT) (tb:TS):TS:=λD σ H=>∃W:Nat->St->Hp->Prop,(∃m,W m σ H)/\∀m σ H,W m σ H->
 c σ H λb H1=>if b=true then ∃N:St->Hp->Prop,(∀σ' H',N σ' H'->∃m',m' < m/\W m' σ' H')/\tb {D with nx:=N,ct:=N,bk:=D.nx} σ H1 else D.nx σ H1
theorem Yda (hp:PassesOwn (model X.prog X.w) X.A X.env X.xe) (hc:PT X c tc) (hb:PSs X body tb):PS X (.While c body [] pos) (Sok tc tb):=by
 rintro pins s σ H D I ⟨W,⟨m0,w0⟩,turn⟩
 refine wpAny_While (codeAny_whileLoop (λn s'=>∃σ' H',Sn X pins σ' H' s'/\W n σ' H') ?_ m0 ⟨σ,H,I,w0⟩)
 rintro n s1 ⟨σ1,H1,I1,w1⟩
 refine wpAny_passesOwn hp (thn (hc pins s1 σ1 H1 _ I1 (turn n σ1 H1 w1)) λb s2 zq=>?_)
 obtain ⟨H2,I2,q2⟩:=zq
 cases b with
 |true=>
  obtain ⟨N,hN,q2⟩:=q2
  refine wpAny_passesOwn hp (thn (hb pins s2 σ1 H2 _ I2 q2) λf s3 q3=>?_)
  cases f with
  |next=>
   obtain ⟨σ3,H3,I3,n3⟩:=q3
   obtain ⟨m',hm,w3⟩:=hN σ3 H3 n3
   exact ⟨m',hm,σ3,H3,I3,w3⟩
  |cont=>
   obtain ⟨σ3,H3,I3,n3⟩:=q3
   obtain ⟨m',hm,w3⟩:=hN σ3 H3 n3
   exact ⟨m',hm,σ3,H3,I3,w3⟩
  |brk=>exact q3
  |ret v=>exact q3
 |false=>
  exact wpAny_execs_nil ⟨σ1,H2,I2,q2⟩
end
structure It where
 go:Nat->Hp->Prop
 yld:Nat->Hp->V->Hp->Prop
 stop:Nat->Hp->Prop
def Jtx (X:Cx) (pins:List (S1×Obj)) (H:Hp) (b:S1):Prop:=
 H b=none/\b≠X.env.locals/\b∉X.fs/\(b∈X.ex\/X.s₀.heap.objs.size<=b)/\(∀x c,X.env.cells.lookup x=some c->c≠b)/\∀p∈X.pn++pins,p.1≠b
theorem Sn.fpOk {σ:St} {H H'} {s} {b:S1} (I:Sn X pins σ H s) (hb:s.heap.objs.size<=b) (hn:H' b=none):Jtx X pins H' b:=by
 refine ⟨hn,ybd (yah I.lt hb),I.nofs hb,.inr (yan I.sz hb),λx c e z=>?_,λp hp z=>?_⟩
 ·obtain ⟨v,q⟩:=I.cell x c e
  exact absurd (yah q.lt (by rw [z];exact hb)) (yar _)
 ·exact absurd (yah (yi (I.pin p hp).1) (by rw [z];exact hb)) (yar _)
structure Turn (P:S7) (w:S9) (K:Se) (tg:Expr) (J:It) (fp:List S1) (it:S1) (tn:Nat->Sb->Prop):Prop where
 mem:it∈fp
 obj:∀i h,tn i h->∀b∈fp,∃o,h.get? b=some o/\∀v,o.data≠ .cell v
 keep:∀i h h',tn i h->(∀b∈fp,∀o,h.get? b=some o->h'.get? b=some o)->tn i h'
 item:∀(X:Cx),X.prog=P->X.w=w->X.K=K->X.calm=true->∀(i:Nat) (pins:List (S1×Obj)) (s:S3) (σ:St) (H:Hp) (E:S2->S3->Prop),Sn X pins σ H s->(∀b∈fp,Jtx X pins H b)->tn i s.heap->J.go i H->
  Sc (model P w) X.A (pyNext (.ref it)) (λr s1=>∃u,r=some u/\
   Sc (model P w) X.A (letOwnedTupleGo tg (.ref it) u) (λ_ s2=>∃x H',Sn X pins σ H' s2/\Sa5 x u/\J.yld i H x H'/\tn (i+1) s2.heap/\∀b∈fp,H' b=none) E s1) E s
 done:∀(X:Cx),X.prog=P->X.w=w->X.K=K->X.calm=true->∀(i:Nat) (pins:List (S1×Obj)) (s:S3) (σ:St) (H:Hp) (E:S2->S3->Prop),Sn X pins σ H s->(∀b∈fp,Jtx X pins H b)->tn i s.heap->J.stop i H->
  Sc (model P w) X.A (pyNext (.ref it)) (λr s1=>r=none/\Sn X pins σ H s1) E s
 self:∀(A:Sa) (i:Nat) (s:S3) (Q:S2->S3->Prop) (E:S2->S3->Prop),tn i s.heap->Q (.ref it) s->Sc (model P w) A (pyIter (.ref it)) Q E s
abbrev TI:=St->Hp->(It->Hp->Prop)->Prop
def PIE (X:Cx) (pins:List (S1×Obj)) (σ:St) (tg:Expr) (R:It->Hp->Prop) (itv:S2) (s2:S3):Prop:=
 ∃(it:S1) (fp:List S1) (tn:Nat->Sb->Prop) (J:It) (H':Hp),itv= .ref it/\Sn X pins σ H' s2/\Turn X.prog X.w X.K tg J fp it tn/\tn 0 s2.heap/\(∀b∈fp,Jtx X pins H' b)/\R J H'
def PI (X:Cx) (tg iter:Expr) (wi:TI):Prop:=
 ∀(pins:List (S1×Obj)) (s:S3) (σ:St) (H:Hp) (R:It->Hp->Prop),Sn X pins σ H s->wi σ H R->
  Sc (model X.prog X.w) X.A (eval iter X.env) (λv s1=>Sc (model X.prog X.w) X.A (pyIter v) (PIE X pins σ tg R) X.xe s1) X.xe s
theorem Yaj {s} {tg} {it} {u} {o} {n} {vs} {Q} (ho:s.heap.get? it=some o) (hc:o.cls= .type n) (hd:o.data= .fields vs)
  (hn: ["enumerate","zip","dict_itemiterator","dict_reverseitemiterator","odict_iterator","itertools.zip_longest","itertools.pairwise"].contains n=false) (hQ:Q () s):Sc M A (letOwnedTupleGo tg (.ref it) u) Q E s:=by
 cases tg <;> first
  |exact S5 hQ
  | (cases u <;> first
    |exact S5 hQ
    | (refine S4 (wpAny_load ho ?_)
       rw [hc,hd]
       show Sc M A (if (["enumerate","zip","dict_itemiterator","dict_reverseitemiterator","odict_iterator","itertools.zip_longest","itertools.pairwise"].contains n&&vs[0]?==some (rawInt _))=true then _ else _) Q E s
       rw [if_neg (by intro h;rw [hn] at h;cases h)]
       exact S5 hQ))
def Itl (K:Se) (a:S1):It:=
 ⟨λi H=>∃xs x,Sv K H a xs/\xs[i]?=some x,λi H x H'=>H'=H/\∀xs,Sv K H a xs->xs[i]?=some x,λi H=>∃xs,Sv K H a xs/\xs.length<=i⟩
def Itt (K:Se) (a:S1):It:=
 ⟨λi H=>∃xs x,Su K H a xs/\xs[i]?=some x,λi H x H'=>H'=H/\∀xs,Su K H a xs->xs[i]?=some x,λi H=>∃xs,Su K H a xs/\xs.length<=i⟩
def Itr (lo:Int) (n:Nat):It:=⟨λi _=>i < n,λi H x H'=>H'=H/\x= .int (lo+i),λi _=>n<=i⟩
theorem Jxk {K} (a it):Turn P w K tg (Itl K a) [it] it (λi h=>h.IsListIter it a i) where
 mem:=by simp
 obj:=λi h st b hb=>by
  have e:=by simpa using hb
  subst e
  obtain ⟨o,e,c,d⟩:=st
  exact ⟨o,e,λv z=>by rw [d] at z;cases z⟩
 keep:=λi h h' st k=>st.at λo e=>k it (by simp) o e
 item:=by
  intro X hP hw hK hc i pins s σ H E I hf st hg
  subst hP hw hK
  obtain ⟨xs,x,hq,hx⟩:=hg
  obtain ⟨its,rv,p,hz⟩:=I.list hq
  obtain ⟨u,hu,ru⟩:=rv.get hx
  obtain ⟨f0,f1,f2,f3,f4,f5⟩:=hf it (by simp)
  refine wpAny_pyNext_list_item st p.isList (by simpa using hu) λh' st' sb=>?_
  have I1:Sn X pins σ H {s with heap:=h'}:=I.turned (λb o hb e=>(sb.2 b hb).trans e) f0 f1 f3 f4 f5
  obtain ⟨o,e,c,d⟩:=id st'
  exact ⟨u,rfl,Yaj e c d (by decide) ⟨x,H,I1,ru,⟨rfl,λys hy=>by rw [I.list_inj hy hq];exact hx⟩,st',λb hb=>(hf b hb).1⟩⟩
 done:=by
  intro X hP hw hK hc i pins s σ H E I hf st hg
  subst hP hw hK
  obtain ⟨xs,hq,hx⟩:=hg
  obtain ⟨its,rv,p,hz⟩:=I.list hq
  obtain ⟨f0,f1,f2,f3,f4,f5⟩:=hf it (by simp)
  have hl:=rv.length
  exact wpAny_pyNext_list_end (I.ok.hd hc) st p.isList (by simp;omega) λh' eb=>⟨rfl,I.turned (λb o hb e=>eb b o hb e) f0 f1 f3 f4 f5⟩
 self:=λ_ _ _ _ _ st h=>wpAny_pyIter_listiter st h
theorem Jwb {K} (a it):Turn P w K tg (Itt K a) [it] it (λi h=>h.IsTupleIter it a i) where
 mem:=by simp
 obj:=λi h st b hb=>by
  have e:=by simpa using hb
  subst e
  obtain ⟨o,e,c,d⟩:=st
  exact ⟨o,e,λv z=>by rw [d] at z;cases z⟩
 keep:=λi h h' st k=>st.at λo e=>k it (by simp) o e
 item:=by
  intro X hP hw hK hc i pins s σ H E I hf st hg
  subst hP hw hK
  obtain ⟨xs,x,hq,hx⟩:=hg
  obtain ⟨its,rv,p,hz⟩:=I.tuple hq
  obtain ⟨u,hu,ru⟩:=rv.get hx
  obtain ⟨f0,f1,f2,f3,f4,f5⟩:=hf it (by simp)
  refine wpAny_pyNext_tuple_item st (p) (by simpa using hu) λh' st' sb=>?_
  have I1:Sn X pins σ H {s with heap:=h'}:=I.turned (λb o hb e=>(sb.2 b hb).trans e) f0 f1 f3 f4 f5
  obtain ⟨o,e,c,d⟩:=id st'
  exact ⟨u,rfl,Yaj e c d (by decide) ⟨x,H,I1,ru,⟨rfl,λys hy=>by rw [I.tuple_inj hy hq];exact hx⟩,st',λb hb=>(hf b hb).1⟩⟩
 done:=by
  intro X hP hw hK hc i pins s σ H E I hf st hg
  subst hP hw hK
  obtain ⟨xs,hq,hx⟩:=hg
  obtain ⟨its,rv,p,hz⟩:=I.tuple hq
  obtain ⟨f0,f1,f2,f3,f4,f5⟩:=hf it (by simp)
  have hl:=rv.length
  exact wpAny_pyNext_tuple_end (I.ok.hd hc) st (p) (by simp;omega) λh' eb=>⟨rfl,I.turned (λb o hb e=>eb b o hb e) f0 f1 f3 f4 f5⟩
 self:=λ_ _ _ _ _ st h=>wpAny_pyIter_tupleiter st h
theorem Ya6 {K} (it) (lo) (n):Turn P w K tg (Itr lo n) [it] it (λi h=>IsRangeIter h it (lo+i*1) (n - i) 1) where
 mem:=by simp
 obj:=λi h st b hb=>by
  have e:=by simpa using hb
  subst e
  exact ⟨_,st,λv z=>by
   cases z⟩
 keep:=λi h h' st k=>k it (by simp) _ st
 item:=by
  intro X hP hw hK hc i pins s σ H E I hf st hg
  obtain ⟨f0,f1,f2,f3,f4,f5⟩:=hf it (by simp)
  refine (Walks.range (I.ok.hd hc) it lo 1 n).item i s _ _ hg st λv h' tk hv st' kk=>?_
  obtain ⟨t,rfl⟩:=hv
  have I1:Sn X pins σ H {s with heap:=h',toks:=tk}:=I.turned (λb o hb e=>kk b o (by simpa using hb) e) f0 f1 f3 f4 f5
  refine ⟨_,rfl,Yaj st' rfl rfl (by decide) ⟨.int (lo+i),H,I1,⟨t,?_⟩,⟨rfl,rfl⟩,st',λb hb=>(hf b hb).1⟩⟩
  rw [Int.mul_one]
 done:=by
  intro X hP hw hK hc i pins s σ H E I hf st hg
  obtain ⟨f0,f1,f2,f3,f4,f5⟩:=hf it (by simp)
  exact wpAny_pyNext_range_end (I.ok.hd hc) st (by have:n<=i:=hg;omega) λh' eb=>⟨rfl,I.turned (λb o hb e=>eb b o hb e) f0 f1 f3 f4 f5⟩
 self:=λ_ _ _ _ _ st h=>wpAny_pyIter_rangeiter st h
section
variable {X:Cx} {tg:Expr}
def Sqs (K:Se) (tl:TE):TI:=λσ H R=>tl σ H λx H1=>∃a,x= .ref a/\(∃xs,Sv K H1 a xs)/\R (Itl K a) H1
def Svc (K:Se) (tl:TE):TI:=λσ H R=>tl σ H λx H1=>∃a,x= .ref a/\(∃xs,Su K H1 a xs)/\R (Itt K a) H1
theorem Jo1 (hl:PE X l tl):PI X tg l (Sqs X.K tl):=by
 intro pins s σ H R I h
 refine thn (hl pins s σ H _ I h) λv s1 zq=>?_
 obtain ⟨x,H1,I1,r1,q1⟩:=zq
 obtain ⟨a,e,⟨xs,hq⟩,q⟩:=q1
 subst e
 cases r1
 obtain ⟨its,rv,p,hz⟩:=I1.list hq
 refine wpAny_pyIter_list p.isList ⟨s1.heap.objs.size,[s1.heap.objs.size],_,_,H1,rfl,I1.kept λb o e=>yl _ e,Jxk a _,⟨_,yq _ rfl,rfl,rfl⟩,λb hb=>?_,q⟩
 have e:=by simpa using hb
 subst e
 exact I1.fpOk (yk _) (I1.hok.fresh (yk _))
theorem Jqe (hl:PE X l tl):PI X tg l (Svc X.K tl):=by
 intro pins s σ H R I h
 refine thn (hl pins s σ H _ I h) λv s1 zq=>?_
 obtain ⟨x,H1,I1,r1,q1⟩:=zq
 obtain ⟨a,e,⟨xs,hq⟩,q⟩:=q1
 subst e
 cases r1
 obtain ⟨its,rv,p,hz⟩:=I1.tuple hq
 refine wpAny_pyIter_tuple (p) ⟨s1.heap.objs.size,[s1.heap.objs.size],_,_,H1,rfl,I1.kept λb o e=>yl _ e,Jwb a _,⟨_,yq _ rfl,rfl,rfl⟩,λb hb=>?_,q⟩
 have e:=by simpa using hb
 subst e
 exact I1.fpOk (yk _) (I1.hok.fresh (yk _))
theorem Jzt {σ:St} {H} {s} {R} {E} {lo hi} {t u v} {tk} (I:Sn X pins σ H s) (h1: -(2^62)<=lo) (h2:lo < 2^62) (h3: -(2^62)<=hi) (h4:hi < 2^62)
  (q:R (Itr lo (hi - lo).toNat) H):Sc (model X.prog X.w) X.A (pyIter (.ref s.heap.objs.size)) (PIE X pins σ tg R) E {s with heap:=s.heap.push {cls:=.type "range",data:=.fields #[.int lo t,.int hi u,.int 1 v]},toks:=tk}:=by
 refine wpAny_pyIter_range (IsRange.new ..) (small_one h1 h2 h3 h4) ?_
 have I1:Sn X pins σ H {s with heap:=s.heap.push {cls:=.type "range",data:=.fields #[.int lo t,.int hi u,.int 1 v]},toks:=tk}:=I.kept λb o e=>yl _ e
 refine ⟨(s.heap.push {cls:=.type "range",data:=.fields #[.int lo t,.int hi u,.int 1 v]}).objs.size,[(s.heap.push {cls:=.type "range",data:=.fields #[.int lo t,.int hi u,.int 1 v]}).objs.size],_,_,H,rfl,
  I1.kept λb o e=>yl _ e,Ya6 _ lo (hi - lo).toNat,?_,λb hb=>?_,q⟩
 ·have e1:lo+(0:Nat)*1=lo:=by simp
  have e2:(hi - lo).toNat - (0:Nat)=Builtin.Range.rangeSize lo hi 1:=by rw [rangeSize_one];split <;> omega
  rw [e1,e2]
  exact yq _ rfl
 ·have e:b=(s.heap.push {cls:=.type "range",data:=.fields #[.int lo t,.int hi u,.int 1 v]}).objs.size:=by simpa using hb
  subst e
  exact I1.fpOk (yk _) (I1.hok.fresh (yk _))
def Sqt (ta:TA):TI:=λσ H R=>ta σ H λvs H1=>∃j:Int,vs= [.int j]/\ -(2^62)<=j/\j < 2^62/\R (Itr 0 j.toNat) H1
def Squ (ta:TA):TI:=λσ H R=>ta σ H λvs H1=>∃i j:Int,vs= [.int i,.int j]/\(-(2^62)<=i/\i < 2^62/\ -(2^62)<=j/\j < 2^62)/\R (Itr i (j - i).toNat) H1
theorem Jpc (hg:Gl X "range") (hm:X.mg "range" =none) (ha:PA X [a] ta) (hs:starEach [a] X.env= [(false,eval a X.env)]:=by rfl):PI X tg (.Call (.Name "range" p) [a] [] pos) (Sqt ta):=by
 intro pins s σ H R I h
 refine Call_ (Jqo I hg hm boot_range (PyProof.Rows.callWith_type1 (thn (ha pos pins s σ H _ I h) λus s1 zq=>?_) hs rfl))
 obtain ⟨vs,H1,I1,r1,q1⟩:=zq
 obtain ⟨j,e,q1,q2,q⟩:=q1
 subst e
 cases r1 with
 |cons r rr=>
  cases rr
  obtain ⟨t,rfl⟩:=r
  exact call_range_1 (Jzt I1 (by omega) (by omega) q1 q2 (by simpa using q))
theorem Ybs (hg:Gl X "range") (hm:X.mg "range" =none) (ha:PA X [a,b] ta) (hs:starEach [a,b] X.env= [(false,eval a X.env),(false,eval b X.env)]:=by rfl) (hs2:starEach [b] X.env= [(false,eval b X.env)]:=by rfl):
  PI X tg (.Call (.Name "range" p) [a,b] [] pos) (Squ ta):=by
 intro pins s σ H R I h
 refine Call_ (Jqo I hg hm boot_range (PyProof.Rows.callWith_type1 (thn (ha pos pins s σ H _ I h) λus s1 zq=>?_) (by rw [hs,hs2]) (by rw [hs2];rfl)))
 obtain ⟨vs,H1,I1,r1,q1⟩:=zq
 obtain ⟨i,j,e,⟨q1,q2,q3,q4⟩,q⟩:=q1
 subst e
 cases r1 with
 |cons r rr=>
  cases rr with
  |cons r' rr=>
   cases rr
   obtain ⟨t,rfl⟩:=r
   obtain ⟨t',rfl⟩:=r'
   exact call_range_2 (Jzt I1 q1 q2 q3 q4 q)
def Sw1 (wi:TI) (g:TG) (tb:TS):TS:=λD σ H=>wi σ H λJ H1=>∃W:Nat->Nat->St->Hp->Prop,(∃m,W 0 m σ H1)/\∀i m σ H,W i m σ H->
 (J.stop i H/\D.nx σ H)\/(J.go i H/\∃N:St->Hp->Prop,(∀σ' H',N σ' H'->∃m',m' < m/\W (i+1) m' σ' H')/\∀x H',J.yld i H x H'->g x σ H' λσ2 H2=>tb {D with nx:=N,ct:=N,bk:=D.nx} σ2 H2)
def Jw4 (fp:List S1) (h:Sb):List (S1×Obj):=fp.filterMap λb=>(h.get? b).map λo=>(b,o)
theorem Jr6 (hb:b∈fp) (e:h.get? b=some o):(b,o)∈Jw4 fp h:=List.mem_filterMap.mpr ⟨b,hb,by rw [e];rfl⟩
theorem Ybm (hp:p∈Jw4 fp h):p.1∈fp/\h.get? p.1=some p.2:=by
 obtain ⟨b,hb,e⟩:=List.mem_filterMap.mp hp
 cases q:h.get? b with
 |none=>rw [q] at e;cases e
 |some o=>
  rw [q] at e
  have e':=yv.inj e
  subst e'
  exact ⟨hb,q⟩
theorem Sn.pinned (I:Sn X pins σ H s) (hf:∀b∈fp,Jtx X pins H b) (ho:∀b∈fp,∃o,s.heap.get? b=some o/\∀v,o.data≠ .cell v):Sn X (pins++Jw4 fp s.heap) σ H s:=
 I.pins_of λp hp=>(ybh.mp hp).elim (λz=>I.pin p (ybb _ z)) λz=>by
  obtain ⟨hb,e⟩:=Ybm z
  obtain ⟨f0,f1,f2,_⟩:=hf p.1 hb
  obtain ⟨o,e',d⟩:=ho p.1 hb
  rw [e] at e';cases e'
  exact ⟨e,f0,f1,f2,d⟩
theorem Sn.unpinned (I:Sn X (pins++pl) σ H s):Sn X pins σ H s:=I.pins_of λp hp=>I.pin p (ybb _ (List.mem_append_left _ hp))
theorem Jpj (hp:PassesOwn (model X.prog X.w) X.A X.env X.xe) (hc:X.calm=true) (hi:PI X tg iter wi) (hg:PG X tg g) (hb:PSs X body tb)
  (hs:∀x,foldedSetIterable iter X.env x=pure x:=by intro _;rfl):PS X (.For tg iter body [] pos) (Sw1 wi g tb):=by
 intro pins s σ H D I h
 refine wpAny_For (thn (hi pins s σ H _ I h) λv s1 h1=>thn h1 λitv s2 h2=>?_) hs
 obtain ⟨it,fp,tn,J,H2,e,I2,T,st2,f2,W,⟨m0,w0⟩,turn⟩:=h2
 subst e
 have stat:∀{H':Hp},(∀b∈fp,H' b=none)->∀b∈fp,Jtx X pins H' b:=λhn b hb=>⟨hn b hb,(f2 b hb).2⟩
 refine codeAny_forLoop_any (λn s'=>∃i σ' H',Sn X pins σ' H' s'/\tn i s'.heap/\(∀b∈fp,H' b=none)/\W i n σ' H') ?_ m0 ⟨0,σ,H2,I2,st2,λb hb=>(f2 b hb).1,w0⟩
 rintro n s3 ⟨i,σ3,H3,I3,st3,fr3,w3⟩
 rcases turn i n σ3 H3 w3 with ⟨stop,qn⟩|⟨go,N,hN,step⟩
 ·refine wpAny_passesOwn hp (thn (T.done X rfl rfl rfl hc i pins s3 σ3 H3 X.xe I3 (stat fr3) st3 stop) λr s4 ⟨hr,I4⟩=>?_)
  subst hr
  exact wpAny_execs_nil ⟨σ3,H3,I4,qn⟩
 ·refine wpAny_passesOwn hp (thn (T.item X rfl rfl rfl hc i pins s3 σ3 H3 X.xe I3 (stat fr3) st3 go) λr s4 ⟨u,hr,h4⟩=>?_)
  subst hr
  refine wpAny_passesOwn hp (thn h4 λ_ s5 ⟨x,H5,I5,r5,y5,st5,fr5⟩=>wpAny_passesOwn hp (thn (hg _ s5 σ3 H5 x u _ (I5.pinned (stat fr5) (T.obj _ _ st5)) r5 (step x H5 y5)) λ_ s6 ⟨σ6,H6,I6,q6⟩=>wpAny_passesOwn hp (thn (hb _ s6 σ6 H6 _ I6 q6) λf s7 q7=>?_)))
  have again:∀{σ7:St} {H7:Hp},Sn X (pins++Jw4 fp s5.heap) σ7 H7 s7->N σ7 H7->∃m,m < n/\∃i σ' H',Sn X pins σ' H' s7/\tn i s7.heap/\(∀b∈fp,H' b=none)/\W i m σ' H':=λ{σ7 H7} I7 n7=>by
   obtain ⟨m',hm,w7⟩:=hN σ7 H7 n7
   refine ⟨m',hm,i+1,σ7,H7,I7.unpinned,T.keep _ _ _ st5 λb hb o e=>(I7.pin (b,o) (ybb _ (ybb _ (Jr6 hb e)))).1,λb hb=>?_,w7⟩
   obtain ⟨o,e,d⟩:=T.obj _ _ st5 b hb
   exact (I7.pin (b,o) (ybb _ (ybb _ (Jr6 hb e)))).2.1
  cases f with
  |next=>obtain ⟨σ7,H7,I7,n7⟩:=q7;exact again I7 n7
  |cont=>obtain ⟨σ7,H7,I7,n7⟩:=q7;exact again I7 n7
  |brk=>obtain ⟨σ7,H7,I7,q7⟩:=q7;exact ⟨σ7,H7,I7.unpinned,q7⟩
  |ret v=>obtain ⟨x7,σ7,H7,I7,r7,q7⟩:=q7;exact ⟨x7,σ7,H7,I7.unpinned,r7,q7⟩
end
theorem Jtd {K} {a} {xs} {g:TG} {tb:TS} {D:Jt9} {σ} {H} (Pv:Nat->St->Hp->Prop) (h0:Pv 0 σ H) (hl:∀i σ H,i<=xs.length->Pv i σ H->Sv K H a xs)
  (hs:∀i x σ H,xs[i]?=some x->Pv i σ H->g x σ H λσ2 H2=>tb {D with nx:=Pv (i+1),ct:=Pv (i+1),bk:=D.nx} σ2 H2) (hd:∀σ H,Pv xs.length σ H->D.nx σ H):
  ∃W:Nat->Nat->St->Hp->Prop,(∃m,W 0 m σ H)/\∀i m σ H,W i m σ H->
   ((Itl K a).stop i H/\D.nx σ H)\/((Itl K a).go i H/\∃N:St->Hp->Prop,(∀σ' H',N σ' H'->∃m',m' < m/\W (i+1) m' σ' H')/\∀x H',(Itl K a).yld i H x H'->g x σ H' λσ2 H2=>tb {D with nx:=N,ct:=N,bk:=D.nx} σ2 H2):=by
 refine ⟨λi m σ H=>m=xs.length - i/\i<=xs.length/\Pv i σ H,⟨xs.length,by simp,yai _,h0⟩,?_⟩
 rintro i m σ H ⟨rfl,hi,p⟩
 have q:=hl i σ H hi p
 by_cases hlt:i < xs.length
 ·refine .inr ⟨⟨xs,xs[i],q,by simp [hlt]⟩,Pv (i+1),λσ' H' p'=>⟨xs.length - (i+1),by omega,rfl,hlt,p'⟩,λx H' y=>?_⟩
  obtain ⟨e,y⟩:=y
  subst e
  exact hs i x σ _ (y xs q) p
 ·have e:i=xs.length:=by omega
  subst e
  exact .inl ⟨⟨xs,q,yk _⟩,hd σ H p⟩
theorem Yai {K} {a} {xs} {g:TG} {tb:TS} {D:Jt9} {σ} {H} (Pv:Nat->St->Hp->Prop) (h0:Pv 0 σ H) (hl:∀i σ H,i<=xs.length->Pv i σ H->Su K H a xs)
  (hs:∀i x σ H,xs[i]?=some x->Pv i σ H->g x σ H λσ2 H2=>tb {D with nx:=Pv (i+1),ct:=Pv (i+1),bk:=D.nx} σ2 H2) (hd:∀σ H,Pv xs.length σ H->D.nx σ H):
  ∃W:Nat->Nat->St->Hp->Prop,(∃m,W 0 m σ H)/\∀i m σ H,W i m σ H->
   ((Itt K a).stop i H/\D.nx σ H)\/((Itt K a).go i H/\∃N:St->Hp->Prop,(∀σ' H',N σ' H'->∃m',m' < m/\W (i+1) m' σ' H')/\∀x H',(Itt K a).yld i H x H'->g x σ H' λσ2 H2=>tb {D with nx:=N,ct:=N,bk:=D.nx} σ2 H2):=by
 refine ⟨λi m σ H=>m=xs.length - i/\i<=xs.length/\Pv i σ H,⟨xs.length,by simp,yai _,h0⟩,?_⟩
 rintro i m σ H ⟨rfl,hi,p⟩
 have q:=hl i σ H hi p
 by_cases hlt:i < xs.length
 ·refine .inr ⟨⟨xs,xs[i],q,by simp [hlt]⟩,Pv (i+1),λσ' H' p'=>⟨xs.length - (i+1),by omega,rfl,hlt,p'⟩,λx H' y=>?_⟩
  obtain ⟨e,y⟩:=y
  subst e
  exact hs i x σ _ (y xs q) p
 ·have e:i=xs.length:=by omega
  subst e
  exact .inl ⟨⟨xs,q,yk _⟩,hd σ H p⟩
theorem Jpn {lo} {n} {g:TG} {tb:TS} {D:Jt9} {σ} {H} (Pv:Nat->St->Hp->Prop) (h0:Pv 0 σ H)
  (hs:∀i σ H,i < n->Pv i σ H->g (.int (lo+i)) σ H λσ2 H2=>tb {D with nx:=Pv (i+1),ct:=Pv (i+1),bk:=D.nx} σ2 H2) (hd:∀σ H,Pv n σ H->D.nx σ H):
  ∃W:Nat->Nat->St->Hp->Prop,(∃m,W 0 m σ H)/\∀i m σ H,W i m σ H->
   ((Itr lo n).stop i H/\D.nx σ H)\/((Itr lo n).go i H/\∃N:St->Hp->Prop,(∀σ' H',N σ' H'->∃m',m' < m/\W (i+1) m' σ' H')/\∀x H',(Itr lo n).yld i H x H'->g x σ H' λσ2 H2=>tb {D with nx:=N,ct:=N,bk:=D.nx} σ2 H2):=by
 refine ⟨λi m σ H=>m=n - i/\i<=n/\Pv i σ H,⟨n,by simp,yai _,h0⟩,?_⟩
 rintro i m σ H ⟨rfl,hi,p⟩
 by_cases hlt:i < n
 ·refine .inr ⟨hlt,Pv (i+1),λσ' H' p'=>⟨n - (i+1),by omega,rfl,hlt,p'⟩,λx H' y=>?_⟩
  obtain ⟨e,y⟩:=y
  subst e y
  exact hs i σ _ hlt p
 ·have e:i=n:=by omega
  subst e
  exact .inl ⟨yk _,hd σ H p⟩
abbrev R2:=V->V->Hp->VK->Prop
def OpR (X:Cx) (f:S2->S2->Sem S2) (r:R2):Prop:=
 ∀(pins:List (S1×Obj)) (s:S3) (σ:St) (H:Hp) (x y:V) (v u:S2) (Q:VK),Sn X pins σ H s->Sa5 x v->Sa5 y u->r x y H Q->
  Sc (model X.prog X.w) X.A (f v u) (EP X pins σ Q) X.xe s
def UnR (X:Cx) (f:S2->Sem S2) (r:V->Hp->VK->Prop):Prop:=
 ∀(pins:List (S1×Obj)) (s:S3) (σ:St) (H:Hp) (x:V) (v:S2) (Q:VK),Sn X pins σ H s->Sa5 x v->r x H Q->
  Sc (model X.prog X.w) X.A (f v) (EP X pins σ Q) X.xe s
def Jpd (X:Cx) (f:S2) (r:List V->Hp->VK->Prop):Prop:=
 ∀(pins:List (S1×Obj)) (s:S3) (σ:St) (H:Hp) (xs:List V) (us:List S2) (Q:VK),Sn X pins σ H s->Sa0 xs us->r xs H Q->
  Sc (model X.prog X.w) X.A (call f us) (EP X pins σ Q) X.xe s
def Suu (X:Cx) (r:V->Hp->(Bool->Hp->Prop)->Prop):Prop:=
 ∀(pins:List (S1×Obj)) (s:S3) (σ:St) (H:Hp) (x:V) (v:S2) (Q:Bool->Hp->Prop),Sn X pins σ H s->Sa5 x v->r x H Q->
  Sc (model X.prog X.w) X.A (truthy v) (TP X pins σ Q) X.xe s
def tOp (r:R2) (ta tb:TE):TE:=λσ H Q=>ta σ H λx H1=>tb σ H1 λy H2=>r x y H2 Q
def tUn (r:V->Hp->VK->Prop) (ta:TE):TE:=λσ H Q=>ta σ H λx H1=>r x H1 Q
inductive rI (C:Int->Int->Prop) (g:Int->Int->V) (x:V) (y:V) (H:Hp) (Q:VK):Prop where
 |mk (i:_) (j:_) (_:x= .int i) (_:y= .int j) (_:C i j) (_:Q (g i j) H)
inductive rI0 (g:Int->Int->V) (x:V) (y:V) (H:Hp) (Q:VK):Prop where
 |mk (i:_) (j:_) (_:x= .int i) (_:y= .int j) (_:Q (g i j) H)
inductive rU (g:Int->V) (x:V) (H:Hp) (Q:VK):Prop where
 |mk (i:_) (_:x= .int i) (_:Q (g i) H)
section
variable {X:Cx} {a b c:Expr} {ta tb tc:TE} {pos:Pos}
theorem Smo (ha:PE X a ta) (hb:PE X b tb) {R:V->V->Hp->Prop} (I:Sn X pins σ H s)
  (h:ta σ H λx H1=>tb σ H1 λy H2=>R x y H2) {f:S2->S2->Sem S2}
  (hf:∀v u s2 x y H2,Sn X pins σ H2 s2->Sa5 x v->Sa5 y u->R x y H2->Sc (model X.prog X.w) X.A (f v u) Q X.xe s2):
  Sc (model X.prog X.w) X.A (eval a X.env) (λv s₁=>Sc (model X.prog X.w) X.A (eval b X.env) (λu s₂=>Sc (model X.prog X.w) X.A (f v u) Q X.xe s₂) X.xe s₁) X.xe s:=thn (ha pins s σ H _ I h) λv s1 ⟨x,H1,I1,r1,q1⟩=>thn (hb pins s1 σ H1 _ I1 q1) λu s2 ⟨y,H2,I2,r2,q2⟩=>hf v u s2 x y H2 I2 r1 r2 q2
theorem Jn5 (ho:OpR X (binaryOp op) r) (ha:PE X a ta) (hb:PE X b tb):PE X (.BinOp a op b pos) (tOp r ta tb):=by
 intro pins s σ H Q I h
 exact wpAny_BinOp (Smo ha hb I h λv u s2 x y H2 I2 rx ry q=>ho pins s2 σ H2 x y v u Q I2 rx ry q)
theorem Jv0 (ho:UnR X (unaryOp op) r) (ha:PE X a ta):PE X (.UnaryOp op a pos) (tUn r ta):=by
 intro pins s σ H Q I h
 exact UnaryOp_ (thn (ha pins s σ H _ I h) λv s1 ⟨x,H1,I1,r1,q1⟩=>ho pins s1 σ H1 x v Q I1 r1 q1)
theorem opI {C} {g:Int->Int->Int}
  (rule:∀i j t u s Q E,C i j->Q (.int (g i j) s.toks) {s with toks:=s.toks+1}->Sc (model X.prog X.w) X.A (f (.int i t) (.int j u)) Q E s):
  OpR X f (rI C λi j=>.int (g i j)):=by
 rintro pins s σ H x y v u Q I rx ry ⟨i,j,rfl,rfl,hc,q⟩
 obtain ⟨t,rfl⟩:=rx
 obtain ⟨t',rfl⟩:=ry
 exact rule i j t t' s _ _ hc ⟨.int (g i j),H,I.tok _,⟨_,rfl⟩,q⟩
theorem Sr2 {g:Int->Int->Int}
  (rule:∀i j t u s Q E,Q (.int (g i j) s.toks) {s with toks:=s.toks+1}->Sc (model X.prog X.w) X.A (f (.int i t) (.int j u)) Q E s):
  OpR X f (rI0 λi j=>.int (g i j)):=by
 rintro pins s σ H x y v u Q I rx ry ⟨i,j,rfl,rfl,q⟩
 obtain ⟨t,rfl⟩:=rx
 obtain ⟨t',rfl⟩:=ry
 exact rule i j t t' s _ _ ⟨.int (g i j),H,I.tok _,⟨_,rfl⟩,q⟩
theorem Skw {g:Int->Int->Bool}
  (rule:∀i j t u s Q E,Q (.bool (g i j)) s->Sc (model X.prog X.w) X.A (f (.int i t) (.int j u)) Q E s):
  OpR X f (rI0 λi j=>.bl (g i j)):=by
 rintro pins s σ H x y v u Q I rx ry ⟨i,j,rfl,rfl,q⟩
 obtain ⟨t,rfl⟩:=rx
 obtain ⟨t',rfl⟩:=ry
 exact rule i j t t' s _ _ ⟨.bl (g i j),H,I,rfl,q⟩
def Stk (i j:Int):Prop:=0<=j/\j<=1000000/\i.natAbs < 2^64
def Sly (i j:Int):Prop:=(-(2^64) < i/\i < 2^64)\/(-(2^64) < j/\j < 2^64)
theorem Sly.ok (h:Sly i j):IntMulOk i j:=by
 rcases h with ⟨h1,h2⟩|⟨h1,h2⟩
 ·exact .of_left (intBits_le_64 h1 h2)
 ·exact .of_right (intBits_le_64 h1 h2)
theorem Jnn:OpR X (binaryOp .Add) (rI0 λi j=>.int (i+j)):=Sr2 λ_ _ _ _ _ _ _ q=>add_int q
theorem Jo4:OpR X (binaryOp .Sub) (rI0 λi j=>.int (i - j)):=Sr2 λ_ _ _ _ _ _ _ q=>sub_int q
theorem Jp2:OpR X (binaryOp .Mult) (rI Sly λi j=>.int (i*j)):=opI λ_ _ _ _ _ _ _ hc q=>mul_int q hc.ok
theorem Jp6:OpR X (binaryOp .Mod) (rI (λ_ j=>0 < j) λi j=>.int (i%j)):=opI λi j _ _ _ _ _ hc q=>mod_int' (by omega) (by rw [Int.fmod_eq_emod_of_nonneg i (by omega)];exact q)
theorem Sni:OpR X (binaryOp .Pow) (rI Stk λi j=>.int (i^j.toNat)):=opI λ_ _ _ _ _ _ _ hc q=>pow_int_small hc.1 hc.2.1 hc.2.2 q
theorem unI {g:Int->Int}
  (rule:∀i t s Q E,Q (.int (g i) s.toks) {s with toks:=s.toks+1}->Sc (model X.prog X.w) X.A (f (.int i t)) Q E s):
  UnR X f (rU λi=>.int (g i)):=by
 rintro pins s σ H x v Q I rx ⟨i,rfl,q⟩
 obtain ⟨t,rfl⟩:=rx
 exact rule i t s _ _ ⟨.int (g i),H,I.tok _,⟨_,rfl⟩,q⟩
theorem Jsa:UnR X (unaryOp .USub) (rU λi=>.int (-i)):=unI λ_ _ _ _ _ q=>neg_int q
end
def Snq:V->V->Bool
 | .non,.non=>true| .non,.int _=>true| .int _,.non=>true| .non,.bl _=>true| .bl _,.non=>true| .non,.str _=>true| .str _,.non=>true
 | .int _,.int _=>true| .bl _,.bl _=>true| .str _,.str _=>true| .byt _,.byt _=>true
 | .int _,.str _=>true| .str _,.int _=>true| .bl _,.str _=>true| .str _,.bl _=>true
 |_,_=>false
inductive rEq (x:V) (y:V) (H:Hp) (Q:VK):Prop where
 |mk (_:Snq x y=true) (_:Q (.bl (decide (x=y))) H)
inductive rNe (x:V) (y:V) (H:Hp) (Q:VK):Prop where
 |mk (_:Snq x y=true) (_:Q (.bl (!decide (x=y))) H)
theorem Yag:decide (V.int i=V.int j)=(i==j):=by grind
theorem Ycn:decide (V.bl i=V.bl j)=(i==j):=by grind
theorem Yah:decide (V.str i=V.str j)=(i==j):=by grind
theorem Yaf:decide (V.byt i=V.byt j)=(i.toList==j.toList):=by
 rw [Bool.eq_iff_iff]
 cases i
 cases j
 simp
section
variable {X:Cx} {a b c:Expr} {ta tb tc:TE} {pos:Pos}
theorem Jnr {σ:St} {H} {s} {Q} {k k'} (I:Sn X pins σ H s) (q:Q (.bl k) H) (e:k=k'):EP X pins σ Q (.bool k') s:=by
 subst e
 exact ⟨.bl k,H,I,rfl,q⟩
theorem Jqz:OpR X (compareOp .Eq) rEq:=by
 rintro pins s σ H x y v u Q I rx ry ⟨hs,q⟩
 cases x with
 |non=>
  cases rx
  cases y with
  |non=>cases ry;exact PySem.EqNone.eq_none_none (Jnr I q (by simp))
  |bl j=>cases ry;exact PySem.EqNone.eq_none_bool (Jnr I q (by simp))
  |int j=>obtain ⟨t',rfl⟩:=ry;exact PySem.EqNone.eq_none_int (Jnr I q (by simp))
  |str j=>obtain ⟨t',rfl⟩:=ry;exact PySem.EqNone.eq_none_str (Jnr I q (by simp))
  |_=>exact absurd (show false=true from hs) yaj
 |bl i=>
  cases rx
  cases y with
  |non=>cases ry;exact PySem.EqNone.eq_bool_none (Jnr I q (by simp))
  |bl j=>cases ry;exact eq_bool (Jnr I q Ycn)
  |str j=>obtain ⟨t',rfl⟩:=ry;exact PySem.EqMixed.eq_bool_str (Jnr I q (by simp))
  |_=>exact absurd (show false=true from hs) yaj
 |int i=>
  obtain ⟨t,rfl⟩:=rx
  cases y with
  |non=>cases ry;exact PySem.EqNone.eq_int_none (Jnr I q (by simp))
  |int j=>obtain ⟨t',rfl⟩:=ry;exact eq_int (Jnr I q Yag)
  |str j=>obtain ⟨t',rfl⟩:=ry;exact PySem.EqMixed.eq_int_str (Jnr I q (by simp))
  |_=>exact absurd (show false=true from hs) yaj
 |str i=>
  obtain ⟨t,rfl⟩:=rx
  cases y with
  |non=>cases ry;exact PySem.EqNone.eq_str_none (Jnr I q (by simp))
  |bl j=>cases ry;exact PySem.EqMixed.eq_str_bool (Jnr I q (by simp))
  |int j=>obtain ⟨t',rfl⟩:=ry;exact PySem.EqMixed.eq_str_int (Jnr I q (by simp))
  |str j=>obtain ⟨t',rfl⟩:=ry;exact eq_str (Jnr I q Yah)
  |_=>exact absurd (show false=true from hs) yaj
 |byt i=>
  obtain ⟨t,rfl⟩:=rx
  cases y with
  |byt j=>obtain ⟨t',rfl⟩:=ry;exact PySem.W.eq_bytes (Jnr I q Yaf)
  |_=>exact absurd (show false=true from hs) yaj
 |_=>cases y <;> exact absurd (hs) yaj
theorem Yd5:OpR X (compareOp .NotEq) rNe:=by
 rintro pins s σ H x y v u Q I rx ry ⟨hs,q⟩
 cases x with
 |non=>
  cases rx
  cases y with
  |non=>cases ry;exact PySem.EqNone.ne_none_none (Jnr I q (by simp))
  |bl j=>cases ry;exact PySem.EqNone.ne_none_bool (Jnr I q (by simp))
  |int j=>obtain ⟨t',rfl⟩:=ry;exact PySem.EqNone.ne_none_int (Jnr I q (by simp))
  |str j=>obtain ⟨t',rfl⟩:=ry;exact PySem.EqNone.ne_none_str (Jnr I q (by simp))
  |_=>exact absurd (hs) yaj
 |bl i=>
  cases rx
  cases y with
  |non=>cases ry;exact PySem.EqNone.ne_bool_none (Jnr I q (by simp))
  |bl j=>cases ry;exact ne_bool (Jnr I q (congrArg not Ycn))
  |str j=>obtain ⟨t',rfl⟩:=ry;exact PySem.EqMixed.ne_bool_str (Jnr I q (by simp))
  |_=>exact absurd (show false=true from hs) yaj
 |int i=>
  obtain ⟨t,rfl⟩:=rx
  cases y with
  |non=>cases ry;exact PySem.EqNone.ne_int_none (Jnr I q (by simp))
  |int j=>obtain ⟨t',rfl⟩:=ry;exact ne_int (Jnr I q (congrArg not Yag))
  |str j=>obtain ⟨t',rfl⟩:=ry;exact PySem.EqMixed.ne_int_str (Jnr I q (by simp))
  |_=>exact absurd (show false=true from hs) yaj
 |str i=>
  obtain ⟨t,rfl⟩:=rx
  cases y with
  |non=>cases ry;exact PySem.EqNone.ne_str_none (Jnr I q (by simp))
  |bl j=>cases ry;exact PySem.EqMixed.ne_str_bool (Jnr I q (by simp))
  |int j=>obtain ⟨t',rfl⟩:=ry;exact PySem.EqMixed.ne_str_int (Jnr I q (by simp))
  |str j=>obtain ⟨t',rfl⟩:=ry;exact ne_str (Jnr I q (congrArg not Yah))
  |_=>exact absurd (show false=true from hs) yaj
 |byt i=>
  obtain ⟨t,rfl⟩:=rx
  cases y with
  |byt j=>obtain ⟨t',rfl⟩:=ry;exact PySem.W.ne_bytes (Jnr I q (congrArg not Yaf))
  |_=>exact absurd (show false=true from hs) yaj
 |_=>cases y <;> exact absurd (hs) yaj
theorem Yaq:OpR X (compareOp .Lt) (rI0 λi j=>.bl (decide (i < j))):=Skw λ_ _ _ _ _ _ _ q=>lt_int q
theorem Jrg:OpR X (compareOp .LtE) (rI0 λi j=>.bl (decide (i<=j))):=Skw λ_ _ _ _ _ _ _ q=>le_int q
theorem Jrf:OpR X (compareOp .Gt) (rI0 λi j=>.bl (decide (j < i))):=Skw λ_ _ _ _ _ _ _ q=>gt_int q
theorem Slr:OpR X (compareOp .GtE) (rI0 λi j=>.bl (decide (j<=i))):=Skw λ_ _ _ _ _ _ _ q=>ge_int q
theorem Ybq:OpR X (compareOp .In) (λx y H Q=>∃i j,x= .str i/\y= .str j/\Q (.bl (!(Builtin.Str.occurrences j i 0 j.length 1).isEmpty)) H):=by
 rintro pins s σ H x y v u Q I rx ry ⟨i,j,rfl,rfl,q⟩
 obtain ⟨t,rfl⟩:=rx
 obtain ⟨t',rfl⟩:=ry
 exact in_str (Jnr I q rfl)
theorem Jyc:OpR X (compareOp .Is) (λx y H Q=>y= .non/\Q (.bl (decide (x= .non))) H):=by
 rintro pins s σ H x y v u Q I rx ry ⟨rfl,q⟩
 cases ry
 refine is_none_gen (Jnr I q ?_)
 cases x <;> first
  | (cases rx; rfl)
  | (obtain ⟨t,rfl⟩:=rx; rfl)
theorem Jyd:OpR X (compareOp .IsNot) (λx y H Q=>y= .non/\Q (.bl (!decide (x= .non))) H):=by
 rintro pins s σ H x y v u Q I rx ry ⟨rfl,q⟩
 cases ry
 refine isnot_none_gen (Jnr I q ?_)
 cases x <;> first
  | (cases rx; rfl)
  | (obtain ⟨t,rfl⟩:=rx; rfl)
theorem Jni (b) (h:op≠ .In:=by decide) (h2:op≠ .NotIn:=by decide):behindInMarks op b=false:=by
 have e1:(op==CmpOp.In)=false:=by cases op <;> first|rfl|exact absurd rfl h
 have e2:(op==CmpOp.NotIn)=false:=by cases op <;> first|rfl|exact absurd rfl h2
 cases b <;> simp [behindInMarks,e1,e2]
theorem Joi (ho:OpR X (compareOp op) r) (ha:PE X a ta) (hb:PE X b tb) (hm:behindInMarks op b=false):PE X (.Compare a [op] [b] pos) (tOp r ta tb):=by
 intro pins s σ H Q I h
 exact wpAny_Compare1 (Smo ha hb I h λv u s2 x y H2 I2 rx ry q=>ho pins s2 σ H2 x y v u Q I2 rx ry q) hm
inductive Yfx (Q:(Bool->Hp->Prop)) (x:V) (H':Hp):Prop where
 |mk (k:_) (_:x= .bl k) (_:Q k H')
def Slw (t:TE):TT:=λσ H Q=>t σ H (Yfx Q)
theorem Jnp (ho:OpR X (compareOp op) r) (ha:PE X a ta) (hb:PE X b tb) (hm:behindInMarks op b=false):PT X (.Compare a [op] [b] pos) (Slw (tOp r ta tb)):=by
 intro pins s σ H Q I h
 refine wpAny_isTrue_Compare1 (thn (ha pins s σ H _ I h) λv s1 ⟨x,H1,I1,r1,q1⟩=>thn (hb pins s1 σ H1 _ I1 q1) λu s2 ⟨y,H2,I2,r2,q2⟩=>
  thn (ho pins s2 σ H2 x y v u _ I2 r1 r2 q2) λc s3 ⟨z,H3,I3,r3,k,e,q3⟩=>?_) hm
 subst e
 cases r3
 exact wpAny_truthy_bool ⟨H3,I3,q3⟩
def Ydz (r r':R2) (ta tb tc:TE):TE:=λσ H Q=>ta σ H λx H1=>tb σ H1 λy H2=>r x y H2 λz H3=>∃k,z= .bl k/\
 (if k=true then tc σ H3 λw' H4=>r' y w' H4 Q else Q (.bl false) H3)
theorem Jw2 (ho:OpR X (compareOp op) r) (ho':OpR X (compareOp op') r') (ha:PE X a ta) (hb:PE X b tb) (hc:PE X c tc)
  (hm:lastMarks [op,op'] [b,c]=false:=by with_unfolding_all rfl):PE X (.Compare a [op,op'] [b,c] pos) (Ydz r r' ta tb tc):=by
 intro pins s σ H Q I h
 refine Compare_chain (thn (ha pins s σ H _ I h) λv s1 ⟨x,H1,I1,r1,q1⟩=>chain_link (thn (hb pins s1 σ H1 _ I1 q1) λu s2 ⟨y,H2,I2,r2,q2⟩=>
  thn (ho pins s2 σ H2 x y v u _ I2 r1 r2 q2) λd s3 ⟨z,H3,I3,r3,k,e,q3⟩=>?_)) hm
 subst e
 cases r3
 refine wpAny_truthy_bool ?_
 cases k with
 |false=>exact ite_ff ⟨.bl false,H3,I3,rfl,q3⟩
 |true=>exact ite_tt (chain_last (thn (hc pins s3 σ H3 _ I3 q3) λw' s4 ⟨z',H4,I4,r4,q4⟩=>ho' pins s4 σ H4 y z' u w' Q I4 r2 r4 q4))
theorem Jw6 (ho:OpR X (compareOp op) r) (ho':OpR X (compareOp op') r') (ha:PE X a ta) (hb:PE X b tb) (hc:PE X c tc)
  (hm:lastMarks [op,op'] [b,c]=false:=by with_unfolding_all rfl):PT X (.Compare a [op,op'] [b,c] pos) (Slw (Ydz r r' ta tb tc)):=by
 intro pins s σ H Q I h
 refine isTrue_chain (thn (ha pins s σ H _ I h) λv s1 ⟨x,H1,I1,r1,q1⟩=>test_link (thn (hb pins s1 σ H1 _ I1 q1) λu s2 ⟨y,H2,I2,r2,q2⟩=>
  thn (ho pins s2 σ H2 x y v u _ I2 r1 r2 q2) λd s3 ⟨z,H3,I3,r3,k,e,q3⟩=>?_)) hm
 subst e
 cases r3
 refine wpAny_truthy_bool ?_
 cases k with
 |false=>
  obtain ⟨k',e',q'⟩:=q3
  cases e'
  exact ite_ff ⟨H3,I3,q'⟩
 |true=>
  refine ite_tt (test_last (thn (hc pins s3 σ H3 _ I3 q3) λw' s4 ⟨z',H4,I4,r4,q4⟩=>thn (ho' pins s4 σ H4 y z' u w' _ I4 r2 r4 q4) λd' s5 zq=>?_))
  obtain ⟨z2,H5,I5,r5,k2,e2,q5⟩:=zq
  subst e2
  cases r5
  exact wpAny_truthy_bool ⟨H5,I5,q5⟩
def Sqm (K:Se) (x:V) (H:Hp) (k:Bool):Prop:=
 match x with
 | .non=>k=false
 | .bl b=>k=b
 | .int i=>k=(i !=0)
 | .str y=>y.length<=S6/\k=((y.length:Int) !=0)
 | .byt y=>y.size<=S6/\k=((y.size:Int) !=0)
 | .ref p=>(∃xs,Sv K H p xs/\k=!xs.isEmpty)\/(∃xs,Su K H p xs/\k=!xs.isEmpty)\/∃kvs,H p=some (.dK kvs)/\k=!kvs.isEmpty
 |_=>False
theorem Yf (r:KV kvs vs):(!vs.isEmpty)=!kvs.isEmpty:=by
 cases r <;> rfl
theorem Jvs (r:Sa0 xs its):(!its.toArray.isEmpty)=!xs.isEmpty:=by
 cases r <;> simp
theorem Jrt:(S6) < 2^63:=by rw [sizeLine_eq];decide
theorem Soo:Suu X (λx H Q=>∃k,Sqm X.K x H k/\Q k H):=by
 rintro pins s σ H x v Q I rx ⟨k,e,q⟩
 have hs:=sizeLine_eq
 cases x with
 |non=>
  cases rx
  have e':=e
  subst e'
  exact truthy_none ⟨H,I,q⟩
 |bl b=>
  cases rx
  have e':=e
  subst e'
  exact wpAny_truthy_bool ⟨H,I,q⟩
 |int i=>
  obtain ⟨t,rfl⟩:=rx
  have e':=e
  subst e'
  exact PySem.P.truthy_int ⟨H,I,q⟩
 |str y=>
  obtain ⟨t,rfl⟩:=rx
  obtain ⟨hy,e'⟩:y.length<=S6/\k=((y.length:Int) !=0):=e
  subst e'
  exact PySem.P.truthy_str (by omega) ⟨H,I.tok _,q⟩
 |byt y=>
  obtain ⟨t,rfl⟩:=rx
  obtain ⟨hy,e'⟩:y.size<=S6/\k=((y.size:Int) !=0):=e
  subst e'
  exact PySem.W.truthy_bytes (by omega) ⟨H,I.tok _,q⟩
 |ref p=>
  cases rx
  have e':=e
  rcases e' with ⟨xs,hx,e'⟩|⟨xs,hx,e'⟩|⟨kvs,hx,e'⟩
  ·subst e'
   obtain ⟨its,r,pl,hz⟩:=I.list hx
   have hlen:=r.length
   exact wpAny_truthy_list pl.isList (by simp only [yn];omega) ⟨H,I.tok _,by rw [Jvs r];exact q⟩
  ·subst e'
   obtain ⟨its,r,pl,hz⟩:=I.tuple hx
   have hlen:=r.length
   exact truthy_tuple pl (by simp only [yn];omega) ⟨H,I.tok _,by rw [Jvs r];exact q⟩
  ·subst e'
   obtain ⟨hz,hS,vs,r,m⟩:kvs.length<=S6/\(p==sysModules)=false/\∃vs,KV kvs vs/\s.heap.DictOf (Joy X.prog X.w) p vs:=I.hok p _ hx
   have hlen:=Paired.length r
   exact wpAny_truthy_dict hS m (by omega) ⟨H,I.tok _,by rw [Yf r];exact q⟩
 |_=>exact (e).elim
theorem Ydb (ha:PE X a ta) (he:∀whole,isTrue a X.env whole=(do let v<-whole;standAt a.pos;holding [v] (truthy v))):
  PT X a (λσ H Q=>ta σ H λx H'=>∃k,Sqm X.K x H' k/\Q k H'):=by
 intro pins s σ H Q I h
 exact isTrue_plain (thn (ha pins s σ H _ I h) λv s1 ⟨x,H1,I1,r1,q1⟩=>Soo pins s1 σ H1 x v Q I1 r1 q1) (he _)
theorem Yq:OpR X (binaryOp .Add) (λx y H Q=>∃i j,x= .str i/\y= .str j/\i.length+j.length<=S6/\Q (.str (i++j)) H):=by
 rintro pins s σ H x y v u Q I rx ry ⟨i,j,rfl,rfl,hz,q⟩
 obtain ⟨t,rfl⟩:=rx
 obtain ⟨t',rfl⟩:=ry
 exact add_str (λt' tk=>⟨.str (i++j),H,I.tok _,⟨_,rfl⟩,q⟩) hz
theorem Jqg (r:Sa0 [x] us):∃u,us= [u]/\Sa5 x u:=by
 cases r with
 |cons r1 r2=>cases r2;exact ⟨_,rfl,r1⟩
theorem Yb4 (r:Sa0 [x,y] us):∃u w',us= [u,w']/\Sa5 x u/\Sa5 y w':=by
 cases r with
 |cons r1 r2=>
  cases r2 with
  |cons r3 r4=>cases r4;exact ⟨_,_,rfl,r1,r3⟩
theorem Jpl (hc:X.calm=true):Jpd X (.builtin "max") (λxs H Q=>∃i j,xs= [.int i,.int j]/\Q (.int (if j > i then j else i)) H):=by
 rintro pins s σ H xs us Q I r ⟨i,j,rfl,q⟩
 obtain ⟨u,w',rfl,⟨t,rfl⟩,⟨t',rfl⟩⟩:=Yb4 r
 refine max_two_ints (I.ok.hd hc) λh' tk k=>⟨_,H,I.kept k,?_,q⟩
 by_cases hj:j > i
 ·rw [if_pos hj,if_pos hj];exact ⟨_,rfl⟩
 ·rw [if_neg hj,if_neg hj];exact ⟨_,rfl⟩
theorem Jor (hc:X.calm=true):Jpd X (.builtin "min") (λxs H Q=>∃i j,xs= [.int i,.int j]/\Q (.int (if j < i then j else i)) H):=by
 rintro pins s σ H xs us Q I r ⟨i,j,rfl,q⟩
 obtain ⟨u,w',rfl,⟨t,rfl⟩,⟨t',rfl⟩⟩:=Yb4 r
 refine min_two_ints (I.ok.hd hc) λh' tk k=>⟨_,H,I.kept k,?_,q⟩
 by_cases hj:j < i
 ·rw [if_pos hj,if_pos hj];exact ⟨_,rfl⟩
 ·rw [if_neg hj,if_neg hj];exact ⟨_,rfl⟩
theorem Jq5:Jpd X (.type "int") (λxs H Q=>(∃i,xs= [.int i]/\Q (.int i) H)\/∃k,xs= [.bl k]/\Q (.int (if k then 1 else 0)) H):=by
 intro pins s σ H xs us Q I r h
 rcases h with ⟨i,rfl,q⟩|⟨k,rfl,q⟩
 ·obtain ⟨u,rfl,t,rfl⟩:=Jqg r
  exact call_int_int ⟨.int i,H,I,⟨_,rfl⟩,q⟩
 ·obtain ⟨u,rfl,r1⟩:=Jqg r
  cases r1
  exact call_int_bool ⟨.int (if k then 1 else 0),H,I.tok _,⟨_,rfl⟩,q⟩
end
structure Shg (h:Sb) (x dx C:S1) (mA:Str->Option S2):Prop where
 obj:h.get? x=some (Si C dx)
 ns:h.Ns1 dx mA
 ne:dx≠x
theorem Jxc {h:Sb} (n:h.Ns1 dx mA):∃od,h.get? dx=some od/\∀name,PySem.W.lookIn name od=some (mA name):=by
 obtain ⟨o,es,ep,ho,hd,hk,_,hm⟩:=n
 refine ⟨o,ho,λname=>?_⟩
 have e:=hm name
 unfold nsFind findBy at e
 rw [<-Array.find?_toList] at e
 unfold PySem.W.lookIn
 rw [hd]
 dsimp only
 split
 ·rename_i y q
  rw [q] at e
  exact congrArg some e
 ·rename_i q
  rw [q] at e
  have a:es.toList.any (·.refKey)=false:=by
   rw [List.any_eq_false]
   intro y hy
   obtain ⟨z,t,hkey⟩:=hk y (Array.mem_toList_iff.mp hy)
   simp [DictEntry.refKey,hkey]
  have a':¬es.toList.any (·.refKey)=true:=by rw [a];exact yaj
  rw [if_neg a']
  exact congrArg some e
theorem Shg.look (I:Shg h x dx C mA):∃od,PySem.W.InstAt h x (Si C dx) C (some od)/\∀name,PySem.W.lookIn name od=some (mA name):=
 let ⟨od,ho,hl⟩:=Jxc I.ns
 ⟨od,⟨I.obj,rfl,rfl,ho⟩,hl⟩
section
variable {prog:S7} {w:S9} {A:Sa} {E:S2->S3->Prop} {s:S3} {K:Se} {x dx C f:S1} {mA:Str->Option S2} {name:Str} {v:S2}
theorem Yel {Q} (X:K.In s.heap) (I:Shg s.heap x dx C mA) (hg:PySem.W.plainGet K C name=true) (hh:PySem.W.hasDictIn K C=true)
  (ha:Sg K (.ref C) name=some none) (hv:mA name=some v) (hv':PySem.W.handedIn v=true) (h:Q v {s with toks:=s.toks+1}):
  Sc (model prog w) A (getAttr (.ref x) name expr) Q E s:=by
 obtain ⟨od,J,hl⟩:=I.look
 exact PySem.W.get_value X J (PySem.W.plainGet_of hg).1 (PySem.W.findObj_own hh ha rfl (by rw [hl,hv])) hv' h
theorem Ycu {Q} (X:K.In s.heap) (I:Shg s.heap x dx C mA) (hg:PySem.W.plainGet K C name=true)
  (hf:Sg K (.ref C) name=some (some (.ref f))) (ht:PySem.W.isFn K (.ref f)=true) (hv:mA name=none) (h:Q (.ref f,[.ref x]) s):
  Sc (model prog w) A (getMethod (.ref x) name pl) Q E s:=by
 obtain ⟨od,J,hl⟩:=I.look
 exact PySem.W.method_fn X J (PySem.W.plainGet_of hg).1 (PySem.W.plainGet_of hg).2 hf (beq_iff_eq.mp ht) (by show (PySem.W.lookIn name od).map (·.isSome)=some false;rw [hl,hv];rfl) h
theorem Yfa (X:K.In s.heap) (I:Shg s.heap x dx C mA)
  (hs:Sg K (.ref C) "__setattr__" =some (some (.builtin "object.__setattr__"))) (hp:PySem.W.plainOver K C=true) (ht:PySem.W.takerIn K C name=some none) (hh:PySem.W.hasDictIn K C=true)
  (hw:PySem.Within mA ns) (hsz:ns.length<=S6)
  (h:∀h',Shg h' x dx C (λy=>if y=name then some v else mA y)->yba dx s.heap h'->Q () {s with heap:=h',toks:=s.toks+2}):
  Sc (model prog w) A (setAttr (.ref x) name v) Q E s:=by
 obtain ⟨od,J,hl⟩:=I.look
 refine PySem.W.set_plain X J hs (PySem.W.osa_open X J hp ht λb=>?_)
 obtain ⟨cd,hc,hd'⟩:=PySem.W.any_some hh
 refine S4 (S5 (S4 (S4 (wpAny_loadPart I.obj (S4 (PySem.W.Looks.here (PySem.W.looks_clsIn X hc) ?_))))))
 rw [hd']
 refine S5 (S4 (S5 (S4 (wpAny_nsSet1 I.ns λh' hn2 hs2=>?_))))
 obtain ⟨oD,esD,epD,hoD,hdD,hcD⟩:=hn2.count (PySem.Within.cons name v hw)
 exact S4 (wpAny_lookBehind hoD (by rw [hdD];exact pastItsLine_dict (yan hcD (by rw [yal];omega))) (S5 (h _ ⟨(hs2.2 _ (yt I.ne)).trans I.obj,hn2,I.ne⟩ hs2)))
theorem Yd1 (X:K.In s.heap) (hm:PySem.W.makesIn K C=true)
  (hi:Sg K (.ref C) "__init__" =some (some (.ref f))) (hf:PySem.W.typeIn K (.ref f)=some (.type "function"))
  (h:codeAny (model prog w) (A.under (.builtin "type.__call__" ⟨.ref C::vs,kw⟩)) (.call (.ref f) ⟨.ref (s.heap.objs.size+1)::vs,kw⟩) (PySem.W.InitBack (s.heap.objs.size+1) R)
   {s with heap:=(s.heap.push PySem.W.emptyDict).push (Si C s.heap.objs.size)}):
  codeAny (model prog w) A (.call (.ref C) ⟨vs,kw⟩) R s:=PySem.W.make_core (PySem.W.makes_of X hm) (PySem.W.looks_findIn X hi) (λself=>PySem.W.bind_fn X self hf) (.inl rfl) h
end
def Joa (f:Str) (v:V):List (Str×V)->List (Str×V)
 | []=>[(f,v)]
 | (g,x) :: r=>if g = f then (g,v) :: r else (g,x) :: Joa f v r
theorem Juq (f g) (v):∀fs:List (Str×V),(Joa f v fs).lookup g=if g=f then some v else fs.lookup g
 | []=>by
  show ybi g [(f,v)]=_
  by_cases h:g=f
  ·have hb:(g==f)=true:=beq_iff_eq.mpr h
   simp only [ybi,hb,if_pos h]
  ·have hb:=beq_eq_false_iff_ne.mpr h
   simp only [ybi,hb,if_neg h]
 | (k,x) :: r=>by
  rw [show Joa f v ((k,x)::r)=(if k=f then (k,v)::r else (k,x)::Joa f v r) from rfl]
  by_cases hk:k=f
  ·rw [if_pos hk]
   by_cases h:g=k
   ·have hb:=beq_iff_eq.mpr h
    simp only [ybi,hb,if_pos (h.trans hk)]
   ·have hb:=beq_eq_false_iff_ne.mpr h
    simp only [ybi,hb,if_neg (λe:g=f=>h (e.trans hk.symm))]
  ·rw [if_neg hk]
   by_cases h:g=k
   ·have hb:=beq_iff_eq.mpr h
    simp only [ybi,hb,if_neg (λe:g=f=>hk (h.symm.trans e))]
   ·have hb:=beq_eq_false_iff_ne.mpr h
    simp only [ybi,hb]
    exact (Juq f g v r)
theorem Ju7 (f) (v):∀fs:List (Str×V),f∈(Joa f v fs).map (·.1)/\∀g,g∈fs.map (·.1)->g∈(Joa f v fs).map (·.1)
 | []=>⟨by simp [Joa],λg h=>by simp at h⟩
 | (k,x) :: r=>by
  obtain ⟨i1,i2⟩:=Ju7 f v r
  rw [show Joa f v ((k,x)::r)=(if k=f then (k,v)::r else (k,x)::Joa f v r) from rfl]
  by_cases hk:k=f
  ·rw [if_pos hk]
   subst hk
   exact ⟨by simp,λg h=>by simpa using h⟩
  ·rw [if_neg hk]
   refine ⟨?_,λg h=>?_⟩
   ·rw [ybj]
    exact yr _ i1
   ·rw [ybj] at h⊢
    rcases ym.mp h with e|e
    ·exact ym.mpr (.inl e)
    ·exact yr _ (i2 g e)
theorem Jup (f) (v):∀fs:List (Str×V),(Joa f v fs).length<=fs.length+1
 | []=>by simp [Joa]
 | (k,x) :: r=>by
  have ih:=Jup f v r
  rw [show Joa f v ((k,x)::r)=(if k=f then (k,v)::r else (k,x)::Joa f v r) from rfl]
  by_cases hk:k=f
  ·rw [if_pos hk,yal,yal];omega
  ·rw [if_neg hk,yal,yal];omega
theorem Sdp.some_of (r:Sdp (some v) o):∃u,o=some u/\Sa5 v u:=by
 cases o with
 |none=>exact (r).elim
 |some u=>exact ⟨u,rfl,r⟩
theorem Sdp.none_of (r:Sdp none o):o=none:=by
 cases o with
 |none=>rfl
 |some u=>exact (r).elim
theorem Ybg (r:Sa5 v u):PySem.W.handedIn u=true:=by
 cases v with
 |non=>cases (r);rfl
 |bl b=>cases (r);rfl
 |int i=>obtain ⟨t,e⟩:=(show ∃t,u=Value.int i t from r);cases e;rfl
 |str x=>obtain ⟨t,e⟩:=(show ∃t,u=Value.str x t from r);cases e;rfl
 |byt b=>obtain ⟨t,e⟩:=(show ∃t,u=Value.bytes b t from r);cases e;rfl
 |flt b=>obtain ⟨t,e⟩:=(show ∃t,u=Value.float b t from r);cases e;rfl
 |ref a=>cases (r);rfl
 |ty n=>cases (r);rfl
section
variable {P:S7} {w:S9} {H H':Hp} {h h':Sb} {a C dx:S1} {fs fs':List (Str×V)}
theorem Jvd (hok:HOk P w H h) (e:H a=some (.ins C dx fs)):∃mA,Shg h a dx C mA/\(∀f,Sdp (fs.lookup f) (mA f))/\PySem.Within mA (fs.map (·.1))/\fs.length<=1000/\H dx=some (.own a):=by
 obtain ⟨d,z,ne,ob,mA,n,r,q⟩:=(hok a _ e)
 exact ⟨mA,⟨ob,n,ne⟩,r,q,z,d⟩
end
structure Cls (K:Se) (C:S1):Prop where
 pg:PySem.W.plainGet K C Str.empty=true
 hd:PySem.W.hasDictIn K C=true
 po:PySem.W.plainOver K C=true
 sa:Sg K (.ref C) "__setattr__" =some (some (.builtin "object.__setattr__"))
theorem Cls.get {K} (c:Cls K C) (f):PySem.W.plainGet K C f=true:=c.pg
def NoAttr (K:Se) (C:S1) (f:Str):Prop:=Sg K (.ref C) f=some none
theorem NoAttr.taker {K} (n:NoAttr K C f):PySem.W.takerIn K C f=some none:=by
 unfold PySem.W.takerIn
 rw [n]
 rfl
structure Jpv (K:Se) (C:S1) (m:Str) (f:S1):Prop where
 at_:Sg K (.ref C) m=some (some (.ref f))
 fn:PySem.W.isFn K (.ref f)=true
 kp:PySem.W.keepIn K (.ref f)=true
section
variable {X:Cx} {pins:List (S1×Obj)} {σ:St} {H:Hp} {s:S3} {a C dx:S1} {fs:List (Str×V)} {f:Str} {v:V} {A:Sa} {E:S2->S3->Prop}
theorem Yd (I:Sn X pins σ H s) (e:H a=some (.ins C dx fs)) (c:Cls X.K C) (n:NoAttr X.K C f) (l:fs.lookup f=some v)
  (h:∀u s',Sn X pins σ H s'->Sa5 v u->Q u s'):Sc (model X.prog X.w) A (getAttr (.ref a) f b) Q E s:=by
 obtain ⟨mA,O,r,_,_,_⟩:=Jvd I.hok e
 obtain ⟨u,hu,ru⟩:=Sdp.some_of (by rw [<-l];exact r f)
 exact Yel I.kIn O (c.get f) c.hd n hu (Ybg ru) (h u _ (I.tok _) ru)
theorem Jsv {Q} (I:Sn X pins σ H s) (e:H a=some (.ins C dx fs)) (c:Cls X.K C) (k:Jpv X.K C m g) (l:fs.lookup m=none)
  (h:Q (.ref g,[.ref a]) s):Sc (model X.prog X.w) A (getMethod (.ref a) m pl) Q E s:=by
 obtain ⟨mA,O,r,_,_,_⟩:=Jvd I.hok e
 exact Ycu I.kIn O (c.get m) k.at_ k.fn (Sdp.none_of (by rw [<-l];exact r m)) h
theorem Ya0 (I:Sn X pins σ H s) (e:H a=some (.ins C dx fs)) (c:Cls X.K C) (n:NoAttr X.K C f) (hl:fs.length < 1000) (ry:Sa5 y u)
  (h:∀s',Sn X pins σ (upd H a (.ins C dx (Joa f y fs))) s'->Q () s'):Sc (model X.prog X.w) A (setAttr (.ref a) f u) Q E s:=by
 obtain ⟨mA,O,r,wi,_,ho⟩:=Jvd I.hok e
 have hz:(fs.map (·.1)).length<=S6:=by rw [yf,sizeLine_eq];omega
 refine Yfa I.kIn O c.sa c.po n.taker c.hd wi hz λh' O' sb=>h _ ?_
 have hd:∃o,h'.get? dx=some o:=let ⟨o,_,_,e',_⟩:=O'.ns;⟨o,e'⟩
 refine I.write (by rw [e];exact True.intro) (.inr ho) (λb q hb z=>(sb.2 b hb).trans z) hd ⟨by rw [Sz O.ne];exact ho,?_,O.ne,O'.obj,_,O'.ns,λg=>?_,λg hg=>?_⟩
 ·have:=Jup f y fs;omega
 ·show Sdp ((Joa f y fs).lookup g) (if g=f then some u else mA g)
  rw [Juq]
  by_cases q:g=f
  ·rw [if_pos q,if_pos q];exact ry
  ·rw [if_neg q,if_neg q];exact r g
 ·by_cases q:g=f
  ·rw [q];exact (Ju7 f y fs).1
  ·refine (Ju7 f y fs).2 g (wi g λz=>hg ?_)
   show (if g=f then some u else mA g)=none
   rw [if_neg q];exact z
theorem Sn.made (I:Sn X pins σ H s):Sn X pins σ (upd (upd H s.heap.objs.size (.own (s.heap.objs.size+1))) (s.heap.objs.size+1) (.ins C s.heap.objs.size []))
  {s with heap:=(s.heap.push PySem.W.emptyDict).push (Si C s.heap.objs.size)}:=by
 have e1:(s.heap.push PySem.W.emptyDict).get? s.heap.objs.size=some PySem.W.emptyDict:=yq s.heap rfl
 have e2:=by
  have:=yq (s.heap.push PySem.W.emptyDict) (o:=Si C s.heap.objs.size) rfl
  rwa [yao] at this
 have e3:(s.heap.push PySem.W.emptyDict).Ns s.heap.objs.size (λ_=>none):=⟨PySem.W.emptyDict,#[],_,e1,rfl,(λe he=>absurd he (by simp)),λ_=>rfl⟩
 refine (I.laid (o:=.own (s.heap.objs.size+1)) (t':=s.toks) (λb u q=>yl _ q) (yk _) ⟨_,e1⟩).laid (λb u q=>yl _ q) (Nat.le_of_eq (yao _ _)) ?_
 have ne:s.heap.objs.size≠s.heap.objs.size+1:=yo (ybp _)
 refine ⟨by rw [Sz ne,Sr],yai _,ne,e2,λ_=>none,(Heap.Ns1.of_empty e3).at λo q=>yl _ q,λ_=>True.intro,λy hy=>absurd rfl hy⟩
theorem Yeg (hb:attributeBase e f env (eval e env)=eval e env)
  (h:Sc (model prog w) A (eval e env) (λo s₁=>Sc (model prog w) A (getAttr o f true) Q E s₁) E s):Sc (model prog w) A (eval (.Attribute e f pos) env) Q E s:=
 Attribute_any_ h (by rw [arm_eval_Attribute,hb])
end
inductive Sof (K:Se) (f:Str) (Q:VK) (x:V) (H1:Hp):Prop where
 |mk (a:_) (C:_) (dx:_) (fs:_) (v:_) (_:x= .ref a) (_:H1 a=some (.ins C dx fs)) (_:Cls K C) (_:NoAttr K C f) (_:fs.lookup f=some v) (_:Q v H1)
def Sru (K:Se) (ta:TE) (f:Str):TE:=λσ H Q=>ta σ H (Sof K f Q)
def Svr (K:Se) (ta tv:TE) (f:Str):TS:=λD σ H=>tv σ H λy H1=>ta σ H1 λx H2=>∃a C dx fs,x= .ref a/\H2 a=some (.ins C dx fs)/\Cls K C/\NoAttr K C f/\fs.length < 1000/\
 D.nx σ (upd H2 a (.ins C dx (Joa f y fs)))
section
variable {X:Cx} {o e value:Expr} {f:Str} {pos pos' tpos:Pos} {ta tv:TE}
theorem Jna (he:PE X e ta) (hb:attributeBase e f X.env (eval e X.env)=eval e X.env):PE X (.Attribute e f pos) (Sru X.K ta f):=by
 intro pins s σ H Q I h
 refine Yeg hb (thn (he pins s σ H _ I h) λu s1 zq=>?_)
 obtain ⟨x,H1,I1,rx,a,C,dx,fs,v,ex,ea,c,n,l,q⟩:=zq
 subst ex
 obtain rfl:u=Value.ref a:=rx
 exact Yd I1 ea c n l λu' s2 I2 ru=>⟨v,H1,I2,ru,q⟩
theorem Jny (ha:PE X o ta) (hv:PE X value tv) (hs:swapsWith value (some (.Attribute o f pos')) pos.line X.env=pure false):PS X (.Assign [.Attribute o f pos'] value pos) (Svr X.K ta tv f):=by
 intro pins s σ H D I h
 refine plainObj_wpAny_Assign_Attribute (thn (hv pins s σ H _ I h) λu s1 ⟨y,H1,I1,ry,q⟩=>thn (ha pins s1 σ H1 _ I1 q) λov s2 zq=>?_) hs
 obtain ⟨x,H2,I2,rx,a,C,dx,fs,ex,ea,c,n,l,q2⟩:=zq
 subst ex
 obtain rfl:ov=Value.ref a:=rx
 exact Ya0 I2 ea c n l ry λs3 I3=>⟨σ,_,I3,q2⟩
end
section
variable {X:Cx} {pins:List (S1×Obj)} {σ:St} {H:Hp} {s:S3} {A:Sa} {E:S2->S3->Prop} {Q:S2->S3->Prop} {c:S2} {b:Bool}
inductive Jtz (K:Se) (H:Hp):V->S2->Prop where
 |non:Jtz K H .non (.type "NoneType")
 |bl (x:Bool):Jtz K H (.bl x) (.type "bool")
 |int (i:Int):Jtz K H (.int i) (.type "int")
 |str (x:Str):Jtz K H (.str x) (.type "str")
 |flt (x:UInt64):Jtz K H (.flt x) (.type "float")
 |lst {a:S1} {xs:List V} (e:H a=some (.lst xs)):Jtz K H (.ref a) (.type "list")
 |frz {a:S1} {o:Obj} {xs:List V} (e:H a=some (.frz o (.lst xs))):Jtz K H (.ref a) (.type "list")
 |tup {a:S1} {xs:List V} (e:H a=some (.tup xs)):Jtz K H (.ref a) (.type "tuple")
 |dK {a:S1} {kvs:List (Key×V)} (e:H a=some (.dK kvs)):Jtz K H (.ref a) (.type "dict")
 |dT {a:S1} {kvs:List (List Key×V)} (e:H a=some (.dT kvs)):Jtz K H (.ref a) (.type "dict")
 |ins {a C dx:S1} {fs:List (Str×V)} (e:H a=some (.ins C dx fs)) (cl:Cls K C) (ha:Sg K (.ref C) "__class__" =some (some (.builtin "object.__class__")))
   (hn:PySem.W.specialIn K (.builtin "object.__class__") "__get__" =some (some (.builtin "getset_descriptor.__get__"))) (htk:PySem.W.takesIn K (.builtin "object.__class__")=some true)
   (hm:Sh K C (.type "object")=some true):Jtz K H (.ref a) (.ref C)
end
structure San (k:Nat) (A:Sa):Prop where
 hd:A.handled=none
 dp:A.depth+3*k+5 < recursionLimit
 un:A.units+16*k+200 < cLine
theorem San.mono (r:San k A) (h:j<=k):San j A:=⟨r.hd,by have:=r.dp;omega,by have:=r.un;omega⟩
theorem San.deeper (r:San (k+1) A) (env):San k (A.deeper env):=
 ⟨r.hd,by have:=r.dp;show A.depth+1+3*k+5 < _;omega,by have:=r.un;show A.units+3+16*k+200 < _;omega⟩
theorem Yh {A:Sa}:(A.under (.builtin "type.__call__" ⟨.ref C::us,kw⟩)).depth=A.depth+1:=by
 first|rfl|simp [Around.under]
theorem Yi {A:Sa}:(A.under (.builtin "type.__call__" ⟨.ref C::us,kw⟩)).units=A.units+1:=rfl
theorem San.make (r:San (k+1) A) (C) (us) (kw):San k (A.under (.builtin "type.__call__" ⟨.ref C::us,kw⟩)):=
 ⟨r.hd,by have:=r.dp;rw [Yh];omega,by have:=r.un;rw [Yi];omega⟩
theorem San.depth (r:San k A):A.depth < recursionLimit:=by have:=r.dp;omega
theorem San.units (r:San k A):A.units+64 < cLine:=by have:=r.un;omega
def Jwz:TA:=λ_ H Q=>Q [] H
def Jop (ta:TE) (tr:TA):TA:=λσ H Q=>ta σ H λx H1=>tr σ H1 λxs H2=>Q (x::xs) H2
section
variable {X:Cx} {e:Expr} {es:List Expr} {te:TE} {t:TA} {pos:Pos}
theorem Sm:PA X [] Jwz:=λ_ _ _ _ H Q I h=>Calls.spliced_nil ⟨[],H,I,.nil,h⟩
theorem Sk (ha:PE X e te) (hr:PA X es t) (hs:starEach (e::es) X.env=(false,eval e X.env)::starEach es X.env:=by rfl):PA X (e::es) (Jop te t):=by
 intro pos pins s σ H Q I h
 rw [hs]
 show Sc _ _ (spliced ((false,eval e X.env)::backTo pos (starEach es X.env))) _ _ s
 exact Calls.spliced_cons (thn (ha pins s σ H _ I h) λu s1 ⟨x,H1,I1,r1,q1⟩=>thn (hr pos pins s1 σ H1 _ I1 q1) λus s2 ⟨xs,H2,I2,r2,q2⟩=>⟨x::xs,H2,I2,.cons r1 r2,q2⟩)
inductive Soi (Q:VK) (xs:List V) (H1:Hp):Prop where
 |mk (_:xs.length<=S6) (_:∀p,H1 p=none->Q (.ref p) (upd H1 p (.tup xs)))
def Sw6 (t:TA):TE:=λσ H Q=>t σ H (Soi Q)
inductive Sog (Q:VK) (xs:List V) (H1:Hp):Prop where
 |mk (_:xs.length<=S6) (_:∀p,H1 p=none->Q (.ref p) (upd H1 p (.lst xs)))
def Sw3 (t:TA):TE:=λσ H Q=>t σ H (Sog Q)
theorem Jo8 (h:PA X es t):PE X (.Tuple es x1 pos) (Sw6 t):=by
 intro pins s σ H Q I hq
 refine wpAny_Tuple_spliced (thn (h pos pins s σ H _ I hq) λus s1 ⟨xs,H1,I1,r,z,q⟩=>⟨by rw [<-r.length];exact z,⟨.ref s1.heap.objs.size,upd H1 s1.heap.objs.size (.tup xs),I1.laid (λb u e=>yl _ e) (yk _) ?_,rfl,q _ (I1.hok.fresh (yk _))⟩⟩)
 exact ⟨z,us,r,⟨_,yq _ rfl,rfl,_,rfl⟩⟩
theorem Jol (h:PA X es t):PE X (.List es pos) (Sw3 t):=by
 intro pins s σ H Q I hq
 refine wpAny_List_spliced (thn (h pos pins s σ H _ I hq) λus s1 ⟨xs,H1,I1,r,z,q⟩=>⟨by rw [<-r.length];exact z,⟨.ref s1.heap.objs.size,upd H1 s1.heap.objs.size (.lst xs),I1.laid (λb u e=>yl _ e) (yk _) ?_,rfl,q _ (I1.hok.fresh (yk _))⟩⟩)
 exact ⟨z,us,0,r,yq _ rfl⟩
end
abbrev Sp:=List V->Hp->VK->XK->Prop
abbrev CXT:=List Env->Hp->S3->XK->S2->S3->Prop
structure Sfu (P:S7) (w:S9) (K:Se) (mg:Str->Option S2) (base:Sb) (A:Sa) (outer:List Env) (s:S3) (H:Hp):Prop where
 frames:A.frames=some outer
 mod:Mod K mg base
 bs:∀b o,base.get? b=some o->s.heap.get? b=some o/\H b=none
 bsz:base.objs.size<=s.heap.objs.size
 funs:s.heap.FunFrames base outer
 frf:∀b∈frs outer,H b=none
 hok:HOk P w H s.heap
 bare:AllBare s.gens
def CE (outer:List Env) (P:S7) (w:S9) (H:Hp) (s:S3) (Q:VK) (u:S2) (s':S3):Prop:=
 ∃v H',s'.os=s.os/\AllBare s'.gens/\Un (frs outer) [] H H' s.heap s'.heap/\HOk P w H' s'.heap/\Sa5 v u/\Q v H'
def CR (CX:CXT) (outer:List Env) (P:S7) (w:S9) (H:Hp) (s:S3) (Q:VK) (E:XK) (r:Result) (s':S3):Prop:=
 match r with
 | .ok (.ret u)=>CE outer P w H s Q u s'
 | .ok _=>False
 | .error e=>CX outer H s E e s'
structure Ss (P:S7) (w:S9) (K:Se) (mg:Str->Option S2) (base:Sb) (CX:CXT) (k:Nat) (f:S1) (fd:S8) (ps:List Str) (sp:Sp):Prop where
 len:∀vs H Q E,sp vs H Q E->vs.length=ps.length
 run:∀(A:Sa) (outer:List Env) (s:S3) (H:Hp) (args:Args) (us:List S2) (vs:List V) (Q:VK) (E:XK),San k A->Sfu P w K mg base A outer s H->BindsTo s fd args (ps.zip us)->Sa0 vs us->sp vs H Q E->
  codeAny (model P w) A (.call (.ref f) args) (CR CX outer P w H s Q E) s
theorem Sfu.make {K} (e:Sfu P w K mg base A outer s H) (C) (us) (kw):
  Sfu P w K mg base (A.under (.builtin "type.__call__" ⟨.ref C::us,kw⟩)) outer s H:=⟨by first|exact e.frames|(simpa [Around.under] using e.frames),e.mod,e.bs,e.bsz,e.funs,e.frf,e.hok,e.bare⟩
section
variable {X:Cx} {pins:List (S1×Obj)} {σ:St} {H:Hp} {s s':S3}
theorem Sn.env0 (I:Sn X pins σ H s):Sfu X.prog X.w X.K X.mg X.base X.A X.stack s H:=
 ⟨I.ok.frames,I.ok.mod,I.bs,yan I.ok.bsz I.sz,I.stack,I.stkFree,I.hok,I.bare⟩
theorem Sn.after (I:Sn X pins σ H s) (h:CE X.stack X.prog X.w H s Q u s'):EP X pins σ Q u s':=by
 obtain ⟨v,H',os,bare,un,hok,r,q⟩:=h
 obtain ⟨hh,g,d,t,os'⟩:=s'
 obtain rfl:os'=s.os:=os
 exact ⟨v,H',I.call un hok bare (λb z=>absurd z (by simp)),r,q⟩
end
def Slv (sp:Sp) (dvs:List V) (E:XK) (t:TA):TE:=λσ H Q=>t σ H λvs H1=>sp (vs++dvs) H1 Q E
inductive Yfu (C:S1) (m:Str) (sp:Sp) (dvs:List V) (E:XK) (t:TA) (σ:St) (Q:VK) (x:V) (H1:Hp):Prop where
 |mk (a:_) (dx:_) (fs:_) (_:x= .ref a) (_:H1 a=some (.ins C dx fs)) (_:fs.lookup m=none) (_:t σ H1 λvs H2=>sp (x::(vs++dvs)) H2 Q E)
def Srw (C:S1) (m:Str) (sp:Sp) (dvs:List V) (E:XK) (ta:TE) (t:TA):TE:=λσ H Q=>ta σ H (Yfu C m sp dvs E t σ Q)
def Srv (C:S1) (sp:Sp) (dvs:List V) (E:XK) (t:TA):TE:=λσ H Q=>t σ H λvs H1=>∀x dx,H1 x=none->H1 dx=none->dx≠x->
 sp (.ref x::(vs++dvs)) (upd (upd H1 dx (.own x)) x (.ins C dx [])) (λv H2=>v= .non/\Q (.ref x) H2) E
def Sbk (K:Se) (fd:S8) (ps:List Str) (ds:List S2):Prop:=
 ∀(s:S3) (us:List S2),K.In s.heap->(us++ds).length=ps.length->BindsTo s fd ⟨us,[]⟩ (ps.zip (us++ds))
theorem Sbk.all {K} (h:∀us:List S2,us.length=ps.length->bindArgs fd ⟨us,[]⟩=pure (ps.zip us)):Sbk K fd ps []:=λs us _ hl=>by
 rw [ybe] at hl⊢
 exact .of_eq (h us hl)
def Jty (CX:CXT) (X:Cx) (E:XK):Prop:=∀(pins:List (S1×Obj)) (σ:St) (H:Hp) (s:S3) (e:S2) (s':S3),Sn X pins σ H s->CX X.stack H s E e s'->X.xe e s'
section
variable {X:Cx} {CX:CXT} {k:Nat} {f C:S1} {fd:S8} {ps:List Str} {sp:Sp} {dvs:List V} {ds:List S2} {E:XK} {x m:Str} {p pos apos:Pos} {e o:Expr} {es:List Expr} {ta:TE} {t:TA}
theorem Jyj (F:Ss X.prog X.w X.K X.mg X.base CX k f fd ps sp) (hr:San k X.A) (hb:Sbk X.K fd ps ds) (hd:Sa0 dvs ds) (hx:Jty CX X E)
  (I:Sn X pins σ H s) (r:Sa0 vs us) (h:sp (vs++dvs) H Q E):Sc (model X.prog X.w) X.A (call (.ref f) us) (EP X pins σ Q) X.xe s:=by
 have r2:=r.append hd
 have hl:(us++ds).length=ps.length:=by rw [<-r2.length];exact F.len _ _ _ _ h
 refine wpAny_call (codeAny_mono (F.run X.A X.stack s H ⟨us,[]⟩ (us++ds) (vs++dvs) Q E hr I.env0 (hb s us I.kIn hl) r2 h) λr s' hq=>?_)
 cases r with
 |error e=>exact hx pins σ H s e s' I hq
 |ok fl=>
  cases fl with
  |ret u=>exact I.after hq
  |next=>exact False.elim hq
  |brk=>exact False.elim hq
  |cont=>exact False.elim hq
theorem Yf0 (F:Ss X.prog X.w X.K X.mg X.base CX k f fd ps sp) (hr:San k X.A) (hg:Gl X x) (hm:X.mg x=some (.ref f)) (hk:PySem.W.keepIn X.K (.ref f)=true) (hb:Sbk X.K fd ps ds) (hd:Sa0 dvs ds) (hx:Jty CX X E)
  (ha:PA X (e::es) t) (hdb:(x==("__debug__" :Str))=false:=by decide) (he:starEach (e::es) X.env=(false,eval e X.env)::starEach es X.env:=by rfl) (hpl:(backTo pos (starEach es X.env)).any (·.1)=false:=by rfl):
  PE X (.Call (.Name x p) (e::es) [] pos) (Slv sp dvs E t):=by
 intro pins s σ H Q I h
 exact wpAny_Call_Name_kw (Jtf I hg hm (PySem.W.callWith_K I.ok.mod.kin hk (thn (ha pos pins s σ H _ I h) λus s1 ⟨vs,H1,I1,r,q⟩=>⟨I1.kIn,Jyj F hr hb hd hx I1 r q⟩) he hpl) hdb)
theorem Jqc (he:PE X o ta) (c:Cls X.K C) (hm:Jpv X.K C m f) (F:Ss X.prog X.w X.K X.mg X.base CX k f fd ps sp) (hr:San k X.A) (hb:Sbk X.K fd ps ds) (hd:Sa0 dvs ds) (hx:Jty CX X E)
  (ht:eval (.Call (.Attribute o m apos) [] [] pos) X.env=(do
   let ov<-eval o X.env
   standAt apos.atName
   let (f,first)<-holding [ov] (getMethod ov m pl)
   callWith pos f first (backTo pos (starEach [] X.env)) (backToKw pos (keywordEach [] X.env))):=by rfl):
  PE X (.Call (.Attribute o m apos) [] [] pos) (Srw C m sp dvs E ta Jwz):=by
 intro pins s σ H Q I h
 refine PySem.W.methodCall_KW (thn (he pins s σ H _ I h) λu s1 zq=>?_) ht
 obtain ⟨x,H1,I1,rx,a,dx,fs,ex,ea,l,q⟩:=zq
 subst ex
 obtain rfl:u=Value.ref a:=rx
 exact Jsv I1 ea c hm l (PySem.W.callWith_K0 I1.kIn hm.kp (Jyj (vs:=[.ref a]) F hr hb hd hx I1 (.cons rfl .nil) q))
structure Mk (K:Se) (C f:S1):Prop where
 makes:PySem.W.makesIn K C=true
 init:Sg K (.ref C) "__init__" =some (some (.ref f))
 fn:PySem.W.isFn K (.ref f)=true
 kp:PySem.W.keepIn K (.ref C)=true
theorem Ydf {σ:St} {H} {s} {Q} {us} {vs} (M:Mk X.K C f) (F:Ss X.prog X.w X.K X.mg X.base CX k f fd ps sp) (hr:San (k+1) X.A) (hb:Sbk X.K fd ps ds) (hd:Sa0 dvs ds)
  (hx:Jty CX X E) (I:Sn X pins σ H s) (r:Sa0 vs us)
  (h:∀x dx,H x=none->H dx=none->dx≠x->sp (.ref x::(vs++dvs)) (upd (upd H dx (.own x)) x (.ins C dx [])) (λv H2=>v= .non/\Q (.ref x) H2) E):
  Sc (model X.prog X.w) X.A (call (.ref C) us) (EP X pins σ Q) X.xe s:=by
 have hq:=h (s.heap.objs.size+1) s.heap.objs.size (I.hok.fresh (Nat.le_succ _)) (I.hok.fresh (yk _)) (yo (ybp _))
 have I2:=Sn.made (C:=C) I
 have r2:Sa0 (V.ref (s.heap.objs.size+1)::(vs++dvs)) (Value.ref (s.heap.objs.size+1)::(us++ds)):=.cons rfl (r.append hd)
 have hl:=by
  have e:=r2.length
  rw [F.len _ _ _ _ hq] at e
  exact e.symm
 refine wpAny_call (Yd1 I.kIn M.makes M.init (beq_iff_eq.mp M.fn) (codeAny_mono (F.run _ X.stack _ _ ⟨Value.ref (s.heap.objs.size+1)::us,[]⟩ (Value.ref (s.heap.objs.size+1)::(us++ds)) _ _ E (hr.make C us [])
  (I2.env0.make C us []) (hb _ (Value.ref (s.heap.objs.size+1)::us) I2.kIn hl) r2 hq) λr s' hq'=>?_))
 cases r with
 |error e=>exact hx pins σ _ _ e s' I2 hq'
 |ok fl=>
  cases fl with
  |ret u=>
   obtain ⟨v,H',I3,rv,ev,q3⟩:=I2.after hq'
   subst ev
   exact ⟨rv,⟨V.ref (s.heap.objs.size+1),H',I3,rfl,q3⟩⟩
  |next=>exact False.elim hq'
  |brk=>exact False.elim hq'
  |cont=>exact False.elim hq'
theorem Jq3 (M:Mk X.K C f) (F:Ss X.prog X.w X.K X.mg X.base CX k f fd ps sp) (hr:San (k+1) X.A) (hg:Gl X x) (hm:X.mg x=some (.ref C)) (hb:Sbk X.K fd ps ds) (hd:Sa0 dvs ds) (hx:Jty CX X E)
  (ha:PA X (e::es) t) (hdb:(x==("__debug__" :Str))=false:=by decide) (he:starEach (e::es) X.env=(false,eval e X.env)::starEach es X.env:=by rfl) (hpl:(backTo pos (starEach es X.env)).any (·.1)=false:=by rfl):
  PE X (.Call (.Name x p) (e::es) [] pos) (Srv C sp dvs E t):=by
 intro pins s σ H Q I h
 exact wpAny_Call_Name_kw (Jtf I hg hm (PySem.W.callWith_K I.ok.mod.kin M.kp (thn (ha pos pins s σ H _ I h) λus s1 ⟨vs,H1,I1,r,q⟩=>⟨I1.kIn,Ydf M F hr hb hd hx I1 r q⟩) he hpl) hdb)
end
section
variable {X:Cx} {CX:CXT} {k:Nat} {f C:S1} {fd:S8} {ps ks:List Str} {sp:Sp} {E:XK} {x m:Str} {p pos apos kpos:Pos} {e o:Expr} {es:List Expr} {kws:List Keyword} {te ta:TE} {t tk:TA} {nm:Option Str}
variable {g:List S2->List S2->List S2} {gV:List V->List V->List V}
end
structure Jmy (N P:List Str) (sc:Scope):Prop where
 kind:sc.kind= .function
 co:sc.isCoroutine=false
 gen:sc.isGenerator=false
 nd:N.Nodup
 pre:N.take P.length=P
 par:∀x∈P,sc.names.lookup x=some .local\/sc.names.lookup x=some .cell
 nofree:∀y∈sc.names,y.2≠ .free
theorem Jx6 {kindOf}:∀{binds} {m},(∀v,(x,v)∉binds)->bindL kindOf binds m x=m x
 | [],_,_=>rfl
 | (n,v) :: r,m,h=>by
  unfold bindL
  rw [Jx6 λw hw=>h w (yr _ hw)]
  split
  ·have:x≠n:=by rintro rfl;exact h v yak
   simp [this]
  ·rfl
theorem Jx5 {kindOf}:∀{binds} {m},(∀v,(x,v)∉binds)->bindC kindOf binds m x=m x
 | [],_,_=>rfl
 | (n,v) :: r,m,h=>by
  unfold bindC
  rw [Jx5 λw hw=>h w (yr _ hw)]
  split
  ·rfl
  ·have:x≠n:=by rintro rfl;exact h v yak
   simp [this]
theorem Ju1 {kindOf:Str->Option NameKind} {x:Str} {v:S2}:∀{P:List Str} {vs:List S2} {i:Nat} {m:Str->Option S2},P.Nodup->P[i]?=some x->vs[i]?=some v->kindOf x=some .local->
  bindL kindOf (P.zip vs) m x=some v
 | [],_,_,_,_,h,_,_=>by simp at h
 |_::_,[],_,_,_,_,h,_=>by simp at h
 |p::P,w::vs,0,m,nd,h1,h2,hk=>by
  simp at h1 h2;subst h1;subst h2
  show bindL kindOf ((p,w)::P.zip vs) m p=_
  unfold bindL
  rw [Jx6 λv hv=>(ybq.mp nd).1 (List.of_mem_zip hv).1,if_pos hk]
  simp
 |p::P,w::vs,i+1,m,nd,h1,h2,hk=>by
  show bindL kindOf ((p,w)::P.zip vs) m x=_
  unfold bindL
  exact Ju1 (i:=i) (ybq.mp nd).2 (by simpa using h1) (by simpa using h2) hk
theorem Ju0 {kindOf:Str->Option NameKind} {x:Str} {v:S2}:∀{P:List Str} {vs:List S2} {i:Nat} {m:Str->Option S2},P.Nodup->P[i]?=some x->vs[i]?=some v->kindOf x≠some .local->
  bindC kindOf (P.zip vs) m x=some v
 | [],_,_,_,_,h,_,_=>by simp at h
 |_::_,[],_,_,_,_,h,_=>by simp at h
 |p::P,w::vs,0,m,nd,h1,h2,hk=>by
  simp at h1 h2;subst h1;subst h2
  show bindC kindOf ((p,w)::P.zip vs) m p=_
  unfold bindC
  rw [Jx5 λv hv=>(ybq.mp nd).1 (List.of_mem_zip hv).1,if_neg hk]
  simp
 |p::P,w::vs,i+1,m,nd,h1,h2,hk=>by
  show bindC kindOf ((p,w)::P.zip vs) m x=_
  unfold bindC
  exact Ju0 (i:=i) (ybq.mp nd).2 (by simpa using h1) (by simpa using h2) hk
def start (N:List Str) (vs:List V):St:=vs.map some++yaa (N.length - vs.length) none
def Jxr (CX:CXT) (P:S7) (w:S9) (K:Se) (mg:Str->Option S2) (base:Sb) (N:List Str) (qual:Str) (scope:Scope) (f:S1) (cd:S2) (A:Sa) (outer:List Env) (s:S3) (H:Hp) (E:XK):Cx where
 prog:=P
 w:=w
 K:=K
 mg:=mg
 base:=base
 A:=A.deeper (envOfC qual scope s.heap.objs.size f cd)
 N:=N
 s₀:=s
 H₀:=H
 env:=envOfC qual scope s.heap.objs.size f cd
 outer:=outer
 stack:=envOfC qual scope s.heap.objs.size f cd::outer
 ex:=[]
 calm:=true
 fn:=λ_=>true
 pn:=[]
 xe:=λe s'=>Sc (model P w) (A.deeper (envOfC qual scope s.heap.objs.size f cd)) (leaving (envOfC qual scope s.heap.objs.size f cd) e) (λ_ s''=>CX outer H s E e s'') (λe' s''=>CX outer H s E e' s'') s'
theorem Jqu {sc:Scope} (h:sc.names.lookup x=some .cell):∃c,(cellsFrom n sc.names []).lookup x=some c:=ybt.mp (PySem.W.cellsFrom_some sc.names n [] (.inl h))
theorem Jxa {K}
  (S:Jmy N ps scope) (hd:A.handled=none) (e0:Sfu P w K mg base A outer s H) (hl:vs.length=ps.length) (r:Sa0 vs us)
  (x:InCallC s s.heap.objs.size (bindL (envOfC qual scope s.heap.objs.size f cd).kindOf (ps.zip us) λ_=>none) (cellsFrom (s.heap.objs.size+1) scope.names []) (bindC (envOfC qual scope s.heap.objs.size f cd).kindOf (ps.zip us) λ_=>none) s1):
  Sn (Jxr CX P w K mg base N qual scope f cd A outer s H E) [] (start N vs) H s1:=by
 have hpl:=by have:=congrArg List.length S.pre;rw [yy] at this;omega
 obtain ⟨h1,tk,rfl,hk⟩:=x.done
 have noA:∀b:S1,b∉(Jxr CX P w K mg base N qual scope f cd A outer s H E).ex:=λb z=>absurd (show b∈ [] from z) (by simp)
 refine ⟨⟨e0.mod,S.kind,rfl,rfl,yk _,λy z c h1 h2=>?_,λy hy=>?_,λy c _ h=>?_,λ_=>hd,Around.frames_deeper e0.frames,.inr ⟨rfl,rfl⟩,λb z=>absurd z (noA b),e0.bs,e0.bsz,λb _ _=>noA b,λb z=>absurd z (noA b),e0.funs,e0.frf⟩,
  rfl,e0.bare,Un.kept hk,⟨_,x.toInCall.ns,λi y v h1 h2 h3=>?_⟩,λy c h=>⟨_,x.cell y c h⟩,e0.hok.fresh (yk _),λy c h=>?_,λp hp=>absurd (show p∈ [] from hp) (by simp),e0.hok.kept hk,?_⟩
 ·exact name_of_addr x.apart (PySem.mem_of_lookup h1) (PySem.mem_of_lookup h2)
 ·have hy:=hy
  rcases hy with hy|hy
  ·exact Jqu hy
  ·exact absurd rfl (S.nofree _ (PySem.mem_of_lookup hy))
 ·exact ybg (x.above y c (PySem.mem_of_lookup h))
 ·have hi:i < vs.length:=by
   unfold start at h2
   by_cases hi:i < vs.length
   ·exact hi
   ·rw [ycb (by simpa using hi)] at h2
    rw [ybu] at h2
    split at h2 <;> cases h2
  have ha:vs[i]?=some v:=by
   unfold start at h2
   rw [ycc (by simpa using hi),yg] at h2
   cases e:vs[i]? with
   |none=>rw [e] at h2;cases h2
   |some a=>rw [e] at h2;cases h2;rfl
  obtain ⟨u,hu,rv⟩:=r.get ha
  have hp:ps[i]?=some y:=by
   rw [<-S.pre,List.getElem?_take_of_lt (by omega)];exact h1
  have ndP:ps.Nodup:=by rw [<-S.pre];exact S.nd.sublist (List.take_sublist _ _)
  refine ⟨u,rv,?_⟩
  rcases S.par y (yp hp) with k|k
  ·exact .inl ⟨k,Ju1 ndP hp hu k⟩
  ·obtain ⟨c,e⟩:=Jqu k
   refine .inr ⟨.inl k,c,e,?_⟩
   have q:=x.cell y c e
   rw [Ju0 ndP hp hu (by show scope.names.lookup y≠_;rw [k];decide)] at q
   exact q
 ·exact .inl (e0.hok.fresh (ybg (x.above y c (PySem.mem_of_lookup h))))
 ·unfold start
  show _=N.length
  rw [yae,yf,ybo]
  omega
theorem Slo {K} {kV oc}
  (lk:K.lookup f=some ⟨oc,od,.func (PySem.W.fnOf name qual params body scope dV kV doc pm an cdv ct),osl⟩) (hcd:PySem.W.codeIn K cdv qual=true) (S:Jmy N ps scope)
  (len:∀vs H Q E,sp vs H Q E->vs.length=ps.length)
  (hbody:∀A outer s H vs Q E,San k (A.deeper (envOfC qual scope s.heap.objs.size f cdv))->sp vs H Q E->
   ∃t,PSs (Jxr CX P w K mg base N qual scope f cdv A outer s H E) body t/\t {nx:=λ_ H'=>Q .non H',rt:=Q} (start N vs) H):
  Ss P w K mg base CX (k+1) f (PySem.W.fnOf name qual params body scope dV kV doc pm an cdv ct) ps sp:=by
 refine ⟨len,λA outer s H args us vs Q E hr e0 hb r hsp=>?_⟩
 have KX:=e0.mod.kin.keeps λb o e=>(e0.bs b o e).1
 have hkind:∀y∈ps.zip us,scope.names.lookup y.1=some .local\/(scope.names.lookup y.1=some .cell/\((cellsFrom (s.heap.objs.size+1) scope.names []).lookup y.1).isSome=true):=λ⟨n,v⟩ hy=>by
  rcases S.par n (List.of_mem_zip hy).1 with q|q
  ·exact .inl q
  ·exact .inr ⟨q,PySem.W.cellsFrom_some _ _ _ (.inl q)⟩
 refine codeAny_call_function hr.depth (KX _ _ lk) rfl S.co S.gen rfl (PySem.W.codeRec_of KX hcd) (hb _ _ _ _ (wpAny_newFunctionEnv_cells S.kind hkind λenv he s1 x=>?_))
 subst he
 refine ⟨(e0.mod.nolimit.keeps λb o e=>(e0.bs b o e).1).keeps x.toInCall.keep,codeAny_func ?_⟩
 obtain ⟨t,ht,hq⟩:=hbody A outer s H vs Q E (hr.deeper _) hsp
 have I:Sn (Jxr CX P w K mg base N qual scope f cdv A outer s H E) [] (start N vs) H s1:=Jxa S hr.hd e0 (len _ _ _ _ hsp) r x
 refine wpAny_mono (ht [] s1 (start N vs) H _ I hq) (λfl s' hs=>?_) λe s' hs=>hs
 have fin:∀{σ':St} {H':Hp} {v:V} {u:S2},Sn (Jxr CX P w K mg base N qual scope f cdv A outer s H E) [] σ' H' s'->Sa5 v u->Q v H'->CE outer P w H s Q u s':=
  λ{σ' H' v u} J rv q=>⟨v,H',J.os,J.bare,J.base,J.hok,rv,q⟩
 cases fl with
 |ret u=>
  obtain ⟨v,σ',H',J,rv,q⟩:=hs
  exact fin J rv q
 |next=>
  obtain ⟨σ',H',J,q⟩:=hs
  exact fin (v:=V.non) J rfl q
 |brk=>
  obtain ⟨_,_,_,q⟩:=hs
  exact False.elim q
 |cont=>
  obtain ⟨_,_,_,q⟩:=hs
  exact False.elim q
section
variable {X:Cx} {x:Str} {p pos:Pos} {e:Expr} {es:List Expr} {t:TA} {id T:String} {r:List V->Hp->VK->Prop}
def tCB (r:List V->Hp->VK->Prop) (t:TA):TE:=λσ H Q=>t σ H λvs H1=>r vs H1 Q
theorem Jmx (hc:Jpd X (.builtin id) r) (hg:Gl X x) (hm:X.mg x=none) (hv:bootBuiltins x=some (.builtin id)) (ha:PA X (e::es) t) (hn:x≠"__name__" :=by decide) (hdb:(x==("__debug__" :Str))=false:=by decide)
  (he:starEach (e::es) X.env=(false,eval e X.env)::starEach es X.env:=by rfl) (hpl:(backTo pos (starEach es X.env)).any (·.1)=false:=by rfl):PE X (.Call (.Name x p) (e::es) [] pos) (tCB r t):=by
 intro pins s σ H Q I h
 exact wpAny_Call_Name_kw (Jqo I hg hm hv (PyProof.Rows.callWith_builtin1 (thn (ha pos pins s σ H _ I h) λus s1 ⟨vs,H1,I1,r1,q1⟩=>hc pins s1 σ H1 vs us Q I1 r1 q1) he hpl) hn hdb)
theorem Jnd (hc:Jpd X (.type T) r) (hg:Gl X x) (hm:X.mg x=none) (hv:bootBuiltins x=some (.type T)) (ha:PA X (e::es) t) (hn:x≠"__name__" :=by decide) (hdb:(x==("__debug__" :Str))=false:=by decide)
  (he:starEach (e::es) X.env=(false,eval e X.env)::starEach es X.env:=by rfl) (hpl:(backTo pos (starEach es X.env)).any (·.1)=false:=by rfl):PE X (.Call (.Name x p) (e::es) [] pos) (tCB r t):=by
 intro pins s σ H Q I h
 exact wpAny_Call_Name_kw (Jqo I hg hm hv (PyProof.Rows.callWith_type1 (thn (ha pos pins s σ H _ I h) λus s1 ⟨vs,H1,I1,r1,q1⟩=>hc pins s1 σ H1 vs us Q I1 r1 q1) he hpl) hn hdb)
end
end L2
namespace HT
open PySem PyProof.Rows
section
open PySem.SeqAt
open PySem.AutoSeq1 (wpAny_loadPart')
open PySem.MeetsSeq PySem.MeetsSeq2 PySem.MeetsSeq3
end
section
variable {prog:S7} {w:S9} {A:Sa} {E:S2->S3->Prop} {s:S3}
theorem cat_tup (ht:IsTup s.heap t vs.toArray) (hb:IsTup s.heap b ws.toArray) (hv:vs≠ [])
  (h1:ws= []->Q (.ref t) s) (h2:ws≠ []->Q (.ref s.heap.objs.size) {s with heap:=s.heap.push {cls:=.type "tuple",data:=.seq (vs++ws).toArray}})
  (hsz:vs.length+ws.length<=S6):Sc (model prog w) A (binaryOp .Add (.ref t) (.ref b)) Q E s:=by
 obtain ⟨⟨cls,dd,data,sl⟩,ho,hc,n,hd⟩:=id ht
 obtain ⟨⟨cls2,dd2,data2,sl2⟩,ho2,hc2,n2,hd2⟩:=id hb
 subst hc hd hc2 hd2
 have e:vs.toArray++ws.toArray=(vs++ws).toArray:=by simp
 by_cases hw:ws= []
 ·exact concat_meets ⟨_,ho,rfl⟩ ⟨_,ho2,rfl⟩ noFill_tuple_add seq_tuple_add PySem.F.slot_tuple_add PySem.F.entry_tuple_add (PySem.F.args_tuple_add_2 _ _)
   (tuple_addW1 t b vs.toArray ws.toArray n n2 dd dd2 sl sl2 (by simpa using hv) (by simp [hw])) ⟨ho,ho2,h1 hw⟩
 ·refine concat_meets ⟨_,ho,rfl⟩ ⟨_,ho2,rfl⟩ noFill_tuple_add seq_tuple_add PySem.F.slot_tuple_add PySem.F.entry_tuple_add (PySem.F.args_tuple_add_2 _ _)
   (tuple_addW2 t b vs.toArray ws.toArray n n2 dd dd2 sl sl2 (by simpa using hv) (by simpa using hw) (by rw [yn];exact hsz)) ⟨ho,ho2,?_⟩
  rw [e]
  exact h2 hw
def sIx (n d:Nat):Option Int->Nat
 |none=>d
 |some v=>if v < 0 then (v+(n:Int)).toNat else min v.toNat n
theorem sIx_none (n d):sIx n d none=d:=rfl
theorem Yab (v:Int) (n d:Nat):(if v < 0 then max (v+n) 0 else min v n)=((sIx n d (some v):Nat):Int):=by
 show (if v < 0 then max (v+n) 0 else min v n)=(if v < 0 then (v+n).toNat else min v.toNat n)
 by_cases hv:v < 0
 ·simp only [if_pos hv];omega
 ·simp only [if_neg hv];omega
theorem Y8 (lo hi) (n:Nat):Builtin.Slice.sliceAdjust lo hi 1 (n)=(((sIx n 0 lo:Nat):Int),(sIx n n hi:Int)):=by
 refine Prod.ext ?_ ?_
 ·cases lo with
  |none=>rfl
  |some v=>exact Yab v n 0
 ·cases hi with
  |none=>rfl
  |some v=>exact Yab v n n
theorem Yu (i j:Nat):Builtin.Slice.slicePlaces (i) (j) 1=j - i:=by
 unfold Builtin.Slice.slicePlaces
 split <;> omega
theorem Jw8 (p:IsPart v o) (h:Q o s):Sc (model prog w) A (Builtin.Slice.slicePartIndex v) Q E s:=by
 cases p with
 |none=>exact slicePart_none h
 |int i t=>exact slicePart_int h
theorem Juj {lo hi} {n:Nat} {Q} (hs:s.heap.IsSliceOf sl vl vu .none) (pl:IsPart vl lo) (pu:IsPart vu hi)
  (h:Q (((sIx n 0 lo:Nat):Int),1,sIx n n hi - sIx n 0 lo) s):Sc (model prog w) A (Builtin.Slice.sliceApplied (.ref sl) (pure n)) Q E s:=by
 obtain ⟨os,hos,hcs,hds⟩:=id hs
 refine S4 (S4 (wpAny_field hos hds rfl (S4 (wpAny_field hos hds rfl (S4 (wpAny_field hos hds rfl (S5 (S4 (slicePart_none (S4 (Jw8 pl (S4 (Jw8 pu (S4 (S5 ?_)))))))))))))))
 show Sc _ _ (match Builtin.Slice.sliceAdjust lo hi 1 n with|(lo,hi)=>pure (lo,(1:Int),Builtin.Slice.slicePlaces lo hi 1)) _ _ s
 rw [Y8 lo hi n]
 show Sc _ _ (pure ((sIx n 0 lo:Int),1,Builtin.Slice.slicePlaces (sIx n 0 lo) (sIx n n hi) 1)) _ _ s
 rw [Yu]
 exact S5 h
theorem Yd8 (xs:Array S2) (i k:Nat):((yz k).filterMap λ(m:Nat)=>xs[((i:Int)+m*1).toNat]?).toArray=((xs.toList.drop i).take k).toArray:=by
 have e:(λ(m:Nat)=>xs[((i:Int)+m*1).toNat]?)=λm=>xs[i+m]?:=by
  funext m
  have:((i:Int)+m*1).toNat=i+m:=by omega
  rw [this]
 rw [e]
 have:=pick_run xs i k
 rw [List.filterMap_map] at this
 have e2:((λx=>xs[x]?)∘λx=>i+x)=λm=>xs[i+m]?:=rfl
 rw [e2] at this
 rw [this]
theorem getItem_tuple_cut {items} {vl vu} {lo hi} {Q} (ht:IsTup s.heap t items) (hs:s.heap.IsSliceOf sl vl vu .none) (pl:IsPart vl lo) (pu:IsPart vu hi)
  (hw:¬(sIx items.size 0 lo=0/\sIx items.size items.size hi=items.size))
  (h:Q (.ref s.heap.objs.size) {s with heap:=s.heap.push {cls:=.type "tuple",data:=.seq ((items.toList.drop (sIx items.size 0 lo)).take (sIx items.size items.size hi - sIx items.size 0 lo)).toArray}})
  (hsz:items.size<=S6):Sc (model prog w) A (getItem (.ref t) (.ref sl)) Q E s:=by
 have htake:=by
  show ((items.toList.drop (sIx items.size 0 lo)).take (sIx items.size items.size hi - sIx items.size 0 lo)).toArray.size<=S6
  rw [yn,yy,List.length_drop,Array.length_toList]
  omega
 obtain ⟨os,hos,hcs,hds⟩:=id hs
 have hTs:s.TypeIs (.ref sl) "slice" :=⟨os,hos,hcs⟩
 unfold getItem
 try with_reducible refine wpAny_holding ?_
 refine S4 (wpAny_sequenceKey ht.typeIs (by decide) (S4 (wpAny_callSpecial?_slot ht.typeIs PyProof.Rows.slot_tuple_getitem
  (wpAny_call_entry PyProof.Rows.slot_tuple_getitem ht.typeIs entry_tuple_getitem ?_ (args_tuple_getitem _ _)))))
 show Sc _ _ (Builtin.Tuple.tupleItemsOf (.ref t) >>=_) _ _ s
 refine S4 (tupleItemsOf_ ht (S4 (wpAny_typeOf hTs (S4 (Juj hs pl pu ?_)))))
 have hno:¬(((sIx items.size 0 lo:Int)==0&&(1:Int)==1&&(sIx items.size items.size hi - sIx items.size 0 lo)==items.size)=true):=by
  intro q
  rw [yx,yx] at q
  have q1:=eq_of_beq q.1.1
  have q2:=eq_of_beq q.2
  exact hw ⟨by omega,by omega⟩
 show Sc _ _ (if ((sIx items.size 0 lo:Int)==0&&1==1&&(sIx items.size items.size hi - sIx items.size 0 lo)==items.size)=true then _ else _) _ _ s
 rw [if_neg hno,Yd8]
 first
  |exact S4 (wpAny_newObj_type (S5 ⟨_,rfl,S5 h⟩) htake)
  |exact S4 (wpAny_newObj_type (S4 (S5 (S5 ⟨_,rfl,S5 h⟩))) htake)
  |exact S4 (S4 (wpAny_newObj_type (S5 (S5 ⟨_,rfl,S5 h⟩)) htake))
  |exact S4 (S4 (wpAny_newObj_type (S5 ⟨_,rfl,S5 h⟩) htake))
end
end HT
namespace L2
open PySem PySem.Spec PyProof.Rows
abbrev TO:=St->Hp->(Option Int->Hp->Prop)->Prop
def PO (X:Cx) (e:Option Expr) (t:TO):Prop:=
 ∀(pins:List (S1×Obj)) (s:S3) (σ:St) (H:Hp) (Q:Option Int->Hp->Prop),Sn X pins σ H s->t σ H Q->
  Sc (model X.prog X.w) X.A (evalPart e X.env) (λu s'=>∃o H',Sn X pins σ H' s'/\IsPart u o/\Q o H') X.xe s
def Yfv:TO:=λ_ H Q=>Q none H
inductive Yfw (Q:(Option Int->Hp->Prop)) (x:V) (H1:Hp):Prop where
 |mk (i:_) (_:x= .int i) (_:Q (some i) H1)
def Sry (t:TE):TO:=λσ H Q=>t σ H (Yfw Q)
section
variable {X:Cx} {e:Expr} {te:TE} {lo hi:Option Expr} {tl th:TO} {pos p2:Pos}
theorem Jve:PO X none Yfv:=by
 intro pins s σ H Q I h
 exact S5 ⟨none,H,I,.none,h⟩
theorem Jqk (h:PE X e te):PO X (some e) (Sry te):=by
 intro pins s σ H Q I hw
 refine thn (h pins s σ H _ I hw) λu s1 zq=>?_
 obtain ⟨x,H1,I1,r1,q1⟩:=zq
 obtain ⟨i,rfl,q⟩:=q1
 obtain ⟨t,rfl⟩:=r1
 exact ⟨some i,H1,I1,.int i t,q⟩
def SlR (X:Cx) (r:V->Option Int->Option Int->Hp->VK->Prop):Prop:=
 ∀(pins:List (S1×Obj)) (s:S3) (σ:St) (H:Hp) (x:V) (v vl vu:S2) (lo hi:Option Int) (sl:S1) (Q:VK),Sn X pins σ H s->Sa5 x v->s.heap.IsSliceOf sl vl vu .none->IsPart vl lo->IsPart vu hi->r x lo hi H Q->
  ∃T id,typeLookup (.type T) "__getitem__" =pure (some (.builtin id))/\s.TypeIs v T/\Sc (model X.prog X.w) X.A (getItem v (.ref sl)) (EP X pins σ Q) X.xe s
def tSl (r:V->Option Int->Option Int->Hp->VK->Prop) (te:TE) (tl th:TO):TE:=λσ H Q=>te σ H λx H1=>tl σ H1 λl H2=>th σ H2 λu H3=>r x l u H3 Q
theorem Jr1 (hr:SlR X r) (he:PE X e te) (hl:PO X lo tl) (hu:PO X hi th):PE X (.Subscript e (.Slice lo hi none p2) pos) (tSl r te tl th):=by
 intro pins s σ H Q I h
 refine Subscript_ (thn (he pins s σ H _ I h) λv s1 ⟨x,H1,I1,r1,q1⟩=>wpAny_Slice (thn (hl pins s1 σ H1 _ I1 q1) λvl s2 ⟨l,H2,I2,pl,q2⟩=>thn (hu pins s2 σ H2 _ I2 q2) λvu s3 ⟨u,H3,I3,pu,q3⟩=>S5 ?_))
 have I4:Sn X pins σ H3 {s3 with heap:=s3.heap.push {cls:=.type "slice",data:=.fields #[vl,vu,.none]}}:=I3.kept λb ob q=>yl _ q
 obtain ⟨T,id,hT,ht,hg⟩:=hr pins {s3 with heap:=s3.heap.push {cls:=.type "slice",data:=.fields #[vl,vu,.none]}} σ H3 x v vl vu l u s3.heap.objs.size Q I4 r1 (Heap.IsSliceOf.new ..) pl pu q3
 exact tail_any ht hT hg (by with_unfolding_all rfl)
def Jxq (xs:List V) (lo hi:Option Int):List V:=(xs.drop (HT.sIx xs.length 0 lo)).take (HT.sIx xs.length xs.length hi - HT.sIx xs.length 0 lo)
theorem Jum (xs) (lo hi):(Jxq xs lo hi).length<=xs.length:=by
 unfold Jxq
 rw [yy,List.length_drop]
 omega
inductive Svq (K:Se) (x:V) (lo:Option Int) (hi:Option Int) (H:Hp) (Q:VK):Prop where
 |mk (a:_) (xs:_) (_:x= .ref a) (_:Su K H a xs) (_:¬(HT.sIx xs.length 0 lo=0/\HT.sIx xs.length xs.length hi=xs.length)) (_:∀p,H p=none->Q (.ref p) (upd H p (.tup (Jxq xs lo hi))))
theorem Jyp:SlR X (Svq X.K):=by
 intro pins s σ H x v vl vu lo hi sl Q I rx hs pl pu h
 obtain ⟨a,xs,rfl,hx,hw,q⟩:=h
 cases rx
 obtain ⟨its,r,ht,hz⟩:=I.tuple hx
 have hlen:its.toArray.size=xs.length:=by rw [yn];exact r.length.symm
 refine ⟨"tuple",_,PyProof.Rows.slot_tuple_getitem.lookup,ht.typeIs,HT.getItem_tuple_cut ht hs pl pu (by rw [hlen];exact hw) ?_ (by rw [hlen];exact hz)⟩
 rw [hlen]
 refine ⟨.ref s.heap.objs.size,_,I.laid (λb ob q=>yl _ q) (yk _) ?_,rfl,q _ (I.hok.fresh (yk _))⟩
 exact ⟨yan (Jum xs lo hi) hz,_,(r.drop (HT.sIx xs.length 0 lo)).take (HT.sIx xs.length xs.length hi - HT.sIx xs.length 0 lo),IsTup.new _ _⟩
inductive Sr4 (K:Se) (x:V) (y:V) (H:Hp) (Q:VK):Prop where
 |mk (a:_) (b:_) (xs:_) (ys:_) (_:x= .ref a) (_:y= .ref b) (_:Su K H a xs) (_:Su K H b ys) (_:xs≠ []) (_:xs.length+ys.length<=S6) (_:(ys= []->Q (.ref a) H)) (_:(ys≠ []->∀p,H p=none->Q (.ref p) (upd H p (.tup (xs++ys)))))
theorem Sa0.nil_iff (r:Sa0 xs us):us= []↔xs= []:=by
 cases r with
 |nil=>simp
 |cons _ _=>simp
theorem Yey:OpR X (binaryOp .Add) (Sr4 X.K):=by
 rintro pins s σ H x y v u Q I rx ry ⟨a,b,xs,ys,rfl,rfl,ha,hb,hx,hz,q1,q2⟩
 cases rx
 cases ry
 obtain ⟨its,r1,p1,_⟩:=I.tuple ha
 obtain ⟨its2,r2,p2,_⟩:=I.tuple hb
 refine HT.cat_tup p1 p2 (λz=>hx (r1.nil_iff.mp z)) (λz=>⟨.ref a,H,I,rfl,q1 (r2.nil_iff.mp z)⟩) (λz=>⟨.ref s.heap.objs.size,_,I.laid (λb ob q=>yl _ q) (yk _) ?_,rfl,q2 (λw=>z (r2.nil_iff.mpr w)) _ (I.hok.fresh (yk _))⟩) (by rw [<-r1.length,<-r2.length];exact hz)
 exact ⟨by rw [yae];exact hz,_,r1.append r2,IsTup.new _ _⟩
end
def ixN (n:Nat) (i:Int):Option Nat:=if 0<=i then (if i < n then some i.toNat else none) else if -(n:Int)<=i then some (i+n).toNat else none
def atI {α:Type} (xs:List α) (i:Int):Option α:=(ixN xs.length i).bind λj=>xs[j]?
theorem Yak (h:ixN n i=some j):seqIndex? i n=some j/\j < n/\ -(n)<=i/\i < n:=by
 unfold ixN at h
 by_cases h0:0<=i
 ·rw [if_pos h0] at h
  by_cases h1:i < n
  ·rw [if_pos h1] at h
   have e:=yv.inj h
   exact ⟨by rw [seqIndex_of h0 h1,e],by omega,by omega,h1⟩
  ·rw [if_neg h1] at h;cases h
 ·rw [if_neg h0] at h
  by_cases h1: -n<=i
  ·rw [if_pos h1] at h
   have e:=yv.inj h
   exact ⟨by rw [seqIndex_neg (by omega) h1,e],by omega,h1,by omega⟩
  ·rw [if_neg h1] at h;cases h
theorem Jvb (h:atI xs i=some v):∃j,seqIndex? i xs.length=some j/\xs[j]?=some v/\j < xs.length/\ -(xs.length:Int)<=i/\i < xs.length:=by
 unfold atI at h
 cases e:ixN xs.length i with
 |none=>rw [e] at h;cases h
 |some j=>
  rw [e] at h
  obtain ⟨h1,h2,h3,h4⟩:=Yak e
  exact ⟨j,h1,h,h2,h3,h4⟩
theorem Jq0 {j:Nat} (h:xs[j]?=some v):atI xs (j)=some v:=by
 have hj:=(yj.mp h).1
 have e:ixN xs.length j=some j:=by
  unfold ixN
  rw [if_pos (by omega),if_pos (by omega)];simp
 unfold atI;rw [e];exact h
def Yee (b:Expr):Prop:=∀o i,subscripted b false o i=operate [o,i] (getItem o i)
def IxR (X:Cx) (r:R2):Prop:=
 ∀(value slice:Expr) (pins:List (S1×Obj)) (s:S3) (σ:St) (H:Hp) (x y:V) (v u:S2) (Q:VK),Sn X pins σ H s->Sa5 x v->Sa5 y u->r x y H Q->
  subscripted slice false v u=operate [v,u] (getItem v u)->Sc (model X.prog X.w) X.A (subscriptTail value slice v u) (EP X pins σ Q) X.xe s
def MtR (X:Cx) (id:String) (r:V->List V->Hp->VK->Prop):Prop:=
 ∀(pins:List (S1×Obj)) (s:S3) (σ:St) (H:Hp) (x:V) (xs:List V) (v:S2) (us:List S2) (Q:VK),Sn X pins σ H s->Sa5 x v->Sa0 xs us->r x xs H Q->
  Sc (model X.prog X.w) X.A (call (.builtin id) (v::us)) (EP X pins σ Q) X.xe s
section
variable {X:Cx} {a b:Expr} {ta tb:TE} {pos:Pos}
theorem Jn1 (hr:IxR X r) (ha:PE X a ta) (hb:PE X b tb) (hs:Yee b):PE X (.Subscript a b pos) (tOp r ta tb):=by
 intro pins s σ H Q I h
 exact Subscript_ (Smo ha hb I h λv u s2 x y H2 I2 rx ry q=>hr a b pins s2 σ H2 x y v u Q I2 rx ry q (hs _ _))
inductive Sr7 (K:Se) (x:V) (y:V) (H:Hp) (Q:VK):Prop where
 |mk (p:_) (xs:_) (i:_) (v:_) (_:x= .ref p) (_:y= .int i) (_:Sv K H p xs) (_:atI xs i=some v) (_:Q v H)
inductive Sr8 (K:Se) (x:V) (y:V) (H:Hp) (Q:VK):Prop where
 |mk (p:_) (xs:_) (i:_) (v:_) (_:x= .ref p) (_:y= .int i) (_:Su K H p xs) (_:atI xs i=some v) (_:Q v H)
inductive Svn (x:V) (y:V) (H:Hp) (Q:VK):Prop where
 |mk (z:_) (i:_) (c:_) (_:x= .str z) (_:y= .int i) (_:z.length<=S6) (_:atI z.cps.toList i=some c) (_:Q (.str ⟨#[c]⟩) H)
theorem Jne:IxR X (Sr7 X.K):=by
 rintro value slice pins s σ H x y v u Q I rx ry ⟨p,xs,i,z,rfl,rfl,hq,he,q⟩ hs
 cases rx
 obtain ⟨t,rfl⟩:=ry
 obtain ⟨its,r,pl,hz⟩:=I.list hq
 obtain ⟨j,h1,h2,h3,h4,h5⟩:=Jvb he
 obtain ⟨w,ew,rw'⟩:=r.get h2
 have hl:=r.length
 have hn:=Jrt
 have fin:EP X pins σ Q w s:=⟨z,H,I,rw',q⟩
 by_cases h0:0<=i
 ·have hj:=by
   rw [seqIndex_of h0 h5] at h1
   exact yv.inj h1
  exact item_listR pl.isList h0 (by omega) (by rw [hj];simpa using ew) fin hs
 ·have hj:(i+its.toArray.size).toNat=j:=by
   rw [seqIndex_neg (by omega) h4] at h1
   rw [yn,<-hl]
   exact yv.inj h1
  exact subscriptTail_builtinR pl.isList.typeIs slot_list_getitem.lookup
   (wpAny_getItem_list_neg pl.isList (by omega) (by rw [yn] <;> omega) (by omega) (by rw [hj];simpa using ew) ⟨rfl,fin⟩) hs
theorem Jn9:IxR X (Sr8 X.K):=by
 rintro value slice pins s σ H x y v u Q I rx ry ⟨p,xs,i,z,rfl,rfl,hq,he,q⟩ hs
 cases rx
 obtain ⟨t,rfl⟩:=ry
 obtain ⟨its,r,pl,hz⟩:=I.tuple hq
 obtain ⟨j,h1,h2,h3,h4,h5⟩:=Jvb he
 obtain ⟨w,ew,rw'⟩:=r.get h2
 have hn:=Jrt
 have fin:EP X pins σ Q w s:=⟨z,H,I,rw',q⟩
 exact subscriptTail_builtinR pl.typeIs slot_tuple_getitem.lookup
  (getItem_tuple pl (by omega) (by omega) (by rw [yn,<-r.length];exact h1) (by simpa using ew) ⟨rfl,fin⟩) hs
theorem Ycx:IxR X Svn:=by
 rintro value slice pins s σ H x y v u Q I rx ry ⟨z,i,c,rfl,rfl,hz,he,q⟩ hs
 obtain ⟨t,rfl⟩:=rx
 obtain ⟨t',rfl⟩:=ry
 obtain ⟨j,h1,h2,h3,h4,h5⟩:=Jvb he
 have hl:z.cps.toList.length=z.length:=by simp [Str.length]
 rw [hl] at h1 h4 h5
 have hn:=Jrt
 exact tail_any (typeIs_str s z t) slot_str_getitem.lookup (getItem_str (by
  have e1:decide (i < -2^63)=false:=decide_eq_false (by omega)
  have e2:decide (i≥2^63)=false:=decide_eq_false (by omega)
  rw [e1,e2,Bool.or_false]) (by rw [h1];simpa using h2) ⟨.str ⟨#[c]⟩,H,I.tok _,⟨_,rfl⟩,q⟩) hs
theorem Yj (its:List S2) (n j) (u):Obj.mapSeq (·.setIfInBounds j u) {cls:=.type "list",data:=.seq its.toArray n}={cls:=.type "list",data:=.seq (its.set j u).toArray n}:=by
 simp [Obj.mapSeq]
theorem Sn.lst (I:Sn X pins σ H s) (h:H p=some (.lst xs)):
  ∃(its:List S2) (n:Nat),Sa0 xs its/\s.heap.get? p=some {cls:=.type "list",data:=.seq its.toArray n}/\xs.length<=S6:=by
 obtain ⟨z,its,n,r,e⟩:=I.hok p _ h
 exact ⟨its,n,r,e,z⟩
theorem Sn.lstUpd {σ:St} {H} {s} {p} {xs ys} {its its':List S2} {n n'} {f} (I:Sn X pins σ H s) (h:H p=some (.lst xs))
  (ho:s.heap.get? p=some {cls:=.type "list",data:=.seq its.toArray n}) (hf:f {cls:=.type "list",data:=.seq its.toArray n}={cls:=.type "list",data:=.seq its'.toArray n'}) (r:Sa0 ys its') (hz:ys.length<=S6) (t):
  Sn X pins σ (upd H p (.lst ys)) {s with heap:=s.heap.update p f,toks:=t}:=by
 have e:(s.heap.update p f).get? p=some {cls:=.type "list",data:=.seq its'.toArray n'}:=by
  rw [ybv f ho (by rw [hf] <;> rfl),hf]
 refine I.write (by rw [h];trivial) (.inl rfl) (λb u hb q=>(ybk _ _ (yt hb)).trans q) ⟨_,e⟩ ?_
 exact ⟨hz,its',n',r,e⟩
inductive Sr9 (o:V) (i:V) (v:V) (H:Hp) (Q:(Hp->Prop)):Prop where
 |mk (p:_) (xs:_) (k:_) (j:_) (_:o= .ref p) (_:i= .int k) (_:H p=some (.lst xs)) (_:ixN xs.length k=some j) (_:Q (upd H p (.lst (xs.set j v))))
theorem Jpk:Smi X Sr9:=by
 rintro pins s σ H o i v ov iv u Q I ro ri rv ⟨p,xs,k,j,rfl,rfl,hp,hj,q⟩
 cases ro
 obtain ⟨t,rfl⟩:=ri
 obtain ⟨its,n,r,ho,hz⟩:=I.lst hp
 obtain ⟨h1,h2,h3,h4⟩:=Yak hj
 have hl:=r.length
 have hn:=Jrt
 have I':=
  I.lstUpd hp ho (Yj its n j u) (r.set rv j) (by rw [List.length_set];exact hz) s.toks
 by_cases h0:0<=k
 ·have hk:=by
   rw [seqIndex_of h0 h4] at h1
   exact yv.inj h1
  exact PySem.W.ki_setAt ho h0 (by omega) (by rw [yn,<-hl];exact h4) (by rw [hk];exact ⟨_,I',q⟩)
 ·have hk:(k+its.toArray.size).toNat=j:=by
   rw [seqIndex_neg (by omega) h3] at h1
   rw [yn,<-hl]
   exact yv.inj h1
  exact PySem.W.ki_setBack ho (by omega) (by rw [yn,<-hl];exact h3) (by omega) (by rw [hk];exact ⟨_,I',q⟩)
theorem Jyq (lo hi) (n):(sliceBounds lo hi none n).1=((HT.sIx n 0 lo:Nat):Int)/\(sliceBounds lo hi none n).2.1=((HT.sIx n n hi:Nat):Int)/\(sliceBounds lo hi none n).2.2=1:=by
 refine ⟨?_,?_,rfl⟩
 ·cases lo with
  |none=>simp [sliceBounds,HT.sIx]
  |some i=>
   simp only [sliceBounds,HT.sIx,Option.getD_none,show (1:Int) > 0 by decide,if_true]
   by_cases h:i < 0
   ·simp only [h,if_true] <;> omega
   ·simp only [h,if_false] <;> omega
 ·cases hi with
  |none=>simp [sliceBounds,HT.sIx]
  |some i=>
   simp only [sliceBounds,HT.sIx,Option.getD_none,show (1:Int) > 0 by decide,if_true]
   by_cases h:i < 0
   ·simp only [h,if_true] <;> omega
   ·simp only [h,if_false] <;> omega
theorem Jwx (its:List S2) (lo hi):slicePick its.toArray lo hi none=((its.drop (HT.sIx its.length 0 lo)).take (HT.sIx its.length its.length hi - HT.sIx its.length 0 lo)).toArray:=by
 obtain ⟨h1,h2,h3⟩:=Jyq lo hi its.toArray.size
 unfold slicePick
 rw [h1,h2,h3]
 simp only [sliceRange_one,pick_run] <;> rfl
inductive Sra (K:Se) (x:V) (lo:Option Int) (hi:Option Int) (H:Hp) (Q:VK):Prop where
 |mk (a:_) (xs:_) (_:x= .ref a) (_:Sv K H a xs) (_:∀p,H p=none->Q (.ref p) (upd H p (.lst (Jxq xs lo hi))))
theorem Yay:SlR X (Sra X.K):=by
 intro pins s σ H x v vl vu lo hi sl Q I rx hs pl pu h
 obtain ⟨a,xs,rfl,hx,q⟩:=h
 cases rx
 obtain ⟨its,r,ht,hz⟩:=I.list hx
 have hlen:=r.length
 refine ⟨"list",_,slot_list_getitem.lookup,ht.isList.typeIs,wpAny_getItem_list_slice ht.isList hs pl pu .none (by simp) ?_ (by rw [yn] <;> omega)⟩
 rw [Jwx,<-hlen]
 refine ⟨.ref s.heap.objs.size,_,I.laid (λb ob q=>yl _ q) (yk _) ?_,rfl,q _ (I.hok.fresh (yk _))⟩
 exact ⟨yan (Jum xs lo hi) hz,_,0,(r.drop (HT.sIx xs.length 0 lo)).take (HT.sIx xs.length xs.length hi - HT.sIx xs.length 0 lo),yq _ rfl⟩
def Jrc:V->Bool
 | .non=>true
 | .bl _=>true
 | .int _=>true
 | .str _=>true
 |_=>false
def eqV:V->V->Bool
 | .non,.non=>true
 | .bl a,.bl b=>a==b
 | .bl a,.int b=>(if a then 1 else 0)==b
 | .int a,.bl b=>a==(if b then 1 else 0)
 | .int a,.int b=>a==b
 | .str a,.str b=>a==b
 |_,_=>false
theorem Ycq (ry:Sa5 y u) (rx:Sa5 x v) (fy:Jrc y=true) (fx:Jrc x=true):SeqAt.EqAt A s u v (eqV y x):=by
 cases y with
 |non=>
  cases ry
  cases x with
  |non=>cases rx;exact SeqAt.EqAt.same _
  |bl b=>cases rx;exact SeqAt.EqAt.none_bool b
  |int b=>obtain ⟨t,rfl⟩:=rx;exact SeqAt.EqAt.none_int b t
  |str b=>obtain ⟨t,rfl⟩:=rx;exact SeqAt.EqAt.none_str b t
  |_=>exact absurd (fx) yaj
 |bl a=>
  cases ry
  cases x with
  |non=>cases rx;exact SeqAt.EqAt.bool_none a
  |bl b=>cases rx;exact SeqAt.EqAt.bool_bool a b
  |int b=>obtain ⟨t,rfl⟩:=rx;exact SeqAt.EqAt.bool_int a b t
  |str b=>obtain ⟨t,rfl⟩:=rx;exact SeqAt.EqAt.bool_str a b t
  |_=>exact absurd (fx) yaj
 |int a=>
  obtain ⟨t',rfl⟩:=ry
  cases x with
  |non=>cases rx;exact SeqAt.EqAt.int_none a t'
  |bl b=>cases rx;exact SeqAt.EqAt.int_bool a t' b
  |int b=>obtain ⟨t,rfl⟩:=rx;exact SeqAt.EqAt.int_int a t' b t
  |str b=>obtain ⟨t,rfl⟩:=rx;exact SeqAt.EqAt.int_str a t' b t
  |_=>exact absurd (fx) yaj
 |str a=>
  obtain ⟨t',rfl⟩:=ry
  cases x with
  |non=>cases rx;exact SeqAt.EqAt.str_none a t'
  |bl b=>cases rx;exact SeqAt.EqAt.str_bool a t' b
  |int b=>obtain ⟨t,rfl⟩:=rx;exact SeqAt.EqAt.str_int a t' b t
  |str b=>obtain ⟨t,rfl⟩:=rx;exact SeqAt.EqAt.str_str a t' b t
  |_=>exact absurd (fx) yaj
 |_=>exact absurd (fy) yaj
def eqU (x:V) (u:S2):Bool:=match u with
 | .none=>eqV .non x
 | .bool b=>eqV (.bl b) x
 | .int i _=>eqV (.int i) x
 | .str z _=>eqV (.str z) x
 |_=>false
theorem Ycr (r:Sa5 y u) (f:Jrc y=true):eqU x u=eqV y x:=by
 cases y with
 |non=>cases r;rfl
 |bl b=>cases r;rfl
 |int i=>obtain ⟨t,rfl⟩:=r;rfl
 |str z=>obtain ⟨t,rfl⟩:=r;rfl
 |_=>exact absurd (f) yaj
theorem Jxm {x:V}:∀{xs:List V} {us:List S2},Sa0 xs us->xs.all Jrc=true->us.any (eqU x)=xs.any λy=>eqV y x
 |_,_,.nil,_=>rfl
 |y::xs,u::us,.cons r t,f=>by
  rw [List.all_cons,yx] at f
  rw [List.any_cons,List.any_cons,Ycr r f.1,Jxm t f.2]
theorem Jvt {A:Sa} {s:S3} {x:V} {v:S2} (rx:Sa5 x v) (fx:Jrc x=true):∀{xs:List V} {us:List S2},Sa0 xs us->xs.all Jrc=true->∀u∈us,SeqAt.EqAt A s u v (eqU x u)
 |_,_,.nil,_=>λu hu=>by cases hu
 |y::xs,u::us,.cons r t,f=>λu' hu=>by
  rw [List.all_cons,yx] at f
  rcases ym.mp hu with rfl|hu
  ·rw [Ycr r f.1];exact Ycq r rx f.1 fx
  ·exact Jvt rx fx t f.2 u' hu
def inV (x:V) (xs:List V):Bool:=xs.any λy=>eqV y x
inductive rIn (K:Se) (neg:Bool) (x:V) (y:V) (H:Hp) (Q:VK):Prop where
 |mk (p:_) (xs:_) (_:y= .ref p) (_:(Sv K H p xs\/Su K H p xs)) (_:Jrc x=true) (_:xs.all Jrc=true) (_:Q (.bl (if neg then !inV x xs else inV x xs)) H)
theorem Ybp:OpR X (compareOp .In) (rIn X.K false):=by
 rintro pins s σ H x y v u Q I rx ry ⟨p,xs,rfl,hq,fx,fs,q⟩
 cases ry
 rcases hq with hq|hq
 ·obtain ⟨its,r,pl,hz⟩:=I.list hq
  refine SeqAt.in_listAt (eqU x) pl.isList (λw hw=>Jvt rx fx r fs w (by simpa using hw)) ⟨.bl _,H,I,rfl,?_⟩
  rw [show its.toArray.any (eqU x)=its.any (eqU x) by simp,Jxm r fs]
  exact q
 ·obtain ⟨its,r,pl,hz⟩:=I.tuple hq
  refine SeqAt.in_tupleAt (eqU x) pl (λw hw=>Jvt rx fx r fs w (by simpa using hw)) ⟨.bl _,H,I,rfl,?_⟩
  rw [show its.toArray.any (eqU x)=its.any (eqU x) by simp,Jxm r fs]
  exact q
theorem Jn8:Jpd X (.builtin "len") (λxs H Q=>∃p ys,xs= [.ref p]/\(Sv X.K H p ys\/Su X.K H p ys)/\Q (.int ys.length) H):=by
 rintro pins s σ H xs us Q I r ⟨p,ys,rfl,hq,q⟩
 obtain ⟨u,rfl,rx⟩:=Jqg r
 cases rx
 have hn:=Jrt
 rcases hq with hq|hq
 ·obtain ⟨its,r',pl,hz⟩:=I.list hq
  have hlen:=r'.length
  exact Calls.call_len_list pl.isList (by simp only [yn] <;> omega) ⟨.int ys.length,H,I.tok _,⟨s.toks+1,by rw [yn,hlen]⟩,q⟩
 ·obtain ⟨its,r',pl,hz⟩:=I.tuple hq
  have hlen:=r'.length
  exact len_tuple pl (by simp only [yn] <;> omega) ⟨.int ys.length,H,I.tok _,⟨s.toks+1,by rw [yn,hlen]⟩,q⟩
theorem Jxo:Jpd X (.builtin "len") (λxs H Q=>∃z,xs= [.str z]/\z.length<=S6/\Q (.int z.length) H):=by
 rintro pins s σ H xs us Q I r ⟨z,rfl,hz,q⟩
 obtain ⟨u,rfl,t,rfl⟩:=Jqg r
 have hn:=Jrt
 exact len_str (by omega) ⟨.int z.length,H,I.tok _,⟨_,rfl⟩,q⟩
theorem Jox:Jpd X (.type "list") (λxs H Q=>∃p ys,xs= [.ref p]/\(Sv X.K H p ys\/Su X.K H p ys)/\∀l,H l=none->Q (.ref l) (upd H l (.lst ys))):=by
 rintro pins s σ H xs us Q I r ⟨p,ys,rfl,hq,q⟩
 obtain ⟨u,rfl,rx⟩:=Jqg r
 cases rx
 have fin:∀its,Sa0 ys its->ys.length<=S6->∀h' c',(∀b o',s.heap.get? b=some o'->h'.get? b=some o')->
   h'.get? s.heap.objs.size=some {cls:=.type "list",dict:=none,data:=.seq its.toArray c',slots:=#[]}->EP X pins σ Q (.ref s.heap.objs.size) {s with heap:=h'}:=λits r' hz h' c' kp e=>
  ⟨.ref s.heap.objs.size,_,I.laid kp (yk _) (show Sb6 X.prog X.w _ h' _ (.lst ys) from ⟨hz,its,c',r',e⟩),rfl,q _ (I.hok.fresh (yk _))⟩
 rcases hq with hq|hq
 ·obtain ⟨its,r',pl,hz⟩:=I.list hq
  have hlen:=r'.length
  obtain ⟨o,ho,hc,n,hd⟩:=pl.isList
  exact call_list_seq p (.inl rfl) ho hc hd (λh' c' kp e=>fin its r' hz h' c' kp e) (by simp only [yn] <;> omega)
 ·obtain ⟨its,r',pl,hz⟩:=I.tuple hq
  have hlen:=r'.length
  obtain ⟨o,ho,hc,n,hd⟩:=pl
  exact call_list_seq p (.inr rfl) ho hc hd (λh' c' kp e=>fin its r' hz h' c' kp e) (by simp only [yn] <;> omega)
theorem Jnl:Jpd X (.type "tuple") (λxs H Q=>∃p ys,xs= [.ref p]/\((Sv X.K H p ys/\∀l,H l=none->Q (.ref l) (upd H l (.tup ys)))\/(Su X.K H p ys/\Q (.ref p) H))):=by
 rintro pins s σ H xs us Q I r ⟨p,ys,rfl,h⟩
 obtain ⟨u,rfl,rx⟩:=Jqg r
 cases rx
 rcases h with ⟨hq,q⟩|⟨hq,q⟩
 ·obtain ⟨its,r',pl,hz⟩:=I.list hq
  have hlen:=r'.length
  refine call_tuple_list pl.isList (λh' kp=>?_) (by simp only [yn] <;> omega)
  have I1:Sn X pins σ H {s with heap:=h'}:=I.kept kp
  have I2:Sn X pins σ (upd H h'.objs.size (.tup ys)) {s with heap:=h'.push {cls:=.type "tuple",data:=.seq its.toArray}}:=
   I1.laid (λb o e=>yl _ e) (yk _) (⟨hz,its,r',IsTup.new _ _⟩)
  exact ⟨.ref h'.objs.size,_,I2,rfl,q _ (I1.hok.fresh (yk _))⟩
 ·obtain ⟨its,r',pl,hz⟩:=I.tuple hq
  exact call_tuple_same pl ⟨.ref p,H,I,rfl,q⟩
def tyV (K:Se) (T:String) (x:V) (H:Hp):Prop:=match x with
 | .str _=>T="str"
 | .int _=>T="int"
 | .ref p=>(T="list" /\∃xs,Sv K H p xs)\/(T="tuple" /\∃o,K.lookup p=some o/\o.cls= .type "tuple" /\o.dict=none)\/
   (T="dict" /\((∃kvs,H p=some (.dK kvs))\/∃kvs,H p=some (.dT kvs)))\/(T="set" /\∃S n,H p=some (.set S n))
 |_=>False
theorem Soq (I:Sn X pins σ H s) (r:Sa5 x v) (ty:tyV X.K T x H):
  s.TypeIs v T/\∀a,v= .ref a->∃ob,s.heap.get? a=some ob/\ob.dict=none:=by
 cases x with
 |str z=>
  obtain ⟨t,rfl⟩:=r
  cases (ty)
  exact ⟨typeIs_str s z t,λ_ e=>nomatch e⟩
 |int i=>
  obtain ⟨t,rfl⟩:=r
  cases (ty)
  exact ⟨typeIs_int s i t,λ_ e=>nomatch e⟩
 |ref p=>
  cases r
  rcases ty with ⟨rfl,xs,hq⟩|⟨rfl,o,hk,hc,hd⟩|⟨rfl,hk⟩|⟨rfl,S,n,hk⟩
  ·obtain ⟨its,_,pl,_⟩:=I.list hq
   refine ⟨pl.isList.typeIs,λa e=>?_⟩
   cases e
   obtain ⟨o,n,e,c,hd,_⟩:=pl
   exact ⟨o,e,hd⟩
  ·refine ⟨⟨o,I.kIn p o hk,hc⟩,λa e=>?_⟩
   cases e
   exact ⟨o,I.kIn _ o hk,hd⟩
  ·have z:∃o,s.heap.get? p=some o/\o.ExactDict:=by
    rcases hk with ⟨kvs,hk⟩|⟨kvs,hk⟩
    ·obtain ⟨_,_,_,_,o,_,_,e,ex,_⟩:=I.hok p _ hk
     exact ⟨o,e,ex⟩
    ·obtain ⟨_,_,_,_,o,_,_,e,ex,_⟩:=I.hok p _ hk
     exact ⟨o,e,ex⟩
   obtain ⟨o,e,ex⟩:=z
   refine ⟨⟨o,e,ex.1⟩,λa e2=>?_⟩
   cases e2
   exact ⟨o,e,ex.2.1⟩
  ·obtain ⟨o,_,_,_,e,ex,_⟩:=I.hok p _ hk
   refine ⟨⟨o,e,ex.1⟩,λa e2=>?_⟩
   cases e2
   exact ⟨o,e,ex.2.1⟩
 |_=>exact False.elim ty
inductive Srr (K:Se) (T:String) (r:V->List V->Hp->VK->Prop) (t:TA) (σ:St) (Q:VK) (x:V) (H1:Hp):Prop where
 |mk (_:tyV K T x H1) (_:t σ H1 λxs H2=>r x xs H2 Q)
def tBM (K:Se) (T:String) (r:V->List V->Hp->VK->Prop) (to:TE) (t:TA):TE:=λσ H Q=>to σ H (Srr K T r t σ Q)
variable {o e:Expr} {es:List Expr} {to:TE} {t:TA} {name:Str} {apos cpos:Pos} {T id:String} {r:V->List V->Hp->VK->Prop}
theorem Js0 (pa:PlainAttrs T) (slot:Slot T name id) (hty:typeOf (.builtin id)=pure (.type "method_descriptor")) (hm:MtR X id r) (ho:PE X o to) (ha:PA X (e::es) t)
  (hbase:attributeBase o name X.env (eval o X.env)=eval o X.env:=by rfl)
  (hfew:((backTo cpos (starEach (e::es) X.env)).all (λx=>!x.1)&&(backToKw cpos (keywordEach [] X.env)).all (λx=>x.1.isSome)
   &&decide ((e::es).length+([]:List Keyword).length+(if ([]:List Keyword).isEmpty then 0 else 1) < 30))=true:=by rfl)
  (hline:(apos.endLine==cpos.line)=true:=by rfl) (hs:starEach (e::es) X.env=(false,eval e X.env)::starEach es X.env:=by rfl) (hplain:(backTo cpos (starEach es X.env)).any (·.1)=false:=by rfl):
  PE X (.Call (.Attribute o name apos) (e::es) [] cpos) (tBM X.K T r to t):=by
 intro pins s σ H Q I h
 refine wpAny_Call_method_late hbase hfew hline rfl (thn (ho pins s σ H _ I h) λv s1 zq=>?_)
 obtain ⟨x,H1,I1,r1,ty,q1⟩:=zq
 obtain ⟨h1,h2⟩:=Soq I1 r1 ty
 refine ⟨T,id,pa,slot,hty,h1,h2,?_⟩
 have hA:=ha cpos pins s1 σ H1 _ I1 q1
 rw [hs] at hA⊢
 exact Calls.callWith_builtin (by show (false||(backTo cpos (starEach es X.env)).any (·.1))=false;rw [hplain] <;> rfl) (Calls.evalArgs_plain (thn hA λus s2 ⟨vs,H2,I2,r2,q2⟩=>hm pins s2 σ H2 x vs v us Q I2 r1 r2 q2))
end
def MtM (X:Cx) (id:String) (r:V->List V->Hp->VK->Prop):Prop:=
 ∀(pins:List (S1×Obj)) (s:S3) (σ:St) (H:Hp) (x:V) (xs:List V) (v:S2) (us:List S2) (Q:VK),Sn X pins σ H s->Sa5 x v->Sa0 xs us->r x xs H Q->
  Sc (model X.prog X.w) X.A (call (.builtin id) (v::us)) (EP X pins σ Q) X.xe s
theorem Sa0.one:∀{x:V} {us:List S2},Sa0 [x] us->∃u,us= [u]/\Sa5 x u
 |_,_,.cons r .nil=>⟨_,rfl,r⟩
section
variable {X:Cx} {pins:List (S1×Obj)} {σ:St} {H:Hp} {s:S3} {l b:S1} {xs ys zs:List V}
theorem Sn.lset {its its':List S2} {n} {f} {t'} (I:Sn X pins σ H s) (hH:H l=some (.lst xs))
  (e:s.heap.get? l=some {cls:=.type "list",data:=.seq its.toArray n}) (hf:f its.toArray=its'.toArray) (hv:Sa0 ys its') (hz:ys.length<=S6):
  Sn X pins σ (upd H l (.lst ys)) {s with heap:=s.heap.update l (Obj.mapSeq f),toks:=t'}:=by
 have q:=PySem.IsL.update e f
 rw [hf] at q
 refine I.write (by rw [hH];exact trivial) (.inl rfl) (λb' u hb hu=>(ybk s.heap (Obj.mapSeq f) (yt hb)).trans hu) ⟨_,q⟩ ?_
 exact ⟨hz,its',_,hv,q⟩
theorem Sn.lnew (I:Sn X pins σ H s) (hv:Sa0 ys its) (hz:ys.length<=S6):
  Sn X pins σ (upd H s.heap.objs.size (.lst ys)) {s with heap:=s.heap.push {cls:=.type "list",data:=.seq its.toArray},toks:=t'}:=
 I.laid (λ_ _ q=>yl _ q) (yk _) ⟨hz,its,0,hv,yq _ rfl⟩
theorem Sn.fresh (I:Sn X pins σ H s):H s.heap.objs.size=none:=I.hok.fresh (yk _)
theorem Sn.lstM (I:Sn X pins σ H s) (hH:H l=some (.lst xs)):xs.length<=S6/\∃(its:List S2) (n:Nat),Sa0 xs its/\xs.length=its.length/\s.heap.get? l=some {cls:=.type "list",data:=.seq its.toArray n}:=by
 obtain ⟨z,its,n,r,e⟩:=I.hok l _ hH
 exact ⟨z,its,n,r,r.length,e⟩
end
section
variable {X:Cx}
inductive Yf4 (x:V) (vs:List V) (H:Hp) (Q:VK):Prop where
 |mk (l:_) (xs:_) (y:_) (_:x= .ref l) (_:vs= [y]) (_:H l=some (.lst xs)) (_:xs.length < S6) (_:Q .non (upd H l (.lst (xs++ [y]))))
theorem Joz:MtM X "list.append" Yf4:=by
 rintro pins s σ H x vs v us Q I rx rv ⟨l,xs,y,rfl,rfl,hH,hz,q⟩
 cases rx
 obtain ⟨u,rfl,ru⟩:=rv.one
 obtain ⟨z,its,n,r,hl,e⟩:=I.lstM hH
 refine call_meets F.slot_list_append ⟨_,e,rfl⟩ F.entry_list_append (F.args_list_append_2 _ _) (PySem.list_append l its.toArray n u (by rw [yn];omega)) ⟨e,⟨.non,_,I.lset hH e (by simp) (r.append (.cons ru .nil)) ?_,rfl,q⟩⟩
 rw [yae,List.length_singleton]
 omega
inductive Svk (x:V) (y:V) (H:Hp) (Q:VK):Prop where
 |mk (l:_) (b:_) (xs:_) (zs:_) (_:x= .ref l) (_:y= .ref b) (_:H l=some (.lst xs)) (_:H b=some (.lst zs)) (_:xs.length+zs.length<=S6) (_:∀p,H p=none->Q (.ref p) (upd H p (.lst (xs++zs))))
theorem Snf:OpR X (binaryOp .Add) Svk:=by
 rintro pins s σ H x y v u Q I rx ry ⟨l,b,xs,zs,rfl,rfl,hH,hB,hz,q⟩
 cases rx
 cases ry
 obtain ⟨z,its,n,r,hl,e⟩:=I.lstM hH
 obtain ⟨z2,its2,n2,r2,hl2,e2⟩:=I.lstM hB
 refine PySem.P.add_list e e2 ?_ (by rw [yn,yn];omega)
 have ea:its.toArray++its2.toArray=(its++its2).toArray:=by simp
 rw [ea]
 exact ⟨.ref _,_,I.lnew (r.append r2) (by rw [yae];omega),rfl,q _ I.fresh⟩
end
section
variable {prog:S7} {w:S9} {A:Sa} {E:S2->S3->Prop} {s:S3}
end
section
variable {X:Cx}
end
section
variable {κ:Type} [DecidableEq κ]
end
section
variable {P:S7} {w:S9} {H:Hp} {h:Sb} {a:S1}
end
section
variable {X:Cx} {pins:List (S1×Obj)} {σ:St} {H:Hp} {s:S3} {a:S1} {y v:V} {u r:S2} {o:Option V} {A:Sa} {E:S2->S3->Prop}
end
section
variable {X:Cx} {pins:List (S1×Obj)} {σ:St} {H:Hp} {s:S3} {a:S1} {kvs:List (Key×V)} {k:Key} {u:S2} {A:Sa} {E:S2->S3->Prop}
end
section
variable {X:Cx} {o i e value:Expr} {pos pos' tpos:Pos} {td ty tv:TE}
end
section
variable {X:Cx} {pos:Pos}
end
section
variable {X:Cx} {pins:List (S1×Obj)} {σ:St} {H:Hp} {s:S3} {a:S1} {y d:V} {u r:S2} {o:Option V} {A:Sa} {E:S2->S3->Prop}
end
section
variable {X:Cx} {o e f:Expr} {apos cpos:Pos} {td ty tx:TE}
end
section
variable {X:Cx} {pins:List (S1×Obj)} {σ:St} {H:Hp} {s:S3} {a:S1} {kvs:List (Key×V)} {A:Sa} {E:S2->S3->Prop}
end
section
variable {X:Cx} {pins:List (S1×Obj)} {σ:St} {H:Hp} {s:S3} {a:S1} {y:V} {u:S2} {A:Sa} {E:S2->S3->Prop}
end
end L2
namespace Att
open PySem PySem.W PySem.Calls PyProof.Rows
theorem Jv2:∀ns vs,WellAll P h vs (ns.map WData.int)->IntsAre vs ns:=by
 intro ns
 induction ns with
 |nil=>
  intro vs w
  cases w
  exact .nil
 |cons n ns ih=>
  intro vs w
  cases w with
  |cons a b=>
   cases a
   exact .cons _ _ (ih _ b)
theorem Ybw {l:OpenLaw} (hn:l.most=some n)
  (hpre:l.row.toRowW.claim.pre args=true) (hwl:WellAll P h vals args):
  ∃a vs ns,vals= [Value.ref a]/\args= [WData.list (ns.map WData.int)]/\h.get? a=some {cls:=.type "list",data:=.seq vs.toArray}/\IntsAre vs ns/\ns.length<=n:=by
 obtain ⟨d,r,rfl,h1,h2⟩:=hasAllW_cons ((pre_splitW hpre).1)
 obtain rfl:=hasAllW_nil h2
 obtain ⟨xs,rfl,h3⟩:=hasW_list h1
 obtain ⟨ns,rfl⟩:=items_int h3
 have hlen:=by
  have h4:=by
   have h4:=(holds_andW ((pre_splitW hpre).2)).1
   rw [hn] at h4
   exact h4
  have h5:=condW_of h4 (w_not (w_lt w_lit (w_len_list (w_arg rfl))))
  first
   | (rw [decide_eq_true q'] at h5; exact absurd h5 (by decide))
   | (simp at h5; omega)
 cases hwl with
 |cons w1 w2=>
  cases w2
  cases w1 with
  |list ho hall=>exact ⟨_,_,ns,rfl,rfl,ho,Jv2 ns _ hall,hlen⟩
theorem Ybt (l:OpenLaw) (args):l.row.toRowW.claim.post args (.bool true) args=true:=
 postW_of
  (by first|rfl|decide|simp [WShape.has])
  (w_eq_bool (w_res rfl) w_lit) rfl
theorem attach_call {l:OpenLaw} {n} {q} {loose} {XP} {YP} {d}
  (hn:l.most=some n) (hdf:d.params.defaults= [])
  (call:∀w s₀ s₁ mg mb fa o pm cd doc a vs ns,
   Ground q loose [] XP w s₀ mg mb s₁.heap->YP w s₁.heap->
   s₁.heap.get? fa=some o->o.data= .func (docDef d.name d.params d.body d.scope pm cd doc)->s₁.heap.CodeRec cd d.name->mg d.name=some (.ref fa)->
   s₁.heap.get? a=some {cls:=.type "list",data:=.seq vs.toArray}->IntsAre vs ns->ns.length<=n->s₁.gens= #[]->
   codeAny (model l.prog w) callerA (.call (.ref fa) ⟨[.ref a],[]⟩) (λr s'=>r= .ok (.ret (.bool true))/\OldK s₁.heap s'.heap/\s'.os=s₁.os/\AllBare s'.gens) s₁):
  WalkO q loose XP YP l.row.toRowW d [] (λf vs=>PySem.call f vs):=by
 intro w s₀ s₁ mg mb G Y fa o pm cd doc dV kV ho hd hcd hD hmg hg args vals as hpre hlay hrd hwl hlo
 obtain rfl:dV= .none:=Dflts.none hD hdf
 obtain rfl:kV= .none:=Dflts.noKw hD
 obtain ⟨a,vs,ns,rfl,rfl,hobj,hints,hlen⟩:=Ybw hn hpre hwl
 refine enter_call (codeAny_mono (call w s₀ s₁ mg mb fa o pm cd doc a vs ns G Y ho (fd_plain hd) hcd hmg hobj hints hlen hg) λr s' hq=>?_)
 obtain ⟨rfl,h2,h3,h4⟩:=hq
 exact ⟨.inl ⟨.bool true,.bool true,[],rfl,λ_=>rfl,.bool true,Ybt l _,λ_=>⟨List.Pairwise.nil,λ_ hm=>(nomatch hm)⟩⟩,h2,h3,h4⟩
section
variable {prog:S7} {w:S9} {A:Sa} {E:S2->S3->Prop} {s:S3} {K:Se}
end
end Att
namespace L2
open PySem PySem.Spec PyProof.Rows
theorem Jxl:∀{vs:List S2} {ns:List Int},IntsAre vs ns->Sa0 (ns.map V.int) vs
 |_,_,.nil=>.nil
 |_,_,.cons n t h=>.cons ⟨t,rfl⟩ (Jxl h)
abbrev KOf {K:Se} {h:Sb} (_:K.In h):Se:=K
def Jn2 (s:Stmt) (j:Nat):Stmt:=match s with
 | .ClassDef _ _ _ body _ _ _ _ _ _ _=>body.getD j (.Pass ⟨0,0,0,0⟩)
 |_=>.Pass ⟨0,0,0,0⟩
def Jo0 (s:Stmt):Arguments:=match s with
 | .FunctionDef _ a _ _ _ _ _ _ _ _=>a
 |_=>{posonlyargs:=[],args:=[],vararg:=none,kwonlyargs:=[],kw_defaults:=[],kwarg:=none,defaults:=[]}
def Jnw (s:Stmt):List Stmt:=match s with
 | .FunctionDef _ _ b _ _ _ _ _ _ _=>b
 |_=>[]
def Jmt (s:Stmt):Scope:=match s with
 | .FunctionDef _ _ _ _ _ _ sc _ _ _=>sc
 |_=>{kind:=.function,names:=[],isGenerator:=false,isCoroutine:=false}
abbrev CX0:CXT:=λ_ _ _ _ _ _=>False
abbrev E0:XK:=λ_ _ _=>False
theorem Jph:Jty CX0 X E0:=λ_ _ _ _ _ _ _ h=>h.elim
structure Fun (K:Se) (x qual:Str) (st:Stmt) (f:S1) (fd:S8):Prop where
 ex:∃(oc:S2) (od:Option S1) (kV doc pm:S2) (an:Option S1) (cdv ct:S2) (osl:Array (Option S2)),
  fd=PySem.W.fnOf x qual (Jo0 st) (Jnw st) (Jmt st) .none kV doc pm an cdv ct/\K.lookup f=some ⟨oc,od,.func fd,osl⟩/\PySem.W.codeIn K cdv qual=true
 kp:PySem.W.keepIn K (.ref f)=true
section
variable {P:S7} {w:S9} {K:Se} {mg:Str->Option S2} {base:Sb}
theorem Fun.ok {st} (F:Fun K x qual st f fd) (S:Jmy N ps (Jmt st)) (len:∀vs H Q E,sp vs H Q E->vs.length=ps.length)
  (hbody:∀cdv A outer s H vs Q E,San k (A.deeper (envOfC qual (Jmt st) s.heap.objs.size f cdv))->sp vs H Q E->
   ∃t,PSs (Jxr CX0 P w K mg base N qual (Jmt st) f cdv A outer s H E).nox (Jnw st) t/\t {nx:=λ_ H'=>Q .non H',rt:=Q} (start N vs) H):Ss P w K mg base CX0 (k+1) f fd ps sp:=by
 obtain ⟨oc,od,kV,doc,pm,an,cdv,ct,osl,rfl,lk,hcd⟩:=F.ex
 refine Slo lk hcd S len λA outer s H vs Q E hr hsp=>?_
 obtain ⟨t,h,q⟩:=hbody cdv A outer s H vs Q E hr hsp
 exact ⟨t,h.nox,q⟩
theorem Fun.binds {st} (F:Fun K x qual st f fd)
  (h:∀kV doc pm an cdv ct us,us.length=ps.length->bindArgs (PySem.W.fnOf x qual (Jo0 st) (Jnw st) (Jmt st) .none kV doc pm an cdv ct) ⟨us,[]⟩=pure (ps.zip us)):Sbk K fd ps []:=by
 obtain ⟨oc,od,kV,doc,pm,an,cdv,ct,osl,rfl,lk,hcd⟩:=F.ex
 exact .all (h kV doc pm an cdv ct)
theorem Jxu {st} {kV ct} (l:K.lookup f=some ⟨oc,od,.func (PySem.W.fnOf x qual (Jo0 st) (Jnw st) (Jmt st) .none kV doc pm an cdv ct),osl⟩)
  (c:PySem.W.codeIn K cdv qual=true) (k:PySem.W.keepIn K (.ref f)=true):Fun K x qual st f (PySem.W.fnOf x qual (Jo0 st) (Jnw st) (Jmt st) .none kV doc pm an cdv ct):=⟨⟨oc,od,kV,doc,pm,an,cdv,ct,osl,rfl,l,c⟩,k⟩
end
section
variable {X:Cx}
theorem pv (i) {pos} (hN:X.N[i]?=some x:=by rfl) (hv:Vis X.env.scope x:=by first|exact ye rfl|exact Or.inr (ye rfl)|exact Or.inr (Or.inr rfl)) (hd:(x==("__debug__" :Str))=false:=by decide)
  (hcd:(x==("__classdict__" :Str))=false:=by decide):PE X (.Name x pos) (Soj i):=Yd7 hN hv hd hcd
end
theorem Jnv {A:Prop} (h:B):if false=true then A else B:=by grind
theorem Joc {A:Prop} (h:A):if true=true then A else B:=by grind
theorem Sn2 {A:Prop} [Decidable c] (h1:c->A) (h2:¬c->B):if c then A else B:=by grind
def Sj (H H':Hp):Prop:=∀b o,H b=some o->H' b=some o
theorem Sj.refl (H):Sj H H:=λ_ _ h=>h
theorem Sj.trans (a:Sj H H1) (b:Sj H1 H2):Sj H H2:=λc o h=>b c o (a c o h)
theorem Sj.seq {K} (e:Sj H H') (h:Sv K H a xs):Sv K H' a xs:=by
 rcases h with (h|⟨o,h⟩)|h
 ·exact .inl (.inl (e _ _ h))
 ·exact .inl (.inr ⟨o,e _ _ h⟩)
 ·exact .inr h
section
variable {κ:Type} [DecidableEq κ]
end
end L2
set_option Elab.async false
set_option linter.all false
set_option maxRecDepth 100000
set_option maxHeartbeats 4000000
namespace L2
open PySem PySem.Spec PyProof.Rows
def Jp9 (cells:List (Str×S1)):List (Str×NameKind)->List (Str×S1)->List (Str×S1)
 | [],acc=>acc
 | (n,k) :: r,acc=>if (k == NameKind.free) = true then (match cells.lookup n with | some c=>Jp9 cells r ((n,c) :: acc) | none=>Jp9 cells r acc) else Jp9 cells r acc
theorem Jq8:∀ns acc,(∀x c,acc.lookup x=some c->cells.lookup x=some c)->∀x c,(Jp9 cells ns acc).lookup x=some c->cells.lookup x=some c
 | [],_,h,x,c,e=>h x c e
 | (n,k) :: r,acc,h,x,c,e=>by
  unfold Jp9 at e
  by_cases hk:(k==NameKind.free)=true
  ·rw [if_pos hk] at e
   cases hc:cells.lookup n with
   |none=>rw [hc] at e;exact Jq8 r acc h x c e
   |some d=>
    rw [hc] at e
    refine Jq8 r ((n,d)::acc) (λy b q=>?_) x c e
    rw [yas] at q
    by_cases hy:(y==n)=true
    ·rw [hy] at q
     have hy':y=n:=beq_iff_eq.mp hy
     rw [hy',hc]
     exact q
    ·have hy':(y==n)=false:=by simpa using hy
     rw [hy'] at q
     exact h y b q
  ·rw [if_neg hk] at e
   exact Jq8 r acc h x c e
theorem Jr4 {cells:List (Str×S1)}:∀(ns:List (Str×NameKind)) (acc:List (Str×S1)) (x:Str),(acc.lookup x).isSome=true->((Jp9 cells ns acc).lookup x).isSome=true
 | [],_,_,h=>h
 | (n,k) :: r,acc,x,h=>by
  unfold Jp9
  by_cases hk:(k==NameKind.free)=true
  ·rw [if_pos hk]
   cases hc:cells.lookup n with
   |none=>exact Jr4 r acc x h
   |some d=>
    refine Jr4 r ((n,d)::acc) x ?_
    rw [yas]
    cases hy:x==n with
    |true=>rfl
    |false=>exact h
  ·rw [if_neg hk]
   exact Jr4 r acc x h
theorem Jpm:∀ns acc,(x,NameKind.free)∈ns->(∃c,cells.lookup x=some c)->((Jp9 cells ns acc).lookup x).isSome=true
 | [],_,h,_=>by simp at h
 | (n,k) :: r,acc,h,hc=>by
  unfold Jp9
  rcases ym.mp h with e|e
  ·cases e
   obtain ⟨c,hc⟩:=hc
   rw [hc]
   exact Jr4 r _ x (by rw [yas,beq_self_eq_true];rfl)
  ·by_cases hk:(k==NameKind.free)=true
   ·rw [if_pos hk]
    cases hd:cells.lookup n with
    |none=>exact Jpm r acc e hc
    |some d=>exact Jpm r _ e hc
   ·rw [if_neg hk]
    exact Jpm r acc e hc
theorem Jsm (h:∀y∈sc.names,y.2= .free->∃c,env.cells.lookup y.1=some c):closureFor sc env=pure (Jp9 env.cells sc.names []):=by
 have key:∀ns acc,(∀y∈ns,y.2= .free->∃c,env.cells.lookup y.1=some c)->
   (forIn ns acc λx r=>if (x.2==NameKind.free)=true then cellOf env x.1 >>=λc=>pure (ForInStep.yield ((x.1,c)::r)) else pure (ForInStep.yield r))=pure (Jp9 env.cells ns acc):=by
  intro ns
  induction ns with
  |nil=>intro acc _;rfl
  |cons y r ih=>
   intro acc hy
   obtain ⟨n,k⟩:=y
   rw [List.forIn_cons]
   unfold Jp9
   by_cases hk:(k==NameKind.free)=true
   ·have hk':=by simpa using hk
    obtain ⟨c,hc⟩:=hy (n,k) yak hk'
    have hc':=hc
    simp only [hk]
    have e1:cellOf env n=pure c:=by unfold cellOf;rw [hc']
    rw [e1,hc']
    exact ih _ λz hz=>hy z (yr _ hz)
   ·simp only [hk]
    exact ih _ λz hz=>hy z (yr _ hz)
 have k0:=key sc.names [] h
 first
  |exact k0
  | (refine Eq.trans ?_ (congrArg (λm : Sem (List (Str × S1))=>m >>= λr=>pure r) k0); rfl)
def blk (X:Cx) (sc:Scope) (N:List Str) (C:S1) (s:S3) (H:Hp) (fp:List S1) (pn:List (S1×Obj)):Cx:=
 {X with N:=N,s₀:=s,H₀:=H,env:=compEnvC sc (Jp9 X.env.cells sc.names []) C X.env,outer:=X.stack,ex:=fp,fn:=λ_=>false,pn:=pn,xe:=λ_ _=>False}
def Sj7 (ini:List (Option Nat)) (σ:St):St:=ini.map λo=>match o with|none=>none|some j=>(σ[j]?).join
def scB (sc:Scope):Bool:=decide (sc.kind= .function)&&sc.names.all (λy=>decide (y.2≠ .cell))&&sc.names.all (λy=>!decide (y.2= .local)||decide (sc.names.lookup y.1=some .local))
def frB (outer:List (Str×NameKind)) (sc:Scope):Bool:=sc.names.all λy=>!decide (y.2= .free)||(decide (outer.lookup y.1=some .cell)||decide (outer.lookup y.1=some .free))
def Sn0 (No N:List Str) (ini:List (Option Nat)) (outer:List (Str×NameKind)) (sc:Scope):Bool:=
 (N.zip ini).all λy=>match y.2 with|none=>true|some j=>decide (No[j]?=some y.1)&&decide (sc.names.lookup y.1=some .free)&&(decide (outer.lookup y.1=some .cell)||decide (outer.lookup y.1=some .free))
def PIf (X:Cx) (ifs:List Expr) (t:TT):Prop:=
 ∀(pins:List (S1×Obj)) (s:S3) (σ:St) (H:Hp) (Q:Bool->Hp->Prop),Sn X pins σ H s->t σ H Q->
  Sc (model X.prog X.w) X.A (forIn ifs true λc r=>if r=true then do let ok<-isTrue c X.env (eval c X.env);pure (ForInStep.yield ok) else pure (ForInStep.yield r)) (TP X pins σ Q) X.xe s
def Y3:TT:=λ_ H Q=>Q true H
theorem Jnk:PIf X [] Y3:=λ_ _ _ H _ I h=>wpAny_tests_nil ⟨H,I,h⟩
theorem Yau (h:PT X c t):PIf X [c] t:=λpins s σ H Q I q=>wpAny_tests_one (h pins s σ H Q I q)
def Ye0 (wi:TI) (ini:List (Option Nat)) (g:TG) (tt:TT) (te:TE):TE:=λσ H Q=>wi σ H λJ H1=>∀D,H1 D=none->∃W:Nat->Nat->St->Hp->Prop,(∃m,W 0 m (Sj7 ini σ) (upd H1 D (.lst [])))/\
 ∀i m σ' H',W i m σ' H'->(J.stop i H'/\Q (.ref D) H')\/(J.go i H'/\∃N:St->Hp->Prop,(∀σ2 H2,N σ2 H2->∃m',m' < m/\W (i+1) m' σ2 H2)/\
  ∀x H2,J.yld i H' x H2->g x σ' H2 λσ3 H3=>tt σ3 H3 λb H4=>if b=true then te σ3 H4 (λv H5=>∃ys,H5 D=some (.lst ys)/\ys.length < S6/\N σ3 (upd H5 D (.lst (ys++ [v])))) else N σ3 H4)
section
variable {prog:S7} {w:S9} {A:Sa} {R:Result->S3->Prop} {s:S3}
theorem Jxp {target iter} {ifs} {scope} {pos} {it acc} {env} (I:Nat->S3->Prop)
  (turn:∀n s,I n s->Sc (model prog w) A (pyNext it) (λr s1=>match r with
   |none=>R (.ok .next) s1
   |some v=>Sc (model prog w) A (letOwnedTupleGo target it v) (λ_ s1'=>Sc (model prog w) A (assign target env v) (λ_ s2=>
     Sc (model prog w) A (forIn ifs true λc r=>if r=true then do let ok<-isTrue c env (eval c env);pure (ForInStep.yield ok) else pure (ForInStep.yield r)) (λok s3=>
      if ok=true then Sc (model prog w) A (eval elt env) (λx s4=>
       Sc (model prog w) A (call (.builtin "list.append") [acc,x]) (λ_ s5=>∃m,m < n/\I m s5) (λ_ _=>False) s4) (λ_ _=>False) s3
      else ∃m,m < n/\I m s3) (λ_ _=>False) s2) (λ_ _=>False) s1') (λ_ _=>False) s1) (λ_ _=>False) s)
  (n) (h:I n s):codeAny (model prog w) A (.compLoop (.ListComp elt [⟨target,iter,ifs,0⟩] scope pos) 0 it acc env) R s:=by
 refine codeAny_loop rfl I (λn s hI=>wpAny_noted (wpAny_noRaise ?_)) n h
 rw [compTurn_list]
 refine S4 (wpAny_standAt (S4 (wpAny_mono (turn n s hI) (λr s1 h1=>?_) λ_ _ h'=>h')))
 cases r with
 |none=>exact S5 h1
 |some v=>
  refine S4 (wpAny_mono h1 (λ_ s1' h1'=>S4 (wpAny_mono h1' (λ_ s2 h2=>S4 (wpAny_mono h2 (λok s3 h3=>?_) λ_ _ h'=>h')) λ_ _ h'=>h')) λ_ _ h'=>h')
  cases ok with
  |false=>exact S5 ⟨rfl,h3⟩
  |true=>
   exact S4 (S4 (wpAny_mono h3 (λx s4 h4=>S4 (wpAny_mono h4 (λ_ s5 h5=>S5 (S5 ⟨rfl,h5⟩)) λ_ _ h'=>h')) λ_ _ h'=>h'))
end
section
variable {X:Cx} {pins:List (S1×Obj)} {σ:St} {H:Hp} {s:S3}
theorem Smp (I:Sn X pins σ H s) (hk:sc.kind= .function) (hcell:∀y∈sc.names,y.2≠ .cell)
  (hfr:∀y∈sc.names,y.2= .free->X.env.kindOf y.1=some .cell\/X.env.kindOf y.1=some .free) (hC:C=s.heap.objs.size) (hf:∀b∈fp,Jtx X pins H b/\b < s.heap.objs.size):(blk X sc N C s H fp pn).Ok:=by
 have hin:∀x c,(Jp9 X.env.cells sc.names []).lookup x=some c->X.env.cells.lookup x=some c:=Jq8 sc.names [] (λx c e=>by simp at e)
 refine ⟨I.ok.mod,hk,I.ok.glob,I.ok.blt,Nat.le_of_eq hC.symm,λx y c h1 h2=>I.ok.inj x y c (hin _ _ h1) (hin _ _ h2),λx hx=>?_,λx c h _=>(by cases h),I.ok.hd,I.ok.frames,.inl rfl,λb hb=>?_,I.bs,yan I.ok.bsz I.sz,λb o e hb=>?_,λb hb z=>?_,I.stack,I.stkFree⟩
 ·have hx':=hx
  have hm:(x,NameKind.free)∈sc.names:=by
   have:∀k,(relabel sc X.env).names.lookup x=some k->(k= .cell\/k= .free)->(x,NameKind.free)∈sc.names:=λk e hkk=>by
    obtain ⟨⟨n',k'⟩,m1,m2⟩:=yaf.mp (PySem.mem_of_lookup e)
    dsimp only at m2
    by_cases hc:(k'==NameKind.free&&X.env.scope.kind== .function&&X.env.kindOf n'==some .cell)=true
    ·rw [if_pos hc] at m2
     have e1:n'=x:=congrArg Prod.fst m2
     have e2:=by simp at hc;exact hc.1.1
     rw [<-e1,<-e2]
     exact m1
    ·rw [if_neg hc] at m2
     have e1:n'=x:=congrArg Prod.fst m2
     have e2:k'=k:=congrArg Prod.snd m2
     rcases hkk with z|z
     ·exact absurd (e2.trans z) (hcell _ m1)
     ·rw [<-e1,<-z,<-e2];exact m1
   rcases hx' with e|e
   ·exact this _ e (.inl rfl)
   ·exact this _ e (.inr rfl)
  exact ybt.mp (Jpm sc.names [] hm (I.ok.has x (hfr _ hm rfl)))
 ·obtain ⟨⟨f0,f1,f2,f3,f4,f5⟩,lt⟩:=hf b hb
  exact ⟨λz=>yo lt (z.trans hC),λx c e=>f4 x c (hin _ _ e)⟩
 ·obtain ⟨⟨f0,f1,f2,f3,f4,f5⟩,lt⟩:=hf b hb
  rcases f3 with z|z
  ·exact I.ok.noex b o e z
  ·exact absurd (yah (yi (I.ok.bs b o e).1) z) (yar _)
 ·obtain ⟨⟨f0,f1,f2,f3,f4,f5⟩,lt⟩:=hf b hb
  rcases ym.mp (I.stkSub b z) with e|e
  ·exact f1 e
  ·exact f2 e
theorem Yeh (I:Sn X pins σ H s) (hk:sc.kind= .function) (hcell:∀y∈sc.names,y.2≠ .cell)
  (hfr:∀y∈sc.names,y.2= .free->X.env.kindOf y.1=some .cell\/X.env.kindOf y.1=some .free) (hf:∀b∈fp,Jtx X pins H b/\b < s.heap.objs.size) (hlen:N.length=ini.length)
  (hini:∀(i:Nat) x j,N[i]?=some x->ini[i]?=some (some j)->X.N[j]?=some x/\sc.names.lookup x=some .free/\(X.env.kindOf x=some .cell\/X.env.kindOf x=some .free))
  (hn:h1.Ns s.heap.objs.size (λ_=>none)) (kp:∀b o,s.heap.get? b=some o->h1.get? b=some o):
  Sn (blk X sc N s.heap.objs.size s H fp (X.pn++pins)) [] (Sj7 ini σ) H {s with heap:=h1,toks:=t'}:=by
 have hin:∀x c,(Jp9 X.env.cells sc.names []).lookup x=some c->X.env.cells.lookup x=some c:=Jq8 sc.names [] (λx c e=>by simp at e)
 refine ⟨Smp I hk hcell hfr rfl hf,rfl,I.bare,Un.kept kp,⟨_,hn,λi x v e1 e2 e3=>?_⟩,λx c e=>?_,I.hok.fresh (yk _),λx c e=>(I.freeC x c (hin _ _ e)).imp id λz=>⟨rfl,z.2⟩,λp hp=>?_,I.hok.kept kp,?_⟩
 ·have e1':=e1
  have e2':=e2
  unfold Sj7 at e2'
  rw [yg] at e2'
  cases hi:ini[i]? with
  |none=>rw [hi] at e2';cases e2'
  |some o=>
   rw [hi] at e2'
   cases o with
   |none=>cases e2'
   |some j=>
    have e4:(σ[j]?).join=some v:=yv.inj e2'
    have e5:σ[j]?=some (some v):=by
     cases q:σ[j]? with
     |none=>rw [q] at e4;cases e4
     |some z=>rw [q] at e4;exact congrArg some e4
    obtain ⟨a1,a2,a3⟩:=hini i x j e1' hi
    obtain ⟨m,hm,hl⟩:=I.loc
    have hvis:Vis X.env.scope x:=by
     rcases a3 with z|z
     ·exact .inr (.inl z)
     ·exact .inr (.inr z)
    obtain ⟨u,r,l⟩:=hl j x v a1 e5 hvis
    refine ⟨u,r,.inr ⟨?_,?_⟩⟩
    ·have hm2:=PySem.mem_of_lookup a2
     rcases e3 with z|z|z
     ·exfalso
      have key:∀{ns:List (Str×NameKind)},ns.lookup x=some .free->(ns.map λ(n,k)=>if (k==NameKind.free&&X.env.scope.kind== .function&&X.env.kindOf n==some .cell) then (n,NameKind.cell) else (n,k)).lookup x≠some .local:=by
       intro ns
       induction ns with
       |nil=>intro q;simp at q
       |cons y r ih=>
        obtain ⟨n,k⟩:=y
        intro q
        rw [yas] at q
        rw [ybj]
        dsimp only
        cases hx:x==n with
        |true=>
         rw [hx] at q
         have q':=yv.inj q
         subst q'
         split
         ·rw [yas,hx];intro z;cases z
         ·rw [yas,hx];intro z;cases z
        |false=>
         rw [hx] at q
         split
         ·rw [yas,hx];exact ih q
         ·rw [yas,hx];exact ih q
      exact key a2 z
     ·exact .inl z
     ·exact .inr z
    ·rcases l with ⟨k1,_⟩|⟨_,c,hc,hcl⟩
     ·exfalso
      rcases a3 with z|z
      ·rw [z] at k1;cases k1
      ·rw [z] at k1;cases k1
     ·have hh:=Jpm sc.names [] (PySem.mem_of_lookup a2) ⟨c,hc⟩
      obtain ⟨c',hc'⟩:=ybt.mp hh
      have:=by
       have q:=hin _ _ hc'
       rw [hc] at q
       exact (yv.inj q).symm
      subst this
      obtain ⟨oc,hoc,hod⟩:=hcl
      exact ⟨c',hc',oc,kp _ _ hoc,hod⟩
 ·obtain ⟨v,oc,hoc,hod⟩:=I.cell x c (hin _ _ e)
  exact ⟨v,oc,kp _ _ hoc,hod⟩
 ·have hp':p∈X.pn++pins:=by simpa [blk] using hp
  obtain ⟨e,n,ne,nf,d⟩:=I.pin p hp'
  refine ⟨kp _ _ e,n,yo (yi e),λz=>?_,d⟩
  rcases ym.mp (I.stkSub p.1 z) with q|q
  ·exact ne q
  ·exact nf q
 ·unfold Sj7
  rw [yf]
  exact hlen.symm
end
section
variable {X:Cx} {elt iter tg:Expr} {ifs:List Expr} {sc:Scope} {pos:Pos} {N:List Str} {ini:List (Option Nat)} {wi:TI} {g:TG} {tt:TT} {te:TE}
theorem Jx9 {pins:List (S1×Obj)} {σ:St} {H:Hp} {s:S3} {Q:VK} {use:Option (S2->Sem Unit)} {Q':S2->S3->Prop} {p:Pos} (hc:X.calm=true) (hi:PI X tg iter wi)
  (hsc:scB sc=true) (hfr:frB X.env.scope.names sc=true) (hlen:N.length=ini.length) (hini:Sn0 X.N N ini X.env.scope.names sc=true)
  (hg:∀C s H fp pn,PG (blk X sc N C s H fp pn) tg g) (ht:∀C s H fp pn,PIf (blk X sc N C s H fp pn) ifs tt) (he:∀C s H fp pn,PE (blk X sc N C s H fp pn) elt te)
  (hs:∀x,foldedSetIterable iter X.env x=pure x) (I:Sn X pins σ H s) (h:Ye0 wi ini g tt te σ H Q)
  (hfin:∀(D:S1) (H':Hp) (s':S3) (C:S1) (m:Str->Option S2),Sn X pins σ H' s'->Jtx X pins H' C->s'.heap.Ns C m->Q (.ref D) H'->compPost (model X.prog X.w) X.A X.xe use Q' (.ref D) C (.ok .next) s'):
  Sc (model X.prog X.w) X.A (comprehension (.ListComp elt [⟨tg,iter,ifs,0⟩] sc pos) sc X.env p (newList []) false (eval iter X.env) use) Q' X.xe s:=by
 have hsc':=hsc
 unfold scB at hsc'
 rw [yx,yx] at hsc'
 obtain ⟨⟨hk0,hcell0⟩,hnames0⟩:=hsc'
 have hk:sc.kind= .function:=of_decide_eq_true hk0
 have hcell:∀y∈sc.names,y.2≠ .cell:=λy hy=>of_decide_eq_true (yaw.mp hcell0 y hy)
 have hnames:∀y∈sc.names,y.2= .local->sc.names.lookup y.1=some .local:=λy hy hl=>by
  have q:=yaw.mp hnames0 y hy
  rw [decide_eq_true hl] at q
  exact of_decide_eq_true (by simpa using q)
 have hfrP:∀y∈sc.names,y.2= .free->X.env.kindOf y.1=some .cell\/X.env.kindOf y.1=some .free:=λy hy hl=>by
  have q:=yaw.mp hfr y hy
  rw [decide_eq_true hl] at q
  have q2:decide (X.env.scope.names.lookup y.1=some .cell)=true\/decide (X.env.scope.names.lookup y.1=some .free)=true:=by simpa using q
  rcases q2 with z|z
  ·exact .inl (of_decide_eq_true z)
  ·exact .inr (of_decide_eq_true z)
 have hiniP:∀(i:Nat) (x:Str) (j:Nat),N[i]?=some x->ini[i]?=some (some j)->X.N[j]?=some x/\sc.names.lookup x=some .free/\(X.env.kindOf x=some .cell\/X.env.kindOf x=some .free):=λi x j e1 e2=>by
  have hm:(x,some j)∈N.zip ini:=by
   refine yp (i:=i) ?_
   rw [ycd]
   exact ⟨e1,e2⟩
  have q:=yaw.mp hini _ hm
  dsimp only at q
  rw [yx,yx,Bool.or_eq_true] at q
  obtain ⟨⟨q1,q2⟩,q3⟩:=q
  refine ⟨of_decide_eq_true q1,of_decide_eq_true q2,?_⟩
  rcases q3 with z|z
  ·exact .inl (of_decide_eq_true z)
  ·exact .inr (of_decide_eq_true z)
 refine wpAny_comprehension_free (use:=use) rfl hs (Jsm λy hy hl=>I.ok.has y.1 (hfrP y hy hl)) hk hnames ?_
 refine thn (hi pins s σ H _ I h) λv s1 h1=>thn h1 λitv s2 h2=>?_
 obtain ⟨it,fp,tn,J,H2,e,I2,T,st2,f2,step⟩:=h2
 subst e
 refine wpAny_newObj_type (wpAny_newFunctionEnv hcell (by intro y hy;simp at hy) (λh1 hns1 hsb1=>?_) hk)
 dsimp only at hns1 hsb1⊢
 have hD:H2 s2.heap.objs.size=none:=I2.hok.fresh (yk _)
 have kp3:∀b o,s2.heap.get? b=some o->(s2.heap.push {cls:=.type "list",dict:=none,data:=.seq ([]:List S2).toArray}).get? b=some o:=λb o e=>yl _ e
 have I3:Sn X pins σ (upd H2 s2.heap.objs.size (.lst [])) {s2 with heap:=s2.heap.push {cls:=.type "list",dict:=none,data:=.seq ([]:List S2).toArray}}:=
  I2.laid (t':=s2.toks) kp3 (yk _) ⟨yai _,[],0,.nil,yq _ rfl⟩
 obtain ⟨W,⟨m0,w0⟩,turn⟩:=step s2.heap.objs.size hD
 generalize hs3:({s2 with heap:=s2.heap.push {cls:=.type "list",dict:=none,data:=.seq ([]:List S2).toArray}}:S3)=s3 at I3
 have e3h:s3.heap=s2.heap.push {cls:=.type "list",dict:=none,data:=.seq ([]:List S2).toArray}:=by rw [<-hs3]
 rw [<-e3h] at hns1 hsb1 kp3⊢
 have sz3:s2.heap.objs.size < s3.heap.objs.size:=by rw [e3h,yao];exact ybp _
 have hf3:∀b∈fp,Jtx X pins (upd H2 s2.heap.objs.size (.lst [])) b/\b < s3.heap.objs.size:=λb hb=>by
  obtain ⟨o,eo,_⟩:=T.obj 0 _ st2 b hb
  have lt:=yi eo
  obtain ⟨f0,fr⟩:=f2 b hb
  exact ⟨⟨by rw [Sz (yo lt)];exact f0,fr⟩,Nat.lt_trans lt sz3⟩
 have kp4:∀b o,s3.heap.get? b=some o->h1.get? b=some o:=λb o e=>(hsb1.2 b (yo (yi e))).trans (yl _ e)
 have I4:Sn (blk X sc N s3.heap.objs.size s3 (upd H2 s2.heap.objs.size (.lst [])) fp (X.pn++pins)) [] (Sj7 ini σ) (upd H2 s2.heap.objs.size (.lst [])) {s3 with heap:=h1,toks:=s3.toks+([]:List (Str×S2)).length}:=
  Yeh I3 hk hcell hfrP hf3 hlen hiniP hns1 kp4
 have st4:tn 0 h1:=T.keep 0 _ _ st2 λb hb o e=>kp4 b o (kp3 b o e)
 have e4s:({s2 with heap:=h1,toks:=s2.toks+([]:List (Str×S2)).length}:S3)={s3 with heap:=h1,toks:=s3.toks+([]:List (Str×S2)).length}:=by rw [<-hs3]
 have stat:∀{H':Hp},(∀b∈fp,H' b=none)->∀b∈fp,Jtx (blk X sc N s3.heap.objs.size s3 (upd H2 s2.heap.objs.size (.lst [])) fp (X.pn++pins)) [] H' b:=λ{H'} hn b hb=>by
  obtain ⟨⟨f0,f1,f2',f3,f4,f5⟩,lt⟩:=hf3 b hb
  refine ⟨hn b hb,yo lt,λz=>?_,.inl hb,λx c e=>f4 x c (Jq8 sc.names [] (λx c e=>by simp at e) x c e),λp hp=>f5 p (by simpa [blk] using hp)⟩
  rcases ym.mp (I3.stkSub b z) with q|q
  ·exact f1 q
  ·grind
 have loop:∀s4:S3,s4={s3 with heap:=h1,toks:=s3.toks+([]:List (Str×S2)).length}->codeAny (model X.prog X.w) X.A (.compLoop (.ListComp elt [⟨tg,iter,ifs,0⟩] sc pos) 0 (.ref it) (.ref s2.heap.objs.size) (compEnvC sc (Jp9 X.env.cells sc.names []) s3.heap.objs.size X.env))
   (compPost (model X.prog X.w) X.A X.xe use Q' (.ref s2.heap.objs.size) s3.heap.objs.size) s4:=by
  rintro s4 rfl
  refine Jxp (λn s'=>∃i σ' H',Sn (blk X sc N s3.heap.objs.size s3 (upd H2 s2.heap.objs.size (.lst [])) fp (X.pn++pins)) [] σ' H' s'/\tn i s'.heap/\(∀b∈fp,H' b=none)/\W i n σ' H') ?_ m0
   ⟨0,_,_,I4,st4,λb hb=>(hf3 b hb).1.1,w0⟩
  rintro n s5 ⟨i,σ5,H5,I5,st5,fr5,w5⟩
  rcases turn i n σ5 H5 w5 with ⟨stop,q⟩|⟨go,N',hN',step'⟩
  ·refine thn (T.done (blk X sc N s3.heap.objs.size s3 (upd H2 s2.heap.objs.size (.lst [])) fp (X.pn++pins)) rfl rfl rfl hc i [] s5 σ5 H5 _ I5 (stat fr5) st5 stop) λr s6 ⟨hr,I6⟩=>?_
   subst hr
   have un:Un (frs X.stack) fp H2 H5 s2.heap s6.heap:=(Un.laid (fs:=frs X.stack) (ex:=fp) kp3 (yk _) hD).trans I6.base
   have os6:s6.os=s2.os:=I6.os.trans (show s3.os=s2.os by rw [<-hs3])
   have IX:Sn X pins σ H5 s6:=I2.call' (ch:=fp) os6 un I6.hok I6.bare λb hb=>by
    obtain ⟨⟨f0,f1,f2',f3,f4,f5⟩,lt⟩:=hf3 b hb
    exact ⟨f3,f1,f4,f5⟩
   obtain ⟨m,hm,_⟩:=I6.loc
   exact hfin _ H5 s6 s3.heap.objs.size m IX (I2.fpOk (ybg sz3) I6.free) hm q
  ·refine thn (T.item (blk X sc N s3.heap.objs.size s3 (upd H2 s2.heap.objs.size (.lst [])) fp (X.pn++pins)) rfl rfl rfl hc i [] s5 σ5 H5 _ I5 (stat fr5) st5 go) λr s6 ⟨u,hr,h6⟩=>?_
   subst hr
   refine thn h6 λ_ s7 zq=>?_
   obtain ⟨x,H7,I7,r7,y7,st7,fr7⟩:=zq
   have I7':=I7.pinned (stat fr7) (T.obj _ _ st7)
   refine thn (hg _ _ _ _ _ _ s7 σ5 H7 x u _ I7' r7 (step' x H7 y7)) λ_ s8 zq=>?_
   obtain ⟨σ8,H8,I8,q8⟩:=zq
   refine thn (ht _ _ _ _ _ _ s8 σ8 H8 _ I8 q8) λok s9 zq=>?_
   obtain ⟨H9,I9,q9⟩:=zq
   have again:∀{σ':St} {H':Hp} {s':S3},Sn (blk X sc N s3.heap.objs.size s3 (upd H2 s2.heap.objs.size (.lst [])) fp (X.pn++pins)) ([]++Jw4 fp s7.heap) σ' H' s'->N' σ' H'->
     ∃m,m < n/\∃i σ' H',Sn (blk X sc N s3.heap.objs.size s3 (upd H2 s2.heap.objs.size (.lst [])) fp (X.pn++pins)) [] σ' H' s'/\tn i s'.heap/\(∀b∈fp,H' b=none)/\W i m σ' H':=λ{σ' H' s'} J n'=>by
    obtain ⟨m',hm,w'⟩:=hN' σ' H' n'
    refine ⟨m',hm,i+1,σ',H',J.unpinned,T.keep _ _ _ st7 λb hb o e=>(J.pin (b,o) (ybb _ (ybb _ (Jr6 hb e)))).1,λb hb=>?_,w'⟩
    obtain ⟨o,e,d⟩:=T.obj _ _ st7 b hb
    exact (J.pin (b,o) (ybb _ (ybb _ (Jr6 hb e)))).2.1
   cases ok with
   |false=>
    exact again I9 q9
   |true=>
    refine thn (he _ _ _ _ _ _ s9 σ8 H9 _ I9 q9) λv10 s10 zq=>?_
    obtain ⟨x10,H10,I10,r10,ys,hys,hyl,q10⟩:=zq
    refine thn (Joz _ s10 σ8 H10 (.ref s2.heap.objs.size) [x10] _ [v10] (λ_ H'=>N' σ8 H') I10 rfl (.cons r10 .nil) ⟨_,ys,x10,rfl,rfl,hys,hyl,q10⟩) λ_ s11 zq=>?_
    obtain ⟨_,H11,I11,_,q11⟩:=zq
    exact again I11 q11
 have fin:=codeAny_compStart_list (R:=compPost (model X.prog X.w) X.A X.xe use Q' (.ref s2.heap.objs.size) s3.heap.objs.size) (loop _ rfl) (T.self X.A 0 {s3 with heap:=h1,toks:=s3.toks+([]:List (Str×S2)).length} _ _ st4 (loop _ rfl))
 rw [<-e4s] at fin
 exact fin
theorem Jnm (hc:X.calm=true) (hi:PI X tg iter wi) (hg:∀C s H fp pn,PG (blk X sc N C s H fp pn) tg g) (ht:∀C s H fp pn,PIf (blk X sc N C s H fp pn) ifs tt) (he:∀C s H fp pn,PE (blk X sc N C s H fp pn) elt te)
  (hsc:scB sc=true:=by rfl) (hfr:frB X.env.scope.names sc=true:=by rfl) (hlen:N.length=ini.length:=by rfl) (hini:Sn0 X.N N ini X.env.scope.names sc=true:=by rfl)
  (hs:∀x,foldedSetIterable iter X.env x=pure x:=by intro _;rfl):PE X (.ListComp elt [⟨tg,iter,ifs,0⟩] sc pos) (Ye0 wi ini g tt te):=by
 intro pins s σ H Q I h
 refine Jx9 hc hi hsc hfr hlen hini hg ht he hs I h λD H' s' C m I' f hn q=>?_
 obtain ⟨f0,f1,f2,f3,f4,f5⟩:=f
 exact ⟨m,hn,λh' sb=>⟨.ref D,H',I'.turned (λb o hb e=>(sb.2 b hb).trans e) f0 f1 f3 f4 f5,rfl,q⟩⟩
def Srz (i:Nat) (te:TE):TS:=λD σ H=>te σ H λv H1=>D.nx (σ.set i (some v)) H1
theorem Jyh {py spos} (hN:X.N.Nodup) (hiy:X.N[i]?=some y) (hx:Loc X.env.scope y) (hc:X.calm=true) (hi:PI X tg iter wi) (hg:∀C s H fp pn,PG (blk X sc N C s H fp pn) tg g) (ht:∀C s H fp pn,PIf (blk X sc N C s H fp pn) ifs tt) (he:∀C s H fp pn,PE (blk X sc N C s H fp pn) elt te)
  (hf:X.fn y=true\/X.env.scope.names.lookup y=some .local:=by first|exact .inl rfl|exact .inr rfl|assumption)
  (hsw:swapsWith (.ListComp elt [⟨tg,iter,ifs,0⟩] sc pos) (some (.Name y py)) spos.line X.env=pure true:=by rfl)
  (hsc:scB sc=true:=by rfl) (hfr:frB X.env.scope.names sc=true:=by rfl) (hlen:N.length=ini.length:=by rfl) (hini:Sn0 X.N N ini X.env.scope.names sc=true:=by rfl)
  (hs:∀x,foldedSetIterable iter X.env x=pure x:=by intro _;rfl):PS X (.Assign [.Name y py] (.ListComp elt [⟨tg,iter,ifs,0⟩] sc pos) spos) (Srz i (Ye0 wi ini g tt te)):=by
 intro pins s σ H D I h
 rw [exec_Assign_Name_used _ _ _ _ hsw]
 refine S4 (wpAny_standAt (S4 ?_))
 refine S4 (wpAny_mono (Jx9 hc hi hsc hfr hlen hini hg ht he hs I h λD' H' s' C m I' f hn q=>?_) (λ_ s' hq=>S5 (S5 hq)) λ_ _ e=>e)
 obtain ⟨f0,f1,f2,f3,f4,f5⟩:=f
 refine wpAny_assign_Name (Jxi I' hN hiy hx (v:=.ref D') rfl (λs'' I'' sb=>?_) hf)
 obtain ⟨a,sb,ha⟩:=sb
 have hCa:C≠a:=by
  rcases ha with z|z
  ·grind
  ·grind
 refine ⟨m,hn.sameBut sb hCa,λh' sb'=>⟨_,H',I''.turned (λb o hb e=>(sb'.2 b hb).trans e) f0 f1 f3 f4 f5,q⟩⟩
end
section
variable {g:TG} {tt:TT} {te:TE} {H:Hp} {D:S1} {σ:St} {R:Hp->Prop}
theorem Jvn {lo} {n} (Pv:Nat->St->Hp->Prop) (h0:Pv 0 σ H)
  (hs:∀i σ H,i < n->Pv i σ H->g (.int (lo+i)) σ H λσ3 H3=>tt σ3 H3 λb H4=>if b=true then te σ3 H4 λv H5=>∃ys,H5 D=some (.lst ys)/\ys.length < S6/\Pv (i+1) σ3 (upd H5 D (.lst (ys++ [v]))) else Pv (i+1) σ3 H4)
  (hd:∀σ H,Pv n σ H->R H):
  ∃W:Nat->Nat->St->Hp->Prop,(∃m,W 0 m σ H)/\∀i m σ' H',W i m σ' H'->(Itr lo n).stop i H'/\R H'\/(Itr lo n).go i H'/\∃N:St->Hp->Prop,(∀σ2 H2,N σ2 H2->∃m',m' < m/\W (i+1) m' σ2 H2)/\
   ∀x H2,(Itr lo n).yld i H' x H2->g x σ' H2 λσ3 H3=>tt σ3 H3 λb H4=>if b=true then te σ3 H4 λv H5=>∃ys,H5 D=some (.lst ys)/\ys.length < S6/\N σ3 (upd H5 D (.lst (ys++ [v]))) else N σ3 H4:=by
 refine ⟨λi m σ H=>m=n - i/\i<=n/\Pv i σ H,⟨n,by simp,yai _,h0⟩,?_⟩
 rintro i m σ H ⟨rfl,hi,p⟩
 by_cases hlt:i < n
 ·refine .inr ⟨hlt,Pv _,λσ' H' p'=>⟨n - _,by omega,rfl,hlt,p'⟩,λx H' y=>?_⟩
  obtain ⟨e,y⟩:=y
  subst e y
  exact hs i σ _ hlt p
 ·have e:i=n:=by omega
  subst e
  exact .inl ⟨yk _,hd σ H p⟩
theorem Jok {K} {a} {xs} (Pv:Nat->St->Hp->Prop) (h0:Pv 0 σ H) (hl:∀i σ H,i<=xs.length->Pv i σ H->Sv K H a xs)
  (hs:∀i x σ H,xs[i]?=some x->Pv i σ H->g x σ H λσ3 H3=>tt σ3 H3 λb H4=>if b=true then te σ3 H4 λv H5=>∃ys,H5 D=some (.lst ys)/\ys.length < S6/\Pv (i+1) σ3 (upd H5 D (.lst (ys++ [v]))) else Pv (i+1) σ3 H4)
  (hd:∀σ H,Pv xs.length σ H->R H):
  ∃W:Nat->Nat->St->Hp->Prop,(∃m,W 0 m σ H)/\∀i m σ' H',W i m σ' H'->(Itl K a).stop i H'/\R H'\/(Itl K a).go i H'/\∃N:St->Hp->Prop,(∀σ2 H2,N σ2 H2->∃m',m' < m/\W (i+1) m' σ2 H2)/\
   ∀x H2,(Itl K a).yld i H' x H2->g x σ' H2 λσ3 H3=>tt σ3 H3 λb H4=>if b=true then te σ3 H4 λv H5=>∃ys,H5 D=some (.lst ys)/\ys.length < S6/\N σ3 (upd H5 D (.lst (ys++ [v]))) else N σ3 H4:=by
 refine ⟨λi m σ H=>m=xs.length - i/\i<=xs.length/\Pv i σ H,⟨xs.length,by simp,yai _,h0⟩,?_⟩
 rintro i m σ H ⟨rfl,hi,p⟩
 have q:=hl i σ H hi p
 by_cases hlt:i < xs.length
 ·refine .inr ⟨⟨xs,xs[i],q,by simp [hlt]⟩,Pv _,λσ' H' p'=>⟨xs.length - _,by omega,rfl,hlt,p'⟩,λx H' y=>?_⟩
  obtain ⟨e,y⟩:=y
  subst e
  exact hs i x σ _ (y xs q) p
 ·have e:i=xs.length:=by omega
  subst e
  exact .inl ⟨⟨xs,q,yk _⟩,hd σ H p⟩
end
theorem Jo9 {H} {A B:St->Hp->Prop} (h:A (σ.set i (some v)) H):Jpa i v σ H λσ3 H3=>Y3 σ3 H3 λb H4=>if b=true then A σ3 H4 else B σ3 H4:=h
def sgn (c:Nat):V:=.str ⟨#[c]⟩
def Its (z:Str):It:=⟨λi _=>i < z.cps.size,λi H x H'=>H'=H/\∃c,z.cps[i]?=some c/\x=sgn c,λi _=>z.cps.size=i⟩
def Svb (tl:TE):TI:=λσ H R=>tl σ H λx H1=>∃z,x= .str z/\R (Its z) H1
theorem Y5 {P:S7} {w:S9} {K:Se} {tg:Expr} {z:Str} {it:S1} {n:String} {fl:Nat->Array S2} {St:Nat->Sb->Prop}
  (Wk:∀A':Sa,A'.handled=none->Walks P w A' it [it] [it] z.cps.size (SignAt z) St) (hst:∀i h,St i h->∃o,h.get? it=some o/\o.cls= .type n/\∃a,o.data= .fields a)
  (hn: ["enumerate","zip","dict_itemiterator","dict_reverseitemiterator","odict_iterator","itertools.zip_longest","itertools.pairwise"].contains n=false)
  (hself:∀(A:Sa) (i:Nat) (s:S3) (Q:S2->S3->Prop) (E:S2->S3->Prop),St i s.heap->Q (.ref it) s->Sc (model P w) A (pyIter (.ref it)) Q E s):Turn P w K tg (Its z) [it] it St where
 mem:=by simp
 obj:=λi h st b hb=>by
  have e:b=it:=by simpa using hb
  subst e
  obtain ⟨o,e,_,a,d⟩:=hst i h st
  exact ⟨o,e,λv z=>by rw [d] at z;cases z⟩
 keep:=λi h h' st k=>by
  have W0:=Wk callerA rfl
  exact W0.frame i h h' st λb hb o e=>k b hb o e
 item:=by
  intro X hP hw hK hc i pins s σ H E I hf st hg
  subst hP hw hK
  obtain ⟨f0,f1,f2,f3,f4,f5⟩:=hf it (by simp)
  have W:=Wk X.A (I.ok.hd hc)
  refine W.item i s _ _ hg st λv h' tk hv st' kk=>?_
  obtain ⟨c,u,hcp,rfl⟩:=hv
  have I1:Sn X pins σ H {s with heap:=h',toks:=tk}:=I.turned (λb o hb e=>kk b o (by simpa using hb) e) f0 f1 f3 f4 f5
  obtain ⟨o,e,cl,a,d⟩:=hst _ _ st'
  exact ⟨_,rfl,Yaj (s:={s with heap:=h',toks:=tk}) e cl d hn ⟨sgn c,H,I1,⟨u,rfl⟩,⟨rfl,c,hcp,rfl⟩,st',λb hb=>(hf b hb).1⟩⟩
 done:=by
  intro X hP hw hK hc i pins s σ H E I hf st hg
  subst hP hw hK
  obtain ⟨f0,f1,f2,f3,f4,f5⟩:=hf it (by simp)
  have W:=Wk X.A (I.ok.hd hc)
  have hg':z.cps.size=i:=hg
  subst hg'
  exact W.done s _ _ st λh' tk kk=>⟨rfl,I.turned (λb o hb e=>kk b o (by simpa using hb) e) f0 f1 f3 f4 f5⟩
 self:=hself
theorem Snm {X:Cx} {tg l:Expr} {tl:TE} (hl:PE X l tl):PI X tg l (Svb tl):=by
 intro pins s σ H R I h
 refine thn (hl pins s σ H _ I h) λv s1 zq=>?_
 obtain ⟨x,H1,I1,r1,z,e,q⟩:=zq
 subst e
 obtain ⟨t,rfl⟩:=r1
 have fin:∀(o:Obj) (St:Nat->Sb->Prop) (n:String),Turn X.prog X.w X.K tg (Its z) [s1.heap.objs.size] s1.heap.objs.size St->St 0 (s1.heap.push o)->PIE X pins σ tg R (.ref s1.heap.objs.size) {s1 with heap:=s1.heap.push o}:=λo St n T st0=>by
  refine ⟨s1.heap.objs.size,[s1.heap.objs.size],St,Its z,H1,rfl,I1.kept (t':=s1.toks) λb o e=>yl _ e,T,st0,λb hb=>?_,q⟩
  have e:b=s1.heap.objs.size:=by simpa using hb
  subst e
  exact I1.fpOk (yk _) (I1.hok.fresh (yk _))
 cases ha:z.cps.all (· < 128)
 ·refine wpAny_pyIter_wide ha (fin _ (λi h=>h.IsStrIter s1.heap.objs.size "str_iterator" z t i) "str_iterator" (Y5 (n:="str_iterator") (fl:=λ_=>#[]) (λA' hA=>Walks.strWide hA _ z t) (λi h st=>?_) (by decide) (λA i s Q E st q=>wpAny_pyIter_striter_wide st q)) ⟨_,yq _ rfl,rfl,rfl⟩)
  obtain ⟨o,e,c,d⟩:=st
  exact ⟨o,e,c,_,d⟩
 ·refine wpAny_pyIter_ascii ha (fin _ (λi h=>h.IsStrIter s1.heap.objs.size "str_ascii_iterator" z t i) "str_ascii_iterator" (Y5 (n:="str_ascii_iterator") (fl:=λ_=>#[]) (λA' hA=>Walks.strAscii hA _ z t) (λi h st=>?_) (by decide) (λA i s Q E st q=>wpAny_pyIter_striter_ascii st q)) ⟨_,yq _ rfl,rfl,rfl⟩)
  obtain ⟨o,e,c,d⟩:=st
  exact ⟨o,e,c,_,d⟩
theorem Ycl {g:TG} {tt:TT} {te:TE} {H} {D} {σ} {R:Hp->Prop} (Pv:Nat->St->Hp->Prop) (h0:Pv 0 σ H)
  (hs:∀i c σ H,z.cps[i]?=some c->Pv i σ H->g (sgn c) σ H λσ3 H3=>tt σ3 H3 λb H4=>if b=true then te σ3 H4 λv H5=>∃ys,H5 D=some (.lst ys)/\ys.length < S6/\Pv (i+1) σ3 (upd H5 D (.lst (ys++ [v]))) else Pv (i+1) σ3 H4)
  (hd:∀σ H,Pv z.cps.size σ H->R H):
  ∃W:Nat->Nat->St->Hp->Prop,(∃m,W 0 m σ H)/\∀i m σ' H',W i m σ' H'->(Its z).stop i H'/\R H'\/(Its z).go i H'/\∃N:St->Hp->Prop,(∀σ2 H2,N σ2 H2->∃m',m' < m/\W (i+1) m' σ2 H2)/\
   ∀x H2,(Its z).yld i H' x H2->g x σ' H2 λσ3 H3=>tt σ3 H3 λb H4=>if b=true then te σ3 H4 λv H5=>∃ys,H5 D=some (.lst ys)/\ys.length < S6/\N σ3 (upd H5 D (.lst (ys++ [v]))) else N σ3 H4:=by
 refine ⟨λi m σ H=>m=z.cps.size - i/\i<=z.cps.size/\Pv i σ H,⟨z.cps.size,by simp,yai _,h0⟩,?_⟩
 rintro i m σ H ⟨rfl,hi,p⟩
 by_cases hlt:i < z.cps.size
 ·refine .inr ⟨hlt,Pv _,λσ' H' p'=>⟨z.cps.size - _,by omega,rfl,hlt,p'⟩,λx H' y=>?_⟩
  obtain ⟨e,c,hcp,y⟩:=y
  subst e y
  exact hs i c σ _ hcp p
 ·have e:i=z.cps.size:=by omega
  subst e
  exact .inl ⟨rfl,hd σ H p⟩
section
variable {X:Cx}
theorem Jr0:OpR X (binaryOp .FloorDiv) (rI (λ_ j=>0 < j/\j.natAbs.log2 < 9000) λi j=>.int (i/j)):=opI λi j _ _ _ _ _ hc q=>floordiv_int (by omega) (by rw [Int.fdiv_eq_ediv_of_nonneg i (by omega)];exact q) (.inl (PyProof.noPylong_of_log2 hc.2))
def Smv:V->Option S2
 | .ty n=>some (.type n)
 | .ref a=>some (.ref a)
 |_=>none
theorem Yb0:∀{ys:List Str} {us:List S2},Sa0 (ys.map V.str) us->StrsAre us ys
 | [],_,.nil=>.nil
 |_::_,_,.cons ⟨_,rfl⟩ t=>.cons _ _ (Yb0 t)
inductive Slt (K:Se) (x:V) (xs:List V) (H:Hp) (Q:VK):Prop where
 |mk (z:Str) (a:S1) (ys:List Str) (_:x= .str z) (_:xs= [.ref a]) (_:Sv K H a (ys.map V.str)) (_:(ys.map (·.length)).sum+ys.length*z.length<=16777216) (_:Q (.str (Txt.join z ys)) H)
theorem Yer:MtR X "str.join" (Slt X.K):=by
 rintro pins s σ H x xs v us Q I rx rs ⟨z,a,ys,rfl,rfl,hq,hz,q⟩
 obtain ⟨t,rfl⟩:=rx
 obtain ⟨u,rfl,ru⟩:=Jqg rs
 cases ru
 obtain ⟨its,r,pl,_⟩:=I.list hq
 exact join_list pl.isList (by simpa using Yb0 r) hz λt' k=>⟨.str _,H,I.tok _,⟨_,rfl⟩,q⟩
inductive Svi (K:Se) (xs:List V) (H:Hp) (Q:VK):Prop where
 |mk (a:S1) (bs:List Bool) (_:xs= [.ref a]) (_:Sv K H a (bs.map V.bl)) (_:Q (.bl (bs.all id)) H)
theorem Jqt (hc:X.calm=true):Jpd X (.builtin "all") (Svi X.K):=by
 rintro pins s σ H xs us Q I r ⟨a,bs,rfl,hq,q⟩
 obtain ⟨u,rfl,ru⟩:=Jqg r
 cases ru
 obtain ⟨its,rv,pl,hz⟩:=I.list hq
 have hlen:=rv.length
 refine call_all_walk (wpAny_pyIter_list pl.isList ⟨s.heap.objs.size,[s.heap.objs.size,a],[s.heap.objs.size],its.toArray.size,_,_,λi=>bs.getD i true,rfl,Walks.list (A:=X.A.in1) (I.ok.hd hc) s.heap.objs.size a ?_ its.toArray,⟨⟨_,yq _ rfl,rfl,rfl⟩,pl.isList.at λo e=>yl _ e⟩,?_,λh' tk k=>?_⟩)
 ·obtain ⟨o,_,e,_⟩:=pl
  exact yo (yi e)
 ·intro i v s' Q' E' hv hq'
  have hv':=by simpa using hv
  have hi:=(yj.mp hv').1
  have hb:i < bs.length:=by rw [yf] at hlen;omega
  obtain ⟨u',hu',ru'⟩:=rv.get (by rw [yg,yh hb];rfl)
  rw [hv'] at hu'
  cases hu'
  cases ru'
  refine wpAny_truthy_bool ?_
  have:bs.getD i true=bs[i]:=by rw [yat,yh hb];rfl
  rw [<-this]
  exact hq'
 ·have e:((yz its.toArray.size).all λi=>bs.getD i true)=bs.all id:=by
   have hl2:its.toArray.size=bs.length:=by rw [yf] at hlen;rw [yn];exact hlen.symm
   rw [hl2,Bool.eq_iff_iff,yaw,yaw]
   constructor
   ·intro hh b hb
    obtain ⟨i,hi,rfl⟩:=List.getElem_of_mem hb
    have:=hh i (yaz.mpr hi)
    rw [yat,yh hi] at this
    exact this
   ·intro hh i hi
    have hi':=yaz.mp hi
    rw [yat,yh hi']
    exact hh _ (yax hi')
  rw [e]
  exact ⟨.bl _,H,I.kept λb o e=>k b o (λz=>by
   have z':=by simpa using z
   exact absurd (yi e) (by rw [z'];exact yar _)) (yl _ e),rfl,q⟩
end
mutual
inductive Sdx (K:Se) (H:Hp):V->PyData->Prop
 |non:Sdx K H .non .none
 |bl (b:Bool):Sdx K H (.bl b) (.bool b)
 |int (i:Int):Sdx K H (.int i) (.int i)
 |str (z:Str):Sdx K H (.str z) (.str z)
 |lst {a:S1} {xs:List V} {ds:List PyData}:Sv K H a xs->Scq K H xs ds->Sdx K H (.ref a) (.list ds)
 |tup {a:S1} {xs:List V} {ds:List PyData}:Su K H a xs->Scq K H xs ds->Sdx K H (.ref a) (.tuple ds)
inductive Scq (K:Se) (H:Hp):List V->List PyData->Prop
 |nil:Scq K H [] []
 |cons {x:V} {d:PyData} {xs:List V} {ds:List PyData}:Sdx K H x d->Scq K H xs ds->Scq K H (x::xs) (d::ds)
end
section
variable {X:Cx} {pins:List (S1×Obj)} {σ:St} {H:Hp} {s:S3}
mutual
theorem Sdx.reads (I:Sn X pins σ H s):∀{x} {d},Sdx X.K H x d->∀{v},Sa5 x v->∃as,Reads s.heap v d as
 |_,_,.non,_,r=>by cases r;exact ⟨_,.none⟩
 |_,_,.bl b,_,r=>by cases r;exact ⟨_,.bool b⟩
 |_,_,.int i,_,r=>by obtain ⟨t,rfl⟩:=r;exact ⟨_,.int i t⟩
 |_,_,.str z,_,r=>by obtain ⟨t,rfl⟩:=r;exact ⟨_,.str z t⟩
 |_,_,.lst hq hd,_,r=>by
  cases r
  obtain ⟨its,rv,⟨o,n,e,c,dd,dt⟩,_⟩:=I.list hq
  obtain ⟨as,ra⟩:=Scq.reads I hd rv
  exact ⟨_,.list e c dt (by simpa using ra)⟩
 |_,_,.tup hq hd,_,r=>by
  cases r
  obtain ⟨its,rv,⟨o,e,c,n,dt⟩,_⟩:=I.tuple hq
  obtain ⟨as,ra⟩:=Scq.reads I hd rv
  exact ⟨_,.tuple e c dt (by simpa using ra)⟩
theorem Scq.reads (I:Sn X pins σ H s):∀{xs:List V} {ds:List PyData},Scq X.K H xs ds->∀{us:List S2},Sa0 xs us->∃as,ReadsAll s.heap us ds as
 |_,_,.nil,_,r=>by cases r;exact ⟨_,.nil⟩
 |_,_,.cons h t,_,r=>by
  cases r with
  |cons r1 r2=>
   obtain ⟨as,ra⟩:=Sdx.reads I h r1
   obtain ⟨bs,rb⟩:=Scq.reads I t r2
   exact ⟨_,.cons ra rb⟩
end
inductive Svl (K:Se) (neg:Bool) (x:V) (y:V) (H:Hp) (Q:VK):Prop where
 |mk (d:_) (e:_) (_:Sdx K H x d) (_:Sdx K H y e) (_:SeqAt.shaped d=true) (_:SeqAt.shaped e=true) (_:Q (.bl (if neg then !PyData.eqv d e else PyData.eqv d e)) H)
theorem Ys (hu:X.A.units+64 < cLine):OpR X (compareOp .NotEq) (Svl X.K true):=by
 rintro pins s σ H x y v u Q I rx ry ⟨d,e,hd,he,sd,se,q⟩
 obtain ⟨as,ra⟩:=hd.reads I rx
 obtain ⟨bs,rb⟩:=he.reads I ry
 exact ne_dataH ra rb sd se hu (Jnr I q rfl)
end
theorem Jnb:bootBuiltins "isinstance" =some (.builtin "isinstance"):=by decide +kernel
theorem Jnz:bootBuiltins "len" =some (.builtin "len"):=by decide +kernel
theorem Jsu:bootBuiltins "max" =some (.builtin "max"):=by decide +kernel
theorem Jqn:bootBuiltins "min" =some (.builtin "min"):=by decide +kernel
theorem Ju3:bootBuiltins "all" =some (.builtin "all"):=by decide +kernel
theorem Jst:bootBuiltins "int" =some (.type "int"):=by decide +kernel
theorem Sms:bootBuiltins "str" =some (.type "str"):=by decide +kernel
theorem Jxn:bootBuiltins "bool" =some (.type "bool"):=by decide +kernel
theorem Jq1:bootBuiltins "list" =some (.type "list"):=by decide +kernel
theorem Jnq:bootBuiltins "tuple" =some (.type "tuple"):=by decide +kernel
structure FT (K:Se) (mg:Str->Option S2) (x:Str) (st:Stmt) (ps:List Str) (f:S1) (fd:S8):Prop where
 mgx:mg x=some (.ref f)
 fn:Fun K x x st f fd
 bd:Sbk K fd ps []
section
variable {X:Cx} {x:Str} {st:Stmt} {ps:List Str} {f:S1} {fd:S8} {sp:Sp} {k j:Nat} {p pos:Pos} {e:Expr} {es:List Expr} {t:TA}
theorem Jmv (F:FT X.K X.mg x st ps f fd) (G:Ss X.prog X.w X.K X.mg X.base CX0 k f fd ps sp) (hr:San j X.A) (hk:k<=j) (ha:PA X (e::es) t) (hg:Gl X x:=by rfl) (hdb:(x==("__debug__" :Str))=false:=by decide)
  (he:starEach (e::es) X.env=(false,eval e X.env)::starEach es X.env:=by rfl) (hpl:(backTo pos (starEach es X.env)).any (·.1)=false:=by rfl):PE X (.Call (.Name x p) (e::es) [] pos) (Slv sp [] E0 t):=
 Yf0 G (hr.mono hk) hg F.mgx F.fn.kp F.bd .nil Jph ha hdb he hpl
end
theorem Sj.upd (h:H D=none):Sj H (upd H D o):=λb u e=>by rw [Sz (Jmw e h)];exact e
def Sbj (H:Hp) (p:S1):Prop:=∃a b c:Int,H p=some (.lst [.int a,.int b,.int c])
def But (p:S1) (H H':Hp):Prop:=(∀b o,b≠p->H b=some o->H' b=some o)/\Sbj H' p
theorem But.trans (a:But p H H1) (b:But p H1 H2):But p H H2:=⟨λc o n e=>b.1 c o n (a.1 c o n e),b.2⟩
theorem But.refl (s:Sbj H p):But p H H:=⟨λ_ _ _ e=>e,s⟩
theorem But.same (a:But p H H1) (b:Sj H1 H2):But p H H2:=⟨λc o n e=>b c o (a.1 c o n e),let ⟨x,y,z,e⟩:=a.2;⟨x,y,z,b p _ e⟩⟩
theorem But.of (a:Sbj H p) (b:Sj H H1):But p H H1:=(But.refl a).same b
theorem But.free (s:Sbj H p) (b:But p H H') (h:H' D=none):H D=none:=by
 by_cases e:D=p
 ·obtain ⟨x,y,z,q⟩:=b.2
  rw [e,q] at h
  cases h
 ·cases q:H D with
  |none=>rfl
  |some o=>
   rw [b.1 D o e q] at h
   cases h
theorem But.updD (b:But p H H') (hD:H D=none) (ne:D≠p):But p H (upd H' D o):=by
 refine ⟨λc u n e=>?_,?_⟩
 ·rw [Sz (Jmw e hD)]
  exact b.1 c u n e
 ·obtain ⟨x,y,z,q⟩:=b.2
  exact ⟨x,y,z,by rw [Sz (yt ne)];exact q⟩
theorem Sbj.ne (s:Sbj H p) (hD:H D=none):D≠p:=by
 obtain ⟨x,y,z,q⟩:=s
 exact (Jmw q hD).symm
theorem Jpt (s:Sbj H p) (h:H a=some o) (hn:∀x y z:Int,o≠ .lst [.int x,.int y,.int z]):a≠p:=by
 intro e
 obtain ⟨x,y,z,q⟩:=s
 rw [e,q] at h
 exact hn x y z (yv.inj h).symm
inductive So8 (vs:List V) (H:Hp) (Q:VK) (z3:XK):Prop where
 |mk (p:S1) (m:Int) (_:vs= [.ref p,.int m]) (_:Sbj H p) (_:0 < m) (_:m.natAbs.log2 < 9000) (_:∀(r:Int) (H':Hp),0<=r->r < m->But p H H'->Q (.int r) H')
inductive Ydt (vs:List V) (H:Hp) (Q:VK) (z3:XK):Prop where
 |mk (c:Int) (_:vs= [.int c]) (_:∀(p:S1) (H':Hp),H p=none->Sj H H'->Sbj H' p->Q (.ref p) H')
inductive Snr (K:Se) (vs:List V) (H:Hp) (Q:VK) (z3:XK):Prop where
 |mk (a:S1) (ns:List Int) (k:Nat) (_:vs= [.ref a,.int k]) (_:Sv K H a (ns.map V.int)) (_:∀n:Int,Q (.int n) H)
theorem Smm {i:Int} {j:Nat} (hi:i=j) (h:xs[j]?=some v):atI xs i=some v:=by rw [hi];exact Jq0 h
theorem Jps {ns:List Int} {k:Nat} (h):atI (ns.map V.int) (k)=some (.int ns[k]):=Jq0 (by rw [yg,yh h];rfl)
theorem Jxw (hr:San k A):A.units+64 < cLine:=hr.units
end L2
namespace L2
open PySem PySem.Spec PyProof.Rows Builtin Builtin.ObjectAttr
abbrev VEm:List S2:=[.type "ValueError",.type "Exception",.type "BaseException",.type "object"]
def xcB (K:Se) (C fI:S1):Bool:=
 Sg K (.ref C) "__getattribute__" ==some (some (.builtin "BaseException.__getattribute__"))&&Sg K (.ref C) "__getattr__" ==some none&&Sg K (.ref C) "__setattr__" ==some (some (.builtin "object.__setattr__"))&&
 Sg K (.ref C) "__init__" ==some (some (.ref fI))&&PySem.W.typeIn K (.ref fI)==some (.type "function")&&PySem.W.keepIn K (.ref C)&&PySem.W.hasDictIn K C&&Sh K C (.type "BaseException")==some true&&Sh K C (.type "object")==some true&&
 Sg K (.ref C) "__class__" ==some (some (.builtin "object.__class__"))&&PySem.W.specialIn K (.builtin "object.__class__") "__get__" ==some (some (.builtin "getset_descriptor.__get__"))&&PySem.W.takesIn K (.builtin "object.__class__")==some true
structure Sam (K:Se) (C W fI:S1):Prop where
 obj:∃(nm q:Str) (N:S1) (bs:List S2) (sn:List Str) (sub:List S2) (ab:Bool) (col:Option Bool) (dd:Option S1) (k0 k1 k2 k3 k5:Option S2),
  K.lookup C=some (excClassObj nm q C N bs (.ref W::VEm) true sn sub ab col dd k0 k1 k2 k3 k5 "ValueError.__new__")
 tl:PySem.W.tailIn K VEm (.ref W::VEm)=true
 all:xcB K C fI=true
theorem Joo {K} (h:xcB K C fI=true):
  (Sg K (.ref C) "__getattribute__" =some (some (.builtin "BaseException.__getattribute__"))/\Sg K (.ref C) "__getattr__" =some none/\Sg K (.ref C) "__setattr__" =some (some (.builtin "object.__setattr__")))/\
  (Sg K (.ref C) "__init__" =some (some (.ref fI))/\PySem.W.typeIn K (.ref fI)=some (.type "function")/\PySem.W.keepIn K (.ref C)=true/\PySem.W.hasDictIn K C=true)/\Sh K C (.type "BaseException")=some true/\Sh K C (.type "object")=some true/\
  Sg K (.ref C) "__class__" =some (some (.builtin "object.__class__"))/\PySem.W.specialIn K (.builtin "object.__class__") "__get__" =some (some (.builtin "getset_descriptor.__get__"))/\PySem.W.takesIn K (.builtin "object.__class__")=some true:=by
 unfold xcB at h
 simp only [yx,beq_iff_eq] at h
 obtain ⟨⟨⟨⟨⟨⟨⟨⟨⟨⟨⟨a,b⟩,c⟩,d⟩,e⟩,f⟩,g⟩,i⟩,j⟩,k⟩,l⟩,m⟩:=h
 exact ⟨⟨a,b,c⟩,⟨d,e,f,g⟩,i,j,k,l,m⟩
section
variable {K:Se} {C W fI:S1} (c:Sam K C W fI)
include c
theorem Sam.ga:Sg K (.ref C) "__getattribute__" =some (some (.builtin "BaseException.__getattribute__")):=(Joo c.all).1.1
theorem Sam.gh:Sg K (.ref C) "__getattr__" =some none:=(Joo c.all).1.2.1
theorem Sam.sa:Sg K (.ref C) "__setattr__" =some (some (.builtin "object.__setattr__")):=(Joo c.all).1.2.2
theorem Sam.ini:Sg K (.ref C) "__init__" =some (some (.ref fI)):=(Joo c.all).2.1.1
theorem Sam.fn:PySem.W.typeIn K (.ref fI)=some (.type "function"):=(Joo c.all).2.1.2.1
theorem Sam.kp:PySem.W.keepIn K (.ref C)=true:=(Joo c.all).2.1.2.2.1
theorem Sam.mb:Sh K C (.type "BaseException")=some true:=(Joo c.all).2.2.1
theorem Sam.mo:Sh K C (.type "object")=some true:=(Joo c.all).2.2.2.1
theorem Sam.cl:Sg K (.ref C) "__class__" =some (some (.builtin "object.__class__")):=(Joo c.all).2.2.2.2.1
theorem Sam.cg:PySem.W.specialIn K (.builtin "object.__class__") "__get__" =some (some (.builtin "getset_descriptor.__get__")):=(Joo c.all).2.2.2.2.2.1
theorem Sam.ct:PySem.W.takesIn K (.builtin "object.__class__")=some true:=(Joo c.all).2.2.2.2.2.2
end
theorem Yc7 (self) (C W):refuseLoop self "__setattr__" (.ref C:: .ref W::VEm)=pure ():=by
 rw [refuseLoop_ref,refuseLoop_ref]
 exact PySem.F.store_ValueError.passes self
theorem Sam.mro {K} (c:Sam K C W fI):∃cd,PySem.W.clsIn K C=some cd/\cd.mro= .ref C:: .ref W::VEm/\cd.hasDict=true:=by
 obtain ⟨nm,q,N,bs,sn,sub,ab,col,dd,k0,k1,k2,k3,k5,l⟩:=c.obj
 unfold PySem.W.clsIn
 rw [l]
 exact ⟨_,rfl,rfl,rfl⟩
section
variable {prog:S7} {w:S9} {A:Sa} {E:S2->S3->Prop} {s:S3} {K:Se} {x C W fI:S1} {ox:Obj} {od:Option Obj} {name:Str}
theorem Yg2:builtinKind "BaseException.__getattribute__" =some .slot:=by decide +kernel
theorem Ye8:splitId "BaseException.__getattribute__" =some ("BaseException","__getattribute__"):=by decide +kernel
theorem Yg1 {tk} {R} (c:Sam K C W fI) (X:K.In s.heap) (I:PySem.W.InstAt s.heap x ox C od) (hf:PySem.W.findObj K C od name=some r)
  (h:Sc (model prog w) A.in1 (match r with| .value v=>ret v| .bind g b=>bindTo g b (.ref x) (.ref C)| .missing=>unsupported "none")
   (λfin s'=>match fin with| .done f=>R (.ok f) s'| .again c'=>c'.quiet=true/\codeAny (model prog w) A c' R s') (λe s'=>R (.error e) s') s) (hr:r≠ .missing):
  codeAny (model prog w) A (.call (.builtin "BaseException.__getattribute__") ⟨[.ref x,.str name tk],[]⟩) R s:=by
 have T0:=I.type (M:=model prog w)
 have T4:PySem.W.Looks (model prog w) s.heap (isInstance (.ref x) (.type "BaseException")) true:=T0.andThen (PySem.W.looks_mroIn X c.mb)
 have ck:=λ{Q' E' A'} q=>
  @PySem.W.check_slot (model prog w) A' E' s "BaseException.__getattribute__" "BaseException" "__getattribute__" (.ref x) [.str name tk] [] Q' Yg2 Ye8 T4 (F.args_bexc_ga (.ref x) (.str name tk)) q
 refine codeAny_call_builtin F.excAttr_ValueError.ga.plain F.entry_bexc_ga (ck (S4 (S5 (S4 (S5 (S4 (T0.here (S4 ((PySem.W.looks_find X I hf).here ?_)))))))))
 cases r with
 |missing=>exact absurd rfl hr
 |value v=>exact h
 |bind gg b=>exact h
end
section
variable {prog:S7} {w:S9} {A:Sa} {E:S2->S3->Prop} {s:S3} {K:Se} {x C W fI:S1} {ox:Obj} {od:Option Obj} {name:Str} {v:S2}
theorem Sow (c:Sam K C W fI) (X:K.In s.heap) (I:PySem.W.InstAt s.heap x ox C od) (hn:Sg K (.ref C) name=some none)
  (h:Sc (model prog w) A.in1 (storeInOwnDict (.ref x) (.ref C) (.str name tk) name v false)
   (λfin s'=>match fin with| .done f=>R (.ok f) s'| .again c'=>c'.quiet=true/\codeAny (model prog w) A c' R s') (λe s'=>R (.error e) s') s):
  codeAny (model prog w) A (.call (.builtin "object.__setattr__") ⟨[.ref x,.str name tk,v],[]⟩) R s:=by
 have SF:=PySem.F.store_object
 obtain ⟨cd,hc,hm,_⟩:=c.mro
 have T0:=I.type (M:=model prog w)
 have sub:PySem.W.Looks (model prog w) s.heap (isInstance (.ref x) (.type "object")) true:=T0.andThen (PySem.W.looks_mroIn X c.mo)
 have hmr:PySem.W.Looks (model prog w) s.heap (mroOf (.ref C)) cd.mro:=(PySem.W.looks_clsIn X hc).andThen .now
 refine codeAny_call_builtin SF.slot.plain SF.entry (@PySem.W.check_slot (model prog w) _ _ s "object.__setattr__" "object" "__setattr__" (.ref x) [.str name tk,v] [] _ SF.kind SF.split sub (SF.args (.ref x) (.str name tk) v) ?_)
 rw [PySem.W.osa_eq,refuse_eq]
 refine S4 (S4 (T0.here (S4 (hmr.here ?_))))
 rw [hm,Yc7]
 exact S5 (S4 (T0.here (S4 ((PySem.W.looks_findIn X hn).here (S4 (S5 h))))))
theorem Ya7 (c:Sam K C W fI) (X:K.In s.heap) (hx:s.heap.get? x=some ox) (hcl:ox.cls= .ref C) (hdi:ox.dict=none) (hd:ox.data= .fields vs) (hn:Sg K (.ref C) name=some none)
  (h:∀h',(∀b u,b≠x->s.heap.get? b=some u->h'.get? b=some u)->h'.get? x=some {ox with dict:=some s.heap.objs.size}->h'.Ns1 s.heap.objs.size (λy=>if y=name then some v else none)->Q () {s with heap:=h',toks:=s.toks+2}):
  Sc (model prog w) A (setAttr (.ref x) name v) Q E s:=by
 have I:PySem.W.InstAt s.heap x ox C none:=⟨hx,hcl,by unfold PySem.W.notCls;rw [hd],by rw [hdi];trivial⟩
 obtain ⟨cd,hc,_,hdct⟩:=c.mro
 refine PySem.W.set_plain X I c.sa (Sow c X I hn ?_)
 obtain ⟨oc,odi,oda,osl⟩:=ox
 subst hcl hdi hd
 refine S4 (S5 (S4 (S4 (wpAny_loadPart hx (S4 (PySem.W.Looks.here (PySem.W.looks_clsIn X hc) ?_))))))
 rw [hdct]
 have e1:(s.heap.push {cls:=.type "dict",data:=.dict #[]}).get? x=some ⟨.ref C,none,.fields vs,osl⟩:=yl _ hx
 have nx:=ybd (yi hx)
 have n0:(s.heap.push {cls:=.type "dict",data:=.dict #[]}).Ns s.heap.objs.size (λ_=>none):=⟨_,#[],_,yq s.heap rfl,rfl,(λe he=>absurd he (by simp)),λ_=>rfl⟩
 refine S4 (wpAny_alloc (S4 (wpAny_update e1 ?_)))
 have n1:((s.heap.push {cls:=.type "dict",data:=.dict #[]}).update x λo=>{o with dict:=some s.heap.objs.size}).Ns1 s.heap.objs.size (λ_=>none):=
  (Heap.Ns1.of_empty n0).at λo q=>by rw [ybk _ _ (yt nx)];exact q
 refine S5 (S4 (S5 (S4 (wpAny_nsSet1 n1 λh' n2 sb=>?_))))
 obtain ⟨oD,esD,epD,hoD,hdD,hcD⟩:=n2.count (PySem.Within.cons name v PySem.Within.nil)
 refine S4 (wpAny_lookBehind hoD (by rw [hdD];exact pastItsLine_dict (yan hcD (Nat.le_add_left 1 S6))) (S5 (h h' (λb u hb q=>?_) ((sb.2 _ (yt nx)).trans (ybv (λo=>{o with dict:=some s.heap.objs.size}) e1 rfl)) n2)))
 rw [sb.2 b (yo (yi q)),ybk _ _ (yt hb)]
 exact yl _ q
end
abbrev Sl1 (us:List S2):Obj:={cls:=.type "tuple",data:=.seq us.toArray}
abbrev Sl0 (C:S1) (t:S1):Obj:={cls:=.ref C,data:=.fields #[.ref t,.none,.none,.none,.bool false,.none]}
section
variable {prog:S7} {w:S9} {A:Sa} {E:S2->S3->Prop} {K:Se} {C W fI:S1} {us:List S2} {hp:Sb} {g:Array GenState} {d:Drawn} {t:Nat} {os:OsState}
theorem Ye9 (c:Sam K C W fI) (X:K.In hp) (hz:us.length<=S6)
  (h:Sc (model prog w) A (call (.ref fI) (.ref (hp.objs.size+1)::us)) (λr s'=>r= .none/\Q (.done (.ret (.ref (hp.objs.size+1)))) s') E ⟨(hp.push (Sl1 us)).push (Sl0 C hp.objs.size),g,d,t,os⟩):
  Sc (model prog w) A (Builtin.«type.__call__» ⟨.ref C::us,[]⟩) Q E ⟨hp,g,d,t,os⟩:=by
 obtain ⟨nm,q,N,bs,sn,sub,ab,col,dd,k0,k1,k2,k3,k5,l⟩:=c.obj
 have FV:=F.excBase_ValueError
 have kC:=X _ _ l
 have TL:=PySem.W.tail_of_in X c.tl
 have up:∀b o,hp.get? b=some o->((hp.push (Sl1 us)).push (Sl0 C hp.objs.size)).get? b=some o:=λb o e=>yl _ (yl _ e)
 have X2:=X.keeps up
 have kC2:=X2 _ _ l
 have hcC:(Value.ref C:: .ref W::VEm).contains (.ref C)=true:=by simp
 repeat (first|with_reducible refine wpAny_loadPart_at kC ?_|with_reducible refine wpAny_madeBy_exc kC ?_|wp_step)
 refine codeAny_call_builtin_code (Code.quiet_builtin _ FV.quiet) (wpAny_check_new_subT FV TL kC (codeAny_exc_new_subT FV TL kC ?_ hz))
 repeat (first|with_reducible refine wpAny_loadPart_at gE ?_|(with_reducible refine wpAny_isSubtype_exc kC2 ?_;rw [hcC])|wp_step)
 refine (PySem.W.looks_findIn X2 c.ini).at (wpAny_holding (S4 ((PySem.W.bind_fn X2 _ c.fn).at (S4 (wpAny_mono h (λr s' hr=>?_) λ_ _ z=>z)))))
 obtain ⟨rfl,hQ⟩:=hr
 wp_walk
 exact hQ
theorem Yg3 {s:S3} {Q} (c:Sam K C W fI) (X:K.In s.heap) (hz:us.length<=S6)
  (h:Sc (model prog w) (A.under (.builtin "type.__call__" ⟨.ref C::us,[]⟩)) (call (.ref fI) (.ref (s.heap.objs.size+1)::us)) (λr s'=>r= .none/\Q (.ref (s.heap.objs.size+1)) s') E {s with heap:=(s.heap.push (Sl1 us)).push (Sl0 C s.heap.objs.size)}):
  Sc (model prog w) A (call (.ref C) us) Q E s:=by
 obtain ⟨hp,g,d,t,os⟩:=s
 obtain ⟨nm,q,N,bs,sn,sub,ab,col,dd,k0,k1,k2,k3,k5,l⟩:=c.obj
 have kC:=X _ _ l
 have v1:=tc_lookup
 have v2:=tc_bind (.ref C)
 have hT:(⟨hp,g,d,t,os⟩:S3).TypeIs (.ref C) "type" :=⟨_,kC,rfl⟩
 refine wpAny_call (codeAny_of_tree ?_)
 repeat (any_goals (first|assumption|with_reducible refine wpAny_loadPart_at kC ?_|wp_step))
 exact ⟨rfl,codeAny_call_builtin_at (Code.quiet_builtin _ (by decide +kernel)) entry_typeCall (wpAny_check_type_call_sub kC (Ye9 c X hz h))⟩
end
end L2
namespace L2
open PySem PySem.Spec PyProof.Rows
def XO (e C:S1) (dx:Option S1) (fr:Bool):HO:=.ext λh=>∃o vs,h.get? e=some o/\o.cls= .ref C/\o.dict=dx/\o.data= .fields vs/\(∃t,vs[0]?=some (.ref t))/\∃y,vs[1]?=some y/\(fr=true->y= .none)
def XD (dx:S1) (fs:List (Str×V)):HO:=.ext λh=>∃mA,h.Ns1 dx mA/\(∀f,Sdp (fs.lookup f) (mA f))/\PySem.Within mA (fs.map (·.1))/\fs.length<=1000
section
variable {P:S7} {w:S9} {H:Hp} {h:Sb} {e C dx:S1} {od:Option S1} {fr:Bool} {fs:List (Str×V)}
theorem Yea (he:h.get? e=some o) (h1:o.cls= .ref C) (h2:o.dict=od) (h3:o.data= .fields vs) (h4:∃t,vs[0]?=some (.ref t)) (h5:∃y,vs[1]?=some y/\(fr=true->y= .none)):Sb6 P w H h e (XO e C od fr):=
 ⟨⟨o,vs,he,h1,h2,h3,h4,h5⟩,⟨o,he⟩,λ_ _ ⟨o,vs,a,r⟩ k=>⟨o,vs,k o a,r⟩⟩
theorem Jyw (hok:HOk P w H h) (q:H e=some (XO e C od fr)):∃o vs,h.get? e=some o/\o.cls= .ref C/\o.dict=od/\o.data= .fields vs/\(∃t,vs[0]?=some (.ref t))/\∃y,vs[1]?=some y/\(fr=true->y= .none):=(hok e _ q).1
theorem Ss3 (n:h.Ns1 dx mA) (r:∀f,Sdp (fs.lookup f) (mA f)) (w':PySem.Within mA (fs.map (·.1))) (z:fs.length<=1000):Sb6 P w H h dx (XD dx fs):=
 ⟨⟨mA,n,r,w',z⟩,(let ⟨o,_,_,q,_⟩:=n;⟨o,q⟩),λ_ _ ⟨m,a,r⟩ k=>⟨m,a.at k,r⟩⟩
theorem Sox (hok:HOk P w H h) (q:H dx=some (XD dx fs)):∃mA,h.Ns1 dx mA/\(∀f,Sdp (fs.lookup f) (mA f))/\PySem.Within mA (fs.map (·.1))/\fs.length<=1000:=(hok dx _ q).1
theorem Yg4 (hok:HOk P w H h) (q:H e=some (XO e C (some dx) fr)) (qd:H dx=some (XD dx fs)):∃(ox oD:Obj) (mA:Str->Option S2),PySem.W.InstAt h e ox C (some oD)/\(∀n,PySem.W.lookIn n oD=some (mA n))/\∀f,Sdp (fs.lookup f) (mA f):=by
 obtain ⟨o,vs,he,hc,hd,hf,_⟩:=Jyw hok q
 obtain ⟨mA,n1,r,_⟩:=Sox hok qd
 obtain ⟨oD,hD,hl⟩:=Jxc n1
 exact ⟨o,oD,mA,⟨he,hc,by unfold PySem.W.notCls;rw [hf],by rw [hd];exact hD⟩,hl,r⟩
end
section
variable {X:Cx} {pins:List (S1×Obj)} {σ:St} {H:Hp} {s:S3} {e C W fI dx:S1} {fs:List (Str×V)} {fr:Bool} {f:Str} {v:V} {A:Sa} {E:S2->S3->Prop}
theorem Yeb (I:Sn X pins σ H s) (q:H e=some (XO e C none fr)) (c:Sam X.K C W fI) (n:NoAttr X.K C f) (ry:Sa5 y u)
  (h:∀dx s',H dx=none->dx≠e->Sn X pins σ (upd (upd H dx (XD dx [(f,y)])) e (XO e C (some dx) fr)) s'->Q () s'):Sc (model X.prog X.w) A (setAttr (.ref e) f u) Q E s:=by
 obtain ⟨o,vs,he,hc,hd,hf,h0,h1⟩:=Jyw I.hok q
 have hn:=I.hok.fresh (yk _)
 refine Ya7 c I.kIn he hc hd hf n λh' kp ke n1=>h s.heap.objs.size _ hn (ybd (yi he)) ?_
 have qd:∀m:Hp,Sb6 X.prog X.w m h' s.heap.objs.size (XD s.heap.objs.size [(f,y)]):=λm=>Ss3 n1 (λg=>by
  by_cases z:g=f
  ·have zb:=beq_iff_eq.mpr z
   simp only [ybi,zb,if_pos z];exact ry
  ·have zb:=beq_eq_false_iff_ne.mpr z
   simp only [ybi,zb,if_neg z];exact True.intro) (λg hg=>by
  by_cases z:g=f
  ·rw [z];simp
  ·exact absurd (if_neg z) hg) (by simp)
 have un1:Un X.fs [] H (upd (upd H s.heap.objs.size (XD s.heap.objs.size [(f,y)])) e (XO e C (some s.heap.objs.size) fr)) s.heap h':=by
  have nb:∀b ob,s.heap.get? b=some ob->b≠s.heap.objs.size:=λb ob z=>yo (yi z)
  have sm:∀b u',H b=some u'->u'≠XO e C none fr->upd (upd H s.heap.objs.size (XD s.heap.objs.size [(f,y)])) e (XO e C (some s.heap.objs.size) fr) b=some u':=λb u' z d=>by
   rw [Sz (λw':b=e=>d (by rw [w',q] at z;exact (yv.inj z).symm)),Sz (Jmw z hn)];exact z
  refine ⟨λb ob z n _ _=>kp b ob (λw'=>by rw [w',q] at n;cases n) z,λb ob z n _ _=>⟨ob.slots,kp b ob (λw'=>by rw [w',q] at n;cases n) z⟩,λb ob z n _=>?_,λb ob z _=>?_,λb xs z=>sm b _ z (λw'=>by cases w'),λb ob u' z=>sm b _ z (λw'=>by cases w'),λb ps z=>⟨#[],by rw [sm b _ z (λw'=>by cases w')];simp⟩⟩
  ·rw [Sz (λw'=>by rw [w',q] at n;cases n),Sz (nb b ob z)];exact n
  ·by_cases w':b=e
   ·exact ⟨_,by rw [w'];exact ke⟩
   ·exact ⟨ob,kp b ob w' z⟩
 refine I.un un1 λb ob z=>?_
 by_cases w1:b=e
 ·subst w1
  rw [Sr] at z;cases z
  exact Yea ke hc rfl hf h0 h1
 ·rw [Sz w1] at z
  by_cases w2:b=s.heap.objs.size
  ·subst w2
   rw [Sr] at z;cases z
   exact qd _
  ·rw [Sz w2] at z
   have keep:∀c' u',H c'=some u'->u'≠XO e C none fr->upd (upd H s.heap.objs.size (XD s.heap.objs.size [(f,y)])) e (XO e C (some s.heap.objs.size) fr) c'=some u':=λc' u' zz d=>by
    rw [Sz (λw':c'=e=>d (by rw [w',q] at zz;exact (yv.inj zz).symm)),Sz (Jmw zz hn)];exact zz
   refine (I.hok b ob z).stay (λc' v' hc' zz=>kp c' v' ?_ zz) (λc' zz=>keep c' _ zz (λw'=>by cases w')) (λc' xs zz=>keep c' _ zz (λw'=>by cases w')) λc' xs zz=>keep c' _ zz (λw'=>by cases w')
   rcases hc' with rfl|hc'
   ·exact w1
   ·rintro rfl;rw [q] at hc';cases hc'
theorem Sn.xmade (I:Sn X pins σ H s):Sn X pins σ (upd H (s.heap.objs.size+1) (XO (s.heap.objs.size+1) C none true)) {s with heap:=(s.heap.push (Sl1 us)).push (Sl0 C s.heap.objs.size)}:=by
 refine (I.kept (t':=s.toks) λb u q=>yl _ q).laid (λb u q=>yl _ q) (Nat.le_of_eq (yao _ _)) ?_
 exact Yea (Heap.get?_push_at (by simp only [yao]) rfl) rfl rfl rfl ⟨_,rfl⟩ ⟨_,rfl,λ_=>rfl⟩
end
def Sre (K:Se) (ta tv:TE) (f:Str):TS:=λD σ H=>tv σ H λy H1=>ta σ H1 λx H2=>∃e C W fI fr,x= .ref e/\H2 e=some (XO e C none fr)/\Sam K C W fI/\NoAttr K C f/\∀dx,H2 dx=none->dx≠e->
 D.nx σ (upd (upd H2 dx (XD dx [(f,y)])) e (XO e C (some dx) fr))
def Srt (C:S1) (sp:Sp) (t:TA):TE:=λσ H Q=>t σ H λvs H1=>vs.length<=1000/\∀e,H1 e=none->sp (.ref e::vs) (upd H1 e (XO e C none true)) (λv H2=>v= .non/\Q (.ref e) H2) E0
section
variable {X:Cx} {o e value:Expr} {f:Str} {pos pos' tpos p:Pos} {ta tv:TE} {C W fI:S1} {fd:S8} {ps:List Str} {sp:Sp} {k j:Nat} {x:Str} {es:List Expr} {t:TA}
theorem Jpu (ha:PE X o ta) (hv:PE X value tv) (hs:swapsWith value (some (.Attribute o f pos')) pos.line X.env=pure false):PS X (.Assign [.Attribute o f pos'] value pos) (Sre X.K ta tv f):=by
 intro pins s σ H D I h
 refine plainObj_wpAny_Assign_Attribute (thn (hv pins s σ H _ I h) λu s1 ⟨y,H1,I1,ry,q⟩=>thn (ha pins s1 σ H1 _ I1 q) λov s2 zq=>?_) hs
 obtain ⟨x,H2,I2,rx,a,C,W,fI,fr,ex,ea,c,n,q2⟩:=zq
 subst ex
 obtain rfl:ov=Value.ref a:=rx
 exact Yeb I2 ea c n ry λdx s3 h1 h2 I3=>⟨σ,_,I3,q2 dx h1 h2⟩
theorem Yf7 {σ:St} {H} {s} {Q} {us} {vs} (c:Sam X.K C W fI) (G:Ss X.prog X.w X.K X.mg X.base CX0 k fI fd ps sp) (hr:San (k+1) X.A) (hb:Sbk X.K fd ps []) (I:Sn X pins σ H s) (r:Sa0 vs us) (hz:vs.length<=1000)
  (h:∀e,H e=none->sp (.ref e::vs) (upd H e (XO e C none true)) (λv H2=>v= .non/\Q (.ref e) H2) E0):Sc (model X.prog X.w) X.A (call (.ref C) us) (EP X pins σ Q) X.xe s:=by
 have hq:=h (s.heap.objs.size+1) (I.hok.fresh (Nat.le_succ _))
 have I2:=Sn.xmade (C:=C) (us:=us) I
 have r2:Sa0 (V.ref (s.heap.objs.size+1)::vs) (Value.ref (s.heap.objs.size+1)::us):=.cons rfl r
 have hl:(Value.ref (s.heap.objs.size+1)::us++ []).length=ps.length:=by
  rw [ybe,<-r2.length,G.len _ _ _ _ hq]
 refine Yg3 c I.kIn (by rw [<-r.length];exact yan hz (by decide)) (wpAny_call (codeAny_mono (G.run _ X.stack _ _ ⟨Value.ref (s.heap.objs.size+1)::us,[]⟩ (Value.ref (s.heap.objs.size+1)::us) _ _ E0 (hr.make C us [])
  (I2.env0.make C us []) (by have:=hb _ (Value.ref (s.heap.objs.size+1)::us) I2.kIn hl;rw [ybe] at this;exact this) r2 hq) λr s' hq'=>?_))
 cases r with
 |error e=>exact False.elim hq'
 |ok fl=>
  cases fl with
  |ret u=>
   obtain ⟨v,H',I3,rv,ev,q3⟩:=I2.after hq'
   subst ev
   exact ⟨rv,⟨V.ref (s.heap.objs.size+1),H',I3,rfl,q3⟩⟩
  |next=>exact False.elim hq'
  |brk=>exact False.elim hq'
  |cont=>exact False.elim hq'
theorem Job (c:Sam X.K C W fI) (G:Ss X.prog X.w X.K X.mg X.base CX0 k fI fd ps sp) (hr:San j X.A) (hk:k+1<=j) (hb:Sbk X.K fd ps []) (hm:X.mg x=some (.ref C)) (ha:PA X (e::es) t) (hg:Gl X x:=by rfl)
  (hdb:(x==("__debug__" :Str))=false:=by decide) (he:starEach (e::es) X.env=(false,eval e X.env)::starEach es X.env:=by rfl) (hpl:(backTo pos (starEach es X.env)).any (·.1)=false:=by rfl):
  PE X (.Call (.Name x p) (e::es) [] pos) (Srt C sp t):=by
 intro pins s σ H Q I h
 exact wpAny_Call_Name_kw (Jtf I hg hm (PySem.W.callWith_K I.ok.mod.kin c.kp (thn (ha pos pins s σ H _ I h) λus s1 ⟨vs,H1,I1,r,z,q⟩=>⟨I1.kIn,Yf7 c G (hr.mono hk) hb I1 r z q⟩) he hpl) hdb)
end
section
variable {K:Se} {C W fI:S1} {x:S1}
theorem Sw9 (c:Sam K C W fI):PySem.W.KitX K (.ref x) (.ref C) (λh=>∃ox od,PySem.W.InstAt h x ox C (some od)) where
 ty:=λ_ _ _ ⟨_,_,I⟩=>I.type
 it:=λ_ _ X _=>by
  obtain ⟨nm,q,N,bs,sn,sub,ab,col,dd,k0,k1,k2,k3,k5,l⟩:=c.obj
  intro A' Q' E' s' k q
  exact S4 (wpAny_loadPart (k _ _ (X _ _ l)) (S5 q))
 ne:=λh tp dd its n sl X htp=>by
  obtain ⟨nm,q,N,bs,sn,sub,ab,col,dd,k0,k1,k2,k3,k5,l⟩:=c.obj
  refine Bool.eq_false_iff.mpr λz=>?_
  have e:=Value.ref.inj (beq_iff_eq.mp z)
  subst e
  have z:=congrArg (Option.map (·.cls)) ((X _ _ l).symm.trans htp)
  simp at z
 ca:=λ{prog w A E Q s} X ⟨ox,od,I⟩ kq=>by
  have hf:PySem.W.findObj K C (some od) "__class__" =some (.bind (.builtin "getset_descriptor.__get__") (.builtin "object.__class__")):=PySem.W.findObj_data (by obtain ⟨cd,hc,_⟩:=c.mro;rw [hc];rfl) c.cl c.cg c.ct
  obtain ⟨hp,g,d,t,os⟩:=s
  refine S4 (wpAny_mkText (S4 (wpAny_attempt (wpAny_holding (S4 ((I.type).at (S4 ((PySem.W.looks_findIn X c.ga).at (S4 ((PySem.W.looks_findIn X c.gh).at ?_))))))))))
  show Sc _ _ ((holding _ (boundAndCalled (.builtin "BaseException.__getattribute__") (.ref x) (.str "__class__" t))).attempt >>=_) _ _ _
  unfold boundAndCalled
  rw [F.excAttr_ValueError.ga.bind]
  exact S4 (wpAny_attempt (wpAny_holding (S4 (S5 (wpAny_call (Yg1 c X I hf (S4 (wpAny_holding (wpAny_call (PySem.W.class_get X I c.mo (S5 (S5 (S5 kq))))))) (λz=>nomatch z)))))))
end
section
variable {M:Model} {A:Sa} {E:S2->S3->Prop} {s:S3} {env:Env} {outer:List Env} {base:Sb} {L e T:S1} {oe oT:Obj} {vs ts:Array S2} {Q:Unit->S3->Prop}
theorem Jxf {hadNext} (hfr:A.frames=some (env::outer)) (hl:s.heap.FunFrames base (env::outer)) (hf:env.frame=some L) (he:s.heap.get? e=some oe) (hd:oe.data= .fields vs) (hz:1 < vs.size)
  (hQ:∀h' T,(∀b o,s.heap.get? b=some o->b∉frs (env::outer)->b≠e->h'.get? b=some o)->(∀b o,s.heap.get? b=some o->b≠e->∃sl,h'.get? b=some {o with slots:=sl})->s.heap.objs.size<=T->
   h'.get? e=some (oe.mapFields (·.setIfInBounds 1 (.ref T)))->(∃oT ts,h'.get? T=some oT/\oT.data= .fields ts/\ts[3]?=some (rawInt L))->Q () {s with heap:=h'}):
  Sc M A (do let a<-frameOf env;let pl<-entryPlaceOf L hadNext;let b<-EntryCells.newEntry head a .none (rawInt L) .none pl;setField (.ref e) 1 b) Q E s:=by
 have hen:e∉frs (env::outer):=λz=>by
  obtain ⟨_,o,ho,nf⟩:=hl.mem z
  rw [he] at ho
  cases ho
  exact nf vs hd
 refine S4 (wpAny_frameOf_fun hfr hl hf λh1 sl1=>S4 (wpAny_entryPlaceOf λpl hpl=>?_))
 unfold EntryCells.newEntry newFields
 have he1:=(sl1.2.1 e hen).trans he
 refine S4 (wpAny_newObj_type (wpAny_setField (yl _ he1) hd hz (hQ _ h1.objs.size (λb o hb hn ne=>?_) (λb o hb ne=>?_) (Nat.le_of_eq sl1.1.symm) (ybv _ (yl _ he1) (Obj.isFreed_of_fields (Obj.data_mapFields hd _))) ?_)) (hpl.sizeOk5 _ _ _ _ _))
 ·rw [ybk _ _ (yt ne)]
  exact yl _ ((sl1.2.1 b hn).trans hb)
 ·obtain ⟨sl,q⟩:=sl1.2.2 b o hb
  exact ⟨sl,by rw [ybk _ _ (yt ne)];exact yl _ q⟩
 ·refine ⟨_,_,(ybk _ _ (yt (ybd (yi he1)))).trans (yq h1 rfl),rfl,?_⟩
  first|(simp;done)|(rcases hpl with rfl|⟨_,_,_,_,_,_,_,rfl⟩ <;> simp)
theorem Yl (hfr:A.frames=some (env::outer)) (hl:s.heap.FunFrames base (env::outer)) (hf:env.frame=some L) (he:s.heap.get? e=some oe) (hd:oe.data= .fields vs) (h1:vs[1]?=some .none)
  (hQ:∀h' T,(∀b o,s.heap.get? b=some o->b∉frs (env::outer)->b≠e->h'.get? b=some o)->(∀b o,s.heap.get? b=some o->b≠e->∃sl,h'.get? b=some {o with slots:=sl})->s.heap.objs.size<=T->
   h'.get? e=some (oe.mapFields (·.setIfInBounds 1 (.ref T)))->(∃oT ts,h'.get? T=some oT/\oT.data= .fields ts/\ts[3]?=some (rawInt L))->Q () {s with heap:=h'}):
  Sc M A (noteFrame (.ref e) env) Q E s:=by
 unfold noteFrame
 simp only [hf]
 exact S4 (wpAny_field he hd h1 (Jxf hfr hl hf he hd (ybw.mp h1).1 hQ))
theorem Ybl (hfr:A.frames=some (env::outer)) (hl:s.heap.FunFrames base (env::outer)) (hf:env.frame=some L) (he:s.heap.get? e=some oe) (hd:oe.data= .fields vs) (h1:vs[1]?=some (.ref T))
  (hT:s.heap.get? T=some oT) (hdT:oT.data= .fields ts) (h3:ts[3]?=some .none) (ne:T≠e)
  (hQ:∀h' T',(∀b o,s.heap.get? b=some o->b∉frs (env::outer)->b≠e->b≠T->h'.get? b=some o)->(∀b o,s.heap.get? b=some o->b≠e->b≠T->∃sl,h'.get? b=some {o with slots:=sl})->s.heap.objs.size<=T'->
   h'.get? e=some (oe.mapFields (·.setIfInBounds 1 (.ref T')))->(∃oT ts,h'.get? T'=some oT/\oT.data= .fields ts/\ts[3]?=some (rawInt L))->Q () {s with heap:=h'}):
  Sc M A (noteFrame (.ref e) env) Q E s:=by
 unfold noteFrame
 simp only [hf]
 refine S4 (wpAny_field he hd h1 (S4 (wpAny_field hT hdT h3 ?_)))
 have ot:∀b,b≠T->(s.heap.update T (Obj.mapFields (·.setIfInBounds 3 Value.none))).get? b=s.heap.get? b:=λb hb=>ybk _ _ (yt hb)
 have nr:∀b o,s.heap.get? b=some o->(∀ws,o.data≠ .fields ws)->b≠T:=λb o hb nf z=>by
  rw [z,hT] at hb
  cases hb
  exact nf ts hdT
 refine S4 (wpAny_setField hT hdT (ybw.mp h3).1 ?_)
 refine Jxf hfr (hl.of_keeps λb o hb nf=>⟨o,(ot b (nr b o hb nf)).trans hb,rfl⟩) hf ((ot e (yt ne)).trans he) hd (ybw.mp h1).1 λh' T' k1 k2 k3 k4 k5=>?_
 refine hQ h' T' (λb o hb hn h1 h2=>k1 b o ((ot b h2).trans hb) hn h1) (λb o hb h1 h2=>k2 b o ((ot b h2).trans hb) h1) ?_ k4 k5
 have z:(s.heap.update T (Obj.mapFields (·.setIfInBounds 3 Value.none))).objs.size=s.heap.objs.size:=Heap.size_after_update ..
 rw [<-z];exact k3
end
def Flt (X:Cx) (pins:List (S1×Obj)) (H:Hp) (h:Sb) (e:S1) (fl:S2):Prop:=
 ∃oe vs T oT ts,h.get? e=some oe/\oe.data= .fields vs/\vs[1]?=some (.ref T)/\H T=none/\h.get? T=some oT/\oT.data= .fields ts/\ts[3]?=some fl/\X.s₀.heap.objs.size<=T/\∀p∈X.pn++pins,p.1≠T
def Yed (X:Cx):Prop:=X.stack=X.env::X.outer/\X.env.frame=some X.env.locals
section
variable {X:Cx} {pins:List (S1×Obj)} {σ:St} {H:Hp} {s:S3} {e C:S1} {od:Option S1} {fr fr':Bool} {A:Sa} {M:Model} {E:S2->S3->Prop} {Q:Unit->S3->Prop} {fl:S2} {h':Sb}
theorem Sn.freeOf (I:Sn X pins σ H s) (hb:s.heap.get? b=some o) (hd:o.data= .fields ts):b≠X.env.locals/\∀x c,X.env.cells.lookup x=some c->c≠b:=by
 refine ⟨λz=>?_,λx c e z=>?_⟩
 ·obtain ⟨m,⟨o',es,ep,ho',hd',_⟩,_⟩:=I.loc
  rw [z,ho'] at hb;cases hb;rw [hd'] at hd;cases hd
 ·obtain ⟨v,o',ho',hd'⟩:=I.cell x c e
  rw [z,hb] at ho';cases ho';rw [hd] at hd';cases hd'
theorem Sn.fly {ch:List S1} (I:Sn X pins σ H s) (q:H e=some (XO e C od fr)) (hch:∀b∈ch,X.s₀.heap.objs.size<=b/\H b=none/\(∃o ts,s.heap.get? b=some o/\o.data= .fields ts)/\∀p∈X.pn++pins,p.1≠b)
  (k:∀b o,s.heap.get? b=some o->b∉frs X.stack->b≠e->b∉ch->h'.get? b=some o) (ks:∀b o,s.heap.get? b=some o->b≠e->b∉ch->∃sl,h'.get? b=some {o with slots:=sl})
  (new:Sb6 X.prog X.w (upd H e (XO e C od fr')) h' e (XO e C od fr')):Sn X pins σ (upd H e (XO e C od fr')) {s with heap:=h'}:=by
 have ne:∀b u,H b=some u->u≠XO e C od fr->b≠e:=λb u z d w'=>d (by rw [w',q] at z;exact (yv.inj z).symm)
 have nn:∀b,H b=none->b≠e:=λb z w'=>by rw [w',q] at z;cases z
 have u:Un (frs X.stack) ch H (upd H e (XO e C od fr')) s.heap h':=by
  refine ⟨λb o hb n hs hc=>k b o hb hs (nn b n) hc,λb o hb n _ hc=>ks b o hb (nn b n) hc,λb o _ n _=>by rw [Sz (nn b n)];exact n,λb o hb hc=>?_,λb xs z=>?_,λb o u z=>?_,λb ps z=>⟨#[],?_⟩⟩
  ·by_cases w':b=e
   ·rw [w'];exact new.2.1
   ·obtain ⟨sl,z⟩:=ks b o hb w' hc
    exact ⟨_,z⟩
  ·rw [Sz (ne b _ z (λw'=>by cases w'))];exact z
  ·rw [Sz (ne b _ z (λw'=>by cases w'))];exact z
  ·rw [Sz (ne b _ z (λw'=>by cases w')),z];simp
 refine I.call u (λb o z=>?_) I.bare λb hb=>?_
 ·by_cases w':b=e
  ·subst w'
   rw [Sr] at z;cases z
   exact new
  ·rw [Sz w'] at z
   refine (I.hok b o z).stay (λc v hc zz=>k c v zz ?_ ?_ ?_) (λc zz=>by rw [Sz (ne c _ zz (λw'=>by cases w'))];exact zz) (λc xs zz=>by rw [Sz (ne c _ zz (λw'=>by cases w'))];exact zz) λc xs zz=>by rw [Sz (ne c _ zz (λw'=>by cases w'))];exact zz
   ·intro hs
    have:=I.stkFree c hs
    rcases hc with rfl|hc
    ·rw [this] at z;cases z
    ·rw [this] at hc;cases hc
   ·rcases hc with rfl|hc
    ·exact w'
    ·exact ne c _ hc (λw'=>by cases w')
   ·intro hb
    have:=(hch c hb).2.1
    rcases hc with rfl|hc
    ·rw [this] at z;cases z
    ·rw [this] at hc;cases hc
 ·obtain ⟨h1,_,⟨o,ts,ho,hd⟩,h4⟩:=hch b hb
  exact ⟨.inr h1,(I.freeOf ho hd).1,(I.freeOf ho hd).2,h4⟩
theorem Yev (I:Sn X pins σ H s) (hs:Yed X) (hA:A.frames=some X.stack) (q:H e=some (XO e C od fr)) (hfl:fr=true\/Flt X pins H s.heap e .none)
  (h:∀s',Sn X pins σ (upd H e (XO e C od false)) s'->Flt X pins (upd H e (XO e C od false)) s'.heap e (rawInt X.env.locals)->Q () s'):Sc M A (noteFrame (.ref e) X.env) Q E s:=by
 obtain ⟨o,vs,he,hc,hd,hf,⟨t0,h0⟩,y,h1,hy⟩:=Jyw I.hok q
 have hA':A.frames=some (X.env::X.outer):=by rw [hA,hs.1]
 have FF:s.heap.FunFrames X.base (X.env::X.outer):=by rw [<-hs.1];exact I.stack
 have sub:∀b,b∉frs X.stack->b∉frs (X.env::X.outer):=λb z w'=>z (by rw [hs.1];exact w')
 have new:∀{h':Sb} {T:S1},h'.get? e=some (o.mapFields (·.setIfInBounds 1 (.ref T)))->Sb6 X.prog X.w (upd H e (XO e C od false)) h' e (XO e C od false):=λ{h' T} z=>by
  refine Yea z ((Obj.cls_mapFields _ _).trans hc) ?_ (Obj.data_mapFields hf _) ⟨t0,by rw [Array.getElem?_setIfInBounds_ne (by decide)];exact h0⟩ ⟨.ref T,by simp [((ybw.mp h1).1)],λz=>nomatch z⟩
  obtain ⟨_,_,dt,_⟩:=o
  cases dt <;> first|exact hd|cases hf
 have fin:∀{h':Sb} {T:S1},Sn X pins σ (upd H e (XO e C od false)) {s with heap:=h'}->s.heap.objs.size<=T->h'.get? e=some (o.mapFields (·.setIfInBounds 1 (.ref T)))->(∃oT ts,h'.get? T=some oT/\oT.data= .fields ts/\ts[3]?=some (rawInt X.env.locals))->Q () {s with heap:=h'}:=λ{h' T} J k3 k4 ⟨oT,ts,k5,k6,k7⟩=>by
  refine h _ J ⟨_,_,T,oT,ts,k4,Obj.data_mapFields hf _,by simp [((ybw.mp h1).1)],?_,k5,k6,k7,yan I.sz k3,λp hp z=>?_⟩
  ·rw [Sz (λz=>absurd (yi he) (by rw [<-z];exact Nat.not_lt.mpr k3))]
   exact I.hok.fresh k3
  ·obtain ⟨z1,_⟩:=I.pin p hp
   exact absurd (yi z1) (by rw [z];exact Nat.not_lt.mpr k3)
 by_cases hfr:y= .none
 ·subst hfr
  refine Yl hA' FF hs.2 he hf h1 λh' T k1 k2 k3 k4 k5=>fin (I.fly (ch:=[]) q (λb z=>absurd z (by simp)) (λb o hb hn ne _=>k1 b o hb (sub b hn) ne) (λb o hb ne _=>k2 b o hb ne) (new k4)) k3 k4 k5
 ·rcases hfl with z|⟨oe,ws,T,oT,ts,z1,z2,z3,z4,z5,z6,z7,z8,z9⟩
  ·exact absurd (hy z) hfr
  ·rw [he] at z1;cases z1
   rw [hf] at z2;cases z2
   have ne:T≠e:=λw'=>by rw [w',q] at z4;cases z4
   refine Ybl hA' FF hs.2 he hf z3 z5 z6 z7 ne λh' T' k1 k2 k3 k4 k5=>fin (I.fly (ch:=[T]) q (λb hb=>?_) (λb o hb hn ne hc=>k1 b o hb (sub b hn) ne (by simpa using hc)) (λb o hb ne hc=>k2 b o hb ne (by simpa using hc)) (new k4)) k3 k4 k5
   obtain rfl:b=T:=by simpa using hb
   exact ⟨z8,z4,⟨oT,ts,z5,z6⟩,z9⟩
theorem Ybd (I:Sn X pins σ H s) (q:H e=some (XO e C od fr)) (hfl:Flt X pins H s.heap e fl) (h:∀s',Sn X pins σ H s'->Flt X pins H s'.heap e .none->Q () s'):Sc M A (setFlight (.ref e) none) Q E s:=by
 obtain ⟨oe,vs,T,oT,ts,z1,z2,z3,z4,z5,z6,z7,z8,z9⟩:=hfl
 have hz:=(ybw.mp z7).1
 have ne:T≠e:=λw'=>by rw [w',q] at z4;cases z4
 have ot:∀b,b≠T->(s.heap.update T (Obj.mapFields (·.setIfInBounds 3 Value.none))).get? b=s.heap.get? b:=λb hb=>ybk _ _ (yt hb)
 exact wpAny_setFlight_none z1 z2 z3 z5 z6 hz (h _ (I.turned (λb o hb z=>(ot b hb).trans z) z4 (I.freeOf z5 z6).1 (.inr z8) (I.freeOf z5 z6).2 z9) ⟨oe,vs,T,_,_,(ot e (yt ne)).trans z1,z2,z3,z4,ybv _ z5 (Obj.isFreed_of_fields (Obj.data_mapFields z6 _)),Obj.data_mapFields z6 _,by simp [hz],z8,z9⟩)
end
def CXX (P:S7) (w:S9):CXT:=λouter H s E ev s'=>∃e C dx H',ev= .ref e/\s'.os=s.os/\AllBare s'.gens/\Un (frs outer) [] H H' s.heap s'.heap/\HOk P w H' s'.heap/\H' e=some (XO e C (some dx) false)/\
 (∃oe vs T oT ts,s'.heap.get? e=some oe/\oe.data= .fields vs/\vs[1]?=some (.ref T)/\H' T=none/\s'.heap.get? T=some oT/\oT.data= .fields ts/\ts[3]?=some .none/\s.heap.objs.size<=T)/\E (.ref C) (some e) H'
def Jyz (X:Cx) (R:St->XK):Prop:=∀pins σ H s e C dx fr,Sn X pins σ H s->H e=some (XO e C (some dx) fr)->(fr=true\/Flt X pins H s.heap e .none)->R σ (.ref C) (some e) (upd H e (XO e C (some dx) false))->X.xe (.ref e) s
theorem Jnu {K}:
  Jyz (Jxr (CXX P w) P w K mg base N qual scope f cd A outer s H E) (λ_=>E):=by
 intro pins σ H1 s1 e C dx fr I q hfl hE
 refine S4 (Yev I ⟨rfl,rfl⟩ I.ok.frames q hfl λs2 I2 f2=>Ybd I2 Sr f2 λs3 I3 f3=>?_)
 obtain ⟨oe,vs,T,oT,ts,z1,z2,z3,z4,z5,z6,z7,z8,_⟩:=f3
 exact ⟨e,C,dx,_,rfl,I3.os,I3.bare,I3.base,I3.hok,Sr,⟨oe,vs,T,oT,ts,z1,z2,z3,z4,z5,z6,z7,z8⟩,hE⟩
theorem Sos {o} (h:H a=some o):upd H a o=H:=by
 funext b
 unfold upd
 split
 ·rename_i z;rw [z,h]
 ·rfl
section
variable {X:Cx} {pins:List (S1×Obj)} {σ:St} {H:Hp} {s s':S3} {R:St->XK} {ev:S2}
theorem Yg5 (hw:Jyz X R) (I:Sn X pins σ H s) (h:CXX X.prog X.w X.stack H s (R σ) ev s'):X.xe ev s':=by
 obtain ⟨e,C,dx,H',rfl,ho,hg,un,hok,q,⟨oe,vs,T,oT,ts,z1,z2,z3,z4,z5,z6,z7,z8⟩,hR⟩:=h
 refine hw pins σ H' s' e C dx false (I.call' ho un hok hg λb z=>absurd z (by simp)) q (.inr ⟨oe,vs,T,oT,ts,z1,z2,z3,z4,z5,z6,z7,yan I.sz z8,λp hp z=>?_⟩) (by rw [Sos q];exact hR)
 obtain ⟨y1,_⟩:=I.pin p hp
 exact absurd (yi y1) (by rw [z];exact Nat.not_lt.mpr z8)
end
theorem Ss.calm {K} (G:Ss P w K mg base (CXX P w) k f fd ps sp):Ss P w K mg base CX0 k f fd ps (λvs H Q _=>sp vs H Q E0):=
 ⟨λvs H Q _ h=>G.len vs H Q E0 h,λA outer s H args us vs Q E hr he hb hv hs=>codeAny_mono (G.run A outer s H args us vs Q E0 hr he hb hv hs) λr s' hq=>by
  cases r with
  |error e=>obtain ⟨_,_,_,_,_,_,_,_,_,_,_,z⟩:=hq;exact z.elim
  |ok fl=>cases fl <;> exact hq⟩
theorem Fun.okX {K} {st} (F:Fun K x qual st f fd) (S:Jmy N ps (Jmt st)) (len:∀vs H Q E,sp vs H Q E->vs.length=ps.length)
  (hbody:∀cdv A outer s H vs Q E,San k (A.deeper (envOfC qual (Jmt st) s.heap.objs.size f cdv))->sp vs H Q E->
   ∃t,PSs (Jxr (CXX P w) P w K mg base N qual (Jmt st) f cdv A outer s H E) (Jnw st) t/\t {nx:=λ_ H'=>Q .non H',rt:=Q} (start N vs) H):Ss P w K mg base (CXX P w) (k+1) f fd ps sp:=by
 obtain ⟨oc,od,kV,doc,pm,an,cdv,ct,osl,rfl,lk,hcd⟩:=F.ex
 exact Slo lk hcd S len λA outer s H vs Q E hr hsp=>hbody cdv A outer s H vs Q E hr hsp
def Soe (sp:Sp) (R:St->XK) (t:TA):TE:=λσ H Q=>t σ H λvs H1=>sp vs H1 Q (R σ)
section
variable {X:Cx} {k j:Nat} {f C:S1} {fd:S8} {ps:List Str} {sp:Sp} {R:St->XK} {x m:Str} {p pos apos:Pos} {e o:Expr} {es:List Expr} {ta:TE} {t:TA}
theorem Yf8 (G:Ss X.prog X.w X.K X.mg X.base (CXX X.prog X.w) k f fd ps sp) (hw:Jyz X R) (hr:San k X.A) (hb:Sbk X.K fd ps [])
  (I:Sn X pins σ H s) (r:Sa0 vs us) (h:sp vs H Q (R σ)):Sc (model X.prog X.w) X.A (call (.ref f) us) (EP X pins σ Q) X.xe s:=by
 have hl:(us++ []).length=ps.length:=by rw [ybe,<-r.length,G.len _ _ _ _ h]
 have hb':=hb s us I.kIn hl
 rw [ybe] at hb'
 refine wpAny_call (codeAny_mono (G.run X.A X.stack s H ⟨us,[]⟩ us vs Q (R σ) hr I.env0 hb' r h) λr s' hq=>?_)
 cases r with
 |error e=>exact Yg5 hw I hq
 |ok fl=>
  cases fl with
  |ret u=>exact I.after hq
  |next=>exact False.elim hq
  |brk=>exact False.elim hq
  |cont=>exact False.elim hq
theorem Jow {st} (F:FT X.K X.mg x st ps f fd) (G:Ss X.prog X.w X.K X.mg X.base (CXX X.prog X.w) k f fd ps sp) (hw:Jyz X R) (hr:San j X.A) (hk:k<=j) (ha:PA X (e::es) t) (hg:Gl X x:=by rfl)
  (hdb:(x==("__debug__" :Str))=false:=by decide) (he:starEach (e::es) X.env=(false,eval e X.env)::starEach es X.env:=by rfl) (hpl:(backTo pos (starEach es X.env)).any (·.1)=false:=by rfl):
  PE X (.Call (.Name x p) (e::es) [] pos) (Soe sp R t):=by
 intro pins s σ H Q I h
 exact wpAny_Call_Name_kw (Jtf I hg F.mgx (PySem.W.callWith_K I.ok.mod.kin F.fn.kp (thn (ha pos pins s σ H _ I h) λus s1 ⟨vs,H1,I1,r,q⟩=>⟨I1.kIn,Yf8 G hw (hr.mono hk) F.bd I1 r q⟩) he hpl) hdb)
end
def Ydg (K:Se) (R:St->XK) (te:TE):TS:=λ_ σ H=>te σ H λv H1=>∃e C W fI dx,v= .ref e/\H1 e=some (XO e C (some dx) true)/\Sam K C W fI/\R σ (.ref C) (some e) (upd H1 e (XO e C (some dx) false))
section
variable {X:Cx} {R:St->XK} {x:Expr} {pos:Pos} {te:TE}
theorem Jns (hw:Jyz X R) (hc:X.calm=true) (hx:PE X x te):PS X (.Raise (some x) none pos) (Ydg X.K R te):=by
 intro pins s σ H D I h
 refine S4 (wpAny_standAt (S4 (S4 (thn (hx pins s σ H _ I h) λu s1 ⟨y,H1,I1,ry,e,C,W,fI,dx,ey,q,c,k⟩=>S4 (wpAny_standAt (S5 ?_))))))
 subst ey
 obtain rfl:u=Value.ref e:=ry
 obtain ⟨o,vs,he,hcl,hd,hf,h0,y,h1,hy⟩:=Jyw I1.hok q
 obtain ⟨nm,qn,N,bs,sn,sub,ab,col,dd,k0,k1,k2,k3,k5,l⟩:=c.obj
 have kC:=I1.kIn _ _ l
 have hcB:(Value.ref C:: .ref W::VEm).contains (.type "BaseException")=true:=by simp
 obtain ⟨oc,odi,oda,osl⟩:=o
 subst hcl hd hf
 repeat (first|with_reducible refine wpAny_loadPart_at he ?_|with_reducible refine wpAny_loadPart_at kC ?_|(with_reducible refine wpAny_isSubtype_exc kC ?_;rw [hcB])|with_reducible refine wpAny_field he rfl h1 ?_|wp_step)
 exact wpAny_raiseNew_none (I.ok.hd hc) (hw pins σ H1 s1 e C dx true I1 q (.inl rfl) k)
end
structure Stl (K:Se) (C:S1):Prop where
 obj:∃(dd:Option S1) (cd:ClassData) (sl:Array (Option S2)),K.lookup C=some ⟨.type "type",dd,.cls cd,sl⟩
 mb:Sh K C (.type "BaseException")=some true
section
variable {prog:S7} {w:S9} {A:Sa} {E:S2->S3->Prop} {s:S3} {K:Se} {e C C0:S1} {oe:Obj} {b:Bool}
end
section
variable {X:Cx} {pins pins':List (S1×Obj)} {σ:St} {H:Hp} {s:S3} {R:St->XK} {e:S1}
end
section
variable {X:Cx} {x n:Str} {np pos:Pos} {C0:S1} {i:Nat} {b₀:Stmt} {suite:List Stmt} {rest:List ExceptHandler} {ts:S1->TS} {th:TH}
end
structure FM (K:Se) (x qual:Str) (st:Stmt) (ps:List Str) (f:S1) (fd:S8):Prop where
 fn:Fun K x qual st f fd
 bd:Sbk K fd ps []
structure Sg9 (K:Se) (C:S1):Prop where
 ya:Sg K (.ref C) "__class__" =some (some (.builtin "object.__class__"))
 yb:PySem.W.specialIn K (.builtin "object.__class__") "__get__" =some (some (.builtin "getset_descriptor.__get__"))
 yc:PySem.W.takesIn K (.builtin "object.__class__")=some true
 yd:Sh K C (.type "object")=some true
theorem Sg9.ty {K} {C a dx} {H} {fs} (y:Sg9 K C) (c:Cls K C) (e:H a=some (.ins C dx fs)):Jtz K H (.ref a) (.ref C):=.ins e c y.ya y.yb y.yc y.yd
inductive Jpx (K:Se) (f:Str) (vs:List V) (H:Hp) (Q:VK) (z3:XK):Prop where
 |mk (e:_) (C:_) (W:_) (fI:_) (y:_) (_:vs= [.ref e,y]) (_:H e=some (XO e C none true)) (_:Sam K C W fI) (_:NoAttr K C f) (_:∀dx,H dx=none->dx≠e->Q .non (upd (upd H dx (XD dx [(f,y)])) e (XO e C (some dx) true)))
theorem Ybi {K} {C W fI} {f} {y} {H} {Q:VK} (c:Sam K C W fI) (n:NoAttr K C f) (k:∀e dx,H e=none->H dx=none->dx≠e->Q (.ref e) (upd (upd H dx (XD dx [(f,y)])) e (XO e C (some dx) true))):
  [y].length<=1000/\∀e,H e=none->Jpx K f (.ref e:: [y]) (upd H e (XO e C none true)) (λv H2=>v= .non/\Q (.ref e) H2) E0:=by
 refine ⟨by simp,λe he=>⟨e,C,W,fI,y,rfl,Sr,c,n,λdx h1 h2=>⟨rfl,?_⟩⟩⟩
 have e2:upd (upd (upd H e (XO e C none true)) dx (XD dx [(f,y)])) e (XO e C (some dx) true)=upd (upd H dx (XD dx [(f,y)])) e (XO e C (some dx) true):=by
  funext b
  unfold upd
  split
  ·rfl
  ·split <;> rfl
 rw [e2]
 exact (k e dx he (by rw [Sz h2] at h1;exact h1) h2)
section
variable {X:Cx} {pins:List (S1×Obj)} {σ:St} {H:Hp} {s:S3}
theorem Sn.turnTup {ch:List S1} (I:Sn X pins σ H s) (hch:∀b∈ch,Jtx X pins H b) (k:∀b o,b∉ch->s.heap.get? b=some o->h'.get? b=some o) (hT:s.heap.objs.size<=T)
  (new:Sb6 X.prog X.w (upd H T (.tup xs)) h' T (.tup xs)):Sn X pins σ (upd H T (.tup xs)) {s with heap:=h',toks:=t'}:=by
 have nb:∀b o,s.heap.get? b=some o->b≠T:=λb o z w'=>absurd (yi z) (by rw [w'];exact Nat.not_lt.mpr hT)
 have nt:∀b u,H b=some u->b≠T:=λb u z=>Jmw z (I.hok.fresh hT)
 have nc:∀b u,H b=some u->b∉ch:=λb u z w'=>by rw [(hch b w').1] at z;cases z
 have u:Un (frs X.stack) ch H (upd H T (.tup xs)) s.heap h':=by
  refine ⟨λb o hb n hs hc=>k b o hc hb,λb o hb n _ hc=>⟨o.slots,k b o hc hb⟩,λb o hb n _=>by rw [Sz (nb b o hb)];exact n,λb o hb hc=>⟨o,k b o hc hb⟩,λb ys z=>by rw [Sz (nt b _ z)];exact z,λb o v z=>by rw [Sz (nt b _ z)];exact z,λb ps z=>⟨#[],by rw [Sz (nt b _ z),z];simp⟩⟩
 refine I.call u (λb o z=>?_) I.bare λb hb=>?_
 ·by_cases w':b=T
  ·subst w'
   rw [Sr] at z;cases z
   exact new
  ·rw [Sz w'] at z
   refine (I.hok b o z).stay (λc v hc zz=>k c v ?_ zz) (λc zz=>by rw [Sz (nt c _ zz)];exact zz) (λc ys zz=>by rw [Sz (nt c _ zz)];exact zz) λc ys zz=>by rw [Sz (nt c _ zz)];exact zz
   rcases hc with rfl|hc
   ·exact nc c o z
   ·exact nc c _ hc
 ·obtain ⟨_,h1,_,h3,h4,h5⟩:=hch b hb
  exact ⟨h3,h1,h4,h5⟩
theorem Sn.turnMany {ch:List S1} (I:Sn X pins σ H s) (hch:∀b∈ch,Jtx X pins H b) (k:∀b o,b∉ch->s.heap.get? b=some o->h'.get? b=some o):Sn X pins σ H {s with heap:=h',toks:=t'}:=by
 have nc:∀b u,H b=some u->b∉ch:=λb u z w'=>by rw [(hch b w').1] at z;cases z
 have u:Un (frs X.stack) ch H H s.heap h':=
  ⟨λb o hb n hs hc=>k b o hc hb,λb o hb n _ hc=>⟨o.slots,k b o hc hb⟩,λb o hb n _=>n,λb o hb hc=>⟨o,k b o hc hb⟩,λb ys z=>z,λb o v z=>z,λb ps z=>⟨#[],by rw [z];simp⟩⟩
 refine I.call u (λb o z=>(I.hok b o z).stay (λc v hc zz=>k c v ?_ zz) (λ_ zz=>zz) (λ_ _ zz=>zz) λ_ _ zz=>zz) I.bare λb hb=>?_
 ·rcases hc with rfl|hc
  ·exact nc c o z
  ·exact nc c _ hc
 ·obtain ⟨_,h1,_,h3,h4,h5⟩:=hch b hb
  exact ⟨h3,h1,h4,h5⟩
end
theorem Yb:bootBuiltins "zip" =some (.type "zip"):=by decide +kernel
section
variable {X:Cx} {pins:List (S1×Obj)} {σ:St} {H:Hp} {s:S3}
inductive TyX (K:Se) (H:Hp):V->S2->Prop where
 |of {x:V} {t:S2}:Jtz K H x t->TyX K H x t
 |exc {e C W fI dx:S1} {fs:List (Str×V)} {fr:Bool}:H e=some (XO e C (some dx) fr)->H dx=some (XD dx fs)->Sam K C W fI->TyX K H (.ref e) (.ref C)
theorem TyX.kit (I:Sn X pins σ H s) (rx:Sa5 x u) (ty:TyX X.K H x t):u≠ .builtin "__main__.__loader__#opaque" /\∃Hh,PySem.W.KitX X.K u t Hh/\Hh s.heap:=by
 cases ty with
 |exc q qd c=>
  obtain rfl:u=Value.ref _:=rx
  obtain ⟨ox,oD,mA,J,_,_⟩:=Yg4 I.hok q qd
  exact ⟨(λz=>nomatch z),_,Sw9 c,ox,oD,J⟩
 |of ty=>
  cases ty with
  |non=>cases (rx);exact ⟨(λz=>nomatch z),_,PySem.W.kitx_none,trivial⟩
  |bl y=>cases (rx);exact ⟨(λz=>nomatch z),_,PySem.W.kitx_bool,trivial⟩
  |int i=>obtain ⟨t,q⟩:=(show ∃t,u=Value.int i t from rx);cases q;exact ⟨(λz=>nomatch z),_,PySem.W.kitx_int,trivial⟩
  |str y=>obtain ⟨t,q⟩:=(show ∃t,u=Value.str y t from rx);cases q;exact ⟨(λz=>nomatch z),_,PySem.W.kitx_str,trivial⟩
  |flt y=>obtain ⟨t,q⟩:=(show ∃t,u=Value.float y t from rx);cases q;exact ⟨(λz=>nomatch z),_,PySem.W.kitx_float,trivial⟩
  | @lst a xs ea=>
   cases (rx)
   obtain ⟨_,_,n,_,h1⟩:=(I.hok a _ ea)
   exact ⟨(λz=>nomatch z),_,PySem.W.kitx_list,_,h1,rfl⟩
  | @frz a ob xs ea=>
   cases (rx)
   obtain ⟨_,_,_,n,_,h1⟩:=(I.hok a _ ea)
   exact ⟨(λz=>nomatch z),_,PySem.W.kitx_list,_,h1,rfl⟩
  | @tup a xs ea=>
   cases (rx)
   obtain ⟨_,_,_,o,h1,h2,_⟩:=(I.hok a _ ea)
   exact ⟨(λz=>nomatch z),_,PySem.W.kitx_tuple,o,h1,h2⟩
  | @dK a kvs ea=>
   cases (rx)
   obtain ⟨_,_,vs,_,o,es,ep,h1,h2,_⟩:=(I.hok a _ ea)
   exact ⟨(λz=>nomatch z),_,PySem.W.kitx_dict,o,h1,h2.1⟩
  | @dT a kvs ea=>
   cases (rx)
   obtain ⟨_,_,xs,_,o,es,ep,h1,h2,_⟩:=(I.hok a _ ea)
   exact ⟨(λz=>nomatch z),_,PySem.W.kitx_dict,o,h1,h2.1⟩
  | @ins a C dx fs ea cl ha hn htk hm=>
   cases (rx)
   obtain ⟨mA,O,_⟩:=Jvd I.hok ea
   obtain ⟨od,J,_⟩:=O.look
   exact ⟨(λz=>nomatch z),_,PySem.W.kitx_own (cl.get _) cl.hd ha hn htk hm,J⟩
inductive Sr6 (K:Se) (xs:List V) (H:Hp) (Q:VK):Prop where
 |mk (x:_) (c:_) (u:_) (t:_) (b:_) (_:xs= [x,c]) (_:Smv c=some u) (_:TyX K H x t) (_:Sf K t u=some b) (_:Q (.bl b) H)
theorem Jo7:Jpd X (.builtin "isinstance") (Sr6 X.K):=by
 rintro pins s σ H vs us Q I r ⟨x,c,u,t,b,rfl,hc,ty,ek,k⟩
 obtain ⟨v,w',rfl,r1,r2⟩:=Yb4 r
 have e2:w'=u:=by
  cases c with
  |ty n=>cases hc;cases r2;rfl
  |ref a=>cases hc;cases r2;rfl
  |_=>cases hc
 subst e2
 obtain ⟨hx,Hh,Z,p⟩:=ty.kit I r1
 exact PySem.W.kia_one Z I.kIn p ek hx λtk=>⟨.bl b,H,I.tok _,rfl,k⟩
theorem Jz5:∀{cs} {us ws},cs.mapM Smv=some us->Sa0 cs ws->ws=us
 | [],us,_,e,.nil=>by cases e;rfl
 |c::cs,us,_,e,.cons r t=>by
  rw [List.mapM_cons] at e
  simp only [Option.bind_eq_bind,Option.bind_eq_some_iff,Option.pure_def,yv.injEq] at e
  obtain ⟨u,hu,us',hus,rfl⟩:=e
  rw [Jz5 hus t]
  cases c with
  |ty n=>cases hu;cases r;rfl
  |ref a=>cases hu;cases r;rfl
  |_=>cases hu
inductive Svm (K:Se) (xs:List V) (H:Hp) (Q:VK):Prop where
 |mk (x:_) (p:_) (cs:_) (us:_) (t:_) (b:_) (_:xs= [x,.ref p]) (_:H p=some (.tup cs)) (_:cs.mapM Smv=some us) (_:TyX K H x t) (_:PySem.W.kitAny K t us=some b) (_:Q (.bl b) H)
theorem Jvk:Jpd X (.builtin "isinstance") (Svm X.K):=by
 rintro pins s σ H vs us Q I r ⟨x,p,cs,us',t,b,rfl,hp,hc,ty,ek,k⟩
 obtain ⟨v,w',rfl,r1,r2⟩:=Yb4 r
 obtain rfl:w'=Value.ref p:=r2
 obtain ⟨hx,Hh,Z,q⟩:=ty.kit I r1
 obtain ⟨_,its,rv,o,h1,h2,n,h3⟩:=(I.hok p _ hp)
 have e:=Jz5 hc rv
 subst e
 obtain ⟨oc,odi,oda,osl⟩:=o
 subst h2 h3
 exact PySem.W.kia_tup Z I.kIn q h1 ek hx λtk=>⟨.bl b,H,I.tok _,rfl,k⟩
def Sva (K:Se) (tl:TE):TI:=λσ H R=>tl σ H λx H1=>∃a,x= .ref a/\(((∃xs,Sv K H1 a xs)/\R (Itl K a) H1)\/((∃xs,Su K H1 a xs)/\R (Itt K a) H1))
theorem Snl (hl:PE X l tl):PI X tg l (Sva X.K tl):=by
 intro pins s σ H R I h
 refine thn (hl pins s σ H _ I h) λv s1 zq=>?_
 obtain ⟨x,H1,I1,r1,a,e,q1⟩:=zq
 subst e
 cases r1
 have fin:∀{J:It} {tn:Nat->Sb->Prop} {o:Obj},Turn X.prog X.w X.K tg J [s1.heap.objs.size] s1.heap.objs.size tn->tn 0 (s1.heap.push o)->R J H1->PIE X pins σ tg R (.ref s1.heap.objs.size) {s1 with heap:=s1.heap.push o}:=λ{J tn o} T st q=>by
  refine ⟨s1.heap.objs.size,[s1.heap.objs.size],tn,J,H1,rfl,I1.kept λb o e=>yl _ e,T,st,λb hb=>?_,q⟩
  have e:=by simpa using hb
  subst e
  exact I1.fpOk (yk _) (I1.hok.fresh (yk _))
 rcases q1 with ⟨⟨xs,hq⟩,q⟩|⟨⟨xs,hq⟩,q⟩
 ·obtain ⟨its,rv,p,hz⟩:=I1.list hq
  exact wpAny_pyIter_list p.isList (fin (Jxk a _) ⟨_,yq _ rfl,rfl,rfl⟩ q)
 ·obtain ⟨its,rv,p,hz⟩:=I1.tuple hq
  exact wpAny_pyIter_tuple (p) (fin (Jwb a _) ⟨_,yq _ rfl,rfl,rfl⟩ q)
def Sg7 (x y:V) (b:Bool):Prop:=(∃a,x= .ref a/\y= .ref a/\b=true)\/(Jrc x=true/\Jrc y=true/\eqV x y=b)
theorem Sg7.at (h:Sg7 x y b) (rx:Sa5 x u) (ry:Sa5 y v):SeqAt.EqAt A s u v b:=by
 rcases h with ⟨a,rfl,rfl,rfl⟩|⟨f1,f2,rfl⟩
 ·cases rx;cases ry;exact SeqAt.EqAt.same _
 ·exact Ycq rx ry f1 f2
end
def Jyt (P:S7) (w:S9) (K:Se) (mg:Str->Option S2) (base:Sb) (j:Nat) (m:Str) (ta:TE) (t:TA):TE:=λσ H Q=>ta σ H λx H1=>∃a C dx fs f fd ps sp k,x= .ref a/\H1 a=some (.ins C dx fs)/\fs.lookup m=none/\Cls K C/\Jpv K C m f/\Ss P w K mg base CX0 k f fd ps sp/\k<=j/\Sbk K fd ps []/\
 t σ H1 λvs H2=>sp (x::vs) H2 Q E0
section
variable {X:Cx} {j:Nat} {m:Str} {apos pos:Pos} {e o:Expr} {es:List Expr} {ta:TE} {t:TA} {R:St->XK}
theorem Jtm {pl} (he:PE X o ta) (hr:San j X.A) (ha:PA X (e::es) t)
  (hst:starEach (e::es) X.env=(false,eval e X.env)::starEach es X.env:=by rfl) (hpl:(backTo pos (starEach es X.env)).any (·.1)=false:=by rfl)
  (ht:eval (.Call (.Attribute o m apos) (e::es) [] pos) X.env=(do
   let ov<-eval o X.env
   standAt apos.atName
   let (f,first)<-holding [ov] (getMethod ov m pl)
   callWith pos f first (backTo pos (starEach (e::es) X.env)) (backToKw pos (keywordEach [] X.env))):=by rfl):
  PE X (.Call (.Attribute o m apos) (e::es) [] pos) (Jyt X.prog X.w X.K X.mg X.base j m ta t):=by
 intro pins s σ H Q I h
 refine PySem.W.methodCall_KW (thn (he pins s σ H _ I h) λu s1 zq=>?_) ht
 obtain ⟨x,H1,I1,rx,a,C,dx,fs,f,fd,ps,sp,k,ex,ea,l,c,hm,G,hk,hb,q⟩:=zq
 subst ex
 obtain rfl:u=Value.ref a:=rx
 exact Jsv I1 ea c hm l (PySem.W.callWith_K I.ok.mod.kin hm.kp (thn (ha pos pins s1 σ H1 _ I1 q) λus s2 ⟨vs,H2,I2,r,q2⟩=>⟨I2.kIn,Jyj (vs:=.ref a::vs) G (hr.mono hk) hb .nil Jph I2 (.cons rfl r) (by rw [ybe];exact q2)⟩) hst hpl)
theorem Jug (he:PE X o ta) (hr:San j X.A)
  (ht:eval (.Call (.Attribute o m apos) [] [] pos) X.env=(do
   let ov<-eval o X.env
   standAt apos.atName
   let (f,first)<-holding [ov] (getMethod ov m pl)
   callWith pos f first (backTo pos (starEach [] X.env)) (backToKw pos (keywordEach [] X.env))):=by rfl):
  PE X (.Call (.Attribute o m apos) [] [] pos) (Jyt X.prog X.w X.K X.mg X.base j m ta Jwz):=by
 intro pins s σ H Q I h
 refine PySem.W.methodCall_KW (thn (he pins s σ H _ I h) λu s1 zq=>?_) ht
 obtain ⟨x,H1,I1,rx,a,C,dx,fs,f,fd,ps,sp,k,ex,ea,l,c,hm,G,hk,hb,q⟩:=zq
 subst ex
 obtain rfl:u=Value.ref a:=rx
 exact Jsv I1 ea c hm l (PySem.W.callWith_K0 I1.kIn hm.kp (Jyj (vs:=[.ref a]) G (hr.mono hk) hb .nil Jph I1 (.cons rfl .nil) q))
end
theorem Jno (h:n<=2000):n < S6:=Nat.lt_of_le_of_lt h (by decide)
theorem Jq7 (n) (h:n<=2000):n<=S6:=ybg (Jno h)
def tpB (t:S2):Bool:=[Value.type "bool",.type "str",.type "NoneType",.type "list",.type "tuple",.type "dict"].contains t
def Tm (K:Se) (H:Hp) (x:V):Prop:=(∃i:Int,x= .int i)\/∃t,TyX K H x t/\tpB t=true
def Jnc:V->Int->Int->Bool
 | .int i,lo,hi=>decide (lo<=i)&&decide (i<=hi)
 |_,_,_=>false
theorem Som {K} (h:tpB t=true):Sf K t (.type "int")=some (t== .type "bool")/\Sf K t (.type "bool")=some (t== .type "bool"):=by
 unfold tpB at h
 simp only [List.contains_cons,List.contains_nil,Bool.or_false,Bool.or_eq_true,beq_iff_eq] at h
 rcases h with rfl|rfl|rfl|rfl|rfl|rfl <;> exact ⟨rfl,rfl⟩
theorem Yet {K} (ty:TyX K H x t) (h:tpB t=true):∀lo hi,Jnc x lo hi=false:=by
 intro lo hi
 cases ty with
 |exc=>rfl
 |of ty=>
  cases ty <;> first|rfl|(exfalso;revert h;decide)
inductive Yfs (K:Se) (vs:List V) (H:Hp) (Q:VK) (z3:XK):Prop where
 |mk (x:V) (lo hi:Int) (_:vs= [x,.int lo,.int hi]) (_:Tm K H x) (_:Q (.bl (Jnc x lo hi)) H)
theorem Yfy {K} (h:Jrc x=true):Tm K H x:=by
 cases x with
 |non=>exact .inr ⟨_,.of .non,rfl⟩
 |bl b=>exact .inr ⟨_,.of (.bl b),rfl⟩
 |int i=>exact .inl ⟨i,rfl⟩
 |str z=>exact .inr ⟨_,.of (.str z),rfl⟩
 |_=>cases h
theorem TyX.same {K} (s:∀b o,x= .ref b->H b=some o->H' b=some o) (sx:∀b fs,H b=some (XD b fs)->H' b=some (XD b fs)) (ty:TyX K H x t):TyX K H' x t:=by
 cases ty with
 |exc q qd c=>exact .exc (s _ _ rfl q) (sx _ _ qd) c
 |of ty=>
  refine .of ?_
  cases ty with
  |non=>exact .non
  |bl b=>exact .bl b
  |int i=>exact .int i
  |str z=>exact .str z
  |flt z=>exact .flt z
  |lst e=>exact .lst (s _ _ rfl e)
  |frz e=>exact .frz (s _ _ rfl e)
  |tup e=>exact .tup (s _ _ rfl e)
  |dK e=>exact .dK (s _ _ rfl e)
  |dT e=>exact .dT (s _ _ rfl e)
  |ins e a b c d f=>exact .ins (s _ _ rfl e) a b c d f
theorem Tm.same {K} (s:Sj H H') (h:Tm K H x):Tm K H' x:=by
 rcases h with h|⟨t,ty,e⟩
 ·exact .inl h
 ·exact .inr ⟨t,ty.same (λb o _ q=>s b o q) (λb fs q=>s b _ q),e⟩
theorem Yek {K} {q} {xs} {g:TG} {tb:TS} {D:Jt9} {σ} {H} (Pv:Nat->St->Hp->Prop) (h0:Pv 0 σ H) (hl:(∀i σ H,i<=xs.length->Pv i σ H->Sv K H q xs)\/(∀i σ H,i<=xs.length->Pv i σ H->Su K H q xs))
  (hs:∀i x σ H,xs[i]?=some x->Pv i σ H->g x σ H λσ2 H2=>tb {D with nx:=Pv (i+1),ct:=Pv (i+1),bk:=D.nx} σ2 H2) (hd:∀σ H,Pv xs.length σ H->D.nx σ H):
  ((∃xs,Sv K H q xs)/\∃W:Nat->Nat->St->Hp->Prop,(∃m,W 0 m σ H)/\∀i m σ H,W i m σ H->
   ((Itl K q).stop i H/\D.nx σ H)\/((Itl K q).go i H/\∃N:St->Hp->Prop,(∀σ' H',N σ' H'->∃m',m' < m/\W (i+1) m' σ' H')/\∀x H',(Itl K q).yld i H x H'->g x σ H' λσ2 H2=>tb {D with nx:=N,ct:=N,bk:=D.nx} σ2 H2))\/
  ((∃xs,Su K H q xs)/\∃W:Nat->Nat->St->Hp->Prop,(∃m,W 0 m σ H)/\∀i m σ H,W i m σ H->
   ((Itt K q).stop i H/\D.nx σ H)\/((Itt K q).go i H/\∃N:St->Hp->Prop,(∀σ' H',N σ' H'->∃m',m' < m/\W (i+1) m' σ' H')/\∀x H',(Itt K q).yld i H x H'->g x σ H' λσ2 H2=>tb {D with nx:=N,ct:=N,bk:=D.nx} σ2 H2)):=by
 rcases hl with hl|hl
 ·exact .inl ⟨⟨xs,hl 0 σ H (yai _) h0⟩,Jtd Pv h0 hl hs hd⟩
 ·exact .inr ⟨⟨xs,hl 0 σ H (yai _) h0⟩,Yai Pv h0 hl hs hd⟩
theorem Jon {K} {R} {C W fI} {f} {i} {y} {σ} {H} {D} (c:Sam K C W fI) (n:NoAttr K C f) (hi:σ[i]?=some (some y))
  (k:∀e dx,H e=none->H dx=none->dx≠e->R σ (.ref C) (some e) (upd (upd (upd H dx (XD dx [(f,y)])) e (XO e C (some dx) true)) e (XO e C (some dx) false))):Ydg K R (Srt C (Jpx K f) (Jop (Soj i) Jwz)) D σ H:=⟨y,hi,Ybi (Q:=λv H1=>∃e C W fI dx,v= .ref e/\H1 e=some (XO e C (some dx) true)/\Sam K C W fI/\R σ (.ref C) (some e) (upd H1 e (XO e C (some dx) false))) c n λe dx h1 h2 h3=>⟨e,C,W,fI,dx,rfl,Sr,c,k e dx h1 h2 h3⟩⟩
theorem Yg {A:Prop} [Decidable c] (hc:c) (h:A):if decide c=true then A else B:=by grind
theorem Jxy {A:Prop} [Decidable c] (hc:¬c) (h:B):if decide c=true then A else B:=by grind
def Jo2:Expr->Bool
 | .Starred _ _=>true
 |_=>false
theorem Yc2 (e) (es) (env) (h:Jo2 e=false):starEach (e::es) env=(false,eval e env)::starEach es env:=by
 cases e <;> first|rfl|cases h
theorem Jqa (ha:PE X e te) (hr:PA X es t) (hs:Jo2 e=false:=by rfl):PA X (e::es) (Jop te t):=Sk ha hr (Yc2 e es X.env hs)
theorem pa4 (h0:PE X e0 t0) (h1:PE X e1 t1) (h2:PE X e2 t2) (h3:PE X e3 t3) (s0:Jo2 e0=false:=by rfl) (s1:Jo2 e1=false:=by rfl) (s2:Jo2 e2=false:=by rfl) (s3:Jo2 e3=false:=by rfl):PA X [e0,e1,e2,e3] (Jop t0 (Jop t1 (Jop t2 (Jop t3 (Jwz))))):=Jqa h0 (Jqa h1 (Jqa h2 (Jqa h3 (Sm) s3) s2) s1) s0
theorem pa5 (h0:PE X e0 t0) (h1:PE X e1 t1) (h2:PE X e2 t2) (h3:PE X e3 t3) (h4:PE X e4 t4) (s0:Jo2 e0=false:=by rfl) (s1:Jo2 e1=false:=by rfl) (s2:Jo2 e2=false:=by rfl) (s3:Jo2 e3=false:=by rfl) (s4:Jo2 e4=false:=by rfl):PA X [e0,e1,e2,e3,e4] (Jop t0 (Jop t1 (Jop t2 (Jop t3 (Jop t4 (Jwz)))))):=Jqa h0 (Jqa h1 (Jqa h2 (Jqa h3 (Jqa h4 (Sm) s4) s3) s2) s1) s0
theorem pa6 (h0:PE X e0 t0) (h1:PE X e1 t1) (h2:PE X e2 t2) (h3:PE X e3 t3) (h4:PE X e4 t4) (h5:PE X e5 t5) (s0:Jo2 e0=false:=by rfl) (s1:Jo2 e1=false:=by rfl) (s2:Jo2 e2=false:=by rfl) (s3:Jo2 e3=false:=by rfl) (s4:Jo2 e4=false:=by rfl) (s5:Jo2 e5=false:=by rfl):PA X [e0,e1,e2,e3,e4,e5] (Jop t0 (Jop t1 (Jop t2 (Jop t3 (Jop t4 (Jop t5 (Jwz))))))):=Jqa h0 (Jqa h1 (Jqa h2 (Jqa h3 (Jqa h4 (Jqa h5 (Sm) s5) s4) s3) s2) s1) s0
theorem pa8 (h0:PE X e0 t0) (h1:PE X e1 t1) (h2:PE X e2 t2) (h3:PE X e3 t3) (h4:PE X e4 t4) (h5:PE X e5 t5) (h6:PE X e6 t6) (h7:PE X e7 t7) (s0:Jo2 e0=false:=by rfl) (s1:Jo2 e1=false:=by rfl) (s2:Jo2 e2=false:=by rfl) (s3:Jo2 e3=false:=by rfl) (s4:Jo2 e4=false:=by rfl) (s5:Jo2 e5=false:=by rfl) (s6:Jo2 e6=false:=by rfl) (s7:Jo2 e7=false:=by rfl):PA X [e0,e1,e2,e3,e4,e5,e6,e7] (Jop t0 (Jop t1 (Jop t2 (Jop t3 (Jop t4 (Jop t5 (Jop t6 (Jop t7 (Jwz))))))))):=Jqa h0 (Jqa h1 (Jqa h2 (Jqa h3 (Jqa h4 (Jqa h5 (Jqa h6 (Jqa h7 (Sm) s7) s6) s5) s4) s3) s2) s1) s0
end L2
namespace L2
open PySem PySem.Spec PyProof.Rows PySem.W
section
variable {X:Cx}
theorem Jza {K} (h:X.K=K):IxR X (Sr7 K):=by subst h;exact Jne
theorem Jog {K} (h:X.K=K):IxR X (Sr8 K):=by subst h;exact Jn9
theorem Jx7 {K} (h:X.K=K):Jpd X (.builtin "isinstance") (Sr6 K):=by subst h;exact Jo7
end
section
variable {prog:S7} {w:S9} {A:Sa} {E:S2->S3->Prop} {s:S3}
theorem Sln (hne:t≠it):∀n i s Q,s.heap.IsListIter it t i->s.heap.IsList t items->i+n<=items.size->
  (∀h',h'.IsListIter it t (i+n)->yba it s.heap h'->Q ((items.toList.drop i).take n) {s with heap:=h'})->Sc (model prog w) A (draw (.ref it) n) Q E s
 |0,i,s,Q,hit,_,_,hQ=>by
  show Sc _ _ (pure []) Q E s
  exact S5 (by simpa using hQ s.heap hit (yba.refl ..))
 |n+1,i,s,Q,hit,ht,hle,hQ=>by
  have hlt:i < items.size:=by omega
  refine S4 (wpAny_pyNext_list_item hit ht (x:=items[i]) (by simp [hlt]) λh1 hit1 hs1=>S4 (wpAny_holding (Sln hne n (i+1) _ _ hit1 (ht.extBut hs1.extBut hne) (by omega) λh2 hit2 hs2=>S5 ?_)))
  have hd:items.toList.drop i=items[i]::items.toList.drop (i+1):=by simp [List.drop_eq_getElem_cons,hlt]
  have:=hQ h2 (by rw [show i+(n+1)=i+1+n by omega];exact hit2) (hs1.trans hs2)
  rw [hd] at this
  exact this
theorem Yfz (hh:A.handled=none) (ht:s.heap.IsList t items) (hn:targets.length=items.size) (hstar:targets.findIdx? (·.1)=none)
  (h:∀h',Heap.ExtBut s.heap.objs.size s.heap h'->Sc (model prog w) A (assignInOrder (targets.map (·.2)) items.toList) Q E {s with heap:=h'}):Sc (model prog w) A (unpack (.ref t) targets) Q E s:=by
 have hlt:t≠s.heap.objs.size:=by obtain ⟨o,ho,_⟩:=ht;exact yo (yi ho)
 unfold unpack
 rw [hn,hstar]
 refine S4 (wpAny_holding (S4 (S4 (wpAny_specialOf ht.typeIs slot_list_iter.lookup (S5 (S4 (wpAny_holding (wpAny_pyIter_list ht (S4 (wpAny_holding (Sln hlt items.size 0 _ _ ⟨_,yq _ rfl,rfl,rfl⟩ (ht.push _) (by omega) λh1 hit1 hs1=>?_)))))))))))
 have hall:List.take items.size (List.drop 0 items.toList)=items.toList:=by
  rw [List.drop_zero];exact yac (by simp)
 rw [hall]
 rw [if_neg (by simp)]
 exact S4 (wpAny_holding (wpAny_pyNext_list_end hh hit1 ((ht.push _).extBut hs1.extBut hlt) (by simp) λh2 he2=>S5 (h h2 λb o hb e=>he2 b o hb (hs1.extBut b o hb (yl _ e)))))
end
section
variable {X:Cx} {pos:Pos}
inductive Sv7 (K:Se) (n:Nat) (t:TGs) (v:V) (σ:St) (H:Hp) (Q:(St->Hp->Prop)):Prop where
 |mk (a:_) (xs:_) (_:v= .ref a) (_:Sv K H a xs) (_:xs.length=n) (_:t xs σ H Q)
theorem Snk {k} (hc:X.calm=true) (h:PGs X es t)
  (hn:(assignEach es X.env).length=n:=by rfl) (hst:(assignEach es X.env).findIdx? (·.1)=none:=by rfl):PG X (.Tuple es k pos) (Sv7 X.K n t):=by
 rintro pins s σ H v u Q I r ⟨a,xs,e1,hq,hl,hw⟩
 subst e1
 cases r
 obtain ⟨its,rv,ht,hz⟩:=I.list hq
 refine S4 (wpAny_standAt (Yfz (I.ok.hd hc) ht.isList (by simp [hn,<-hl,rv.length]) hst λh' hx=>?_))
 have I1:Sn X pins σ H {s with heap:=h'}:=I.kept λb o e=>hx b o (yo (yi e)) e
 exact h pins _ σ H xs _ Q I1 (by simpa using rv) hw
end
section
variable {P:S7} {w:S9} {K:Se} {mg:Str->Option S2} {base:Sb}
end
section
variable {X:Cx} {x:Str} {st:Stmt} {ps:List Str} {f:S1} {fd:S8} {sp:Sp} {k j:Nat} {p pos:Pos} {e:Expr} {es:List Expr} {t:TA} {er:S1}
end
def stU (acc:List Str) (z:Str):List Str:=if acc.contains z=true then acc else acc++ [z]
def uq (zs:List Str):List Str:=zs.foldl stU []
def inU (zs:List Str):Key->Bool
 | .inl _=>false
 | .inr z=>(uq zs).contains z
theorem Yb3 (zs) (z):uq (zs++ [z])=stU (uq zs) z:=by unfold uq;rw [List.foldl_append];rfl
theorem Sot (zs):(uq zs).length<=zs.length:=by
 have h:∀(l acc:List Str),(l.foldl stU acc).length<=acc.length+l.length:=by
  intro l
  induction l with
  |nil=>intro acc;simp
  |cons z r ih=>
   intro acc
   rw [List.foldl_cons]
   have h1:=ih (stU acc z)
   have h2:(stU acc z).length<=acc.length+1:=by unfold stU;split <;> simp
   rw [yal]
   omega
 simpa [uq] using h zs []
theorem Y7 (h:zs.Nodup):uq zs=zs:=by
 have g:∀(l acc:List Str),(acc++l).Nodup->l.foldl stU acc=acc++l:=by
  intro l
  induction l with
  |nil=>intro acc _;simp
  |cons z r ih=>
   intro acc hn
   rw [List.foldl_cons]
   have hz:acc.contains z=false:=by
    cases e:acc.contains z with
    |false=>rfl
    |true=>
     exact absurd rfl ((List.nodup_append.mp hn).2.2 z (List.contains_iff_mem.mp e) z yak)
   have e:stU acc z=acc++ [z]:=by unfold stU;rw [hz];rfl
   rw [e,ih (acc++ [z]) (by simpa using hn)]
   simp
 simpa [uq] using g zs [] (by simpa using h)
theorem Ycw (zs) (z) (k):inU (zs++ [z]) k=(inU zs k||decide (k= .inr z)):=by
 cases k with
 |inl i=>simp [inU]
 |inr y=>
  show (uq (zs++ [z])).contains y=((uq zs).contains y||decide ((.inr y:Key)= .inr z))
  rw [Yb3]
  unfold stU
  split
  ·rename_i hc
   by_cases h:y=z
   ·subst h;rw [hc];simp
   ·simp [h]
  ·rw [Bool.eq_iff_iff]
   simp [List.contains_iff_mem]
theorem Yg0 (zs) (z):(uq (zs++ [z])).length=if inU zs (.inr z)=true then (uq zs).length else (uq zs).length+1:=by
 rw [Yb3]
 show (stU (uq zs) z).length=if (uq zs).contains z=true then _ else _
 unfold stU
 split <;> simp
section
variable {prog:S7} {w:S9} {A:Sa} {R:Result->S3->Prop} {I:S1} {fp wr:List S1} {n:Nat} {P:Nat->S2->Prop} {St:Nat->Sb->Prop}
theorem Jtq {h h':Sb} (hS:h.SetOf (Joy prog w) a S m) (k:∀o,h.get? a=some o->h'.get? a=some o) (e:∀x,S x=T x) (en:m=m'):h'.SetOf (Joy prog w) a T m':=by
 obtain rfl:S=T:=funext e
 subst en
 obtain ⟨o,es,ep,t,ho,rest⟩:=hS
 exact ⟨o,es,ep,t,k o ho,rest⟩
theorem Ya5 (W:Walks prog w A.in1 I fp wr n P St) (S) (hSf:S∉fp) (zs) (hn:zs.length=n) (hP:∀i v,P i v->∃z t,zs[i]?=some z/\v= .str z t) (hb:n+1 < scanBound):
  ∀k i s,n - i=k->i<=n->St i s.heap->s.heap.SetOf (Joy prog w) S (inU (zs.take i)) (uq (zs.take i)).length->
   (∀h' tk,(∀b o,b≠S->b∉wr->s.heap.get? b=some o->h'.get? b=some o)->h'.SetOf (Joy prog w) S (inU zs) (uq zs).length->R (.ok (.ret .none)) {s with heap:=h',toks:=tk})->
   codeAny (model prog w) A (.builtin "set.update.loop" ⟨[.ref S,.ref I],[]⟩) R s:=by
 have hSw:=λh=>hSf (W.sub _ h)
 intro k
 induction k with
 |zero=>
  intro i s hk hi hst hS hR
  obtain rfl:i=n:=by omega
  refine codeAny_builtin PyProof.Rows.F.entry_set_update_loop ?_
  refine S4 (W.done s _ _ hst λh' tk km=>?_)
  refine S5 (hR h' tk (λb o _ nb e=>km b o nb e) (Jtq hS (λo e=>km S o hSw e) (λx=>?_) ?_))
  ·rw [yac (by omega)]
  ·rw [yac (by omega)]
 |succ k ih=>
  intro i s hk hi hst hS hR
  have hlt:i < n:=by omega
  refine codeAny_builtin PyProof.Rows.F.entry_set_update_loop ?_
  refine S4 (W.item i s _ _ hlt hst λv h1 tk hv hst1 km=>?_)
  obtain ⟨z,t,hz,rfl⟩:=hP i v hv
  have et:zs.take (i+1)=zs.take i++ [z]:=by rw [yag,hz];rfl
  have room:(uq (zs.take i)).length+1 < scanBound:=by
   have h1:=Sot (zs.take i)
   rw [yy] at h1
   omega
  refine S4 (wpAny_holding ?_)
  refine wpAny_holding (S4 ((Joy prog w).pyHash (Juu _ _ _ _) ?_))
  refine wpAny_setAddHashed_of (Juu _ _ _ _) rfl (Jtq hS (λo e=>km S o hSw e) (λ_=>rfl) rfl) room λh2 sb hS2=>S5 ⟨plainId_quiet PyProof.Rows.F.plain_set_update_loop _,ih (i+1) _ (by omega) hlt (W.frame _ _ _ hst1 λb hbf o e=>?_) (Jtq hS2 (λo e=>e) (λx=>?_) ?_) λh3 tk3 k3 hS3=>?_⟩
  ·show h2.get? b=some o
   rw [sb.2 b (λq=>hSf (by rw [<-q];exact hbf))]
   exact e
  ·rw [et,Ycw]
  ·rw [et,Yg0]
  ·exact hR h3 tk3 (λb o nS nw e=>k3 b o nS nw (by show h2.get? b=some o;rw [sb.2 b nS];exact km b o nw e)) hS3
end
section
variable {prog:S7} {w:S9} {A:Sa} {E:S2->S3->Prop} {s:S3}
set_option maxRecDepth 100000 in
set_option maxHeartbeats 3200000 in
theorem Ybx {l:S1} {items:Array S2} {zs:List Str} {Q:S2->S3->Prop} (hh:A.handled=none) (hl:s.heap.IsList l items) (hz:zs.length=items.size) (hi:∀(i:Nat) (v:S2),items[i]?=some v->∃z t,zs[i]?=some z/\v= .str z t) (hb:items.size+1 < scanBound)
  (h:∀(h':Sb) (tk:Nat),h'.SetOf (Joy prog w) s.heap.objs.size (inU zs) (uq zs).length->(∀b o,s.heap.get? b=some o->h'.get? b=some o)->Q (.ref s.heap.objs.size) {s with heap:=h',toks:=tk}):Sc (model prog w) A (call (.type "set") [.ref l]) Q E s:=by
 obtain ⟨cc,tl,hmro⟩:=F.called_set.mro
 have hmade:=F.called_set.made
 have hsub:=F.called_set.sub
 refine wpAny_call (codeAny_of_tree ?_)
 show Sc _ _ (callAny (.type "set") _) _ _ _
 refine S5 ⟨Code.quiet_builtin _ (by decide +kernel),codeAny_builtin F.entry_type_call ?_⟩
 rw [Around.under_plain (weight_type_call_type "set" [.ref l] []) rfl]
 have g1:=F.called_set.notType
 have g2:=F.called_set.canCreate
 have g3:=F.typeCall_set_1 (.ref l)
 repeat (any_goals (first|assumption|wp_step))
 refine codeAny_mono (code_set_new_1 (.ref l) (E:=E) (Q₁:=λobj s1=>∃led:Bool,obj= .ref s.heap.objs.size/\s1={s with heap:=s.heap.push {cls:=.type "set",dict:=none,data:=.set #[] 0 (.fresh 0 0 led)}}) λled=>⟨led,rfl,rfl⟩) λr s1 hr=>?_
 cases r with
 |error e=>exact hr
 |ok fl=>
  cases fl with
  |ret obj=>
   obtain ⟨led,rfl,rfl⟩:=hr
   have hS:(s.heap.push {cls:=.type "set",dict:=none,data:=.set #[] 0 (.fresh 0 0 led)}).get? s.heap.objs.size=some {cls:=.type "set",dict:=none,data:=.set #[] 0 (.fresh 0 0 led)}:=yq _ rfl
   have hT:Shared.TypeIs {s with heap:=s.heap.push {cls:=.type "set",dict:=none,data:=.set #[] 0 (.fresh 0 0 led)}} (.ref s.heap.objs.size) "set" :=⟨_,hS,rfl⟩
   have g4:=F.called_set.init.lookup
   have g5:=F.called_set.init.bind (.ref s.heap.objs.size)
   repeat (any_goals (first|assumption|wp_step))
   refine codeAny_mono (codeAny_call_builtin (R:=wants (λr s2=>r= .none/\∃h' tk,s2={s with heap:=h',toks:=tk}/\h'.SetOf (Joy prog w) s.heap.objs.size (inU zs) (uq zs).length/\(∀b o,s.heap.get? b=some o->h'.get? b=some o)) E) F.called_set.init.plain F.entry_set_init (check_set_init_1 hT ?_)) λr2 s2 hr2=>?_
   ·obtain ⟨⟨oc,od,oda,osl⟩,hol,hcl,nl,hdl⟩:=hl
    simp only at hcl hdl
    subst hcl hdl
    have hol':(s.heap.push {cls:=.type "set",dict:=none,data:=.set #[] 0 (.fresh 0 0 led)}).get? l=some {cls:=.type "list",dict:=od,data:=.seq items nl,slots:=osl}:=yl _ hol
    have g6:=F.sub_list_set
    have g7:=F.sub_list_frozenset
    have g8:(Value.type "list" ==Value.type "dict")=false:=by decide
    have hl1:(s.heap.push {cls:=.type "set",dict:=none,data:=.set #[] 0 (.fresh 0 0 led)}).IsList l items:=⟨_,hol',rfl,nl,rfl⟩
    unfold Builtin.«set.__init__» noKeywords Builtin.Frozenset.updateFrom
    generalize hPI:pyIter=PI
    wp_walk
    subst hPI
    refine wpAny_pyIter_list hl1 (S4 (wpAny_runValue ?_))
    have lS:l < s.heap.objs.size:=yi hol
    have h3:A.in1.in1.in1.handled=none:=by simp [hh]
    have nI:l≠(s.heap.push {cls:=.type "set",dict:=none,data:=.set #[] 0 (.fresh 0 0 led)}).objs.size:=by rw [yao];exact yo (ybx lS)
    have nS:s.heap.objs.size∉ [(s.heap.push {cls:=.type "set",dict:=none,data:=.set #[] 0 (.fresh 0 0 led)}).objs.size,l]:=by
     rw [yao]
     simp only [ym,yad,or_false,not_or]
     exact ⟨yo (ybp _),ybd lS⟩
    refine Ya5 (Walks.list h3 _ l nI items) s.heap.objs.size nS zs hz hi hb (items.size - 0) 0 _ (by omega) (yai _) ⟨⟨_,yq _ rfl,rfl,rfl⟩,hl1.push _⟩ ?S0 ?R0
    case S0=>
     have q:((s.heap.push {cls:=.type "set",dict:=none,data:=.set #[] 0 (.fresh 0 0 led)}).push {cls:=.type "list_iterator",data:=.fields #[.ref l,.int 0 0]}).get? s.heap.objs.size=some {cls:=.type "set",dict:=none,data:=.set #[] 0 (.fresh 0 0 led)}:=yl _ hS
     refine ⟨_,#[],0,_,q,⟨rfl,rfl,rfl⟩,rfl,λe he=>by simp at he,λx=>?_,by decide,by rfl,rfl⟩
     cases x <;> simp [inU,uq]
    case R0=>
    intro h' tk km hS'
    show Sc _ _ _ _ _ _
    refine S5 ?_
    show Sc _ _ (ret Value.none) _ _ _
    refine S5 ⟨rfl,h',tk,rfl,hS',λb o e=>?_⟩
    have lb:b < s.heap.objs.size:=yi e
    refine km b o (yo lb) ?_ (yl _ (yl _ e))
    rw [yao]
    simp only [ym,yad,or_false]
    exact yo (ybx lb)
   ·cases r2 with
    |error e=>exact hr2
    |ok fl2=>
     cases fl2 with
     |ret r=>
      obtain ⟨rfl,h',tk,rfl,hS',hk'⟩:=hr2
      repeat (any_goals (first|assumption|wp_step))
      exact h _ _ hS' hk'
     |_=>exact hr2.elim
  |_=>exact hr.elim
end
def TxS (P:S7) (w:S9) (a:S1) (zs:List Str):HO:=.ext λh=>h.SetOf (Joy P w) a (inU zs) (uq zs).length
theorem Sop (hS:h.SetOf (Joy P w) a (inU zs) (uq zs).length):Sb6 P w H h a (TxS P w a zs):=
 ⟨hS,(let ⟨o,_,_,_,ho,_⟩:=hS;⟨o,ho⟩),λ_ _ p k=>Jtq p k (λ_=>rfl) rfl⟩
section
variable {X:Cx}
theorem Jvm (hc:X.calm=true):Jpd X (.type "set") (λxs H Q=>∃(l:S1) (zs:List Str),xs= [.ref l]/\Sv X.K H l (zs.map V.str)/\zs.length<=2000/\∀a,H a=none->Q (.ref a) (upd H a (TxS X.prog X.w a zs))):=by
 rintro pins s σ H xs us Q I r ⟨l,zs,rfl,hq,hz,q⟩
 obtain ⟨u,rfl,ru⟩:=Jqg r
 obtain rfl:u=Value.ref l:=ru
 obtain ⟨its,rv,pl,_⟩:=I.list hq
 have hlen:=rv.length
 rw [yf] at hlen
 refine Ybx (I.ok.hd hc) pl.isList (by simpa using hlen) (λi v hv=>?_) (by simp only [yn];unfold scanBound;omega) λh' tk hS kk=>⟨.ref s.heap.objs.size,_,I.laid kk (yk _) (Sop hS),rfl,q _ (I.hok.fresh (yk _))⟩
 ·have hv':=by simpa using hv
  have hlt:i < zs.length:=by have:=(yj.mp hv').1;omega
  obtain ⟨u,hu,ru⟩:=rv.get (by rw [yg,yh hlt];rfl)
  rw [hv'] at hu
  cases hu
  obtain ⟨t,rfl⟩:=ru
  exact ⟨zs[i],t,yh hlt,rfl⟩
theorem Jvl:Jpd X (.builtin "len") (λxs H Q=>∃(a:S1) (zs:List Str),xs= [.ref a]/\H a=some (TxS X.prog X.w a zs)/\Q (.int (uq zs).length) H):=by
 rintro pins s σ H xs us Q I r ⟨a,zs,rfl,ha,q⟩
 obtain ⟨u,rfl,ru⟩:=Jqg r
 obtain rfl:u=Value.ref a:=ru
 obtain ⟨o,es,ep,t,ho,hex,hd,_,_,hb,hf,hn⟩:=(I.hok a _ ha).1
 refine call_len_set ho hex hd hf (by unfold scanBound at hb;omega) ?_
 rw [hn]
 exact ⟨.int _,H,I.tok _,⟨_,rfl⟩,q⟩
end
theorem Jou:bootBuiltins "sum" =some (.builtin "sum"):=by decide +kernel
theorem Smr:bootBuiltins "set" =some (.type "set"):=by decide +kernel
theorem Jtc:bootBuiltins "enumerate" =some (.type "enumerate"):=by decide +kernel
def Sml (ns:List Int):Prop:=ns.length<=2000/\∀n∈ns,-1000000<=n/\n<=1000000
theorem Jvf (ns:List Int):∀i,i<=ns.length->preSum (λj=>ns.getD j 0) i=(ns.take i).sum
 |0,_=>by simp [preSum]
 |i+1,h=>by
  have ih:=Jvf ns i (by omega)
  have hlt:i < ns.length:=by omega
  have e:ns.take (i+1)=ns.take i++ [ns[i]]:=by rw [yag,yh hlt];rfl
  have e2:ns.getD i 0=ns[i]:=by simp [yh hlt]
  rw [e,List.sum_append]
  simp only [yay,List.sum_nil]
  show preSum (λj=>ns.getD j 0) i+ns.getD i 0=_
  omega
theorem Jwa:∀(l:List Int),(∀n∈l,-1000000<=n/\n<=1000000)-> -1000000*(l.length:Int)<=l.sum/\l.sum<=1000000*(l.length:Int)
 | [],_=>by simp
 |n::r,h=>by
  have h1:=h n yak
  have h2:=Jwa r λm hm=>h m (yr _ hm)
  rw [yay,yal]
  constructor <;> omega
section
variable {X:Cx}
inductive Srb (K:Se) (xs:List V) (H:Hp) (Q:VK):Prop where
 |mk (a:S1) (ns:List Int) (_:xs= [.ref a]) (_:(Sv K H a (ns.map V.int)\/Su K H a (ns.map V.int))) (_:Sml ns) (_:Q (.int ns.sum) H)
theorem Jo3 (hc:X.calm=true):Jpd X (.builtin "sum") (Srb X.K):=by
 rintro pins s σ H xs us Q I r ⟨a,ns,rfl,hq,hs,q⟩
 obtain ⟨u,rfl,ru⟩:=Jqg r
 obtain rfl:u=Value.ref a:=ru
 have fit:∀j,j < ns.length->InLong ((λj=>ns.getD j 0) j)/\InLong (preSum (λj=>ns.getD j 0) (j+1)):=λj hj=>by
  have e2:ns.getD j 0=ns[j]:=by simp [yh hj]
  have b1:=hs.2 _ (yax hj)
  have b2:=Jwa (ns.take (j+1)) λm hm=>hs.2 m (List.mem_of_mem_take hm)
  have b3:(ns.take (j+1)).length<=2000:=by have:=hs.1;rw [yy];omega
  rw [Jvf ns (j+1) (by omega)]
  refine ⟨?_,?_⟩
  ·show InLong (ns.getD j 0)
   constructor <;> omega
  ·unfold InLong
   constructor <;> omega
 have fin:∀{its:List S2} (rv:Sa0 (ns.map V.int) its) (i:Nat) v,its.toArray[i]?=some v->∃t,v= .int ((λj=>ns.getD j 0) i) t:=λ{its} rv i v hv=>by
  have hv':=by simpa using hv
  have hl:=rv.length
  rw [yf] at hl
  have hi:i < ns.length:=by have:=(yj.mp hv').1;omega
  obtain ⟨u',hu',ru'⟩:=rv.get (by rw [yg,yh hi];rfl)
  rw [hv'] at hu'
  cases hu'
  obtain ⟨t,rfl⟩:=ru'
  exact ⟨t,by simp [yh hi]⟩
 rcases hq with hq|hq
 ·obtain ⟨its,rv,pl,_⟩:=I.list hq
  have hl:=rv.length
  rw [yf] at hl
  have ne:a≠s.heap.objs.size:=by obtain ⟨o,_,e,_⟩:=pl;exact yo (yi e)
  refine call_sum_walk (wpAny_pyIter_list pl.isList ⟨s.heap.objs.size,_,_,its.toArray.size,_,_,λj=>ns.getD j 0,rfl,Walks.list (A:=X.A.in1) (I.ok.hd hc) s.heap.objs.size a ne its.toArray,⟨⟨_,yq _ rfl,rfl,rfl⟩,pl.isList.push _⟩,λb hb=>?_,fin rv,λj hj=>fit j (by simp only [yn] at hj;omega),λh' tk t' k=>?_⟩)
  ·rw [yao]
   simp only [ym,yad,or_false] at hb
   rcases hb with rfl|rfl
   ·exact ybp _
   ·obtain ⟨o,_,e,_⟩:=pl
    exact ybx (yi e)
  ·have e:preSum (λj=>ns.getD j 0) its.toArray.size=ns.sum:=by
    rw [Jvf ns _ (by simp only [yn];omega),yac (by simp only [yn];omega)]
   rw [e]
   exact ⟨.int _,H,I.kept λb o e=>k b o (λz=>by
    have z':=by simpa using z
    exact absurd (yi e) (by rw [z'];exact yar _)) (yl _ e),⟨_,rfl⟩,q⟩
 ·obtain ⟨its,rv,pt,_⟩:=I.tuple hq
  have hl:=rv.length
  rw [yf] at hl
  have ne:a≠s.heap.objs.size:=by obtain ⟨o,e,_⟩:=pt;exact yo (yi e)
  refine call_sum_walk (wpAny_pyIter_tuple (pt) ⟨s.heap.objs.size,_,_,its.toArray.size,_,_,λj=>ns.getD j 0,rfl,Walks.tuple (A:=X.A.in1) (I.ok.hd hc) s.heap.objs.size a ne its.toArray,⟨⟨_,yq _ rfl,rfl,rfl⟩,Heap.IsTuple.push pt _⟩,λb hb=>?_,fin rv,λj hj=>fit j (by simp only [yn] at hj;omega),λh' tk t' k=>?_⟩)
  ·rw [yao]
   simp only [ym,yad,or_false] at hb
   rcases hb with rfl|rfl
   ·exact ybp _
   ·obtain ⟨o,e,_⟩:=pt
    exact ybx (yi e)
  ·have e:preSum (λj=>ns.getD j 0) its.toArray.size=ns.sum:=by
    rw [Jvf ns _ (by simp only [yn];omega),yac (by simp only [yn];omega)]
   rw [e]
   exact ⟨.int _,H,I.kept λb o e=>k b o (λz=>by
    have z':=by simpa using z
    exact absurd (yi e) (by rw [z'];exact yar _)) (yl _ e),⟨_,rfl⟩,q⟩
end
def ItE (K:Se) (a:S1):It:=⟨λi H=>∃xs x,Sv K H a xs/\xs[i]?=some x,
 λi H x H'=>∃T u,H T=none/\x= .ref T/\(∀xs,Sv K H a xs->xs[i]?=some u)/\H'=upd H T (.tup [.int i,u]),
 λi H=>∃xs,Sv K H a xs/\i=xs.length⟩
def Shn (e it l:S1) (i:Nat) (h:Sb):Prop:=(∃old,IsEnum h e it i old)/\h.IsListIter it l i
theorem Shn.obj (st:Shn e it l i h):∀b∈ [e,it],∃o,h.get? b=some o/\∀v,o.data≠ .cell v:=λb hb=>by
 obtain ⟨⟨old,h1⟩,⟨o4,h4,_,d4⟩⟩:=st
 simp only [ym,yad,or_false] at hb
 rcases hb with rfl|rfl
 ·exact ⟨_,h1,λv z=>by cases z⟩
 ·exact ⟨o4,h4,λv z=>by rw [d4] at z;cases z⟩
theorem Ye2 {K} (e it l) (n1:e≠it) (n2:l≠e) (n3:l≠it):
  Turn P w K (.Tuple elts kt pt) (ItE K l) [e,it] e (Shn e it l) where
 mem:=by simp
 obj:=λi h st=>st.obj
 keep:=λi h h' st k=>by
  obtain ⟨⟨old,h1⟩,h2⟩:=st
  exact ⟨⟨old,k e (by simp) _ h1⟩,h2.at λo q=>k it (by simp) o q⟩
 item:=by
  intro X hP hw hK hc i pins s σ H E I hf st hg
  subst hP hw hK
  obtain ⟨xs,x,q1,hx⟩:=hg
  obtain ⟨its,rv,p1,_⟩:=I.list q1
  obtain ⟨u,hu,ru⟩:=rv.get hx
  have W:=WalksT.enumerate (prog:=X.prog) (w:=X.w) (I.ok.hd hc) e it l n1 n2 n3 its.toArray
  obtain ⟨s1,s2⟩:=st
  have li:=(yj.mp hu).1
  refine W.item i s _ _ (by simp only [yn];omega) ⟨s1,s2,p1.isList⟩ λT vals h' tk hP fT tT mid kk=>⟨_,rfl,W.go elts kt pt i T _ _ _ mid λh'' st'' kk2=>?_⟩
  obtain ⟨t,a,ha,rfl⟩:=hP
  have ea:=by simpa [hu] using ha.symm
  subst ea
  obtain ⟨t1,t2,_⟩:=st''
  have kT:h''.IsTuple T #[.int i t,a]:=by
   obtain ⟨o,q,r⟩:=tT
   exact ⟨o,kk2 T o (W.apart i T h' mid) q,r⟩
  refine ⟨.ref T,upd H T (.tup [.int i,x]),I.turnTup hf (λc o hc q=>kk2 c o hc (kk c o hc q)) fT ⟨(show 2<=S6 by decide),[.int i t,a],.cons ⟨t,rfl⟩ (.cons ru .nil),kT⟩,rfl,⟨T,x,I.hok.fresh fT,rfl,λxs' hq=>by rw [I.list_inj hq q1];exact hx,rfl⟩,⟨t1,t2⟩,λc hc=>?_⟩
  rw [Sz (λw'=>?_)]
  ·exact ((hf c hc).1)
  ·subst w'
   obtain ⟨o,q,_⟩:=Shn.obj (⟨s1,s2⟩) c hc
   exact absurd (yi q) (Nat.not_lt.mpr fT)
 done:=by
  intro X hP hw hK hc i pins s σ H E I hf st hg
  subst hP hw hK
  obtain ⟨xs,q1,hi⟩:=hg
  obtain ⟨its,rv,p1,_⟩:=I.list q1
  obtain ⟨s1,s2⟩:=st
  have e1:=rv.length
  have ei:i=its.toArray.size:=by simp only [yn];omega
  subst ei
  exact (WalksT.enumerate (I.ok.hd hc) e it l n1 n2 n3 its.toArray).done s _ _ ⟨s1,s2,p1.isList⟩ λh' tk kk=>⟨rfl,I.turnMany hf λc o hc q=>kk c o hc q⟩
 self:=λ_ _ _ _ _ st h=>let ⟨_,q⟩:=st.1;wpAny_pyIter_enum q h
def Sv9 (K:Se) (ta:TA):TI:=λσ H R=>ta σ H λvs H1=>∃a,vs= [.ref a]/\(∃xs,Sv K H1 a xs)/\R (ItE K a) H1
theorem Yat (hg:Gl X "enumerate") (hm:X.mg "enumerate" =none) (ha:PA X [a] ta) (hs:starEach [a] X.env= [(false,eval a X.env)]:=by rfl):
  PI X (.Tuple elts kt pt) (.Call (.Name "enumerate" p) [a] [] pos) (Sv9 X.K ta):=by
 intro pins s σ H R I h
 refine Call_ (Jqo I hg hm Jtc (PyProof.Rows.callWith_type1 (thn (ha pos pins s σ H _ I h) λus s1 zq=>?_) (by rw [hs];rfl) rfl))
 obtain ⟨vs,H1,I1,r1,q1⟩:=zq
 obtain ⟨l,rfl,⟨xs,q1⟩,q⟩:=q1
 obtain ⟨u,rfl,r2⟩:=Jqg r1
 obtain rfl:u=Value.ref l:=r2
 obtain ⟨its,rv,p1,_⟩:=I1.list q1
 have a1:l < s1.heap.objs.size:=by obtain ⟨o,n,e,_⟩:=p1;exact yi e
 refine call_enumerate_list p1.isList λh' z1 z2 z3 kk=>?_
 have I2:Sn X pins σ H1 {s1 with heap:=h'}:=I1.kept kk
 refine wpAny_pyIter_enum z1 ⟨_,_,_,_,H1,rfl,I2,Ye2 (s1.heap.objs.size+1) s1.heap.objs.size l (Nat.succ_ne_self _) (yo (ybx a1)) (yo a1),⟨⟨_,z1⟩,z2⟩,λc hc=>?_,q⟩
 have hc':s1.heap.objs.size<=c:=by
  simp only [ym,yad,or_false] at hc
  rcases hc with rfl|rfl
  ·exact Nat.le_succ _
  ·exact yk _
 exact I1.fpOk hc' (I1.hok.fresh hc')
section
variable {prog:S7} {w:S9} {A:Sa} {E:S2->S3->Prop} {s:S3}
theorem Jyv {x} {Q} (hit:s.heap.IsTupleIter it t i) (ht:s.heap.IsTuple t items) (hx:items[i]?=some x)
  (hQ:∀h',h'.IsTupleIter it t (i+1)->yba it s.heap h'->Q x {s with heap:=h'}):Sc (model prog w) A (Builtin.SmallTypes.nextOf (.ref it)) Q E s:=by
 obtain ⟨o,ho,hc,hd⟩:=id hit
 obtain ⟨ol,hol,_,nl,hdl⟩:=ht
 have hT:s.TypeIs (.ref it) "tuple_iterator" :=⟨o,ho,hc⟩
 refine S4 (wpAny_callSpecial?_slot hT slot_tupleiter_next (wpAny_call_entry slot_tupleiter_next hT entry_tupleiter_next ?_ (args_tupleiter_next _)))
 refine S4 (m:=field (.ref it) 0) (wpAny_field ho hd rfl (S4 (wpAny_field ho hd rfl (S4 (wpAny_seqItems hol hdl ?_)))))
 simp only [ybl,hx]
 refine S4 (wpAny_setField ho hd (by simp) (S5 ⟨x,rfl,S5 (hQ _ ⟨_,ybv _ ho (Obj.isFreed_of_fields (Obj.data_mapFields hd _)),(Obj.cls_mapFields ..).trans hc,?_⟩ (yba.update ..))⟩))
 rw [Obj.data_mapFields hd]
 simp [rawInt]
theorem Y4 {Q} (hh:A.handled=none) (hit:s.heap.IsTupleIter it t i) (ht:s.heap.IsTuple t items) (hx:items[i]?=none)
  (hE:∀h' e,Heap.ExtBut it s.heap h'->(∃o,h'.get? e=some o/\o.cls= .type "StopIteration")->E (.ref e) {s with heap:=h'}):Sc (model prog w) A (Builtin.SmallTypes.nextOf (.ref it)) Q E s:=by
 obtain ⟨o,ho,hc,hd⟩:=id hit
 obtain ⟨ol,hol,_,nl,hdl⟩:=ht
 have hT:s.TypeIs (.ref it) "tuple_iterator" :=⟨o,ho,hc⟩
 refine S4 (wpAny_callSpecial?_slot hT slot_tupleiter_next (wpAny_call_entry slot_tupleiter_next hT entry_tupleiter_next ?_ (args_tupleiter_next _)))
 refine S4 (m:=field (.ref it) 0) (wpAny_field ho hd rfl (S4 (wpAny_field ho hd rfl (S4 (wpAny_seqItems hol hdl ?_)))))
 simp only [ybl,hx]
 refine S4 (wpAny_rule (S4 (wpAny_setField ho hd (by simp) (S4 (S4 (wpAny_newObj_type (S4 (wpAny_of_eq (by first|rfl|(simp only [firstArgMember];rfl)) (wpAny_newObj_type (S4 (wpAny_handled ?_)) (by size_fits)))) (by size_fits)))))))
 first|rw [hh]|rw [hh]
 exact S4 (S5 (wpAny_throw (hE _ _ (((yba.update ..).extBut.push _).push _) ⟨_,yq _ rfl,rfl⟩)))
end
theorem Ju6 (hh:A.handled=none) (it l) (hne:l≠it) (items):
  Draws prog w A it [it,l] items.size (λi v=>items[i]?=some v) (λi h=>h.IsTupleIter it l i/\h.IsTuple l items) where
 live:=λ_ _ st=>let ⟨o,ho,_⟩:=st.1;⟨o,ho⟩
 frame:=λ_ _ _ st hk=>⟨st.1.at λo e=>hk it (by simp) o e,st.2.at λo e=>hk l (by simp) o e⟩
 item:=λi s Q E hi st hQ=>Jyv st.1 st.2 (x:=items[i]) (by simp [hi]) λh' hit' hs'=>hQ _ h' s.toks (by simp [hi]) ⟨hit',st.2.extBut hs'.extBut hne⟩ hs'
 done:=λs Q E st hE=>Y4 hh st.1 st.2 (by simp) hE
set_option maxRecDepth 100000 in
set_option maxHeartbeats 2000000 in
theorem Ycp (l) (items) (n) (dct) (sl):
  Meets (Builtin.«enumerate.__new__» ⟨[.type "enumerate",.ref l],[]⟩) (λ_ R s=>s.heap.get? l=some {cls:=.type "tuple",dict:=dct,data:=.seq items n,slots:=sl}/\
   R (.ok (.ret (.ref (s.heap.push {cls:=.type "tuple_iterator",data:=.fields #[.ref l,.int 0 0]}).objs.size)))
    {s with heap:=(s.heap.push {cls:=.type "tuple_iterator",data:=.fields #[.ref l,.int 0 0]}).push {cls:=.type "enumerate",data:=.fields #[.none,.bool false,.ref s.heap.objs.size,rawInt 0,.none,.none]}}):=
 .of_wp λprog w A R s h=>by
  obtain ⟨hp,g,d,tk,os⟩:=s
  obtain ⟨hl,h⟩:=h
  have e1:=sub_enumerate
  have e2:Heap.IsTuple (Shared.heap ⟨hp,g,d,tk,os⟩) l items:=⟨_,hl,rfl,n,rfl⟩
  wp_walk using AutoSeq1.wpAny_loadPart' hl
  refine wpAny_stack_any λst=>S5 ?_
  split
  ·rename_i c _ _ _ _ _
   cases (c==Value.type "enumerate")
   ·wp_walk using AutoSeq1.wpAny_loadPart' hl,wpAny_pyIter_tuple e2
    exact ⟨_,rfl,h⟩
   ·wp_walk using AutoSeq1.wpAny_loadPart' hl,wpAny_pyIter_tuple e2
    exact ⟨_,rfl,h⟩
  ·wp_walk using AutoSeq1.wpAny_loadPart' hl,wpAny_pyIter_tuple e2
   exact ⟨_,rfl,h⟩
section
variable {prog:S7} {w:S9} {A:Sa} {E:S2->S3->Prop} {s:S3}
theorem Yb6 (hL:s.heap.IsTuple l items)
  (h:∀h',IsEnum h' (s.heap.objs.size+1) s.heap.objs.size 0 .none->h'.IsTupleIter s.heap.objs.size l 0->(∀b o,s.heap.get? b=some o->h'.get? b=some o)->Q (.ref (s.heap.objs.size+1)) {s with heap:=h'}):
  Sc (model prog w) A (call (.type "enumerate") [.ref l]) Q E s:=by
 obtain ⟨⟨c,dct,dt,sl⟩,hl,hc,n,hd⟩:=hL
 subst hc hd
 refine callType_new F.called_enumerate (by decide) (F.typeCall_enumerate_1 _) (F.newCall_enumerate_1 _) (λobj=>F.args_object_init_2 obj _) F.entry_enumerate_new (Ycp l items n dct sl) ⟨hl,?_⟩
 have hz:(s.heap.push {cls:=.type "tuple_iterator",data:=.fields #[.ref l,.int 0 0]}).objs.size=s.heap.objs.size+1:=yao ..
 rw [hz]
 have he:=by
  have q:=yq (s.heap.push {cls:=.type "tuple_iterator",data:=.fields #[.ref l,.int 0 0]}) (o:={cls:=.type "enumerate",data:=.fields #[.none,.bool false,.ref s.heap.objs.size,rawInt 0,.none,.none]}) rfl
  rw [hz] at q
  exact q
 exact ⟨⟨_,he,rfl⟩,h _ he ⟨_,yl _ (yq _ rfl),rfl,rfl⟩ λb o x=>yl _ (yl _ x)⟩
end
def ItU (K:Se) (a:S1):It:=⟨λi H=>∃xs x,Su K H a xs/\xs[i]?=some x,
 λi H x H'=>∃T u,H T=none/\x= .ref T/\(∀xs,Su K H a xs->xs[i]?=some u)/\H'=upd H T (.tup [.int i,u]),
 λi H=>∃xs,Su K H a xs/\i=xs.length⟩
def Sho (e it l:S1) (i:Nat) (h:Sb):Prop:=(∃old,IsEnum h e it i old)/\h.IsTupleIter it l i
theorem Sho.obj (st:Sho e it l i h):∀b∈ [e,it],∃o,h.get? b=some o/\∀v,o.data≠ .cell v:=λb hb=>by
 obtain ⟨⟨old,h1⟩,⟨o4,h4,_,d4⟩⟩:=st
 simp only [ym,yad,or_false] at hb
 rcases hb with rfl|rfl
 ·exact ⟨_,h1,λv z=>by cases z⟩
 ·exact ⟨o4,h4,λv z=>by rw [d4] at z;cases z⟩
theorem Yc5 {K} (e it l) (n1:e≠it) (n2:l≠e) (n3:l≠it):
  Turn P w K (.Tuple elts kt pt) (ItU K l) [e,it] e (Sho e it l) where
 mem:=by simp
 obj:=λi h st=>st.obj
 keep:=λi h h' st k=>by
  obtain ⟨⟨old,h1⟩,h2⟩:=st
  exact ⟨⟨old,k e (by simp) _ h1⟩,h2.at λo q=>k it (by simp) o q⟩
 item:=by
  intro X hP hw hK hc i pins s σ H E I hf st hg
  subst hP hw hK
  obtain ⟨xs,x,q1,hx⟩:=hg
  obtain ⟨its,rv,p1,_⟩:=I.tuple q1
  obtain ⟨u,hu,ru⟩:=rv.get hx
  have hh:X.A.in1.handled=none:=I.ok.hd hc
  have W:=WalksT.enumerateD (prog:=X.prog) (w:=X.w) (Ju6 hh it l n3 its.toArray) e n1 (by simp [n1,yt n2]) (by simp)
  obtain ⟨s1,s2⟩:=st
  have li:=(yj.mp hu).1
  refine W.item i s _ _ (by simp only [yn];omega) ⟨s1,s2,p1⟩ λT vals h' tk hP fT tT mid kk=>⟨_,rfl,W.go elts kt pt i T _ _ _ mid λh'' st'' kk2=>?_⟩
  obtain ⟨t,a,ha,rfl⟩:=hP
  have ea:=by simpa [hu] using ha.symm
  subst ea
  obtain ⟨t1,t2,_⟩:=st''
  have kT:h''.IsTuple T #[.int i t,a]:=by
   obtain ⟨o,q,r⟩:=tT
   exact ⟨o,kk2 T o (W.apart i T h' mid) q,r⟩
  refine ⟨.ref T,upd H T (.tup [.int i,x]),I.turnTup hf (λc o hc q=>kk2 c o hc (kk c o hc q)) fT ⟨(show 2<=S6 by decide),[.int i t,a],.cons ⟨t,rfl⟩ (.cons ru .nil),kT⟩,rfl,⟨T,x,I.hok.fresh fT,rfl,λxs' hq=>by rw [I.tuple_inj hq q1];exact hx,rfl⟩,⟨t1,t2⟩,λc hc=>?_⟩
  rw [Sz (λw'=>?_)]
  ·exact ((hf c hc).1)
  ·subst w'
   obtain ⟨o,q,_⟩:=Sho.obj (⟨s1,s2⟩) c hc
   exact absurd (yi q) (Nat.not_lt.mpr fT)
 done:=by
  intro X hP hw hK hc i pins s σ H E I hf st hg
  subst hP hw hK
  obtain ⟨xs,q1,hi⟩:=hg
  obtain ⟨its,rv,p1,_⟩:=I.tuple q1
  have hh:X.A.in1.handled=none:=I.ok.hd hc
  obtain ⟨s1,s2⟩:=st
  have e1:=rv.length
  have ei:i=its.toArray.size:=by simp only [yn];omega
  subst ei
  exact (WalksT.enumerateD (Ju6 hh it l n3 its.toArray) e n1 (by simp [n1,yt n2]) (by simp)).done s _ _ ⟨s1,s2,p1⟩ λh' tk kk=>⟨rfl,I.turnMany hf λc o hc q=>kk c o hc q⟩
 self:=λ_ _ _ _ _ st h=>let ⟨_,q⟩:=st.1;wpAny_pyIter_enum q h
def Sqr (K:Se) (ta:TA):TI:=λσ H R=>ta σ H λvs H1=>∃a,vs= [.ref a]/\(∃xs,Su K H1 a xs)/\R (ItU K a) H1
theorem Jzr (hg:Gl X "enumerate") (hm:X.mg "enumerate" =none) (ha:PA X [a] ta) (hs:starEach [a] X.env= [(false,eval a X.env)]:=by rfl):
  PI X (.Tuple elts kt pt) (.Call (.Name "enumerate" p) [a] [] pos) (Sqr X.K ta):=by
 intro pins s σ H R I h
 refine Call_ (Jqo I hg hm Jtc (PyProof.Rows.callWith_type1 (thn (ha pos pins s σ H _ I h) λus s1 zq=>?_) (by rw [hs];rfl) rfl))
 obtain ⟨vs,H1,I1,r1,q1⟩:=zq
 obtain ⟨l,rfl,⟨xs,q1⟩,q⟩:=q1
 obtain ⟨u,rfl,r2⟩:=Jqg r1
 obtain rfl:u=Value.ref l:=r2
 obtain ⟨its,rv,p1,_⟩:=I1.tuple q1
 have a1:l < s1.heap.objs.size:=by obtain ⟨o,e,_⟩:=p1;exact yi e
 refine Yb6 (p1) λh' z1 z2 kk=>?_
 have I2:Sn X pins σ H1 {s1 with heap:=h'}:=I1.kept kk
 refine wpAny_pyIter_enum z1 ⟨_,_,_,_,H1,rfl,I2,Yc5 (s1.heap.objs.size+1) s1.heap.objs.size l (Nat.succ_ne_self _) (yo (ybx a1)) (yo a1),⟨⟨_,z1⟩,z2⟩,λc hc=>?_,q⟩
 have hc':s1.heap.objs.size<=c:=by
  simp only [ym,yad,or_false] at hc
  rcases hc with rfl|rfl
  ·exact Nat.le_succ _
  ·exact yk _
 exact I1.fpOk hc' (I1.hok.fresh hc')
abbrev DrA (prog:S7) (w:S9) (i l:S1) (n:Nat) (P:Nat->S2->Prop) (St:Nat->Sb->Prop):Prop:=∀A:Sa,A.handled=none->Draws prog w A i [i,l] n P St
def SqB (K:Se) (H:Hp) (l:S1):Bool->List V->Prop
 |false,xs=>Sv K H l xs
 |true,xs=>Su K H l xs
def IsB (h:Sb) (l:S1):Bool->Array S2->Prop
 |false,items=>h.IsList l items
 |true,items=>h.IsTuple l items
def IS (it l:S1):Bool->Nat->Sb->Prop
 |false,i,h=>h.IsListIter it l i
 |true,i,h=>h.IsTupleIter it l i
def itO (l:S1):Bool->Obj
 |false=>{cls:=.type "list_iterator",data:=.fields #[.ref l,.int 0 0]}
 |true=>{cls:=.type "tuple_iterator",data:=.fields #[.ref l,.int 0 0]}
theorem IS.at (x:IS it l b i h) (k:∀o,h.get? it=some o->h'.get? it=some o):IS it l b i h':=by
 cases b
 ·exact Heap.IsListIter.at x k
 ·exact Heap.IsTupleIter.at x k
theorem IS.obj (x:IS it l b i h):∃o,h.get? it=some o/\∀v,o.data≠ .cell v:=by
 cases b
 ·obtain ⟨o,e,_,d⟩:=x
  exact ⟨o,e,λv z=>by rw [d] at z;cases z⟩
 ·obtain ⟨o,e,_,d⟩:=x
  exact ⟨o,e,λv z=>by rw [d] at z;cases z⟩
theorem drA (b) (ne:l≠it) (items):DrA prog w it l items.size (λi v=>items[i]?=some v) (λi h=>IS it l b i h/\IsB h l b items):=λA hh=>by
 cases b
 ·exact Draws.list hh it l ne items
 ·exact Ju6 hh it l ne items
section
variable {prog:S7} {w:S9} {A:Sa} {E:S2->S3->Prop} {s:S3}
theorem IsB.push (x:IsB h l b items) (o):IsB (h.push o) l b items:=by
 cases b
 ·exact Heap.IsList.push x o
 ·exact Heap.IsTuple.push x o
theorem IsB.lt (x:IsB h l b items):l < h.objs.size:=by
 cases b
 ·obtain ⟨o,e,_⟩:=x;exact yi e
 ·obtain ⟨o,e,_⟩:=x;exact yi e
theorem Jte {Q} (x:IsB s.heap l b items) (hQ:Q (.ref s.heap.objs.size) {s with heap:=s.heap.push (itO l b)}):Sc (model prog w) A (pyIter (.ref l)) Q E s:=by
 cases b
 ·exact wpAny_pyIter_list x hQ
 ·exact wpAny_pyIter_tuple x hQ
end
section
variable {X:Cx} {pins:List (S1×Obj)} {σ:St} {H:Hp} {s:S3}
theorem Sn.seqB (I:Sn X pins σ H s) (h:SqB X.K H l b xs):∃its,Sa0 xs its/\IsB s.heap l b its.toArray:=by
 cases b
 ·obtain ⟨its,rv,p,_⟩:=I.list h
  exact ⟨its,rv,p.isList⟩
 ·obtain ⟨its,rv,p,_⟩:=I.tuple h
  exact ⟨its,rv,p⟩
theorem Sn.seqB_inj (I:Sn X pins σ H s) (h:SqB X.K H l b xs) (h':SqB X.K H l b ys):xs=ys:=by
 cases b
 ·exact I.list_inj h h'
 ·exact I.tuple_inj h h'
end
structure ZE where
 i:S1
 l:S1
 b:Bool
 its:Array S2
abbrev Jrj (h:Sb) (T:S1) (vs:List S2):Prop:=h.get? T=some {cls:=.type "tuple",data:=.seq vs.toArray}
structure ZA (z TI TO:S1) (zs:List ZE):Prop where
 nd:(z::TI::TO::zs.map (·.i)).Nodup
 m:∀q∈zs,q.l∉z::TI::TO::zs.map (·.i)
theorem Ybe {α β:Type} {M:Model} {A:Sa} {E:S2->S3->Prop} {f:α->β->Sem (ForInStep β)} {b:β} {l:List α} {Q:β->S3->Prop}:
  ∀{s:S3} (J:Nat->S3->Prop),(∀j a s,l[j]?=some a->J j s->Sc M A (f a b) (λr s'=>r= .yield b/\J (j+1) s') E s)->J 0 s->(∀s',J l.length s'->Q b s')->Sc M A (forIn l b f) Q E s:=by
 induction l with
 |nil=>
  intro s J st h0 hq
  rw [List.forIn_nil]
  exact S5 (hq s h0)
 |cons a l ih=>
  intro s J st h0 hq
  rw [List.forIn_cons]
  refine S4 (wpAny_mono (st 0 a s rfl h0) (λr s' ⟨e,j⟩=>?_) λ_ _ z=>z)
  subst e
  exact ih (λj=>J (j+1)) (λj a s e=>st (j+1) a s (by simpa using e)) j hq
section
variable {prog:S7} {w:S9} {A:Sa} {E:S2->S3->Prop} {s:S3} {z TI TO:S1} {zs:List ZE} {k:Nat}
theorem Ss2 {k} {Q} {vs:List S2} (sz:vs.length<=S6) (hT:Jrj s.heap T vs) (h:∀h',Jrj h' T (vs.set k x)->yba T s.heap h'->Q () {s with heap:=h'}):Sc (model prog w) A (updateSeq T (·.setIfInBounds k x)) Q E s:=by
 refine wpAny_updateSeq hT rfl (h _ ?_ (yba.update ..)) (by simpa using sz) (by simp;omega)
 show _=some _
 rw [ybv _ hT rfl]
 simp [Obj.mapSeq]
theorem ZA.ne (Z:ZA z TI TO zs):z≠TI/\z≠TO/\TI≠TO/\(∀q∈zs,q.i≠z/\q.i≠TI/\q.i≠TO/\q.l≠z/\q.l≠TI/\q.l≠TO)/\(∀q∈zs,∀r∈zs,q.l≠r.i)/\∀(i j:Nat) (q r:ZE),zs[i]?=some q->zs[j]?=some r->i≠j->q.i≠r.i:=by
 obtain ⟨nd,m⟩:=Z
 simp only [ybq,ym,not_or] at nd
 obtain ⟨⟨h1,h2,h3⟩,⟨h4,h5⟩,h6,h7⟩:=nd
 have mem:∀q∈zs,q.i∈zs.map (·.i):=λq hq=>yau hq
 refine ⟨h1,h2,h4,λq hq=>?_,λq hq r hr e=>?_,λi j q r hi hj ne e=>ne ?_⟩
 ·have q1:=mem q hq
  have q2:=m q hq
  simp only [ym,not_or] at q2
  exact ⟨λe=>h3 (e▸q1),λe=>h5 (e▸q1),λe=>h6 (e▸q1),q2.1,q2.2.1,q2.2.2.1⟩
 ·have q2:=m q hq
  simp only [ym,not_or] at q2
  exact q2.2.2.2 (e▸mem r hr)
 ·have e1:(zs.map (·.i))[i]?=some q.i:=by rw [yg,hi];rfl
  have e2:(zs.map (·.i))[j]?=some q.i:=by rw [yg,hj,e];rfl
  obtain ⟨li,ei⟩:=yj.mp e1
  obtain ⟨lj,ej⟩:=yj.mp e2
  have pw:=List.pairwise_iff_getElem.mp h7
  rcases Nat.lt_trichotomy i j with c|c|c
  ·exact absurd (ei.trans ej.symm) (pw i j li lj c)
  ·exact c
  ·exact absurd (ej.trans ei.symm) (pw j i lj li c)
theorem IsB.at {h h':Sb} {l:S1} {b:Bool} {items:Array S2} (x:IsB h l b items) (k:∀o,h.get? l=some o->h'.get? l=some o):IsB h' l b items:=by
 cases b
 ·obtain ⟨o,e,r⟩:=x;exact ⟨o,k o e,r⟩
 ·obtain ⟨o,e,r⟩:=x;exact ⟨o,k o e,r⟩
theorem IS.but {it l:S1} {b:Bool} {i:Nat} {h h':Sb} {c:S1} (e:it≠c) (sb:yba c h h') (x:IS it l b i h):IS it l b i h':=x.at λo q=>sb.extBut _ _ e q
theorem Yg6 {Q:S2->S3->Prop} {q0:ZE} {ws:List S2} (Z:ZA z TI TO (q0::zs)) (hz:IsZip s.heap z TI TO .none) (hTI:Jrj s.heap TI ((q0::zs).map λq=>.ref q.i)) (hTO:Jrj s.heap TO ws) (hw:ws.length=(q0::zs).length) (hs:(q0::zs).length<=S6)
  (hh:A.handled=none) (hq:∀q∈q0::zs,IsB s.heap q.l q.b q.its/\k < q.its.size/\IS q.i q.l q.b k s.heap)
  (hQ:∀(xs:List S2) h' tk,xs.length=(q0::zs).length->(∀(j:Nat) (q:ZE) (x:S2),(q0::zs)[j]?=some q->xs[j]?=some x->q.its[k]?=some x)->IsZip h' z TI TO (rawInt s.heap.objs.size)->Jrj h' TO xs->(∀q∈q0::zs,IS q.i q.l q.b (k+1) h')->Jrj h' s.heap.objs.size xs->
   (∀d o,d≠z->d≠TO->d∉(q0::zs).map (·.i)->s.heap.get? d=some o->h'.get? d=some o)->Q (.ref s.heap.objs.size) {s with heap:=h',toks:=tk}):
  Sc (model prog w) A (Builtin.«zip.__next__» ⟨[.ref z],[]⟩) (λfin s'=>∃v,fin= .done (.ret v)/\Q v s') E s:=by
 obtain ⟨zTI,zTO,TITO,ap,al,ai⟩:=Z.ne
 show Sc _ _ (field (.ref z) 2 >>=_) _ _ _
 refine S4 (wpAny_field hz rfl (x:=.bool false) rfl ?_)
 refine S4 (m:=field (.ref z) 3) (wpAny_field hz rfl (x:=.ref TI) rfl ?_)
 refine S4 (wpAny_seqItems hTI rfl ?_)
 refine S4 (m:=Builtin.SmallTypes.ownedTupleIsFree (.ref z)) ?_
 refine S4 (wpAny_field hz rfl (x:=.none) rfl (S5 ?_))
 refine S4 (wpAny_rule (S4 (wpAny_field hz rfl (x:=.ref TO) rfl (S4 (wpAny_setField_rec hz (by simp) λh1 hz1 s1=>?_)))))
 refine S4 ?_
 refine Ybe (λj s'=>∃(h':Sb) (tk:_) (vs:List S2),s'={s with heap:=h',toks:=tk}/\h'.objs.size=s.heap.objs.size/\IsZip h' z TI TO .ellipsis/\Jrj h' TO vs/\vs.length=(q0::zs).length/\(∀i,i < j->∀(q:ZE) (x:S2),(q0::zs)[i]?=some q->vs[i]?=some x->q.its[k]?=some x)/\(∀(i:Nat) (q:ZE),(q0::zs)[i]?=some q->IS q.i q.l q.b (if i < j then k+1 else k) h')/\∀d o,d≠z->d≠TO->d∉(q0::zs).map (·.i)->s.heap.get? d=some o->h'.get? d=some o) (λj a s' hj hJ=>?_) ?_ ?_
 ·obtain ⟨q,hq',rfl⟩:∃q,(q0::zs)[j]?=some q/\a=(.ref q.i,j):=by
   rw [List.getElem?_zipIdx] at hj
   obtain ⟨v,hv,rfl⟩:=yw.mp hj
   rw [yg] at hv
   obtain ⟨q,h1,rfl⟩:=yw.mp hv
   exact ⟨q,h1,by simp⟩
  have mq:=yp hq'
  obtain ⟨a1,a2,a3,a4,a5,a6⟩:=ap q mq
  obtain ⟨b1,b2,b3⟩:=hq q mq
  obtain ⟨h',tk,vs,rfl,sz,hz',ho,lw,don,st,fr⟩:=hJ
  have stq:=st j q hq'
  rw [if_neg (yar j)] at stq
  have iB:IsB h' q.l q.b q.its:=b1.at λo e=>fr _ _ a4 a6 (λhm=>by
   obtain ⟨r,hr,e⟩:=yaf.mp hm
   exact al q mq r hr e.symm) e
  refine S4 (wpAny_onRaise ?_)
  refine S4 (m:=Builtin.SmallTypes.nextOf (.ref q.i)) ((drA (prog:=prog) (w:=w) q.b (al q mq q mq) q.its A hh).item k _ _ _ b2 ⟨stq,iB⟩ λx h2 k2 px u1 s2=>S5 ?_)
  have o2:Jrj h2 TO vs:=s2.extBut _ _ (yt a3) ho
  refine S4 (wpAny_seqItems o2 rfl (S4 (Ss2 (by omega) o2 λh3 o3 s3=>S4 (wpAny_letGo (S5 ?_)))))
  refine ⟨rfl,h3,k2,vs.set j x,rfl,by rw [s3.1,s2.1,sz],s3.extBut _ _ zTO (s2.extBut _ _ (yt a1) hz'),o3,by rw [List.length_set];exact lw,λi hi r y hr hy=>?_,λi r hr=>?_,λd o c1 c2 c3 e=>s3.extBut _ _ c2 (s2.extBut _ _ (λz=>c3 (z▸yau mq)) (fr d o c1 c2 c3 e))⟩
  ·rw [List.getElem?_set] at hy
   split at hy
   ·rename_i ij
    subst ij
    rw [hq'] at hr
    cases hr
    split at hy
    ·cases hy;exact px
    ·cases hy
   ·exact don i (by omega) r y hr hy
  ·by_cases ij:i=j
   ·subst ij
    rw [hq'] at hr
    cases hr
    rw [if_pos (ybp i)]
    exact IS.but a3 s3 u1.1
   ·have e:(if i < j+1 then k+1 else k)=(if i < j then k+1 else k):=by split <;> split <;> omega
    rw [e]
    exact IS.but (ap r (yp hr)).2.2.1 s3 (IS.but (ai i j r q hr hq' ij) s2 (st i r hr))
 ·refine ⟨h1,_,ws,rfl,s1.1,hz1,s1.extBut _ _ (yt zTO) hTO,hw,λi hi=>absurd hi (yby i),λi q hi=>?_,λd o c1 _ _ e=>s1.extBut _ _ c1 e⟩
  rw [if_neg (yby i)]
  exact IS.but (ap q (yp hi)).1 s1 (hq q (yp hi)).2.2
 ·rintro s' ⟨h9,tk,vs,rfl,sz,zz,o9,lw,don,st,fr⟩
  have ln:((yam (λq:ZE=>Value.ref q.i) (q0::zs)).toArray.toList.zipIdx).length=(q0::zs).length:=by simp
  rw [ln] at don st
  refine S4 (wpAny_seqItems o9 rfl (S4 (wpAny_newTuple ?_)))
  have zlt:z < h9.objs.size:=yi zz
  refine S4 (m:=Builtin.SmallTypes.ownedTupleHandOut (.ref z) (.ref h9.objs.size)) ?_
  have zp:IsZip (h9.push {cls:=.type "tuple",data:=.seq vs.toArray}) z TI TO .ellipsis:=yl _ zz
  refine S4 (wpAny_setField_rec zp (by simp) λh10 hz10 s10=>?_)
  refine wpAny_setField_rec hz10 (by simp) λh11 hz11 s11=>?_
  have up:∀d o,d≠z->h9.get? d=some o->h11.get? d=some o:=λd o c1 e=>s11.extBut _ _ c1 (s10.extBut _ _ c1 (yl _ e))
  have nw:Jrj h11 h9.objs.size vs:=s11.extBut _ _ (ybd zlt) (s10.extBut _ _ (ybd zlt) (yq _ rfl))
  rw [sz] at hz11 nw
  refine S5 ⟨_,rfl,?_⟩
  dsimp only
  rw [sz]
  exact hQ vs h11 _ lw (λj q x hj hx=>don j (yj.mp hj).1 q x hj hx) hz11 (up _ _ (yt zTO) o9) (λq mq=>by
   obtain ⟨j,hj⟩:=ybc mq
   have:=st j q hj
   rw [if_pos (yj.mp hj).1] at this
   exact this.at λo e=>up _ _ (ap q mq).1 e) nw λd o c1 c2 c3 e=>up d o c1 (fr d o c1 c2 c3 e)
theorem Soy {Q:_} {q0:ZE} (Z:ZA z TI TO (q0::zs)) (hz:IsZip s.heap z TI TO .none) (hTI:Jrj s.heap TI ((q0::zs).map λq=>.ref q.i)) (hh:A.handled=none) (hb:IsB s.heap q0.l q0.b q0.its) (t1:IS q0.i q0.l q0.b q0.its.size s.heap)
  (hE:∀h' e,(∀d o,d≠z->d≠q0.i->s.heap.get? d=some o->h'.get? d=some o)->(∃o,h'.get? e=some o/\o.cls= .type "StopIteration")->E (.ref e) {s with heap:=h'}):
  Sc (model prog w) A (Builtin.«zip.__next__» ⟨[.ref z],[]⟩) Q E s:=by
 obtain ⟨zTI,zTO,TITO,ap,al,ai⟩:=Z.ne
 obtain ⟨a1,a2,a3,a4,a5,a6⟩:=ap q0 yak
 show Sc _ _ (field (.ref z) 2 >>=_) _ _ _
 refine S4 (wpAny_field hz rfl rfl (S4 (wpAny_field hz rfl rfl (S4 (wpAny_seqItems hTI rfl ?_)))))
 refine S4 (S4 (wpAny_field hz rfl rfl (S5 (S4 (wpAny_rule (S4 (wpAny_field hz rfl rfl (S4 (wpAny_setField_rec hz (by simp) λh1 hz1 s1=>S4 ?_)))))))))
 have D:=drA (prog:=prog) (w:=w) q0.b (al q0 yak q0 yak) q0.its A hh
 refine S4 (S4 (wpAny_onRaise (S4 (D.done _ _ _ ⟨IS.but a1 s1 t1,hb.at λo e=>s1.extBut _ _ a4 e⟩ λh2 e s2 he=>?_))))
 obtain ⟨oe,hoe,hce⟩:=he
 have hz2:=s2 _ _ (yt a1) hz1
 have ez:e≠z:=λq=>by subst q;rw [hz2] at hoe;cases hoe;simp at hce
 exact wpAny_setField_rec hz2 (by simp) λh3 _ s3=>hE h3 e (λd o c1 c2 q=>s3.extBut _ _ c1 (s2 _ _ c2 (s1.extBut _ _ c1 q))) ⟨oe,s3.extBut _ _ ez hoe,hce⟩
def ZNS (z TI TO:S1) (zs:List ZE) (i:Nat) (h:Sb):Prop:=IsZip h z TI TO .none/\Jrj h TI (zs.map λq=>.ref q.i)/\(∃ws:List S2,ws.length=zs.length/\Jrj h TO ws)/\∀q∈zs,IS q.i q.l q.b i h/\IsB h q.l q.b q.its
def ZNM (z TI TO:S1) (zs:List ZE) (i:Nat) (T:S1) (h:Sb):Prop:=IsZip h z TI TO (rawInt T)/\Jrj h TI (zs.map λq=>.ref q.i)/\(∃ws:List S2,ws.length=zs.length/\Jrj h TO ws)/\(∀q∈zs,IS q.i q.l q.b (i+1) h/\IsB h q.l q.b q.its)/\T∉z::TO::zs.map (·.i)
theorem Ye4 {q0:ZE} (hh:A.handled=none) (Z:ZA z TI TO (q0::zs)) (hs:(q0::zs).length<=S6) (hn:∀q∈q0::zs,q0.its.size<=q.its.size):
  WalksT prog w A z (z::TI::TO::((q0::zs).map (·.i)++(q0::zs).map (·.l))) (z::TO::(q0::zs).map (·.i)) q0.its.size
   (λi vals=>vals.size=(q0::zs).length/\∀(j:Nat) (q:ZE) (x:S2),(q0::zs)[j]?=some q->vals[j]?=some x->q.its[i]?=some x) (ZNS z TI TO (q0::zs)) (ZNM z TI TO (q0::zs)) where
 sub:=λc hc=>by
  simp only [ym,ybh] at hc⊢
  grind
 frame:=λi h h' hst hk=>by
  obtain ⟨hz,hTI,⟨ws,lw,hTO⟩,hq⟩:=hst
  refine ⟨hk z (by simp) _ hz,hk TI (by simp) _ hTI,⟨ws,lw,hk TO (by simp) _ hTO⟩,λq mq=>⟨(hq q mq).1.at λo e=>hk _ ?_ o e,(hq q mq).2.at λo e=>hk _ ?_ o e⟩⟩
  ·exact yr _ (yr _ (yr _ (List.mem_append_left _ (yau mq))))
  ·exact yr _ (yr _ (yr _ (ybb _ (yau mq))))
 item:=λi s Q E hi hst hQ=>by
  obtain ⟨hz,hTI,⟨ws,lw,hTO⟩,hq⟩:=hst
  obtain ⟨zTI,zTO,TITO,ap,al,ai⟩:=Z.ne
  have hT:s.TypeIs (.ref z) "zip" :=⟨_,hz,rfl⟩
  refine S4 (wpAny_attempt (wpAny_callSpecial?_slot hT F.slot_zip_next (wpAny_call_entry F.slot_zip_next hT F.entry_zip_next
   (Yg6 (k:=i) Z hz hTI hTO lw hs hh (λq mq=>⟨(hq q mq).2,yah hi (hn q mq),(hq q mq).1⟩) λxs h' tk lx px a1 a2 a3 a4 hk=>S5 ?_) (F.args_zip_next_1 _))))
  have notm:∀q∈q0::zs,q.l∉(q0::zs).map (·.i):=λq mq hm=>by
   obtain ⟨r,hr,e⟩:=yaf.mp hm
   exact al q mq r hr e.symm
  have lt:∀{d o},s.heap.get? d=some o->s.heap.objs.size≠d:=λe=>ybd (yi e)
  refine hQ s.heap.objs.size xs.toArray h' tk ⟨by simpa using lx,λj q x hj hx=>px j q x hj (by simpa using hx)⟩ (yk _) ⟨_,a4,rfl,_,rfl⟩ ⟨a1,hk _ _ (yt zTI) TITO (λhm=>?_) hTI,⟨xs,lx,a2⟩,λq mq=>⟨a3 q mq,(hq q mq).2.at λo e=>hk _ _ (ap q mq).2.2.2.1 (ap q mq).2.2.2.2.2 (notm q mq) e⟩,λhm=>?_⟩ λd o hd e=>hk d o (λq=>hd (by simp [q])) (λq=>hd (by simp [q])) (λq=>hd (yr _ (yr _ q))) e
  ·obtain ⟨r,hr,e⟩:=yaf.mp hm
   exact (ap r hr).2.1 e
  ·rcases ym.mp hm with e|hm
   ·exact lt hz e
   ·rcases ym.mp hm with e|hm
    ·exact lt hTO e
    ·obtain ⟨r,hr,e⟩:=yaf.mp hm
     obtain ⟨o,e',_⟩:=(hq r hr).1.obj
     exact lt e' e.symm
 go:=λelts k pos i T s Q E hm hQ=>by
  obtain ⟨hz,hTI,⟨ws,lw,hTO⟩,hq,_⟩:=hm
  obtain ⟨zTI,zTO,TITO,ap,al,ai⟩:=Z.ne
  exact wpAny_letOwnedTupleGo_zip hz λh' hz' sb=>hQ h' ⟨hz',sb.extBut _ _ (yt zTI) hTI,⟨ws,lw,sb.extBut _ _ (yt zTO) hTO⟩,λq mq=>⟨IS.but (ap q mq).1 sb (hq q mq).1,(hq q mq).2.at λo e=>sb.extBut _ _ (ap q mq).2.2.2.1 e⟩⟩ λd o hd e=>sb.extBut _ _ (λq=>hd (by simp [q])) e
 apart:=λi T h hm hT=>hm.2.2.2.2 hT
 done:=λs Q E hst hQ=>by
  obtain ⟨hz,hTI,_,hq⟩:=hst
  have hT:s.TypeIs (.ref z) "zip" :=⟨_,hz,rfl⟩
  have h0:=hq q0 yak
  refine S4 (wpAny_attempt (wpAny_callSpecial?_slot hT F.slot_zip_next (wpAny_call_entry F.slot_zip_next hT F.entry_zip_next
   (Soy Z hz hTI hh h0.2 h0.1 λh' e hk he=>?_) (F.args_zip_next_1 _))))
  obtain ⟨o,ho,hc⟩:=he
  exact S4 (wpAny_isInstance ⟨o,ho,hc⟩ isSubtype_stop (S5 (hQ h' s.toks λd o' hd e'=>hk d o' (λq=>hd (by simp [q])) (λq=>hd (by simp [q])) e')))
 self:=λi s Q E hst hQ=>wpAny_pyIter_zip hst.1 hQ
end
def Jrh (h:Sb):List Obj->Sb
 | []=>h
 |o::r=>Jrh (h.push o) r
def itA (h:Sb):List Obj->List S1
 | []=>[]
 |o::r=>h.objs.size::itA (h.push o) r
theorem Jxh {os:List Obj}:∀{h:Sb},h.get? c=some o->(Jrh h os).get? c=some o:=by
 induction os with
 |nil=>exact λe=>e
 |cons q r ih=>exact λe=>ih (yl _ e)
theorem Yv {os:List Obj}:∀{h:Sb},(Jrh h os).objs.size=h.objs.size+os.length:=by
 induction os with
 |nil=>intro h;rfl
 |cons q r ih=>
  intro h
  show (Jrh (h.push q) r).objs.size=h.objs.size+(r.length+1)
  rw [ih,yao]
  omega
theorem Jxx {os:List Obj}:∀{h:Sb},itA h os=List.range' h.objs.size os.length:=by
 induction os with
 |nil=>intro h;rfl
 |cons q r ih=>
  intro h
  show h.objs.size::itA (h.push q) r=_
  rw [ih,yao]
  rfl
theorem Yen {os:List Obj}:∀{h:Sb} {j:Nat} {o:Obj},os[j]?=some o->o.isFreed=false->(Jrh h os).get? (h.objs.size+j)=some o:=by
 induction os with
 |nil=>intro h j o e;simp at e
 |cons q r ih=>
  intro h j o e f
  cases j with
  |zero=>
   cases e
   exact Jxh (h:=h.push q) (yq _ f)
  |succ j=>
   have:=ih (h:=h.push q) (j:=j) (by simpa using e) f
   rw [yao] at this
   rw [show h.objs.size+(j+1)=h.objs.size+1+j by omega]
   exact this
abbrev zOs (ls:List (S1×Bool)):List Obj:=ls.map λl=>itO l.1 l.2
abbrev gD (h:Sb) (ls:List (S1×Bool)):Sb:=(Jrh h (zOs ls)).push {cls:=.type "tuple",data:=.seq ((itA h (zOs ls)).map Value.ref).toArray}
abbrev gE (h:Sb) (ls:List (S1×Bool)):Sb:=(gD h ls).push {cls:=.type "tuple",data:=.seq (ls.map λ_=>Value.none).toArray}
abbrev gF (h:Sb) (ls:List (S1×Bool)):Sb:=(gE h ls).push {cls:=.type "zip",data:=.fields #[.none,.bool false,.bool false,.ref (Jrh h (zOs ls)).objs.size,.ref (gD h ls).objs.size]}
section
variable {prog:S7} {w:S9} {A:Sa} {E:S2->S3->Prop} {s:S3} {ls:List (S1×Bool)}
theorem Jsd (h:Sb):IsZip (gF h ls) (gE h ls).objs.size (Jrh h (zOs ls)).objs.size (gD h ls).objs.size .none/\Jrj (gF h ls) (Jrh h (zOs ls)).objs.size ((itA h (zOs ls)).map Value.ref)/\Jrj (gF h ls) (gD h ls).objs.size (ls.map λ_=>Value.none)/\
  (∀(j:Nat) (i:S1) (l:S1×Bool),(itA h (zOs ls))[j]?=some i->ls[j]?=some l->IS i l.1 l.2 0 (gF h ls))/\(∀c o,h.get? c=some o->(gF h ls).get? c=some o)/\(∀c∈(gE h ls).objs.size::(Jrh h (zOs ls)).objs.size::(gD h ls).objs.size::itA h (zOs ls),h.objs.size<=c)/\
  ((gE h ls).objs.size::(Jrh h (zOs ls)).objs.size::(gD h ls).objs.size::itA h (zOs ls)).Nodup:=by
 have z0:=Yv (h:=h) (os:=zOs ls)
 have z1:(gD h ls).objs.size=(Jrh h (zOs ls)).objs.size+1:=yao ..
 have z2:(gE h ls).objs.size=(gD h ls).objs.size+1:=yao ..
 have p:∀{h:Sb} {c:S1} {o q:Obj},h.get? c=some o->(h.push q).get? c=some o:=λe=>yl _ e
 have fr:∀l b,(itO l b).isFreed=false:=λl b=>by cases b <;> rfl
 refine ⟨yq _ rfl,p (p (yq _ rfl)),p (yq _ rfl),λj i l hi hl=>?_,λc o e=>p (p (p (Jxh e))),λc hc=>?_,?_⟩
 ·rw [Jxx] at hi
  have hj:j < (zOs ls).length:=by simpa using (yj.mp hi).1
  rw [List.getElem?_range' hj] at hi
  have e:=Yen (h:=h) (os:=zOs ls) (j:=j) (o:=itO l.1 l.2) (by rw [yg,hl];rfl) (fr _ _)
  have e':(gF h ls).get? i=some (itO l.1 l.2):=p (p (p (by rw [<-yv.inj hi];simpa using e)))
  obtain ⟨l,b⟩:=l
  cases b
  ·exact ⟨_,e',rfl,rfl⟩
  ·exact ⟨_,e',rfl,rfl⟩
 ·rw [Jxx] at hc
  simp only [ym,List.mem_range'_1] at hc
  omega
 ·rw [Jxx]
  simp only [ybq,ym,List.mem_range'_1,not_or]
  exact ⟨⟨by omega,by omega,by omega⟩,⟨by omega,by omega⟩,by omega,List.nodup_range'⟩
end
def SqN (K:Se) (H:Hp) (ls:List (S1×Bool)) (xss:List (List V)):Prop:=xss.length=ls.length/\∀(j:Nat) (l:S1×Bool) (xs:List V),ls[j]?=some l->xss[j]?=some xs->SqB K H l.1 l.2 xs
def Jvi (K:Se) (ls:List (S1×Bool)):It:=
 ⟨λi H=>∃(x0:List V) (xss:List (List V)),SqN K H ls (x0::xss)/\(∀xs∈xss,x0.length<=xs.length)/\i < x0.length,
  λi H x H'=>∃(T:S1) (ps:List V),H T=none/\x= .ref T/\(∀xss,SqN K H ls xss->ps.length=xss.length/\∀(j:Nat) (p:V) (xs:List V),ps[j]?=some p->xss[j]?=some xs->xs[i]?=some p)/\H'=upd H T (.tup ps),
  λi H=>∃(x0:List V) (xss:List (List V)),SqN K H ls (x0::xss)/\(∀xs∈xss,x0.length<=xs.length)/\i=x0.length⟩
def ZNT (z TI TO:S1) (is:List S1) (ls:List (S1×Bool)) (k:Nat) (h:Sb):Prop:=IsZip h z TI TO .none/\Jrj h TI (is.map Value.ref)/\(∃ws:List S2,ws.length=is.length/\Jrj h TO ws)/\∀(j:Nat) (i:S1) (l:S1×Bool),is[j]?=some i->ls[j]?=some l->IS i l.1 l.2 k h
theorem Slx:∀{ps:List V} {vs:List S2},ps.length=vs.length->(∀(j:Nat) (p:V) (v:S2),ps[j]?=some p->vs[j]?=some v->Sa5 p v)->Sa0 ps vs
 | [],[],_,_=>.nil
 |p::ps,v::vs,e,f=>.cons (f 0 p v rfl rfl) (Slx (by simpa using e) λj p v h1 h2=>f (j+1) p v (by simpa using h1) (by simpa using h2))
 | [],_::_,e,_=>by simp at e
 |_::_,[],e,_=>by simp at e
theorem Sn.zes {X:Cx} (I:Sn X pins σ H s):∀{ls:List (S1×Bool)} {xss:List (List V)} {is:List S1},is.length=ls.length->SqN X.K H ls xss->
  ∃zs:List ZE,zs.map (·.i)=is/\zs.map (λq=>(q.l,q.b))=ls/\∀(j:Nat) (q:ZE) (xs:List V),zs[j]?=some q->xss[j]?=some xs->Sa0 xs q.its.toList/\IsB s.heap q.l q.b q.its:=by
 intro ls
 induction ls with
 |nil=>
  intro xss is li _
  obtain rfl:is= []:=yce.mp li
  exact ⟨[],rfl,rfl,λj q xs e=>by simp at e⟩
 |cons l ls ih=>
  intro xss is li sq
  cases is with
  |nil=>simp at li
  |cons i is=>
   cases xss with
   |nil=>simp [SqN] at sq
   |cons x xss=>
    obtain ⟨its,r,p⟩:=I.seqB (sq.2 0 l x rfl rfl)
    obtain ⟨zs,e1,e2,e3⟩:=ih (xss:=xss) (is:=is) (by simpa using li) ⟨by simpa using sq.1,λj l xs h1 h2=>sq.2 (j+1) l xs (by simpa using h1) (by simpa using h2)⟩
    refine ⟨⟨i,l.1,l.2,its.toArray⟩::zs,by rw [ybj,e1],by rw [ybj,e2],λj q xs h1 h2=>?_⟩
    cases j with
    |zero=>cases h1;cases h2;exact ⟨r,p⟩
    |succ j=>exact e3 j q xs (by simpa using h1) (by simpa using h2)
theorem ZNT.obj {z TI TO:S1} {is:List S1} {ls:List (S1×Bool)} (li:is.length=ls.length) (st:ZNT z TI TO is ls k h):∀b∈z::TI::TO::is,∃o,h.get? b=some o/\∀v,o.data≠ .cell v:=λb hb=>by
 obtain ⟨h1,h2,⟨ws,_,h3⟩,h4⟩:=st
 simp only [ym] at hb
 rcases hb with rfl|rfl|rfl|hb
 ·exact ⟨_,h1,λv z=>by cases z⟩
 ·exact ⟨_,h2,λv z=>by cases z⟩
 ·exact ⟨_,h3,λv z=>by cases z⟩
 ·obtain ⟨j,hj⟩:=ybc hb
  have hj':j < ls.length:=by rw [<-li];exact (yj.mp hj).1
  exact (h4 j b ls[j] hj (yh hj')).obj
theorem Yec {q0:ZE} {zs:List ZE} {x0:List V} {xss:List (List V)} {s:S3} (len:(x0::xss).length=(q0::zs).length) (hn:∀xs∈xss,x0.length<=xs.length) (e3:∀(j:Nat) (q:ZE) (xs:List V),(q0::zs)[j]?=some q->(x0::xss)[j]?=some xs->Sa0 xs q.its.toList/\IsB s.heap q.l q.b q.its):
  q0.its.size=x0.length/\(∀q∈q0::zs,∃(j:Nat) (xs:List V),(q0::zs)[j]?=some q/\(x0::xss)[j]?=some xs)/\∀q∈q0::zs,q0.its.size<=q.its.size:=by
 have size:∀(j:Nat) (q:ZE) (xs:List V),(q0::zs)[j]?=some q->(x0::xss)[j]?=some xs->q.its.size=xs.length:=λj q xs h1 h2=>by
  have:=(e3 j q xs h1 h2).1.length
  simpa using this.symm
 have at':∀q∈q0::zs,∃(j:Nat) (xs:List V),(q0::zs)[j]?=some q/\(x0::xss)[j]?=some xs:=λq hq=>by
  obtain ⟨j,hj⟩:=ybc hq
  have:j < (x0::xss).length:=by rw [len];exact (yj.mp hj).1
  exact ⟨j,_,hj,yh this⟩
 have s0:=size 0 q0 x0 rfl rfl
 refine ⟨s0,at',λq hq=>?_⟩
 obtain ⟨j,xs,h1,h2⟩:=at' q hq
 rw [s0,size j q xs h1 h2]
 cases j with
 |zero=>cases h2;exact yk _
 |succ j=>exact hn xs (yp (show xss[j]?=some xs by simpa using h2))
theorem Yc6 {P:S7} {w:S9} {K:Se} {elts:List Expr} {kt:Nat} {pt:Pos} {ls:List (S1×Bool)} {z TI TO:S1} {is:List S1} (li:is.length=ls.length) (sm:ls.length<=S6) (nd:(z::TI::TO::is).Nodup) (ml:∀l∈ls,l.1∉z::TI::TO::is):
  Turn P w K (.Tuple elts kt pt) (Jvi K ls) (z::TI::TO::is) z (ZNT z TI TO is ls) where
 mem:=by simp
 obj:=λi h st=>st.obj li
 keep:=λi h h' st k=>by
  obtain ⟨h1,h2,⟨ws,lw,h3⟩,h4⟩:=st
  exact ⟨k z (by simp) _ h1,k TI (by simp) _ h2,⟨ws,lw,k TO (by simp) _ h3⟩,λj i l hi hl=>(h4 j i l hi hl).at λo e=>k i (by simp [yp hi]) o e⟩
 item:=by
  intro X hP hw hK hc i pins s σ H E I hf st hg
  subst hP hw hK
  obtain ⟨x0,xss,sq,hn,hi⟩:=hg
  obtain ⟨zs,e1,e2,e3⟩:=I.zes li sq
  subst e1 e2
  cases zs with
  |nil=>simp [SqN] at sq
  |cons q0 zs=>
  have len:=sq.1
  rw [yf] at len sm
  obtain ⟨s0,at',hn'⟩:=Yec len hn e3
  have W:=Ye4 (prog:=X.prog) (w:=X.w) (I.ok.hd hc) ⟨nd,λq hq=>ml (q.l,q.b) (yau hq)⟩ sm hn'
  have st0:=st
  obtain ⟨s1,s2,⟨ws,lw,s3⟩,s4⟩:=st
  refine W.item i s _ _ (by omega) ⟨s1,by rw [yav] at s2;exact s2,⟨ws,by simpa using lw,s3⟩,λq hq=>?_⟩ λT vals h' tk hP fT tT mid kk=>⟨_,rfl,W.go elts kt pt i T _ _ _ mid λh'' st'' kk2=>?_⟩
  ·obtain ⟨j,xs,h1,h2⟩:=at' q hq
   exact ⟨s4 j q.i (q.l,q.b) (by rw [yg,h1];rfl) (by rw [yg,h1];rfl),(e3 j q xs h1 h2).2⟩
  obtain ⟨vz,va⟩:=hP
  have get:∀(j:Nat) (xs:List V),(x0::xss)[j]?=some xs->i < xs.length:=λj xs h2=>by
   cases j with
   |zero=>cases h2;exact hi
   |succ j=>exact yah hi (hn xs (yp (show xss[j]?=some xs by simpa using h2)))
  have pg:∀(j:Nat) (p:V) (xs:List V),((x0::xss).map λxs=>xs.getD i .non)[j]?=some p->(x0::xss)[j]?=some xs->xs[i]?=some p:=λj p xs hp hx=>by
   rw [yg,hx] at hp
   have hp':xs.getD i .non=p:=yv.inj hp
   rw [<-hp',yh (get j xs hx)]
   simp [yat,yh (get j xs hx)]
  have rel:Sa0 ((x0::xss).map λxs=>xs.getD i .non) vals.toList:=Slx (by rw [yf,len];simpa using vz.symm) λj p v hp hv=>by
   have hj:j < (x0::xss).length:=by have:=(yj.mp hp).1;simpa using this
   have hx:(x0::xss)[j]?=some (x0::xss)[j]:=yh hj
   have hz:(q0::zs)[j]?=some ((q0::zs)[j]'(by omega)):=yh (by omega)
   have q1:=va j _ v hz (by simpa using hv)
   obtain ⟨u,hu,r⟩:=(e3 j _ _ hz hx).1.get (pg j p _ hp hx)
   rw [Array.getElem?_toList] at hu
   rw [q1] at hu
   cases hu
   exact r
  have kT:h''.IsTuple T vals:=by
   obtain ⟨o,q,r⟩:=tT
   exact ⟨o,kk2 T o (W.apart i T h' mid) q,r⟩
  have cht:∀c,c∈z::TO::(q0::zs).map (·.i)->c∈z::TI::TO::(q0::zs).map (·.i):=λc hc=>by
   simp only [ym] at hc⊢
   grind
  obtain ⟨t1,t2,t3,t4⟩:=st''
  refine ⟨.ref T,upd H T (.tup ((x0::xss).map λxs=>xs.getD i .non)),I.turnTup (λc hc=>hf c (cht c hc)) (λc o hc e=>kk2 c o hc (kk c o hc e)) fT ⟨by rw [yf,len];exact sm,vals.toList,rel,by rw [Array.toArray_toList];exact kT⟩,rfl,
   ⟨T,_,I.hok.fresh fT,rfl,λxss' sq'=>?_,rfl⟩,⟨t1,by rw [yav];exact t2,by simpa using t3,λj a l ha hl=>?_⟩,λc hc=>?_⟩
  ·have ex:xss'=x0::xss:=List.ext_getElem? λj=>by
    by_cases hj:j < (x0::xss).length
    ·have hj':j < xss'.length:=by rw [sq'.1,<-sq.1];exact hj
     have hl:j < ((q0::zs).map λq=>(q.l,q.b)).length:=by rw [<-sq.1];exact hj
     rw [yh hj,yh hj']
     exact congrArg some (I.seqB_inj (sq'.2 j _ _ (yh hl) (yh hj')) (sq.2 j _ _ (yh hl) (yh hj)))
    ·rw [ycf (by rw [sq'.1,<-sq.1];omega),ycf (by omega)]
   rw [ex]
   exact ⟨yf ..,pg⟩
  ·rw [yg] at ha hl
   obtain ⟨q,hq,rfl⟩:=yw.mp ha
   rw [hq] at hl
   cases hl
   exact (t4 q (yp hq)).1
  rw [Sz (λw'=>?_)]
  ·exact ((hf c hc).1)
  ·subst w'
   obtain ⟨o,e,_⟩:=ZNT.obj li st0 c hc
   exact absurd (yi e) (Nat.not_lt.mpr fT)
 done:=by
  intro X hP hw hK hc i pins s σ H E I hf st hg
  subst hP hw hK
  obtain ⟨x0,xss,sq,hn,hi⟩:=hg
  obtain ⟨zs,e1,e2,e3⟩:=I.zes li sq
  subst e1 e2
  cases zs with
  |nil=>simp [SqN] at sq
  |cons q0 zs=>
  have len:=sq.1
  rw [yf] at len sm
  obtain ⟨s0,at',hn'⟩:=Yec len hn e3
  have W:=Ye4 (prog:=X.prog) (w:=X.w) (I.ok.hd hc) ⟨nd,λq hq=>ml (q.l,q.b) (yau hq)⟩ sm hn'
  obtain ⟨s1,s2,⟨ws,lw,s3⟩,s4⟩:=st
  obtain rfl:i=q0.its.size:=by omega
  refine W.done s _ _ ⟨s1,by rw [yav] at s2;exact s2,⟨ws,by simpa using lw,s3⟩,λq hq=>?_⟩ λh' tk kk=>⟨rfl,I.turnMany (λc hc=>hf c (by simp only [ym] at hc⊢;grind)) λc o hc e=>kk c o hc e⟩
  obtain ⟨j,xs,h1,h2⟩:=at' q hq
  exact ⟨s4 j q.i (q.l,q.b) (by rw [yg,h1];rfl) (by rw [yg,h1];rfl),(e3 j q xs h1 h2).2⟩
 self:=λ_ _ _ _ _ st h=>wpAny_pyIter_zip st.1 h
theorem Jyx {X:Cx} {ls:List (S1×Bool)} {R:It->Hp->Prop} {elts:List Expr} {kt:Nat} {pt:Pos} (I:Sn X pins σ H s) (hl:∀l∈ls,l.1 < s.heap.objs.size) (sm:ls.length<=S6) (q:R (Jvi X.K ls) H):
  Sc (model X.prog X.w) X.A (pyIter (.ref (gE s.heap ls).objs.size)) (PIE X pins σ (.Tuple elts kt pt) R) X.xe {s with heap:=gF s.heap ls}:=by
 obtain ⟨z1,z2,z3,z4,kk,big,nd⟩:=Jsd (ls:=ls) s.heap
 have li:(itA s.heap (zOs ls)).length=ls.length:=by rw [Jxx];simp
 refine wpAny_pyIter_zip z1 ⟨_,_,_,_,H,rfl,I.kept kk,Yc6 li sm nd λl hm hn=>absurd (big _ hn) (Nat.not_le.mpr (hl l hm)),⟨z1,z2,⟨_,by rw [yf,li],z3⟩,z4⟩,λd hd=>?_,q⟩
 exact I.fpOk (big d hd) (I.hok.fresh (big d hd))
def Jyy (xss:List (List V)) (i:Nat) (ps:List V):Prop:=ps.length=xss.length/\∀(j:Nat) (p:V) (xs:List V),ps[j]?=some p->xss[j]?=some xs->xs[i]?=some p
section
variable {K:Se} {g:TG} {σ:St} {H:Hp} {ls:List (S1×Bool)} {x0:List V} {xss:List (List V)}
theorem Ycb {B:(Nat->St->Hp->Prop)->Nat->V->St->Hp->Prop} {F:St->Hp->Prop} (Pv:Nat->St->Hp->Prop) (h0:Pv 0 σ H) (hl:∀i σ H,i<=x0.length->Pv i σ H->SqN K H ls (x0::xss)) (hn:∀xs∈xss,x0.length<=xs.length)
  (hs:∀i ps σ H T,Jyy (x0::xss) i ps->Pv i σ H->H T=none->B Pv i (.ref T) σ (upd H T (.tup ps))) (hd:∀σ H,Pv x0.length σ H->F σ H):
  ∃W:Nat->Nat->St->Hp->Prop,(∃m,W 0 m σ H)/\∀i m σ H,W i m σ H->((Jvi K ls).stop i H/\F σ H)\/((Jvi K ls).go i H/\(∀σ' H',Pv (i+1) σ' H'->∃m',m' < m/\W (i+1) m' σ' H')/\∀x H',(Jvi K ls).yld i H x H'->B Pv i x σ H'):=by
 refine ⟨λi m σ H=>m=x0.length - i/\i<=x0.length/\Pv i σ H,⟨x0.length,by simp,yai _,h0⟩,?_⟩
 rintro i m σ H ⟨rfl,hi,p⟩
 have sq:=hl i σ H hi p
 by_cases hlt:i < x0.length
 ·refine .inr ⟨⟨x0,xss,sq,hn,hlt⟩,λσ' H' p'=>⟨x0.length - (i+1),by omega,rfl,hlt,p'⟩,λx H' y=>?_⟩
  obtain ⟨T,ps,hT,rfl,hp,rfl⟩:=y
  exact hs i ps σ _ T (hp _ sq) p hT
 ·obtain rfl:i=x0.length:=by omega
  exact .inl ⟨⟨x0,xss,sq,hn,rfl⟩,hd σ H p⟩
theorem Ju5 {tt:TT} {te:TE} {R:Hp->Prop} (Pv:Nat->St->Hp->Prop) (h0:Pv 0 σ H) (hl:∀i σ H,i<=x0.length->Pv i σ H->SqN K H ls (x0::xss)) (hn:∀xs∈xss,x0.length<=xs.length)
  (hs:∀i ps σ H T,Jyy (x0::xss) i ps->Pv i σ H->H T=none->g (.ref T) σ (upd H T (.tup ps)) λσ3 H3=>tt σ3 H3 λb H4=>if b=true then te σ3 H4 (λv H5=>∃vs,H5 D=some (.lst vs)/\vs.length < S6/\Pv (i+1) σ3 (upd H5 D (.lst (vs++ [v])))) else Pv (i+1) σ3 H4)
  (hd:∀σ H,Pv x0.length σ H->R H):
  ∃W:Nat->Nat->St->Hp->Prop,(∃m,W 0 m σ H)/\∀i m σ' H',W i m σ' H'->((Jvi K ls).stop i H'/\R H')\/((Jvi K ls).go i H'/\∃N:St->Hp->Prop,(∀σ2 H2,N σ2 H2->∃m',m' < m/\W (i+1) m' σ2 H2)/\
   ∀x H2,(Jvi K ls).yld i H' x H2->g x σ' H2 λσ3 H3=>tt σ3 H3 λb H4=>if b=true then te σ3 H4 (λv H5=>∃vs,H5 D=some (.lst vs)/\vs.length < S6/\N σ3 (upd H5 D (.lst (vs++ [v])))) else N σ3 H4):=by
 obtain ⟨W,w0,w1⟩:=Ycb (F:=λ_=>R) (B:=λPv i x σ' H2=>g x σ' H2 λσ3 H3=>tt σ3 H3 λb H4=>if b=true then te σ3 H4 (λv H5=>∃vs,H5 D=some (.lst vs)/\vs.length < S6/\Pv (i+1) σ3 (upd H5 D (.lst (vs++ [v])))) else Pv (i+1) σ3 H4) Pv h0 hl hn hs hd
 exact ⟨W,w0,λi m σ H h=>(w1 i m σ H h).imp id λ⟨a,b,c⟩=>⟨a,_,b,c⟩⟩
end
theorem Ydd {us:List S2}:∀{as:List S1},Sa0 (as.map V.ref) us->us=as.map Value.ref:=by
 induction us with
 |nil=>intro as h;cases as with|nil=>rfl|cons=>cases h
 |cons u us ih=>
  intro as h
  cases as with
  |nil=>cases h
  |cons a as=>
   cases h with
   |cons h1 h2=>
    obtain rfl:u=Value.ref a:=h1
    rw [ih h2]
    rfl
theorem Jz1 (a b c d):argsOk "object.__init__" ⟨[a,b,c,d],[]⟩:=by
 unfold argsOk;rw [signature?_of (n:=['_','_','t','i','n','i','_','_']) (by kernel_rfl) F.owner_object];kernel_rfl
set_option maxRecDepth 100000 in
set_option maxHeartbeats 4000000 in
theorem Yc9 (l1 l2 l3:S1) (b1 b2 b3:Bool) (xs ys us):
  Meets (Builtin.«zip.__new__» ⟨[.type "zip",.ref l1,.ref l2,.ref l3],[]⟩) (λ_ R s=>IsB s.heap l1 b1 xs/\IsB s.heap l2 b2 ys/\IsB s.heap l3 b3 us/\
   R (.ok (.ret (.ref (gE s.heap [(l1,b1),(l2,b2),(l3,b3)]).objs.size))) {s with heap:=gF s.heap [(l1,b1),(l2,b2),(l3,b3)]}):=
 .of_wp λprog w A R s h=>by
  obtain ⟨hp,g,d,tk,os⟩:=s
  obtain ⟨hl1,hl2,hl3,h⟩:=h
  have e0:=sub_zip
  have e1:=hl1
  have e2:IsB (Shared.heap ⟨(hp.push (itO l1 b1)),g,d,tk,os⟩) l2 b2 ys:=IsB.push (hl2) _
  have e3:IsB (Shared.heap ⟨((hp.push (itO l1 b1)).push (itO l2 b2)),g,d,tk,os⟩) l3 b3 us:=IsB.push (IsB.push (hl3) _) _
  wp_walk using Jte e1,Jte e2,Jte e3
  exact ⟨_,rfl,h⟩
theorem Yb8 {prog:S7} {w:S9} {A:Sa} {E:S2->S3->Prop} {s:S3} {l1 l2 l3:S1} {b1 b2 b3:Bool} {xs ys us} {Q} (h1:IsB s.heap l1 b1 xs) (h2:IsB s.heap l2 b2 ys) (h3:IsB s.heap l3 b3 us) (h:Q (.ref (gE s.heap [(l1,b1),(l2,b2),(l3,b3)]).objs.size) {s with heap:=gF s.heap [(l1,b1),(l2,b2),(l3,b3)]}):
  Sc (model prog w) A (call (.type "zip") [.ref l1,.ref l2,.ref l3]) Q E s:=
 callType_new F.called_zip (by decide) (by kernel_rfl) (by kernel_rfl) (λobj=>Jz1 obj _ _ _) F.entry_zip_new (Yc9 l1 l2 l3 b1 b2 b3 xs ys us) ⟨h1,h2,h3,⟨_,(Jsd s.heap).1,rfl⟩,h⟩
abbrev Sk0 (K:Se) (l1 l2 l3:S1) (b1 b2 b3:Bool):It:=Jvi K [(l1,b1),(l2,b2),(l3,b3)]
theorem Svw {l1 l2 l3:S1} {b1 b2 b3:Bool} {xs ys us:List V} {K:Se} {H:Hp} (h:SqB K H l1 b1 xs/\SqB K H l2 b2 ys/\SqB K H l3 b3 us):SqN K H [(l1,b1),(l2,b2),(l3,b3)] [xs,ys,us]:=by
 obtain ⟨q1,q2,q3⟩:=h
 refine ⟨rfl,λj l x e1 e2=>?_⟩
 match j with
 |0=>cases e1;cases e2;exact q1
 |1=>cases e1;cases e2;exact q2
 |2=>cases e1;cases e2;exact q3
 |j+3=>simp at e1
theorem Sn4 {xs ys us:List V} {i:Nat} {ps:List V} {G:List V->Prop} (h:Jyy [xs,ys,us] i ps) (k:∀x y u,xs[i]?=some x->ys[i]?=some y->us[i]?=some u->G [x,y,u]):G ps:=by
 obtain ⟨l,f⟩:=h
 match ps,l with
 | [x,y,u],_=>exact k x y u (f 0 x xs rfl rfl) (f 1 y ys rfl rfl) (f 2 u us rfl rfl)
def Sqw (K:Se) (b1 b2 b3:Bool) (ta:TA):TI:=λσ H R=>ta σ H λvs H1=>∃a b c,vs= [.ref a,.ref b,.ref c]/\(∃xs,SqB K H1 a b1 xs)/\(∃xs,SqB K H1 b b2 xs)/\(∃xs,SqB K H1 c b3 xs)/\R (Sk0 K a b c b1 b2 b3) H1
theorem Jyg (b1 b2 b3) (hg:Gl X "zip") (hm:X.mg "zip" =none) (ha:PA X [a,b,c] ta) (hs:starEach [a,b,c] X.env= [(false,eval a X.env),(false,eval b X.env),(false,eval c X.env)]:=by rfl) (hs2:starEach [b,c] X.env= [(false,eval b X.env),(false,eval c X.env)]:=by rfl):
  PI X (.Tuple elts kt pt) (.Call (.Name "zip" p) [a,b,c] [] pos) (Sqw X.K b1 b2 b3 ta):=by
 intro pins s σ H R I h
 refine Call_ (Jqo I hg hm Yb (PyProof.Rows.callWith_type1 (thn (ha pos pins s σ H _ I h) λus s1 zq=>?_) (by rw [hs,hs2]) (by rw [hs2];rfl)))
 obtain ⟨vs,H1,I1,r1,q1⟩:=zq
 obtain ⟨l1,l2,l3,rfl,⟨x1,q1⟩,⟨x2,q2⟩,⟨x3,q3⟩,q⟩:=q1
 obtain rfl:=Ydd (as:=[l1,l2,l3]) r1
 obtain ⟨_,_,p1⟩:=I1.seqB q1
 obtain ⟨_,_,p2⟩:=I1.seqB q2
 obtain ⟨_,_,p3⟩:=I1.seqB q3
 refine Yb8 p1 p2 p3 (Jyx I1 (λl hl=>?_) (show 3<=S6 by decide) q)
 simp only [ym,yad,or_false] at hl
 rcases hl with rfl|rfl|rfl
 ·exact p1.lt
 ·exact p2.lt
 ·exact p3.lt
section
variable {K:Se} {g:TG} {σ:St} {H:Hp} {l1 l2 l3:S1} {b1 b2 b3:Bool} {xs ys us:List V}
theorem Ju4 {tt:TT} {te:TE} {R:Hp->Prop} (Pv:Nat->St->Hp->Prop) (h0:Pv 0 σ H) (hl:∀i σ H,i<=xs.length->Pv i σ H->SqB K H l1 b1 xs/\SqB K H l2 b2 ys/\SqB K H l3 b3 us) (e1:xs.length=ys.length) (e2:xs.length=us.length)
  (hs:∀i x y u σ H T,xs[i]?=some x->ys[i]?=some y->us[i]?=some u->Pv i σ H->H T=none->g (.ref T) σ (upd H T (.tup [x,y,u])) λσ3 H3=>tt σ3 H3 λb H4=>if b=true then te σ3 H4 (λv H5=>∃vs,H5 D=some (.lst vs)/\vs.length < S6/\Pv (i+1) σ3 (upd H5 D (.lst (vs++ [v])))) else Pv (i+1) σ3 H4)
  (hd:∀σ H,Pv xs.length σ H->R H):
  ∃W:Nat->Nat->St->Hp->Prop,(∃m,W 0 m σ H)/\∀i m σ' H',W i m σ' H'->((Sk0 K l1 l2 l3 b1 b2 b3).stop i H'/\R H')\/((Sk0 K l1 l2 l3 b1 b2 b3).go i H'/\∃N:St->Hp->Prop,(∀σ2 H2,N σ2 H2->∃m',m' < m/\W (i+1) m' σ2 H2)/\
   ∀x H2,(Sk0 K l1 l2 l3 b1 b2 b3).yld i H' x H2->g x σ' H2 λσ3 H3=>tt σ3 H3 λb H4=>if b=true then te σ3 H4 (λv H5=>∃vs,H5 D=some (.lst vs)/\vs.length < S6/\N σ3 (upd H5 D (.lst (vs++ [v])))) else N σ3 H4):=
 Ju5 (xss:=[ys,us]) Pv h0 (λi σ H hi p=>Svw (hl i σ H hi p)) (by simp only [ym,yad,or_false];rintro _ (rfl|rfl) <;> omega) (λi ps σ H T hp p hT=>Sn4 (G:=λps=>g (.ref T) σ (upd H T (.tup ps)) λσ3 H3=>tt σ3 H3 λb H4=>if b=true then te σ3 H4 (λv H5=>∃vs,H5 D=some (.lst vs)/\vs.length < S6/\Pv (i+1) σ3 (upd H5 D (.lst (vs++ [v])))) else Pv (i+1) σ3 H4) hp λx y u h1 h2 h3=>hs i x y u σ H T h1 h2 h3 p hT) hd
end
end L2
namespace L2
end L2
namespace L2
open PySem PySem.Spec PyProof.Rows PySem.W
section
variable {K:Se} {g:TG} {σ:St} {H:Hp}
theorem Yej {tb:TS} {D:Jt9} (Pv:Nat->St->Hp->Prop) (h0:Pv 0 σ H) (hl:∀i σ H,i<=xs.length->Pv i σ H->Sv K H a xs)
  (hs:∀i x σ H T,xs[i]?=some x->Pv i σ H->H T=none->g (.ref T) σ (upd H T (.tup [.int i,x])) λσ2 H2=>tb {D with nx:=Pv (i+1),ct:=Pv (i+1),bk:=D.nx} σ2 H2) (hd:∀σ H,Pv xs.length σ H->D.nx σ H):
  ∃W:Nat->Nat->St->Hp->Prop,(∃m,W 0 m σ H)/\∀i m σ H,W i m σ H->
   ((ItE K a).stop i H/\D.nx σ H)\/((ItE K a).go i H/\∃N:St->Hp->Prop,(∀σ' H',N σ' H'->∃m',m' < m/\W (i+1) m' σ' H')/\∀x H',(ItE K a).yld i H x H'->g x σ H' λσ2 H2=>tb {D with nx:=N,ct:=N,bk:=D.nx} σ2 H2):=by
 refine ⟨λi m σ H=>m=xs.length - i/\i<=xs.length/\Pv i σ H,⟨xs.length,by simp,yai _,h0⟩,?_⟩
 rintro i m σ H ⟨rfl,hi,p⟩
 have q:=hl i σ H hi p
 by_cases hlt:i < xs.length
 ·refine .inr ⟨⟨xs,xs[i],q,by simp [hlt]⟩,Pv (i+1),λσ' H' p'=>⟨xs.length - (i+1),by omega,rfl,hlt,p'⟩,λx H' y=>?_⟩
  obtain ⟨T,u,hT,rfl,hu,rfl⟩:=y
  exact hs i u σ _ T (hu xs q) p hT
 ·have e:i=xs.length:=by omega
  subst e
  exact .inl ⟨⟨xs,q,rfl⟩,hd σ H p⟩
theorem Ycs {tb:TS} {D:Jt9} (Pv:Nat->St->Hp->Prop) (h0:Pv 0 σ H) (hl:∀i σ H,i<=xs.length->Pv i σ H->Su K H a xs)
  (hs:∀i x σ H T,xs[i]?=some x->Pv i σ H->H T=none->g (.ref T) σ (upd H T (.tup [.int i,x])) λσ2 H2=>tb {D with nx:=Pv (i+1),ct:=Pv (i+1),bk:=D.nx} σ2 H2) (hd:∀σ H,Pv xs.length σ H->D.nx σ H):
  ∃W:Nat->Nat->St->Hp->Prop,(∃m,W 0 m σ H)/\∀i m σ H,W i m σ H->
   ((ItU K a).stop i H/\D.nx σ H)\/((ItU K a).go i H/\∃N:St->Hp->Prop,(∀σ' H',N σ' H'->∃m',m' < m/\W (i+1) m' σ' H')/\∀x H',(ItU K a).yld i H x H'->g x σ H' λσ2 H2=>tb {D with nx:=N,ct:=N,bk:=D.nx} σ2 H2):=by
 refine ⟨λi m σ H=>m=xs.length - i/\i<=xs.length/\Pv i σ H,⟨xs.length,by simp,yai _,h0⟩,?_⟩
 rintro i m σ H ⟨rfl,hi,p⟩
 have q:=hl i σ H hi p
 by_cases hlt:i < xs.length
 ·refine .inr ⟨⟨xs,xs[i],q,by simp [hlt]⟩,Pv (i+1),λσ' H' p'=>⟨xs.length - (i+1),by omega,rfl,hlt,p'⟩,λx H' y=>?_⟩
  obtain ⟨T,u,hT,rfl,hu,rfl⟩:=y
  exact hs i u σ _ T (hu xs q) p hT
 ·have e:i=xs.length:=by omega
  subst e
  exact .inl ⟨⟨xs,q,rfl⟩,hd σ H p⟩
theorem Yba {xs} {tt:TT} {te:TE} {R:Hp->Prop} (Pv:Nat->St->Hp->Prop) (h0:Pv 0 σ H) (hl:∀i σ H,i<=xs.length->Pv i σ H->Su K H a xs)
  (hs:∀i x σ H T,xs[i]?=some x->Pv i σ H->H T=none->g (.ref T) σ (upd H T (.tup [.int i,x])) λσ3 H3=>tt σ3 H3 λb H4=>if b=true then te σ3 H4 (λv H5=>∃vs,H5 D=some (.lst vs)/\vs.length < S6/\Pv (i+1) σ3 (upd H5 D (.lst (vs++ [v])))) else Pv (i+1) σ3 H4)
  (hd:∀σ H,Pv xs.length σ H->R H):
  ∃W:Nat->Nat->St->Hp->Prop,(∃m,W 0 m σ H)/\∀i m σ' H',W i m σ' H'->((ItU K a).stop i H'/\R H')\/((ItU K a).go i H'/\∃N:St->Hp->Prop,(∀σ2 H2,N σ2 H2->∃m',m' < m/\W (i+1) m' σ2 H2)/\
   ∀x H2,(ItU K a).yld i H' x H2->g x σ' H2 λσ3 H3=>tt σ3 H3 λb H4=>if b=true then te σ3 H4 (λv H5=>∃vs,H5 D=some (.lst vs)/\vs.length < S6/\N σ3 (upd H5 D (.lst (vs++ [v])))) else N σ3 H4):=by
 refine ⟨λi m σ H=>m=xs.length - i/\i<=xs.length/\Pv i σ H,⟨xs.length,by simp,yai _,h0⟩,?_⟩
 rintro i m σ H ⟨rfl,hi,p⟩
 have q:=hl i σ H hi p
 by_cases hlt:i < xs.length
 ·refine .inr ⟨⟨xs,xs[i],q,by simp [hlt]⟩,Pv (i+1),λσ' H' p'=>⟨xs.length - (i+1),by omega,rfl,hlt,p'⟩,λx H' y=>?_⟩
  obtain ⟨T,u,hT,rfl,hu,rfl⟩:=y
  exact hs i u σ _ T (hu xs q) p hT
 ·have e:i=xs.length:=by omega
  subst e
  exact .inl ⟨⟨xs,q,rfl⟩,hd σ H p⟩
end
section
variable {X:Cx}
theorem Yr {K} (h:X.K=K):OpR X (compareOp .In) (rIn K false):=by subst h;exact Ybp
theorem Jwe {K} (h:X.K=K):Jpd X (.builtin "len") (λxs H Q=>∃p ys,xs= [.ref p]/\(Sv K H p ys\/Su K H p ys)/\Q (.int ys.length) H):=by subst h;exact Jn8
theorem Jx8 {K} (h:X.K=K) (hc:X.calm=true):Jpd X (.builtin "sum") (Srb K):=by subst h;exact Jo3 hc
theorem Joj {K} (h:X.K=K) (he:PE X e ta) (hb:attributeBase e f X.env (eval e X.env)=eval e X.env):PE X (.Attribute e f pos) (Sru K ta f):=by subst h;exact Jna he hb
theorem Yt {K} (h1:X.prog=P) (h2:X.w=w) (h3:X.K=K) (h4:X.mg=mg) (h5:X.base=base) (he:PE X o ta) (hr:San j X.A)
  (ht:eval (.Call (.Attribute o m apos) [] [] pos) X.env=(do
   let ov<-eval o X.env
   standAt apos.atName
   let (f,first)<-holding [ov] (getMethod ov m pl)
   callWith pos f first (backTo pos (starEach [] X.env)) (backToKw pos (keywordEach [] X.env))):=by rfl):PE X (.Call (.Attribute o m apos) [] [] pos) (Jyt P w K mg base j m ta Jwz):=by
 subst h1 h2 h3 h4 h5
 exact Jug he hr ht
end
section
variable {X:Cx} {pos:Pos}
theorem Jqj {K} {k} (h1:X.K=K) (hc:X.calm=true) (h:PGs X es t)
  (hn:(assignEach es X.env).length=n:=by rfl) (hst:(assignEach es X.env).findIdx? (·.1)=none:=by rfl):PG X (.Tuple es k pos) (Sj9 K n t):=by
 subst h1
 exact Jr7 hc h hn hst
end
section
variable {g:TG} {tt:TT} {te:TE} {H:Hp} {D:S1} {σ:St} {R:Hp->Prop}
theorem Jz6 {K} {a} {xs} (Pv:Nat->St->Hp->Prop) (h0:Pv 0 σ H) (hl:∀i σ H,i<=xs.length->Pv i σ H->Su K H a xs)
  (hs:∀i x σ H,xs[i]?=some x->Pv i σ H->g x σ H λσ3 H3=>tt σ3 H3 λb H4=>if b=true then te σ3 H4 (λv H5=>∃ys,H5 D=some (.lst ys)/\ys.length < S6/\Pv (i+1) σ3 (upd H5 D (.lst (ys++ [v])))) else Pv (i+1) σ3 H4)
  (hd:∀σ H,Pv xs.length σ H->R H):
  ∃W:Nat->Nat->St->Hp->Prop,(∃m,W 0 m σ H)/\∀i m σ' H',W i m σ' H'->((Itt K a).stop i H'/\R H')\/((Itt K a).go i H'/\∃N:St->Hp->Prop,(∀σ2 H2,N σ2 H2->∃m',m' < m/\W (i+1) m' σ2 H2)/\
   ∀x H2,(Itt K a).yld i H' x H2->g x σ' H2 λσ3 H3=>tt σ3 H3 λb H4=>if b=true then te σ3 H4 (λv H5=>∃ys,H5 D=some (.lst ys)/\ys.length < S6/\N σ3 (upd H5 D (.lst (ys++ [v])))) else N σ3 H4):=by
 refine ⟨λi m σ H=>m=xs.length - i/\i<=xs.length/\Pv i σ H,⟨xs.length,by simp,yai _,h0⟩,?_⟩
 rintro i m σ H ⟨rfl,hi,p⟩
 have q:=hl i σ H hi p
 by_cases hlt:i < xs.length
 ·refine .inr ⟨⟨xs,xs[i],q,by simp [hlt]⟩,Pv (i+1),λσ' H' p'=>⟨xs.length - (i+1),by omega,rfl,hlt,p'⟩,λx H' y=>?_⟩
  obtain ⟨e,y⟩:=y
  subst e
  exact hs i x σ _ (y xs q) p
 ·have e:i=xs.length:=by omega
  subst e
  exact .inl ⟨⟨xs,q,yk _⟩,hd σ H p⟩
end
theorem Jp4 {K} {a D} {xs} {te:TE} {R:Hp->Prop} {H} {o} {rest} (ys) (hD:H D=none) (el:ys.length=xs.length) (sz:xs.length<=2000) (hq:H a=some (.lst xs))
  (he:∀(i:Nat) x y H' Q,xs[i]?=some x->ys[i]?=some y->Sj H H'->(∀H5,Sj H' H5->Q y H5)->te (some x::rest) H' Q) (hd:∀H',Sj H H'->H' D=some (.lst ys)->R H'):
  ∃W:Nat->Nat->St->Hp->Prop,(∃m,W 0 m (o::rest) (upd H D (.lst [])))/\∀i m σ' H',W i m σ' H'->((Itl K a).stop i H'/\R H')\/((Itl K a).go i H'/\∃N:St->Hp->Prop,(∀σ2 H2,N σ2 H2->∃m',m' < m/\W (i+1) m' σ2 H2)/\
   ∀x H2,(Itl K a).yld i H' x H2->Jpa 0 x σ' H2 λσ3 H3=>Y3 σ3 H3 λb H4=>if b=true then te σ3 H4 (λv H5=>∃ys,H5 D=some (.lst ys)/\ys.length < S6/\N σ3 (upd H5 D (.lst (ys++ [v])))) else N σ3 H4):=by
 refine Jok (λi σ H'=>(∃o,σ=o::rest)/\H' D=some (.lst (ys.take i))/\Sj H H') ⟨⟨_,rfl⟩,Sr,Sj.upd hD⟩ (λi σ H' _ ⟨_,_,sm⟩=>Sv.of (sm _ _ hq)) ?_ ?_
 ·rintro i x σ H' hx ⟨⟨o,rfl⟩,hDs,sm⟩
  have hi:i < ys.length:=by rw [el];exact (yj.mp hx).1
  refine Jo9 (he i x ys[i] H' _ hx (yh hi) sm λH5 s5=>⟨_,s5 _ _ hDs,?_,⟨_,rfl⟩,?_,λc u z=>?_⟩)
  ·rw [yy]
   exact Jno (by omega)
  ·rw [Sr,yag,yh hi]
   rfl
  ·rw [Sz (Jmw z hD)]
   exact s5 _ _ (sm _ _ z)
 ·rintro σ H' ⟨_,hDs,sm⟩
  rw [yac (by omega)] at hDs
  exact hd H' sm hDs
theorem Jos {K} {a D} {xs} {te:TE} {R:Hp->Prop} {H} {o} {rest} (ys) (hD:H D=none) (el:ys.length=xs.length) (sz:xs.length<=2000) (hq:H a=some (.tup xs))
  (he:∀(i:Nat) x y H' Q,xs[i]?=some x->ys[i]?=some y->Sj H H'->(∀H5,Sj H' H5->Q y H5)->te (some x::rest) H' Q) (hd:∀H',Sj H H'->H' D=some (.lst ys)->R H'):
  ∃W:Nat->Nat->St->Hp->Prop,(∃m,W 0 m (o::rest) (upd H D (.lst [])))/\∀i m σ' H',W i m σ' H'->((Itt K a).stop i H'/\R H')\/((Itt K a).go i H'/\∃N:St->Hp->Prop,(∀σ2 H2,N σ2 H2->∃m',m' < m/\W (i+1) m' σ2 H2)/\
   ∀x H2,(Itt K a).yld i H' x H2->Jpa 0 x σ' H2 λσ3 H3=>Y3 σ3 H3 λb H4=>if b=true then te σ3 H4 (λv H5=>∃ys,H5 D=some (.lst ys)/\ys.length < S6/\N σ3 (upd H5 D (.lst (ys++ [v])))) else N σ3 H4):=by
 refine Jz6 (λi σ H'=>(∃o,σ=o::rest)/\H' D=some (.lst (ys.take i))/\Sj H H') ⟨⟨_,rfl⟩,Sr,Sj.upd hD⟩ (λi σ H' _ ⟨_,_,sm⟩=>Su.of (sm _ _ hq)) ?_ ?_
 ·rintro i x σ H' hx ⟨⟨o,rfl⟩,hDs,sm⟩
  have hi:i < ys.length:=by rw [el];exact (yj.mp hx).1
  refine Jo9 (he i x ys[i] H' _ hx (yh hi) sm λH5 s5=>⟨_,s5 _ _ hDs,?_,⟨_,rfl⟩,?_,λc u z=>?_⟩)
  ·rw [yy]
   exact Jno (by omega)
  ·rw [Sr,yag,yh hi]
   rfl
  ·rw [Sz (Jmw z hD)]
   exact s5 _ _ (sm _ _ z)
 ·rintro σ H' ⟨_,hDs,sm⟩
  rw [yac (by omega)] at hDs
  exact hd H' sm hDs
section
variable {X:Cx}
theorem Yd2 {K} (h:X.K=K):MtR X "str.join" (Slt K):=by subst h;exact Yer
theorem Ydh {K} (h:X.K=K):SlR X (Sra K):=by subst h;exact Yay
theorem Snj {K} {apos cpos} {id} (h:X.K=K) (pa:PlainAttrs T) (slot:Slot T name id) (hty:typeOf (.builtin id)=pure (.type "method_descriptor")) (hm:MtR X id r) (ho:PE X o to) (ha:PA X (e::es) t)
  (hbase:attributeBase o name X.env (eval o X.env)=eval o X.env:=by rfl)
  (hfew:((backTo cpos (starEach (e::es) X.env)).all (λx=>!x.1)&&(backToKw cpos (keywordEach [] X.env)).all (λx=>x.1.isSome)
   &&decide ((e::es).length+([]:List Keyword).length+(if ([]:List Keyword).isEmpty then 0 else 1) < 30))=true:=by rfl)
  (hline:(apos.endLine==cpos.line)=true:=by rfl) (hs:starEach (e::es) X.env=(false,eval e X.env)::starEach es X.env:=by rfl) (hplain:(backTo cpos (starEach es X.env)).any (·.1)=false:=by rfl):
  PE X (.Call (.Attribute o name apos) (e::es) [] cpos) (tBM K T r to t):=by
 subst h
 exact Js0 pa slot hty hm ho ha hbase hfew hline hs hplain
end
theorem But.new (b:But p H H') (hD:H D=none) (hp:Sbj H p):But p H (upd H' D o):=by
 have ne:p≠D:=λe=>by obtain ⟨_,_,_,q⟩:=hp;rw [e,hD] at q;cases q
 refine ⟨λc u n e=>?_,?_⟩
 ·rw [Sz (λz=>by subst z;rw [hD] at e;cases e)]
  exact b.1 c u n e
 ·obtain ⟨x,y,z,q⟩:=b.2
  exact ⟨x,y,z,by rw [Sz ne];exact q⟩
inductive Sr3 (x:V) (y:V) (H:Hp) (Q:VK):Prop where
 |mk (a:_) (b:_) (xs:_) (ys:_) (_:x= .ref a) (_:y= .ref b) (_:H a=some (.tup xs)) (_:H b=some (.tup ys)) (_:xs.length+ys.length<=S6) (_:∀p H',Sj H H'->H' p=some (.tup (xs++ys))->Q (.ref p) H')
section
variable {X:Cx}
theorem Yap:OpR X (binaryOp .Add) Sr3:=by
 rintro pins s σ H x y v u Q I rx ry ⟨a,b,xs,ys,rfl,rfl,ha,hb,hz,q⟩
 by_cases hx:xs= []
 ·subst hx
  obtain rfl:v=Value.ref a:=rx
  obtain rfl:u=Value.ref b:=ry
  obtain ⟨its,r1,ht,_⟩:=I.tuple (Su.of ha)
  obtain ⟨its2,r2,hb',_⟩:=I.tuple (Su.of hb)
  obtain rfl:its= []:=r1.nil_iff.mpr rfl
  obtain ⟨⟨cls,dd,data,sl⟩,ho,hc,n,hd⟩:=id ht
  obtain ⟨⟨cls2,dd2,data2,sl2⟩,ho2,hc2,n2,hd2⟩:=id hb'
  subst hc hd hc2 hd2
  exact concat_meets ⟨_,ho,rfl⟩ ⟨_,ho2,rfl⟩ noFill_tuple_add seq_tuple_add PySem.F.slot_tuple_add PySem.F.entry_tuple_add (PySem.F.args_tuple_add_2 _ _)
   (tuple_addW0 a b _ _ n n2 dd dd2 sl sl2 (by simp)) ⟨ho,ho2,⟨.ref b,H,I,rfl,q b H (Sj.refl H) hb⟩⟩
 ·refine Yey pins s σ H _ _ v u Q I rx ry ⟨a,b,xs,ys,rfl,rfl,Su.of ha,Su.of hb,hx,hz,λe=>?_,λ_ p hp=>q p _ (Sj.upd hp) Sr⟩
  subst e
  exact q a H (Sj.refl H) (by rw [ybe];exact ha)
end
theorem Jz2 (a b c d e):argsOk "object.__init__" ⟨[a,b,c,d,e],[]⟩:=by
 unfold argsOk;rw [signature?_of (n:=['_','_','t','i','n','i','_','_']) (by kernel_rfl) F.owner_object];kernel_rfl
set_option maxRecDepth 100000 in
set_option maxHeartbeats 4000000 in
theorem Yca (l1 l2 l3 l4:S1) (b1 b2 b3 b4:Bool) (xs ys us vs):
  Meets (Builtin.«zip.__new__» ⟨[.type "zip",.ref l1,.ref l2,.ref l3,.ref l4],[]⟩) (λ_ R s=>IsB s.heap l1 b1 xs/\IsB s.heap l2 b2 ys/\IsB s.heap l3 b3 us/\IsB s.heap l4 b4 vs/\
   R (.ok (.ret (.ref (gE s.heap [(l1,b1),(l2,b2),(l3,b3),(l4,b4)]).objs.size))) {s with heap:=gF s.heap [(l1,b1),(l2,b2),(l3,b3),(l4,b4)]}):=
 .of_wp λprog w A R s h=>by
  obtain ⟨hp,g,d,tk,os⟩:=s
  obtain ⟨hl1,hl2,hl3,hl4,h⟩:=h
  have e0:=sub_zip
  have e1:=hl1
  have e2:IsB (Shared.heap ⟨(hp.push (itO l1 b1)),g,d,tk,os⟩) l2 b2 ys:=IsB.push (hl2) _
  have e3:IsB (Shared.heap ⟨((hp.push (itO l1 b1)).push (itO l2 b2)),g,d,tk,os⟩) l3 b3 us:=IsB.push (IsB.push (hl3) _) _
  have e4:IsB (Shared.heap ⟨(((hp.push (itO l1 b1)).push (itO l2 b2)).push (itO l3 b3)),g,d,tk,os⟩) l4 b4 vs:=IsB.push (IsB.push (IsB.push (hl4) _) _) _
  wp_walk using Jte e1,Jte e2,Jte e3,Jte e4
  exact ⟨_,rfl,h⟩
theorem Yb9 {prog:S7} {w:S9} {A:Sa} {E:S2->S3->Prop} {s:S3} {l1 l2 l3 l4:S1} {b1 b2 b3 b4:Bool} {xs ys us vs} {Q} (h1:IsB s.heap l1 b1 xs) (h2:IsB s.heap l2 b2 ys) (h3:IsB s.heap l3 b3 us) (h4:IsB s.heap l4 b4 vs) (h:Q (.ref (gE s.heap [(l1,b1),(l2,b2),(l3,b3),(l4,b4)]).objs.size) {s with heap:=gF s.heap [(l1,b1),(l2,b2),(l3,b3),(l4,b4)]}):
  Sc (model prog w) A (call (.type "zip") [.ref l1,.ref l2,.ref l3,.ref l4]) Q E s:=
 callType_new F.called_zip (by decide) (by kernel_rfl) (by kernel_rfl) (λobj=>Jz2 obj _ _ _ _) F.entry_zip_new (Yca l1 l2 l3 l4 b1 b2 b3 b4 xs ys us vs) ⟨h1,h2,h3,h4,⟨_,(Jsd s.heap).1,rfl⟩,h⟩
abbrev Sk1 (K:Se) (l1 l2 l3 l4:S1) (b1 b2 b3 b4:Bool):It:=Jvi K [(l1,b1),(l2,b2),(l3,b3),(l4,b4)]
theorem Svx {l1 l2 l3 l4:S1} {b1 b2 b3 b4:Bool} {xs ys us vs:List V} {K:Se} {H:Hp} (h:SqB K H l1 b1 xs/\SqB K H l2 b2 ys/\SqB K H l3 b3 us/\SqB K H l4 b4 vs):SqN K H [(l1,b1),(l2,b2),(l3,b3),(l4,b4)] [xs,ys,us,vs]:=by
 obtain ⟨q1,q2,q3,q4⟩:=h
 refine ⟨rfl,λj l x e1 e2=>?_⟩
 match j with
 |0=>cases e1;cases e2;exact q1
 |1=>cases e1;cases e2;exact q2
 |2=>cases e1;cases e2;exact q3
 |3=>cases e1;cases e2;exact q4
 |j+4=>simp at e1
theorem Sn5 {xs ys us vs:List V} {i:Nat} {ps:List V} {G:List V->Prop} (h:Jyy [xs,ys,us,vs] i ps) (k:∀x y u v,xs[i]?=some x->ys[i]?=some y->us[i]?=some u->vs[i]?=some v->G [x,y,u,v]):G ps:=by
 obtain ⟨l,f⟩:=h
 match ps,l with
 | [x,y,u,v],_=>exact k x y u v (f 0 x xs rfl rfl) (f 1 y ys rfl rfl) (f 2 u us rfl rfl) (f 3 v vs rfl rfl)
def Sqx (K:Se) (b1 b2 b3 b4:Bool) (ta:TA):TI:=λσ H R=>ta σ H λvs H1=>∃a b c d,vs= [.ref a,.ref b,.ref c,.ref d]/\(∃xs,SqB K H1 a b1 xs)/\(∃xs,SqB K H1 b b2 xs)/\(∃xs,SqB K H1 c b3 xs)/\(∃xs,SqB K H1 d b4 xs)/\R (Sk1 K a b c d b1 b2 b3 b4) H1
theorem Yf2 (b1 b2 b3 b4) (hg:Gl X "zip") (hm:X.mg "zip" =none) (ha:PA X [a,b,c,d] ta) (hs:starEach [a,b,c,d] X.env= [(false,eval a X.env),(false,eval b X.env),(false,eval c X.env),(false,eval d X.env)]:=by rfl) (hs2:starEach [b,c,d] X.env= [(false,eval b X.env),(false,eval c X.env),(false,eval d X.env)]:=by rfl):
  PI X (.Tuple elts kt pt) (.Call (.Name "zip" p) [a,b,c,d] [] pos) (Sqx X.K b1 b2 b3 b4 ta):=by
 intro pins s σ H R I h
 refine Call_ (Jqo I hg hm Yb (PyProof.Rows.callWith_type1 (thn (ha pos pins s σ H _ I h) λus s1 zq=>?_) (by rw [hs,hs2]) (by rw [hs2];rfl)))
 obtain ⟨vs,H1,I1,r1,q1⟩:=zq
 obtain ⟨l1,l2,l3,l4,rfl,⟨x1,q1⟩,⟨x2,q2⟩,⟨x3,q3⟩,⟨x4,q4⟩,q⟩:=q1
 obtain rfl:=Ydd (as:=[l1,l2,l3,l4]) r1
 obtain ⟨_,_,p1⟩:=I1.seqB q1
 obtain ⟨_,_,p2⟩:=I1.seqB q2
 obtain ⟨_,_,p3⟩:=I1.seqB q3
 obtain ⟨_,_,p4⟩:=I1.seqB q4
 refine Yb9 p1 p2 p3 p4 (Jyx I1 (λl hl=>?_) (show 4<=S6 by decide) q)
 simp only [ym,yad,or_false] at hl
 rcases hl with rfl|rfl|rfl|rfl
 ·exact p1.lt
 ·exact p2.lt
 ·exact p3.lt
 ·exact p4.lt
section
variable {K:Se} {g:TG} {σ:St} {H:Hp} {l1 l2 l3 l4:S1} {b1 b2 b3 b4:Bool} {xs ys us vs:List V}
theorem Ybc {tt:TT} {te:TE} {R:Hp->Prop} (Pv:Nat->St->Hp->Prop) (h0:Pv 0 σ H) (hl:∀i σ H,i<=xs.length->Pv i σ H->SqB K H l1 b1 xs/\SqB K H l2 b2 ys/\SqB K H l3 b3 us/\SqB K H l4 b4 vs) (e1:xs.length=ys.length) (e2:xs.length=us.length) (e3:xs.length=vs.length)
  (hs:∀i x y u v σ H T,xs[i]?=some x->ys[i]?=some y->us[i]?=some u->vs[i]?=some v->Pv i σ H->H T=none->g (.ref T) σ (upd H T (.tup [x,y,u,v])) λσ3 H3=>tt σ3 H3 λb H4=>if b=true then te σ3 H4 (λv H5=>∃vs,H5 D=some (.lst vs)/\vs.length < S6/\Pv (i+1) σ3 (upd H5 D (.lst (vs++ [v])))) else Pv (i+1) σ3 H4)
  (hd:∀σ H,Pv xs.length σ H->R H):
  ∃W:Nat->Nat->St->Hp->Prop,(∃m,W 0 m σ H)/\∀i m σ' H',W i m σ' H'->((Sk1 K l1 l2 l3 l4 b1 b2 b3 b4).stop i H'/\R H')\/((Sk1 K l1 l2 l3 l4 b1 b2 b3 b4).go i H'/\∃N:St->Hp->Prop,(∀σ2 H2,N σ2 H2->∃m',m' < m/\W (i+1) m' σ2 H2)/\
   ∀x H2,(Sk1 K l1 l2 l3 l4 b1 b2 b3 b4).yld i H' x H2->g x σ' H2 λσ3 H3=>tt σ3 H3 λb H4=>if b=true then te σ3 H4 (λv H5=>∃vs,H5 D=some (.lst vs)/\vs.length < S6/\N σ3 (upd H5 D (.lst (vs++ [v])))) else N σ3 H4):=
 Ju5 (xss:=[ys,us,vs]) Pv h0 (λi σ H hi p=>Svx (hl i σ H hi p)) (by simp only [ym,yad,or_false];rintro _ (rfl|rfl|rfl) <;> omega) (λi ps σ H T hp p hT=>Sn5 (G:=λps=>g (.ref T) σ (upd H T (.tup ps)) λσ3 H3=>tt σ3 H3 λb H4=>if b=true then te σ3 H4 (λv H5=>∃vs,H5 D=some (.lst vs)/\vs.length < S6/\Pv (i+1) σ3 (upd H5 D (.lst (vs++ [v])))) else Pv (i+1) σ3 H4) hp λx y u v h1 h2 h3 h4=>hs i x y u v σ H T h1 h2 h3 h4 p hT) hd
theorem Ss1 {T} {x y u v} {σ} {H} {A B:L2.St->Hp->Prop} (hT:Su K H T [x,y,u,v]) (h:A ((((σ.set i (some x)).set j (some y)).set k (some u)).set l (some v)) H):
  Sj9 K 4 (Jso (Jpa i) (Jso (Jpa j) (Jso (Jpa k) (Jso (Jpa l) Sks)))) (.ref T) σ H λσ3 H3=>Y3 σ3 H3 λb H4=>if b=true then A σ3 H4 else B σ3 H4:=⟨T,_,rfl,hT,rfl,_,_,rfl,_,_,rfl,_,_,rfl,_,_,rfl,rfl,h⟩
end
end L2
namespace L2
end L2
namespace L2
open PySem PySem.Spec PyProof.Rows PySem.W
theorem Ybr {K} {m} {apos pos} {pl} (h1:X.prog=P) (h2:X.w=w) (h3:X.K=K) (h4:X.mg=mg) (h5:X.base=base) (he:PE X o ta) (hr:San j X.A) (ha:PA X (e::es) t)
  (hst:starEach (e::es) X.env=(false,eval e X.env)::starEach es X.env:=by rfl) (hpl:(backTo pos (starEach es X.env)).any (·.1)=false:=by rfl)
  (ht:eval (.Call (.Attribute o m apos) (e::es) [] pos) X.env=(do
   let ov<-eval o X.env
   standAt apos.atName
   let (f,first)<-holding [ov] (getMethod ov m pl)
   callWith pos f first (backTo pos (starEach (e::es) X.env)) (backToKw pos (keywordEach [] X.env))):=by rfl):
  PE X (.Call (.Attribute o m apos) (e::es) [] pos) (Jyt P w K mg base j m ta t):=by
 subst h1 h2 h3 h4 h5
 exact Jtm he hr ha hst hpl ht
inductive Sr5 (K:Se) (x:V) (y:V) (H:Hp) (Q:VK):Prop where
 |mk (p:_) (xs:_) (i:_) (v:_) (_:x= .ref p) (_:y= .int i) (_:Sv K H p xs) (_:0<=i) (_:atI xs i=some v) (_:Q v H)
theorem Yct:Sqi X (Sr5 X.K):=by
 rintro pins s σ H x y v u Q I rx ry ⟨p,xs,i,z,rfl,rfl,hq,h0,he,q⟩
 cases rx
 obtain ⟨t,rfl⟩:=ry
 obtain ⟨its,r,pl,hz⟩:=I.list hq
 obtain ⟨j,h1,h2,h3,h4,h5⟩:=Jvb he
 obtain ⟨w,ew,rw'⟩:=r.get h2
 have hn:=Jrt
 have hj:=by
  rw [seqIndex_of h0 h5] at h1
  exact yv.inj h1
 exact wpAny_getItem_list pl.isList h0 (by omega) (by rw [hj];simpa using ew) ⟨z,H,I,rw',q⟩
section
variable {X:Cx}
end
inductive Yf5 (K:Se) (x:V) (vs:List V) (H:Hp) (Q:VK):Prop where
 |mk (p:S1) (zs:List Str) (z:Str) (_:x= .ref p) (_:vs= [.str z]) (_:H p=some (.lst (zs.map V.str))) (_:z∈zs) (_:Q (.int (zs.idxOf z)) H)
theorem Jun:∀{l:List Str} {m} {z},l[m]?=some z->l.idxOf z<=m
 | [],_,_,h=>by simp at h
 |x::l,0,z,h=>by
  have e:x=z:=by simpa using h
  rw [e]
  simp
 |x::l,m+1,z,h=>by
  rw [List.idxOf_cons]
  cases x==z
  ·simpa using (Jun (by simpa using h))
  ·simp
section
variable {X:Cx}
theorem Jzc:MtR X "list.index" (Yf5 X.K):=by
 rintro pins s σ H x vs v us Q I rx rv ⟨p,zs,z,rfl,rfl,hp,hz,q⟩
 obtain rfl:v=Value.ref p:=rx
 obtain ⟨u,rfl,ru⟩:=Jqg rv
 obtain ⟨tk,rfl⟩:∃tk,u=Value.str z tk:=ru
 obtain ⟨hs,its,n,r,hl,e⟩:=I.lstM hp
 have hj:=List.idxOf_lt_length_of_mem hz
 have hlen:its.length=zs.length:=by rw [<-hl,yf]
 have at_:∀(i:Nat) hi,∃t,its[i]?=some (Value.str zs[i] t):=λi hi=>by
  obtain ⟨y,hy,ry⟩:=r.get (by rw [yg,yh hi];rfl)
  obtain ⟨t,rfl⟩:∃t,y=Value.str zs[i] t:=ry
  exact ⟨t,hy⟩
 have hz63:=Jrt
 refine call_meets F.slot_list_index ⟨_,e,rfl⟩ F.entry_list_index (F.args_list_index_2 _ _)
  (MeetsSeq.list_index p its.toArray n (.str z tk) (isStrOf z) (λy hy=>?_) (zs.idxOf z) (by rw [yn];omega) (by omega) ?_ ?_) ⟨e,?_⟩
 ·obtain ⟨i,hi⟩:=ybc (by simpa using hy:y∈its)
  have hi':i < zs.length:=by have:=(yj.mp hi).1;omega
  obtain ⟨t,ht⟩:=at_ i hi'
  rw [hi] at ht
  cases ht
  exact eqGives_str _ _ _ _
 ·obtain ⟨t,ht⟩:=at_ _ hj
  have e1:its.toArray[zs.idxOf z]'(by rw [yn];omega)=Value.str z t:=by
   have:=yj.mp ht
   simpa using this.2
  rw [e1]
  show (z==z)=true
  simp
 ·intro m hm hlt
  have hm':m < zs.length:=by omega
  obtain ⟨t,ht⟩:=at_ m hm'
  have e1:its.toArray[m]'hm=Value.str zs[m] t:=by
   have:=yj.mp ht
   simpa using this.2
  rw [e1]
  have ne:zs[m]≠z:=λq=>by
   have:=Jun (by rw [yh hm',q])
   omega
  exact beq_false_of_ne ne
 ·exact ⟨.int _,H,I.tok _,⟨_,rfl⟩,q⟩
end
theorem ft_mk {K} (X:K.In h) (G:h.Ns mainGlobals mg) {st} {kV ct} (a:PySem.W.nsIn K mainGlobals q=some (some (.ref f)))
  (l:K.lookup f=some ⟨oc,od,.func (PySem.W.fnOf q q (Jo0 st) (Jnw st) (Jmt st) .none kV dc pm an cd ct),sl⟩) (c:PySem.W.codeIn K cd q=true) (k:PySem.W.keepIn K (.ref f)=true)
  (hb:∀kV doc pm an cdv ct us,us.length=ps.length->bindArgs (PySem.W.fnOf q q (Jo0 st) (Jnw st) (Jmt st) .none kV doc pm an cdv ct) ⟨us,[]⟩=pure (ps.zip us)):FT K mg q st ps f (PySem.W.fnOf q q (Jo0 st) (Jnw st) (Jmt st) .none kV dc pm an cd ct):=
 ⟨PySem.W.mg_of X G a,Jxu l c k,(Jxu l c k).binds hb⟩
theorem fm_mk {K} {st} {kV ct}
  (l:K.lookup f=some ⟨oc,od,.func (PySem.W.fnOf n q (Jo0 st) (Jnw st) (Jmt st) .none kV dc pm an cd ct),sl⟩) (c:PySem.W.codeIn K cd q=true) (k:PySem.W.keepIn K (.ref f)=true)
  (hb:∀kV doc pm an cdv ct us,us.length=ps.length->bindArgs (PySem.W.fnOf n q (Jo0 st) (Jnw st) (Jmt st) .none kV doc pm an cdv ct) ⟨us,[]⟩=pure (ps.zip us)):FM K n q st ps f (PySem.W.fnOf n q (Jo0 st) (Jnw st) (Jmt st) .none kV dc pm an cd ct):=
 ⟨Jxu l c k,(Jxu l c k).binds hb⟩
theorem xc_mk {K} {sub}
  (l:K.lookup C=some (excClassObj nm q C N bs (.ref W::VEm) true sn sub ab col dd u v w x y "ValueError.__new__")) (t:PySem.W.tailIn K VEm (.ref W::VEm)=true) (a:xcB K C fI=true):Sam K C W fI:=⟨⟨_,_,_,_,_,_,_,_,_,_,_,_,_,_,l⟩,t,a⟩
theorem ec_mk {K} (l:K.lookup C=some ⟨.type "type",dd,.cls cl,s⟩) (m:Sh K C (.type "BaseException")=some true):Stl K C:=⟨⟨_,_,_,l⟩,m⟩
section
variable {K:Se} {g:TG} {σ:St} {H:Hp}
theorem Yck {xs} {tt:TT} {te:TE} {R:Hp->Prop} (Pv:Nat->St->Hp->Prop) (h0:Pv 0 σ H) (hl:∀i σ H,i<=xs.length->Pv i σ H->Sv K H a xs)
  (hs:∀i x σ H T,xs[i]?=some x->Pv i σ H->H T=none->g (.ref T) σ (upd H T (.tup [.int i,x])) λσ3 H3=>tt σ3 H3 λb H4=>if b=true then te σ3 H4 (λv H5=>∃vs,H5 D=some (.lst vs)/\vs.length < S6/\Pv (i+1) σ3 (upd H5 D (.lst (vs++ [v])))) else Pv (i+1) σ3 H4)
  (hd:∀σ H,Pv xs.length σ H->R H):
  ∃W:Nat->Nat->St->Hp->Prop,(∃m,W 0 m σ H)/\∀i m σ' H',W i m σ' H'->((ItE K a).stop i H'/\R H')\/((ItE K a).go i H'/\∃N:St->Hp->Prop,(∀σ2 H2,N σ2 H2->∃m',m' < m/\W (i+1) m' σ2 H2)/\
   ∀x H2,(ItE K a).yld i H' x H2->g x σ' H2 λσ3 H3=>tt σ3 H3 λb H4=>if b=true then te σ3 H4 (λv H5=>∃vs,H5 D=some (.lst vs)/\vs.length < S6/\N σ3 (upd H5 D (.lst (vs++ [v])))) else N σ3 H4):=by
 refine ⟨λi m σ H=>m=xs.length - i/\i<=xs.length/\Pv i σ H,⟨xs.length,by simp,yai _,h0⟩,?_⟩
 rintro i m σ H ⟨rfl,hi,p⟩
 have q:=hl i σ H hi p
 by_cases hlt:i < xs.length
 ·refine .inr ⟨⟨xs,xs[i],q,by simp [hlt]⟩,Pv (i+1),λσ' H' p'=>⟨xs.length - (i+1),by omega,rfl,hlt,p'⟩,λx H' y=>?_⟩
  obtain ⟨T,u,hT,rfl,hu,rfl⟩:=y
  exact hs i u σ _ T (hu xs q) p hT
 ·have e:i=xs.length:=by omega
  subst e
  exact .inl ⟨⟨xs,q,rfl⟩,hd σ H p⟩
end
theorem Jz0 (a b c):argsOk "object.__init__" ⟨[a,b,c],[]⟩:=by
 unfold argsOk;rw [signature?_of (n:=['_','_','t','i','n','i','_','_']) (by kernel_rfl) F.owner_object];kernel_rfl
set_option maxRecDepth 100000 in
set_option maxHeartbeats 4000000 in
theorem Yc8 (l1 l2:S1) (b1 b2:Bool) (xs ys):
  Meets (Builtin.«zip.__new__» ⟨[.type "zip",.ref l1,.ref l2],[]⟩) (λ_ R s=>IsB s.heap l1 b1 xs/\IsB s.heap l2 b2 ys/\
   R (.ok (.ret (.ref (gE s.heap [(l1,b1),(l2,b2)]).objs.size))) {s with heap:=gF s.heap [(l1,b1),(l2,b2)]}):=
 .of_wp λprog w A R s h=>by
  obtain ⟨hp,g,d,tk,os⟩:=s
  obtain ⟨hl1,hl2,h⟩:=h
  have e0:=sub_zip
  have e1:=hl1
  have e2:IsB (Shared.heap ⟨(hp.push (itO l1 b1)),g,d,tk,os⟩) l2 b2 ys:=IsB.push (hl2) _
  wp_walk using Jte e1,Jte e2
  exact ⟨_,rfl,h⟩
theorem Yb7 {prog:S7} {w:S9} {A:Sa} {E:S2->S3->Prop} {s:S3} {l1 l2:S1} {b1 b2:Bool} {xs ys} {Q} (h1:IsB s.heap l1 b1 xs) (h2:IsB s.heap l2 b2 ys) (h:Q (.ref (gE s.heap [(l1,b1),(l2,b2)]).objs.size) {s with heap:=gF s.heap [(l1,b1),(l2,b2)]}):
  Sc (model prog w) A (call (.type "zip") [.ref l1,.ref l2]) Q E s:=
 callType_new F.called_zip (by decide) (by kernel_rfl) (by kernel_rfl) (λobj=>Jz0 obj _ _) F.entry_zip_new (Yc8 l1 l2 b1 b2 xs ys) ⟨h1,h2,⟨_,(Jsd s.heap).1,rfl⟩,h⟩
abbrev Sjz (K:Se) (l1 l2:S1) (b1 b2:Bool):It:=Jvi K [(l1,b1),(l2,b2)]
theorem Svv {l1 l2:S1} {b1 b2:Bool} {xs ys:List V} {K:Se} {H:Hp} (h:SqB K H l1 b1 xs/\SqB K H l2 b2 ys):SqN K H [(l1,b1),(l2,b2)] [xs,ys]:=by
 obtain ⟨q1,q2⟩:=h
 refine ⟨rfl,λj l x e1 e2=>?_⟩
 match j with
 |0=>cases e1;cases e2;exact q1
 |1=>cases e1;cases e2;exact q2
 |j+2=>simp at e1
theorem Sn3 {xs ys:List V} {i:Nat} {ps:List V} {G:List V->Prop} (h:Jyy [xs,ys] i ps) (k:∀x y,xs[i]?=some x->ys[i]?=some y->G [x,y]):G ps:=by
 obtain ⟨l,f⟩:=h
 match ps,l with
 | [x,y],_=>exact k x y (f 0 x xs rfl rfl) (f 1 y ys rfl rfl)
def Sqv (K:Se) (b1 b2:Bool) (ta:TA):TI:=λσ H R=>ta σ H λvs H1=>∃a b,vs= [.ref a,.ref b]/\(∃xs,SqB K H1 a b1 xs)/\(∃xs,SqB K H1 b b2 xs)/\R (Sjz K a b b1 b2) H1
theorem Yf1 (b1 b2) (hg:Gl X "zip") (hm:X.mg "zip" =none) (ha:PA X [a,b] ta) (hs:starEach [a,b] X.env= [(false,eval a X.env),(false,eval b X.env)]:=by rfl) (hs2:starEach [b] X.env= [(false,eval b X.env)]:=by rfl):
  PI X (.Tuple elts kt pt) (.Call (.Name "zip" p) [a,b] [] pos) (Sqv X.K b1 b2 ta):=by
 intro pins s σ H R I h
 refine Call_ (Jqo I hg hm Yb (PyProof.Rows.callWith_type1 (thn (ha pos pins s σ H _ I h) λus s1 zq=>?_) (by rw [hs,hs2]) (by rw [hs2];rfl)))
 obtain ⟨vs,H1,I1,r1,q1⟩:=zq
 obtain ⟨l1,l2,rfl,⟨x1,q1⟩,⟨x2,q2⟩,q⟩:=q1
 obtain rfl:=Ydd (as:=[l1,l2]) r1
 obtain ⟨_,_,p1⟩:=I1.seqB q1
 obtain ⟨_,_,p2⟩:=I1.seqB q2
 refine Yb7 p1 p2 (Jyx I1 (λl hl=>?_) (show 2<=S6 by decide) q)
 simp only [ym,yad,or_false] at hl
 rcases hl with rfl|rfl
 ·exact p1.lt
 ·exact p2.lt
section
variable {K:Se} {g:TG} {σ:St} {H:Hp} {l1 l2:S1} {b1 b2:Bool} {xs ys:List V}
theorem Ybb {tt:TT} {te:TE} {R:Hp->Prop} (Pv:Nat->St->Hp->Prop) (h0:Pv 0 σ H) (hl:∀i σ H,i<=xs.length->Pv i σ H->SqB K H l1 b1 xs/\SqB K H l2 b2 ys) (e1:xs.length=ys.length)
  (hs:∀i x y σ H T,xs[i]?=some x->ys[i]?=some y->Pv i σ H->H T=none->g (.ref T) σ (upd H T (.tup [x,y])) λσ3 H3=>tt σ3 H3 λb H4=>if b=true then te σ3 H4 (λv H5=>∃vs,H5 D=some (.lst vs)/\vs.length < S6/\Pv (i+1) σ3 (upd H5 D (.lst (vs++ [v])))) else Pv (i+1) σ3 H4)
  (hd:∀σ H,Pv xs.length σ H->R H):
  ∃W:Nat->Nat->St->Hp->Prop,(∃m,W 0 m σ H)/\∀i m σ' H',W i m σ' H'->((Sjz K l1 l2 b1 b2).stop i H'/\R H')\/((Sjz K l1 l2 b1 b2).go i H'/\∃N:St->Hp->Prop,(∀σ2 H2,N σ2 H2->∃m',m' < m/\W (i+1) m' σ2 H2)/\
   ∀x H2,(Sjz K l1 l2 b1 b2).yld i H' x H2->g x σ' H2 λσ3 H3=>tt σ3 H3 λb H4=>if b=true then te σ3 H4 (λv H5=>∃vs,H5 D=some (.lst vs)/\vs.length < S6/\N σ3 (upd H5 D (.lst (vs++ [v])))) else N σ3 H4):=
 Ju5 (xss:=[ys]) Pv h0 (λi σ H hi p=>Svv (hl i σ H hi p)) (by simp only [ym,yad,or_false];rintro _ (rfl) <;> omega) (λi ps σ H T hp p hT=>Sn3 (G:=λps=>g (.ref T) σ (upd H T (.tup ps)) λσ3 H3=>tt σ3 H3 λb H4=>if b=true then te σ3 H4 (λv H5=>∃vs,H5 D=some (.lst vs)/\vs.length < S6/\Pv (i+1) σ3 (upd H5 D (.lst (vs++ [v])))) else Pv (i+1) σ3 H4) hp λx y h1 h2=>hs i x y σ H T h1 h2 p hT) hd
theorem Ss0 {T} {x y} {σ} {H} {A B:L2.St->Hp->Prop} (hT:Su K H T [x,y]) (h:A ((σ.set i (some x)).set j (some y)) H):
  Sj9 K 2 (Jso (Jpa i) (Jso (Jpa j) Sks)) (.ref T) σ H λσ3 H3=>Y3 σ3 H3 λb H4=>if b=true then A σ3 H4 else B σ3 H4:=⟨T,_,rfl,hT,rfl,_,_,rfl,_,_,rfl,rfl,h⟩
end
section
variable {X:Cx}
theorem Yce {bs:List Bool} (e:n=bs.length):((yz n).all λj=>bs.getD j false)=bs.all id:=by
 subst e
 rw [Bool.eq_iff_iff,yaw,yaw]
 constructor
 ·intro h b hb
  obtain ⟨j,hj,rfl⟩:=List.getElem_of_mem hb
  have:=h j (yaz.mpr hj)
  simpa [yh hj] using this
 ·intro h j hj
  have hj':=yaz.mp hj
  have:=h bs[j] (yax hj')
  simpa [yh hj'] using this
theorem Yf9 {bs:List Bool} (r1:Sa0 xs its) (r2:Sa0 ys jts) (l1:xs.length=ys.length) (l2:bs.length=xs.length)
  (hs:∀(i:Nat) x y b,xs[i]?=some x->ys[i]?=some y->bs[i]?=some b->Sg7 x y b):∀j h1 (h2:j < jts.toArray.size),SeqAt.EqAt A s its.toArray[j] jts.toArray[j] (bs.getD j false):=by
 intro j j1 j2
 have e1:=r1.length
 simp only [yn] at j1 j2
 have a1:xs[j]?=some xs[j]:=yh (by omega)
 have a2:ys[j]?=some ys[j]:=yh (by omega)
 have a3:bs[j]?=some bs[j]:=yh (by omega)
 obtain ⟨u,hu1,ru⟩:=r1.get a1
 obtain ⟨w',hw1,rw'⟩:=r2.get a2
 have b1:its.toArray[j]=u:=by simpa [yh j1] using hu1
 have b2:jts.toArray[j]=w':=by simpa [yh j2] using hw1
 have b3:bs.getD j false=bs[j]:=by simp [a3]
 rw [b1,b2,b3]
 exact (hs j _ _ _ a1 a2 a3).at ru rw'
inductive Svp (K:Se) (x:V) (y:V) (H:Hp) (Q:VK):Prop where
 |mk (p q:S1) (xs ys:List V) (bs:List Bool) (_:x= .ref p) (_:y= .ref q) (_:Sv K H p xs) (_:Sv K H q ys) (_:xs.length=ys.length) (_:bs.length=xs.length) (_:(∀(i:Nat) x y b,xs[i]?=some x->ys[i]?=some y->bs[i]?=some b->Sg7 x y b)) (_:Q (.bl (!bs.all id)) H)
theorem Snh (hu:X.A.units+64 < cLine):OpR X (compareOp .NotEq) (Svp X.K):=by
 rintro pins s σ H x y v u Q I rx ry ⟨p,q,xs,ys,bs,rfl,rfl,h1,h2,l1,l2,hs,k⟩
 obtain rfl:v=Value.ref p:=rx
 obtain rfl:u=Value.ref q:=ry
 obtain ⟨its,r1,p1,_⟩:=I.list h1
 obtain ⟨jts,r2,p2,_⟩:=I.list h2
 have e1:=r1.length
 have e2:=r2.length
 refine SeqAt.RcNeAt.lists p1.isList p2.isList (by simp only [yn];omega) (by omega) (Yf9 r1 r2 l1 l2 hs) _ _ _ _ ⟨.bl _,H,I,rfl,?_⟩
 rw [Yce (by simp only [yn];omega)]
 exact k
inductive Svo (K:Se) (x:V) (y:V) (H:Hp) (Q:VK):Prop where
 |mk (p q:S1) (xs:List V) (_:x= .ref p) (_:y= .ref q) (_:Sv K H p xs) (_:Sv K H q []) (_:Q (.bl (!xs.isEmpty)) H)
theorem Sng (hu:X.A.units+64 < cLine):OpR X (compareOp .NotEq) (Svo X.K):=by
 rintro pins s σ H x y v u Q I rx ry ⟨p,q,xs,rfl,rfl,h1,h2,k⟩
 cases xs with
 |nil=>exact Snh hu pins s σ H _ _ v u Q I rx ry ⟨p,q,[],[],[],rfl,rfl,h1,h2,rfl,rfl,λi x y b e=>by simp at e,k⟩
 |cons c r=>
  obtain rfl:v=Value.ref p:=rx
  obtain rfl:u=Value.ref q:=ry
  obtain ⟨its,r1,p1,_⟩:=I.list h1
  obtain ⟨jts,r2,p2,_⟩:=I.list h2
  refine SeqAt.RcNeAt.lists_lengths p1.isList p2.isList ?_ (by omega) _ _ _ _ ⟨.bl _,H,I,rfl,k⟩
  simp only [yn]
  rw [<-r1.length,<-r2.length]
  simp
end
end L2
namespace L2
open PySem PySem.Spec PyProof.Rows
section
variable {H:Hp} {lb:Array (Nat×Nat×Str)}
theorem Scy.triples (x:Scy H lb l):TriplesOk l:=by
 fun_induction Scy H lb l with
 |case1=>exact True.intro
 |case2 l _ c _ v r ih=>exact ih x.2
 |case3=>exact x.elim
theorem Scy.hit (x:Scy H lb l) (h:codeAmong pos l=some v):∃(q:Str) (a:S1),(pos.line,pos.col,q)∈lb/\v= .ref a/\H a=some (.cod q):=by
 fun_induction Scy H lb l with
 |case1=>cases h
 |case2 l _ c _ v' r ih=>
  obtain ⟨⟨n,m,q,a,h1,h2,h3,h4,h5⟩,h6⟩:=x
  unfold codeAmong at h
  split at h
  ·rename_i hc
   cases h
   simp only [yx,beq_iff_eq] at hc
   have e1:n=pos.line:=by omega
   have e2:m=pos.col:=by omega
   rw [e1,e2] at h1
   exact ⟨q,a,h1,h4,h5⟩
  ·exact ih h6 h
 |case3=>exact x.elim
theorem Scy.snoc {pos:Pos} {q} {a} (hm:(pos.line,pos.col,q)∈lb) (ha:H a=some (.cod q)) {l} (x:Scy H lb l):Scy H lb (l++ [rawInt pos.line,rawInt pos.col,.ref a]):=by
 fun_induction Scy H lb l with
 |case1=>exact ⟨⟨_,_,q,a,hm,rfl,rfl,rfl,ha⟩,True.intro⟩
 |case2 l _ c _ v r ih=>exact ⟨x.1,ih x.2⟩
 |case3=>exact x.elim
end
def Smt (vs:Array S2) (c P:S1):Bool:=
 (match (vs[11]?:Option S2) with|some (.ref p)=>p==P|_=>false)&&(match vs.getD 11 .none with| .ref p=>p==P|_=>false)&&(match vs.getD 18 .none with| .str _ _=>true|_=>false)&&(match vs.getD 7 .none with| .int _ _=>true|_=>false)&&
 (match vs.getD 9 .none with| .bool _=>true|_=>false)&&(match vs.getD 10 .none with| .int _ _=>true|_=>false)&&!(c==P)
structure Nst (K:Se) (f c P:S1):Prop where
 fn:∃(oc:S2) (od:Option S1) (fd:S8) (sl:Array (Option S2)),K.lookup f=some ⟨oc,od,.func fd,sl⟩/\fd.code= .ref c
 hd:∃(od:Option S1) (vs:Array S2) (sl:Array (Option S2)),K.lookup c=some ⟨.type "code",od,.fields vs,sl⟩/\Smt vs c P=true
theorem Nst.code {K} (n:Nst K f c P) (X:K.In h):PySem.W.CodeHd h c P:=by
 obtain ⟨od,vs,sl,lk,b⟩:=n.hd
 unfold Smt at b
 simp only [yx] at b
 obtain ⟨⟨⟨⟨⟨⟨b1,b2⟩,b3⟩,b4⟩,b5⟩,b6⟩,b7⟩:=b
 have e1:vs[11]?=some (.ref P):=by
  split at b1
  ·rename_i p e;rw [e,beq_iff_eq.mp b1]
  ·cases b1
 have e2:vs.getD 11 .none= .ref P:=by
  split at b2
  ·rename_i p e;rw [e,beq_iff_eq.mp b2]
  ·cases b2
 have e3:∃x t,vs.getD 18 .none= .str x t:=by
  split at b3
  ·rename_i x t e;exact ⟨x,t,e⟩
  ·cases b3
 have e4:∃x t,vs.getD 7 .none= .int x t:=by
  split at b4
  ·rename_i x t e;exact ⟨x,t,e⟩
  ·cases b4
 have e5:∃x,vs.getD 9 .none= .bool x:=by
  split at b5
  ·rename_i x e;exact ⟨x,e⟩
  ·cases b5
 have e6:∃x t,vs.getD 10 .none= .int x t:=by
  split at b6
  ·rename_i x t e;exact ⟨x,t,e⟩
  ·cases b6
 obtain ⟨f1,t1,e3⟩:=e3
 obtain ⟨f2,t2,e4⟩:=e4
 obtain ⟨f3,e5⟩:=e5
 obtain ⟨f4,t4,e6⟩:=e6
 exact ⟨_,vs,f1,t1,f2,t2,f3,f4,t4,X _ _ lk,rfl,rfl,e1,e2,e3,e4,e5,e6,by simpa using b7⟩
def Bmn (mg:Str->Option S2) (base:Sb):Prop:=∃bm ob,mg "__builtins__" =some (.ref bm)/\bm≠builtinsNs/\base.get? bm=some ob/\ob.cls= .type "module" /\ob.dict=some builtinsNs/\ob.data= .plain
def Clo (f:S1) (name qual:Str) (st:Stmt) (clos:List (Str×S1)) (c:S1):HO:=
 .ext λh=>∃doc pm ct:S2,h.get? f=some {cls:=.type "function",data:=.func (PySem.W.fnX name qual (Jo0 st) (Jnw st) (Jmt st) clos .none .none doc pm none (.ref c) ct)}
theorem Jz4 {st}
  (e:h.get? f=some {cls:=.type "function",data:=.func (PySem.W.fnX name qual (Jo0 st) (Jnw st) (Jmt st) clos .none .none doc pm none (.ref c) ct)}):Sb6 P w H h f (Clo f name qual st clos c):=
 ⟨⟨doc,pm,ct,e⟩,⟨_,e⟩,λ_ _ ⟨d,p,t,z⟩ k=>⟨d,p,t,k _ z⟩⟩
section
variable {X:Cx} {pins:List (S1×Obj)} {σ:St} {H:Hp} {s:S3} {M:Model} {A:Sa} {E:S2->S3->Prop} {name qual:Str} {st:Stmt} {pos:Pos} {firstLine:Nat} {c P:S1} {lb:Array (Nat×Nat×Str)} {clos:List (Str×S1)} {Q:S2->S3->Prop}
theorem Yco (I:Sn X pins σ H s) (hcd:X.env.code= .ref c) (C:PySem.W.CodeHd X.base c P) (B:Bmn X.mg X.base) (ht:H P=some (.tbl lb)) (hm:(pos.line,pos.col,qual)∈lb) (hu:∀q,(pos.line,pos.col,q)∈lb->q=qual)
  (hcl:closureFor (Jmt st) X.env=pure clos)
  (h:∀s' f c' H',Sn X pins σ H' s'->Sj H H'->H f=none->H' f=some (Clo f name qual st clos c')->H' c'=some (.cod qual)->Q (.ref f) s'):
  Sc M A (makeFunction name qual (Jo0 st) (.stmts (Jnw st)) (Jmt st) X.env [] [] [] pos firstLine) Q E s:=by
 obtain ⟨ts,eP,tr⟩:=I.hok P _ ht
 have hg:=I.mod.glob.keeps I.bk
 have CH:=C.keeps I.bk
 have hgP:mainGlobals≠P:=λz=>by
  obtain ⟨o,es,ep,e1,e2,_⟩:=hg
  rw [z,eP] at e1;cases e1;cases e2
 have BA:s.heap.BuiltinsAt X.mg P:=by
  obtain ⟨bm,ob,b1,b2,b3,b4,b5,b6⟩:=B
  have b3':=I.bk _ _ b3
  refine ⟨bm,ob,b1,b2,λz=>?_,λz=>?_,b3',b4,b5,b6⟩
  ·obtain ⟨o,es,ep,e1,e2,_⟩:=hg
   rw [<-z,b3'] at e1;cases e1;rw [b6] at e2;cases e2
  ·rw [z,eP] at b3';cases b3';cases b4
 cases hq:codeAmong pos ts.toList with
 |some v=>
  obtain ⟨q,a,m1,rfl,m2⟩:=tr.hit hq
  obtain rfl:=hu q m1
  refine PySem.W.makeFunction_hit hcl I.ok.glob hg hcd CH eP tr.triples hq BA λctv doc h' tk hk hsz=>?_
  have hf:=I.hok.fresh hsz
  have J:=I.laid (t':=tk) (h':=h'.push {cls:=.type "function",data:=.func (PySem.W.fnX name q (Jo0 st) (Jnw st) (Jmt st) clos .none .none doc ((X.mg "__name__").getD .none) none (.ref a) ctv)})
   (λb u z=>yl _ (hk b u z)) hsz (Jz4 (yq _ rfl))
  exact h _ _ a _ J (Sj.upd hf) hf Sr (by rw [Sz (Jmw m2 hf)];exact m2)
 |none=>
  refine PySem.W.makeFunction_K hcl I.ok.glob hg hcd CH eP tr.triples hq hgP BA λc' ctv doc h' tk hx hge hlt hrec htb=>?_
  have hf:=I.hok.fresh (yan hge (ybg hlt))
  have nfc:=ybd hlt
  have nP:∀b,H b=none->b≠P:=λb z w'=>by rw [w',ht] at z;cases z
  let H':Hp:=upd (upd H c' (.cod qual)) h'.objs.size (Clo h'.objs.size name qual st clos c')
  let o':Obj:={cls:=.type "function",data:=.func (PySem.W.fnX name qual (Jo0 st) (Jnw st) (Jmt st) clos .none .none doc ((X.mg "__name__").getD .none) none (.ref c') ctv)}
  have hS:Sj H H':=(Sj.upd (I.hok.fresh hge)).trans (Sj.upd (by rw [Sz nfc];exact hf))
  have hkp:∀b o,b≠P->s.heap.get? b=some o->(h'.push o').get? b=some o:=λb o n z=>yl _ (hx b o n z)
  have hc1:H' c'=some (.cod qual):=by show upd (upd H c' _) _ _ c'=_;rw [Sz (yt nfc),Sr]
  have bl:∀b o,s.heap.get? b=some o->b≠c'/\b≠h'.objs.size:=λb o z=>by
   have q:=yah (yi z) hge
   exact ⟨yo q,yo (Nat.lt_trans q hlt)⟩
  have J:Sn X pins σ H' {s with heap:=h'.push o',toks:=tk}:=by
   refine I.un ⟨λb o z n _ _=>hkp b o (nP b n) z,λb o z n _ _=>⟨o.slots,hkp b o (nP b n) z⟩,λb o z n _=>?_,λb o z _=>?_,λb xs z=>hS _ _ z,λb o u z=>hS _ _ z,λb ps z=>⟨#[],by rw [hS _ _ z];simp⟩⟩ λb u z=>?_
   ·show upd (upd H c' _) _ _ b=none
    rw [Sz (bl b o z).2,Sz (bl b o z).1];exact n
   ·by_cases w':b=P
    ·exact ⟨_,by rw [w'];exact yl _ htb⟩
    ·exact ⟨o,hkp b o w' z⟩
   ·by_cases w1:b=h'.objs.size
    ·have z':H' b=some (Clo h'.objs.size name qual st clos c'):=by rw [w1];exact Sr
     rw [z'] at z;cases z
     rw [w1]
     exact Jz4 (yq _ rfl)
    ·by_cases w2:b=c'
     ·rw [w2,hc1] at z;cases z
      rw [w2]
      exact hrec.keeps λ_ _ z=>yl _ z
     ·have z':H b=some u:=by
       have:H' b=H b:=by show upd (upd H c' _) _ _ b=_;rw [Sz w1,Sz w2]
       rw [<-this];exact z
      by_cases w3:b=P
      ·rw [w3,ht] at z';cases z'
       refine ⟨_,by rw [w3];exact yl _ htb,?_⟩
       rw [Array.toList_append]
       exact Scy.snoc hm hc1 (tr.mono λb q z=>hS _ _ z)
      ·refine (I.hok b u z').stay (λc v hc zz=>hkp c v ?_ zz) (λc zz=>hS _ _ zz) (λc xs zz=>hS _ _ zz) λc q zz=>hS _ _ zz
       rcases hc with rfl|hc
       ·exact w3
       ·intro w';rw [w',ht] at hc;cases hc
  exact h _ _ c' H' J hS hf Sr hc1
end
def Scp (H:Hp) (c:S1) (v:V):Prop:=∃o u,H c=some (Sj8 o)/\o.data= .cell (some u)/\Sa5 v u
theorem Scp.same (s:Sj H H') (h:Scp H c v):Scp H' c v:=by obtain ⟨o,u,a,b,d⟩:=h;exact ⟨o,u,s _ _ a,b,d⟩
def Sbz (H:Hp) (f:S1) (name qual:Str) (st:Stmt) (caps:List (Str×V)):Prop:=
 ∃(clos:List (Str×S1)) (c:S1),H f=some (Clo f name qual st clos c)/\H c=some (.cod qual)/\(∀x y b,clos.lookup x=some b->clos.lookup y=some b->x=y)/\(∀y∈(Jmt st).names,y.2= .free->∃b,clos.lookup y.1=some b)/\
  (∀x b,clos.lookup x=some b->∃v,Scp H b v)/\∀x v,(x,v)∈caps->∃b,clos.lookup x=some b/\Scp H b v
theorem Sbz.same {st} (s:Sj H H') (h:Sbz H f name qual st caps):Sbz H' f name qual st caps:=
 let ⟨clos,c,a,b,d,e,g,k⟩:=h
 ⟨clos,c,s _ _ a,s _ _ b,d,e,λx b z=>let ⟨v,q⟩:=g x b z;⟨v,q.same s⟩,λx v z=>let ⟨b,q1,q2⟩:=k x v z;⟨b,q1,q2.same s⟩⟩
def IsF (H:Hp) (f:S1):Prop:=∃name qual st clos c,H f=some (Clo f name qual st clos c)
theorem Sbz.isf {st} (h:Sbz H f name qual st caps):IsF H f:=by obtain ⟨clos,c,a,_⟩:=h;exact ⟨name,qual,st,clos,c,a⟩
def Cx.fix (X:Cx) (cn:Str->Bool):Cx:={X with fn:=λx=>X.fn x&&!cn x}
open Classical in
noncomputable def Jul (X:Cx) (cn:Str->Bool) (h:Sb) (H:Hp):Hp:=λb=>if ∃x,cn x=true/\X.fn x=true/\X.env.cells.lookup x=some b then (h.get? b).map Sj8 else H b
section
variable {X:Cx} {pins:List (S1×Obj)} {σ:St} {H:Hp} {s:S3} {cn:Str->Bool}
theorem Jyu {b} {o} {x} (h1:cn x=true) (h2:X.fn x=true) (h3:X.env.cells.lookup x=some b) (e:h.get? b=some o):Jul X cn h H b=some (Sj8 o):=by
 unfold Jul
 rw [if_pos ⟨x,h1,h2,h3⟩,e]
 rfl
theorem Jtu (n:¬∃x,cn x=true/\X.fn x=true/\X.env.cells.lookup x=some b):Jul X cn h H b=H b:=by
 unfold Jul
 rw [if_neg n]
theorem Ye1 (I:Sn X pins σ H s) (e:H b=some o):Jul X cn s.heap H b=some o:=by
 rw [Jtu]
 ·exact e
 ·rintro ⟨x,_,h2,h3⟩
  rcases I.freeC x b h3 with n|⟨f,_⟩
  ·rw [n] at e;cases e
  ·rw [h2] at f;cases f
theorem Sn.fix (I:Sn X pins σ H s) (cn):Sn (X.fix cn) pins σ (Jul X cn s.heap H) s/\Sj H (Jul X cn s.heap H):=by
 have hS:Sj H (Jul X cn s.heap H):=λb o e=>Ye1 I e
 have hn:∀b,H b=none->(∀x,cn x=true->X.fn x=true->X.env.cells.lookup x≠some b)->Jul X cn s.heap H b=none:=λb e n=>by
  rw [Jtu]
  ·exact e
  ·rintro ⟨x,h1,h2,h3⟩;exact n x h1 h2 h3
 refine ⟨⟨⟨I.ok.mod,I.ok.kind,I.ok.glob,I.ok.blt,I.ok.above,I.ok.inj,I.ok.has,λx c hx hc=>I.ok.cab x c ?_ hc,I.ok.hd,I.ok.frames,I.ok.stk,I.ok.exf,I.ok.bs,I.ok.bsz,I.ok.noex,I.ok.exfs,I.ok.funs,I.ok.frf⟩,I.os,I.bare,
  ⟨I.base.keep,I.base.slot,λb o e n hx=>?_,I.base.there,λb xs e=>hS _ _ (I.base.tups b xs e),λb o u e=>hS _ _ (I.base.frzs b o u e),λb ps e=>?_⟩,I.loc,I.cell,?_,λx c e=>?_,λp hp=>?_,λb u e=>?_,I.len⟩,hS⟩
 ·have hx':(X.fn x&&!cn x)=true:=hx
  rw [yx] at hx'
  exact hx'.1
 ·exact hn b (I.base.free b o e n hx) λx _ h2 h3=>absurd (yah (yi e) (I.ok.cab x b h2 h3)) (yar _)
 ·obtain ⟨m,q⟩:=I.base.tbls b ps e
  exact ⟨m,hS _ _ q⟩
 ·exact hn _ I.free λx _ _ h3=>I.cne x _ h3 rfl
 ·have e':=e
  by_cases hc:cn x=true/\X.fn x=true
  ·obtain ⟨v,o,ho,hd⟩:=I.cell x c e'
   refine .inr ⟨?_,o,Jyu hc.1 hc.2 e' ho⟩
   show (X.fn x&&!cn x)=false
   rw [hc.1];simp
  ·have out:Jul X cn s.heap H c=H c:=Jtu λ⟨y,h1,h2,h3⟩=>hc (by rw [I.ok.inj x y c e' h3];exact ⟨h1,h2⟩)
   rcases I.freeC x c e' with n|⟨f,o,q⟩
   ·exact .inl (out.trans n)
   ·refine .inr ⟨?_,o,out.trans q⟩
    show (X.fn x&&!cn x)=false
    rw [f];rfl
 ·obtain ⟨e,n,ne,nf,d⟩:=I.pin p hp
  refine ⟨e,hn _ n λx _ _ h3=>?_,ne,nf,d⟩
  obtain ⟨v,o,ho,hd⟩:=I.cell x _ h3
  rw [e] at ho;cases ho
  exact d v hd
 ·by_cases hb:∃x,cn x=true/\X.fn x=true/\X.env.cells.lookup x=some b
  ·obtain ⟨x,h1,h2,h3⟩:=hb
   obtain ⟨v,o,ho,hd⟩:=I.cell x b h3
   rw [Jyu h1 h2 h3 ho] at e
   cases e
   exact ⟨ho,True.intro,⟨o,ho⟩,λ_ _ _ _=>True.intro⟩
  ·rw [Jtu hb] at e
   exact (I.hok b u e).stay (λ_ _ _ q=>q) (λ_ q=>hS _ _ q) (λ_ _ q=>hS _ _ q) λ_ _ q=>hS _ _ q
theorem Sn.celAt (I:Sn X pins σ H s) (J:Sn (X.fix cn) pins σ (Jul X cn s.heap H) s) {j:Nat} (h1:X.N[j]?=some x) (h2:σ[j]?=some (some v)) (hv:X.env.kindOf x=some .cell\/X.env.kindOf x=some .free) (hc:cn x=true) (hf:X.fn x=true):
  ∃b,X.env.cells.lookup x=some b/\Scp (Jul X cn s.heap H) b v:=by
 obtain ⟨m,_,hl⟩:=I.loc
 have hvis:Vis X.env.scope x:=hv.elim (λz=>.inr (.inl z)) λz=>.inr (.inr z)
 obtain ⟨u,r,l⟩:=hl j x v h1 h2 hvis
 rcases l with ⟨k,_⟩|⟨k,b,e,o,ho,hd⟩
 ·rcases hv with z|z
  ·rw [k] at z;cases z
  ·rw [k] at z;cases z
 ·exact ⟨b,e,o,u,Jyu hc hf e ho,hd,r⟩
end
def Fin (X:Cx) (H:Hp) (s:S3):Prop:=s.os=X.s₀.os/\AllBare s.gens/\Un X.fs X.ex X.H₀ H X.s₀.heap s.heap/\HOk X.prog X.w H s.heap
theorem Sn.fin (I:Sn X pins σ H s):Fin X H s:=⟨I.os,I.bare,I.base,I.hok⟩
def SB (X:Cx) (D:Jt9) (f:Flow) (s':S3):Prop:=
 match f with
 | .next=>∃σ' H',Fin X H' s'/\D.nx σ' H'
 | .brk=>∃σ' H',Fin X H' s'/\D.bk σ' H'
 | .cont=>∃σ' H',Fin X H' s'/\D.ct σ' H'
 | .ret u=>∃v H',Fin X H' s'/\Sa5 v u/\D.rt v H'
theorem SP.sb (h:SP X pins D f s'):SB X D f s':=by
 cases f with
 |next=>obtain ⟨σ',H',I,q⟩:=h;exact ⟨σ',H',I.fin,q⟩
 |brk=>obtain ⟨σ',H',I,q⟩:=h;exact ⟨σ',H',I.fin,q⟩
 |cont=>obtain ⟨σ',H',I,q⟩:=h;exact ⟨σ',H',I.fin,q⟩
 |ret u=>obtain ⟨v,σ',H',I,r,q⟩:=h;exact ⟨v,H',I.fin,r,q⟩
def PB (X:Cx) (st:List Stmt) (t:TS):Prop:=
 ∀(pins:List (S1×Obj)) (s:S3) (σ:St) (H:Hp) (D:Jt9),Sn X pins σ H s->t D σ H->Sc (model X.prog X.w) X.A (execs st X.env) (SB X D) X.xe s
section
variable {X:Cx} {st:Stmt} {rest:List Stmt} {t u:TS}
theorem PSs.pb (h:PSs X l t):PB X l t:=λpins s σ H D I q=>thn (h pins s σ H D I q) λ_ _ z=>z.sb
theorem PB.nox (h:PB X.nox l t):PB X l t:=λpins s σ H D I q=>wpAny_mono (h pins s σ H D (I.wish _) q) (λf _ z=>by cases f <;> exact z) λ_ _ z=>False.elim z
end
theorem Jqi:∀ns acc,(Jp9 cells ns acc).lookup x=some b->acc.lookup x=none->(x,NameKind.free)∈ns
 | [],_,e,n=>by unfold Jp9 at e;rw [n] at e;cases e
 | (y,k) :: r,acc,e,n=>by
  unfold Jp9 at e
  by_cases hk:(k==NameKind.free)=true
  ·rw [if_pos hk] at e
   have hk':k= .free:=by simpa using hk
   subst hk'
   by_cases hx:x=y
   ·subst hx;exact yak
   ·cases hc:cells.lookup y with
    |none=>rw [hc] at e;exact yr _ (Jqi r acc e n)
    |some d=>
     rw [hc] at e
     refine yr _ (Jqi r _ e ?_)
     rw [yas,beq_eq_false_iff_ne.mpr hx]
     exact n
  ·rw [if_neg hk] at e
   exact yr _ (Jqi r acc e n)
def Jtn (s:Stmt):Pos:=match s with
 | .FunctionDef _ _ _ _ _ _ _ _ _ p=>p
 |_=>⟨0,0,0,0⟩
inductive Sw0 (P:S1) (lb:Array (Nat×Nat×Str)) (i:Nat) (name qual:Str) (st:Stmt) (caps:List (Str×Nat)) (t:TS) (D:Jt9) (σ:St) (H:Hp):Prop where
 |mk (_:H P=some (.tbl lb)) (_:∃vs:List V,(∀y∈caps.zip vs,σ[y.1.2]?=some (some y.2))/\caps.length=vs.length/\∀f H',Sj H H'->H f=none->Sbz H' f name qual st ((caps.map (·.1)).zip vs)->t D (σ.set i (some (.ref f))) H')
section
variable {X:Cx} {rest:List Stmt} {t:TS} {st:Stmt} {name qual:Str} {i:Nat} {c P:S1} {lb:Array (Nat×Nat×Str)} {caps:List (Str×Nat)}
theorem Yd6 (n:Nst X.K f₀ c P) (B:Bmn X.mg X.base) (hcd:X.env.code= .ref c) (hst:st= .FunctionDef name (Jo0 st) (Jnw st) [] none [] (Jmt st) none name (Jtn st))
  (hd:(Jo0 st).defaults= []) (hk:(Jo0 st).kw_defaults= []) (ha:annTrees (Jo0 st) none X.env= []) (hq:qualnameIn X.env name name=qual) (hm:((Jtn st).line,(Jtn st).col,qual)∈lb) (hu:∀q,((Jtn st).line,(Jtn st).col,q)∈lb->q=qual)
  (hN:X.N.Nodup) (hi:X.N[i]?=some name) (hx:X.env.scope.names.lookup name=some .local)
  (hcap:∀y∈caps,X.N[y.2]?=some y.1/\y.2≠i/\(Jmt st).names.lookup y.1=some .free/\X.fn y.1=true/\X.env.scope.names.lookup y.1=some .cell)
  (hall:∀y∈(Jmt st).names,y.2= .free->y.1∈caps.map (·.1))
  (hr:PB (X.fix λx=>(caps.map (·.1)).contains x) rest t):PB X (st::rest) (Sw0 P lb i name qual st caps t):=by
 rintro pins s σ H D I ⟨ht,vs,hvs,hlen,h⟩
 have hcel:=λy hy=>(hcap y hy).2.2.2.2
 have hfr:∀y∈(Jmt st).names,y.2= .free->∃b,X.env.cells.lookup y.1=some b:=λy hy hyf=>by
  obtain ⟨z,hz,ez⟩:=yaf.mp (hall y hy hyf)
  rw [<-ez]
  exact I.ok.has z.1 (.inl (hcel z hz))
 refine wpAny_execs_cons ?_
 rw [hst]
 refine PySem.W.nestDef_K hd hk ha ?_
 rw [hq]
 refine Yco I hcd (n.code I.mod.kin) B ht hm hu (Jsm hfr) λs1 f c' H1 I1 s01 hf hclo hcod=>Jw9 I1 hN hi (.inl hx) (v:=.ref f) rfl (λs2 I2=>?_) (.inr hx)
 obtain ⟨J,sJ⟩:=I2.fix (λx=>(caps.map (·.1)).contains x)
 have hin:∀x b,(Jp9 X.env.cells (Jmt st).names []).lookup x=some b->X.env.cells.lookup x=some b:=λx b e=>Jq8 _ [] (λx c e=>by simp at e) x b e
 have cel:∀(k:Nat) y v,caps[k]?=some y->vs[k]?=some v->∃b,X.env.cells.lookup y.1=some b/\Scp (Jul X (λx=>(caps.map (·.1)).contains x) s2.heap H1) b v:=λk y v e1 e2=>by
  have hy:=yp e1
  obtain ⟨c1,c2,c3,c4,_⟩:=hcap y hy
  refine I2.celAt J c1 (by rw [List.getElem?_set_ne (yt c2)];exact (hvs (y,v) (yp (by rw [ycd];exact ⟨e1,e2⟩)))) (.inl (hcel y hy)) ?_ c4
  exact List.contains_iff_mem.mpr (yau hy)
 refine hr pins s2 _ _ D J (h f _ (s01.trans sJ) hf ⟨_,c',sJ _ _ hclo,sJ _ _ hcod,λx y b h1 h2=>I.ok.inj x y b ?_ ?_,λy hy hyf=>?_,λx b e=>?_,λx v e=>?_⟩)
 ·exact hin x b h1
 ·exact hin y b h2
 ·have hh:=Jpm (Jmt st).names [] (by rw [<-hyf];exact hy) (hfr y hy hyf)
  exact ybt.mp hh
 ·obtain ⟨y,hy,rfl⟩:=yaf.mp (hall (x,.free) (Jqi (Jmt st).names [] e (by simp)) rfl)
  obtain ⟨k,hk⟩:=ybc hy
  have hk':k < vs.length:=by rw [<-hlen];exact (yj.mp hk).1
  obtain ⟨b',e1,e2⟩:=cel k y vs[k] hk (yh hk')
  have e3:=hin _ _ e
  rw [e1] at e3;cases e3
  exact ⟨_,e2⟩
 ·obtain ⟨k,hk⟩:=ybc e
  rw [ycd,yg] at hk
  obtain ⟨k1,k2⟩:=hk
  cases hy:caps[k]? with
  |none=>rw [hy] at k1;cases k1
  |some y=>
   rw [hy] at k1
   cases k1
   obtain ⟨b,e1,e2⟩:=cel k y v hy k2
   obtain ⟨b',e3⟩:=ybt.mp (Jpm (Jmt st).names [] (PySem.mem_of_lookup (hcap y (yp hy)).2.2.1) ⟨b,e1⟩)
   have e4:=hin _ _ e3
   rw [e1] at e4;cases e4
   exact ⟨_,e3,e2⟩
end
theorem Fun.okN {K} {st} (F:Fun K x qual st f fd) (n:Nst K f c T) (S:Jmy N ps (Jmt st)) (len:∀vs H Q E,sp vs H Q E->vs.length=ps.length)
  (hbody:∀A outer s H vs Q E,San k (A.deeper (envOfC qual (Jmt st) s.heap.objs.size f (.ref c)))->sp vs H Q E->
   ∃t,PB (Jxr CX P w K mg base N qual (Jmt st) f (.ref c) A outer s H E) (Jnw st) t/\t {nx:=λ_ H'=>Q .non H',rt:=Q} (start N vs) H):Ss P w K mg base CX (k+1) f fd ps sp:=by
 obtain ⟨oc,od,kV,doc,pm,an,cdv,ct,osl,rfl,lk,hcd⟩:=F.ex
 have ec:cdv= .ref c:=by
  obtain ⟨oc',od',fd',sl',l',e'⟩:=n.fn
  rw [lk] at l';cases l'
  exact e'
 subst ec
 refine ⟨len,λA outer s H args us vs Q E hr e0 hb r hsp=>?_⟩
 have KX:=e0.mod.kin.keeps λb o e=>(e0.bs b o e).1
 refine codeAny_call_function hr.depth (KX _ _ lk) rfl S.co S.gen rfl (PySem.W.codeRec_of KX hcd) (hb _ _ _ _ (wpAny_newFunctionEnv_cells S.kind (λ⟨y,v⟩ hy=>?_) λenv he s1 z=>?_))
 ·exact (S.par y (List.of_mem_zip hy).1).imp id λq=>⟨q,PySem.W.cellsFrom_some _ _ _ (.inl q)⟩
 subst he
 refine ⟨(e0.mod.nolimit.keeps λb o e=>(e0.bs b o e).1).keeps z.toInCall.keep,codeAny_func ?_⟩
 obtain ⟨t,ht,hq⟩:=hbody A outer s H vs Q E (hr.deeper _) hsp
 refine wpAny_mono (ht [] s1 (start N vs) H _ (Jxa S hr.hd e0 (len _ _ _ _ hsp) r z) hq) (λfl s' hs=>?_) λe s' hs=>hs
 cases fl with
 |ret u=>
  obtain ⟨v,H',⟨a1,a2,a3,a4⟩,rv,q⟩:=hs
  exact ⟨v,H',a1,a2,a3,a4,rv,q⟩
 |next=>
  obtain ⟨σ',H',⟨a1,a2,a3,a4⟩,q⟩:=hs
  exact ⟨.non,H',a1,a2,a3,a4,rfl,q⟩
 |brk=>
  obtain ⟨_,_,_,q⟩:=hs
  exact False.elim q
 |cont=>
  obtain ⟨_,_,_,q⟩:=hs
  exact False.elim q
theorem Jpr:∀(ns:List (Str×NameKind)) (n:Nat) (acc:List (Str×S1)),cellsFrom n ns acc=cellsFrom n ns []++acc
 | [],_,_=>rfl
 | (x,k) :: r,n,acc=>by
  unfold cellsFrom
  split
  ·rw [Jpr r (n+1) ((x,n)::acc),Jpr r (n+1) [(x,n)],List.append_assoc]
   rfl
  ·exact Jpr r n acc
theorem Jr3:∀ns n acc,(cellsFrom n ns acc).lookup x=some b->acc.lookup x=none->(x,NameKind.cell)∈ns
 | [],_,_,e,m=>by unfold cellsFrom at e;rw [m] at e;cases e
 | (y,k) :: r,n,acc,e,m=>by
  unfold cellsFrom at e
  split at e
  ·rename_i hk
   have hk':k= .cell:=by simpa using hk
   subst hk'
   by_cases hx:x=y
   ·subst hx;exact yak
   ·refine yr _ (Jr3 r _ _ e ?_)
    rw [yas,beq_eq_false_iff_ne.mpr hx]
    exact m
  ·exact yr _ (Jr3 r _ _ e m)
theorem Jpp {α β:Type} [BEq α] {x:α}:∀(l m:List (α×β)),(l++m).lookup x=(l.lookup x).or (m.lookup x)
 | [],_=>rfl
 | (y,v) :: r,m=>by
  rw [List.cons_append,yas,yas]
  split
  ·rfl
  ·exact Jpp r m
section
variable {M:Model} {A:Sa} {E:S2->S3->Prop} {s₀ s:S3} {m cm:Str->Option S2} {env:Env} {cs:List (Str×S1)}
theorem Ya (f:Str×S2->PUnit->Sem (ForInStep PUnit)) (hf:∀n v u,f (n,v) u=(do storeName env n v;pure (.yield ⟨⟩))) (hk:env.scope.kind= .function) (sub:∀n c,cs.lookup n=some c->env.cells.lookup n=some c):
  ∀bs m cm s Q,InCallC s₀ env.locals m cs cm s->(∀x∈bs,env.kindOf x.1=some .local\/(env.kindOf x.1=some .cell/\(cs.lookup x.1).isSome=true))->
   (∀s',InCallC s₀ env.locals (bindL env.kindOf bs m) cs (bindC env.kindOf bs cm) s'->Q ⟨⟩ s')->Sc M A (forIn bs ⟨⟩ f) Q E s
 | [],m,cm,s,Q,x,_,h=>by rw [List.forIn_nil];exact S5 (h s x)
 | (n,v) :: r,m,cm,s,Q,x,hb,h=>by
  rw [List.forIn_cons,hf]
  have hr:=λy hy=>hb y (yr (n,v) hy)
  obtain ⟨h0,t0,e0⟩:=x.toInCall.same
  rcases hb (n,v) yak with hl|⟨hl,hc⟩
  ·refine S4 (S4 (wpAny_storeName_local hl x.toInCall.ns (λh' hn hs=>S5 (Ya f hf hk sub r (λy=>if y=n then some v else m y) cm _ Q ⟨⟨?_,hn,λb o z=>?_,x.toInCall.fresh⟩,λk c z=>?_,x.apart,x.above⟩ hr λs'' x''=>h s'' ?_)) (by rw [hk];rfl)))
   ·rw [e0];exact ⟨h',_,rfl⟩
   ·exact hs.extBut b o (yo (yah (yi z) x.toInCall.fresh)) (x.toInCall.keep b o z)
   ·exact (x.cell k c z).sameBut hs (ybd (x.above k c (mem_of_lookup z)))
   ·unfold bindL bindC;rw [if_pos hl,if_pos hl];exact x''
  ·obtain ⟨c,hc⟩:=ybt.mp hc
   have hnl:¬env.kindOf n=some .local:=by rw [hl];decide
   have hL:=x.above n c (mem_of_lookup hc)
   refine S4 (S4 (wpAny_storeName_cell hk hl (sub n c hc) (x.cell n c hc) λh' hn hs=>S5 (Ya f hf hk sub r m (λy=>if y=n then some v else cm y) _ Q ⟨⟨?_,x.toInCall.ns.sameBut hs (yo hL),λb o z=>?_,x.toInCall.fresh⟩,λk c' z=>?_,x.apart,x.above⟩ hr λs'' x''=>h s'' ?_)))
   ·rw [e0];exact ⟨h',_,rfl⟩
   ·exact hs.extBut b o (yo (Nat.lt_trans (yah (yi z) x.toInCall.fresh) hL)) (x.toInCall.keep b o z)
   ·by_cases w':k=n
    ·subst w'
     rw [hc] at z;cases z
     simpa using hn
    ·rw [if_neg w']
     exact (x.cell k c' z).sameBut hs λe=>w' (name_of_addr x.apart (mem_of_lookup z) (e▸mem_of_lookup hc))
   ·unfold bindL bindC;rw [if_neg hnl,if_neg hnl];exact x''
theorem Yes {code} (hk:scope.kind= .function)
  (hb:∀x∈bs,scope.names.lookup x.1=some .local\/(scope.names.lookup x.1=some .cell/\((cellsFrom (s.heap.objs.size+1) scope.names []).lookup x.1).isSome=true))
  (hQ:∀env,env=newEnv scope s.heap.objs.size globals (cellsFrom (s.heap.objs.size+1) scope.names []++clos) qual func code none builtins->
   ∀s',InCallC s env.locals (bindL env.kindOf bs λ_=>none) (cellsFrom (s.heap.objs.size+1) scope.names []) (bindC env.kindOf bs λ_=>none) s'->Q env s'):
  Sc M A (newFunctionEnv scope globals clos bs qual func code none builtins) Q E s:=by
 simp only [newFunctionEnv,Option.isSome_none,Bool.false_eq_true,if_false]
 refine S4 (wpAny_alloc (S4 (wpAny_layCells _ (λn kd cl=>by cases h:kd==NameKind.cell <;> simp [h]) _ _ _ _ ?_)))
 have z:{s with heap:=s.heap.push {cls:=.type "frame",data:=.dict #[]}}.heap.objs.size=s.heap.objs.size+1:=yao ..
 rw [z,Jpr]
 have ok:=cellsFrom_ok scope.names (s.heap.push {cls:=.type "frame",data:=.dict #[]}) (s.heap.objs.size+1) [] ⟨λ_ _ hm=>(nomatch hm),.nil⟩ (Nat.le_of_eq z.symm)
 rw [yao ..] at ok
 refine S4 (Ya (env:=newEnv scope s.heap.objs.size globals (cellsFrom (s.heap.objs.size+1) scope.names []++clos) qual func code none builtins) _ (λ_ _ _=>rfl) hk (λn c e=>?_) bs (λ_=>none) (λ_=>none) _ _ ?_ hb λs' x=>S5 (hQ _ rfl s' x))
 ·show (cellsFrom (s.heap.objs.size+1) scope.names []++clos).lookup n=some c
  rw [Jpp,e];rfl
 ·exact ⟨⟨⟨_,_,rfl⟩,(Heap.Ns.new s.heap (.type "frame")).keeps (pushCells_keeps _ _),λb o e=>pushCells_keeps _ _ b o (yl _ e),yk _⟩,λn c hc=>(ok.empty n c (mem_of_lookup hc)).1,ok.apart,λn c hm=>(ok.empty n c hm).2⟩
end
structure Jro (N ps fr:List Str) (sc:Scope):Prop where
 kind:sc.kind= .function
 co:sc.isCoroutine=false
 gen:sc.isGenerator=false
 nd:N.Nodup
 pre:N.take (ps.length+fr.length)=ps++fr
 par:∀x∈ps,sc.names.lookup x=some .local\/sc.names.lookup x=some .cell
 frs:∀x∈fr,sc.names.lookup x=some .free
 nof:∀y∈sc.names,y.2= .cell->sc.names.lookup y.1=some .cell
def Yad (CX:CXT) (P:S7) (w:S9) (K:Se) (mg:Str->Option S2) (base:Sb) (N:List Str) (qual:Str) (scope:Scope) (clos:List (Str×S1)) (f:S1) (cd:S2) (A:Sa) (outer:List Env) (s:S3) (H:Hp) (E:XK):Cx where
 prog:=P
 w:=w
 K:=K
 mg:=mg
 base:=base
 A:=A.deeper (PySem.W.envX qual scope s.heap.objs.size f cd (cellsFrom (s.heap.objs.size+1) scope.names []++clos))
 N:=N
 s₀:=s
 H₀:=H
 env:=PySem.W.envX qual scope s.heap.objs.size f cd (cellsFrom (s.heap.objs.size+1) scope.names []++clos)
 outer:=outer
 stack:=PySem.W.envX qual scope s.heap.objs.size f cd (cellsFrom (s.heap.objs.size+1) scope.names []++clos)::outer
 ex:=[]
 calm:=true
 fn:=λx=>decide (scope.names.lookup x=some .cell)
 pn:=[]
 xe:=λe s'=>Sc (model P w) (A.deeper (PySem.W.envX qual scope s.heap.objs.size f cd (cellsFrom (s.heap.objs.size+1) scope.names []++clos))) (leaving (PySem.W.envX qual scope s.heap.objs.size f cd (cellsFrom (s.heap.objs.size+1) scope.names []++clos)) e) (λ_ s''=>CX outer H s E e s'') (λe' s''=>CX outer H s E e' s'') s'
theorem Yc3 {i:Nat} (h:(start N vs)[i]?=some (some v)):vs[i]?=some v:=by
 unfold start at h
 by_cases hi:i < vs.length
 ·rw [ycc (by simpa using hi),yg] at h
  cases e:vs[i]? with
  |none=>rw [e] at h;cases h
  |some a=>rw [e] at h;cases h;rfl
 ·rw [ycb (by simpa using hi),ybu] at h
  split at h <;> cases h
theorem Ye {K}
  (S:Jro N ps fr scope) (hd:A.handled=none) (e0:Sfu P w K mg base A outer s H) (hl:vs.length=ps.length) (hlc:cs.length=fr.length) (r:Sa0 vs us)
  (inj:∀x y b,clos.lookup x=some b->clos.lookup y=some b->x=y) (has:∀y∈scope.names,y.2= .free->∃b,clos.lookup y.1=some b) (cel:∀x b,clos.lookup x=some b->∃v,Scp H b v) (cap:∀x v,(x,v)∈fr.zip cs->∃b,clos.lookup x=some b/\Scp H b v)
  (x:InCallC s s.heap.objs.size (bindL (PySem.W.envX qual scope s.heap.objs.size f cd (cellsFrom (s.heap.objs.size+1) scope.names []++clos)).kindOf (ps.zip us) λ_=>none) (cellsFrom (s.heap.objs.size+1) scope.names []) (bindC (PySem.W.envX qual scope s.heap.objs.size f cd (cellsFrom (s.heap.objs.size+1) scope.names []++clos)).kindOf (ps.zip us) λ_=>none) s1):
  Sn (Yad CX P w K mg base N qual scope clos f cd A outer s H E) [] (start N (vs++cs)) H s1:=by
 have hpl:=by have:=congrArg List.length S.pre;rw [yy,yae] at this;omega
 obtain ⟨h1,tk,rfl,hk⟩:=x.done
 have noA:∀b:S1,b∉(Yad CX P w K mg base N qual scope clos f cd A outer s H E).ex:=λb z=>absurd (show b∈ [] from z) (by simp)
 have cobj:∀b v,Scp H b v->∃o u,H b=some (Sj8 o)/\s.heap.get? b=some o/\o.data= .cell (some u)/\Sa5 v u:=λb v ⟨o,u,q1,q2,q3⟩=>⟨o,u,q1,(e0.hok b _ q1).1,q2,q3⟩
 have two:∀y b,(cellsFrom (s.heap.objs.size+1) scope.names []++clos).lookup y=some b->(cellsFrom (s.heap.objs.size+1) scope.names []).lookup y=some b\/((cellsFrom (s.heap.objs.size+1) scope.names []).lookup y=none/\clos.lookup y=some b):=λy b e=>by
  rw [Jpp] at e
  cases q:(cellsFrom (s.heap.objs.size+1) scope.names []).lookup y with
  |none=>rw [q] at e;exact .inr ⟨rfl,e⟩
  |some d=>rw [q] at e;exact .inl e
 have low:∀y b,clos.lookup y=some b->b < s.heap.objs.size:=λy b e=>by
  obtain ⟨v,q⟩:=cel y b e
  obtain ⟨o,u,_,q2,_⟩:=cobj b v q
  exact yi q2
 have high:=λy b e=>x.above y b (PySem.mem_of_lookup e)
 refine ⟨⟨e0.mod,S.kind,rfl,rfl,yk _,λy z c h1 h2=>?_,λy hy=>?_,λy c hy h=>?_,λ_=>hd,Around.frames_deeper e0.frames,.inr ⟨rfl,rfl⟩,λb z=>absurd z (noA b),e0.bs,e0.bsz,λb _ _=>noA b,λb z=>absurd z (noA b),e0.funs,e0.frf⟩,
  rfl,e0.bare,Un.kept hk,⟨_,x.toInCall.ns,λi y v h1 h2 h3=>?_⟩,λy c h=>?_,e0.hok.fresh (yk _),λy c h=>?_,λp hp=>absurd (show p∈ [] from hp) (by simp),e0.hok.kept hk,?_⟩
 ·rcases two y c h1 with a|⟨_,a⟩
  ·rcases two z c h2 with b|⟨_,b⟩
   ·exact name_of_addr x.apart (PySem.mem_of_lookup a) (PySem.mem_of_lookup b)
   ·exact absurd (Nat.lt_trans (high y c a) (low z c b)) (yar _)
  ·rcases two z c h2 with b|⟨_,b⟩
   ·exact absurd (Nat.lt_trans (high z c b) (low y c a)) (yar _)
   ·exact inj y z c a b
 ·have hy:scope.names.lookup y=some .cell\/scope.names.lookup y=some .free:=hy
  show ∃c,(cellsFrom (s.heap.objs.size+1) scope.names []++clos).lookup y=some c
  rw [Jpp]
  cases q:(cellsFrom (s.heap.objs.size+1) scope.names []).lookup y with
  |some d=>exact ⟨d,rfl⟩
  |none=>
   rcases hy with hy|hy
   ·obtain ⟨c,e⟩:=Jqu hy
    rw [q] at e;cases e
   ·exact has _ (PySem.mem_of_lookup hy) rfl
 ·rcases two y c h with a|⟨a,_⟩
  ·exact ybg (high y c a)
  ·have hy':=hy
   obtain ⟨c',e⟩:=Jqu (of_decide_eq_true hy')
   rw [a] at e;cases e
 ·have ha:=Yc3 h2
  have hi:=by have:=(yj.mp ha).1;rw [yae] at this;exact this
  have hp:(ps++fr)[i]?=some y:=by rw [<-S.pre,List.getElem?_take_of_lt (by omega)];exact h1
  by_cases hv:i < vs.length
  ·rw [ycc hv] at ha
   rw [ycc (by omega)] at hp
   obtain ⟨u,hu,rv⟩:=r.get ha
   have ndP:=(List.nodup_append.mp (by rw [<-S.pre];exact S.nd.sublist (List.take_sublist _ _))).1
   refine ⟨u,rv,?_⟩
   rcases S.par y (yp hp) with k|k
   ·exact .inl ⟨k,Ju1 ndP hp hu k⟩
   ·obtain ⟨c,e⟩:=Jqu k
    refine .inr ⟨.inl k,c,?_,?_⟩
    ·show (cellsFrom (s.heap.objs.size+1) scope.names []++clos).lookup y=some c
     rw [Jpp,e];rfl
    ·have q:=x.cell y c e
     rw [Ju0 ndP hp hu (by show scope.names.lookup y≠_;rw [k];decide)] at q
     exact q
  ·rw [ycb (by omega)] at ha
   rw [ycb (by omega)] at hp
   obtain ⟨b,e1,e2⟩:=cap y v (yp (by rw [ycd];exact ⟨by rw [hl];exact hp,ha⟩))
   have kf:=S.frs y (yp hp)
   obtain ⟨o,u,_,q2,q3,q4⟩:=cobj b v e2
   refine ⟨u,q4,.inr ⟨.inr kf,b,?_,o,hk _ _ q2,q3⟩⟩
   show (cellsFrom (s.heap.objs.size+1) scope.names []++clos).lookup y=some b
   rw [Jpp]
   cases q:(cellsFrom (s.heap.objs.size+1) scope.names []).lookup y with
   |none=>exact e1
   |some d=>
    have:=S.nof _ (Jr3 scope.names _ [] q rfl) rfl
    rw [kf] at this;cases this
 ·rcases two y c h with a|⟨_,a⟩
  ·exact ⟨_,x.cell y c a⟩
  ·obtain ⟨v,q⟩:=cel y c a
   obtain ⟨o,u,_,q2,q3,_⟩:=cobj c v q
   exact ⟨_,o,hk _ _ q2,q3⟩
 ·rcases two y c h with a|⟨a1,a⟩
  ·exact .inl (e0.hok.fresh (ybg (high y c a)))
  ·obtain ⟨v,q⟩:=cel y c a
   obtain ⟨o,u,q1,_⟩:=cobj c v q
   refine .inr ⟨decide_eq_false λz=>?_,o,q1⟩
   obtain ⟨c',e⟩:=Jqu z
   rw [a1] at e;cases e
 ·unfold start
  show _=N.length
  rw [yae,yf,ybo,yae]
  omega
structure Jx2 (P:S7) (w:S9) (K:Se) (mg:Str->Option S2) (base:Sb) (CX:CXT) (k:Nat) (f:S1) (sp:Sp):Prop where
 isf:∀vs H Q E,sp vs H Q E->IsF H f
 run:∀(A:Sa) (outer:List Env) (s:S3) (H:Hp) (us:List S2) (vs:List V) (Q:VK) (E:XK),San k A->Sfu P w K mg base A outer s H->Sa0 vs us->sp vs H Q E->codeAny (model P w) A (.call (.ref f) ⟨us,[]⟩) (CR CX outer P w H s Q E) s
inductive Yaz (name qual:Str) (st:Stmt) (fr:List Str) (sp:List V->Sp) (f:S1) (vs:List V) (H:Hp) (Q:VK) (E:XK):Prop where
 |mk (cs:_) (_:Sbz H f name qual st (fr.zip cs)) (_:sp cs vs H Q E)
theorem Smu {K} {st} (S:Jro N ps fr (Jmt st))
  (hb:∀clos doc pm c ct us,us.length=ps.length->bindArgs (PySem.W.fnX name qual (Jo0 st) (Jnw st) (Jmt st) clos .none .none doc pm none (.ref c) ct) ⟨us,[]⟩=pure (ps.zip us))
  (len:∀cs vs H Q E,sp cs vs H Q E->vs.length=ps.length/\cs.length=fr.length)
  (hbody:∀f c clos A outer s H vs cs Q E,San k (A.deeper (PySem.W.envX qual (Jmt st) s.heap.objs.size f (.ref c) (cellsFrom (s.heap.objs.size+1) (Jmt st).names []++clos)))->sp cs vs H Q E->
   ∃t,PSs (Yad CX P w K mg base N qual (Jmt st) clos f (.ref c) A outer s H E) (Jnw st) t/\t {nx:=λ_ H'=>Q .non H',rt:=Q} (start N (vs++cs)) H) (f):
  Jx2 P w K mg base CX (k+1) f (Yaz name qual st fr sp f):=by
 refine ⟨λvs H Q E ⟨cs,h,_⟩=>h.isf,λA outer s H us vs Q E hr e0 r zq=>?_⟩
 obtain ⟨cs,⟨clos,c,h1,h2,h3,h4,h5,h6⟩,hsp⟩:=zq
 obtain ⟨hl,hlc⟩:=len _ _ _ _ _ hsp
 have hlu:us.length=ps.length:=by rw [<-r.length];exact hl
 obtain ⟨⟨doc,pm,ct,ho⟩,_⟩:=e0.hok f _ h1
 refine codeAny_call_function hr.depth ho rfl S.co S.gen rfl (e0.hok c _ h2) ?_
 rw [hb clos doc pm c ct us hlu]
 refine S5 (Yes S.kind (λ⟨y,v⟩ hy=>?_) λenv he s1 z=>?_)
 ·exact (S.par y (List.of_mem_zip hy).1).imp id λq=>⟨q,PySem.W.cellsFrom_some _ _ _ (.inl q)⟩
 subst he
 refine ⟨(e0.mod.nolimit.keeps λb o e=>(e0.bs b o e).1).keeps z.toInCall.keep,codeAny_func ?_⟩
 obtain ⟨t,ht,hq⟩:=hbody f c clos A outer s H vs cs Q E (hr.deeper _) hsp
 refine wpAny_mono (ht [] s1 (start N (vs++cs)) H _ (Ye S hr.hd e0 hl hlc r h3 h4 h5 h6 z) hq) (λfl s' hs=>?_) λe s' hs=>hs
 cases fl with
 |ret u=>
  obtain ⟨v,σ',H',J,rv,q⟩:=hs
  exact ⟨v,H',J.os,J.bare,J.base,J.hok,rv,q⟩
 |next=>
  obtain ⟨σ',H',J,q⟩:=hs
  exact ⟨.non,H',J.os,J.bare,J.base,J.hok,rfl,q⟩
 |brk=>
  obtain ⟨_,_,_,q⟩:=hs
  exact False.elim q
 |cont=>
  obtain ⟨_,_,_,q⟩:=hs
  exact False.elim q
inductive Ydy (i:Nat) (sp:S1->Sp) (R:St->XK) (t:TA) (σ:St) (H:Hp) (Q:VK):Prop where
 |mk (f:_) (_:σ[i]?=some (some (.ref f))) (_:t σ H λvs H1=>sp f vs H1 Q (R σ))
section
variable {X:Cx} {CX:CXT} {k j i:Nat} {sp:S1->Sp} {x:Str} {p pos:Pos} {e:Expr} {es:List Expr} {t:TA} {R:St->XK}
theorem Jwp (G:∀f,Jx2 X.prog X.w X.K X.mg X.base CX k f (sp f)) (hr:San j X.A) (hk:k<=j) (hx:∀pins σ H s e s',Sn X pins σ H s->CX X.stack H s (R σ) e s'->X.xe e s') (ha:PA X (e::es) t) (hN:X.N[i]?=some x) (hv:Vis X.env.scope x)
  (hd:(x==("__debug__" :Str))=false) (hcd:(x==("__classdict__" :Str))=false) (he:starEach (e::es) X.env=(false,eval e X.env)::starEach es X.env) (hpl:(backTo pos (starEach es X.env)).any (·.1)=false):
  PE X (.Call (.Name x p) (e::es) [] pos) (Ydy i sp R t):=by
 rintro pins s σ H Q I ⟨f,hf,h⟩
 refine wpAny_Call_Name_kw (thn (Yd7 hN hv hd hcd pins s σ H (λv H'=>v= .ref f/\H'=H) I ⟨_,hf,rfl,rfl⟩) λu s1 zq=>?_)
 obtain ⟨v,H',I1,r,e1,e2⟩:=zq
 subst e1 e2
 cases r
 have hat:∀{s2:S3} {H2:Hp},Sn X pins σ H2 s2->IsF H2 f->PySem.W.FnAt f s2.heap:=λJ ⟨name,qual,st,clos,c,z⟩=>by
  obtain ⟨⟨doc,pm,ct,q⟩,_⟩:=J.hok f _ z
  exact ⟨_,_,_,_,q⟩
 rw [he]
 refine PySem.W.callWith_of (by show ((false||(backTo pos (starEach es X.env)).any (·.1))||false)=false;rw [hpl];rfl) PySem.W.keeps_F (Calls.evalArgs_plain ?_)
 have ha':=ha pos pins s1 σ H' _ I1 h
 rw [he] at ha'
 refine thn ha' λus s2 ⟨vs,H2,I2,r2,q2⟩=>⟨hat I2 ((G f).isf _ _ _ _ q2),wpAny_call (codeAny_mono ((G f).run X.A X.stack s2 H2 us vs Q (R σ) (hr.mono hk) I2.env0 r2 q2) λr s' hq=>?_)⟩
 cases r with
 |error e=>exact hx pins σ H2 s2 e s' I2 hq
 |ok fl=>
  cases fl with
  |ret u=>exact I2.after hq
  |next=>exact False.elim hq
  |brk=>exact False.elim hq
  |cont=>exact False.elim hq
theorem Jzq (G:∀f,Jx2 X.prog X.w X.K X.mg X.base CX0 k f (sp f)) (hr:San j X.A) (hk:k<=j) (i) (ha:PA X (e::es) t) (hN:X.N[i]?=some x:=by rfl) (hv:Vis X.env.scope x:=by first|exact ye rfl|exact Or.inr (ye rfl)|exact Or.inr (Or.inr rfl))
  (hd:(x==("__debug__" :Str))=false:=by decide) (hcd:(x==("__classdict__" :Str))=false:=by decide) (he:starEach (e::es) X.env=(false,eval e X.env)::starEach es X.env:=by rfl) (hpl:(backTo pos (starEach es X.env)).any (·.1)=false:=by rfl):
  PE X (.Call (.Name x p) (e::es) [] pos) (Ydy i sp (λ_=>E0) t):=Jwp G hr hk (λ_ _ _ _ _ _ _ z=>z.elim) ha hN hv hd hcd he hpl
end
theorem nst_mk {K} (l:K.lookup f=some ⟨oc,od,.func fd,sl⟩) (e:fd.code= .ref c)
  (lc:K.lookup c=some ⟨.type "code",od', .fields vs,sl'⟩) (_:vs[11]?=some (.ref P)) (hb:Smt vs c P=true):Nst K f c P:=⟨⟨oc,od,fd,sl,l,e⟩,⟨od',vs,sl',lc,hb⟩⟩
theorem Jxd {β:Type}:∀{l:List (S1×β)},(l.map (·.1)).Nodup->∀p∈l,l.lookup p.1=some p.2
 |q::r,h,p,hp=>by
  have h':(q.1::r.map (·.1)).Nodup:=h
  obtain ⟨h1,h2⟩:=ybq.mp h'
  rw [yas]
  rcases ym.mp hp with rfl|hp
  ·rw [beq_self_eq_true]
  ·have ne:(p.1==q.1)=false:=beq_eq_false_iff_ne.mpr λz=>h1 (by rw [<-z];exact yau hp)
   rw [ne]
   exact Jxd h2 p hp
theorem Jvu {β:Type}:∀{l:List (S1×β)} {a:S1} {v:β},l.lookup a=some v->(a,v)∈l
 | (b,x) :: r,a,v,e=>by
  rw [yas] at e
  cases hb:a==b with
  |true=>rw [hb] at e;cases e;rw [eq_of_beq hb];exact .head _
  |false=>rw [hb] at e;exact .tail _ (Jvu e)
theorem Ybk {K:Se} {tabs:List (S1×Array (Nat×Nat×Str))}
  (KX:K.In s₁.heap) (hns:s₁.heap.Ns mainGlobals mg) (hb:s₁.heap.Ns builtinsNs mb) (hbb:∀x:Str,x≠"__name__" ->mb x=bootBuiltins x) (hlim:s₁.heap.NoLimit) (hg:s₁.gens= #[])
  (ha:s₁.heap.get? a=some {cls:=.type "list",data:=.seq vs.toArray}) (hi:IntsAre vs ns) (hl:ns.length<=S6) (hr:San k callerA)
  (hT:∀p∈tabs,isCodeTable s₁.heap p.1/\s₁.heap.get? p.1=some (PySem.W.tabObj #[])) (hnd:(tabs.map (·.1)).Nodup) (hK:PySem.W.noTabs K=true) (hbm:Bmn mg s₁.heap)
  (F:∀base:Sb,K.In base->base.Ns mainGlobals mg->Bmn mg base->Ss P w K mg base CX k fa fd [x] sp) (hbind:∀s u,BindsTo s fd ⟨[u],[]⟩ [(x,u)])
  (hsp:∀H:Hp,(∀p∈tabs,H p.1=some (.tbl p.2))->Sv K H a (ns.map V.int)->sp [.ref a] H (λv _=>v= .bl true) λ_ _ _=>False)
  (hCX:∀H e s',CX [] H s₁ (λ_ _ _=>False) e s'->False):
  codeAny (model P w) callerA (.call (.ref fa) ⟨[.ref a],[]⟩) (λr s'=>r= .ok (.ret (.bool true))/\OldK s₁.heap s'.heap/\s'.os=s₁.os/\AllBare s'.gens) s₁:=by
 have rv:=Jxl hi
 let so:Obj:={cls:=.type "list",data:=.seq vs.toArray}
 let H:Hp:=λb=>if b=a/\K.lookup a=none then some (.frz so (.lst (ns.map V.int))) else (tabs.lookup b).map HO.tbl
 have three:∀b,H b=none\/(b=a/\K.lookup a=none/\H b=some (.frz so (.lst (ns.map V.int))))\/∃lb,(b,lb)∈tabs/\H b=some (.tbl lb):=λb=>by
  by_cases h:b=a/\K.lookup a=none
  ·exact .inr (.inl ⟨h.1,h.2,if_pos h⟩)
  ·have e:H b=(tabs.lookup b).map HO.tbl:=if_neg h
   cases q:tabs.lookup b with
   |none=>exact .inl (by rw [e,q];rfl)
   |some lb=>exact .inr (.inr ⟨lb,Jvu q,by rw [e,q];rfl⟩)
 have hnon:∀b o,s₁.heap.get? b=some o->(∀xs n,o.data≠ .seq xs n)->(∀xs,o.data≠ .fields xs)->H b=none:=λb o e n1 n2=>by
  rcases three b with z|⟨rfl,_,_⟩|⟨lb,m,_⟩
  ·exact z
  ·rw [ha] at e;cases e;exact absurd rfl (n1 _ _)
  ·rw [(hT _ m).2] at e;cases e;exact absurd rfl (n2 _)
 have htb:∀p∈tabs,H p.1=some (.tbl p.2):=λp hp=>by
  have n:¬(p.1=a/\K.lookup a=none):=λz=>by
   have e:=(hT p hp).2
   rw [z.1,ha] at e;cases e
  show (if p.1=a/\K.lookup a=none then _ else _)=_
  rw [if_neg n,Jxd hnd p hp]
  rfl
 have hok:HOk P w H s₁.heap:=λb u z=>by
  rcases three b with e|⟨rfl,_,e⟩|⟨lb,m,e⟩
  ·rw [e] at z;cases z
  ·rw [e] at z;cases z
   exact ⟨ha,by rw [yf];exact hl,vs,_,rv,ha⟩
  ·rw [e] at z;cases z
   exact ⟨#[],(hT _ m).2,True.intro⟩
 have hS:Sv K H a (ns.map V.int):=by
  cases hk:K.lookup a with
  |some o=>
   have e:=KX a o hk
   rw [ha] at e;cases e
   exact .inr ⟨_,vs.toArray,_,hk,rfl,rfl,rfl,by rw [yn,hi.length];exact hl,by simpa using rv⟩
  |none=>exact .inl (.inr ⟨so,if_pos ⟨rfl,hk⟩⟩)
 have nsK:∀{b:S1} {m:Str->Option S2},s₁.heap.Ns b m->(Jxv s₁.heap H).Ns b m:=λ{b m} ⟨o,es,ep,e,d,r⟩=>⟨o,es,ep,Jvp e (hnon b o e (λxs n z=>by rw [d] at z;cases z) λxs z=>by rw [d] at z;cases z),d,r⟩
 have hKb:K.In (Jxv s₁.heap H):=λb o e=>Jvp (KX b o e) (by
  rcases three b with z|⟨rfl,z,_⟩|⟨lb,m,_⟩
  ·exact z
  ·rw [z] at e;cases e
  ·exfalso
   have q:=KX b o e
   rw [(hT _ m).2] at q
   cases q
   have h2:=yaw.mp hK (b,_) (PySem.W.mem_of_lookupK e)
   exact absurd (h2) yaj)
 have hBb:Bmn mg (Jxv s₁.heap H):=by
  obtain ⟨bm,ob,b1,b2,b3,b4,b5,b6⟩:=hbm
  exact ⟨bm,ob,b1,b2,Jvp b3 (hnon bm ob b3 (λxs n z=>by rw [b6] at z;cases z) λxs z=>by rw [b6] at z;cases z),b4,b5,b6⟩
 have hM:Mod K mg (Jxv s₁.heap H):=⟨hKb,nsK hns,⟨mb,nsK hb,hbb⟩,let ⟨mc,h1,h2⟩:=hlim;⟨mc,nsK h1,h2⟩⟩
 have e0:Sfu P w K mg (Jxv s₁.heap H) callerA [] s₁ H:=⟨rfl,hM,λb o e=>Yew e,Nat.le_of_eq (Ybh _ _),trivial,λb hb=>absurd (show b∈ [] from hb) (by simp),hok,.of_eq hg⟩
 refine codeAny_mono ((F _ hKb (nsK hns) hBb).run callerA [] s₁ H ⟨[.ref a],[]⟩ [.ref a] [.ref a] _ _ hr e0 (hbind s₁ (.ref a)) (.cons rfl .nil) (hsp H htb hS)) λr s' h=>?_
 cases r with
 |error e=>exact (hCX H e s' h).elim
 |ok fl=>
  cases fl with
  |next=>exact False.elim h
  |brk=>exact False.elim h
  |cont=>exact False.elim h
  |ret u=>
   obtain ⟨v,H',os,bare,un,hok',r',q⟩:=h
   subst q
   obtain rfl:u=Value.bool true:=r'
   have all:∀b o,s₁.heap.get? b=some o->s'.heap.get? b=some o\/(isCodeTable s₁.heap b/\o=PySem.W.tabObj #[]/\∃ts,s'.heap.get? b=some (PySem.W.tabObj ts)):=λb o e=>by
    rcases three b with z|⟨rfl,_,z⟩|⟨lb,m,z⟩
    ·exact .inl (un.keep b o e z (by intro y;exact absurd (show b∈ [] from y) (by simp)) (by simp))
    ·obtain ⟨e2,_⟩:=hok' _ _ (un.frzs _ _ _ z)
     rw [ha] at e;cases e
     exact .inl e2
    ·obtain ⟨more,z2⟩:=un.tbls b lb z
     obtain ⟨ts,e2,_⟩:=hok' b _ z2
     have e3:=(hT _ m).2
     rw [e] at e3;cases e3
     exact .inr ⟨(hT _ m).1,rfl,ts,e2⟩
   refine ⟨rfl,⟨λb o e=>?_,λb o e=>?_⟩,os,bare⟩
   ·rcases all b o e with z|⟨t,rfl,ts,z⟩
    ·exact .inl z
    ·exact .inr (.inl ⟨t,rfl,#[],ts,rfl,by rw [Array.empty_append];exact z⟩)
   ·rcases all b o e with z|⟨t,rfl,ts,z⟩
    ·exact ⟨o,z⟩
    ·exact ⟨_,z⟩
def Ycd (q:S7) (K:Se) (h:Sb):Prop:=∀(y:Str) (d:DefRec) (c P:S1),(recsOf q).find? (λe=>e.name==y)=some d->PySem.W.tabIn K y=some (c,P)->PySem.W.CodeHd h c P/\h.get? P=some (PySem.W.tabObj #[])
theorem walk_ofT {l:PySem.W.OpenLaw} {n k} {q} {loose} {XP} {YP} {d} {K:Params->Se} {CX} {x}
  (hn:l.most=some n) (hn2:n<=S6) (hdf:d.params.defaults= []) (hr:San k callerA) (hY:∀w h,YP w h->(K w.params).In h) (hK:∀w:S9,PySem.W.noTabs (K w.params)=true)
  (F:∀w mg fa h,(K w.params).In h->h.Ns mainGlobals mg->Ycd q (K w.params) h->mg d.name=some (.ref fa)->
   ∃(fd:S8) (sp:Sp) (tabs:List (S1×Array (Nat×Nat×Str))),(∀s u,BindsTo s fd ⟨[u],[]⟩ [(x,u)])/\(∀p∈tabs,isCodeTable h p.1/\h.get? p.1=some (PySem.W.tabObj #[]))/\(tabs.map (·.1)).Nodup/\
    (∀base:Sb,(K w.params).In base->base.Ns mainGlobals mg->Bmn mg base->Ss l.prog w (K w.params) mg base CX k fa fd [x] sp)/\
    ∀H a (ns:List Int),ns.length<=n->(∀p∈tabs,H p.1=some (.tbl p.2))->Sv (K w.params) H a (ns.map V.int)->sp [.ref a] H (λv _=>v= .bl true) λ_ _ _=>False)
  (hCX:∀H s e s',CX [] H s (λ_ _ _=>False) e s'->False):
  PySem.W.WalkO q loose XP YP l.row.toRowW d [] (λf vs=>PySem.call f vs):=by
 refine Att.attach_call hn hdf λw s₀ s₁ mg mb fa o pm cd doc a vs ns G Y ho hd hcd hmg hobj hints hlen hg=>?_
 have KX:=hY w _ Y
 obtain ⟨fd,sp,tabs,hb,hT,hnd,hF,hsp⟩:=F w mg fa _ KX G.T.g (λy d c P e1 e2=>PySem.W.tab_of G.T KX e1 e2) hmg
 exact Ybk KX G.T.g G.T.b G.T.builtins G.T.nolimit hg hobj hints (yan hlen hn2) hr hT hnd (hK w) G.T.bmain hF hb (λH h1 h2=>hsp H a ns hlen h1 h2) λH e s'=>hCX H s₁ e s'
theorem tab_kn {K} (T:Ycd q K h) (e1:(recsOf q).find? (λe=>e.name==y)=some d) (e2:PySem.W.tabIn K y=some (c,P)):isCodeTable h P/\h.get? P=some (PySem.W.tabObj #[]):=
 let ⟨a,b⟩:=T y d c P e1 e2
 ⟨(a.tab b).isCodeTable,b⟩
end L2
namespace L2
open PySem PySem.Spec PyProof.Rows PySem.W
theorem Yac {K} {st} (S:Jro N ps fr (Jmt st))
  (hb:∀clos doc pm c ct us,us.length=ps.length->bindArgs (PySem.W.fnX name qual (Jo0 st) (Jnw st) (Jmt st) clos .none .none doc pm none (.ref c) ct) ⟨us,[]⟩=pure (ps.zip us))
  (len:∀cs vs H Q E,sp cs vs H Q E->vs.length=ps.length/\cs.length=fr.length)
  (hbody:∀f c clos A outer s H vs cs Q E,San k (A.deeper (PySem.W.envX qual (Jmt st) s.heap.objs.size f (.ref c) (cellsFrom (s.heap.objs.size+1) (Jmt st).names []++clos)))->sp cs vs H Q E->
   ∃t,PSs (Yad CX0 P w K mg base N qual (Jmt st) clos f (.ref c) A outer s H E).nox (Jnw st) t/\t {nx:=λ_ H'=>Q .non H',rt:=Q} (start N (vs++cs)) H) (f):Jx2 P w K mg base CX0 (k+1) f (Yaz name qual st fr sp f):=
 Smu S hb len (λf c clos A outer s H vs cs Q E hr h=>let ⟨t,h1,h2⟩:=hbody f c clos A outer s H vs cs Q E hr h;⟨t,h1.nox,h2⟩) f
theorem Ycz {l c:Nat} {q:Str}:(l,c,q)∈ #[(l,c,q)]:=by simp
theorem Yan {l c:Nat} {q:Str} (h:(l,c,q')∈ #[(l,c,q)]):q'=q:=by grind
def nst (s:Stmt) (j:Nat):Stmt:=(Jnw s).getD j (.Pass ⟨0,0,0,0⟩)
section
variable {X:Cx} {pins:List (S1×Obj)} {σ:St} {H:Hp} {s:S3}
end
section
variable {g:TG} {tt:TT} {te:TE} {H:Hp} {D:S1} {σ:St} {R:Hp->Prop}
end
section
variable {prog:S7} {w:S9} {A:Sa} {E:S2->S3->Prop} {s:S3} {a:S1} {its:Array S2} {n:Nat}
end
section
variable {prog:S7} {w:S9} {K:Type} [DecidableEq K] {knd:KeyKind prog w K} {A:Sa}
end
inductive Svj (K:Se) (xs:List V) (H:Hp) (Q:VK):Prop where
 |mk (a:S1) (bs:List Bool) (_:xs= [.ref a]) (_:Sv K H a (bs.map V.bl)) (_:Q (.bl (bs.any id)) H)
theorem Ycj {K} (hK:X.K=K) (hc:X.calm=true):Jpd X (.builtin "any") (Svj K):=by
 subst hK
 rintro pins s σ H xs us Q I r ⟨a,bs,rfl,hq,q⟩
 obtain ⟨u,rfl,ru⟩:=Jqg r
 cases ru
 obtain ⟨its,rv,pl,hz⟩:=I.list hq
 have hlen:=rv.length
 refine call_any_walk (wpAny_pyIter_list pl.isList ⟨s.heap.objs.size,[s.heap.objs.size,a],[s.heap.objs.size],its.toArray.size,_,_,λi=>bs.getD i false,rfl,Walks.list (A:=X.A.in1) (I.ok.hd hc) s.heap.objs.size a ?_ its.toArray,⟨⟨_,yq _ rfl,rfl,rfl⟩,pl.isList.at λo e=>yl _ e⟩,?_,λh' tk k=>?_⟩)
 ·obtain ⟨o,_,e,_⟩:=pl
  exact yo (yi e)
 ·intro i v s' Q' E' hv hq'
  have hv':=by simpa using hv
  have hi:=(yj.mp hv').1
  have hb:i < bs.length:=by rw [yf] at hlen;omega
  obtain ⟨u',hu',ru'⟩:=rv.get (by rw [yg,yh hb];rfl)
  rw [hv'] at hu'
  cases hu'
  cases ru'
  refine wpAny_truthy_bool ?_
  have:bs.getD i false=bs[i]:=by rw [yat,yh hb];rfl
  rw [<-this]
  exact hq'
 ·have e:((yz its.toArray.size).any λi=>bs.getD i false)=bs.any id:=by
   have hl2:its.toArray.size=bs.length:=by rw [yf] at hlen;rw [yn];exact hlen.symm
   rw [hl2,Bool.eq_iff_iff,List.any_eq_true,List.any_eq_true]
   constructor
   ·rintro ⟨i,hi,hh⟩
    have hi':=yaz.mp hi
    rw [yat,yh hi'] at hh
    exact ⟨_,yax hi',hh⟩
   ·rintro ⟨b,hb,hh⟩
    obtain ⟨i,hi,rfl⟩:=List.getElem_of_mem hb
    refine ⟨i,yaz.mpr hi,?_⟩
    rw [yat,yh hi]
    exact hh
  rw [e]
  exact ⟨.bl _,H,I.kept λb o e=>k b o (λz=>by
   have z':=by simpa using z
   exact absurd (yi e) (by rw [z'];exact yar _)) (yl _ e),rfl,q⟩
section
variable {prog:S7} {w:S9} {K:Type} [DecidableEq K] {knd:KeyKind prog w K} {A:Sa} {E:S2->S3->Prop} {s:S3} {b:Bool}
end
section
variable {prog:S7} {w:S9} {A:Sa} {R:Result->S3->Prop} {I:S1} {fp wr:List S1} {n:Nat} {P:Nat->S2->Prop} {St:Nat->Sb->Prop}
end
section
variable {prog:S7} {w:S9} {A:Sa} {E:S2->S3->Prop} {s:S3}
end
section
variable {M:Model} {A:Sa} {E:S2->S3->Prop} {s:S3}
end
section
variable {prog:S7} {w:S9} {A:Sa} {E:S2->S3->Prop} {s:S3} {it a T:S1} {i ep slot next p m:Nat} {x:S2} {h0:Int} {tk:Tok} {o oT:Obj} {es:Array (Int×S2)} {t:SetTable} {ps:Array S2} {Q:Option S2->S3->Prop}
end
section
variable {prog:S7} {w:S9} {A:Sa} {E:S2->S3->Prop} {s:S3} {it a:S1} {i ep slot:Nat} {o:Obj} {es:Array (Int×S2)} {t:SetTable}
end
section
variable {prog:S7} {w:S9} {A:Sa} {E:S2->S3->Prop} {s:S3} {it a:S1}
end
section
variable {prog:S7} {w:S9} {A:Sa} {it a T:S1} {ep m:Nat} {o oT:Obj} {es:Array (Int×S2)} {t:SetTable} {ps:Array S2}
end
section
variable {prog:S7} {w:S9} {A:Sa} {E:S2->S3->Prop} {s:S3} {a:S1} {ep:Nat} {o:Obj} {es:Array (Int×S2)} {t:SetTable}
end
end L2
namespace L2
open PySem PySem.Spec PyProof.Rows PySem.W PySem.Calls
section
variable {prog:S7} {w:S9} {A:Sa} {E:S2->S3->Prop} {s:S3} {a:S1} {ep:Nat} {o:Obj} {es:Array (Int×S2)} {t:SetTable}
end
end L2
namespace L2
open PySem PySem.Spec PyProof.Rows PySem.W
section
variable {X:Cx}
end
theorem Smq:bootBuiltins "any" =some (.builtin "any"):=by decide +kernel
section
variable {X:Cx}
end
section
variable {X:Cx} {CX:CXT} {k j i:Nat} {sp:S1->Sp} {x:Str} {p pos:Pos} {e:Expr} {es:List Expr} {t:TA} {R:St->XK}
end
section
variable {X:Cx} {o i value:Expr} {pos pos':Pos} {td ty tv:TE}
end
section
variable {P:S7} {w:S9} {H H':Hp} {h:Sb} {a:S1} {o:Obj} {kvs:List (Key×V)}
end
section
variable {X:Cx} {pins:List (S1×Obj)} {σ:St} {H:Hp} {s:S3} {a:S1} {o:Obj} {kvs:List (Key×V)}
end
section
variable {prog:S7} {w:S9} {A:Sa} {E:S2->S3->Prop} {s:S3}
end
section
variable {X:Cx}
end
section
variable {X:Cx} {x:Str} {np pos:Pos} {C0:S1} {b₀:Stmt} {suite:List Stmt} {rest:List ExceptHandler} {ts:S1->TS} {th:TH}
end
end L2
namespace L2
open PySem PySem.Spec PyProof.Rows
section
variable {X:Cx} {pins:List (S1×Obj)} {σ:St} {H:Hp} {s:S3} {M:Model} {A:Sa} {E:S2->S3->Prop} {qual:Str} {e:Expr} {pos:Pos} {firstLine:Nat} {c P:S1} {lb:Array (Nat×Nat×Str)} {clos:List (Str×S1)} {Q:S2->S3->Prop}
end
section
variable {X:Cx} {t:TS} {e:Expr} {l:List Stmt} {qual:Str} {c P:S1} {lb:Array (Nat×Nat×Str)}
end
section
variable {X:Cx} {CX:CXT} {k j:Nat} {sp:S1->Sp} {x:Str} {p pos:Pos} {e:Expr} {es:List Expr} {t:TA}
end
theorem lvS (u:List S2) (e:u.length=n+1):∃a r,u=a::r/\r.length=n:=by
 cases u with
 |nil=>cases e
 |cons a r=>exact ⟨a,r,rfl,Nat.succ.inj e⟩
theorem lv1 (u:List S2) (e:u.length=1):∃a,u= [a]:=by
 obtain ⟨a,r,rfl,z⟩:=lvS u e
 cases r with
 |nil=>exact ⟨a,rfl⟩
 |cons b r=>cases z
theorem lv2 (u:List S2) (e:u.length=2):∃a b,u= [a,b]:=by
 obtain ⟨a,r,rfl,z⟩:=lvS u e
 obtain ⟨b,rfl⟩:=lv1 r z
 exact ⟨a,b,rfl⟩
theorem lv3 (u:List S2) (e:u.length=3):∃a b c,u= [a,b,c]:=by
 obtain ⟨a,r,rfl,z⟩:=lvS u e
 obtain ⟨b,c,rfl⟩:=lv2 r z
 exact ⟨a,b,c,rfl⟩
theorem lv4 (u:List S2) (e:u.length=4):∃a b c d,u= [a,b,c,d]:=by
 obtain ⟨a,r,rfl,z⟩:=lvS u e
 obtain ⟨b,c,d,rfl⟩:=lv3 r z
 exact ⟨a,b,c,d,rfl⟩
theorem lv5 (u:List S2) (e:u.length=5):∃a b c d f,u= [a,b,c,d,f]:=by
 obtain ⟨a,r,rfl,z⟩:=lvS u e
 obtain ⟨b,c,d,f,rfl⟩:=lv4 r z
 exact ⟨a,b,c,d,f,rfl⟩
theorem lv6 (u:List S2) (e:u.length=6):∃a b c d f g,u= [a,b,c,d,f,g]:=by
 obtain ⟨a,r,rfl,z⟩:=lvS u e
 obtain ⟨b,c,d,f,g,rfl⟩:=lv5 r z
 exact ⟨a,b,c,d,f,g,rfl⟩
theorem lv7 (u:List S2) (e:u.length=7):∃a b c d f g i,u= [a,b,c,d,f,g,i]:=by
 obtain ⟨a,r,rfl,z⟩:=lvS u e
 obtain ⟨b,c,d,f,g,i,rfl⟩:=lv6 r z
 exact ⟨a,b,c,d,f,g,i,rfl⟩
section
open PySem.Builtin PySem.Builtin.Str
variable {prog:S7} {w:S9} {A:Sa} {E:S2->S3->Prop} {s:S3} {x y:Str} {t u:Tok} {Q:S2->S3->Prop}
end
section
variable {X:Cx} {k j:Nat} {f C:S1} {fd:S8} {ps:List Str} {sp:Sp} {R:St->XK} {m:Str} {pos apos:Pos} {o:Expr} {ta:TE}
end
section
variable {X:Cx} {a b:Expr} {rest:List Expr} {pos:Pos} {ta tb:TE}
end
section
variable {X:Cx}
end
section
variable {prog:S7} {w:S9} {A:Sa} {E:S2->S3->Prop} {s:S3}
end
end L2
namespace L2
open PySem PySem.Spec PyProof.Rows PySem.W
section
variable {prog:S7} {w:S9} {K:Type} [DecidableEq K] {knd:HeapKind prog w K} {A:Sa}
end
section
variable {X:Cx} {pins:List (S1×Obj)} {σ:St} {H:Hp} {s:S3}
end
end L2

namespace K14
open PySem L2 PyProof.Rows PySem.NumText
def top (i:Nat):Stmt:=PySem.Challenge.pw_weirwatch_k14_whole_runs.main.body.getD i (.Pass ⟨0,0,0,0⟩)
set_option genInjectivity false in
structure Ad where
 Jgs:S1
 Jgt:S8
 Jgu:S1
 Jgv:S8
 Jgw:S1
 Jgx:S8
 Jgy:S1
 Jgz:S8
 Jh0:S1
 Jh1:S8
 Jh2:S1
 Jh3:S8
 Jh4:S1
 Jh5:S8
 Jh6:S1
 Jh7:S8
 Jh8:S1
 Jh9:S8
 Jha:S1
 Jhb:S8
 Jhc:S1
 Jhd:S8
 Jhe:S1
 Jhf:S8
 Jhg:S1
 Jhh:S8
 Jhi:S1
 Jhj:S8
 Jhk:S1
 Jhl:S8
 Jhm:S1
 Jhn:S8
 Jho:S1
 Jhp:S8
 Jhq:S1
 Jhr:S8
 Jhs:S1
 Jht:S8
 Jhu:S1
 Jhv:S8
 Jhw:S1
 Jhx:S8
 Jhy:S1
 Jhz:S8
 Ji0:S1
 Ji1:S8
 Ji2:S1
 Ji3:S8
 Ji4:S1
 Ji5:S8
 Ji6:S1
 Ji7:S8
 Ji8:S1
 Ji9:S8
 Jia:S1
 Jib:S8
 Jic:S1
 Jid:S8
 Jie:S1
 Jif:S8
 Jig:S1
 Jih:S8
 Jii:S1
 Jij:S8
 Jik:S1
 Jil:S8
 Jim:S1
 Jin:S8
 Jio:S1
 Jip:S8
 Jiq:S1
 Jir:S8
 Jis:S1
 Jit:S8
 Jiu:S1
 Jiv:S8
 Jiw:S1
 Jix:S8
 Jiy:S1
 Jiz:S8
 Jj0:S1
 Jj1:S8
 Jj2:S1
 Jj3:S8
 Jj4:S1
 Jj5:S8
 Jj6:S1
 Jj7:S8
 Jj8:S1
 Jj9:S8
 Jja:S1
 Jjb:S8
 Jjc:S1
 Jjd:S8
 Jje:S1
 Jjf:S8
 Jjg:S1
 Jjh:S8
 Jji:S1
 Jjj:S8
 Jjk:S1
 Jjl:S8
 Jjm:S1
 Jjn:S8
 Jjo:S1
 Jjp:S8
 Jjq:S1
 Jjr:S8
 Jjs:S1
 Jjt:S8
 Jju:S1
 Jjv:S8
 Jjw:S1
 Jjx:S8
 Jjy:S1
 Jjz:S8
 Jk0:S1
 Jk1:S8
 Jk2:S1
 Jk3:S8
 Jk4:S1
 Jk5:S8
 Jk6:S1
 Jk7:S8
 Jk8:S1
 Jk9:S8
 Jka:S1
 Jkb:S8
 Jkc:S1
 Jkd:S8
 Jke:S1
 Jkf:S8
 Jkg:S1
 Jkh:S8
 Jki:S1
 Jkj:S8
 Jkk:S1
 Jkl:S8
 Jkm:S1
 Jkn:S8
 Jko:S1
 Jkp:S8
 Jkq:S1
 Jkr:S8
 Jks:S1
 Jkt:S8
 Jku:S1
 Jkv:S8
 Jkw:S1
 Jkx:S8
 Jky:S1
 Jkz:S8
 Jl0:S1
 Jl1:S8
 Jl2:S1
 Jl3:S8
 Jl4:S1
 Jl5:S8
 Jl6:S1
 Jl7:S8
 Jl8:S1
 Jl9:S8
 Jla:S1
 Jlb:S8
 Jlc:S1
 Jld:S8
 Jle:S1
 Jlf:S8
 Jlg:S1
 Jlh:S8
 Jli:S1
 Jlj:S8
 Jlk:S1
 Jll:S8
 a_law:S1
 d_law:S8
 Jlm:Tok
 Jln:Tok
 Jlo:Tok
 Jlp:Tok
 Jlq:Tok
 Jlr:Tok
 Jls:Tok
 Jlt:Tok
 Jlu:Tok
 Jlv:Tok
 Jlw:Tok
 Jlx:Tok
 Jly:S1
 Jlz:S1
 Jm0:S1
 Jm1:S1
 Jm2:S1
 Jm3:S1
 Jm4:S1
 Jm5:S1
 Jm6:S1
 Jm7:S1
 Jm8:S1
 Jm9:S1
 Jma:S1
 Jmb:S1
 Jmc:S1
 Jmd:S1
 Jme:S1
 Jmf:S1
 Jmg:S1
 Jmh:S1
 Jmi:S1
 Jmj:S1
 Jmk:S1
 Jml:S1
 Jmm:S1
structure Tx (K:Se) (mg:Str->Option S2) (a:Ad):Prop where
 J0:FT K mg "is_whole" (top 15) ["thing","low","high"] a.Jhc a.Jhd
 J1:FT K mg "is_made_of" (top 16) ["text","signs"] a.Jhe a.Jhf
 J2:FT K mg "is_name" (top 17) ["thing"] a.Jhg a.Jhh
 J3:FT K mg "is_row" (top 19) ["thing","lows","highs"] a.Jhi a.Jhj
 J4:FT K mg "is_row_up_to" (top 20) ["thing","highs"] a.Jhk a.Jhl
 J5:FT K mg "is_pair" (top 21) ["thing"] a.Jhm a.Jhn
 J6:FT K mg "is_standing" (top 22) ["river","thing"] a.Jho a.Jhp
 J7:FT K mg "is_choice" (top 23) ["river","thing"] a.Jhq a.Jhr
 J8:FT K mg "forced_rain" (top 24) ["river","wet"] a.Jhs a.Jht
 J9:FT K mg "is_rain" (top 25) ["river","standing","thing"] a.Jhu a.Jhv
 Ja:FT K mg "refuse_no_choice" (top 26) ["river","standing","choice"] a.Jhw a.Jhx
 Jb:FT K mg "place_drawn_from" (top 27) ["river","town"] a.Jhy a.Jhz
 Jc:FT K mg "draw" (top 28) ["river","standing","choice"] a.Ji0 a.Ji1
 Jd:FT K mg "levels_left" (top 29) ["river","standing","choice","drawn"] a.Ji2 a.Ji3
 Je:FT K mg "outs_at" (top 30) ["river","settings","levels"] a.Ji4 a.Ji5
 Jf:FT K mg "levels_behind" (top 31) ["left","outs","rain"] a.Ji6 a.Ji7
 Jg:FT K mg "broken_at" (top 32) ["river","levels"] a.Ji8 a.Ji9
 Jh:FT K mg "turned" (top 34) ["river","standing","choice","rain"] a.Jie a.Jif
 Ji:FT K mg "next_turn" (top 38) ["river","standing","keeper","sky","k"] a.Jis a.Jit
 Jj:FT K mg "run" (top 39) ["river","standing","keeper","sky","many"] a.Jiu a.Jiv
 Jk:FT K mg "are_marks" (top 44) ["thing","lowest"] a.Jiw a.Jix
 Jl:FT K mg "kept_marks" (top 45) ["marks","lowest"] a.Jiy a.Jiz
 Jm:FT K mg "refuse_no_level" (top 59) ["thing","low","high"] a.Jjq a.Jjr
 Jn:FT K mg "are_unlike" (top 62) ["names"] a.Jjw a.Jjx
 Jo:FT K mg "are_basins" (top 63) ["thing"] a.Jjy a.Jjz
 Jp:FT K mg "are_towns" (top 64) ["thing","basins"] a.Jk0 a.Jk1
 Jq:FT K mg "_law_cell" (top 67) ["_law_script","_law_k"] a.Jk6 a.Jk7
 Jr:FT K mg "_law_stream" (top 68) ["_law_cell_here"] a.Jk8 a.Jk9
 Js:FT K mg "_law_take" (top 69) ["_law_stream_here","_law_many"] a.Jka a.Jkb
 Jt:FT K mg "_law_names" (top 70) ["_law_stream_here","_law_many"] a.Jkc a.Jkd
 Ju:FT K mg "_law_gate" (top 71) ["_law_stream_here"] a.Jke a.Jkf
 Jv:FT K mg "_law_basin" (top 72) ["_law_stream_here","_law_name"] a.Jkg a.Jkh
 Jw:FT K mg "_law_river" (top 73) ["_law_cell_here"] a.Jki a.Jkj
 Jx:FT K mg "_law_made_gate" (top 74) ["_law_told"] a.Jkk a.Jkl
 Jy:FT K mg "_law_made" (top 75) ["_law_told"] a.Jkm a.Jkn
 Jz:FT K mg "_law_settings" (top 76) ["_law_gate_here"] a.Jko a.Jkp
 Ja0:FT K mg "_law_standing" (top 77) ["_law_stream_here","_law_told"] a.Jkq a.Jkr
 Ja1:FT K mg "_law_choice" (top 78) ["_law_stream_here","_law_told"] a.Jks a.Jkt
 Ja2:FT K mg "_law_forced" (top 79) ["_law_told","_law_wet"] a.Jku a.Jkv
 Ja3:FT K mg "_law_raised" (top 80) ["_law_told","_law_wet","_law_row"] a.Jkw a.Jkx
 Ja4:FT K mg "_law_rain" (top 81) ["_law_stream_here","_law_told","_law_wet"] a.Jky a.Jkz
 Ja5:FT K mg "_law_lets" (top 82) ["_law_gate_here","_law_setting","_law_level"] a.Jl0 a.Jl1
 Ja6:FT K mg "_law_pays" (top 83) ["_law_told","_law_levels","_law_town"] a.Jl2 a.Jl3
 Ja7:FT K mg "_law_turned" (top 84) ["_law_told","_law_standing_here","_law_choice_here","_law_rain_here"] a.Jl4 a.Jl5
 Ja8:FT K mg "_law_same" (top 85) ["_law_found","_law_due_here"] a.Jl6 a.Jl7
 Ja9:FT K mg "_law_salt" (top 86) ["_law_standing_here","_law_k"] a.Jl8 a.Jl9
 Jaa:FT K mg "_law_pick" (top 87) ["_law_told","_law_cell_here","_law_standing_here","_law_k"] a.Jla a.Jlb
 Jab:FT K mg "_law_keeper" (top 88) ["_law_told","_law_cell_here","_law_asked"] a.Jlc a.Jld
 Jac:FT K mg "_law_sky" (top 89) ["_law_told","_law_cell_here","_law_asked"] a.Jle a.Jlf
 Jad:FT K mg "_law_due" (top 90) ["_law_told","_law_cell_here","_law_standing_here","_law_many"] a.Jlg a.Jlh
 Jae:FT K mg "_law_shown" (top 91) ["_law_turn"] a.Jli a.Jlj
 Jaf:FT K mg "_law_run_right" (top 92) ["_law_found","_law_standing_here","_law_turns"] a.Jlk a.Jll
 f_law:FT K mg "law" (top 93) ["_law_script"] a.a_law a.d_law
 Jag:mg "LETTERS" =some (.str "abcdefghijklmnopqrstuvwxyz" a.Jlm)
 Jah:mg "MOST_LETTERS" =some (.int 8 a.Jln)
 Jai:mg "MOST_TURNS" =some (.int 200 a.Jlo)
 Jaj:mg "MOST_SETTINGS" =some (.int 4 a.Jlp)
 Jak:mg "HIGHEST_MARK" =some (.int 12 a.Jlq)
 Jal:mg "HIGHEST_LEVEL" =some (.int 1000 a.Jlr)
 Jam:mg "HIGHEST" =some (.int 12 a.Jls)
 Jan:mg "MOST_RAIN" =some (.int 6 a.Jlt)
 Jao:mg "MOST_WANT" =some (.int 6 a.Jlu)
 Jap:mg "MOST_CLOUD" =some (.int 12 a.Jlv)
 Jaq:mg "MOST_BASINS" =some (.int 16 a.Jlw)
 Jar:mg "MOST_TOWNS" =some (.int 3 a.Jlx)
 Jas:mg "all" =none
 Jat:mg "any" =none
 Jau:mg "bool" =none
 Jav:mg "enumerate" =none
 Jaw:mg "int" =none
 Jax:mg "isinstance" =none
 Jay:mg "len" =none
 Jaz:mg "list" =none
 Jb0:mg "max" =none
 Jb1:mg "min" =none
 Jb2:mg "range" =none
 Jb3:mg "set" =none
 Jb4:mg "str" =none
 Jb5:mg "sum" =none
 Jb6:mg "tuple" =none
 Jb7:mg "zip" =none
 q81:mg "WeirError" =some (.ref a.Jly)
 Jb8:mg "NoName" =some (.ref a.Jlz)
 Jb9:mg "NoGate" =some (.ref a.Jm0)
 Jba:mg "NoBasin" =some (.ref a.Jm1)
 Jbb:mg "NoTown" =some (.ref a.Jm2)
 Jbc:mg "NoCloud" =some (.ref a.Jm3)
 Jbd:mg "NoRiver" =some (.ref a.Jm4)
 Jbe:mg "NoStanding" =some (.ref a.Jm5)
 Jbf:mg "NoChoice" =some (.ref a.Jm6)
 Jbg:mg "NoRain" =some (.ref a.Jm7)
 Jbh:mg "NoNumber" =some (.ref a.Jm8)
 Jbi:mg "Turn" =some (.ref a.Jm9)
 Jbj:mg "Run" =some (.ref a.Jma)
 Jbk:mg "Gate" =some (.ref a.Jmb)
 Jbl:mg "StepGate" =some (.ref a.Jmc)
 Jbm:mg "FlapGate" =some (.ref a.Jmd)
 Jbn:mg "PartGate" =some (.ref a.Jme)
 Jbo:mg "StuckGate" =some (.ref a.Jmf)
 Jbp:mg "Basin" =some (.ref a.Jmg)
 Jbq:mg "Town" =some (.ref a.Jmh)
 Jbr:mg "River" =some (.ref a.Jmi)
 Jbs:Sg K (.ref a.Jlz) "__init__" =some (some (.ref a.Jgs))
 Jbt:Sg K (.ref a.Jm0) "__init__" =some (some (.ref a.Jgu))
 Jbu:Sg K (.ref a.Jm1) "__init__" =some (some (.ref a.Jgw))
 Jbv:Sg K (.ref a.Jm2) "__init__" =some (some (.ref a.Jgy))
 Jbw:Sg K (.ref a.Jm3) "__init__" =some (some (.ref a.Jh0))
 Jbx:Sg K (.ref a.Jm4) "__init__" =some (some (.ref a.Jh2))
 Jby:Sg K (.ref a.Jm5) "__init__" =some (some (.ref a.Jh4))
 Jbz:Sg K (.ref a.Jm6) "__init__" =some (some (.ref a.Jh6))
 Jc0:Sg K (.ref a.Jm7) "__init__" =some (some (.ref a.Jh8))
 Jc1:Sg K (.ref a.Jm8) "__init__" =some (some (.ref a.Jha))
 Jc2:Sg K (.ref a.Jm9) "__init__" =some (some (.ref a.Jia))
 Jc3:Sg K (.ref a.Jm9) "standing" =some (some (.ref a.Jic))
 Jc4:Sg K (.ref a.Jma) "__init__" =some (some (.ref a.Jig))
 Jc5:Sg K (.ref a.Jma) "word" =some (some (.ref a.Jii))
 Jc6:Sg K (.ref a.Jma) "last" =some (some (.ref a.Jik))
 Jc7:Sg K (.ref a.Jma) "fallen" =some (some (.ref a.Jim))
 Jc8:Sg K (.ref a.Jma) "taken" =some (some (.ref a.Jio))
 Jc9:Sg K (.ref a.Jma) "gone" =some (some (.ref a.Jiq))
 Jca:Sg K (.ref a.Jmb) "lets" =some (some (.ref a.Jj0))
 Jcb:Sg K (.ref a.Jmc) "__init__" =some (some (.ref a.Jj2))
 Jcc:Sg K (.ref a.Jmc) "settings" =some (some (.ref a.Jj4))
 Jcd:Sg K (.ref a.Jmc) "passes" =some (some (.ref a.Jj6))
 Jce:Sg K (.ref a.Jmd) "__init__" =some (some (.ref a.Jj8))
 Jcf:Sg K (.ref a.Jmd) "settings" =some (some (.ref a.Jja))
 Jcg:Sg K (.ref a.Jmd) "passes" =some (some (.ref a.Jjc))
 Jch:Sg K (.ref a.Jme) "__init__" =some (some (.ref a.Jje))
 Jci:Sg K (.ref a.Jme) "settings" =some (some (.ref a.Jjg))
 Jcj:Sg K (.ref a.Jme) "passes" =some (some (.ref a.Jji))
 Jck:Sg K (.ref a.Jmf) "__init__" =some (some (.ref a.Jjk))
 Jcl:Sg K (.ref a.Jmf) "settings" =some (some (.ref a.Jjm))
 Jcm:Sg K (.ref a.Jmf) "passes" =some (some (.ref a.Jjo))
 Jcn:Sg K (.ref a.Jmg) "__init__" =some (some (.ref a.Jjs))
 Jco:Sg K (.ref a.Jmh) "__init__" =some (some (.ref a.Jju))
 Jcp:Sg K (.ref a.Jmi) "__init__" =some (some (.ref a.Jk2))
 Jcq:Sg K (.ref a.Jmi) "place_of" =some (some (.ref a.Jk4))
 Jcr:FM K "__init__" "NoName.__init__" (Jn2 (top 2) 0) ["self","thing"] a.Jgs a.Jgt
 Jcs:FM K "__init__" "NoGate.__init__" (Jn2 (top 3) 0) ["self","thing"] a.Jgu a.Jgv
 Jct:FM K "__init__" "NoBasin.__init__" (Jn2 (top 4) 0) ["self","thing"] a.Jgw a.Jgx
 Jcu:FM K "__init__" "NoTown.__init__" (Jn2 (top 5) 0) ["self","thing"] a.Jgy a.Jgz
 Jcv:FM K "__init__" "NoCloud.__init__" (Jn2 (top 6) 0) ["self","thing"] a.Jh0 a.Jh1
 Jcw:FM K "__init__" "NoRiver.__init__" (Jn2 (top 7) 0) ["self","thing"] a.Jh2 a.Jh3
 Jcx:FM K "__init__" "NoStanding.__init__" (Jn2 (top 8) 0) ["self","thing"] a.Jh4 a.Jh5
 Jcy:FM K "__init__" "NoChoice.__init__" (Jn2 (top 9) 0) ["self","thing"] a.Jh6 a.Jh7
 Jcz:FM K "__init__" "NoRain.__init__" (Jn2 (top 10) 0) ["self","thing"] a.Jh8 a.Jh9
 Jd0:FM K "__init__" "NoNumber.__init__" (Jn2 (top 11) 0) ["self","thing"] a.Jha a.Jhb
 Jd1:FM K "__init__" "Turn.__init__" (Jn2 (top 33) 0) ["self","river","standing","choice","rain"] a.Jia a.Jib
 Jd2:FM K "standing" "Turn.standing" (Jn2 (top 33) 1) ["self"] a.Jic a.Jid
 Jd3:FM K "__init__" "Run.__init__" (Jn2 (top 37) 0) ["self","begin","turns"] a.Jig a.Jih
 Jd4:FM K "word" "Run.word" (Jn2 (top 37) 1) ["self"] a.Jii a.Jij
 Jd5:FM K "last" "Run.last" (Jn2 (top 37) 2) ["self"] a.Jik a.Jil
 Jd6:FM K "fallen" "Run.fallen" (Jn2 (top 37) 3) ["self"] a.Jim a.Jin
 Jd7:FM K "taken" "Run.taken" (Jn2 (top 37) 4) ["self"] a.Jio a.Jip
 Jd8:FM K "gone" "Run.gone" (Jn2 (top 37) 5) ["self"] a.Jiq a.Jir
 Jd9:FM K "lets" "Gate.lets" (Jn2 (top 47) 0) ["self","setting","level"] a.Jj0 a.Jj1
 Jda:FM K "__init__" "StepGate.__init__" (Jn2 (top 48) 0) ["self","marks"] a.Jj2 a.Jj3
 Jdb:FM K "settings" "StepGate.settings" (Jn2 (top 48) 1) ["self"] a.Jj4 a.Jj5
 Jdc:FM K "passes" "StepGate.passes" (Jn2 (top 48) 2) ["self","setting","level"] a.Jj6 a.Jj7
 Jdd:FM K "__init__" "FlapGate.__init__" (Jn2 (top 49) 0) ["self","marks"] a.Jj8 a.Jj9
 Jde:FM K "settings" "FlapGate.settings" (Jn2 (top 49) 1) ["self"] a.Jja a.Jjb
 Jdf:FM K "passes" "FlapGate.passes" (Jn2 (top 49) 2) ["self","setting","level"] a.Jjc a.Jjd
 Jdg:FM K "__init__" "PartGate.__init__" (Jn2 (top 50) 0) ["self","marks"] a.Jje a.Jjf
 Jdh:FM K "settings" "PartGate.settings" (Jn2 (top 50) 1) ["self"] a.Jjg a.Jjh
 Jdi:FM K "passes" "PartGate.passes" (Jn2 (top 50) 2) ["self","setting","level"] a.Jji a.Jjj
 Jdj:FM K "__init__" "StuckGate.__init__" (Jn2 (top 51) 0) ["self","gate","setting"] a.Jjk a.Jjl
 Jdk:FM K "settings" "StuckGate.settings" (Jn2 (top 51) 1) ["self"] a.Jjm a.Jjn
 Jdl:FM K "passes" "StuckGate.passes" (Jn2 (top 51) 2) ["self","setting","level"] a.Jjo a.Jjp
 Jdm:FM K "__init__" "Basin.__init__" (Jn2 (top 60) 0) ["self","name","low","high","start","rain","gate"] a.Jjs a.Jjt
 Jdn:FM K "__init__" "Town.__init__" (Jn2 (top 61) 0) ["self","name","basin","want"] a.Jju a.Jjv
 Jdo:FM K "__init__" "River.__init__" (Jn2 (top 65) 0) ["self","cloud","gain","basins","towns"] a.Jk2 a.Jk3
 Jdp:FM K "place_of" "River.place_of" (Jn2 (top 65) 1) ["self","name"] a.Jk4 a.Jk5
 Jdq:Sam K a.Jlz a.Jly a.Jgs
 Jdr:Sam K a.Jm0 a.Jly a.Jgu
 Jds:Sam K a.Jm1 a.Jly a.Jgw
 Jdt:Sam K a.Jm2 a.Jly a.Jgy
 Jdu:Sam K a.Jm3 a.Jly a.Jh0
 Jdv:Sam K a.Jm4 a.Jly a.Jh2
 Jdw:Sam K a.Jm5 a.Jly a.Jh4
 Jdx:Sam K a.Jm6 a.Jly a.Jh6
 Jdy:Sam K a.Jm7 a.Jly a.Jh8
 Jdz:Sam K a.Jm8 a.Jly a.Jha
 Je0:Cls K a.Jm9
 Je1:Mk K a.Jm9 a.Jia
 Je2:Jpv K a.Jm9 "standing" a.Jic
 Je3:Cls K a.Jma
 Je4:Sg9 K a.Jma
 Je5:Mk K a.Jma a.Jig
 Je6:Jpv K a.Jma "word" a.Jii
 Je7:Jpv K a.Jma "last" a.Jik
 Je8:Jpv K a.Jma "fallen" a.Jim
 Je9:Jpv K a.Jma "taken" a.Jio
 Jea:Jpv K a.Jma "gone" a.Jiq
 Jeb:Cls K a.Jmc
 Jec:Sg9 K a.Jmc
 Jed:Mk K a.Jmc a.Jj2
 Jee:Jpv K a.Jmc "lets" a.Jj0
 Jef:Jpv K a.Jmc "settings" a.Jj4
 Jeg:Jpv K a.Jmc "passes" a.Jj6
 Jeh:Cls K a.Jmd
 Jei:Sg9 K a.Jmd
 Jej:Mk K a.Jmd a.Jj8
 Jek:Jpv K a.Jmd "lets" a.Jj0
 Jel:Jpv K a.Jmd "settings" a.Jja
 Jem:Jpv K a.Jmd "passes" a.Jjc
 Jen:Cls K a.Jme
 Jeo:Sg9 K a.Jme
 Jep:Mk K a.Jme a.Jje
 Jeq:Jpv K a.Jme "lets" a.Jj0
 Jer:Jpv K a.Jme "settings" a.Jjg
 Jes:Jpv K a.Jme "passes" a.Jji
 Jet:Cls K a.Jmf
 Jeu:Sg9 K a.Jmf
 Jev:Mk K a.Jmf a.Jjk
 Jew:Jpv K a.Jmf "lets" a.Jj0
 Jex:Jpv K a.Jmf "settings" a.Jjm
 Jey:Jpv K a.Jmf "passes" a.Jjo
 Jez:Cls K a.Jmg
 Jf0:Sg9 K a.Jmg
 Jf1:Mk K a.Jmg a.Jjs
 Jf2:Cls K a.Jmh
 Jf3:Sg9 K a.Jmh
 Jf4:Mk K a.Jmh a.Jju
 Jf5:Cls K a.Jmi
 Jf6:Mk K a.Jmi a.Jk2
 Jf7:Jpv K a.Jmi "place_of" a.Jk4
 Jf8:NoAttr K a.Jlz "thing"
 Jf9:NoAttr K a.Jm0 "thing"
 Jfa:NoAttr K a.Jm1 "thing"
 Jfb:NoAttr K a.Jm2 "thing"
 Jfc:NoAttr K a.Jm5 "thing"
 Jfd:NoAttr K a.Jm6 "thing"
 Jfe:NoAttr K a.Jm7 "thing"
 Jff:NoAttr K a.Jm9 "choice"
 Jfg:NoAttr K a.Jm9 "rain"
 Jfh:NoAttr K a.Jm9 "drawn"
 Jfi:NoAttr K a.Jm9 "paid"
 Jfj:NoAttr K a.Jm9 "outs"
 Jfk:NoAttr K a.Jm9 "levels"
 Jfl:NoAttr K a.Jm9 "wet"
 Jfm:NoAttr K a.Jm9 "broken"
 Jfn:NoAttr K a.Jma "begin"
 Jfo:NoAttr K a.Jma "turns"
 Jfp:NoAttr K a.Jmc "marks"
 Jfq:NoAttr K a.Jmd "marks"
 Jfr:NoAttr K a.Jme "marks"
 Jfs:NoAttr K a.Jmf "gate"
 Jft:NoAttr K a.Jmf "setting"
 Jfu:NoAttr K a.Jmg "name"
 Jfv:NoAttr K a.Jmg "low"
 Jfw:NoAttr K a.Jmg "high"
 Jfx:NoAttr K a.Jmg "start"
 Jfy:NoAttr K a.Jmg "rain"
 Jfz:NoAttr K a.Jmg "gate"
 Jg0:NoAttr K a.Jmh "name"
 Jg1:NoAttr K a.Jmh "basin"
 Jg2:NoAttr K a.Jmh "want"
 Jg3:NoAttr K a.Jmi "cloud"
 Jg4:NoAttr K a.Jmi "gain"
 Jg5:NoAttr K a.Jmi "basins"
 Jg6:NoAttr K a.Jmi "towns"
 Jg7:Nst K a.Jlc a.Jmj a.Jmk
 Jg8:W.tabIn K "_law_keeper" =some (a.Jmj,a.Jmk)
 Jg9:Nst K a.Jle a.Jml a.Jmm
 Jga:W.tabIn K "_law_sky" =some (a.Jml,a.Jmm)
 tnd: [a.Jmk,a.Jmm].Nodup
 Jgb:Sf K (.ref a.Jmc) (.ref a.Jmb)=some true
 Jgc:Sf K (.ref a.Jmd) (.ref a.Jmb)=some true
 Jgd:Sf K (.ref a.Jme) (.ref a.Jmb)=some true
 Jge:Sf K (.ref a.Jmf) (.ref a.Jmb)=some true
 Jgf:Sf K (.ref a.Jmg) (.ref a.Jmg)=some true
 Jgg:Sf K (.ref a.Jmh) (.ref a.Jmh)=some true
 Jgh:Sf K (.ref a.Jmc) (.type "bool")=some false
 Jgi:Sf K (.ref a.Jmd) (.type "bool")=some false
 Jgj:Sf K (.ref a.Jme) (.type "bool")=some false
 Jgk:Sf K (.ref a.Jmf) (.type "bool")=some false
 Jgl:W.kitAny K (.ref a.Jmc) [.ref a.Jmc,.ref a.Jmd,.ref a.Jme,.ref a.Jmf]=some true
 Jgm:W.kitAny K (.ref a.Jmd) [.ref a.Jmc,.ref a.Jmd,.ref a.Jme,.ref a.Jmf]=some true
 Jgn:W.kitAny K (.ref a.Jme) [.ref a.Jmc,.ref a.Jmd,.ref a.Jme,.ref a.Jmf]=some true
 Jgo:W.kitAny K (.ref a.Jmf) [.ref a.Jmc,.ref a.Jmd,.ref a.Jme,.ref a.Jmf]=some true
 Jgp:Sf K (.ref a.Jmc) (.ref a.Jmf)=some false
 Jgq:Sf K (.ref a.Jmd) (.ref a.Jmf)=some false
 Jgr:Sf K (.ref a.Jme) (.ref a.Jmf)=some false
def Jof:Int->List V->Bool
 |_,[]=>true
 |lo,.int i::r=>(decide (lo<=i)&&decide (i<=12))&&Jof (i+1) r
 |_,_::_=>false
def Jrk (lo:Int) (xs:List V):Bool:=decide (1<=xs.length/\xs.length<=4)&&Jof lo xs
theorem Jur (lo:Int) (x:V) (r:List V):Jof lo (x::r)=(Jnc x lo 12&&match x with| .int i=>Jof (i+1) r|_=>false):=by
 cases x <;> simp [Jof,Jnc]
inductive Sq (H:Hp):V->List V->Prop where
 |lst {p:S1} {xs:List V}:H p=some (.lst xs)->Sq H (.ref p) xs
 |tup {p:S1} {xs:List V}:H p=some (.tup xs)->Sq H (.ref p) xs
theorem Sq.same {H H':Hp} {x:V} {xs:List V} (s:Sj H H') (h:Sq H x xs):Sq H' x xs:=by
 cases h with
 |lst e=>exact .lst (s _ _ e)
 |tup e=>exact .tup (s _ _ e)
theorem Sq.ty {K:Se} {H:Hp} {x:V} {xs:List V} (h:Sq H x xs):∃t,TyX K H x t/\tpB t=true/\W.kitAny K t [.type "list",.type "tuple"]=some true:=by
 cases h with
 |lst e=>exact ⟨_,.of (.lst e),rfl,rfl⟩
 |tup e=>exact ⟨_,.of (.tup e),rfl,rfl⟩
inductive Shp (K:Se) (H:Hp) (lo:Int):V->Bool->Prop where
 |seq {x:V} {xs:List V}:Sq H x xs->(∀y∈xs,Tm K H y)->Shp K H lo x (Jrk lo xs)
 |non {x:V} {t:S2}:TyX K H x t->W.kitAny K t [.type "list",.type "tuple"]=some false->Shp K H lo x false
inductive Srf (K:Se) (vs:List V) (H:Hp) (Q:VK) (z3:XK):Prop where
 |mk (x:V) (lo:Int) (b:Bool) (_:vs= [x,.int lo]) (_:Shp K H lo x b) (_:∀H',Sj H H'->Q (.bl b) H')
def Rf (a:Ad) (H H':Hp) (x:V) (c:S2) (eo:Option S1):Prop:=∃e dx,c= .ref a.Jm0/\eo=some e/\Sj H H'/\H' e=some (XO e a.Jm0 (some dx) false)/\H' dx=some (XD dx [("thing",x)])
theorem Rf.of {a:Ad} {H H1 H':Hp} {x:V} {c:S2} {eo:Option S1} (s:Sj H H1) (h:Rf a H1 H' x c eo):Rf a H H' x c eo:=by
 obtain ⟨e,dx,h1,h2,h3,h4,h5⟩:=h
 exact ⟨e,dx,h1,h2,s.trans h3,h4,h5⟩
theorem Rf.new {a:Ad} {H:Hp} {x:V} {e dx:S1} (h1:H e=none) (h2:H dx=none) (ne:dx≠e):Rf a H (upd (upd (upd H dx (XD dx [("thing",x)])) e (XO e a.Jm0 (some dx) true)) e (XO e a.Jm0 (some dx) false)) x (.ref a.Jm0) (some e):=by
 refine ⟨e,dx,rfl,rfl,?_,Sr,?_⟩
 ·rw [Jp1]
  intro b o q
  rw [Sz (Jmw q h1),Sz (Jmw q h2)]
  exact q
 ·rw [Sz ne,Sz ne,Sr]
inductive Snu (K:Se) (a:Ad) (vs:List V) (H:Hp) (Q:VK) (E:XK):Prop where
 |mk (x:V) (lo:Int) (_:vs= [x,.int lo]) (_:((∃xs,Sq H x xs/\(∀y∈xs,Tm K H y)/\Jrk lo xs=true/\∀t H',Sj H H'->H' t=some (.tup xs)->Q (.ref t) H')\/(Shp K H lo x false/\∀c eo H',Rf a H H' x c eo->E c eo H')))
def IsC (a:Ad) (C:S1):Prop:=C=a.Jmc\/C=a.Jmd\/C=a.Jme
def Sbr (C:S1) (H:Hp) (g:S1) (xs:List V):Prop:=∃dx t,H g=some (.ins C dx [("marks",.ref t)])/\H t=some (.tup xs)
theorem Sbr.same {C:S1} {H H':Hp} {g:S1} {xs:List V} (s:Sj H H') (h:Sbr C H g xs):Sbr C H' g xs:=by obtain ⟨dx,t,h1,h2⟩:=h;exact ⟨dx,t,s _ _ h1,s _ _ h2⟩
inductive Jyr (K:Se) (a:Ad) (lo:Int) (vs:List V) (H:Hp) (Q:VK) (E:XK):Prop where
 |mk (p C dx:S1) (x:V) (_:vs= [.ref p,x]) (_:H p=some (.ins C dx [])) (_:Cls K C) (_:NoAttr K C "marks") (_:((∃xs,Sq H x xs/\(∀y∈xs,Tm K H y)/\Jrk lo xs=true/\∀t H',Sj H H'->H' t=some (.tup xs)->Q .non (upd H' p (.ins C dx [("marks",.ref t)])))\/(Shp K H lo x false/\∀c eo H',Rf a H H' x c eo->E c eo H')))
inductive Yds (C:S1) (vs:List V) (H:Hp) (Q:VK) (z3:XK):Prop where
 |mk (p:S1) (xs:List V) (_:vs= [.ref p]) (_:Sbr C H p xs) (_:Q (.int xs.length) H)
inductive Sri (vs:List V) (H:Hp) (Q:VK) (z3:XK):Prop where
 |mk (x:_) (_:vs= [x]) (_:Q (.int 1) H)
inductive GS (K:Se) (a:Ad) (H:Hp):V->Nat->Prop where
 |plain {g C:S1} {xs:List V}:IsC a C->Sbr C H g xs->xs.length<=4->GS K a H (.ref g) xs.length
 |stuck {g dx:S1} {x y:V}:H g=some (.ins a.Jmf dx [("gate",x),("setting",y)])->GS K a H (.ref g) 1
theorem GS.same {K:Se} {a:Ad} {H H':Hp} {x:V} {n:Nat} (s:Sj H H') (h:GS K a H x n):GS K a H' x n:=by
 cases h with
 |plain i g l=>exact .plain i (g.same s) l
 |stuck e=>exact .stuck (s _ _ e)
inductive Yfd (K:Se) (a:Ad) (vs:List V) (H:Hp) (Q:VK) (E:XK):Prop where
 |mk (p dx:S1) (x y:V) (_:vs= [.ref p,x,y]) (_:H p=some (.ins a.Jmf dx [])) (_:((∃t,TyX K H x t/\Sf K t (.ref a.Jmb)=some false/\∀c eo H',Rf a H H' x c eo->E c eo H')\/(∃n,GS K a H x n/\Tm K H y/\Jnc y 0 (n - 1)=false/\∀c eo H',Rf a H H' y c eo->E c eo H')\/(∃n,GS K a H x n/\Tm K H y/\Jnc y 0 (n - 1)=true/\Q .non (upd H p (.ins a.Jmf dx [("gate",x),("setting",y)])))))
def Knd (z:Str):Prop:=z=("step" :Str)\/z=("flap" :Str)\/z=("part" :Str)
def Jpo (z:Str):Int:=if z=("part" :Str) then 1 else 0
def cOf (a:Ad) (z:Str):S1:=if z=("step" :Str) then a.Jmc else if z=("flap" :Str) then a.Jmd else a.Jme
theorem Yci {a:Ad} {z:Str}:IsC a (cOf a z):=by
 unfold cOf
 split
 ·exact .inl rfl
 ·split
  ·exact .inr (.inl rfl)
  ·exact .inr (.inr rfl)
theorem Jux:¬(("part" :Str)="step"):=by decide +kernel
theorem Juw:¬(("part" :Str)="flap"):=by decide +kernel
theorem Juv:¬(("flap" :Str)="step"):=by decide +kernel
theorem Sqy:¬(("flap" :Str)="part"):=by decide +kernel
theorem Sr0:¬(("step" :Str)="part"):=by decide +kernel
theorem Yc4 {x y:Str} (h:¬x=y):¬V.str x=V.str y:=λe=>h (V.str.inj e)
def LET:Str:="abcdefghijklmnopqrstuvwxyz"
def Jx4 (g z:Str):Bool:=z.cps.toList.all λc=>decide (c∈g.cps.toList)
def Jru (z:Str):Bool:=decide (1<=z.length/\z.length<=8)&&Jx4 LET z
structure Wd (n:Nat) (z:Str):Prop where
 len:z.length<=n
 low:∀c∈z.cps.toList,c < 128
theorem Yao (z:Str):z.cps.toList.length=z.length:=Array.length_toList
theorem Yb1:∀ys:List Str,(∀y∈ys,Wd 1 y)->(ys.map (·.length)).sum<=ys.length
 | [],_=>yk _
 |y::r,h=>by
  have h1:=(h y yak).len
  have ih:=Yb1 r λz hz=>h z (yr _ hz)
  simp only [ybj,yay,yal]
  omega
theorem Y9 {g:Str} {r:Int} (h0:0<=r) (h1:r < g.length):∃c,c∈g.cps.toList/\atI g.cps.toList r=some c:=by
 obtain ⟨n,rfl⟩:=ybm h0
 have hn:n < g.cps.toList.length:=by rw [Yao];omega
 exact ⟨g.cps.toList[n],yax hn,Jq0 (yh hn)⟩
theorem Sov {z:Str} {n:Nat} (h:(decide (z.length<=n)&&z.cps.toList.all (λc=>decide (c < 128)))=true):Wd n z:=by
 rw [yx] at h
 exact ⟨of_decide_eq_true h.1,λc hc=>of_decide_eq_true (yaw.mp h.2 c hc)⟩
theorem Sou:Wd 26 LET:=Sov (by decide +kernel)
def Jpy:V->Bool
 | .str z=>Jru z
 |_=>false
def Nmd (K:Se) (H:Hp) (x:V):Prop:=Tm K H x/\∀z,x= .str z->Wd 50 z
inductive Snx (vs:List V) (H:Hp) (Q:VK) (z3:XK):Prop where
 |mk (z g:Str) (_:vs= [.str z,.str g]) (_:z.length<=2000) (_:∀H',Sj H H'->Q (.bl (Jx4 g z)) H')
inductive Sny (K:Se) (vs:List V) (H:Hp) (Q:VK) (z3:XK):Prop where
 |mk (x:V) (_:vs= [x]) (_:Nmd K H x) (_:∀H',Sj H H'->Q (.bl (Jpy x)) H')
def RfC (C:S1) (H H':Hp) (x:V) (c:S2) (eo:Option S1):Prop:=∃e dx,c= .ref C/\eo=some e/\Sj H H'/\H' e=some (XO e C (some dx) false)/\H' dx=some (XD dx [("thing",x)])
theorem RfC.of {C:S1} {H H1 H':Hp} {x:V} {c:S2} {eo:Option S1} (s:Sj H H1) (h:RfC C H1 H' x c eo):RfC C H H' x c eo:=by
 obtain ⟨e,dx,h1,h2,h3,h4,h5⟩:=h
 exact ⟨e,dx,h1,h2,s.trans h3,h4,h5⟩
theorem RfC.new {C:S1} {H:Hp} {x:V} {e dx:S1} (h1:H e=none) (h2:H dx=none) (ne:dx≠e):RfC C H (upd (upd (upd H dx (XD dx [("thing",x)])) e (XO e C (some dx) true)) e (XO e C (some dx) false)) x (.ref C) (some e):=by
 refine ⟨e,dx,rfl,rfl,?_,Sr,?_⟩
 ·rw [Jp1]
  intro b o q
  rw [Sz (Jmw q h1),Sz (Jmw q h2)]
  exact q
 ·rw [Sz ne,Sz ne,Sr]
inductive Yc1 (K:Se) (a:Ad) (vs:List V) (H:Hp) (Q:VK) (E:XK):Prop where
 |mk (x:V) (lo hi:Int) (_:vs= [x,.int lo,.int hi]) (_:Tm K H x) (_:((Jnc x lo hi=true/\Q .non H)\/(Jnc x lo hi=false/\∀c eo H',RfC a.Jm1 H H' x c eo->E c eo H')))
inductive Due (n lo hi st rn g:V) (gb:Bool):Option (Nat×V)->Prop
 |name:Jpy n=false->Due n lo hi st rn g gb (some (0,n))
 |low:Jpy n=true->Jnc lo 0 12=false->Due n lo hi st rn g gb (some (1,lo))
 |high (l:Int):Jpy n=true->lo= .int l->Jnc lo 0 12=true->Jnc hi l 12=false->Due n lo hi st rn g gb (some (1,hi))
 |start (l h:Int):Jpy n=true->lo= .int l->hi= .int h->Jnc lo 0 12=true->Jnc hi l 12=true->Jnc st l h=false->Due n lo hi st rn g gb (some (1,st))
 |rain (l h:Int):Jpy n=true->lo= .int l->hi= .int h->Jnc lo 0 12=true->Jnc hi l 12=true->Jnc st l h=true->Jnc rn 0 6=false->Due n lo hi st rn g gb (some (1,rn))
 |gate (l h:Int):Jpy n=true->lo= .int l->hi= .int h->Jnc lo 0 12=true->Jnc hi l 12=true->Jnc st l h=true->Jnc rn 0 6=true->gb=false->Due n lo hi st rn g gb (some (2,g))
 |good (l h:Int):Jpy n=true->lo= .int l->hi= .int h->Jnc lo 0 12=true->Jnc hi l 12=true->Jnc st l h=true->Jnc rn 0 6=true->gb=true->Due n lo hi st rn g gb none
theorem Jr2 {x:V} {lo hi:Int} (h:Jnc x lo hi=true):∃i,x= .int i:=by
 cases x with
 |int i=>exact ⟨i,rfl⟩
 |_=>cases h
inductive Siq (n b wt:V):Option (Nat×V)->Prop
 |name:Jpy n=false->Siq n b wt (some (0,n))
 |basin:Jpy n=true->Jpy b=false->Siq n b wt (some (0,b))
 |want:Jpy n=true->Jpy b=true->Jnc wt 1 6=false->Siq n b wt (some (3,wt))
 |good:Jpy n=true->Jpy b=true->Jnc wt 1 6=true->Siq n b wt none
def Sv4 (a:Ad):Nat->S1
 |0=>a.Jlz
 |1=>a.Jm1
 |2=>a.Jm0
 |_=>a.Jm2
def GtI (K:Se) (a:Ad) (H:Hp) (g:V) (gb:Bool):Prop:=∃t,TyX K H g t/\Sf K t (.ref a.Jmb)=some gb/\W.kitAny K t [.ref a.Jmc,.ref a.Jmd,.ref a.Jme,.ref a.Jmf]=some gb/\
 ∃b,Sf K t (.type "bool")=some b/\(gb=true->b=false)/\t≠ .type "float"
def Smn (n lo hi st rn g:V):List (Str×V):=[("name",n),("low",lo),("high",hi),("start",st),("rain",rn),("gate",g)]
def twnF (n b wt:V):List (Str×V):=[("name",n),("basin",b),("want",wt)]
def Sl4 (a:Ad) (d:Option (Nat×V)) (H:Hp) (E:XK) (G:Prop):Prop:=match d with
 |none=>G
 |some (k,x)=>∀c eo H',RfC (Sv4 a k) H H' x c eo->E c eo H'
inductive Yfb (K:Se) (a:Ad) (vs:List V) (H:Hp) (Q:VK) (E:XK):Prop where
 |mk (p dx:S1) (n lo hi st rn g:V) (gb:Bool) (d:Option (Nat×V)) (_:vs= [.ref p,n,lo,hi,st,rn,g]) (_:H p=some (.ins a.Jmg dx [])) (_:Nmd K H n) (_:Tm K H lo) (_:Tm K H hi) (_:Tm K H st) (_:Tm K H rn) (_:GtI K a H g gb) (_:Due n lo hi st rn g gb d) (_:Sl4 a d H E (∀H',Sj H H'->Q .non (upd H' p (.ins a.Jmg dx (Smn n lo hi st rn g)))))
inductive So9 (K:Se) (a:Ad) (vs:List V) (H:Hp) (Q:VK) (E:XK):Prop where
 |mk (p dx:S1) (n b wt:V) (d:Option (Nat×V)) (_:vs= [.ref p,n,b,wt]) (_:H p=some (.ins a.Jmh dx [])) (_:Nmd K H n) (_:Nmd K H b) (_:Tm K H wt) (_:Siq n b wt d) (_:Sl4 a d H E (∀H',Sj H H'->Q .non (upd H' p (.ins a.Jmh dx (twnF n b wt)))))
theorem Nmd.same {K:Se} {H H':Hp} {x:V} (s:Sj H H') (h:Nmd K H x):Nmd K H' x:=⟨h.1.same s,h.2⟩
theorem Jtv {K:Se} {H H':Hp} {x:V} {t:S2} (s:Sj H H') (h:TyX K H x t):TyX K H' x t:=h.same (λb o _ q=>s b o q) (λb fs q=>s b _ q)
theorem GtI.same {K:Se} {a:Ad} {H H':Hp} {g:V} {gb:Bool} (s:Sj H H') (h:GtI K a H g gb):GtI K a H' g gb:=by obtain ⟨t,ty,r⟩:=h;exact ⟨t,Jtv s ty,r⟩
theorem Sor {K:Se} {H:Hp} {x:V} {t:S2} (h:TyX K H x t) (e:t= .type "str"):∃z,x= .str z:=by
 cases h with
 |exc=>cases e
 |of ty=>
  cases ty with
  |str z=>exact ⟨z,rfl⟩
  |ins=>cases e
  |non=>exact absurd (Value.type.inj e) (by decide)
  |bl=>exact absurd (Value.type.inj e) (by decide)
  |int=>exact absurd (Value.type.inj e) (by decide)
  |flt=>exact absurd (Value.type.inj e) (by decide)
  |lst=>exact absurd (Value.type.inj e) (by decide)
  |frz=>exact absurd (Value.type.inj e) (by decide)
  |tup=>exact absurd (Value.type.inj e) (by decide)
  |dK=>exact absurd (Value.type.inj e) (by decide)
  |dT=>exact absurd (Value.type.inj e) (by decide)
structure Bsn where
 z:Str
 lo:Int
 hi:Int
 st:Int
 rn:Int
 g:V
 n:Nat
def Sby (K:Se) (a:Ad) (H:Hp) (o:S1) (B:Bsn):Prop:=∃dx,H o=some (.ins a.Jmg dx (Smn (.str B.z) (.int B.lo) (.int B.hi) (.int B.st) (.int B.rn) B.g))/\GS K a H B.g B.n
theorem Sby.same {K:Se} {a:Ad} {H H':Hp} {o:S1} {B:Bsn} (s:Sj H H') (h:Sby K a H o B):Sby K a H' o B:=by obtain ⟨dx,h1,h2⟩:=h;exact ⟨dx,s _ _ h1,h2.same s⟩
structure Twn where
 z:Str
 b:Str
 wt:Int
def Sbt (a:Ad) (H:Hp) (o:S1) (B:Twn):Prop:=∃dx,H o=some (.ins a.Jmh dx (twnF (.str B.z) (.str B.b) (.int B.wt)))
theorem Sbt.same {a:Ad} {H H':Hp} {o:S1} {B:Twn} (s:Sj H H') (h:Sbt a H o B):Sbt a H' o B:=by obtain ⟨dx,h1⟩:=h;exact ⟨dx,s _ _ h1⟩
def Scc (K:Se) (a:Ad) (H:Hp):List S1->List Bsn->Prop
 | [],[]=>True
 |o::os,B::Bs=>Sby K a H o B/\Scc K a H os Bs
 |_,_=>False
def Sc4 (a:Ad) (H:Hp):List S1->List Twn->Prop
 | [],[]=>True
 |o::os,B::Bs=>Sbt a H o B/\Sc4 a H os Bs
 |_,_=>False
theorem Scc.same {K:Se} {a:Ad} {H H':Hp} (s:Sj H H'):∀{os:List S1} {Bs:List Bsn},Scc K a H os Bs->Scc K a H' os Bs:=by
 intro os
 induction os with
 |nil=>
  intro Bs h
  cases Bs with
  |nil=>exact True.intro
  |cons B Bs=>exact False.elim h
 |cons o os ih=>
  intro Bs h
  cases Bs with
  |nil=>exact False.elim h
  |cons B Bs=>exact ⟨(yap h).same s,ih (yaq h)⟩
theorem Sc4.same {a:Ad} {H H':Hp} (s:Sj H H'):∀{os:List S1} {Bs:List Twn},Sc4 a H os Bs->Sc4 a H' os Bs:=by
 intro os
 induction os with
 |nil=>
  intro Bs h
  cases Bs with
  |nil=>exact True.intro
  |cons B Bs=>exact False.elim h
 |cons o os ih=>
  intro Bs h
  cases Bs with
  |nil=>exact False.elim h
  |cons B Bs=>exact ⟨(yap h).same s,ih (yaq h)⟩
theorem Scc.len {K:Se} {a:Ad} {H:Hp} {os:List S1}:∀{Bs:List Bsn},Scc K a H os Bs->os.length=Bs.length:=by
 induction os with
 |nil=>
  intro Bs h
  cases Bs with
  |nil=>rfl
  |cons B Bs=>exact h.elim
 |cons o os ih=>
  intro Bs h
  cases Bs with
  |nil=>exact h.elim
  |cons B Bs=>rw [yal,yal,ih h.2]
theorem Sc4.len {a:Ad} {H:Hp} {os:List S1}:∀{Bs:List Twn},Sc4 a H os Bs->os.length=Bs.length:=by
 induction os with
 |nil=>
  intro Bs h
  cases Bs with
  |nil=>rfl
  |cons B Bs=>exact h.elim
 |cons o os ih=>
  intro Bs h
  cases Bs with
  |nil=>exact h.elim
  |cons B Bs=>rw [yal,yal,ih h.2]
theorem Scc.get {K:Se} {a:Ad} {H:Hp}:∀{os:List S1} {Bs:List Bsn} {i:Nat} {v:V},Scc K a H os Bs->(os.map V.ref)[i]?=some v->∃o B,v= .ref o/\Bs[i]?=some B/\Sby K a H o B:=by
 intro os
 induction os with
 |nil=>intro Bs i v h e;simp at e
 |cons o os ih=>
  intro Bs i v h e
  cases Bs with
  |nil=>exact False.elim h
  |cons B Bs=>
   cases i with
   |zero=>exact ⟨o,B,by simpa using e.symm,rfl,yap h⟩
   |succ i=>exact ih (Bs:=Bs) (i:=i) (yaq h) (by simpa using e)
theorem Sc4.get {a:Ad} {H:Hp}:∀{os:List S1} {Bs:List Twn} {i:Nat} {v:V},Sc4 a H os Bs->(os.map V.ref)[i]?=some v->∃o B,v= .ref o/\Bs[i]?=some B/\Sbt a H o B:=by
 intro os
 induction os with
 |nil=>intro Bs i v h e;simp at e
 |cons o os ih=>
  intro Bs i v h e
  cases Bs with
  |nil=>exact False.elim h
  |cons B Bs=>
   cases i with
   |zero=>exact ⟨o,B,by simpa using e.symm,rfl,yap h⟩
   |succ i=>exact ih (Bs:=Bs) (i:=i) (yaq h) (by simpa using e)
inductive Ydw (K:Se) (vs:List V) (H:Hp) (Q:VK) (z3:XK):Prop where
 |mk (l:S1) (zs:List Str) (_:vs= [.ref l]) (_:Sv K H l (zs.map V.str)) (_:zs.length<=2000) (_:∀H',Sj H H'->Q (.bl (decide ((uq zs).length=zs.length))) H')
inductive Ydi (K:Se) (a:Ad) (vs:List V) (H:Hp) (Q:VK) (z3:XK):Prop where
 |mk (l:S1) (os:List S1) (Bs:List Bsn) (_:vs= [.ref l]) (_:H l=some (.lst (os.map V.ref))) (_:Scc K a H os Bs) (_:(1<=Bs.length/\Bs.length<=16)) (_:(Bs.map (·.z)).Nodup) (_:∀H',Sj H H'->Q (.bl true) H')
inductive Yfq (K:Se) (a:Ad) (vs:List V) (H:Hp) (Q:VK) (z3:XK):Prop where
 |mk (l m:S1) (os ts:List S1) (Bs:List Bsn) (Ts:List Twn) (_:vs= [.ref m,.ref l]) (_:H l=some (.lst (os.map V.ref))) (_:Scc K a H os Bs) (_:Bs.length<=16) (_:H m=some (.lst (ts.map V.ref))) (_:Sc4 a H ts Ts) (_:Ts.length<=3) (_:(Ts.map (·.z)).Nodup) (_:(∀t∈Ts,t.b∈Bs.map (·.z))) (_:∀H',Sj H H'->Q (.bl true) H')
section
variable {P:S7} {w:S9} {K:Se} {mg:Str->Option S2} {base:Sb} {a:Ad}
theorem Jt2:Jmy ["self","thing"] ["self","thing"] (Jmt (Jn2 (top 3) 0)):=⟨rfl,rfl,rfl,by decide +kernel,rfl,by decide +kernel,by decide +kernel⟩
theorem Jpf (T:Tx K mg a):Ss P w K mg base CX0 1 a.Jgu a.Jgv ["self","thing"] (Jpx K "thing"):=by
 refine T.Jcs.fn.ok Jt2 (λvs H Q E h=>?_) (λcdv A outer s H vs Q E hr h=>?_)
 ·obtain ⟨e,C,W,fI,y,rfl,_⟩:=h
  rfl
 ·obtain ⟨e,C,W,fI,y,rfl,q,c,n,k⟩:=h
  refine ⟨_,(Sy (Jpu (pv 0) (pv 1) rfl)),?_⟩
  exact ⟨_,rfl,_,rfl,e,C,W,fI,true,rfl,q,c,n,k⟩
theorem Jzy:Jmy ["thing","low","high"] ["thing","low","high"] (Jmt (top 15)):=⟨rfl,rfl,rfl,by decide +kernel,rfl,by decide +kernel,by decide +kernel⟩
theorem Jo6 (T:Tx K mg a):Ss P w K mg base CX0 1 a.Jhc a.Jhd ["thing","low","high"] (Yfs K):=by
 refine T.J0.fn.ok Jzy (λvs H Q E h=>?_) (λcdv A outer s H vs Q E hr h=>?_)
 ·obtain ⟨x,lo,hi,rfl,_⟩:=h
  rfl
 ·obtain ⟨x,lo,hi,rfl,tm,k⟩:=h
  refine ⟨_,(Sw (Jng (PW.pt (Jri (Jnf (Jmx Jo7 (by rfl) T.Jax Jnb (Sk (pv 0) (Sk (Joh (v:=.ty "bool") (by rfl) T.Jau Jxn rfl) Sm)))) (Jqf (Jnh (Jnf (Jmx Jo7 (by rfl) T.Jax Jnb (Sk (pv 0) (Sk (Joh (v:=.ty "int") (by rfl) T.Jaw Jst rfl) Sm)))))))) (Sy (Jn0 Jov)) Jn6)
   (Sy (Jn0 (Jw2 Jrg Jrg (pv 1) (pv 0) (pv 2))))),?_⟩
  rcases tm with ⟨i,rfl⟩|⟨t,ty,ht⟩
  ·refine ⟨_,rfl,_,_,_,_,_,rfl,rfl,.of (.int i),(by rfl:Sf K (.type "int") (.type "bool")=some false),_,rfl,Jnv ⟨_,rfl,_,_,_,_,_,rfl,rfl,.of (.int i),(by rfl:Sf K (.type "int") (.type "int")=some true),_,rfl,Jnv ?_⟩⟩
   refine ⟨_,rfl,_,rfl,_,_,rfl,rfl,_,rfl,?_⟩
   have k':Q (.bl (decide (lo<=i)&&decide (i<=hi))) H:=k
   by_cases h1:lo<=i
   ·rw [decide_eq_true h1] at k'⊢
    exact Joc ⟨_,rfl,_,_,rfl,rfl,by simpa using k'⟩
   ·rw [decide_eq_false h1] at k'⊢
    exact Jnv (by simpa using k')
  ·rw [Yet ty ht] at k
   have e:=Som (K:=K) ht
   cases eb:(t== .type "bool") with
   |true=>
    rw [eb] at e
    exact ⟨_,rfl,_,_,_,_,_,rfl,rfl,ty,e.2,_,rfl,Joc (Joc k)⟩
   |false=>
    rw [eb] at e
    exact ⟨_,rfl,_,_,_,_,_,rfl,rfl,ty,e.2,_,rfl,Jnv ⟨_,rfl,_,_,_,_,_,rfl,rfl,ty,e.1,_,rfl,Joc k⟩⟩
theorem Sbu:Jmy ["thing","lowest","least","mark"] ["thing","lowest"] (Jmt (top 44)):=⟨rfl,rfl,rfl,by decide +kernel,rfl,by decide +kernel,by decide +kernel⟩
theorem Jy3 (T:Tx K mg a):Ss P w K mg base CX0 2 a.Jiw a.Jix ["thing","lowest"] (Srf K):=by
 have Sx:=Jo6 (P:=P) (w:=w) (base:=base) T
 refine T.Jk.fn.ok Sbu (λvs H Q E h=>?_) (λcdv A outer s H vs Q E hr h=>?_)
 ·obtain ⟨x,lo,b,rfl,_⟩:=h
  rfl
 ·obtain ⟨x,lo,b,rfl,sh,k⟩:=h
  refine ⟨_,(Sw (Jng (Jnh (Jnf (Jmx Jvk (by rfl) T.Jax Jnb (Sk (pv 0) (Sk (Jo8 (Sk (Joh (v:=.ty "list") (by rfl) T.Jaz Jq1 rfl) (Sk (Joh (v:=.ty "tuple") (by rfl) T.Jb6 Jnq rfl) Sm))) Sm))))) (Sy (Jn0 Jov)) Jn6)
   (Sw (Jng (Jnh (Jw6 Jrg Jrg So (Jmx Jn8 (by rfl) T.Jay Jnz (Sk (pv 0) Sm)) (Jo5 (by rfl) T.Jaj (v:=.int 4) ⟨_,rfl⟩))) (Sy (Jn0 Jov)) Jn6)
   (Sw (Jn3 (i:=2) Sbu.nd rfl (ye rfl) (pv 1))
   (Sw (Jpj PassesOwn.never rfl (Snl (pv 0)) (Jmz (i:=3) Sbu.nd rfl (ye rfl)) (Sw (Jng (Jnh (Jnf (Jmv T.J0 Sx hr (by decide) (Sk (pv 3) (Sk (pv 2) (Sk (Jo5 (by rfl) T.Jak (v:=.int 12) ⟨_,rfl⟩) Sm)))))) (Sy (Jn0 Jov)) Jn6)
    (Sy (Jn3 (i:=2) Sbu.nd rfl (ye rfl) (Jn5 Jnn (pv 3) So)))))
   (Sy (Jn0 Jov)))))),?_⟩
  cases sh with
  | @non t ty e=>
   refine ⟨_,rfl,(show 2<=S6 by decide),λp hp=>⟨_,p,_,_,t,_,rfl,Sr,rfl,ty.same (λb o _ q=>Sj.upd hp b o q) (λb fs q=>Sj.upd hp b _ q),e,_,rfl,Joc (k _ (Sj.upd hp))⟩⟩
  | @seq xs sq tms=>
   obtain ⟨t,ty,_,e⟩:=sq.ty (K:=K)
   refine ⟨_,rfl,(show 2<=S6 by decide),λp hp=>⟨_,p,_,_,t,_,rfl,Sr,rfl,ty.same (λb o _ q=>Sj.upd hp b o q) (λb fs q=>Sj.upd hp b _ q),e,_,rfl,Jnv ?_⟩⟩
   have s1:=Sj.upd (o:=.tup [.ty "list",.ty "tuple"]) hp
   have sq1:=sq.same s1
   obtain ⟨q,rfl⟩:∃q,x= .ref q:=by cases sq <;> exact ⟨_,rfl⟩
   have len:Sv K (upd H p (.tup [.ty "list",.ty "tuple"])) q xs\/Su K (upd H p (.tup [.ty "list",.ty "tuple"])) q xs:=by
    cases sq1 with
    |lst e=>exact .inl (Sv.of e)
    |tup e=>exact .inr (Su.of e)
   refine ⟨_,rfl,q,xs,rfl,len,_,_,rfl,rfl,_,rfl,?_⟩
   have no:Jrk lo xs=false->∀H',Sj H H'->Q (.bl false) H':=λz H' s'=>by
    have:=k H' s'
    rw [z] at this
    exact this
   by_cases h1:(1:Int)<=(xs.length:Int)
   ·rw [decide_eq_true h1]
    refine Joc ⟨_,_,rfl,rfl,_,rfl,?_⟩
    by_cases h2:(xs.length:Int)<=4
    ·rw [decide_eq_true h2]
     refine Jnv ⟨_,rfl,?_⟩
     have lz:decide (1<=xs.length/\xs.length<=4)=true:=decide_eq_true (by omega)
     have ar:Jrk lo xs=Jof lo xs:=by unfold Jrk;rw [lz,ybn]
     refine ⟨_,rfl,q,rfl,Yek (xs:=xs) (λi σ H'=>∃(l:Int) (o:Option V),σ= [some (.ref q),some (.int lo),some (.int l),o]/\H'=upd H p (.tup [.ty "list",.ty "tuple"])/\Jof lo xs=Jof l (xs.drop i)) ⟨lo,_,rfl,rfl,rfl⟩ ?_ ?_ ?_⟩
     ·rcases len with z|z
      ·exact .inl λi σ H' _ ⟨_,_,_,e,_⟩=>by rw [e];exact z
      ·exact .inr λi σ H' _ ⟨_,_,_,e,_⟩=>by rw [e];exact z
     ·rintro i y σ H' hy ⟨l,o,rfl,rfl,em⟩
      have hd:xs.drop i=y::xs.drop (i+1):=by
       obtain ⟨hi,rfl⟩:=yj.mp hy
       exact List.drop_eq_getElem_cons hi
      refine ⟨_,rfl,_,rfl,y,l,12,rfl,(tms y (yp hy)).same s1,_,rfl,?_⟩
      cases z:Jnc y l 12 with
      |false=>
       refine Joc (no ?_ _ s1)
       rw [ar,em,hd,Jur,z,ybf]
      |true=>
       rw [hd,Jur,z,ybn] at em
       cases y with
       |int i'=>exact Jnv ⟨_,rfl,_,_,rfl,rfl,i'+1,_,rfl,rfl,em⟩
       |_=>cases z
     ·rintro σ H' ⟨l,o,rfl,rfl,em⟩
      have e:Jrk lo xs=true:=by rw [ar,em,List.drop_of_length_le (yk _)];rfl
      have:=k _ s1
      rw [e] at this
      exact this
    ·rw [decide_eq_false h2]
     refine Joc (no ?_ _ s1)
     unfold Jrk
     rw [decide_eq_false (by omega:¬(1<=xs.length/\xs.length<=4)),ybf]
   ·rw [decide_eq_false h1]
    refine Jnv ⟨_,rfl,Joc (no ?_ _ s1)⟩
    unfold Jrk
    rw [decide_eq_false (by omega:¬(1<=xs.length/\xs.length<=4)),ybf]
theorem Jwu:Jmy ["marks","lowest"] ["marks","lowest"] (Jmt (top 45)):=⟨rfl,rfl,rfl,by decide +kernel,rfl,by decide +kernel,by decide +kernel⟩
theorem Jqp (T:Tx K mg a):Ss P w K mg base (CXX P w) 3 a.Jiy a.Jiz ["marks","lowest"] (Snu K a):=by
 have Sgm:=Jy3 (P:=P) (w:=w) (base:=base) T
 have Sa2:=Jpf (P:=P) (w:=w) (base:=base) T
 refine T.Jl.fn.okX Jwu (λvs H Q E h=>?_) (λcdv A outer s H vs Q E hr h=>?_)
 ·obtain ⟨x,lo,rfl,_⟩:=h
  rfl
 ·obtain ⟨x,lo,rfl,h⟩:=h
  refine ⟨_,(Sw (Jng (Jnh (Jnf (Jmv T.Jk Sgm hr (by decide) (Sk (pv 0) (Sk (pv 1) Sm))))) (Sy (Jns Jnu rfl (Job T.Jdr Sa2 hr (by decide) T.Jcs.bd T.Jb9 (Sk (pv 0) Sm)))) Jn6)
   (Sy (Jn0 (Jnd Jnl (by rfl) T.Jb6 Jnq (Sk (pv 0) Sm))))),?_⟩
  rcases h with ⟨xs,sq,tms,e,k⟩|⟨sh,k⟩
  ·have sh:=Shp.seq (lo:=lo) sq tms
   rw [e] at sh
   refine ⟨_,rfl,_,rfl,x,lo,true,rfl,sh,λH1 s1=>⟨_,rfl,Jnv ?_⟩⟩
   cases sq with
   |lst e=>exact ⟨_,rfl,_,xs,rfl,.inl ⟨Sv.of (s1 _ _ e),λl hl=>k l _ (s1.trans (Sj.upd hl)) Sr⟩⟩
   |tup e=>exact ⟨_,rfl,_,xs,rfl,.inr ⟨Su.of (s1 _ _ e),k _ _ s1 (s1 _ _ e)⟩⟩
  ·exact ⟨_,rfl,_,rfl,x,lo,false,rfl,sh,λH1 s1=>⟨_,rfl,Joc (Jon T.Jdr T.Jf9 rfl λe dx h1 h2 h3=>k _ _ _ ((Rf.new h1 h2 h3).of s1))⟩⟩
theorem Js8:Jmy ["self","marks"] ["self","marks"] (Jmt (Jn2 (top 48) 0)):=⟨rfl,rfl,rfl,by decide +kernel,rfl,by decide +kernel,by decide +kernel⟩
theorem Jub (T:Tx K mg a):Ss P w K mg base (CXX P w) 4 a.Jj2 a.Jj3 ["self","marks"] (Jyr K a 0):=by
 have Sbe:=Jqp (P:=P) (w:=w) (base:=base) T
 refine T.Jda.fn.okX Js8 (λvs H Q E h=>?_) (λcdv A outer s H vs Q E hr h=>?_)
 ·obtain ⟨p,C,dx,x,rfl,_⟩:=h
  rfl
 ·obtain ⟨p,C,dx,x,rfl,hp,c,n,h⟩:=h
  refine ⟨_,(Sy (Jny (pv 0) (Jow T.Jl Sbe Jnu hr (by decide) (Sk (pv 1) (Sk So Sm))) rfl)),?_⟩
  rcases h with ⟨xs,sq,tms,e,k⟩|⟨sh,k⟩
  ·exact ⟨_,rfl,x,0,rfl,.inl ⟨xs,sq,tms,e,λt H' s' ht=>⟨_,rfl,p,C,dx,[],rfl,s' _ _ hp,c,n,by simp,k t H' s' ht⟩⟩⟩
  ·exact ⟨_,rfl,x,0,rfl,.inr ⟨sh,k⟩⟩
theorem Js9:Jmy ["self"] ["self"] (Jmt (Jn2 (top 48) 1)):=⟨rfl,rfl,rfl,by decide +kernel,rfl,by decide +kernel,by decide +kernel⟩
theorem Jry (T:Tx K mg a):Ss P w K mg base CX0 1 a.Jj4 a.Jj5 ["self"] (Yds a.Jmc):=by
 refine T.Jdb.fn.ok Js9 (λvs H Q E h=>?_) (λcdv A outer s H vs Q E hr h=>?_)
 ·obtain ⟨p,xs,rfl,_⟩:=h
  rfl
 ·obtain ⟨p,xs,rfl,⟨dx,t,h1,h2⟩,k⟩:=h
  refine ⟨_,(Sy (Jn0 (Jmx Jn8 (by rfl) T.Jay Jnz (Sk (Jna (pv 0) (by rfl)) Sm)))),?_⟩
  exact ⟨_,rfl,p,_,dx,_,_,rfl,h1,T.Jeb,T.Jfp,rfl,t,xs,rfl,.inr (Su.of h2),k⟩
theorem Js2:Jmy ["self","marks"] ["self","marks"] (Jmt (Jn2 (top 49) 0)):=⟨rfl,rfl,rfl,by decide +kernel,rfl,by decide +kernel,by decide +kernel⟩
theorem Ju9 (T:Tx K mg a):Ss P w K mg base (CXX P w) 4 a.Jj8 a.Jj9 ["self","marks"] (Jyr K a 0):=by
 have Sbe:=Jqp (P:=P) (w:=w) (base:=base) T
 refine T.Jdd.fn.okX Js2 (λvs H Q E h=>?_) (λcdv A outer s H vs Q E hr h=>?_)
 ·obtain ⟨p,C,dx,x,rfl,_⟩:=h
  rfl
 ·obtain ⟨p,C,dx,x,rfl,hp,c,n,h⟩:=h
  refine ⟨_,(Sy (Jny (pv 0) (Jow T.Jl Sbe Jnu hr (by decide) (Sk (pv 1) (Sk So Sm))) rfl)),?_⟩
  rcases h with ⟨xs,sq,tms,e,k⟩|⟨sh,k⟩
  ·exact ⟨_,rfl,x,0,rfl,.inl ⟨xs,sq,tms,e,λt H' s' ht=>⟨_,rfl,p,C,dx,[],rfl,s' _ _ hp,c,n,by simp,k t H' s' ht⟩⟩⟩
  ·exact ⟨_,rfl,x,0,rfl,.inr ⟨sh,k⟩⟩
theorem Js3:Jmy ["self"] ["self"] (Jmt (Jn2 (top 49) 1)):=⟨rfl,rfl,rfl,by decide +kernel,rfl,by decide +kernel,by decide +kernel⟩
theorem Jrv (T:Tx K mg a):Ss P w K mg base CX0 1 a.Jja a.Jjb ["self"] (Yds a.Jmd):=by
 refine T.Jde.fn.ok Js3 (λvs H Q E h=>?_) (λcdv A outer s H vs Q E hr h=>?_)
 ·obtain ⟨p,xs,rfl,_⟩:=h
  rfl
 ·obtain ⟨p,xs,rfl,⟨dx,t,h1,h2⟩,k⟩:=h
  refine ⟨_,(Sy (Jn0 (Jmx Jn8 (by rfl) T.Jay Jnz (Sk (Jna (pv 0) (by rfl)) Sm)))),?_⟩
  exact ⟨_,rfl,p,_,dx,_,_,rfl,h1,T.Jeh,T.Jfq,rfl,t,xs,rfl,.inr (Su.of h2),k⟩
theorem Js6:Jmy ["self","marks"] ["self","marks"] (Jmt (Jn2 (top 50) 0)):=⟨rfl,rfl,rfl,by decide +kernel,rfl,by decide +kernel,by decide +kernel⟩
theorem Jua (T:Tx K mg a):Ss P w K mg base (CXX P w) 4 a.Jje a.Jjf ["self","marks"] (Jyr K a 1):=by
 have Sbe:=Jqp (P:=P) (w:=w) (base:=base) T
 refine T.Jdg.fn.okX Js6 (λvs H Q E h=>?_) (λcdv A outer s H vs Q E hr h=>?_)
 ·obtain ⟨p,C,dx,x,rfl,_⟩:=h
  rfl
 ·obtain ⟨p,C,dx,x,rfl,hp,c,n,h⟩:=h
  refine ⟨_,(Sy (Jny (pv 0) (Jow T.Jl Sbe Jnu hr (by decide) (Sk (pv 1) (Sk So Sm))) rfl)),?_⟩
  rcases h with ⟨xs,sq,tms,e,k⟩|⟨sh,k⟩
  ·exact ⟨_,rfl,x,1,rfl,.inl ⟨xs,sq,tms,e,λt H' s' ht=>⟨_,rfl,p,C,dx,[],rfl,s' _ _ hp,c,n,by simp,k t H' s' ht⟩⟩⟩
  ·exact ⟨_,rfl,x,1,rfl,.inr ⟨sh,k⟩⟩
theorem Js7:Jmy ["self"] ["self"] (Jmt (Jn2 (top 50) 1)):=⟨rfl,rfl,rfl,by decide +kernel,rfl,by decide +kernel,by decide +kernel⟩
theorem Jrx (T:Tx K mg a):Ss P w K mg base CX0 1 a.Jjg a.Jjh ["self"] (Yds a.Jme):=by
 refine T.Jdh.fn.ok Js7 (λvs H Q E h=>?_) (λcdv A outer s H vs Q E hr h=>?_)
 ·obtain ⟨p,xs,rfl,_⟩:=h
  rfl
 ·obtain ⟨p,xs,rfl,⟨dx,t,h1,h2⟩,k⟩:=h
  refine ⟨_,(Sy (Jn0 (Jmx Jn8 (by rfl) T.Jay Jnz (Sk (Jna (pv 0) (by rfl)) Sm)))),?_⟩
  exact ⟨_,rfl,p,_,dx,_,_,rfl,h1,T.Jen,T.Jfr,rfl,t,xs,rfl,.inr (Su.of h2),k⟩
theorem Jrn:Jmy ["self"] ["self"] (Jmt (Jn2 (top 51) 1)):=⟨rfl,rfl,rfl,by decide +kernel,rfl,by decide +kernel,by decide +kernel⟩
theorem Jrl (T:Tx K mg a):Ss P w K mg base CX0 1 a.Jjm a.Jjn ["self"] Sri:=by
 refine T.Jdk.fn.ok Jrn (λvs H Q E h=>?_) (λcdv A outer s H vs Q E hr h=>?_)
 ·obtain ⟨x,rfl,_⟩:=h
  rfl
 ·obtain ⟨x,rfl,k⟩:=h
  refine ⟨_,(Sy (Jn0 So)),?_⟩
  exact k
theorem Jp3 {j:Nat} {σ:L2.St} {H:Hp} {x:V} {n:Nat} {Q:VK} (T:Tx K mg a) (g:GS K a H x n) (k:Q (.int n) H) (hj:1<=j):
  ∃g' C dx fs f fd ps sp k',x= .ref g'/\H g'=some (.ins C dx fs)/\fs.lookup ("settings" :Str)=none/\Cls K C/\Jpv K C "settings" f/\Ss P w K mg base CX0 k' f fd ps sp/\k'<=j/\Sbk K fd ps []/\Jwz σ H λvs H2=>sp (x::vs) H2 Q E0:=by
 cases g with
 | @plain g C xs i ga l=>
  obtain ⟨dx,t,h1,h2⟩:=ga
  rcases i with rfl|rfl|rfl
  ·exact ⟨g,_,dx,_,_,_,_,_,_,rfl,h1,rfl,T.Jeb,T.Jef,Jry T,hj,T.Jdb.bd,g,xs,rfl,⟨dx,t,h1,h2⟩,k⟩
  ·exact ⟨g,_,dx,_,_,_,_,_,_,rfl,h1,rfl,T.Jeh,T.Jel,Jrv T,hj,T.Jde.bd,g,xs,rfl,⟨dx,t,h1,h2⟩,k⟩
  ·exact ⟨g,_,dx,_,_,_,_,_,_,rfl,h1,rfl,T.Jen,T.Jer,Jrx T,hj,T.Jdh.bd,g,xs,rfl,⟨dx,t,h1,h2⟩,k⟩
 | @stuck g dx x y h1=>exact ⟨g,_,dx,_,_,_,_,_,_,rfl,h1,rfl,T.Jet,T.Jex,Jrl T,hj,T.Jdk.bd,_,rfl,k⟩
theorem GS.ty {H:Hp} {x:V} {n:Nat} (T:Tx K mg a) (g:GS K a H x n):∃t,TyX K H x t/\Sf K t (.ref a.Jmb)=some true:=by
 cases g with
 |plain i ga l=>
  obtain ⟨dx,t,h1,h2⟩:=ga
  rcases i with rfl|rfl|rfl
  ·exact ⟨_,.of (T.Jec.ty T.Jeb h1),T.Jgb⟩
  ·exact ⟨_,.of (T.Jei.ty T.Jeh h1),T.Jgc⟩
  ·exact ⟨_,.of (T.Jeo.ty T.Jen h1),T.Jgd⟩
 |stuck h1=>exact ⟨_,.of (T.Jeu.ty T.Jet h1),T.Jge⟩
theorem Svh (x y:V):Joa ("setting" :Str) y [(("gate" :Str),x)]= [(("gate" :Str),x),(("setting" :Str),y)]:=by
 have h:¬(("gate" :Str)="setting"):=by decide +kernel
 simp [Joa,h]
theorem Jrm:Jmy ["self","gate","setting"] ["self","gate","setting"] (Jmt (Jn2 (top 51) 0)):=⟨rfl,rfl,rfl,by decide +kernel,rfl,by decide +kernel,by decide +kernel⟩
theorem Jtj (T:Tx K mg a):Ss P w K mg base (CXX P w) 4 a.Jjk a.Jjl ["self","gate","setting"] (Yfd K a):=by
 have Sx:=Jo6 (P:=P) (w:=w) (base:=base) T
 have Sa2:=Jpf (P:=P) (w:=w) (base:=base) T
 refine T.Jdj.fn.okX Jrm (λvs H Q E h=>?_) (λcdv A outer s H vs Q E hr h=>?_)
 ·obtain ⟨p,dx,x,y,rfl,_⟩:=h
  rfl
 ·obtain ⟨p,dx,x,y,rfl,hp,h⟩:=h
  refine ⟨_,(Sw (Jng (Jnh (Jnf (Jmx Jo7 (by rfl) T.Jax Jnb (Sk (pv 1) (Sk (Jo5 (by rfl) T.Jbk (v:=.ref _) rfl) Sm))))) (Sy (Jns Jnu rfl (Job T.Jdr Sa2 hr (by decide) T.Jcs.bd T.Jb9 (Sk (pv 1) Sm)))) Jn6)
   (Sw (Jng (Jnh (Jnf (Jmv T.J0 Sx hr (by decide) (Sk (pv 2) (Sk So (Sk (Jn5 Jo4 (Jug (pv 1) hr) So) Sm)))))) (Sy (Jns Jnu rfl (Job T.Jdr Sa2 hr (by decide) T.Jcs.bd T.Jb9 (Sk (pv 2) Sm)))) Jn6)
   (Sw (Jny (pv 0) (pv 1) rfl)
   (Sy (Jny (pv 0) (pv 2) rfl))))),?_⟩
  rcases h with ⟨t,ty,e,k⟩|⟨n,g,tm,e,k⟩|⟨n,g,tm,e,k⟩
  ·exact ⟨_,rfl,x,_,_,t,_,rfl,rfl,ty,e,_,rfl,Joc (Jon T.Jdr T.Jf9 rfl λe dx h1 h2 h3=>k _ _ _ (Rf.new h1 h2 h3))⟩
  ·obtain ⟨t,ty,et⟩:=g.ty T
   refine ⟨_,rfl,x,_,_,t,_,rfl,rfl,ty,et,_,rfl,Jnv ⟨_,rfl,_,rfl,Jp3 T g ⟨_,_,rfl,rfl,y,0,(n:Int) - 1,rfl,tm,_,rfl,?_⟩ (by decide)⟩⟩
   rw [e]
   exact Joc (Jon T.Jdr T.Jf9 rfl λe dx h1 h2 h3=>k _ _ _ (Rf.new h1 h2 h3))
  ·obtain ⟨t,ty,et⟩:=g.ty T
   refine ⟨_,rfl,x,_,_,t,_,rfl,rfl,ty,et,_,rfl,Jnv ⟨_,rfl,_,rfl,Jp3 T g ⟨_,_,rfl,rfl,y,0,(n:Int) - 1,rfl,tm,_,rfl,?_⟩ (by decide)⟩⟩
   rw [e]
   refine Jnv ⟨_,rfl,_,rfl,p,_,dx,[],rfl,hp,T.Jet,T.Jfs,by simp,_,rfl,_,rfl,p,_,dx,_,rfl,Sr,T.Jet,T.Jft,by simp [Joa],?_⟩
   show Q .non _
   rw [Jp1]
   exact Svh x y▸k
theorem Jzz:Jmy ["_law_script","_law_k"] ["_law_script","_law_k"] (Jmt (top 67)):=⟨rfl,rfl,rfl,by decide +kernel,rfl,by decide +kernel,by decide +kernel⟩
theorem Jzj (T:Tx K mg a):Ss P w K mg base CX0 1 a.Jk6 a.Jk7 ["_law_script","_law_k"] (Snr K):=by
 refine T.Jq.fn.ok Jzz (λvs H Q E h=>?_) (λcdv A outer s H vs Q E hr h=>?_)
 ·obtain ⟨x,ns,i,rfl,_⟩:=h
  rfl
 ·obtain ⟨x,ns,i,rfl,hS,k⟩:=h
  refine ⟨_,(Sw (Jng (Jnp Yaq (pv 1) (Jmx Jn8 (by rfl) T.Jay Jnz (Sk (pv 0) Sm)) (Jni _)) (Sy (Jn0 (Jn1 Jne (pv 0) (pv 1) (λ_ _=>rfl)))) Jn6)
   (Sy (Jn0 (Jn5 Jnn (Jn5 Jp2 So (pv 1)) So)))),?_⟩
  refine ⟨_,rfl,_,rfl,x,_,rfl,.inl hS,_,_,rfl,rfl,_,rfl,Sn2 (λq=>?_) (λq=>?_)⟩
  ·have hi:i < ns.length:=by
    have q':=of_decide_eq_true q
    rw [yf] at q'
    omega
   exact ⟨_,rfl,_,rfl,x,_,_,_,rfl,rfl,hS,Jps hi,k _⟩
  ·exact ⟨_,rfl,_,_,rfl,rfl,.inl ⟨by decide,by decide⟩,_,_,rfl,rfl,k _⟩
theorem Jww:Jmy ["_law_cell_here"] ["_law_cell_here"] (Jmt (top 68)):=⟨rfl,rfl,rfl,by decide +kernel,rfl,by decide +kernel,by decide +kernel⟩
theorem Jsq (T:Tx K mg a):Ss P w K mg base CX0 1 a.Jk8 a.Jk9 ["_law_cell_here"] Ydt:=by
 refine T.Jr.fn.ok Jww (λvs H Q E h=>?_) (λcdv A outer s H vs Q E hr h=>?_)
 ·obtain ⟨c,rfl,_⟩:=h
  rfl
 ·obtain ⟨c,rfl,k⟩:=h
  refine ⟨_,(Sy (Jn0 (Jol (Sk (Jmx (Jpl rfl) (by rfl) T.Jb0 Jsu (Sk So (Sk (Jn5 Jo4 (pv 0) (Jn5 Sni So So)) Sm))) (Sk (Jn5 Jp6 (pv 0) So) (Sk So Sm)))))),?_⟩
  refine ⟨_,rfl,_,_,rfl,rfl,⟨by decide,by decide,by decide⟩,_,_,rfl,rfl,_,_,rfl,_,rfl,_,_,rfl,rfl,(by show (0:Int) < 2147483647;decide),Jq7 _ (by show 3<=2000;decide),λp hp=>?_⟩
  exact k p _ hp (Sj.upd hp) ⟨_,_,_,Sr⟩
theorem Sar:Jmy ["_law_stream_here","_law_many","_law_digit","_law_number"] ["_law_stream_here","_law_many"] (Jmt (top 69)):=⟨rfl,rfl,rfl,by decide +kernel,rfl,by decide +kernel,by decide +kernel⟩
theorem Jpb (T:Tx K mg a):Ss P w K mg base CX0 1 a.Jka a.Jkb ["_law_stream_here","_law_many"] So8:=by
 refine T.Js.fn.ok Sar (λvs H Q E h=>?_) (λcdv A outer s H vs Q E hr h=>?_)
 ·obtain ⟨p,m,rfl,_⟩:=h
  rfl
 ·obtain ⟨p,m,rfl,⟨a0,b0,c0,hp⟩,hm,hl,k⟩:=h
  refine ⟨_,(Sw (Jpi (Jn5 Jnn (Jn1 Jne (pv 0) So (λ_ _=>rfl)) So) (Js1 (pv 0) So Jpk))
   (Sw (Jng (Jnp Jrf (Jn1 Jne (pv 0) So (λ_ _=>rfl)) So (Jni _)) (Sw (Jn3 (i:=2) Sar.nd rfl (ye rfl) (Jn5 Jp6 (Jn1 Jne (pv 0) So (λ_ _=>rfl)) (pv 1)))
    (Sw (Jpi (Jn5 Jr0 (Jn1 Jne (pv 0) So (λ_ _=>rfl)) (pv 1)) (Js1 (pv 0) So Jpk))
    (Sy (Jn0 (pv 2))))) Jn6)
   (Sw (Jn3 (i:=3) Sar.nd rfl (ye rfl) (Jn5 Jp6 (Jn5 Jp2 (Jn5 Jnn (Jn1 Jne (pv 0) So (λ_ _=>rfl)) (Jn5 Jp2 So (Jn1 Jne (pv 0) So (λ_ _=>rfl)))) So) So))
   (Sw (Jn3 (i:=3) Sar.nd rfl (ye rfl) (Jn5 Jp6 (Jn5 Jp2 (pv 3) (pv 3)) So))
   (Sy (Jn0 (Jn5 Jp6 (Jn5 Jr0 (Jn5 Jp6 (Jn5 Jnn (Jn5 Jp2 (pv 3) (Jn5 Jnn (pv 3) So)) (Jn5 Jp2 So (Jn1 Jne (pv 0) So (λ_ _=>rfl)))) So) So) (pv 1)))))))),?_⟩
  refine ⟨_,rfl,p,_,_,_,rfl,rfl,Sv.of hp,rfl,_,_,rfl,rfl,_,rfl,p,_,_,_,rfl,rfl,hp,rfl,?_⟩
  refine ⟨_,rfl,p,_,_,_,rfl,rfl,Sv.of Sr,rfl,_,_,rfl,rfl,_,rfl,Sn2 (λ_=>?_) (λ_=>?_)⟩
  ·refine ⟨_,rfl,p,_,_,_,rfl,rfl,Sv.of Sr,rfl,_,rfl,_,_,rfl,rfl,hm,?_⟩
   refine ⟨_,rfl,p,_,_,_,rfl,rfl,Sv.of Sr,rfl,_,rfl,_,_,rfl,rfl,⟨hm,hl⟩,_,rfl,p,_,_,_,rfl,rfl,Sr,rfl,?_⟩
   refine ⟨_,rfl,k _ _ (ybr _ (by omega)) (ybs _ hm) ⟨λb o ne e=>?_,_,_,_,Sr⟩⟩
   rw [Sz ne,Sz ne]
   exact e
  ·refine ⟨_,rfl,p,_,_,_,rfl,rfl,Sv.of Sr,rfl,_,rfl,p,_,_,_,rfl,rfl,Sv.of Sr,rfl,_,_,rfl,rfl,.inl ⟨by decide,by decide⟩,_,_,rfl,rfl,_,_,rfl,rfl,.inr ⟨by decide,by decide⟩,_,_,rfl,rfl,(by show (0:Int) < 2147483629;decide),?_⟩
   have n1:∀x:Int,-(2^64) < x%2147483629/\x%2147483629 < 2^64:=λx=>by
    have h1:=ybr x (show (2147483629:Int)≠0 by decide)
    have h2:=ybs x (show (0:Int) < 2147483629 by decide)
    constructor <;> omega
   have n2:∀x:Int,-(2^64) < x%2147483587/\x%2147483587 < 2^64:=λx=>by
    have h1:=ybr x (show (2147483587:Int)≠0 by decide)
    have h2:=ybs x (show (0:Int) < 2147483587 by decide)
    constructor <;> omega
   refine ⟨_,rfl,_,rfl,_,_,rfl,rfl,.inl (n1 _),_,_,rfl,rfl,(by show (0:Int) < 2147483587;decide),?_⟩
   refine ⟨_,rfl,_,rfl,_,_,rfl,rfl,_,_,rfl,rfl,.inl (n2 _),_,rfl,p,_,_,_,rfl,rfl,Sv.of Sr,rfl,_,_,rfl,rfl,.inl ⟨by decide,by decide⟩,_,_,rfl,rfl,_,_,rfl,rfl,(by show (0:Int) < 2147483647;decide),_,_,rfl,rfl,⟨by decide,by decide⟩,_,rfl,_,_,rfl,rfl,hm,?_⟩
   refine k _ _ (ybr _ (by omega)) (ybs _ hm) ⟨λb o ne e=>?_,_,_,_,Sr⟩
   rw [Sz ne]
   exact e
theorem Jt3:Jmy ["self","thing"] ["self","thing"] (Jmt (Jn2 (top 2) 0)):=⟨rfl,rfl,rfl,by decide +kernel,rfl,by decide +kernel,by decide +kernel⟩
theorem Jrw (T:Tx K mg a):Ss P w K mg base CX0 1 a.Jgs a.Jgt ["self","thing"] (Jpx K "thing"):=by
 refine T.Jcr.fn.ok Jt3 (λvs H Q E h=>?_) (λcdv A outer s H vs Q E hr h=>?_)
 ·obtain ⟨e,C,W,fI,y,rfl,_⟩:=h
  rfl
 ·obtain ⟨e,C,W,fI,y,rfl,q,c,n,k⟩:=h
  refine ⟨_,(Sy (Jpu (pv 0) (pv 1) rfl)),?_⟩
  exact ⟨_,rfl,_,rfl,e,C,W,fI,true,rfl,q,c,n,k⟩
theorem Jsh:Jmy ["self","thing"] ["self","thing"] (Jmt (Jn2 (top 4) 0)):=⟨rfl,rfl,rfl,by decide +kernel,rfl,by decide +kernel,by decide +kernel⟩
theorem Jv3 (T:Tx K mg a):Ss P w K mg base CX0 1 a.Jgw a.Jgx ["self","thing"] (Jpx K "thing"):=by
 refine T.Jct.fn.ok Jsh (λvs H Q E h=>?_) (λcdv A outer s H vs Q E hr h=>?_)
 ·obtain ⟨e,C,W,fI,y,rfl,_⟩:=h
  rfl
 ·obtain ⟨e,C,W,fI,y,rfl,q,c,n,k⟩:=h
  refine ⟨_,(Sy (Jpu (pv 0) (pv 1) rfl)),?_⟩
  exact ⟨_,rfl,_,rfl,e,C,W,fI,true,rfl,q,c,n,k⟩
theorem Jt5:Jmy ["self","thing"] ["self","thing"] (Jmt (Jn2 (top 5) 0)):=⟨rfl,rfl,rfl,by decide +kernel,rfl,by decide +kernel,by decide +kernel⟩
theorem Jvx (T:Tx K mg a):Ss P w K mg base CX0 1 a.Jgy a.Jgz ["self","thing"] (Jpx K "thing"):=by
 refine T.Jcu.fn.ok Jt5 (λvs H Q E h=>?_) (λcdv A outer s H vs Q E hr h=>?_)
 ·obtain ⟨e,C,W,fI,y,rfl,_⟩:=h
  rfl
 ·obtain ⟨e,C,W,fI,y,rfl,q,c,n,k⟩:=h
  refine ⟨_,(Sy (Jpu (pv 0) (pv 1) rfl)),?_⟩
  exact ⟨_,rfl,_,rfl,e,C,W,fI,true,rfl,q,c,n,k⟩
theorem Jwt:Jmy ["text","signs"] ["text","signs"] (Jmt (top 16)):=⟨rfl,rfl,rfl,by decide +kernel,rfl,by decide +kernel,by decide +kernel⟩
theorem Jwk (T:Tx K mg a):Ss P w K mg base CX0 1 a.Jhe a.Jhf ["text","signs"] Snx:=by
 refine T.J1.fn.ok Jwt (λvs H Q E h=>?_) (λcdv A outer s H vs Q E hr h=>?_)
 ·obtain ⟨z,g,rfl,_⟩:=h
  rfl
 ·obtain ⟨z,g,rfl,hz,k⟩:=h
  refine ⟨_,(Sy (Jn0 (Jmx (Jqt rfl) (by rfl) T.Jas Ju3 (Sk (Jnm (N:=(["sign","signs"]:List Str)) (ini:=[none,some 1]) rfl (Snm (pv 0)) (λ_ _ _ _ _=>(Jmz (i:=0) (by decide +kernel:(["sign","signs"]:List Str).Nodup) rfl (ye rfl))) (λ_ _ _ _ _=>Jnk) (λ_ _ _ _ _=>(Joi Ybq (pv 0) (pv 1) (by with_unfolding_all rfl)))) Sm)))),?_⟩
  refine ⟨_,rfl,z,rfl,λD hD=>?_⟩
  refine Ycl (z:=z) (D:=D) (λi σ H'=>∃o,σ= [o,some (.str g)]/\H'=upd H D (.lst ((z.cps.toList.take i).map λc=>V.bl (decide (c∈g.cps.toList))))) ?_ ?_ ?_
  ·exact ⟨none,rfl,rfl⟩
  ·rintro i c σ H' hc ⟨o,rfl,rfl⟩
   refine Jo9 ⟨_,rfl,_,rfl,⟨#[c]⟩,g,rfl,rfl,_,Sr,?_,_,rfl,?_⟩
   ·rw [yf,yy,Yao]
    exact Jno (by omega)
   ·rw [Jp1,StrLaws.found_one]
    have e:z.cps.toList[i]?=some c:=by simpa using hc
    rw [yag,e]
    simp
  ·rintro σ H' ⟨o,rfl,rfl⟩
   have e:z.cps.toList.take z.cps.size=z.cps.toList:=yac (by simp)
   refine ⟨D,z.cps.toList.map λc=>decide (c∈g.cps.toList),rfl,Sv.of (by rw [Sr,e,yav];rfl),?_⟩
   have e2:(z.cps.toList.map λc=>decide (c∈g.cps.toList)).all id=Jx4 g z:=by
    unfold Jx4
    rw [List.all_map]
    rfl
   rw [e2]
   exact k _ (Sj.upd hD)
theorem Yeu {H:Hp} {x:V} (h:Tm K H x) (n:∀z,x≠ .str z):∃t,TyX K H x t/\Sf K t (.type "str")=some false:=by
 rcases h with ⟨i,rfl⟩|⟨t,ty,ht⟩
 ·exact ⟨_,.of (.int i),rfl⟩
 ·refine ⟨t,ty,?_⟩
  unfold tpB at ht
  simp only [List.contains_cons,List.contains_nil,Bool.or_false,Bool.or_eq_true,beq_iff_eq] at ht
  rcases ht with rfl|rfl|rfl|rfl|rfl|rfl
  ·rfl
  ·obtain ⟨z,e⟩:=Sor ty rfl
   exact absurd e (n z)
  ·rfl
  ·rfl
  ·rfl
  ·rfl
theorem Yw:Jmy ["thing"] ["thing"] (Jmt (top 17)):=⟨rfl,rfl,rfl,by decide +kernel,rfl,by decide +kernel,by decide +kernel⟩
theorem Jvz (T:Tx K mg a):Ss P w K mg base CX0 2 a.Jhg a.Jhh ["thing"] (Sny K):=by
 have Sg0:=Jwk (P:=P) (w:=w) (base:=base) T
 refine T.J2.fn.ok Yw (λvs H Q E h=>?_) (λcdv A outer s H vs Q E hr h=>?_)
 ·obtain ⟨x,rfl,_⟩:=h
  rfl
 ·obtain ⟨x,rfl,nm,k⟩:=h
  refine ⟨_,(Sw (Jng (Jnh (Jnf (Jmx Jo7 (by rfl) T.Jax Jnb (Sk (pv 0) (Sk (Joh (v:=.ty "str") (by rfl) T.Jb4 Sms rfl) Sm))))) (Sy (Jn0 Jov)) Jn6)
   (Sy (Jn0 (Jye (Jw2 Jrg Jrg So (Jmx Jxo (by rfl) T.Jay Jnz (Sk (pv 0) Sm)) (Jo5 (by rfl) T.Jah (v:=.int 8) ⟨_,rfl⟩)) (Jyf (Jmv T.J1 Sg0 hr (by decide) (Sk (pv 0) (Sk (Jo5 (by rfl) T.Jag (v:=.str "abcdefghijklmnopqrstuvwxyz") ⟨_,rfl⟩) Sm)))))))),?_⟩
  by_cases hx:∃z,x= .str z
  ·obtain ⟨z,rfl⟩:=hx
   have k:∀H',Sj H H'->Q (.bl (Jru z)) H':=k
   have hz:z.length<=2000:=by have:=(nm.2 z rfl).len;omega
   refine ⟨_,rfl,_,_,_,_,_,rfl,rfl,.of (.str z),(by rfl:Sf K (.type "str") (.type "str")=some true),_,rfl,Jnv ?_⟩
   refine ⟨_,rfl,z,rfl,Jq7 _ hz,_,_,rfl,rfl,_,rfl,?_⟩
   have no:¬(1<=z.length/\z.length<=8)->Q (.bl false) H:=λq=>by
    have k':=k H (Sj.refl H)
    unfold Jru at k'
    rw [decide_eq_false q,ybf] at k'
    exact k'
   by_cases h1:(1:Int)<=(z.length:Int)
   ·rw [decide_eq_true h1]
    refine Joc ⟨_,_,rfl,rfl,_,rfl,?_⟩
    by_cases h2:(z.length:Int)<=8
    ·rw [decide_eq_true h2]
     refine Joc ⟨_,rfl,z,_,rfl,hz,λH' s'=>?_⟩
     have e:Jru z=Jx4 LET z:=by
      unfold Jru
      rw [decide_eq_true (by omega:1<=z.length/\z.length<=8),ybn]
     have k':=k H' s'
     rw [e] at k'
     exact k'
    ·rw [decide_eq_false h2]
     exact Jnv (no (by omega))
   ·rw [decide_eq_false h1]
    exact Jnv ⟨_,rfl,Jnv (no (by omega))⟩
  ·obtain ⟨t,ty,e1⟩:=Yeu nm.1 λz e=>hx ⟨z,e⟩
   have k':=k H (Sj.refl H)
   have e:Jpy x=false:=by
    cases x with
    |str z=>exact absurd ⟨z,rfl⟩ hx
    |_=>rfl
   rw [e] at k'
   exact ⟨_,rfl,_,_,_,_,_,rfl,rfl,ty,e1,_,rfl,Joc k'⟩
theorem Jt8:Jmy ["thing","low","high"] ["thing","low","high"] (Jmt (top 59)):=⟨rfl,rfl,rfl,by decide +kernel,rfl,by decide +kernel,by decide +kernel⟩
theorem Jsz (T:Tx K mg a):Ss P w K mg base (CXX P w) 3 a.Jjq a.Jjr ["thing","low","high"] (Yc1 K a):=by
 have Sx:=Jo6 (P:=P) (w:=w) (base:=base) T
 have Sde:=Jv3 (P:=P) (w:=w) (base:=base) T
 refine T.Jm.fn.okX Jt8 (λvs H Q E h=>?_) (λcdv A outer s H vs Q E hr h=>?_)
 ·obtain ⟨x,lo,hi,rfl,_⟩:=h
  rfl
 ·obtain ⟨x,lo,hi,rfl,tm,h⟩:=h
  refine ⟨_,(Sy (Jng (Jnh (Jnf (Jmv T.J0 Sx hr (by decide) (Sk (pv 0) (Sk (pv 1) (Sk (pv 2) Sm)))))) (Sy (Jns Jnu rfl (Job T.Jds Sde hr (by decide) T.Jct.bd T.Jba (Sk (pv 0) Sm)))) Jn6)),?_⟩
  refine ⟨_,rfl,_,rfl,_,rfl,x,lo,hi,rfl,tm,_,rfl,?_⟩
  rcases h with ⟨e,k⟩|⟨e,k⟩
  ·rw [e]
   exact Jnv k
  ·rw [e]
   exact Joc (Jon T.Jds T.Jfa rfl λe dx h1 h2 h3=>k _ _ _ (RfC.new h1 h2 h3))
theorem Jnx {f:Str} {v:V}:∀{fs:List (Str×V)},(fs.map (·.1)).contains f=false->Joa f v fs=fs++ [(f,v)]
 | [],_=>rfl
 | (g,x) :: r,h=>by
  rw [ybj,List.contains_cons,Bool.or_eq_false_iff] at h
  have ne:¬g=f:=λe=>by
   have:=h.1
   rw [e] at this
   simp at this
  show (if g=f then (g,v)::r else (g,x)::Joa f v r)=_
  rw [if_neg ne,Jnx h.2]
  rfl
theorem Jto:Jmy ["self","name","low","high","start","rain","gate"] ["self","name","low","high","start","rain","gate"] (Jmt (Jn2 (top 60) 0)):=⟨rfl,rfl,rfl,by decide +kernel,rfl,by decide +kernel,by decide +kernel⟩
theorem Jwg (T:Tx K mg a):Ss P w K mg base (CXX P w) 4 a.Jjs a.Jjt ["self","name","low","high","start","rain","gate"] (Yfb K a):=by
 have Sd4:=Jvz (P:=P) (w:=w) (base:=base) T
 have Sat:=Jsz (P:=P) (w:=w) (base:=base) T
 have Sas:=Jrw (P:=P) (w:=w) (base:=base) T
 have Sa2:=Jpf (P:=P) (w:=w) (base:=base) T
 refine T.Jdm.fn.okX Jto (λvs H Q E h=>?_) (λcdv A outer s H vs Q E hr h=>?_)
 ·obtain ⟨p,dx,n,lo,hi,st,rn,g,gb,d,rfl,_⟩:=h
  rfl
 ·obtain ⟨p,dx,n,lo,hi,st,rn,g,gb,d,rfl,hp,nm,tlo,thi,tst,trn,gt,du,k⟩:=h
  refine ⟨?t,?B,?C⟩
  case B=>
   refine' Sw (Jng (Jnh (Jnf (Jmv T.J2 Sd4 hr (by decide) (Sk (pv 1) Sm)))) (Sy (Jns Jnu rfl (Job T.Jdq Sas hr (by decide) T.Jcr.bd T.Jb8 (Sk (pv 1) Sm)))) Jn6) ?_
   rotate_left
   refine' Sw (Jp0 (Jow T.Jm Sat Jnu hr (by decide) (Sk (pv 2) (Sk So (Sk (Jo5 (by rfl) T.Jam (v:=.int 12) ⟨_,rfl⟩) Sm))))) ?_
   rotate_left
   refine' Sw (Jp0 (Jow T.Jm Sat Jnu hr (by decide) (Sk (pv 3) (Sk (pv 2) (Sk (Jo5 (by rfl) T.Jam (v:=.int 12) ⟨_,rfl⟩) Sm))))) ?_
   rotate_left
   refine' Sw (Jp0 (Jow T.Jm Sat Jnu hr (by decide) (Sk (pv 4) (Sk (pv 2) (Sk (pv 3) Sm))))) ?_
   rotate_left
   refine' Sw (Jp0 (Jow T.Jm Sat Jnu hr (by decide) (Sk (pv 5) (Sk So (Sk (Jo5 (by rfl) T.Jan (v:=.int 6) ⟨_,rfl⟩) Sm))))) ?_
   rotate_left
   refine' Sw (Jng (Jnh (Jnf (Jmx Jo7 (by rfl) T.Jax Jnb (Sk (pv 6) (Sk (Jo5 (by rfl) T.Jbk (v:=.ref _) rfl) Sm))))) (Sy (Jns Jnu rfl (Job T.Jdr Sa2 hr (by decide) T.Jcs.bd T.Jb9 (Sk (pv 6) Sm)))) Jn6) ?_
   rotate_left
   refine' Sw (Jny (pv 0) (pv 1) rfl) ?_
   rotate_left
   refine' Sw (Jny (pv 0) (pv 2) rfl) ?_
   rotate_left
   refine' Sw (Jny (pv 0) (pv 3) rfl) ?_
   rotate_left
   refine' Sw (Jny (pv 0) (pv 4) rfl) ?_
   rotate_left
   refine' Sw (Jny (pv 0) (pv 5) rfl) ?_
   rotate_left
   exact (Sy (Jny (pv 0) (pv 6) rfl))
  refine ⟨_,rfl,n,rfl,nm,λH1 s1=>⟨_,rfl,?_⟩⟩
  cases du with
  |name e=>
   rw [e]
   exact Joc (Jon T.Jdq T.Jf8 rfl λe dx h1 h2 h3=>k _ _ _ ((RfC.new h1 h2 h3).of s1))
  |low e1 e2=>
   rw [e1]
   exact Jnv ⟨_,rfl,lo,0,12,rfl,tlo.same s1,.inr ⟨e2,λc eo H' rf=>k c eo H' (rf.of s1)⟩⟩
  |high l e1 e2 e3 e4=>
   subst e2
   rw [e1]
   refine Jnv ⟨_,rfl,_,0,12,rfl,tlo.same s1,.inl ⟨e3,?_⟩⟩
   exact ⟨_,rfl,_,rfl,hi,l,12,rfl,thi.same s1,.inr ⟨e4,λc eo H' rf=>k c eo H' (rf.of s1)⟩⟩
  |start l h e1 e2 e3 e4 e5 e6=>
   subst e2 e3
   rw [e1]
   refine Jnv ⟨_,rfl,_,0,12,rfl,tlo.same s1,.inl ⟨e4,?_⟩⟩
   refine ⟨_,rfl,_,rfl,_,l,12,rfl,thi.same s1,.inl ⟨e5,?_⟩⟩
   exact ⟨_,rfl,_,rfl,_,rfl,st,l,h,rfl,tst.same s1,.inr ⟨e6,λc eo H' rf=>k c eo H' (rf.of s1)⟩⟩
  |rain l h e1 e2 e3 e4 e5 e6 e7=>
   subst e2 e3
   rw [e1]
   refine Jnv ⟨_,rfl,_,0,12,rfl,tlo.same s1,.inl ⟨e4,?_⟩⟩
   refine ⟨_,rfl,_,rfl,_,l,12,rfl,thi.same s1,.inl ⟨e5,?_⟩⟩
   refine ⟨_,rfl,_,rfl,_,rfl,st,l,h,rfl,tst.same s1,.inl ⟨e6,?_⟩⟩
   exact ⟨_,rfl,rn,0,6,rfl,trn.same s1,.inr ⟨e7,λc eo H' rf=>k c eo H' (rf.of s1)⟩⟩
  |gate l h e1 e2 e3 e4 e5 e6 e7 e8=>
   subst e2 e3 e8
   obtain ⟨t,ty,g1,g2,g3⟩:=gt
   rw [e1]
   refine Jnv ⟨_,rfl,_,0,12,rfl,tlo.same s1,.inl ⟨e4,?_⟩⟩
   refine ⟨_,rfl,_,rfl,_,l,12,rfl,thi.same s1,.inl ⟨e5,?_⟩⟩
   refine ⟨_,rfl,_,rfl,_,rfl,st,l,h,rfl,tst.same s1,.inl ⟨e6,?_⟩⟩
   refine ⟨_,rfl,rn,0,6,rfl,trn.same s1,.inl ⟨e7,?_⟩⟩
   exact ⟨_,rfl,g,_,_,t,_,rfl,rfl,Jtv s1 ty,g1,_,rfl,Joc (Jon T.Jdr T.Jf9 rfl λe dx h1 h2 h3=>k _ _ _ ((RfC.new h1 h2 h3).of s1))⟩
  |good l h e1 e2 e3 e4 e5 e6 e7 e8=>
   subst e2 e3 e8
   obtain ⟨t,ty,g1,g2,g3⟩:=gt
   rw [e1]
   refine Jnv ⟨_,rfl,_,0,12,rfl,tlo.same s1,.inl ⟨e4,?_⟩⟩
   refine ⟨_,rfl,_,rfl,_,l,12,rfl,thi.same s1,.inl ⟨e5,?_⟩⟩
   refine ⟨_,rfl,_,rfl,_,rfl,st,l,h,rfl,tst.same s1,.inl ⟨e6,?_⟩⟩
   refine ⟨_,rfl,rn,0,6,rfl,trn.same s1,.inl ⟨e7,?_⟩⟩
   refine ⟨_,rfl,g,_,_,t,_,rfl,rfl,Jtv s1 ty,g1,_,rfl,Jnv ?_⟩
   refine ⟨_,rfl,_,rfl,p,_,dx,[],rfl,s1 _ _ hp,T.Jez,T.Jfu,by simp,?_⟩
   rw [show Joa "name" n []=([("name",n)]:List (Str×V)) from rfl]
   refine ⟨_,rfl,_,rfl,p,_,dx,_,rfl,Sr,T.Jez,T.Jfv,by simp,?_⟩
   rw [show Joa "low" (.int l) [("name",n)]=([("name",n),("low",(.int l))]:List (Str×V)) from Jnx (fs:=[("name",n)]) (show (["name"]:List Str).contains "low" =false by decide +kernel)]
   refine ⟨_,rfl,_,rfl,p,_,dx,_,rfl,Sr,T.Jez,T.Jfw,by simp,?_⟩
   rw [show Joa "high" (.int h) [("name",n),("low",.int l)]=([("name",n),("low",.int l),("high",(.int h))]:List (Str×V)) from Jnx (fs:=[("name",n),("low",.int l)]) (show (["name","low"]:List Str).contains "high" =false by decide +kernel)]
   refine ⟨_,rfl,_,rfl,p,_,dx,_,rfl,Sr,T.Jez,T.Jfx,by simp,?_⟩
   rw [show Joa "start" st [("name",n),("low",.int l),("high",.int h)]=([("name",n),("low",.int l),("high",.int h),("start",st)]:List (Str×V)) from Jnx (fs:=[("name",n),("low",.int l),("high",.int h)]) (show (["name","low","high"]:List Str).contains "start" =false by decide +kernel)]
   refine ⟨_,rfl,_,rfl,p,_,dx,_,rfl,Sr,T.Jez,T.Jfy,by simp,?_⟩
   rw [show Joa "rain" rn [("name",n),("low",.int l),("high",.int h),("start",st)]=([("name",n),("low",.int l),("high",.int h),("start",st),("rain",rn)]:List (Str×V)) from Jnx (fs:=[("name",n),("low",.int l),("high",.int h),("start",st)]) (show (["name","low","high","start"]:List Str).contains "rain" =false by decide +kernel)]
   refine ⟨_,rfl,_,rfl,p,_,dx,_,rfl,Sr,T.Jez,T.Jfz,by simp,?_⟩
   rw [show Joa "gate" g [("name",n),("low",.int l),("high",.int h),("start",st),("rain",rn)]=([("name",n),("low",.int l),("high",.int h),("start",st),("rain",rn),("gate",g)]:List (Str×V)) from Jnx (fs:=[("name",n),("low",.int l),("high",.int h),("start",st),("rain",rn)]) (show (["name","low","high","start","rain"]:List Str).contains "gate" =false by decide +kernel)]
   show Q .non _
   simp only [Jp1]
   exact k _ s1
theorem Juh:Jmy ["self","name","basin","want"] ["self","name","basin","want"] (Jmt (Jn2 (top 61) 0)):=⟨rfl,rfl,rfl,by decide +kernel,rfl,by decide +kernel,by decide +kernel⟩
theorem Jy1 (T:Tx K mg a):Ss P w K mg base (CXX P w) 4 a.Jju a.Jjv ["self","name","basin","want"] (So9 K a):=by
 have Sd4:=Jvz (P:=P) (w:=w) (base:=base) T
 have Sx:=Jo6 (P:=P) (w:=w) (base:=base) T
 have Sas:=Jrw (P:=P) (w:=w) (base:=base) T
 have Sdm:=Jvx (P:=P) (w:=w) (base:=base) T
 refine T.Jdn.fn.okX Juh (λvs H Q E h=>?_) (λcdv A outer s H vs Q E hr h=>?_)
 ·obtain ⟨p,dx,n,b,wt,d,rfl,_⟩:=h
  rfl
 ·obtain ⟨p,dx,n,b,wt,d,rfl,hp,nm,nb,tw,du,k⟩:=h
  refine ⟨?t,?B,?C⟩
  case B=>
   refine' Sw (Jng (Jnh (Jnf (Jmv T.J2 Sd4 hr (by decide) (Sk (pv 1) Sm)))) (Sy (Jns Jnu rfl (Job T.Jdq Sas hr (by decide) T.Jcr.bd T.Jb8 (Sk (pv 1) Sm)))) Jn6) ?_
   rotate_left
   refine' Sw (Jng (Jnh (Jnf (Jmv T.J2 Sd4 hr (by decide) (Sk (pv 2) Sm)))) (Sy (Jns Jnu rfl (Job T.Jdq Sas hr (by decide) T.Jcr.bd T.Jb8 (Sk (pv 2) Sm)))) Jn6) ?_
   rotate_left
   refine' Sw (Jng (Jnh (Jnf (Jmv T.J0 Sx hr (by decide) (Sk (pv 3) (Sk So (Sk (Jo5 (by rfl) T.Jao (v:=.int 6) ⟨_,rfl⟩) Sm)))))) (Sy (Jns Jnu rfl (Job T.Jdt Sdm hr (by decide) T.Jcu.bd T.Jbb (Sk (pv 3) Sm)))) Jn6) ?_
   rotate_left
   refine' Sw (Jny (pv 0) (pv 1) rfl) ?_
   rotate_left
   refine' Sw (Jny (pv 0) (pv 2) rfl) ?_
   rotate_left
   exact (Sy (Jny (pv 0) (pv 3) rfl))
  refine ⟨_,rfl,n,rfl,nm,λH1 s1=>⟨_,rfl,?_⟩⟩
  cases du with
  |name e=>
   rw [e]
   exact Joc (Jon T.Jdq T.Jf8 rfl λe dx h1 h2 h3=>k _ _ _ ((RfC.new h1 h2 h3).of s1))
  |basin e1 e2=>
   rw [e1]
   refine Jnv ⟨_,rfl,b,rfl,nb.same s1,λH2 s2=>⟨_,rfl,?_⟩⟩
   rw [e2]
   exact Joc (Jon T.Jdq T.Jf8 rfl λe dx h1 h2 h3=>k _ _ _ ((RfC.new h1 h2 h3).of (s1.trans s2)))
  |want e1 e2 e3=>
   rw [e1]
   refine Jnv ⟨_,rfl,b,rfl,nb.same s1,λH2 s2=>⟨_,rfl,?_⟩⟩
   rw [e2]
   refine Jnv ⟨_,rfl,wt,1,6,rfl,tw.same (s1.trans s2),_,rfl,?_⟩
   rw [e3]
   exact Joc (Jon T.Jdt T.Jfb rfl λe dx h1 h2 h3=>k _ _ _ ((RfC.new h1 h2 h3).of (s1.trans s2)))
  |good e1 e2 e3=>
   rw [e1]
   refine Jnv ⟨_,rfl,b,rfl,nb.same s1,λH2 s2=>⟨_,rfl,?_⟩⟩
   rw [e2]
   refine Jnv ⟨_,rfl,wt,1,6,rfl,tw.same (s1.trans s2),_,rfl,?_⟩
   rw [e3]
   refine Jnv ⟨_,rfl,_,rfl,p,_,dx,[],rfl,s2 _ _ (s1 _ _ hp),T.Jf2,T.Jg0,by simp,?_⟩
   rw [show Joa "name" n []=([("name",n)]:List (Str×V)) from rfl]
   refine ⟨_,rfl,_,rfl,p,_,dx,_,rfl,Sr,T.Jf2,T.Jg1,by simp,?_⟩
   rw [show Joa "basin" b [("name",n)]=([("name",n),("basin",b)]:List (Str×V)) from Jnx (fs:=[("name",n)]) (show (["name"]:List Str).contains "basin" =false by decide +kernel)]
   refine ⟨_,rfl,_,rfl,p,_,dx,_,rfl,Sr,T.Jf2,T.Jg2,by simp,?_⟩
   rw [show Joa "want" wt [("name",n),("basin",b)]=([("name",n),("basin",b),("want",wt)]:List (Str×V)) from Jnx (fs:=[("name",n),("basin",b)]) (show (["name","basin"]:List Str).contains "want" =false by decide +kernel)]
   show Q .non _
   simp only [Jp1]
   exact k _ (s1.trans s2)
theorem ifF {b:Bool} {A B:Prop} (h:b=false) (k:B):if b=true then A else B:=by rw [h];exact Jnv k
theorem ifT {b:Bool} {A B:Prop} (h:b=true) (k:A):if b=true then A else B:=by rw [h];exact Joc k
theorem Jws:Jmy ["names"] ["names"] (Jmt (top 62)):=⟨rfl,rfl,rfl,by decide +kernel,rfl,by decide +kernel,by decide +kernel⟩
theorem Jsp (T:Tx K mg a):Ss P w K mg base CX0 1 a.Jjw a.Jjx ["names"] (Ydw K):=by
 refine T.Jn.fn.ok Jws (λvs H Q E h=>?_) (λcdv A outer s H vs Q E hr h=>?_)
 ·obtain ⟨l,zs,rfl,_⟩:=h
  rfl
 ·obtain ⟨l,zs,rfl,hq,hz,k⟩:=h
  refine ⟨_,(Sy (Jn0 (Joi Jqz (Jmx Jvl (by rfl) T.Jay Jnz (Sk (Jnd (Jvm rfl) (by rfl) T.Jb3 Smr (Sk (pv 0) Sm)) Sm)) (Jmx Jn8 (by rfl) T.Jay Jnz (Sk (pv 0) Sm)) (Jni _)))),?_⟩
  refine ⟨_,rfl,l,zs,rfl,hq,hz,λt ht=>⟨t,zs,rfl,Sr,?_⟩⟩
  have s1:=Sj.upd (o:=TxS P w t zs) ht
  refine ⟨_,rfl,l,_,rfl,.inl (s1.seq hq),rfl,?_⟩
  have e:decide (V.int ((uq zs).length:Nat)=V.int ((zs.map V.str).length:Nat))=decide ((uq zs).length=zs.length):=by
   rw [yf]
   by_cases h:(uq zs).length=zs.length
   ·rw [decide_eq_true h,decide_eq_true (by rw [h])]
   ·rw [decide_eq_false h,decide_eq_false (λq=>h (by have:=V.int.inj q;omega))]
  rw [e]
  exact k _ s1
theorem Jwr:Jmy ["thing"] ["thing"] (Jmt (top 63)):=⟨rfl,rfl,rfl,by decide +kernel,rfl,by decide +kernel,by decide +kernel⟩
theorem Jwj (T:Tx K mg a):Ss P w K mg base CX0 2 a.Jjy a.Jjz ["thing"] (Ydi K a):=by
 have Scn:=Jsp (P:=P) (w:=w) (base:=base) T
 refine T.Jo.fn.ok Jwr (λvs H Q E h=>?_) (λcdv A outer s H vs Q E hr h=>?_)
 ·obtain ⟨l,os,Bs,rfl,_⟩:=h
  rfl
 ·obtain ⟨l,os,Bs,rfl,hl,bl,hn,nd,k⟩:=h
  have len:=bl.len
  refine ⟨?t,?B,?C⟩
  case B=>
   refine' Sw ?O0 ?O1
   case O0=>
    refine' Jng ?O2 ?O3 ?O4
    case O2=>exact (PW.pt (Jri (Jnh (Jnf (Jmx Jvk (by rfl) T.Jax Jnb (Sk (pv 0) (Sk (Jo8 (Sk (Joh (v:=.ty "list") (by rfl) T.Jaz Jq1 rfl) (Sk (Joh (v:=.ty "tuple") (by rfl) T.Jb6 Jnq rfl) Sm))) Sm))))) (Jqf (Jnh (Jw6 Jrg Jrg So (Jmx Jn8 (by rfl) T.Jay Jnz (Sk (pv 0) Sm)) (Jo5 (by rfl) T.Jaq (v:=.int 16) ⟨_,rfl⟩))))))
    case O3=>
     refine' Sy ?O5
     case O5=>exact (Jn0 Jov)
    case O4=>exact Jn6
   case O1=>
   refine' Sw ?O6 ?O7
   case O6=>
    refine' Jng ?O8 ?O9 ?Oa
    case O8=>exact (Jnh (Jnf (Jmx (Jqt rfl) (by rfl) T.Jas Ju3 (Sk (Jnm (N:=(["basin"]:List Str)) (ini:=[none]) rfl (Jo1 (pv 0)) (λ_ _ _ _ _=>(Jmz (i:=0) (by decide +kernel:(["basin"]:List Str).Nodup) rfl (ye rfl))) (λ_ _ _ _ _=>Jnk) (λ_ _ _ _ _=>(Jmx (Jx7 (K:=K) rfl) (by rfl) T.Jax Jnb (Sk (pv 0) (Sk (Jo5 (by rfl) T.Jbp (v:=.ref _) rfl) Sm))))) Sm))))
    case O9=>
     refine' Sy ?Ob
     case Ob=>exact (Jn0 Jov)
    case Oa=>exact Jn6
   case O7=>
   refine' Sy ?Oc
   case Oc=>exact (Jn0 (Jmv T.Jn Scn hr (by decide) (Sk (Jnm (N:=(["basin"]:List Str)) (ini:=[none]) rfl (Jo1 (pv 0)) (λ_ _ _ _ _=>(Jmz (i:=0) (by decide +kernel:(["basin"]:List Str).Nodup) rfl (ye rfl))) (λ_ _ _ _ _=>Jnk) (λ_ _ _ _ _=>(Joj (K:=K) rfl (pv 0) (by rfl)))) Sm)))
  refine ⟨_,rfl,(show 2<=S6 by decide),λp hp=>⟨_,p,_,_,.type "list",true,rfl,Sr,rfl,.of (.lst (Sj.upd hp _ _ hl)),rfl,_,rfl,Jnv ?_⟩⟩
  have s1:=Sj.upd (o:=.tup [.ty "list",.ty "tuple"]) hp
  refine ⟨_,rfl,l,_,rfl,.inl (Sv.of (s1 _ _ hl)),_,_,rfl,rfl,_,rfl,ifT (by rw [yf];simp;omega) ⟨_,_,rfl,rfl,_,rfl,ifF (by rw [yf];simp;omega) ?_⟩⟩
  refine ⟨_,rfl,l,rfl,⟨_,Sv.of (s1 _ _ hl)⟩,λD hD=>?_⟩
  refine Jok (K:=K) (a:=l) (xs:=os.map V.ref) (D:=D) (λi σ H'=>∃o,σ= [o]/\H' D=some (.lst ((yaa i true).map V.bl))/\Sj (upd H p (.tup [.ty "list",.ty "tuple"])) H') ⟨_,rfl,Sr,Sj.upd hD⟩ (λi σ H' _ ⟨o,_,_,sm⟩=>Sv.of (sm _ _ (s1 _ _ hl))) ?_ ?_
  ·rintro i v σ H' hv ⟨o,rfl,hDs,sm⟩
   obtain ⟨ob,B,rfl,hB,dx,hb,gs⟩:=(bl.same (s1.trans sm)).get hv
   have hi:i < os.length:=by have:=(yj.mp hv).1;rwa [yf] at this
   refine Jo9 ⟨_,rfl,_,_,_,_,true,rfl,rfl,.of (T.Jf0.ty T.Jez hb),T.Jgf,_,hDs,?_,_,rfl,?_,λc o z=>?_⟩
   ·rw [yf,ybo]
    exact Jno (by omega)
   ·rw [Sr,List.replicate_succ',yab]
    rfl
   ·rw [Sz (Jmw z hD)]
    exact sm _ _ z
  rintro σ H1 ⟨o,rfl,hDs,sm⟩
  refine ⟨D,_,rfl,Sv.of hDs,_,rfl,ifF (by simp) ?_⟩
  have s2:=s1.trans sm
  refine ⟨_,rfl,l,rfl,⟨_,Sv.of (s2 _ _ hl)⟩,λD2 hD2=>?_⟩
  refine Jok (K:=K) (a:=l) (xs:=os.map V.ref) (D:=D2) (λi σ H'=>∃o,σ= [o]/\H' D2=some (.lst (((Bs.take i).map (·.z)).map V.str))/\Sj H1 H') ⟨_,rfl,Sr,Sj.upd hD2⟩ (λi σ H' _ ⟨o,_,_,sm⟩=>Sv.of (sm _ _ (s2 _ _ hl))) ?_ ?_
  ·rintro i v σ H' hv ⟨o,rfl,hDs,sm3⟩
   obtain ⟨ob,B,rfl,hB,dx,hb,gs⟩:=(bl.same (s2.trans sm3)).get hv
   refine Jo9 ⟨_,rfl,ob,_,dx,_,_,rfl,hb,T.Jez,T.Jfu,rfl,_,hDs,?_,_,rfl,?_,λc o z=>?_⟩
   ·rw [yf,yf,yy]
    exact Jno (by omega)
   ·rw [Sr,yag,hB]
    simp
   ·rw [Sz (Jmw z hD2)]
    exact sm3 _ _ z
  rintro σ H2 ⟨o,rfl,hDs,sm3⟩
  rw [yf,yac (by omega)] at hDs
  refine ⟨D2,Bs.map (·.z),rfl,Sv.of hDs,by rw [yf];omega,λH3 s3=>?_⟩
  rw [Y7 nd,decide_eq_true rfl]
  exact k _ ((s2.trans sm3).trans s3)
theorem Sdr:Jmy ["thing","basins","names"] ["thing","basins"] (Jmt (top 64)):=⟨rfl,rfl,rfl,by decide +kernel,rfl,by decide +kernel,by decide +kernel⟩
theorem Jy4 (T:Tx K mg a):Ss P w K mg base CX0 2 a.Jk0 a.Jk1 ["thing","basins"] (Yfq K a):=by
 have Scn:=Jsp (P:=P) (w:=w) (base:=base) T
 refine T.Jp.fn.ok Sdr (λvs H Q E h=>?_) (λcdv A outer s H vs Q E hr h=>?_)
 ·obtain ⟨l,m,os,ts,Bs,Ts,rfl,_⟩:=h
  rfl
 ·obtain ⟨l,m,os,ts,Bs,Ts,rfl,hl,bl,hn,hm,tl,tn,nd,inn,k⟩:=h
  have len:=bl.len
  have tlen:=tl.len
  refine ⟨?t,?B,?C⟩
  case B=>
   refine' Sw ?O0 ?O1
   case O0=>
    refine' Jng ?O2 ?O3 ?O4
    case O2=>exact (PW.pt (Jri (Jnh (Jnf (Jmx Jvk (by rfl) T.Jax Jnb (Sk (pv 0) (Sk (Jo8 (Sk (Joh (v:=.ty "list") (by rfl) T.Jaz Jq1 rfl) (Sk (Joh (v:=.ty "tuple") (by rfl) T.Jb6 Jnq rfl) Sm))) Sm))))) (Jqf (Jnp Jrf (Jmx Jn8 (by rfl) T.Jay Jnz (Sk (pv 0) Sm)) (Jo5 (by rfl) T.Jar (v:=.int 3) ⟨_,rfl⟩) (Jni _)))))
    case O3=>
     refine' Sy ?O5
     case O5=>exact (Jn0 Jov)
    case O4=>exact Jn6
   case O1=>
   refine' Sw ?O6 ?O7
   case O6=>
    refine' Jng ?O8 ?O9 ?Oa
    case O8=>exact (Jnh (Jnf (Jmx (Jqt rfl) (by rfl) T.Jas Ju3 (Sk (Jnm (N:=(["town"]:List Str)) (ini:=[none]) rfl (Jo1 (pv 0)) (λ_ _ _ _ _=>(Jmz (i:=0) (by decide +kernel:(["town"]:List Str).Nodup) rfl (ye rfl))) (λ_ _ _ _ _=>Jnk) (λ_ _ _ _ _=>(Jmx (Jx7 (K:=K) rfl) (by rfl) T.Jax Jnb (Sk (pv 0) (Sk (Jo5 (by rfl) T.Jbq (v:=.ref _) rfl) Sm))))) Sm))))
    case O9=>
     refine' Sy ?Ob
     case Ob=>exact (Jn0 Jov)
    case Oa=>exact Jn6
   case O7=>
   refine' Sw ?Oc ?Od
   case Oc=>exact (Jn3 (i:=2) Sdr.nd rfl (Or.inr rfl) (Jnm (N:=(["basin"]:List Str)) (ini:=[none]) rfl (Jo1 (pv 1)) (λ_ _ _ _ _=>(Jmz (i:=0) (by decide +kernel:(["basin"]:List Str).Nodup) rfl (ye rfl))) (λ_ _ _ _ _=>Jnk) (λ_ _ _ _ _=>(Joj (K:=K) rfl (pv 0) (by rfl)))))
   case Od=>
   refine' Sy ?Oe
   case Oe=>exact (Jn0 (Jye (Jmv T.Jn Scn hr (by decide) (Sk (Jnm (N:=(["town"]:List Str)) (ini:=[none]) rfl (Jo1 (pv 0)) (λ_ _ _ _ _=>(Jmz (i:=0) (by decide +kernel:(["town"]:List Str).Nodup) rfl (ye rfl))) (λ_ _ _ _ _=>Jnk) (λ_ _ _ _ _=>(Joj (K:=K) rfl (pv 0) (by rfl)))) Sm)) (Jyf (Jmx (Jqt rfl) (by rfl) T.Jas Ju3 (Sk (Jnm (N:=(["town","names"]:List Str)) (ini:=[none,some 2]) rfl (Jo1 (pv 0)) (λ_ _ _ _ _=>(Jmz (i:=0) (by decide +kernel:(["town","names"]:List Str).Nodup) rfl (ye rfl))) (λ_ _ _ _ _=>Jnk) (λ_ _ _ _ _=>(Joi (Yr (K:=K) rfl) (Joj (K:=K) rfl (pv 0) (by rfl)) (pv 1) (by with_unfolding_all rfl)))) Sm)))))
  refine ⟨_,rfl,(show 2<=S6 by decide),λp hp=>⟨_,p,_,_,.type "list",true,rfl,Sr,rfl,.of (.lst (Sj.upd hp _ _ hm)),rfl,_,rfl,Jnv ?_⟩⟩
  have s1:=Sj.upd (o:=.tup [.ty "list",.ty "tuple"]) hp
  refine ⟨_,rfl,m,_,rfl,.inl (Sv.of (s1 _ _ hm)),_,_,rfl,rfl,_,rfl,ifF (by rw [yf];simp;omega) ?_⟩
  refine ⟨_,rfl,m,rfl,⟨_,Sv.of (s1 _ _ hm)⟩,λD hD=>?_⟩
  refine Jok (K:=K) (a:=m) (xs:=ts.map V.ref) (D:=D) (λi σ H'=>∃o,σ= [o]/\H' D=some (.lst ((yaa i true).map V.bl))/\Sj (upd H p (.tup [.ty "list",.ty "tuple"])) H') ⟨_,rfl,Sr,Sj.upd hD⟩ (λi σ H' _ ⟨o,_,_,sm⟩=>Sv.of (sm _ _ (s1 _ _ hm))) ?_ ?_
  ·rintro i v σ H' hv ⟨o,rfl,hDs,sm⟩
   obtain ⟨ob,B,rfl,hB,dx,hb⟩:=(tl.same (s1.trans sm)).get hv
   have hi:i < ts.length:=by have:=(yj.mp hv).1;rwa [yf] at this
   refine Jo9 ⟨_,rfl,_,_,_,_,true,rfl,rfl,.of (T.Jf3.ty T.Jf2 hb),T.Jgg,_,hDs,?_,_,rfl,?_,λc o z=>?_⟩
   ·rw [yf,ybo]
    exact Jno (by omega)
   ·rw [Sr,List.replicate_succ',yab]
    rfl
   ·rw [Sz (Jmw z hD)]
    exact sm _ _ z
  rintro σ H1 ⟨o,rfl,hDs,sm⟩
  refine ⟨D,_,rfl,Sv.of hDs,_,rfl,ifF (by simp) ?_⟩
  have s2:=s1.trans sm
  refine ⟨_,rfl,l,rfl,⟨_,Sv.of (s2 _ _ hl)⟩,λD2 hD2=>?_⟩
  refine Jok (K:=K) (a:=l) (xs:=os.map V.ref) (D:=D2) (λi σ H'=>∃o,σ= [o]/\H' D2=some (.lst (((Bs.take i).map (·.z)).map V.str))/\Sj H1 H') ⟨_,rfl,Sr,Sj.upd hD2⟩ (λi σ H' _ ⟨o,_,_,sm⟩=>Sv.of (sm _ _ (s2 _ _ hl))) ?_ ?_
  ·rintro i v σ H' hv ⟨o,rfl,hDs,sm3⟩
   obtain ⟨ob,B,rfl,hB,dx,hb,gs⟩:=(bl.same (s2.trans sm3)).get hv
   refine Jo9 ⟨_,rfl,ob,_,dx,_,_,rfl,hb,T.Jez,T.Jfu,rfl,_,hDs,?_,_,rfl,?_,λc o z=>?_⟩
   ·rw [yf,yf,yy]
    exact Jno (by omega)
   ·rw [Sr,yag,hB]
    simp
   ·rw [Sz (Jmw z hD2)]
    exact sm3 _ _ z
  rintro σ H2 ⟨o,rfl,hD2s,sm3⟩
  rw [yf,yac (by omega)] at hD2s
  have s3:=s2.trans sm3
  refine ⟨_,rfl,m,rfl,⟨_,Sv.of (s3 _ _ hm)⟩,λD3 hD3=>?_⟩
  refine Jok (K:=K) (a:=m) (xs:=ts.map V.ref) (D:=D3) (λi σ H'=>∃o,σ= [o]/\H' D3=some (.lst (((Ts.take i).map (·.z)).map V.str))/\Sj H2 H') ⟨_,rfl,Sr,Sj.upd hD3⟩ (λi σ H' _ ⟨o,_,_,sm⟩=>Sv.of (sm _ _ (s3 _ _ hm))) ?_ ?_
  ·rintro i v σ H' hv ⟨o,rfl,hDs,sm4⟩
   obtain ⟨ob,B,rfl,hB,dx,hb⟩:=(tl.same (s3.trans sm4)).get hv
   refine Jo9 ⟨_,rfl,ob,_,dx,_,_,rfl,hb,T.Jf2,T.Jg0,rfl,_,hDs,?_,_,rfl,?_,λc o z=>?_⟩
   ·rw [yf,yf,yy]
    exact Jno (by omega)
   ·rw [Sr,yag,hB]
    simp
   ·rw [Sz (Jmw z hD3)]
    exact sm4 _ _ z
  rintro σ H3 ⟨o,rfl,hD3s,sm4⟩
  rw [yf,yac (by omega)] at hD3s
  refine ⟨D3,Ts.map (·.z),rfl,Sv.of hD3s,by rw [yf];omega,λH4 s4=>⟨_,rfl,ifT (by rw [Y7 nd,decide_eq_true rfl]) ?_⟩⟩
  have s5:=(s3.trans sm4).trans s4
  have hD24:=s4 _ _ (sm4 _ _ hD2s)
  refine ⟨_,rfl,m,rfl,⟨_,Sv.of (s5 _ _ hm)⟩,λD4 hD4=>?_⟩
  refine Jok (K:=K) (a:=m) (xs:=ts.map V.ref) (D:=D4) (λi σ H'=>∃o,σ= [o,some (.ref D2)]/\H' D4=some (.lst ((yaa i true).map V.bl))/\Sj H4 H') ⟨_,rfl,Sr,Sj.upd hD4⟩ (λi σ H' _ ⟨o,_,_,sm⟩=>Sv.of (sm _ _ (s5 _ _ hm))) ?_ ?_
  ·rintro i v σ H' hv ⟨o,rfl,hDs,sm6⟩
   obtain ⟨ob,B,rfl,hB,dx,hb⟩:=(tl.same (s5.trans sm6)).get hv
   have hi:i < ts.length:=by have:=(yj.mp hv).1;rwa [yf] at this
   refine Jo9 ⟨_,rfl,ob,_,dx,_,_,rfl,hb,T.Jf2,T.Jg1,rfl,_,rfl,D2,_,rfl,.inl (Sv.of (sm6 _ _ hD24)),rfl,by simp [Jrc],?_⟩
   have e:inV (V.str B.b) ((Bs.map (·.z)).map V.str)=true:=by
    obtain ⟨z,hz,ez⟩:=yaf.mp (inn B (yp hB))
    unfold inV
    refine List.any_eq_true.mpr ⟨V.str z.z,yaf.mpr ⟨z.z,yaf.mpr ⟨z,hz,rfl⟩,rfl⟩,?_⟩
    simp [eqV,ez]
   show ∃ys,_
   rw [if_neg yaj,e]
   refine ⟨_,hDs,?_,_,rfl,?_,λc o z=>?_⟩
   ·rw [yf,ybo]
    exact Jno (by omega)
   ·rw [Sr,List.replicate_succ',yab]
    rfl
   ·rw [Sz (Jmw z hD4)]
    exact sm6 _ _ z
  rintro σ H5 ⟨o,rfl,hD4s,sm6⟩
  refine ⟨D4,_,rfl,Sv.of hD4s,?_⟩
  rw [show (yaa (ts.map V.ref).length true).all id=true by simp]
  exact k _ (s5.trans sm6)
theorem Jsi:Jmy ["self","thing"] ["self","thing"] (Jmt (Jn2 (top 6) 0)):=⟨rfl,rfl,rfl,by decide +kernel,rfl,by decide +kernel,by decide +kernel⟩
theorem Jv4 (T:Tx K mg a):Ss P w K mg base CX0 1 a.Jh0 a.Jh1 ["self","thing"] (Jpx K "thing"):=by
 refine T.Jcv.fn.ok Jsi (λvs H Q E h=>?_) (λcdv A outer s H vs Q E hr h=>?_)
 ·obtain ⟨e,C,W,fI,y,rfl,_⟩:=h
  rfl
 ·obtain ⟨e,C,W,fI,y,rfl,q,c,n,k⟩:=h
  refine ⟨_,(Sy (Jpu (pv 0) (pv 1) rfl)),?_⟩
  exact ⟨_,rfl,_,rfl,e,C,W,fI,true,rfl,q,c,n,k⟩
theorem Jsj:Jmy ["self","thing"] ["self","thing"] (Jmt (Jn2 (top 7) 0)):=⟨rfl,rfl,rfl,by decide +kernel,rfl,by decide +kernel,by decide +kernel⟩
theorem Jv5 (T:Tx K mg a):Ss P w K mg base CX0 1 a.Jh2 a.Jh3 ["self","thing"] (Jpx K "thing"):=by
 refine T.Jcw.fn.ok Jsj (λvs H Q E h=>?_) (λcdv A outer s H vs Q E hr h=>?_)
 ·obtain ⟨e,C,W,fI,y,rfl,_⟩:=h
  rfl
 ·obtain ⟨e,C,W,fI,y,rfl,q,c,n,k⟩:=h
  refine ⟨_,(Sy (Jpu (pv 0) (pv 1) rfl)),?_⟩
  exact ⟨_,rfl,_,rfl,e,C,W,fI,true,rfl,q,c,n,k⟩
theorem Y6 {H:Hp} {p q:S1} {o u:HO} (h:p≠q):upd (upd H p o) q u=upd (upd H q u) p o:=by
 funext c
 by_cases h1:c=p
 ·subst h1
  rw [Sr,Sz h,Sr]
 ·rw [Sz h1]
  by_cases h2:c=q
  ·subst h2
   rw [Sr,Sr]
  ·rw [Sz h2,Sz h2,Sz h1]
def Sky (c g b t:V):List (Str×V):=[("cloud",c),("gain",g),("basins",b),("towns",t)]
inductive Yfm (K:Se) (a:Ad) (vs:List V) (H:Hp) (Q:VK) (z3:XK):Prop where
 |mk (p dx l m:S1) (c g:Int) (os ts:List S1) (Bs:List Bsn) (Ts:List Twn) (_:vs= [.ref p,.int c,.int g,.ref l,.ref m]) (_:H p=some (.ins a.Jmi dx [])) (_:(0<=c/\c<=12)) (_:(0<=g/\g<=c)) (_:H l=some (.lst (os.map V.ref))) (_:Scc K a H os Bs) (_:(1<=Bs.length/\Bs.length<=16)) (_:(Bs.map (·.z)).Nodup) (_:H m=some (.lst (ts.map V.ref))) (_:Sc4 a H ts Ts) (_:Ts.length<=3) (_:(Ts.map (·.z)).Nodup) (_:(∀t∈Ts,t.b∈Bs.map (·.z))) (_:∀H' b t,Sj H H'->H' b=some (.tup (os.map V.ref))->H' t=some (.tup (ts.map V.ref))->b≠p->t≠p->Q .non (upd H' p (.ins a.Jmi dx (Sky (.int c) (.int g) (.ref b) (.ref t)))))
theorem Jqh {i lo hi:Int} (h1:lo<=i) (h2:i<=hi):Jnc (.int i) lo hi=true:=by
 show (decide (lo<=i)&&decide (i<=hi))=true
 rw [decide_eq_true h1,decide_eq_true h2]
 rfl
theorem Jtp:Jmy ["self","cloud","gain","basins","towns"] ["self","cloud","gain","basins","towns"] (Jmt (Jn2 (top 65) 0)):=⟨rfl,rfl,rfl,by decide +kernel,rfl,by decide +kernel,by decide +kernel⟩
theorem Jwh (T:Tx K mg a):Ss P w K mg base (CXX P w) 4 a.Jk2 a.Jk3 ["self","cloud","gain","basins","towns"] (Yfm K a):=by
 have Sx:=Jo6 (P:=P) (w:=w) (base:=base) T
 have Sfz:=Jwj (P:=P) (w:=w) (base:=base) T
 have Sgn:=Jy4 (P:=P) (w:=w) (base:=base) T
 have Sc0:=Jv4 (P:=P) (w:=w) (base:=base) T
 have Sc1:=Jv5 (P:=P) (w:=w) (base:=base) T
 refine T.Jdo.fn.okX Jtp (λvs H Q E h=>?_) (λcdv A outer s H vs Q E hr h=>?_)
 ·obtain ⟨p,dx,l,m,c,g,os,ts,Bs,Ts,rfl,_⟩:=h
  rfl
 ·obtain ⟨p,dx,l,m,c,g,os,ts,Bs,Ts,rfl,hp,hc,hg,hl,bl,hn,nd,hm,tl,tn,tnd,inn,k⟩:=h
  refine ⟨?t,?B,?C⟩
  case B=>
   refine' Sw ?O0 ?O1
   case O0=>
    refine' Jng ?O2 ?O3 ?O4
    case O2=>exact (Jnh (Jnf (Jmv T.J0 Sx hr (by decide) (Sk (pv 1) (Sk So (Sk (Jo5 (by rfl) T.Jap (v:=.int 12) ⟨_,rfl⟩) Sm))))))
    case O3=>
     refine' Sy ?O5
     case O5=>exact (Jns Jnu rfl (Job T.Jdu Sc0 hr (by decide) T.Jcv.bd T.Jbc (Sk (pv 1) Sm)))
    case O4=>exact Jn6
   case O1=>
   refine' Sw ?O6 ?O7
   case O6=>
    refine' Jng ?O8 ?O9 ?Oa
    case O8=>exact (Jnh (Jnf (Jmv T.J0 Sx hr (by decide) (Sk (pv 2) (Sk So (Sk (pv 1) Sm))))))
    case O9=>
     refine' Sy ?Ob
     case Ob=>exact (Jns Jnu rfl (Job T.Jdu Sc0 hr (by decide) T.Jcv.bd T.Jbc (Sk (pv 2) Sm)))
    case Oa=>exact Jn6
   case O7=>
   refine' Sw ?Oc ?Od
   case Oc=>
    refine' Jng ?Oe ?Of ?Og
    case Oe=>exact (Jnh (Jnf (Jmv T.Jo Sfz hr (by decide) (Sk (pv 3) Sm))))
    case Of=>
     refine' Sy ?Oh
     case Oh=>exact (Jns Jnu rfl (Job T.Jdv Sc1 hr (by decide) T.Jcw.bd T.Jbd (Sk (pv 3) Sm)))
    case Og=>exact Jn6
   case Od=>
   refine' Sw ?Oi ?Oj
   case Oi=>
    refine' Jng ?Ok ?Ol ?Om
    case Ok=>exact (Jnh (Jnf (Jmv T.Jp Sgn hr (by decide) (Sk (pv 4) (Sk (pv 3) Sm)))))
    case Ol=>
     refine' Sy ?On
     case On=>exact (Jns Jnu rfl (Job T.Jdv Sc1 hr (by decide) T.Jcw.bd T.Jbd (Sk (pv 4) Sm)))
    case Om=>exact Jn6
   case Oj=>
   refine' Sw ?Oo ?Op
   case Oo=>exact (Jny (pv 0) (pv 1) rfl)
   case Op=>
   refine' Sw ?Oq ?Or
   case Oq=>exact (Jny (pv 0) (pv 2) rfl)
   case Or=>
   refine' Sw ?Os ?Ot
   case Os=>exact (Jny (pv 0) (Jnd Jnl (by rfl) T.Jb6 Jnq (Sk (pv 3) Sm)) rfl)
   case Ot=>
   refine' Sy ?Ou
   case Ou=>exact (Jny (pv 0) (Jnd Jnl (by rfl) T.Jb6 Jnq (Sk (pv 4) Sm)) rfl)
  refine ⟨_,rfl,_,0,12,rfl,.inl ⟨_,rfl⟩,_,rfl,ifF (by rw [Jqh hc.1 hc.2];rfl) ?_⟩
  refine ⟨_,rfl,_,rfl,_,0,c,rfl,.inl ⟨_,rfl⟩,_,rfl,ifF (by rw [Jqh hg.1 hg.2];rfl) ?_⟩
  refine ⟨_,rfl,l,os,Bs,rfl,hl,bl,hn,nd,λH1 s1=>⟨_,rfl,Jnv ?_⟩⟩
  refine ⟨_,rfl,_,rfl,l,m,os,ts,Bs,Ts,rfl,s1 _ _ hl,bl.same s1,hn.2,s1 _ _ hm,tl.same s1,tn,tnd,inn,λH2 s2=>⟨_,rfl,Jnv ?_⟩⟩
  have s3:=s1.trans s2
  have hp2:=s3 _ _ hp
  refine ⟨_,rfl,_,rfl,p,_,dx,[],rfl,hp2,T.Jf5,T.Jg3,by simp,?_⟩
  rw [show Joa "cloud" (.int c) []=([("cloud",.int c)]:List (Str×V)) from rfl]
  refine ⟨_,rfl,_,rfl,p,_,dx,_,rfl,Sr,T.Jf5,T.Jg4,by simp,?_⟩
  rw [show Joa "gain" (.int g) [("cloud",.int c)]=([("cloud",.int c),("gain",.int g)]:List (Str×V)) from Jnx (fs:=[("cloud",.int c)]) (show (["cloud"]:List Str).contains "gain" =false by decide +kernel),Jp1]
  have nl:l≠p:=λe=>by subst e;rw [hl] at hp;cases hp
  have nm:m≠p:=λe=>by subst e;rw [hm] at hp;cases hp
  refine ⟨_,rfl,l,_,rfl,.inl ⟨Sv.of (by rw [Sz nl];exact s3 _ _ hl),λb hb=>?_⟩⟩
  have nb:b≠p:=λe=>by subst e;rw [Sr] at hb;cases hb
  rw [Sz nb] at hb
  rw [Y6 nb.symm]
  refine ⟨_,rfl,p,_,dx,_,rfl,Sr,T.Jf5,T.Jg5,by simp,?_⟩
  rw [show Joa "basins" (.ref b) [("cloud",.int c),("gain",.int g)]=([("cloud",.int c),("gain",.int g),("basins",.ref b)]:List (Str×V)) from Jnx (fs:=[("cloud",.int c),("gain",.int g)]) (show (["cloud","gain"]:List Str).contains "basins" =false by decide +kernel),Jp1]
  have s4:=s3.trans (Sj.upd (o:=.tup (os.map V.ref)) hb)
  refine ⟨_,rfl,m,_,rfl,.inl ⟨Sv.of (by rw [Sz nm];exact s4 _ _ hm),λt ht=>?_⟩⟩
  have nt:t≠p:=λe=>by subst e;rw [Sr] at ht;cases ht
  rw [Sz nt] at ht
  rw [Y6 nt.symm]
  refine ⟨_,rfl,p,_,dx,_,rfl,Sr,T.Jf5,T.Jg6,by simp,?_⟩
  rw [show Joa "towns" (.ref t) [("cloud",.int c),("gain",.int g),("basins",.ref b)]=(Sky (.int c) (.int g) (.ref b) (.ref t)) from Jnx (fs:=[("cloud",.int c),("gain",.int g),("basins",.ref b)]) (show (["cloud","gain","basins"]:List Str).contains "towns" =false by decide +kernel),Jp1]
  have s5:=Sj.upd (o:=.tup (ts.map V.ref)) ht
  exact k _ b t (s4.trans s5) (s5 _ _ Sr) Sr nb nt
def wl:List V->List Int->List Int->List Bool
 |v::vs,l::ls,h::hs=>Jnc v l h::wl vs ls hs
 |_,_,_=>[]
theorem Ye7:∀{vs:List V} {ls hs:List Int},vs.length=ls.length->ls.length=hs.length->(wl vs ls hs).length=vs.length
 | [],_,_,_,_=>rfl
 |_::_,[],_,e,_=>by simp at e
 |_::_,_::_,[],_,e=>by simp at e
 |_::vs,_::ls,_::hs,e1,e2=>by
  show (wl vs ls hs).length+1=vs.length+1
  rw [Ye7 (by simpa using e1) (by simpa using e2)]
theorem Ye6:∀{vs:List V} {ls hs:List Int} {i:Nat} {v x y:V},vs[i]?=some v->(ls.map V.int)[i]?=some x->(hs.map V.int)[i]?=some y->∃l h,x= .int l/\y= .int h/\(wl vs ls hs)[i]?=some (Jnc v l h)
 |_::_,l::_,h::_,0,v,x,y,e1,e2,e3=>⟨l,h,by simpa using e2.symm,by simpa using e3.symm,by cases e1;rfl⟩
 |_::vs,_::ls,_::hs,i+1,v,x,y,e1,e2,e3=>by
  obtain ⟨l,h,a1,a2,a3⟩:=Ye6 (vs:=vs) (ls:=ls) (hs:=hs) (i:=i) (v:=v) (x:=x) (y:=y) (by simpa using e1) (by simpa using e2) (by simpa using e3)
  exact ⟨l,h,a1,a2,a3⟩
 | [],_,_,_,_,_,_,e,_,_=>by simp at e
 |_::_,[],_,_,_,_,_,_,e,_=>by simp at e
 |_::_,_::_,[],_,_,_,_,_,_,e=>by simp at e
def Sff (K:Se) (H:Hp) (x:V):Option (List V)->Prop
 |some vs=>∃p,x= .ref p/\H p=some (.tup vs)/\(∀v∈vs,Tm K H v)/\vs.length<=40
 |none=>∃t,TyX K H x t/\Sf K t (.type "tuple")=some false
theorem Sff.same {K:Se} {H H':Hp} {x:V} (s:Sj H H'):∀{r:Option (List V)},Sff K H x r->Sff K H' x r
 |some _,⟨p,e,h1,h2,h3⟩=>⟨p,e,s _ _ h1,λv hv=>(h2 v hv).same s,h3⟩
 |none,⟨t,h1,h2⟩=>⟨t,Jtv s h1,h2⟩
def Jq4:Option (List V)->List Int->List Int->Bool
 |some vs,ls,hs=>decide (vs.length=ls.length)&&(wl vs ls hs).all id
 |none,_,_=>false
inductive Srj (K:Se) (vs:List V) (H:Hp) (Q:VK) (z3:XK):Prop where
 |mk (x:V) (r:Option (List V)) (l m:S1) (ls hs:List Int) (_:vs= [x,.ref l,.ref m]) (_:Sff K H x r) (_:H l=some (.lst (ls.map V.int))) (_:H m=some (.lst (hs.map V.int))) (_:ls.length=hs.length) (_:ls.length<=40) (_:∀H',Sj H H'->Q (.bl (Jq4 r ls hs)) H')
inductive Yfn (K:Se) (vs:List V) (H:Hp) (Q:VK) (z3:XK):Prop where
 |mk (x:V) (r:Option (List V)) (m:S1) (hs:List Int) (_:vs= [x,.ref m]) (_:Sff K H x r) (_:H m=some (.lst (hs.map V.int))) (_:hs.length<=40) (_:∀H',Sj H H'->Q (.bl (Jq4 r (yaa hs.length 0) hs)) H')
def Yas:Option (List V)->Bool
 |some vs=>decide (vs.length=2)
 |none=>false
inductive So1 (K:Se) (vs:List V) (H:Hp) (Q:VK) (z3:XK):Prop where
 |mk (x:V) (r:Option (List V)) (_:vs= [x]) (_:(match r with|some vs=>∃p,x= .ref p/\H p=some (.tup vs)|none=>∃t,TyX K H x t/\Sf K t (.type "tuple")=some false)) (_:Q (.bl (Yas r)) H)
theorem Yb2 {i j k:Nat} {T:S1} {x y u:V} {σ:L2.St} {H:Hp} {A B:L2.St->Hp->Prop} (hT:Su K H T [x,y,u]) (h:A (((σ.set i (some x)).set j (some y)).set k (some u)) H):
  Sj9 K 3 (Jso (Jpa i) (Jso (Jpa j) (Jso (Jpa k) Sks))) (.ref T) σ H λσ3 H3=>Y3 σ3 H3 λb H4=>if b=true then A σ3 H4 else B σ3 H4:=by
 refine ⟨T,_,rfl,hT,rfl,_,_,rfl,_,_,rfl,_,_,rfl,rfl,?_⟩
 show if true=true then A (((σ.set i (some x)).set j (some y)).set k (some u)) H else B (((σ.set i (some x)).set j (some y)).set k (some u)) H
 rw [if_pos rfl]
 exact h
theorem Ybu:Jmy ["thing","lows","highs"] ["thing","lows","highs"] (Jmt (top 19)):=⟨rfl,rfl,rfl,by decide +kernel,rfl,by decide +kernel,by decide +kernel⟩
theorem Jxg (T:Tx K mg a):Ss P w K mg base CX0 2 a.Jhi a.Jhj ["thing","lows","highs"] (Srj K):=by
 have Sx:=Jo6 (P:=P) (w:=w) (base:=base) T
 refine T.J3.fn.ok Ybu (λvs H Q E h=>?_) (λcdv A outer s H vs Q E hr h=>?_)
 ·obtain ⟨x,r,l,m,ls,hs,rfl,_⟩:=h
  rfl
 ·obtain ⟨x,r,l,m,ls,hs,rfl,rt,hl,hm,e1,e2,k⟩:=h
  refine ⟨?t,?B,?C⟩
  case B=>
   refine' Sw ?O0 ?O1
   case O0=>
    refine' Jng ?O2 ?O3 ?O4
    case O2=>exact (PW.pt (Jri (Jnh (Jnf (Jmx Jo7 (by rfl) T.Jax Jnb (Sk (pv 0) (Sk (Joh (v:=.ty "tuple") (by rfl) T.Jb6 Jnq rfl) Sm))))) (Jqf (Jnp Yd5 (Jmx Jn8 (by rfl) T.Jay Jnz (Sk (pv 0) Sm)) (Jmx Jn8 (by rfl) T.Jay Jnz (Sk (pv 1) Sm)) (Jni _)))))
    case O3=>
     refine' Sy ?O5
     case O5=>exact (Jn0 Jov)
    case O4=>exact Jn6
   case O1=>
   refine' Sy ?O6
   case O6=>exact (Jn0 (Jmx (Jqt rfl) (by rfl) T.Jas Ju3 (Sk (Jnm (N:=(["number","low","high"]:List Str)) (ini:=[none,none,none]) rfl (Jyg true false false (by rfl) T.Jb7 (Sk (pv 0) (Sk (pv 1) (Sk (pv 2) Sm)))) (λ_ _ _ _ _=>(Jqj (K:=K) (n:=3) rfl rfl (Jn7 (Jmz (i:=0) (by decide +kernel:(["number","low","high"]:List Str).Nodup) rfl (ye rfl)) (Jn7 (Jmz (i:=1) (by decide +kernel:(["number","low","high"]:List Str).Nodup) rfl (ye rfl)) (Jn7 (Jmz (i:=2) (by decide +kernel:(["number","low","high"]:List Str).Nodup) rfl (ye rfl)) Joe))))) (λ_ _ _ _ _=>Jnk) (λ_ _ _ _ _=>(Jmv T.J0 Sx hr (by decide) (Sk (pv 0) (Sk (pv 1) (Sk (pv 2) Sm)))))) Sm)))
  cases r with
  |none=>
   obtain ⟨t,ty,ek⟩:=rt
   refine ⟨_,rfl,x,_,_,t,_,rfl,rfl,ty,ek,_,rfl,Joc ?_⟩
   refine Joc ?_
   exact k _ (λ_ _ h=>h)
  |some vs=>
   obtain ⟨p,rfl,hp,tms,hn⟩:=rt
   refine ⟨_,rfl,_,_,_,.type "tuple",true,rfl,rfl,.of (.tup hp),rfl,_,rfl,Jnv ?_⟩
   refine ⟨_,rfl,p,_,rfl,.inr (Su.of hp),_,rfl,l,_,rfl,.inl (Sv.of hl),rfl,?_⟩
   by_cases en:vs.length=ls.length
   ·refine ⟨_,rfl,ifF (by simp [en]) ?_⟩
    refine ⟨_,rfl,_,rfl,_,rfl,p,l,m,rfl,⟨_,Su.of hp⟩,⟨_,Sv.of hl⟩,⟨_,Sv.of hm⟩,λD hD=>?_⟩
    have s0:=Sj.upd (o:=.lst []) hD
    refine Ju4 (K:=K) (l1:=p) (l2:=l) (l3:=m) (b1:=true) (b2:=false) (b3:=false) (xs:=vs) (ys:=ls.map V.int) (us:=hs.map V.int) (D:=D) (λi σ H'=>(∃o1 o2 o3,σ= [o1,o2,o3])/\H' D=some (.lst (((wl vs ls hs).take i).map V.bl))/\Sj H H') ⟨⟨_,_,_,rfl⟩,Sr,s0⟩ (λi σ H' _ ⟨_,_,sm⟩=>⟨Su.of (sm _ _ hp),Sv.of (sm _ _ hl),Sv.of (sm _ _ hm)⟩) (by rw [yf];exact en) (by rw [yf];omega) ?_ ?_
    ·rintro i x y u σ H' Ta hx hy hu ⟨⟨o1,o2,o3,rfl⟩,hDs,sm⟩ hT
     obtain ⟨lo,hi,rfl,rfl,ew⟩:=Ye6 hx hy hu
     have sT:=Sj.upd (o:=.tup [x,.int lo,.int hi]) hT
     have hi':i < vs.length:=(yj.mp hx).1
     refine Yb2 (Su.of Sr) ⟨_,rfl,_,rfl,_,rfl,_,lo,hi,rfl,(tms _ (yp hx)).same (sm.trans sT),_,sT _ _ hDs,?_,⟨_,_,_,rfl⟩,?_,?_⟩
     ·rw [yf,yy]
      exact Jno (by omega)
     ·rw [Sr,yag,ew]
      simp
     ·intro c o z
      rw [Sz (Jmw z hD)]
      exact sT _ _ (sm _ _ z)
    rintro σ H1 ⟨_,hDs,sm⟩
    rw [yac (by rw [Ye7 en e1];omega)] at hDs
    refine ⟨D,_,rfl,Sv.of hDs,?_⟩
    have e:Jq4 (some vs) ls hs=(wl vs ls hs).all id:=by
     show (decide (vs.length=ls.length)&&_)=_
     rw [decide_eq_true en,ybn]
    rw [<-e]
    exact k _ sm
   ·refine ⟨_,rfl,ifT (by simp;omega) ?_⟩
    have e:Jq4 (some vs) ls hs=false:=by
     show (decide (vs.length=ls.length)&&_)=_
     rw [decide_eq_false en,ybf]
    rw [e] at k
    exact k _ (λ_ _ h=>h)
theorem Jv9:Jmy ["thing","highs"] ["thing","highs"] (Jmt (top 20)):=⟨rfl,rfl,rfl,by decide +kernel,rfl,by decide +kernel,by decide +kernel⟩
theorem Jre (T:Tx K mg a):Ss P w K mg base CX0 3 a.Jhk a.Jhl ["thing","highs"] (Yfn K):=by
 have Set:=Jxg (P:=P) (w:=w) (base:=base) T
 refine T.J4.fn.ok Jv9 (λvs H Q E h=>?_) (λcdv A outer s H vs Q E hr h=>?_)
 ·obtain ⟨x,r,m,hs,rfl,_⟩:=h
  rfl
 ·obtain ⟨x,r,m,hs,rfl,rt,hm,e2,k⟩:=h
  refine ⟨?t,?B,?C⟩
  case B=>
   refine' Sy ?O0
   case O0=>exact (Jn0 (Jmv T.J3 Set hr (by decide) (Sk (pv 0) (Sk (Jnm (N:=(["high"]:List Str)) (ini:=[none]) rfl (Jo1 (pv 1)) (λ_ _ _ _ _=>(Jmz (i:=0) (by decide +kernel:(["high"]:List Str).Nodup) rfl (ye rfl))) (λ_ _ _ _ _=>Jnk) (λ_ _ _ _ _=>So)) (Sk (pv 1) Sm)))))
  refine ⟨_,rfl,_,rfl,m,rfl,⟨_,Sv.of hm⟩,λD hD=>?_⟩
  refine Jp4 ((yaa hs.length (0:Int)).map V.int) hD (by simp) (by rw [yf];omega) hm ?_ ?_
  ·intro i x y H' Q' hx hy sm k'
   have e:y= .int 0:=by
    rw [List.map_replicate,ybu] at hy
    split at hy
    ·exact (yv.inj hy).symm
    ·cases hy
   subst e
   exact k' _ (λ_ _ h=>h)
  ·intro H' sm hDs
   refine ⟨_,rfl,x,r,D,m,yaa hs.length 0,hs,rfl,rt.same sm,hDs,sm _ _ hm,by simp,by simpa using e2,λH2 s2=>k _ (sm.trans s2)⟩
theorem Yx:Jmy ["thing"] ["thing"] (Jmt (top 21)):=⟨rfl,rfl,rfl,by decide +kernel,rfl,by decide +kernel,by decide +kernel⟩
theorem Jw0 (T:Tx K mg a):Ss P w K mg base CX0 1 a.Jhm a.Jhn ["thing"] (So1 K):=by
 refine T.J5.fn.ok Yx (λvs H Q E h=>?_) (λcdv A outer s H vs Q E hr h=>?_)
 ·obtain ⟨x,r,rfl,_⟩:=h
  rfl
 ·obtain ⟨x,r,rfl,rt,k⟩:=h
  refine ⟨?t,?B,?C⟩
  case B=>
   refine' Sy ?O0
   case O0=>exact (Jn0 (Jye (Jmx Jo7 (by rfl) T.Jax Jnb (Sk (pv 0) (Sk (Joh (v:=.ty "tuple") (by rfl) T.Jb6 Jnq rfl) Sm))) (Jyf (Joi Jqz (Jmx Jn8 (by rfl) T.Jay Jnz (Sk (pv 0) Sm)) So (Jni _)))))
  cases r with
  |none=>
   obtain ⟨t,ty,ek⟩:=rt
   refine ⟨_,rfl,x,_,_,t,_,rfl,rfl,ty,ek,_,rfl,?_⟩
   exact Jnv k
  |some vs=>
   obtain ⟨p,rfl,hp⟩:=rt
   refine ⟨_,rfl,_,_,_,.type "tuple",true,rfl,rfl,.of (.tup hp),rfl,_,rfl,Joc ?_⟩
   refine ⟨_,rfl,p,_,rfl,.inr (Su.of hp),rfl,?_⟩
   have e:decide (V.int (vs.length:Nat)=V.int 2)=Yas (some vs):=by
    show _=decide (vs.length=2)
    by_cases h:vs.length=2
    ·rw [decide_eq_true h,decide_eq_true (by rw [h];rfl)]
    ·rw [decide_eq_false h,decide_eq_false (λq=>h (by have:=V.int.inj q;omega))]
   rw [e]
   exact k
structure Riv where
 c:Int
 g:Int
 Bs:List Bsn
 Ts:List Twn
def Say (K:Se) (a:Ad) (H:Hp) (o:S1) (R:Riv):Prop:=∃(dx b t:S1) (os ts:List S1),H o=some (.ins a.Jmi dx (Sky (.int R.c) (.int R.g) (.ref b) (.ref t)))/\H b=some (.tup (os.map V.ref))/\Scc K a H os R.Bs/\H t=some (.tup (ts.map V.ref))/\Sc4 a H ts R.Ts/\R.Bs.length<=16/\R.Ts.length<=3/\∀B∈R.Bs,0<=B.rn/\B.rn<=6
theorem Say.same {K:Se} {a:Ad} {H H':Hp} {o:S1} {R:Riv} (s:Sj H H') (h:Say K a H o R):Say K a H' o R:=
 let ⟨dx,b,t,os,ts,h1,h2,h3,h4,h5,h6⟩:=h
 ⟨dx,b,t,os,ts,s _ _ h1,s _ _ h2,h3.same s,s _ _ h4,h5.same s,h6⟩
inductive Pr where
 |no
 |oth (vs:List V)
 |two (u w:V) (r:Option (List V))
def PrT (K:Se) (H:Hp) (x:V):Pr->Prop
 | .no=>∃t,TyX K H x t/\Sf K t (.type "tuple")=some false
 | .oth vs=>∃p,x= .ref p/\H p=some (.tup vs)/\vs.length≠2
 | .two u w r=>∃p,x= .ref p/\H p=some (.tup [u,w])/\Sff K H u r/\Tm K H w
theorem PrT.same {K:Se} {H H':Hp} {x:V} (s:Sj H H'):∀{r:Pr},PrT K H x r->PrT K H' x r
 | .no,⟨t,h1,h2⟩=>⟨t,Jtv s h1,h2⟩
 | .oth _,⟨p,e,h1,h2⟩=>⟨p,e,s _ _ h1,h2⟩
 | .two _ _ _,⟨p,e,h1,h2,h3⟩=>⟨p,e,s _ _ h1,h2.same s,h3.same s⟩
def stB (R:Riv):Pr->Bool
 | .two _ w r=>Jnc w 0 R.c&&Jq4 r (R.Bs.map (·.lo)) (R.Bs.map (·.hi))
 |_=>false
def Jtt (n:Nat):V->Bool
 | .non=>true
 |w=>Jnc w 0 (n - 1)
def chB (R:Riv):Pr->Bool
 | .two _ w r=>Jtt R.Ts.length w&&Jq4 r (yaa R.Bs.length 0) (R.Bs.map λB=>(B.n:Int) - 1)
 |_=>false
inductive Ya4 (K:Se) (a:Ad) (vs:List V) (H:Hp) (Q:VK) (z3:XK):Prop where
 |mk (o:S1) (R:Riv) (x:V) (r:Pr) (_:vs= [.ref o,x]) (_:Say K a H o R) (_:PrT K H x r) (_:∀H',Sj H H'->Q (.bl (stB R r)) H')
inductive Ydl (K:Se) (a:Ad) (vs:List V) (H:Hp) (Q:VK) (z3:XK):Prop where
 |mk (o:S1) (R:Riv) (x:V) (r:Pr) (_:vs= [.ref o,x]) (_:Say K a H o R) (_:PrT K H x r) (_:∀H',Sj H H'->Q (.bl (chB R r)) H')
theorem Jw7:Jmy ["river","thing"] ["river","thing"] (Jmt (top 22)):=⟨rfl,rfl,rfl,by decide +kernel,rfl,by decide +kernel,by decide +kernel⟩
theorem Jq9 (T:Tx K mg a):Ss P w K mg base CX0 3 a.Jho a.Jhp ["river","thing"] (Ya4 K a):=by
 have Set:=Jxg (P:=P) (w:=w) (base:=base) T
 have Se2:=Jw0 (P:=P) (w:=w) (base:=base) T
 have Sx:=Jo6 (P:=P) (w:=w) (base:=base) T
 refine T.J6.fn.ok Jw7 (λvs H Q E h=>?_) (λcdv A outer s H vs Q E hr h=>?_)
 ·obtain ⟨o,R,x,r,rfl,_⟩:=h
  rfl
 ·obtain ⟨o,R,x,r,rfl,ro,rx,k⟩:=h
  refine ⟨?t,?B,?C⟩
  case B=>
   refine' Sw ?O0 ?O1
   case O0=>
    refine' Jng ?O2 ?O3 ?O4
    case O2=>exact (PW.pt (Jri (Jnh (Jnf (Jmv T.J5 Se2 hr (by decide) (Sk (pv 1) Sm)))) (Jqf (Jnh (Jnf (Jmv T.J0 Sx hr (by decide) (Sk (Jn1 Jn9 (pv 1) So (λ_ _=>rfl)) (Sk So (Sk (Jna (pv 0) (by rfl)) Sm)))))))))
    case O3=>
     refine' Sy ?O5
     case O5=>exact (Jn0 Jov)
    case O4=>exact Jn6
   case O1=>
   refine' Sy ?O6
   case O6=>exact (Jn0 (Jmv T.J3 Set hr (by decide) (Sk (Jn1 Jn9 (pv 1) So (λ_ _=>rfl)) (Sk (Jnm (N:=(["basin"]:List Str)) (ini:=[none]) rfl (Jqe (Jna (pv 0) (by rfl))) (λ_ _ _ _ _=>(Jmz (i:=0) (by decide +kernel:(["basin"]:List Str).Nodup) rfl (ye rfl))) (λ_ _ _ _ _=>Jnk) (λ_ _ _ _ _=>(Joj (K:=K) rfl (pv 0) (by rfl)))) (Sk (Jnm (N:=(["basin"]:List Str)) (ini:=[none]) rfl (Jqe (Jna (pv 0) (by rfl))) (λ_ _ _ _ _=>(Jmz (i:=0) (by decide +kernel:(["basin"]:List Str).Nodup) rfl (ye rfl))) (λ_ _ _ _ _=>Jnk) (λ_ _ _ _ _=>(Joj (K:=K) rfl (pv 0) (by rfl)))) Sm)))))
  cases r with
  |no=>
   refine ⟨_,rfl,x,none,rfl,rx,_,rfl,Joc ?_⟩
   exact Joc (k _ λ_ _ h=>h)
  |oth vs=>
   obtain ⟨p,rfl,hp,ne⟩:=rx
   refine ⟨_,rfl,_,some vs,rfl,⟨p,rfl,hp⟩,_,rfl,ifT (by rw [show Yas (some vs)=false from decide_eq_false ne];rfl) ?_⟩
   exact Joc (k _ λ_ _ h=>h)
  |two u y r=>
   obtain ⟨p,rfl,hp,rt,ty⟩:=rx
   obtain ⟨dx,b,t,os,ts,ho,hb,bl,ht,tl,n1,n2,n3⟩:=ro
   refine ⟨_,rfl,_,some [u,y],rfl,⟨p,rfl,hp⟩,_,rfl,Jnv ?_⟩
   refine ⟨_,rfl,p,_,1,y,rfl,rfl,Su.of hp,rfl,_,rfl,o,_,dx,_,_,rfl,ho,T.Jf5,T.Jg3,rfl,y,0,R.c,rfl,ty,_,rfl,?_⟩
   cases ew:Jnc y 0 R.c with
   |false=>
    have e:stB R (.two u y r)=false:=by
     show (Jnc y 0 R.c&&_)=false
     rw [ew,ybf]
    rw [e] at k
    exact Joc (k _ λ_ _ h=>h)
   |true=>
    have e:stB R (.two u y r)=Jq4 r (R.Bs.map (·.lo)) (R.Bs.map (·.hi)):=by
     show (Jnc y 0 R.c&&_)=_
     rw [ew,ybn]
    rw [e] at k
    have len:=bl.len
    refine Jnv ⟨_,rfl,p,_,0,u,rfl,rfl,Su.of hp,rfl,?_⟩
    refine ⟨_,rfl,o,_,dx,_,_,rfl,ho,T.Jf5,T.Jg5,rfl,b,rfl,⟨_,Su.of hb⟩,λD hD=>?_⟩
    refine Jos ((R.Bs.map (·.lo)).map V.int) hD (by simp [len]) (by rw [yf];omega) hb ?_ ?_
    ·intro i x y H' Q' hx hy sm k'
     obtain ⟨ob,B,rfl,hB,dx,hb,gs⟩:=(bl.same sm).get hx
     rw [yg,yg,hB] at hy
     cases hy
     exact ⟨_,rfl,ob,_,dx,_,_,rfl,hb,T.Jez,T.Jfv,rfl,k' _ λ_ _ h=>h⟩
    intro H1 s1 hD1
    refine ⟨_,rfl,o,_,dx,_,_,rfl,s1 _ _ ho,T.Jf5,T.Jg5,rfl,b,rfl,⟨_,Su.of (s1 _ _ hb)⟩,λD2 hD2=>?_⟩
    refine Jos ((R.Bs.map (·.hi)).map V.int) hD2 (by simp [len]) (by rw [yf];omega) (s1 _ _ hb) ?_ ?_
    ·intro i x y H' Q' hx hy sm k'
     obtain ⟨ob,B,rfl,hB,dx,hb,gs⟩:=(bl.same (s1.trans sm)).get hx
     rw [yg,yg,hB] at hy
     cases hy
     exact ⟨_,rfl,ob,_,dx,_,_,rfl,hb,T.Jez,T.Jfw,rfl,k' _ λ_ _ h=>h⟩
    intro H2 s2 hD3
    exact ⟨u,r,D,D2,_,_,rfl,rt.same (s1.trans s2),s2 _ _ hD1,hD3,by simp,by rw [yf];omega,λH3 s3=>k _ ((s1.trans s2).trans s3)⟩
theorem Jyn:Jmy ["river","thing"] ["river","thing"] (Jmt (top 23)):=⟨rfl,rfl,rfl,by decide +kernel,rfl,by decide +kernel,by decide +kernel⟩
theorem Jtk (T:Tx K mg a):Ss P w K mg base CX0 4 a.Jhq a.Jhr ["river","thing"] (Ydl K a):=by
 have Sc2:=Jre (P:=P) (w:=w) (base:=base) T
 have Se2:=Jw0 (P:=P) (w:=w) (base:=base) T
 have Sx:=Jo6 (P:=P) (w:=w) (base:=base) T
 refine T.J7.fn.ok Jyn (λvs H Q E h=>?_) (λcdv A outer s H vs Q E hr h=>?_)
 ·obtain ⟨o,R,x,r,rfl,_⟩:=h
  rfl
 ·obtain ⟨o,R,x,r,rfl,ro,rx,k⟩:=h
  refine ⟨?t,?B,?C⟩
  case B=>
   refine' Sw ?O0 ?O1
   case O0=>
    refine' Jng ?O2 ?O3 ?O4
    case O2=>exact (Jnh (Jnf (Jmv T.J5 Se2 hr (by decide) (Sk (pv 1) Sm))))
    case O3=>
     refine' Sy ?O5
     case O5=>exact (Jn0 Jov)
    case O4=>exact Jn6
   case O1=>
   refine' Sw ?O6 ?O7
   case O6=>
    refine' Jng ?O8 ?O9 ?Oa
    case O8=>exact (PW.pt (Ydc (Jnp Jyd (Jn1 Jn9 (pv 1) So (λ_ _=>rfl)) Jqd (Jni _)) (Yav (Jnh (Jnf (Jmv T.J0 Sx hr (by decide) (Sk (Jn1 Jn9 (pv 1) So (λ_ _=>rfl)) (Sk So (Sk (Jn5 Jo4 (Jmx Jn8 (by rfl) T.Jay Jnz (Sk (Jna (pv 0) (by rfl)) Sm)) So) Sm)))))))))
    case O9=>
     refine' Sy ?Ob
     case Ob=>exact (Jn0 Jov)
    case Oa=>exact Jn6
   case O7=>
   refine' Sy ?Oc
   case Oc=>exact (Jn0 (Jmv T.J4 Sc2 hr (by decide) (Sk (Jn1 Jn9 (pv 1) So (λ_ _=>rfl)) (Sk (Jnm (N:=(["basin"]:List Str)) (ini:=[none]) rfl (Jqe (Jna (pv 0) (by rfl))) (λ_ _ _ _ _=>(Jmz (i:=0) (by decide +kernel:(["basin"]:List Str).Nodup) rfl (ye rfl))) (λ_ _ _ _ _=>Jnk) (λ_ _ _ _ _=>(Jn5 Jo4 (Yt (P:=P) (w:=w) (K:=K) (mg:=mg) (base:=base) rfl rfl rfl rfl rfl (Joj (K:=K) rfl (pv 0) (by rfl)) hr) So))) Sm))))
  cases r with
  |no=>
   refine ⟨_,rfl,x,none,rfl,rx,_,rfl,Joc ?_⟩
   exact k _ λ_ _ h=>h
  |oth vs=>
   obtain ⟨p,rfl,hp,ne⟩:=rx
   refine ⟨_,rfl,_,some vs,rfl,⟨p,rfl,hp⟩,_,rfl,ifT (by rw [show Yas (some vs)=false from decide_eq_false ne];rfl) ?_⟩
   exact k _ λ_ _ h=>h
  |two u y r=>
   obtain ⟨p,rfl,hp,rt,ty⟩:=rx
   obtain ⟨dx,b,t,os,ts,ho,hb,bl,ht,tl,n1,n2,n3⟩:=ro
   refine ⟨_,rfl,_,some [u,y],rfl,⟨p,rfl,hp⟩,_,rfl,Jnv ?_⟩
   refine ⟨_,rfl,p,_,1,y,rfl,rfl,Su.of hp,rfl,?_⟩
   have len:=bl.len
   have tlen:=tl.len
   by_cases hy:y= .non
   ·have et:Jtt R.Ts.length y=true:=by rw [hy];rfl
    refine ⟨rfl,_,rfl,ifF (by rw [decide_eq_true hy];rfl) ?_⟩
    refine Jnv ?_
    have e:chB R (.two u y r)=Jq4 r (yaa R.Bs.length 0) (R.Bs.map λB=>(B.n:Int) - 1):=by
     show (Jtt R.Ts.length y&&_)=_
     rw [et,ybn]
    rw [e] at k
    refine ⟨_,rfl,p,_,0,u,rfl,rfl,Su.of hp,rfl,?_⟩
    refine ⟨_,rfl,o,_,dx,_,_,rfl,ho,T.Jf5,T.Jg5,rfl,b,rfl,⟨_,Su.of hb⟩,λD hD=>?_⟩
    refine Jos ((R.Bs.map λB=>(B.n:Int) - 1).map V.int) hD (by simp [len]) (by rw [yf];omega) hb ?_ ?_
    ·intro i x y H' Q' hx hy sm k'
     obtain ⟨ob,B,rfl,hB,dx,hb,gs⟩:=(bl.same sm).get hx
     rw [yg,yg,hB] at hy
     cases hy
     exact ⟨_,rfl,ob,_,dx,_,_,rfl,hb,T.Jez,T.Jfz,rfl,Jp3 T gs ⟨_,_,rfl,rfl,k' _ λ_ _ h=>h⟩ (by decide)⟩
    intro H1 s1 hD1
    exact ⟨u,r,D,_,rfl,rt.same s1,hD1,by rw [yf];omega,λH3 s3=>by rw [yf];exact k _ (s1.trans s3)⟩
   ·refine ⟨rfl,_,rfl,ifT (by rw [decide_eq_false hy];rfl) ?_⟩
    have eT:Jtt R.Ts.length y=Jnc y 0 ((R.Ts.length:Int) - 1):=by
     cases y <;> first|rfl|exact absurd rfl hy
    refine ⟨_,rfl,p,_,1,y,rfl,rfl,Su.of hp,rfl,?_⟩
    refine ⟨_,rfl,o,_,dx,_,_,rfl,ho,T.Jf5,T.Jg6,rfl,t,_,rfl,.inr (Su.of ht),_,_,rfl,rfl,y,0,(R.Ts.length:Int) - 1,by rw [yf,tlen];rfl,ty,_,rfl,?_⟩
    cases ew:Jnc y 0 ((R.Ts.length:Int) - 1) with
    |false=>
     have e:chB R (.two u y r)=false:=by
      show (Jtt R.Ts.length y&&_)=false
      rw [eT,ew,ybf]
     rw [e] at k
     exact Joc (k _ λ_ _ h=>h)
    |true=>
     have et:=eT.trans ew
     refine Jnv ?_
     have e:chB R (.two u y r)=Jq4 r (yaa R.Bs.length 0) (R.Bs.map λB=>(B.n:Int) - 1):=by
      show (Jtt R.Ts.length y&&_)=_
      rw [et,ybn]
     rw [e] at k
     refine ⟨_,rfl,p,_,0,u,rfl,rfl,Su.of hp,rfl,?_⟩
     refine ⟨_,rfl,o,_,dx,_,_,rfl,ho,T.Jf5,T.Jg5,rfl,b,rfl,⟨_,Su.of hb⟩,λD hD=>?_⟩
     refine Jos ((R.Bs.map λB=>(B.n:Int) - 1).map V.int) hD (by simp [len]) (by rw [yf];omega) hb ?_ ?_
     ·intro i x y H' Q' hx hy sm k'
      obtain ⟨ob,B,rfl,hB,dx,hb,gs⟩:=(bl.same sm).get hx
      rw [yg,yg,hB] at hy
      cases hy
      exact ⟨_,rfl,ob,_,dx,_,_,rfl,hb,T.Jez,T.Jfz,rfl,Jp3 T gs ⟨_,_,rfl,rfl,k' _ λ_ _ h=>h⟩ (by decide)⟩
     intro H1 s1 hD1
     exact ⟨u,r,D,_,rfl,rt.same s1,hD1,by rw [yf];omega,λH3 s3=>by rw [yf];exact k _ (s1.trans s3)⟩
def Jr5 (R:Riv) (wet:Int):Int:=
 if (R.Bs.map (·.rn)).sum < (if 0 > wet+R.g - R.c then 0 else wet+R.g - R.c) then (R.Bs.map (·.rn)).sum else (if 0 > wet+R.g - R.c then 0 else wet+R.g - R.c)
inductive Ydm (K:Se) (a:Ad) (vs:List V) (H:Hp) (Q:VK) (z3:XK):Prop where
 |mk (o:S1) (R:Riv) (wet:Int) (_:vs= [.ref o,.int wet]) (_:Say K a H o R) (_:∀H',Sj H H'->Q (.int (Jr5 R wet)) H')
theorem Yby {Bs:List Bsn} (n1:Bs.length<=16) (n3:∀B∈Bs,0<=B.rn/\B.rn<=6):Sml (Bs.map (·.rn)):=by
 refine ⟨by rw [yf];omega,λn hn=>?_⟩
 obtain ⟨B,hB,rfl⟩:=yaf.mp hn
 have:=n3 B hB
 omega
def Juo:V->Int
 | .int i=>i
 |_=>0
def Jwc:Pr->Int
 | .two _ w _=>Juo w
 |_=>0
def Jys (vs:List V):Int:=(vs.map Juo).sum
def rnB (R:Riv) (wet:Int):Option (List V)->Bool
 |some vs=>Jq4 (some vs) (yaa R.Bs.length 0) (R.Bs.map (·.rn))&&(decide (Jr5 R wet<=Jys vs)&&decide (Jys vs<=wet))
 |none=>false
inductive So3 (K:Se) (a:Ad) (vs:List V) (H:Hp) (Q:VK) (E:XK):Prop where
 |mk (o:S1) (R:Riv) (z:V) (q:Pr) (x:V) (r:Option (List V)) (_:vs= [.ref o,z,x]) (_:Say K a H o R) (_:PrT K H z q) (_:Sff K H x r) (_:(if stB R q=true then ∀H',Sj H H'->Q (.bl (rnB R (Jwc q) r)) H' else ∀c eo H',RfC a.Jm5 H H' z c eo->E c eo H'))
theorem Soa {R:Riv} {q:Pr} (h:stB R q=true):∃u wt rr,q= .two u (.int wt) rr/\(0<=wt/\wt<=R.c):=by
 cases q with
 |no=>cases h
 |oth vs=>cases h
 |two u w r=>
  have h1:Jnc w 0 R.c=true:=by
   cases e:Jnc w 0 R.c with
   |true=>rfl
   |false=>
    have:(Jnc w 0 R.c&&Jq4 r (R.Bs.map (·.lo)) (R.Bs.map (·.hi)))=true:=h
    rw [e,ybf] at this
    exact this
  obtain ⟨i,rfl⟩:=Jr2 h1
  refine ⟨u,i,r,rfl,?_⟩
  have h2:(decide (0<=i)&&decide (i<=R.c))=true:=h1
  simpa using h2
theorem Yb5:∀{vs:List V} {n:Nat} {hs:List Int},vs.length=n->n=hs.length->(wl vs (yaa n 0) hs).all id=true->∃ns:List Int,vs=ns.map V.int/\ns.length=n/\∀k∈ns,0<=k/\∃h∈hs,k<=h
 | [],_,_,e,_,_=>⟨[],rfl,e,λ_ h=>nomatch h⟩
 |_::_,0,_,e,_,_=>by simp at e
 |_::_,_+1,[],_,e,_=>by simp at e
 |v::vs,n+1,h::hs,e1,e2,a=>by
  have a':(Jnc v 0 h&&(wl vs (yaa n 0) hs).all id)=true:=a
  rw [yx] at a'
  obtain ⟨ns,rfl,l,q⟩:=Yb5 (vs:=vs) (n:=n) (hs:=hs) (by simpa using e1) (by simpa using e2) a'.2
  obtain ⟨i,rfl⟩:=Jr2 a'.1
  have h2:(decide (0<=i)&&decide (i<=h))=true:=a'.1
  have h3:0<=i/\i<=h:=by simpa using h2
  refine ⟨i::ns,rfl,by rw [yal,l],λk hk=>?_⟩
  rcases ym.mp hk with rfl|hk
  ·exact ⟨h3.1,h,yak ..,h3.2⟩
  ·obtain ⟨g1,x,hx,g2⟩:=q k hk
   exact ⟨g1,x,yr _ hx,g2⟩
theorem Jzu {R:Riv} {r:Option (List V)} (h:Jq4 r (yaa R.Bs.length 0) (R.Bs.map (·.rn))=true) (n1:R.Bs.length<=16) (n3:∀B∈R.Bs,0<=B.rn/\B.rn<=6):∃(vs:List V) (ns:List Int),r=some vs/\vs=ns.map V.int/\Sml ns:=by
 cases r with
 |none=>cases h
 |some vs=>
  have h':(decide (vs.length=(yaa R.Bs.length (0:Int)).length)&&(wl vs (yaa R.Bs.length 0) (R.Bs.map (·.rn))).all id)=true:=h
  rw [yx] at h'
  have e1:vs.length=R.Bs.length:=by simpa using h'.1
  obtain ⟨ns,rfl,l,q⟩:=Yb5 e1 (by simp) h'.2
  refine ⟨_,ns,rfl,rfl,by omega,λn hn=>?_⟩
  obtain ⟨g1,x,hx,g2⟩:=q n hn
  obtain ⟨B,hB,rfl⟩:=yaf.mp hx
  have:=n3 B hB
  omega
theorem Jxj (ns:List Int):Jys (ns.map V.int)=ns.sum:=by
 show ((ns.map V.int).map Juo).sum=_
 rw [yav]
 congr 1
 exact (List.map_congr_left λ_ _=>rfl).trans (List.map_id _)
theorem Sd1:Jmy ["river","wet","too_many"] ["river","wet"] (Jmt (top 24)):=⟨rfl,rfl,rfl,by decide +kernel,rfl,by decide +kernel,by decide +kernel⟩
theorem Jvy (T:Tx K mg a):Ss P w K mg base CX0 1 a.Jhs a.Jht ["river","wet"] (Ydm K a):=by
 refine T.J8.fn.ok Sd1 (λvs H Q E h=>?_) (λcdv A outer s H vs Q E hr h=>?_)
 ·obtain ⟨o,R,wet,rfl,_⟩:=h
  rfl
 ·obtain ⟨o,R,wet,rfl,ro,k⟩:=h
  refine ⟨?t,?B,?C⟩
  case B=>
   refine' Sw ?O0 ?O1
   case O0=>exact (Jn3 (i:=2) Sd1.nd rfl (ye rfl) (Jmx (Jpl rfl) (by rfl) T.Jb0 Jsu (Sk (Jn5 Jo4 (Jn5 Jnn (pv 1) (Jna (pv 0) (by rfl))) (Jna (pv 0) (by rfl))) (Sk So Sm))))
   case O1=>
   refine' Sy ?O2
   case O2=>exact (Jn0 (Jmx (Jor rfl) (by rfl) T.Jb1 Jqn (Sk (pv 2) (Sk (Jmx (Jo3 rfl) (by rfl) T.Jb5 Jou (Sk (Jnm (N:=(["basin"]:List Str)) (ini:=[none]) rfl (Jqe (Jna (pv 0) (by rfl))) (λ_ _ _ _ _=>(Jmz (i:=0) (by decide +kernel:(["basin"]:List Str).Nodup) rfl (ye rfl))) (λ_ _ _ _ _=>Jnk) (λ_ _ _ _ _=>(Joj (K:=K) rfl (pv 0) (by rfl)))) Sm)) Sm))))
  obtain ⟨dx,b,t,os,ts,ho,hb,bl,ht,tl,n1,n2,n3⟩:=ro
  have len:=bl.len
  refine ⟨_,rfl,_,rfl,o,_,dx,_,_,rfl,ho,T.Jf5,T.Jg4,rfl,_,_,rfl,rfl,?_⟩
  refine ⟨_,rfl,o,_,dx,_,_,rfl,ho,T.Jf5,T.Jg3,rfl,_,_,rfl,rfl,_,_,rfl,?_⟩
  refine ⟨_,rfl,_,rfl,o,_,dx,_,_,rfl,ho,T.Jf5,T.Jg5,rfl,b,rfl,⟨_,Su.of hb⟩,λD hD=>?_⟩
  refine Jos ((R.Bs.map (·.rn)).map V.int) hD (by simp [len]) (by rw [yf];omega) hb ?_ ?_
  ·intro i x y H' Q' hx hy sm k'
   obtain ⟨ob,B,rfl,hB,dx,hb,gs⟩:=(bl.same sm).get hx
   rw [yg,yg,hB] at hy
   cases hy
   exact ⟨_,rfl,ob,_,dx,_,_,rfl,hb,T.Jez,T.Jfy,rfl,k' _ λ_ _ h=>h⟩
  intro H1 s1 hD1
  exact ⟨D,_,rfl,.inl (Sv.of hD1),Yby n1 n3,_,_,rfl,k _ s1⟩
theorem Jr9:Jmy ["self","thing"] ["self","thing"] (Jmt (Jn2 (top 8) 0)):=⟨rfl,rfl,rfl,by decide +kernel,rfl,by decide +kernel,by decide +kernel⟩
theorem Jp5 (T:Tx K mg a):Ss P w K mg base CX0 1 a.Jh4 a.Jh5 ["self","thing"] (Jpx K "thing"):=by
 refine T.Jcx.fn.ok Jr9 (λvs H Q E h=>?_) (λcdv A outer s H vs Q E hr h=>?_)
 ·obtain ⟨e,C,W,fI,y,rfl,_⟩:=h
  rfl
 ·obtain ⟨e,C,W,fI,y,rfl,q,c,n,k⟩:=h
  refine ⟨_,(Sy (Jpu (pv 0) (pv 1) rfl)),?_⟩
  exact ⟨_,rfl,_,rfl,e,C,W,fI,true,rfl,q,c,n,k⟩
theorem Yy:Jmy ["river","standing","thing"] ["river","standing","thing"] (Jmt (top 25)):=⟨rfl,rfl,rfl,by decide +kernel,rfl,by decide +kernel,by decide +kernel⟩
theorem Ym (T:Tx K mg a):Ss P w K mg base (CXX P w) 4 a.Jhu a.Jhv ["river","standing","thing"] (So3 K a):=by
 have Sc2:=Jre (P:=P) (w:=w) (base:=base) T
 have Sb5:=Jq9 (P:=P) (w:=w) (base:=base) T
 have Sfa:=Jvy (P:=P) (w:=w) (base:=base) T
 have Sa8:=Jp5 (P:=P) (w:=w) (base:=base) T
 refine T.J9.fn.okX Yy (λvs H Q E h=>?_) (λcdv A outer s H vs Q E hr h=>?_)
 ·obtain ⟨o,R,z,q,x,r,rfl,_⟩:=h
  rfl
 ·obtain ⟨o,R,z,q,x,r,rfl,ro,pz,rx,k⟩:=h
  refine ⟨?t,?B,?C⟩
  case B=>
   refine' Sw ?O0 ?O1
   case O0=>
    refine' Jng ?O2 ?O3 ?O4
    case O2=>exact (Jnh (Jnf (Jmv T.J6 Sb5 hr (by decide) (Sk (pv 0) (Sk (pv 1) Sm)))))
    case O3=>
     refine' Sy ?O5
     case O5=>exact (Jns Jnu rfl (Job T.Jdw Sa8 hr (by decide) T.Jcx.bd T.Jbe (Sk (pv 1) Sm)))
    case O4=>exact Jn6
   case O1=>
   refine' Sw ?O6 ?O7
   case O6=>
    refine' Jng ?O8 ?O9 ?Oa
    case O8=>exact (Jnh (Jnf (Jmv T.J4 Sc2 hr (by decide) (Sk (pv 2) (Sk (Jnm (N:=(["basin"]:List Str)) (ini:=[none]) rfl (Jqe (Jna (pv 0) (by rfl))) (λ_ _ _ _ _=>(Jmz (i:=0) (by decide +kernel:(["basin"]:List Str).Nodup) rfl (ye rfl))) (λ_ _ _ _ _=>Jnk) (λ_ _ _ _ _=>(Joj (K:=K) rfl (pv 0) (by rfl)))) Sm)))))
    case O9=>
     refine' Sy ?Ob
     case Ob=>exact (Jn0 Jov)
    case Oa=>exact Jn6
   case O7=>
   refine' Sy ?Oc
   case Oc=>exact (Jn0 (Jw2 Jrg Jrg (Jmv T.J8 Sfa hr (by decide) (Sk (pv 0) (Sk (Jn1 Jn9 (pv 1) So (λ_ _=>rfl)) Sm))) (Jmx (Jo3 rfl) (by rfl) T.Jb5 Jou (Sk (pv 2) Sm)) (Jn1 Jn9 (pv 1) So (λ_ _=>rfl))))
  refine ⟨_,rfl,_,rfl,o,R,z,q,rfl,ro,pz,λH1 s1=>⟨_,rfl,?_⟩⟩
  cases es:stB R q with
  |false=>
   rw [es] at k
   exact Joc (Jon T.Jdw T.Jfc rfl λe dx h1 h2 h3=>k _ _ _ ((RfC.new h1 h2 h3).of s1))
  |true=>
   rw [if_pos es] at k
   obtain ⟨u,wt,rr,rfl,ew⟩:∃u wt rr,q= .two u (.int wt) rr/\(0<=wt/\wt<=R.c):=Soa es
   obtain ⟨p,rfl,hp,_,_⟩:=pz
   obtain ⟨dx,b,t,os,ts,ho,hb,bl,ht,tl,n1,n2,n3⟩:=ro.same s1
   have len:=bl.len
   refine Jnv ⟨_,rfl,_,rfl,o,_,dx,_,_,rfl,ho,T.Jf5,T.Jg5,rfl,b,rfl,⟨_,Su.of hb⟩,λD hD=>?_⟩
   refine Jos ((R.Bs.map (·.rn)).map V.int) hD (by simp [len]) (by rw [yf];omega) hb ?_ ?_
   ·intro i x y H' Q' hx hy sm k'
    obtain ⟨ob,B,rfl,hB,dx,hb,gs⟩:=(bl.same sm).get hx
    rw [yg,yg,hB] at hy
    cases hy
    exact ⟨_,rfl,ob,_,dx,_,_,rfl,hb,T.Jez,T.Jfy,rfl,k' _ λ_ _ h=>h⟩
   intro H2 s2 hD1
   refine ⟨x,r,D,_,rfl,rx.same (s1.trans s2),hD1,by rw [yf];omega,λH3 s3=>⟨_,rfl,?_⟩⟩
   rw [yf]
   have s13:=(s1.trans s2).trans s3
   cases er:Jq4 r (yaa R.Bs.length 0) (R.Bs.map (·.rn)) with
   |false=>
    have e:rnB R (Jwc (.two u (.int wt) rr)) r=false:=by
     cases r with
     |none=>rfl
     |some vs=>
      show (Jq4 (some vs) _ _&&_)=false
      rw [er,ybf]
    rw [e] at k
    exact Joc (k _ s13)
   |true=>
    obtain ⟨vs,ns,rfl,rfl,hns⟩:=Jzu er n1 n3
    obtain ⟨px,rfl,hpx,_,_⟩:=rx
    refine Jnv ⟨_,rfl,_,rfl,p,_,1,_,rfl,rfl,Su.of (s13 _ _ hp),rfl,o,R,wt,rfl,ro.same s13,λH4 s4=>?_⟩
    have s14:=s13.trans s4
    refine ⟨_,rfl,px,ns,rfl,.inr (Su.of (s14 _ _ hpx)),hns,?_⟩
    have e:rnB R (Jwc (.two u (.int wt) rr)) (some (ns.map V.int))=(decide (Jr5 R wt<=ns.sum)&&decide (ns.sum<=wt)):=by
     show (Jq4 (some (ns.map V.int)) _ _&&(decide (Jr5 R wt<=Jys (ns.map V.int))&&decide (Jys (ns.map V.int)<=wt)))=_
     rw [er,ybn,Jxj]
    rw [e] at k
    refine ⟨_,_,rfl,rfl,_,rfl,?_⟩
    cases ef:decide (Jr5 R wt<=ns.sum) with
    |false=>
     rw [ef,ybf] at k
     exact Jnv (k _ s14)
    |true=>
     rw [ef,ybn] at k
     exact Joc ⟨_,rfl,p,_,1,_,rfl,rfl,Su.of (s14 _ _ hp),rfl,_,_,rfl,rfl,k _ s14⟩
structure Ltr (n:Nat) (z:Str):Prop where
 len:z.length<=n
 inn:∀c∈z.cps.toList,c∈LET.cps.toList
theorem Ltr.app {n m:Nat} {x y:Str} (a:Ltr n x) (b:Ltr m y):Ltr (n+m) (x++y):=by
 refine ⟨by rw [Str.length_append];have:=a.len;have:=b.len;omega,λc hc=>?_⟩
 have e:(x++y).cps=x.cps++y.cps:=rfl
 rw [e,Array.toList_append,ybh] at hc
 exact hc.elim (a.inn c) (b.inn c)
theorem Ltr.wd {n:Nat} {z:Str} (a:Ltr n z):Wd n z:=⟨a.len,λc hc=>Sou.low c (a.inn c hc)⟩
theorem Ltr.sign {c:Nat} (h:c∈LET.cps.toList):Ltr 1 (⟨#[c]⟩:Str):=⟨yk 1,λd hd=>by
 have:d=c:=by simpa using hd
 rw [this];exact h⟩
theorem Ycy (ys:List Str) (h:∀y∈ys,Ltr 1 y):Ltr ys.length (Txt.join ("" :Str) ys):=by
 have e0:∀l:List Str,(∀y∈l,Ltr 1 y)->Ltr l.length (Str.join ("" :Str) l):=by
  intro l
  induction l with
  |nil=>intro _;exact ⟨yk _,λc hc=>by simp [Str.join,Str.empty] at hc⟩
  |cons y r ih=>
   intro hy
   have hr:=ih λz hz=>hy z (yr _ hz)
   have h1:=hy y yak
   cases r with
   |nil=>exact h1
   |cons z r'=>
    have:Str.join ("" :Str) (y::z::r')=y++("" :Str)++Str.join ("" :Str) (z::r'):=rfl
    rw [this]
    have hE:Ltr 0 ("" :Str):=⟨by decide +kernel,λc hc=>absurd hc (by
     have:("" :Str).cps.toList= []:=by decide +kernel
     rw [this];simp)⟩
    have q:=(h1.app hE).app hr
    exact ⟨yan q.len (by simp only [yal];omega),q.inn⟩
 have e1:Txt.join ("" :Str) ys=Str.join ("" :Str) ys:=by
  have:=join_plain_closes ("" :Str) ys
  exact beq_iff_eq.mp this
 rw [e1]
 exact e0 ys h
def NmK (f:Int) (k:Nat) (z:Str):Prop:=∃(c:Nat) (s:Str),z=(⟨#[c]⟩:Str)++s/\Ltr 7 s/\atI LET.cps.toList ((f+11*(k:Int))%26)=some c
theorem NmK.mem {f:Int} {k:Nat} {z:Str} (h:NmK f k z):Ltr 8 z/\Jru z=true:=by
 obtain ⟨c,s,rfl,hs,hc⟩:=h
 have hl:LET.length=26:=by decide +kernel
 obtain ⟨c',m,e⟩:=Y9 (g:=LET) (r:=(f+11*(k:Int))%26) (by omega) (by rw [hl];omega)
 rw [hc] at e
 cases e
 have q:=(Ltr.sign m).app hs
 refine ⟨q,?_⟩
 unfold Jru Jx4
 rw [yx]
 refine ⟨decide_eq_true ⟨?_,q.len⟩,yaw.mpr λd hd=>decide_eq_true (q.inn d hd)⟩
 rw [Str.length_append]
 show 1<=1+s.length
 omega
theorem Yep {i j:Int} {c:Nat} (i0:0<=i) (i1:i < 26) (j0:0<=j) (j1:j < 26) (hi:atI LET.cps.toList i=some c) (hj:atI LET.cps.toList j=some c):i=j:=by
 have all:(yz 26).all (λp=>(yz 26).all λq=>decide (p=q)||!decide (atI LET.cps.toList (p:Int)=atI LET.cps.toList (q:Int)))=true:=by decide +kernel
 obtain ⟨p,rfl⟩:=ybm i0
 obtain ⟨q,rfl⟩:=ybm j0
 have h1:=yaw.mp all p (yaz.mpr (by omega))
 have h2:=yaw.mp h1 q (yaz.mpr (by omega))
 rw [hi,hj] at h2
 simp at h2
 rw [h2]
theorem NmK.ne {f:Int} {j k:Nat} {z:Str} (hj:j < 26) (hk:k < 26) (a:NmK f j z) (b:NmK f k z):j=k:=by
 obtain ⟨c,s,rfl,_,h1⟩:=a
 obtain ⟨d,t,e,_,h2⟩:=b
 have e1:((⟨#[c]⟩:Str)++s).cps.toList=((⟨#[d]⟩:Str)++t).cps.toList:=by rw [e]
 have e2:∀(x:Nat) (y:Str),((⟨#[x]⟩:Str)++y).cps.toList=x::y.cps.toList:=λx y=>by
  show (#[x]++y.cps).toList=_
  rw [Array.toList_append]
  rfl
 rw [e2,e2] at e1
 cases List.head_eq_of_cons_eq e1
 have:=Yep (by omega) (by omega) (by omega) (by omega) h1 h2
 omega
def Nms (f:Int) (zs:List Str):Prop:=∀k z,zs[k]?=some z->NmK f k z
theorem Nms.nodup {f:Int} {zs:List Str} (h:Nms f zs) (hl:zs.length<=26):zs.Nodup:=by
 unfold List.Nodup
 rw [List.pairwise_iff_getElem]
 intro i j hi hj hij e
 have a:=h i zs[i] (yh hi)
 have b:=h j zs[j] (yh hj)
 rw [<-e] at b
 have:=NmK.ne (by omega) (by omega) a b
 omega
theorem Jz7 (ys:List Str) (lo hi:Option Int):∃us:List Str,Jxq (ys.map V.str) lo hi=us.map V.str/\us.Sublist ys:=by
 unfold Jxq
 refine ⟨(ys.drop (HT.sIx (ys.map V.str).length 0 lo)).take (HT.sIx (ys.map V.str).length (ys.map V.str).length hi - HT.sIx (ys.map V.str).length 0 lo),?_,(List.take_sublist _ _).trans (List.drop_sublist _ _)⟩
 rw [List.map_take,List.map_drop]
inductive Yfi (vs:List V) (H:Hp) (Q:VK) (z3:XK):Prop where
 |mk (p:S1) (m:Nat) (_:vs= [.ref p,.int m]) (_:Sbj H p) (_:m<=26) (_:∀(l:S1) (f:Int) (zs:List Str) (H':Hp),H l=none->But p H H'->H' l=some (.lst (zs.map V.str))->zs.length=m->Nms f zs->Q (.ref l) H')
theorem Sbi:Jmy ["_law_stream_here","_law_many","_law_letters","_law_first","_law_base","_law_cut"] ["_law_stream_here","_law_many"] (Jmt (top 70)):=⟨rfl,rfl,rfl,by decide +kernel,rfl,by decide +kernel,by decide +kernel⟩
theorem Jy7 (T:Tx K mg a):Ss P w K mg base CX0 2 a.Jkc a.Jkd ["_law_stream_here","_law_many"] Yfi:=by
 have Sl:=Jpb (P:=P) (w:=w) (base:=base) T
 refine T.Jt.fn.ok Sbi (λvs H Q E h=>?_) (λcdv A outer s H vs Q E hr h=>?_)
 ·obtain ⟨p,m,rfl,_⟩:=h
  rfl
 ·obtain ⟨p,m,rfl,st,hm,k⟩:=h
  refine ⟨?t,?B,?C⟩
  case B=>
   refine' Sw ?O0 ?O1
   case O0=>exact (Jn3 (i:=2) Sbi.nd rfl (Or.inr rfl) Jom)
   case O1=>
   refine' Sw ?O2 ?O3
   case O2=>exact (Jn3 (i:=3) Sbi.nd rfl (Or.inr rfl) (Jmv T.Js Sl hr (by decide) (Sk (pv 0) (Sk So Sm))))
   case O3=>
   refine' Sw ?O4 ?O5
   case O4=>exact (Jn3 (i:=4) Sbi.nd rfl (Or.inr rfl) (Jnm (N:=(["_law_k","_law_letters","_law_stream_here"]:List Str)) (ini:=[none,some 2,some 0]) rfl (Jpc (by rfl) T.Jb2 (Sk So Sm)) (λ_ _ _ _ _=>(Jmz (i:=0) (by decide +kernel:(["_law_k","_law_letters","_law_stream_here"]:List Str).Nodup) rfl (ye rfl))) (λ_ _ _ _ _=>Jnk) (λ_ _ _ _ _=>(Jn1 Ycx (pv 1) (Jmv T.Js Sl hr (by decide) (Sk (pv 2) (Sk So Sm))) (λ_ _=>rfl)))))
   case O5=>
   refine' Sw ?O6 ?O7
   case O6=>exact (Jn3 (i:=5) Sbi.nd rfl (Or.inr rfl) (Jmv T.Js Sl hr (by decide) (Sk (pv 0) (Sk So Sm))))
   case O7=>
   refine' Sy ?O8
   case O8=>exact (Jn0 (Jnm (N:=(["_law_k","_law_letters","_law_base","_law_first","_law_cut"]:List Str)) (ini:=[none,some 2,some 4,some 3,some 5]) rfl (Jpc (by rfl) T.Jb2 (Sk (pv 1) Sm)) (λ_ _ _ _ _=>(Jmz (i:=0) (by decide +kernel:(["_law_k","_law_letters","_law_base","_law_first","_law_cut"]:List Str).Nodup) rfl (ye rfl))) (λ_ _ _ _ _=>Jnk) (λ_ _ _ _ _=>(Jn5 Yq (Jn1 Ycx (pv 1) (Jn5 Jp6 (Jn5 Jnn (pv 3) (Jn5 Jp2 So (pv 0))) So) (λ_ _=>rfl)) (Snj (K:=K) rfl F.plainAttrs_str F.slot_str_join F.type_str_join (Yd2 (K:=K) rfl) Jom (Sk (Jr1 (Ydh (K:=K) rfl) (pv 2) Jve (Jqk (Jn5 Jp6 (Jn5 Jnn (pv 4) (Jn5 Jp2 So (pv 0))) So))) Sm))))))
  refine ⟨_,rfl,p,26,rfl,st,by decide,by decide,λf H1 f0 f1 b1=>⟨_,rfl,by omega,by omega,λD hD=>?_⟩⟩
  have neD:D≠p:=b1.2.ne hD
  refine Jvn (D:=D) (λi σ H'=>∃(o:Option V) (ys:List Str),σ= [o,some (.str LET),some (.ref p)]/\H' D=some (.lst (ys.map V.str))/\ys.length=i/\(∀y∈ys,Ltr 1 y)/\But p H1 H')
   ?_ ?_ ?_
  ·exact ⟨none,[],rfl,Sr,rfl,(λy hy=>absurd hy (by simp)),But.of b1.2 (Sj.upd hD)⟩
  ·rintro i σ H' hi ⟨o,ys,rfl,hDs,hl,hw,b⟩
   refine Jo9 ⟨_,rfl,_,rfl,p,26,rfl,b.2,by decide,by decide,λr H2 r0 r1 b2=>?_⟩
   obtain ⟨c,hc,hat⟩:=Y9 (g:=LET) r0 (by
    have:LET.length=26:=by decide +kernel
    omega)
   refine ⟨LET,r,c,rfl,rfl,Jq7 _ (by decide +kernel),hat,ys.map V.str,b2.1 D _ neD hDs,?_,_,ys++ [⟨#[c]⟩],rfl,?_,?_,?_,(b.trans b2).new hD b1.2⟩
   ·rw [yf]
    exact Jno (by omega)
   ·rw [Sr,yab]
    rfl
   ·rw [yae]
    show ys.length+1=i+1
    omega
   ·intro y hy
    rcases ybh.mp hy with hy|hy
    ·exact hw y hy
    ·rw [List.mem_singleton.mp hy]
     exact Ltr.sign hc
  rintro σ H2 ⟨o,ys,rfl,hDs,hl,hw,b⟩
  have b2:=b1.trans b
  refine ⟨_,rfl,p,8,rfl,b2.2,by decide,by decide,λct H3 c0 c1 b3=>?_⟩
  have hD3:=b3.1 D _ neD hDs
  have b4:=b2.trans b3
  refine ⟨_,rfl,_,rfl,by omega,by omega,λD2 hD2=>?_⟩
  have ne2:D≠D2:=λe=>by rw [e,hD2] at hD3;cases hD3
  refine Jvn (D:=D2) (λi σ H'=>∃(o:Option V) (zs:List Str),σ= [o,some (.str LET),some (.ref D),some (.int f),some (.int ct)]/\H' D2=some (.lst (zs.map V.str))/\zs.length=i/\Nms f zs/\Sj H3 H')
   ⟨none,[],rfl,Sr,rfl,λk z e=>by simp at e,Sj.upd hD2⟩ ?_ ?_
  ·rintro i σ H' hi ⟨o,zs,rfl,hDs2,hl2,hz,sm⟩
   obtain ⟨c,hc,hat⟩:=Y9 (g:=LET) (r:=(f+11*(0+(i:Int)))%26) (by omega) (by
    have:LET.length=26:=by decide +kernel
    omega)
   refine Jo9 ⟨_,rfl,_,rfl,_,rfl,_,_,rfl,rfl,.inl (by decide),_,_,rfl,rfl,_,_,rfl,rfl,(show (0:Int) < 26 by decide),LET,_,c,rfl,rfl,Jq7 _ (by decide +kernel),hat,?_⟩
   refine ⟨rfl,_,rfl,_,rfl,_,rfl,_,_,rfl,rfl,.inl (by decide),_,_,rfl,rfl,_,_,rfl,rfl,(show (0:Int) < 8 by decide),_,rfl,D,_,rfl,Sv.of (sm _ _ hD3),λq hq=>?_⟩
   obtain ⟨us,eu,hus⟩:=Jz7 ys none (some ((ct+3*(0+(i:Int)))%8))
   have hu1:∀y∈us,Ltr 1 y:=λy hy=>hw y (hus.subset hy)
   have hul:us.length<=7:=by
    have:=hus.length_le
    omega
   have hs1:=Yb1 us λy hy=>(hu1 y hy).wd
   have jl:=Ycy us hu1
   have sq:=Sj.upd (o:=.lst (Jxq (ys.map V.str) none (some ((ct+3*(0+(i:Int)))%8)))) hq
   refine ⟨"",q,us,rfl,rfl,Sv.of (by rw [Sr,eu]),?_,_,_,rfl,rfl,?_,_,sq _ _ hDs2,?_,_,zs++ [(⟨#[c]⟩:Str)++Txt.join ("" :Str) us],rfl,?_,?_,?_,?_⟩
   ·have:("" :Str).length=0:=by decide +kernel
    rw [this]
    omega
   ·have:=jl.len
    show 1+_<=S6
    exact Jq7 _ (by omega)
   ·rw [yf]
    exact Jno (by omega)
   ·rw [Sr,yab]
    rfl
   ·rw [yae]
    show zs.length+1=i+1
    omega
   ·intro j z ej
    rw [yca] at ej
    split at ej
    ·exact hz j z ej
    ·have hj:j=i:=by
      have:=(yj.mp ej).1
      simp at this
      omega
     subst hj
     rw [hl2,Nat.sub_self] at ej
     cases ej
     refine ⟨c,_,rfl,⟨yan jl.len hul,jl.inn⟩,?_⟩
     rw [<-hat,Int.zero_add]
   ·intro b o e
    rw [Sz (Jmw e hD2)]
    exact sq _ _ (sm _ _ e)
  ·rintro σ H4 ⟨o,zs,rfl,hDs2,hl2,hz,sm⟩
   have hn:H D2=none:=by
    cases e:H D2 with
    |none=>rfl
    |some u=>
     by_cases hp:D2=p
     ·subst hp
      obtain ⟨_,_,_,q⟩:=b4.2
      rw [hD2] at q
      cases q
     ·rw [b4.1 _ _ hp e] at hD2
      cases hD2
   exact k D2 f zs H4 hn (b4.same sm) hDs2 (by omega) hz
theorem Jut:∀(ns:List Int) (lo m n:Int),Jof lo (ns.map V.int)=true->ns.getLast?=some m->m+1<=n->n<=12->Jof lo ((ns++ [n]).map V.int)=true
 | [],_,_,_,_,h,_,_=>by simp at h
 | [x],lo,m,n,h,hl,h1,h2=>by
  have e:x=m:=by simpa using hl
  subst e
  simp [Jof] at h⊢
  omega
 |x::y::r,lo,m,n,h,hl,h1,h2=>by
  have hl':(y::r).getLast?=some m:=by simpa using hl
  have h':((decide (lo<=x)&&decide (x<=12))&&Jof (x+1) ((y::r).map V.int))=true:=h
  rw [yx] at h'
  have ih:=Jut (y::r) (x+1) m n h'.2 hl' h1 h2
  show ((decide (lo<=x)&&decide (x<=12))&&Jof (x+1) (((y::r)++ [n]).map V.int))=true
  rw [h'.1,ih]
  rfl
theorem Jus:∀(ns:List Int) (lo m:Int),Jof lo (ns.map V.int)=true->ns.getLast?=some m->lo<=m/\m<=12
 | [],_,_,_,h=>by simp at h
 | [x],lo,m,h,hl=>by
  have e:x=m:=by simpa using hl
  subst e
  simpa [Jof] using h
 |x::y::r,lo,m,h,hl=>by
  have hl':(y::r).getLast?=some m:=by simpa using hl
  have h':((decide (lo<=x)&&decide (x<=12))&&Jof (x+1) ((y::r).map V.int))=true:=h
  rw [yx,yx,decide_eq_true_eq,decide_eq_true_eq] at h'
  have ih:=Jus (y::r) (x+1) m h'.2 hl'
  omega
structure Jnj where
 kd:Str
 ns:List Int
 sv:Option Int
def svV:Option Int->V
 |some i=>.int i
 |none=>.non
structure Sbd (G:Jnj):Prop where
 kd:Knd G.kd
 ns:Jrk (Jpo G.kd) (G.ns.map V.int)=true
 sv:∀i,G.sv=some i->0<=i/\i < G.ns.length
def Scu (p:S1) (H:Hp) (x:V) (G:Jnj):Prop:=∃t m:S1,x= .ref t/\H t=some (.tup [.str G.kd,.ref m,svV G.sv])/\H m=some (.lst (G.ns.map V.int))/\m≠p
theorem Scu.same {p:S1} {H H':Hp} {x:V} {G:Jnj} (s:Sj H H') (h:Scu p H x G):Scu p H' x G:=by obtain ⟨t,m,e,h1,h2,n⟩:=h;exact ⟨t,m,e,s _ _ h1,s _ _ h2,n⟩
theorem Scu.but {p:S1} {H H':Hp} {x:V} {G:Jnj} (st:Sbj H p) (b:But p H H') (h:Scu p H x G):Scu p H' x G:=
 let ⟨t,m,e,h1,h2,n⟩:=h
 ⟨t,m,e,b.1 _ _ (Jpt st h1 (λ_ _ _ z=>by cases z)) h1,b.1 _ _ n h2,n⟩
theorem Scu.move {p q:S1} {H:Hp} {x:V} {G:Jnj} (hq:H q=none) (h:Scu p H x G):Scu q H x G:=
 let ⟨t,m,e,h1,h2,_⟩:=h
 ⟨t,m,e,h1,h2,λz=>by rw [z,hq] at h2;cases h2⟩
inductive Yfe (vs:List V) (H:Hp) (Q:VK) (z3:XK):Prop where
 |mk (p:S1) (_:vs= [.ref p]) (_:Sbj H p) (_:∀(x:V) (G:Jnj) (H':Hp),But p H H'->Scu p H' x G->Sbd G->Q x H')
theorem Sao:Jmy ["_law_stream_here","_law_kind","_law_mark","_law_marks","_law_k","_law_stuck"] ["_law_stream_here"] (Jmt (top 71)):=⟨rfl,rfl,rfl,by decide +kernel,rfl,by decide +kernel,by decide +kernel⟩
theorem Jzk (T:Tx K mg a):Ss P w K mg base CX0 2 a.Jke a.Jkf ["_law_stream_here"] Yfe:=by
 have Sl:=Jpb (P:=P) (w:=w) (base:=base) T
 refine T.Ju.fn.ok Sao (λvs H Q E h=>?_) (λcdv A outer s H vs Q E hr h=>?_)
 ·obtain ⟨p,rfl,_⟩:=h
  rfl
 ·obtain ⟨p,rfl,st,k⟩:=h
  refine ⟨?t,?B,?C⟩
  case B=>
   refine' Sw ?O0 ?O1
   case O0=>exact (Jn3 (i:=1) Sao.nd rfl (ye rfl) (Jn1 Jne (Jol (Sk Jom (Sk Jom (Sk Jom Sm)))) (Jmv T.Js Sl hr (by decide) (Sk (pv 0) (Sk So Sm))) (λ_ _=>rfl)))
   case O1=>
   refine' Sw ?O2 ?O3
   case O2=>exact (Jn3 (i:=2) Sao.nd rfl (ye rfl) (Jn5 Jnn (Jmv T.Js Sl hr (by decide) (Sk (pv 0) (Sk (Jn5 Jo4 So (Jnd Jq5 (by rfl) T.Jaw Jst (Sk (Joi Jqz (pv 1) Jom (Jni _)) Sm))) Sm))) (Jnd Jq5 (by rfl) T.Jaw Jst (Sk (Joi Jqz (pv 1) Jom (Jni _)) Sm))))
   case O3=>
   refine' Sw ?O4 ?O5
   case O4=>exact (Jn3 (i:=3) Sao.nd rfl (ye rfl) (Jol (Sk (pv 2) Sm)))
   case O5=>
   refine' Sw ?O6 ?O7
   case O6=>
    refine' Jpj ?O8 ?O9 ?Oa ?Ob ?Oc
    case O8=>exact PassesOwn.never
    case O9=>exact rfl
    case Oa=>exact (Jpc (by rfl) T.Jb2 (Sk (Jmv T.Js Sl hr (by decide) (Sk (pv 0) (Sk So Sm))) Sm))
    case Ob=>exact (Jmz (i:=4) Sao.nd rfl (ye rfl))
    case Oc=>
    refine' Sw ?Od ?Oe
    case Od=>exact (Jn3 (i:=2) Sao.nd rfl (ye rfl) (Jn5 Jnn (Jn5 Jnn (pv 2) So) (Jmv T.Js Sl hr (by decide) (Sk (pv 0) (Sk So Sm)))))
    case Oe=>
    refine' Sy ?Of
    case Of=>exact (Jp0 (Js0 F.plainAttrs_list F.slot_list_append F.type_list_append Joz (pv 3) (Sk (pv 2) Sm)))
   case O7=>
   refine' Sw ?Og ?Oh
   case Og=>exact (Jn3 (i:=5) Sao.nd rfl (ye rfl) Jqd)
   case Oh=>
   refine' Sw ?Oi ?Oj
   case Oi=>
    refine' Jng ?Ok ?Ol ?Om
    case Ok=>exact (Jnp Jqz (Jmv T.Js Sl hr (by decide) (Sk (pv 0) (Sk So Sm))) So (Jni _))
    case Ol=>
     refine' Sy ?On
     case On=>exact (Jn3 (i:=5) Sao.nd rfl (ye rfl) (Jmv T.Js Sl hr (by decide) (Sk (pv 0) (Sk (Jmx Jn8 (by rfl) T.Jay Jnz (Sk (pv 3) Sm)) Sm))))
    case Om=>exact Jn6
   case Oj=>
   refine' Sy ?Oo
   case Oo=>exact (Jn0 (Jo8 (Sk (pv 1) (Sk (pv 3) (Sk (pv 5) Sm)))))
  refine ⟨(show 3<=S6 by decide),λL hL=>?_⟩
  have sL:=Sj.upd (o:=.lst [.str "step",.str "flap",.str "part"]) hL
  have bL:=But.of st sL
  have nL:L≠p:=st.ne hL
  refine ⟨_,rfl,p,3,rfl,bL.2,by decide,by decide,λr H1 r0 r1 b1=>?_⟩
  obtain ⟨kd,hat,hk⟩:∃kd:Str,atI [V.str "step",.str "flap",.str "part"] r=some (.str kd)/\Knd kd:=by
   have cs:r=0\/r=1\/r=2:=by omega
   rcases cs with rfl|rfl|rfl
   ·exact ⟨_,rfl,.inl rfl⟩
   ·exact ⟨_,rfl,.inr (.inl rfl)⟩
   ·exact ⟨_,rfl,.inr (.inr rfl)⟩
  refine ⟨L,_,r,_,rfl,rfl,Sv.of (b1.1 _ _ nL Sr),hat,?_⟩
  have bK:=bL.trans b1
  have el:Jpo kd=if decide (V.str kd=V.str "part")=true then 1 else 0:=by
   unfold Jpo
   by_cases h:kd=("part" :Str)
   ·rw [if_pos h,if_pos (decide_eq_true (by rw [h]))]
   ·rw [if_neg h,if_neg (by rw [decide_eq_false (λe=>h (V.str.inj e))];decide)]
  have hlo:Jpo kd=0\/Jpo kd=1:=by unfold Jpo;split <;> simp
  refine ⟨_,rfl,_,rfl,rfl,.inr ⟨_,rfl,_,_,rfl,rfl,?_⟩⟩
  rw [<-el]
  have hm:(0:Int) < 4 - Jpo kd/\(4 - Jpo kd).natAbs.log2 < 9000:=by rcases hlo with e|e <;> rw [e] <;> decide
  refine ⟨p,4 - Jpo kd,rfl,bK.2,hm.1,hm.2,λr2 H2 s0 s1 b2=>?_⟩
  refine ⟨_,rfl,rfl,.inr ⟨_,rfl,_,_,rfl,rfl,?_⟩⟩
  rw [<-el]
  have b02:=bK.trans b2
  refine ⟨_,rfl,(show 1<=S6 by decide),λl hl=>?_⟩
  have hl0:H l=none:=But.free st b02 hl
  have nlp:l≠p:=st.ne hl0
  have b3:But p H (upd H2 l (.lst [.int (r2+Jpo kd)])):=b02.updD hl0 nlp
  refine ⟨_,rfl,p,4,rfl,b3.2,by decide,by decide,λj H3 j0 j1 b4=>⟨j,rfl,by omega,by omega,?_⟩⟩
  refine Jpn (λi σ H'=>∃(o o':Option V) (ns:List Int) (m:Int),σ= [some (.ref p),some (.str kd),some (.int m),some (.ref l),o,o']/\But p H H'/\H' l=some (.lst (ns.map V.int))/\Jof (Jpo kd) (ns.map V.int)=true/\ns.getLast?=some m/\ns.length=i+1/\m<=3+3*i)
   ⟨_,_,[r2+Jpo kd],r2+Jpo kd,rfl,b3.trans b4,b4.1 _ _ nlp Sr,?_,rfl,by simp,by omega⟩ ?_ ?_
  ·simp [Jof]
   omega
  ·rintro i σ H4 hi ⟨o,o',ns,m,rfl,b5,h5,hmk,hla,hle,hmi⟩
   have hb:=Jus ns (Jpo kd) m hmk hla
   refine ⟨_,rfl,_,_,rfl,rfl,_,rfl,p,3,rfl,b5.2,by decide,by decide,λr' H5 t0 t1 b6=>?_⟩
   refine ⟨_,_,rfl,rfl,?_⟩
   have h6:=b6.1 _ _ nlp h5
   refine ⟨_,rfl,.inl ⟨rfl,_,Sv.of h6⟩,_,rfl,l,_,_,rfl,rfl,h6,by rw [yf];exact Jno (by omega),?_⟩
   refine ⟨_,_,ns++ [m+1+r'],m+1+r',rfl,(b5.trans b6).updD hl0 nlp,?_,Jut ns (Jpo kd) m _ hmk hla (by omega) (by omega),by simp,by simp;omega,by omega⟩
   rw [Sr]
   simp
  ·rintro σ H4 ⟨o,o',ns,m,rfl,b5,h5,hmk,hla,hle,hmi⟩
   have har:Jrk (Jpo kd) (ns.map V.int)=true:=by
    unfold Jrk
    rw [hmk,Bool.and_true,yf]
    exact decide_eq_true (by omega)
   refine ⟨_,rfl,p,6,rfl,b5.2,by decide,by decide,λr6 H6 _ _ b6=>⟨rfl,_,rfl,Sn2 (λ_=>?_) (λ_=>?_)⟩⟩
   ·have h6:=b6.1 _ _ nlp h5
    refine ⟨_,rfl,_,rfl,l,_,rfl,.inl (Sv.of h6),p,_,rfl,(b5.trans b6).2,by rw [yf];omega,?_,λr7 H7 u0 u1 b7=>?_⟩
    ·rw [yf]
     have:((ns.length:Int)).natAbs<=4:=by omega
     exact Nat.lt_of_le_of_lt (Nat.log2_le_self _) (by omega)
    rw [yf] at u1
    have h7:=b7.1 _ _ nlp h6
    refine ⟨_,rfl,_,rfl,_,rfl,(show 3<=S6 by decide),λt ht=>?_⟩
    have sT:=Sj.upd (o:=.tup [.str kd,.ref l,svV (some r7)]) ht
    refine k (.ref t) ⟨kd,ns,some r7⟩ _ (((b5.trans b6).trans b7).same sT) ⟨t,l,rfl,Sr,sT _ _ h7,nlp⟩ ⟨hk,har,λi e=>?_⟩
    cases e
    exact ⟨u0,u1⟩
   ·have h6:=b6.1 _ _ nlp h5
    refine ⟨_,rfl,_,rfl,_,rfl,(show 3<=S6 by decide),λt ht=>?_⟩
    have sT:=Sj.upd (o:=.tup [.str kd,.ref l,svV (none)]) ht
    refine k (.ref t) ⟨kd,ns,none⟩ _ ((b5.trans b6).same sT) ⟨t,l,rfl,Sr,sT _ _ h6,nlp⟩ ⟨hk,har,λi e=>?_⟩
    cases e
structure Jp7 where
 z:Str
 lo:Int
 hi:Int
 st:Int
 rn:Int
 G:Jnj
structure Jx1 (B:Jp7):Prop where
 lo:0<=B.lo/\B.lo<=12
 hi:B.lo<=B.hi/\B.hi<=12
 st:B.lo<=B.st/\B.st<=B.hi
 rn:0<=B.rn/\B.rn<=6
 G:Sbd B.G
def Sct (p:S1) (H:Hp) (x:V) (B:Jp7):Prop:=∃(t:S1) (g:V),x= .ref t/\H t=some (.tup [.str B.z,.int B.lo,.int B.hi,.int B.st,.int B.rn,g])/\Scu p H g B.G
theorem Sct.same {p:S1} {H H':Hp} {x:V} {B:Jp7} (s:Sj H H') (h:Sct p H x B):Sct p H' x B:=by obtain ⟨t,g,e,h1,h2⟩:=h;exact ⟨t,g,e,s _ _ h1,h2.same s⟩
theorem Sct.but {p:S1} {H H':Hp} {x:V} {B:Jp7} (st:Sbj H p) (b:But p H H') (h:Sct p H x B):Sct p H' x B:=
 let ⟨t,g,e,h1,h2⟩:=h
 ⟨t,g,e,b.1 _ _ (Jpt st h1 (λ_ _ _ z=>by cases z)) h1,h2.but st b⟩
theorem Sct.move {p q:S1} {H:Hp} {x:V} {B:Jp7} (hq:H q=none) (h:Sct p H x B):Sct q H x B:=
 let ⟨t,g,e,h1,h2⟩:=h
 ⟨t,g,e,h1,h2.move hq⟩
inductive Ydn (vs:List V) (H:Hp) (Q:VK) (z3:XK):Prop where
 |mk (p:S1) (z:Str) (_:vs= [.ref p,.str z]) (_:Sbj H p) (_:∀(x:V) (B:Jp7) (H':Hp),But p H H'->Sct p H' x B->Jx1 B->B.z=z->Q x H')
theorem Jrd {i:Int} (h:i.natAbs<=1000):i.natAbs.log2 < 9000:=Nat.lt_of_le_of_lt (Nat.log2_le_self _) (by omega)
theorem Sbv:Jmy ["_law_stream_here","_law_name","_law_low","_law_high","_law_start"] ["_law_stream_here","_law_name"] (Jmt (top 72)):=⟨rfl,rfl,rfl,by decide +kernel,rfl,by decide +kernel,by decide +kernel⟩
theorem Jy6 (T:Tx K mg a):Ss P w K mg base CX0 3 a.Jkg a.Jkh ["_law_stream_here","_law_name"] Ydn:=by
 have Sl:=Jpb (P:=P) (w:=w) (base:=base) T
 have Sgg:=Jzk (P:=P) (w:=w) (base:=base) T
 refine T.Jv.fn.ok Sbv (λvs H Q E h=>?_) (λcdv A outer s H vs Q E hr h=>?_)
 ·obtain ⟨p,z,rfl,_⟩:=h
  rfl
 ·obtain ⟨p,z,rfl,st,k⟩:=h
  refine ⟨?t,?B,?C⟩
  case B=>
   refine' Sw ?O0 ?O1
   case O0=>exact (Jn3 (i:=2) Sbv.nd rfl (ye rfl) (Jmv T.Js Sl hr (by decide) (Sk (pv 0) (Sk So Sm))))
   case O1=>
   refine' Sw ?O2 ?O3
   case O2=>exact (Jn3 (i:=3) Sbv.nd rfl (ye rfl) (Jn5 Jnn (pv 2) (Jmv T.Js Sl hr (by decide) (Sk (pv 0) (Sk (Jn5 Jo4 So (pv 2)) Sm)))))
   case O3=>
   refine' Sw ?O4 ?O5
   case O4=>exact (Jn3 (i:=4) Sbv.nd rfl (ye rfl) (Jn5 Jnn (pv 2) (Jmv T.Js Sl hr (by decide) (Sk (pv 0) (Sk (Jn5 Jnn (Jn5 Jo4 (pv 3) (pv 2)) So) Sm)))))
   case O5=>
   refine' Sy ?O6
   case O6=>
   refine' Jn0 ?O7
   case O7=>
   refine' Jo8 ?O8
   case O8=>
   refine' pa6 ?O9 ?Oa ?Ob ?Oc ?Od ?Oe
   case O9=>exact (pv 1)
   case Oa=>exact (pv 2)
   case Ob=>exact (pv 3)
   case Oc=>exact (pv 4)
   case Od=>exact (Jmv T.Js Sl hr (by decide) (Sk (pv 0) (Sk So Sm)))
   case Oe=>exact (Jmv T.Ju Sgg hr (by decide) (Sk (pv 0) Sm))
  refine ⟨_,rfl,p,13,rfl,st,by decide,by decide,λlo H1 l0 l1 b1=>?_⟩
  refine ⟨_,rfl,_,rfl,_,rfl,_,_,rfl,rfl,p,13 - lo,rfl,b1.2,by omega,Jrd (by omega),λhi H2 h0 h1 b2=>⟨_,_,rfl,rfl,?_⟩⟩
  refine ⟨_,rfl,_,rfl,_,rfl,_,rfl,_,_,rfl,rfl,_,_,rfl,rfl,p,lo+hi - lo+1,rfl,b2.2,by omega,Jrd (by omega),λsv H3 s0 s1 b3=>⟨_,_,rfl,rfl,?_⟩⟩
  refine ⟨_,rfl,_,rfl,_,rfl,_,rfl,_,rfl,p,7,rfl,b3.2,by decide,by decide,λrn H4 n0 n1 b4=>?_⟩
  refine ⟨_,rfl,p,rfl,b4.2,λg G H5 b5 gt gg=>?_⟩
  refine ⟨(show 6<=S6 by decide),λt ht=>?_⟩
  have sT:=Sj.upd (o:=.tup [.str z,.int lo,.int (lo+hi),.int (lo+sv),.int rn,g]) ht
  exact k (.ref t) ⟨z,lo,lo+hi,lo+sv,rn,G⟩ _ (((((b1.trans b2).trans b3).trans b4).trans b5).same sT) ⟨t,g,rfl,Sr,gt.same sT⟩ ⟨by dsimp only;omega,by dsimp only;omega,by dsimp only;omega,by dsimp only;omega,gg⟩ rfl
theorem Yf6 {bs:List V} {ns:List Int} (h:∀b∈bs,∃o,b=V.ref o) (hn:1<=ns.length):bs≠ns.map V.int:=by
 intro e
 cases ns with
 |nil=>simp at hn
 |cons n r=>
  obtain ⟨o,q⟩:=h (.int n) (by rw [e];simp)
  cases q
theorem Sbd.len {G:Jnj} (h:Sbd G):1<=G.ns.length/\G.ns.length<=4:=by
 have q:=h.ns
 unfold Jrk at q
 rw [yx,decide_eq_true_eq,yf] at q
 exact q.1
theorem Scu.put {p D:S1} {H:Hp} {x:V} {G:Jnj} {bs:List V} {o:HO} (g:Sbd G) (hD:H D=some (.lst bs)) (hb:∀b∈bs,∃o,b=V.ref o) (h:Scu p H x G):Scu p (upd H D o) x G:=by
 obtain ⟨t,m,e,h1,h2,n⟩:=h
 refine ⟨t,m,e,?_,?_,n⟩
 ·rw [Sz (λz=>by rw [z,hD] at h1;cases h1)]
  exact h1
 ·rw [Sz (λz=>by rw [z,hD] at h2;cases h2;exact Yf6 hb g.len.1 rfl)]
  exact h2
theorem Sct.put {p D:S1} {H:Hp} {x:V} {B:Jp7} {bs:List V} {o:HO} (g:Jx1 B) (hD:H D=some (.lst bs)) (hb:∀b∈bs,∃o,b=V.ref o) (h:Sct p H x B):Sct p (upd H D o) x B:=by
 obtain ⟨t,y,e,h1,h2⟩:=h
 refine ⟨t,y,e,?_,h2.put g.G hD hb⟩
 rw [Sz (λz=>by rw [z,hD] at h1;cases h1)]
 exact h1
def BTL (p:S1) (H:Hp):List V->List Jp7->Prop
 | [],[]=>True
 |x::xs,B::Bs=>Sct p H x B/\BTL p H xs Bs
 |_,_=>False
theorem BTL.map {p q:S1} {H H':Hp} (f:∀x B,Jx1 B->Sct p H x B->Sct q H' x B):∀{xs:List V} {Bs:List Jp7},(∀B∈Bs,Jx1 B)->BTL p H xs Bs->BTL q H' xs Bs:=by
 intro xs
 induction xs with
 |nil=>
  intro Bs g h
  cases Bs with
  |nil=>exact True.intro
  |cons B Bs=>exact False.elim h
 |cons x xs ih=>
  intro Bs g h
  cases Bs with
  |nil=>exact False.elim h
  |cons B Bs=>exact ⟨f _ _ (g _ yak) (yap h),ih (λB hB=>g B (yr _ hB)) (yaq h)⟩
theorem BTL.snoc {p:S1} {H:Hp} {x:V} {B:Jp7} (h:Sct p H x B):∀{xs:List V} {Bs:List Jp7},BTL p H xs Bs->BTL p H (xs++ [x]) (Bs++ [B]):=by
 intro xs
 induction xs with
 |nil=>
  intro Bs q
  cases Bs with
  |nil=>exact ⟨h,True.intro⟩
  |cons B Bs=>exact False.elim q
 |cons x xs ih=>
  intro Bs q
  cases Bs with
  |nil=>exact False.elim q
  |cons B Bs=>exact ⟨yap q,ih (yaq q)⟩
theorem BTL.refs {p:S1} {H:Hp}:∀{xs:List V} {Bs:List Jp7},BTL p H xs Bs->∀b∈xs,∃o,b=V.ref o
 | [],[],_,b,hb=>by simp at hb
 |x::xs,B::Bs,⟨⟨t,g,e,_⟩,tl⟩,b,hb=>by
  rcases ym.mp hb with rfl|hb
  ·exact ⟨t,e⟩
  ·exact BTL.refs tl b hb
theorem BTL.len {p:S1} {H:Hp}:∀{xs:List V} {Bs:List Jp7},BTL p H xs Bs->xs.length=Bs.length
 | [],[],_=>rfl
 |_::_,_::_,⟨_,t⟩=>by rw [yal,yal,BTL.len t]
structure Jrb where
 z:Str
 b:Str
 wt:Int
def Sdi (H:Hp) (x:V) (B:Jrb):Prop:=∃t:S1,x= .ref t/\H t=some (.tup [.str B.z,.str B.b,.int B.wt])
theorem Sdi.same {H H':Hp} {x:V} {B:Jrb} (s:Sj H H') (h:Sdi H x B):Sdi H' x B:=by obtain ⟨t,e,h1⟩:=h;exact ⟨t,e,s _ _ h1⟩
theorem Sdi.but {p:S1} {H H':Hp} {x:V} {B:Jrb} (st:Sbj H p) (b:But p H H') (h:Sdi H x B):Sdi H' x B:=
 let ⟨t,e,h1⟩:=h
 ⟨t,e,b.1 _ _ (Jpt st h1 (λ_ _ _ z=>by cases z)) h1⟩
theorem Sdi.put {D:S1} {H:Hp} {x:V} {B:Jrb} {bs:List V} {o:HO} (hD:H D=some (.lst bs)) (h:Sdi H x B):Sdi (upd H D o) x B:=by
 obtain ⟨t,e,h1⟩:=h
 refine ⟨t,e,?_⟩
 rw [Sz (λz=>by rw [z,hD] at h1;cases h1)]
 exact h1
def TTL (H:Hp):List V->List Jrb->Prop
 | [],[]=>True
 |x::xs,B::Bs=>Sdi H x B/\TTL H xs Bs
 |_,_=>False
theorem TTL.map {H H':Hp} (f:∀x B,Sdi H x B->Sdi H' x B):∀{xs:List V} {Bs:List Jrb},TTL H xs Bs->TTL H' xs Bs:=by
 intro xs
 induction xs with
 |nil=>
  intro Bs h
  cases Bs with
  |nil=>exact True.intro
  |cons B Bs=>exact False.elim h
 |cons x xs ih=>
  intro Bs h
  cases Bs with
  |nil=>exact False.elim h
  |cons B Bs=>exact ⟨f _ _ (yap h),ih (yaq h)⟩
theorem TTL.snoc {H:Hp} {x:V} {B:Jrb} (h:Sdi H x B):∀{xs:List V} {Bs:List Jrb},TTL H xs Bs->TTL H (xs++ [x]) (Bs++ [B]):=by
 intro xs
 induction xs with
 |nil=>
  intro Bs q
  cases Bs with
  |nil=>exact ⟨h,True.intro⟩
  |cons B Bs=>exact False.elim q
 |cons x xs ih=>
  intro Bs q
  cases Bs with
  |nil=>exact False.elim q
  |cons B Bs=>exact ⟨yap q,ih (yaq q)⟩
theorem TTL.len {H:Hp}:∀{xs:List V} {Bs:List Jrb},TTL H xs Bs->xs.length=Bs.length
 | [],[],_=>rfl
 |_::_,_::_,⟨_,t⟩=>by rw [yal,yal,TTL.len t]
structure Jn4 where
 c:Int
 g:Int
 Bs:List Jp7
 Ts:List Jrb
structure Jp8 (R:Jn4):Prop where
 c:0<=R.c/\R.c<=12
 g:0<=R.g/\R.g<=R.c
 n:1<=R.Bs.length/\R.Bs.length<=16
 Bs:∀B∈R.Bs,Jx1 B/\Jru B.z=true/\Ltr 8 B.z
 nd:(R.Bs.map (·.z)).Nodup
 tn:R.Ts.length<=3
 Ts:∀B∈R.Ts,Jru B.z=true/\Ltr 8 B.z/\B.b∈R.Bs.map (·.z)/\1<=B.wt/\B.wt<=6
 td:(R.Ts.map (·.z)).Nodup
def Sci (p:S1) (H:Hp) (x:V) (R:Jn4):Prop:=∃(t lb lt:S1) (bs ts:List V),x= .ref t/\H t=some (.tup [.int R.c,.int R.g,.ref lb,.ref lt])/\H lb=some (.lst bs)/\BTL p H bs R.Bs/\H lt=some (.lst ts)/\TTL H ts R.Ts/\lb≠p/\lt≠p
inductive Ydp (vs:List V) (H:Hp) (Q:VK) (z3:XK):Prop where
 |mk (c:Int) (_:vs= [.int c]) (_:∀(x:V) (R:Jn4) (p:S1) (H':Hp),H p=none->Sj H H'->Sbj H' p->Sci p H' x R->Jp8 R->Q x H')
theorem Sae:Jmy ["_law_cell_here","_law_stream_here","_law_many","_law_cloud","_law_gain","_law_names_here","_law_basins","_law_towns","_law_name"] ["_law_cell_here"] (Jmt (top 73)):=⟨rfl,rfl,rfl,by decide +kernel,rfl,by decide +kernel,by decide +kernel⟩
theorem Jy8 (T:Tx K mg a):Ss P w K mg base CX0 4 a.Jki a.Jkj ["_law_cell_here"] Ydp:=by
 have Sl:=Jpb (P:=P) (w:=w) (base:=base) T
 have Sdn:=Jy7 (P:=P) (w:=w) (base:=base) T
 have Sfw:=Jy6 (P:=P) (w:=w) (base:=base) T
 have Scd:=Jsq (P:=P) (w:=w) (base:=base) T
 refine T.Jw.fn.ok Sae (λvs H Q E h=>?_) (λcdv A outer s H vs Q E hr h=>?_)
 ·obtain ⟨c,rfl,_⟩:=h
  rfl
 ·obtain ⟨c,rfl,k⟩:=h
  refine ⟨?t,?B,?C⟩
  case B=>
   refine' Sw ?O0 ?O1
   case O0=>exact (Jn3 (i:=1) Sae.nd rfl (Or.inr rfl) (Jmv T.Jr Scd hr (by decide) (Sk (pv 0) Sm)))
   case O1=>
   refine' Sw ?O2 ?O3
   case O2=>exact (Jn3 (i:=2) Sae.nd rfl (ye rfl) (Jn1 Jne (Jol (pa8 So So So So So So (Jn5 Jnn So (Jmv T.Js Sl hr (by decide) (Sk (pv 1) (Sk So Sm)))) (Jn5 Jnn So (Jmv T.Js Sl hr (by decide) (Sk (pv 1) (Sk So Sm)))))) (Jmv T.Js Sl hr (by decide) (Sk (pv 1) (Sk So Sm))) (λ_ _=>rfl)))
   case O3=>
   refine' Sw ?O4 ?O5
   case O4=>exact (Jn3 (i:=3) Sae.nd rfl (ye rfl) (Jmv T.Js Sl hr (by decide) (Sk (pv 1) (Sk So Sm))))
   case O5=>
   refine' Sw ?O6 ?O7
   case O6=>exact (Jn3 (i:=4) Sae.nd rfl (ye rfl) (Jmv T.Js Sl hr (by decide) (Sk (pv 1) (Sk (Jn5 Jnn (pv 3) So) Sm))))
   case O7=>
   refine' Sw ?O8 ?O9
   case O8=>exact (Jn3 (i:=5) Sae.nd rfl (ye rfl) (Jmv T.Jt Sdn hr (by decide) (Sk (pv 1) (Sk (pv 2) Sm))))
   case O9=>
   refine' Sw ?Oa ?Ob
   case Oa=>exact (Jyh (i:=6) (N:=(["_law_name","_law_stream_here"]:List Str)) (ini:=[none,some 1]) Sae.nd rfl (ye rfl) rfl (Jo1 (pv 5)) (λ_ _ _ _ _=>(Jmz (i:=0) (by decide +kernel:(["_law_name","_law_stream_here"]:List Str).Nodup) rfl (ye rfl))) (λ_ _ _ _ _=>Jnk) (λ_ _ _ _ _=>(Jmv T.Jv Sfw hr (by decide) (Sk (pv 1) (Sk (pv 0) Sm)))))
   case Ob=>
   refine' Sw ?Oc ?Od
   case Oc=>exact (Jn3 (i:=7) Sae.nd rfl (ye rfl) (Jol Sm))
   case Od=>
   refine' Sw ?Oe ?Of
   case Oe=>
    refine' Jpj ?Og ?Oh ?Oi ?Oj ?Ok
    case Og=>exact PassesOwn.never
    case Oh=>exact rfl
    case Oi=>exact (Jo1 (Jr1 Yay (Jmv T.Jt Sdn hr (by decide) (Sk (pv 1) (Sk So Sm))) Jve (Jqk (Jmv T.Js Sl hr (by decide) (Sk (pv 1) (Sk So Sm))))))
    case Oj=>exact (Jmz (i:=8) Sae.nd rfl (ye rfl))
    case Ok=>
    refine' Sy ?Ol
    case Ol=>exact (Jp0 (Js0 F.plainAttrs_list F.slot_list_append F.type_list_append Joz (pv 7) (Sk (Jo8 (Sk (pv 8) (Sk (Jn1 Jne (pv 5) (Jmv T.Js Sl hr (by decide) (Sk (pv 1) (Sk (pv 2) Sm))) (λ_ _=>rfl)) (Sk (Jn5 Jnn So (Jmv T.Js Sl hr (by decide) (Sk (pv 1) (Sk So Sm)))) Sm)))) Sm)))
   case Of=>
   refine' Sy ?Om
   case Om=>
   refine' Jn0 ?On
   case On=>
   refine' Jo8 ?Oo
   case Oo=>
   refine' pa4 ?Op ?Oq ?Or ?Os
   case Op=>exact (pv 3)
   case Oq=>exact (pv 4)
   case Or=>exact (pv 6)
   case Os=>exact (pv 7)
  refine ⟨_,rfl,c,rfl,λp H1 hp s1 st=>?_⟩
  refine ⟨_,rfl,p,12,rfl,st,by decide,by decide,λr1 H2 r10 r11 b1=>⟨_,_,rfl,rfl,?_⟩⟩
  refine ⟨_,rfl,p,16,rfl,b1.2,by decide,by decide,λr2 H3 r20 r21 b2=>⟨_,_,rfl,rfl,(show 8<=S6 by decide),λL hL=>?_⟩⟩
  have b12:=b1.trans b2
  have nL:L≠p:=b12.2.ne hL
  have b3:=But.of b12.2 (Sj.upd (o:=.lst [V.int 1,V.int 2,V.int 3,V.int 4,V.int 2,V.int 3,V.int (5+r1),V.int (1+r2)]) hL)
  refine ⟨_,rfl,p,8,rfl,b3.2,by decide,by decide,λr3 H4 r30 r31 b4=>?_⟩
  obtain ⟨n,hat,n1,n16⟩:∃n:Nat,atI [V.int 1,V.int 2,V.int 3,V.int 4,V.int 2,V.int 3,V.int (5+r1),V.int (1+r2)] r3=some (.int n)/\1<=n/\n<=16:=by
   have cs:r3=0\/r3=1\/r3=2\/r3=3\/r3=4\/r3=5\/r3=6\/r3=7:=by omega
   rcases cs with rfl|rfl|rfl|rfl|rfl|rfl|rfl|rfl
   ·exact ⟨1,rfl,by omega,by omega⟩
   ·exact ⟨2,rfl,by omega,by omega⟩
   ·exact ⟨3,rfl,by omega,by omega⟩
   ·exact ⟨4,rfl,by omega,by omega⟩
   ·exact ⟨2,rfl,by omega,by omega⟩
   ·exact ⟨3,rfl,by omega,by omega⟩
   ·refine ⟨(5+r1).toNat,?_,by omega,by omega⟩
    rw [Int.toNat_of_nonneg (by omega)]
    rfl
   ·refine ⟨(1+r2).toNat,?_,by omega,by omega⟩
    rw [Int.toNat_of_nonneg (by omega)]
    rfl
  refine ⟨L,_,r3,_,rfl,rfl,Sv.of (b4.1 _ _ nL Sr),hat,?_⟩
  have b5:=(b12.trans b3).trans b4
  refine ⟨_,rfl,p,13,rfl,b5.2,by decide,by decide,λcl H5 c0 c1 b6=>?_⟩
  refine ⟨_,rfl,_,rfl,_,_,rfl,rfl,p,cl+1,rfl,b6.2,by omega,Jrd (by omega),λgn H6 g0 g1 b7=>?_⟩
  refine ⟨_,rfl,_,rfl,p,n,rfl,b7.2,by omega,λl f zs H7 hl b8 hl7 len nms=>?_⟩
  have b57:=(b5.trans b6).trans (b7.trans b8)
  have nlp:l≠p:=b7.2.ne hl
  refine ⟨_,rfl,l,rfl,⟨_,Sv.of hl7⟩,λD hD=>?_⟩
  have nD:D≠p:=b57.2.ne hD
  refine Jok (K:=K) (a:=l) (xs:=zs.map V.str) (D:=D) (λi σ H'=>∃(o:Option V) (bs:List V) (Bs:List Jp7),σ= [o,some (.ref p)]/\H' D=some (.lst bs)/\BTL p H' bs Bs/\Bs.length=i/\(∀B∈Bs,Jx1 B)/\Bs.map (·.z)=zs.take i/\But p H7 H') ?_ ?_ ?_ ?_
  ·exact ⟨_,[],[],rfl,Sr,True.intro,rfl,λB hB=>absurd hB (by simp),rfl,But.of b57.2 (Sj.upd hD)⟩
  ·rintro i σ H' _ ⟨o,bs,Bs,rfl,_,_,_,_,_,b⟩
   exact Sv.of (b.1 _ _ nlp hl7)
  ·rintro i x σ H' hx ⟨o,bs,Bs,rfl,hDs,btl,hln,good,names,b⟩
   rw [yg] at hx
   cases ez:zs[i]? with
   |none=>rw [ez] at hx;cases hx
   |some z=>
    rw [ez] at hx
    cases hx
    have hi:i < zs.length:=(yj.mp ez).1
    refine Jo9 ⟨_,rfl,_,rfl,p,z,rfl,b.2,λx B H8 b9 bt bg bz=>?_⟩
    have btl8:=BTL.map (λx B _ h=>h.but b.2 b9) good btl
    have hD8:=b9.1 _ _ nD hDs
    have blen:=btl.len
    refine ⟨bs,hD8,Jno (by omega),_,bs++ [x],Bs++ [B],rfl,Sr,?_,by rw [yae];show Bs.length+1=i+1;omega,?_,?_,(b.trans b9).updD hD nD⟩
    ·exact BTL.snoc (bt.put bg hD8 btl.refs) (BTL.map (λx B g h=>h.put g hD8 btl.refs) good btl8)
    ·intro B' hB'
     rcases ybh.mp hB' with h|h
     ·exact good B' h
     ·rw [List.mem_singleton.mp h]
      exact bg
    ·rw [yab,names,yag,ez,List.map_singleton,bz]
     rfl
  rintro σ H8 ⟨o,bs,Bs,rfl,hDs,btl,hln,good,names,b9⟩
  rw [yf] at hln names
  rw [List.take_length] at names
  have st8:Sbj H8 p:=b9.2
  have hl8:=b9.1 _ _ nlp hl7
  refine ⟨(show 0<=S6 by decide),λlt hlt=>?_⟩
  have nlt:lt≠p:=st8.ne hlt
  have sA:=Sj.upd (o:=.lst []) hlt
  have bA:=But.of st8 sA
  refine ⟨_,rfl,p,3,rfl,bA.2,by omega,λl2 f2 ys HB hl2 bB hB len2 nms2=>?_⟩
  have nl2:l2≠p:=bA.2.ne hl2
  refine ⟨_,rfl,p,4,rfl,bB.2,by decide,by decide,λr4 HC r40 r41 bC=>⟨_,rfl,l2,_,rfl,Sv.of (bC.1 _ _ nl2 hB),λq hq=>?_⟩⟩
  obtain ⟨us,eu,hus⟩:=Jz7 ys none (some r4)
  rw [eu]
  have bD:=(bA.trans bB).trans bC
  have nq:q≠p:=bD.2.ne hq
  have hltC:HC lt=some (.lst []):=bC.1 _ _ nlt (bB.1 _ _ nlt Sr)
  have nql:q≠lt:=λe=>by rw [e,hltC] at hq;cases hq
  have sq:=Sj.upd (o:=.lst (us.map V.str)) hq
  have ul:us.length<=3:=by
   have:=hus.length_le
   omega
  refine ⟨q,rfl,⟨_,Sv.of Sr⟩,?_⟩
  refine Jtd (xs:=us.map V.str) (λi σ H'=>∃(o:Option V) (ts:List V) (Ts:List Jrb),σ= [some (.int c),some (.ref p),some (.int n),some (.int cl),some (.int gn),some (.ref l),some (.ref D),some (.ref lt),o]/\H' lt=some (.lst ts)/\TTL H' ts Ts/\Ts.length=i/\Ts.map (·.z)=us.take i/\(∀B∈Ts,B.b∈zs/\1<=B.wt/\B.wt<=6)/\But p H8 H'/\H' q=some (.lst (us.map V.str))) ?_ ?_ ?_ ?_
  ·exact ⟨_,[],[],rfl,sq _ _ hltC,True.intro,rfl,rfl,λB hB=>absurd hB (by simp),bD.same sq,Sr⟩
  ·rintro i σ H' _ ⟨_,_,_,_,_,_,_,_,_,_,h⟩
   exact Sv.of h
  ·rintro i x σ H' hx ⟨o,ts,Ts,rfl,hts,ttl,tln,tnm,tgd,b,hq'⟩
   rw [yg] at hx
   cases ez:us[i]? with
   |none=>rw [ez] at hx;cases hx
   |some u=>
    rw [ez] at hx
    cases hx
    have hi:i < us.length:=(yj.mp ez).1
    have tlen:=ttl.len
    refine ⟨_,rfl,.inl ⟨rfl,_,Sv.of hts⟩,_,rfl,_,rfl,_,rfl,_,rfl,p,n,rfl,b.2,by omega,Jrd (by omega),λr5 HE e0 e1 bE=>?_⟩
    have hr5:r5.toNat < zs.length:=by omega
    refine ⟨l,_,r5,.str zs[r5.toNat],rfl,rfl,Sv.of (bE.1 _ _ nlp (b.1 _ _ nlp hl8)),Smm (j:=r5.toNat) (by omega) (by rw [yg,yh hr5];rfl),?_⟩
    refine ⟨_,rfl,p,6,rfl,bE.2,by decide,by decide,λr6 HF f0 f1 bF=>⟨_,_,rfl,rfl,(show 3<=S6 by decide),λt ht=>?_⟩⟩
    have bG:=bE.trans bF
    have htsF:=bG.1 _ _ nlt hts
    have sT:=Sj.upd (o:=.tup [.str u,.str zs[r5.toNat],.int (1+r6)]) ht
    refine ⟨lt,_,_,rfl,rfl,sT _ _ htsF,Jno (by omega),?_⟩
    refine ⟨_,ts++ [.ref t],Ts++ [⟨u,zs[r5.toNat],1+r6⟩],rfl,Sr,?_,by rw [yae];show Ts.length+1=i+1;omega,?_,?_,((b.trans bG).same sT).updD hlt nlt,?_⟩
    ·refine TTL.snoc ?_ (TTL.map (λx B h=>(((h.but b.2 bG).same sT).put (sT _ _ htsF))) ttl)
     exact Sdi.put (sT _ _ htsF) ⟨t,rfl,Sr⟩
    ·rw [yab,tnm,yag,ez]
     rfl
    ·intro B hB
     rcases ybh.mp hB with h|h
     ·exact tgd B h
     ·rw [List.mem_singleton.mp h]
      exact ⟨yax hr5,by dsimp only;omega,by dsimp only;omega⟩
    ·rw [Sz nql]
     exact sT _ _ (bG.1 _ _ nq hq')
  ·rintro σ HZ ⟨o,ts,Ts,rfl,hts,ttl,tln,tnm,tgd,b,_⟩
   rw [yf] at tln tnm
   rw [List.take_length] at tnm
   refine ⟨_,rfl,_,rfl,_,rfl,_,rfl,(show 4<=S6 by decide),λt ht=>?_⟩
   have sT:=Sj.upd (o:=.tup [.int cl,.int gn,.ref D,.ref lt]) ht
   have bZ:=((b57.trans b9).trans b).same sT
   refine k (.ref t) ⟨cl,gn,Bs,Ts⟩ p _ hp (λx u e=>bZ.1 _ _ (Jmw e hp) (s1 _ _ e)) bZ.2 ⟨t,D,lt,bs,ts,rfl,Sr,sT _ _ (b.1 _ _ nD hDs),BTL.map (λx B _ h=>(h.but st8 b).same sT) good btl,sT _ _ hts,TTL.map (λx B h=>h.same sT) ttl,nD,nlt⟩ ?_
   have nameOf:∀(f:Int) (zs:List Str),Nms f zs->∀z∈zs,Jru z=true/\Ltr 8 z:=λf zs h z hz=>by
    obtain ⟨k,hk,rfl⟩:=List.mem_iff_getElem.mp hz
    have:=(h k _ (yh hk)).mem
    exact ⟨this.2,this.1⟩
   refine ⟨by dsimp only;omega,by dsimp only;omega,by dsimp only;omega,λB hB=>⟨good B hB,nameOf f zs nms _ (by rw [<-names];exact yau hB)⟩,by dsimp only;rw [names];exact nms.nodup (by omega),by dsimp only;omega,λB hB=>?_,?_⟩
   ·have hu:B.z∈us:=by rw [<-tnm];exact yau hB
    have h1:=nameOf f2 ys nms2 _ (hus.subset hu)
    have h2:=tgd B hB
    exact ⟨h1.1,h1.2,by dsimp only;rw [names];exact h2.1,h2.2⟩
   ·dsimp only
    rw [tnm]
    exact hus.nodup (nms2.nodup (by omega))
def nOf (G:Jnj):Nat:=match G.sv with
 |some _=>1
 |none=>G.ns.length
def GX (a:Ad) (H:Hp) (x:V) (G:Jnj):Prop:=∃(g:S1),Sbr (cOf a G.kd) H g (G.ns.map V.int)/\match G.sv with
 |none=>x= .ref g
 |some j=>∃s dx,x= .ref s/\H s=some (.ins a.Jmf dx [("gate",.ref g),("setting",.int j)])
theorem GX.same {a:Ad} {H H':Hp} {x:V} {G:Jnj} (s:Sj H H') (h:GX a H x G):GX a H' x G:=by
 obtain ⟨g,ga,r⟩:=h
 refine ⟨g,ga.same s,?_⟩
 cases e:G.sv with
 |none=>rw [e] at r;exact r
 |some j=>
  rw [e] at r
  obtain ⟨q,dx,r1,r2⟩:=r
  exact ⟨q,dx,r1,s _ _ r2⟩
theorem GX.gs {K:Se} {a:Ad} {H:Hp} {x:V} {G:Jnj} (gg:Sbd G) (h:GX a H x G):GS K a H x (nOf G):=by
 obtain ⟨g,ga,r⟩:=h
 unfold nOf
 cases e:G.sv with
 |none=>
  rw [e] at r
  subst r
  have q:=GS.plain (K:=K) Yci ga (by rw [yf];exact gg.len.2)
  rw [yf] at q
  exact q
 |some j=>
  rw [e] at r
  obtain ⟨q,dx,rfl,r2⟩:=r
  exact .stuck r2
inductive Svt (K:Se) (a:Ad) (vs:List V) (H:Hp) (Q:VK) (z3:XK):Prop where
 |mk (p:S1) (x:V) (G:Jnj) (_:vs= [x]) (_:Scu p H x G) (_:Sbd G) (_:∀(g:V) (H':Hp),Sj H H'->GX a H' g G->Q g H')
theorem Jql {t1 t2:TS} {D:Jt9} {σ:L2.St} {H:Hp} (Mid:L2.St->Hp->Prop) (h1:∀R,(∀σ H,Mid σ H->R σ H)->t1 {D with nx:=R} σ H) (h2:∀σ H,Mid σ H->t2 D σ H):Soh t1 t2 D σ H:=h1 _ h2
theorem Jra {H:Hp} {ns:List Int} {y:V} (h:y∈ns.map V.int):Tm K H y:=by
 obtain ⟨i,_,rfl⟩:=yaf.mp h
 exact .inl ⟨i,rfl⟩
theorem Jvq {C:S1} {lo:Int} {x:V} {H:Hp} {Q1:Hp->Prop} {E:XK} {g dx:S1} (c:Cls K C) (n:NoAttr K C "marks") (hg:H g=none) (hd:H dx=none) (ne:dx≠g)
  (h:∃xs,Sq H x xs/\(∀y∈xs,Tm K H y)/\Jrk lo xs=true/\∀H',Sj H H'->Sbr C H' g xs->Q1 H'):
  Jyr K a lo [.ref g,x] (upd (upd H dx (.own g)) g (.ins C dx [])) (λv H2=>v= .non/\Q1 H2) E:=by
 have s1:Sj H (upd (upd H dx (.own g)) g (.ins C dx [])):=λb o e=>by rw [Sz (Jmw e hg),Sz (Jmw e hd)];exact e
 refine ⟨g,C,dx,x,rfl,Sr,c,n,?_⟩
 obtain ⟨xs,sq,tms,e,k⟩:=h
 refine .inl ⟨xs,sq.same s1,λy hy=>(tms y hy).same s1,e,λt H' s' ht=>⟨rfl,?_⟩⟩
 have ng:t≠g:=Sqz ht (s' _ _ Sr) (by intro z;cases z)
 exact k _ (λb o e=>by rw [Sz (Jmw e hg)];exact s' _ _ (s1 _ _ e)) ⟨dx,t,Sr,by rw [Sz ng];exact ht⟩
theorem Sa9:Jmy ["_law_told","_law_kind","_law_marks","_law_stuck","_law_gate_here"] ["_law_told"] (Jmt (top 74)):=⟨rfl,rfl,rfl,by decide +kernel,rfl,by decide +kernel,by decide +kernel⟩
theorem Juc (T:Tx K mg a):Ss P w K mg base CX0 6 a.Jkk a.Jkl ["_law_told"] (Svt K a):=by
 have Sda:=Jub (P:=P) (w:=w) (base:=base) T
 have Sd8:=Ju9 (P:=P) (w:=w) (base:=base) T
 have Sd9:=Jua (P:=P) (w:=w) (base:=base) T
 have Scv:=Jtj (P:=P) (w:=w) (base:=base) T
 refine T.Jx.fn.ok Sa9 (λvs H Q E h=>?_) (λcdv A outer s H vs Q E hr h=>?_)
 ·obtain ⟨p,x,G,rfl,_⟩:=h
  rfl
 ·obtain ⟨p,x,⟨kd,ns,sv⟩,rfl,⟨t,m,rfl,ht,hm,_⟩,gg,k⟩:=h
  refine ⟨?t,?B,?C⟩
  case B=>
   refine' Sw ?O0 ?O1
   case O0=>exact (Jpi (pv 0) (Jr7 rfl (Jn7 (Jmz (i:=1) Sa9.nd rfl (ye rfl)) (Jn7 (Jmz (i:=2) Sa9.nd rfl (ye rfl)) (Jn7 (Jmz (i:=3) Sa9.nd rfl (ye rfl)) Joe)))))
   case O1=>
   refine' Sw ?O2 ?O3
   case O2=>
    refine' Jng ?O4 ?O5 ?O6
    case O4=>exact (Jnp Jqz (pv 1) Jom (Jni _))
    case O5=>
     refine' Sy ?O7
     case O7=>exact (Jn3 (i:=4) Sa9.nd rfl (ye rfl) (Jq3 T.Jed Sda.calm (hr.mono (by decide)) (by rfl) T.Jbl T.Jda.bd .nil Jph (Sk (Jnd Jox (by rfl) T.Jaz Jq1 (Sk (pv 2) Sm)) Sm)))
    case O6=>
    refine' Sy ?O8
    case O8=>
    refine' Jng ?O9 ?Oa ?Ob
    case O9=>exact (Jnp Jqz (pv 1) Jom (Jni _))
    case Oa=>
     refine' Sy ?Oc
     case Oc=>exact (Jn3 (i:=4) Sa9.nd rfl (ye rfl) (Jq3 T.Jej Sd8.calm (hr.mono (by decide)) (by rfl) T.Jbm T.Jdd.bd .nil Jph (Sk (Jnd Jox (by rfl) T.Jaz Jq1 (Sk (pv 2) Sm)) Sm)))
    case Ob=>
    refine' Sy ?Od
    case Od=>exact (Jn3 (i:=4) Sa9.nd rfl (ye rfl) (Jq3 T.Jep Sd9.calm (hr.mono (by decide)) (by rfl) T.Jbn T.Jdg.bd .nil Jph (Sk (Jnd Jox (by rfl) T.Jaz Jq1 (Sk (pv 2) Sm)) Sm)))
   case O3=>
   refine' Sw ?Oe ?Of
   case Oe=>
    refine' Jng ?Og ?Oh ?Oi
    case Og=>exact (Jnp Jyc (pv 3) Jqd (Jni _))
    case Oh=>
     refine' Sy ?Oj
     case Oj=>exact (Jn0 (pv 4))
    case Oi=>exact Jn6
   case Of=>
   refine' Sy ?Ok
   case Ok=>exact (Jn0 (Jq3 T.Jev Scv.calm (hr.mono (by decide)) (by rfl) T.Jbo T.Jdj.bd .nil Jph (Sk (pv 4) (Sk (pv 3) Sm))))
  have hkd:Knd kd:=gg.kd
  have har:Jrk (Jpo kd) (ns.map V.int)=true:=gg.ns
  have hsv:∀i,sv=some i->0<=i/\i < (ns.length:Int):=gg.sv
  have hlen:=gg.len
  dsimp only at ht hm hlen
  refine ⟨_,rfl,t,_,rfl,Su.of ht,rfl,_,_,rfl,_,_,rfl,_,_,rfl,rfl,?_⟩
  dsimp only
  refine Jql (λσ H1=>∃g:S1,σ= [some (.ref t),some (.str kd),some (.ref m),some (svV sv),some (.ref g)]/\Sj H H1/\Sbr (cOf a kd) H1 g (ns.map V.int)) (λR hR=>?_) ?_
  ·rcases hkd with rfl|rfl|rfl
   ·have e1:Jpo "step" =0:=if_neg Sr0
    have e2:cOf a "step" =a.Jmc:=if_pos rfl
    have hr':Jrk (0) (ns.map V.int)=true:=by rw [<-e1];exact har
    refine ⟨_,rfl,rfl,_,rfl,Yg rfl ⟨_,rfl,m,_,rfl,.inl (Sv.of hm),λl hl g dx hg hd ne=>Jvq T.Jeb T.Jfp hg hd ne ⟨ns.map V.int,.lst Sr,λy hy=>Jra hy,hr',λH' s' ga=>?_⟩⟩⟩
    exact hR _ _ ⟨g,rfl,(Sj.upd hl).trans s',by rw [e2];exact ga⟩
   ·have e1:Jpo "flap" =0:=if_neg Sqy
    have e2:cOf a "flap" =a.Jmd:=by unfold cOf;rw [if_neg Juv,if_pos rfl]
    have hr':Jrk (0) (ns.map V.int)=true:=by rw [<-e1];exact har
    refine ⟨_,rfl,rfl,_,rfl,Jxy (Yc4 Juv) ⟨_,rfl,rfl,_,rfl,Yg rfl ⟨_,rfl,m,_,rfl,.inl (Sv.of hm),λl hl g dx hg hd ne=>Jvq T.Jeh T.Jfq hg hd ne ⟨ns.map V.int,.lst Sr,λy hy=>Jra hy,hr',λH' s' ga=>?_⟩⟩⟩⟩
    exact hR _ _ ⟨g,rfl,(Sj.upd hl).trans s',by rw [e2];exact ga⟩
   ·have e1:Jpo "part" =1:=if_pos rfl
    have e2:cOf a "part" =a.Jme:=by unfold cOf;rw [if_neg Jux,if_neg Juw]
    have hr':Jrk (1) (ns.map V.int)=true:=by rw [<-e1];exact har
    refine ⟨_,rfl,rfl,_,rfl,Jxy (Yc4 Jux) ⟨_,rfl,rfl,_,rfl,Jxy (Yc4 Juw) ⟨_,rfl,m,_,rfl,.inl (Sv.of hm),λl hl g dx hg hd ne=>Jvq T.Jen T.Jfr hg hd ne ⟨ns.map V.int,.lst Sr,λy hy=>Jra hy,hr',λH' s' ga=>?_⟩⟩⟩⟩
    exact hR _ _ ⟨g,rfl,(Sj.upd hl).trans s',by rw [e2];exact ga⟩
  ·rintro σ H1 ⟨g,rfl,s1,ga⟩
   have gs:GS K a H1 (.ref g) ns.length:=by
    have q:=GS.plain (K:=K) Yci ga (by rw [yf];exact hlen.2)
    rw [yf] at q
    exact q
   cases sv with
   |none=>exact ⟨_,rfl,rfl,_,rfl,Yg rfl ⟨_,rfl,k _ _ s1 ⟨g,ga,rfl⟩⟩⟩
   |some j=>
    have hj:=hsv j rfl
    refine ⟨_,rfl,rfl,_,rfl,Jxy (λz=>by cases z) ⟨_,rfl,_,rfl,λx dx hx hdx ne=>?_⟩⟩
    have sn:Sj H1 (upd (upd H1 dx (.own x)) x (.ins a.Jmf dx [])):=λb o e=>by rw [Sz (Jmw e hx),Sz (Jmw e hdx)];exact e
    refine ⟨x,dx,_,.int j,rfl,Sr,.inr (.inr ⟨ns.length,gs.same sn,.inl ⟨j,rfl⟩,by simp [Jnc];omega,rfl,?_⟩)⟩
    have sx:Sj H1 (upd (upd (upd H1 dx (.own x)) x (.ins a.Jmf dx [])) x (.ins a.Jmf dx [("gate",.ref g),("setting",.int j)])):=by
     rw [Jp1]
     exact λb o e=>by rw [Sz (Jmw e hx),Sz (Jmw e hdx)];exact e
    exact k _ _ (s1.trans sx) ⟨g,ga.same sx,x,dx,rfl,Sr⟩
theorem GS.put {K:Se} {a:Ad} {H:Hp} {x:V} {n:Nat} {D:S1} {bs:List V} {o:HO} (hD:H D=some (.lst bs)) (h:GS K a H x n):GS K a (upd H D o) x n:=by
 cases h with
 |plain i g l=>
  obtain ⟨dx,t,h1,h2⟩:=g
  exact .plain i ⟨dx,t,by rw [Sz (λz=>by rw [z,hD] at h1;cases h1)];exact h1,by rw [Sz (λz=>by rw [z,hD] at h2;cases h2)];exact h2⟩ l
 |stuck e=>exact .stuck (by rw [Sz (λz=>by rw [z,hD] at e;cases e)];exact e)
theorem Sby.put {K:Se} {a:Ad} {H:Hp} {b D:S1} {B:Bsn} {bs:List V} {o:HO} (hD:H D=some (.lst bs)) (h:Sby K a H b B):Sby K a (upd H D o) b B:=by
 obtain ⟨dx,h1,h2⟩:=h
 exact ⟨dx,by rw [Sz (λz=>by rw [z,hD] at h1;cases h1)];exact h1,h2.put hD⟩
theorem Scc.map {K:Se} {a:Ad} {H H':Hp} (f:∀x B,Sby K a H x B->Sby K a H' x B):∀{xs:List S1} {Bs:List Bsn},Scc K a H xs Bs->Scc K a H' xs Bs:=by
 intro xs
 induction xs with
 |nil=>
  intro Bs h
  cases Bs with
  |nil=>exact True.intro
  |cons B Bs=>exact False.elim h
 |cons x xs ih=>
  intro Bs h
  cases Bs with
  |nil=>exact False.elim h
  |cons B Bs=>exact ⟨f _ _ (yap h),ih (yaq h)⟩
theorem Scc.snoc {K:Se} {a:Ad} {H:Hp} {x:S1} {B:Bsn} (h:Sby K a H x B):∀{xs:List S1} {Bs:List Bsn},Scc K a H xs Bs->Scc K a H (xs++ [x]) (Bs++ [B]):=by
 intro xs
 induction xs with
 |nil=>
  intro Bs q
  cases Bs with
  |nil=>exact ⟨h,True.intro⟩
  |cons B Bs=>exact False.elim q
 |cons x xs ih=>
  intro Bs q
  cases Bs with
  |nil=>exact False.elim q
  |cons B Bs=>exact ⟨yap q,ih (yaq q)⟩
theorem Sbt.put {a:Ad} {H:Hp} {b D:S1} {B:Twn} {bs:List V} {o:HO} (hD:H D=some (.lst bs)) (h:Sbt a H b B):Sbt a (upd H D o) b B:=by
 obtain ⟨dx,h1⟩:=h
 exact ⟨dx,by rw [Sz (λz=>by rw [z,hD] at h1;cases h1)];exact h1⟩
theorem Sc4.map {a:Ad} {H H':Hp} (f:∀x B,Sbt a H x B->Sbt a H' x B):∀{xs:List S1} {Bs:List Twn},Sc4 a H xs Bs->Sc4 a H' xs Bs:=by
 intro xs
 induction xs with
 |nil=>
  intro Bs h
  cases Bs with
  |nil=>exact True.intro
  |cons B Bs=>exact False.elim h
 |cons x xs ih=>
  intro Bs h
  cases Bs with
  |nil=>exact False.elim h
  |cons B Bs=>exact ⟨f _ _ (yap h),ih (yaq h)⟩
theorem Sc4.snoc {a:Ad} {H:Hp} {x:S1} {B:Twn} (h:Sbt a H x B):∀{xs:List S1} {Bs:List Twn},Sc4 a H xs Bs->Sc4 a H (xs++ [x]) (Bs++ [B]):=by
 intro xs
 induction xs with
 |nil=>
  intro Bs q
  cases Bs with
  |nil=>exact ⟨h,True.intro⟩
  |cons B Bs=>exact False.elim q
 |cons x xs ih=>
  intro Bs q
  cases Bs with
  |nil=>exact False.elim q
  |cons B Bs=>exact ⟨yap q,ih (yaq q)⟩
theorem BTL.get {p:S1} {H:Hp}:∀{xs:List V} {Bs:List Jp7} {i:Nat} {x:V},BTL p H xs Bs->xs[i]?=some x->∃B,Bs[i]?=some B/\Sct p H x B:=by
 intro xs
 induction xs with
 |nil=>intro Bs i x h e;simp at e
 |cons x xs ih=>
  intro Bs i y h e
  cases Bs with
  |nil=>exact False.elim h
  |cons B Bs=>
   cases i with
   |zero=>cases e;exact ⟨B,rfl,yap h⟩
   |succ i=>exact @ih Bs i _ (yaq h) (by simpa using e)
theorem TTL.get {H:Hp}:∀{xs:List V} {Bs:List Jrb} {i:Nat} {x:V},TTL H xs Bs->xs[i]?=some x->∃B,Bs[i]?=some B/\Sdi H x B:=by
 intro xs
 induction xs with
 |nil=>intro Bs i x h e;simp at e
 |cons x xs ih=>
  intro Bs i y h e
  cases Bs with
  |nil=>exact False.elim h
  |cons B Bs=>
   cases i with
   |zero=>cases e;exact ⟨B,rfl,yap h⟩
   |succ i=>exact @ih Bs i _ (yaq h) (by simpa using e)
theorem GX.put {a:Ad} {H:Hp} {x:V} {G:Jnj} {D:S1} {bs:List V} {o:HO} (hD:H D=some (.lst bs)) (h:GX a H x G):GX a (upd H D o) x G:=by
 obtain ⟨g,⟨dx,t,h1,h2⟩,r⟩:=h
 refine ⟨g,⟨dx,t,by rw [Sz (λz=>by rw [z,hD] at h1;cases h1)];exact h1,by rw [Sz (λz=>by rw [z,hD] at h2;cases h2)];exact h2⟩,?_⟩
 cases e:G.sv with
 |none=>rw [e] at r;exact r
 |some j=>
  rw [e] at r
  obtain ⟨q,dx,r1,r2⟩:=r
  exact ⟨q,dx,r1,by rw [Sz (λz=>by rw [z,hD] at r2;cases r2)];exact r2⟩
def GXL (a:Ad) (H:Hp):List V->List Jnj->Prop
 | [],[]=>True
 |x::xs,G::Gs=>GX a H x G/\GXL a H xs Gs
 |_,_=>False
theorem GXL.map {a:Ad} {H H':Hp} (f:∀x G,GX a H x G->GX a H' x G):∀{xs:List V} {Gs:List Jnj},GXL a H xs Gs->GXL a H' xs Gs:=by
 intro xs
 induction xs with
 |nil=>
  intro Bs h
  cases Bs with
  |nil=>exact True.intro
  |cons B Bs=>exact False.elim h
 |cons x xs ih=>
  intro Bs h
  cases Bs with
  |nil=>exact False.elim h
  |cons B Bs=>exact ⟨f _ _ (yap h),ih (yaq h)⟩
theorem GXL.snoc {a:Ad} {H:Hp} {x:V} {G:Jnj} (h:GX a H x G):∀{xs:List V} {Gs:List Jnj},GXL a H xs Gs->GXL a H (xs++ [x]) (Gs++ [G]):=by
 intro xs
 induction xs with
 |nil=>
  intro Bs q
  cases Bs with
  |nil=>exact ⟨h,True.intro⟩
  |cons B Bs=>exact False.elim q
 |cons x xs ih=>
  intro Bs q
  cases Bs with
  |nil=>exact False.elim q
  |cons B Bs=>exact ⟨yap q,ih (yaq q)⟩
theorem GXL.get {a:Ad} {H:Hp}:∀{xs:List V} {Gs:List Jnj} {i:Nat} {x:V},GXL a H xs Gs->xs[i]?=some x->∃G,Gs[i]?=some G/\GX a H x G:=by
 intro xs
 induction xs with
 |nil=>intro Bs i x h e;simp at e
 |cons x xs ih=>
  intro Bs i y h e
  cases Bs with
  |nil=>exact False.elim h
  |cons B Bs=>
   cases i with
   |zero=>cases e;exact ⟨B,rfl,yap h⟩
   |succ i=>exact @ih Bs i _ (yaq h) (by simpa using e)
theorem GXL.same {a:Ad} {H H':Hp} {xs:List V} {Gs:List Jnj} (s:Sj H H') (h:GXL a H xs Gs):GXL a H' xs Gs:=h.map λ_ _ h=>h.same s
def Jta (B:Bsn):Str×Int×Int×Int×Int×Nat:=(B.z,B.lo,B.hi,B.st,B.rn,B.n)
def Jwy (B:Jp7):Str×Int×Int×Int×Int×Nat:=(B.z,B.lo,B.hi,B.st,B.rn,nOf B.G)
structure Jse (R:Jn4) (S:Riv):Prop where
 c:S.c=R.c
 g:S.g=R.g
 Bs:S.Bs.map Jta=R.Bs.map Jwy
 Ts:S.Ts.map (λB=>(B.z,B.b,B.wt))=R.Ts.map (λB=>(B.z,B.b,B.wt))
inductive Yfg (K:Se) (a:Ad) (vs:List V) (H:Hp) (Q:VK) (z3:XK):Prop where
 |mk (p:S1) (x:V) (R:Jn4) (_:vs= [x]) (_:Sci p H x R) (_:Jp8 R) (_:∀(o:S1) (S:Riv) (H':Hp),Sj H H'->Say K a H' o S->Jse R S->GXL a H' (S.Bs.map (·.g)) (R.Bs.map (·.G))->Q (.ref o) H')
theorem GS.gti {H:Hp} {x:V} {n:Nat} (T:Tx K mg a) (g:GS K a H x n):GtI K a H x true:=by
 cases g with
 |plain i ga l=>
  obtain ⟨dx,t,h1,h2⟩:=ga
  rcases i with rfl|rfl|rfl
  ·exact ⟨_,.of (T.Jec.ty T.Jeb h1),T.Jgb,T.Jgl,_,T.Jgh,λ_=>rfl,by intro w';cases w'⟩
  ·exact ⟨_,.of (T.Jei.ty T.Jeh h1),T.Jgc,T.Jgm,_,T.Jgi,λ_=>rfl,by intro w';cases w'⟩
  ·exact ⟨_,.of (T.Jeo.ty T.Jen h1),T.Jgd,T.Jgn,_,T.Jgj,λ_=>rfl,by intro w';cases w'⟩
 |stuck h1=>exact ⟨_,.of (T.Jeu.ty T.Jet h1),T.Jge,T.Jgo,_,T.Jgk,λ_=>rfl,by intro w';cases w'⟩
theorem Yk {H:Hp} {z:Str} (h:Ltr 8 z):Nmd K H (.str z):=⟨.inr ⟨_,.of (.str z),rfl⟩,λy e=>by cases e;exact ⟨yan h.len (by omega),h.wd.low⟩⟩
theorem Sap:Jmy ["_law_told","_law_basins","_law_name","_law_low","_law_high","_law_start","_law_rain_here","_law_gate_here"] ["_law_told"] (Jmt (top 75)):=⟨rfl,rfl,rfl,by decide +kernel,rfl,by decide +kernel,by decide +kernel⟩
theorem Jzm (T:Tx K mg a):Ss P w K mg base CX0 7 a.Jkm a.Jkn ["_law_told"] (Yfg K a):=by
 have Se0:=Juc (P:=P) (w:=w) (base:=base) T
 have Sdy:=Jwg (P:=P) (w:=w) (base:=base) T
 have Sec:=Jy1 (P:=P) (w:=w) (base:=base) T
 have Sdz:=Jwh (P:=P) (w:=w) (base:=base) T
 refine T.Jy.fn.ok Sap (λvs H Q E h=>?_) (λcdv A outer s H vs Q E hr h=>?_)
 ·obtain ⟨p,x,R,rfl,_⟩:=h
  rfl
 ·obtain ⟨p,x,R,rfl,⟨t,lb,lt,bs,ts,rfl,ht,hb,btl,htt,ttl,_,_⟩,rg,k⟩:=h
  refine ⟨?t,?B,?C⟩
  case B=>
   refine' Sw ?O0 ?O1
   case O0=>exact (Jn3 (i:=1) Sap.nd rfl (ye rfl) (Jol Sm))
   case O1=>
   refine' Sw ?O2 ?O3
   case O2=>
    refine' Jpj ?O4 ?O5 ?O6 ?O7 ?O8
    case O4=>exact PassesOwn.never
    case O5=>exact rfl
    case O6=>exact (Jo1 (Jn1 Jn9 (pv 0) So (λ_ _=>rfl)))
    case O7=>exact (Jr7 rfl (Jn7 (Jmz (i:=2) Sap.nd rfl (ye rfl)) (Jn7 (Jmz (i:=3) Sap.nd rfl (ye rfl)) (Jn7 (Jmz (i:=4) Sap.nd rfl (ye rfl)) (Jn7 (Jmz (i:=5) Sap.nd rfl (ye rfl)) (Jn7 (Jmz (i:=6) Sap.nd rfl (ye rfl)) (Jn7 (Jmz (i:=7) Sap.nd rfl (ye rfl)) Joe)))))))
    case O8=>
    refine' Sy ?O9
    case O9=>exact (Jp0 (Js0 F.plainAttrs_list F.slot_list_append F.type_list_append Joz (pv 1) (Sk (Jq3 T.Jf1 Sdy.calm (hr.mono (by decide)) (by rfl) T.Jbp T.Jdm.bd .nil Jph (pa6 (pv 2) (pv 3) (pv 4) (pv 5) (pv 6) (Jmv T.Jx Se0 hr (by decide) (Sk (pv 7) Sm)))) Sm)))
   case O3=>
   refine' Sy ?Oa
   case Oa=>
   refine' Jn0 ?Ob
   case Ob=>exact (Jq3 T.Jf6 Sdz.calm (hr.mono (by decide)) (by rfl) T.Jbr T.Jdo.bd .nil Jph (pa4 (Jn1 Jn9 (pv 0) So (λ_ _=>rfl)) (Jn1 Jn9 (pv 0) So (λ_ _=>rfl)) (pv 1) (Jnm (N:=(["_law_name","_law_basin_here","_law_want"]:List Str)) (ini:=[none,none,none]) rfl (Jo1 (Jn1 Jn9 (pv 0) So (λ_ _=>rfl))) (λ_ _ _ _ _=>(Jqj (K:=K) (n:=3) rfl rfl (Jn7 (Jmz (i:=0) (by decide +kernel:(["_law_name","_law_basin_here","_law_want"]:List Str).Nodup) rfl (ye rfl)) (Jn7 (Jmz (i:=1) (by decide +kernel:(["_law_name","_law_basin_here","_law_want"]:List Str).Nodup) rfl (ye rfl)) (Jn7 (Jmz (i:=2) (by decide +kernel:(["_law_name","_law_basin_here","_law_want"]:List Str).Nodup) rfl (ye rfl)) Joe))))) (λ_ _ _ _ _=>Jnk) (λ_ _ _ _ _=>(Jq3 T.Jf4 Sec.calm (hr.mono (by decide)) (by rfl) T.Jbq T.Jdn.bd .nil Jph (Sk (pv 0) (Sk (pv 1) (Sk (pv 2) Sm))))))))
  refine ⟨(show 0<=S6 by decide),λnb hnb=>?_⟩
  have s0:=Sj.upd (o:=.lst []) hnb
  refine ⟨_,rfl,t,_,2,_,rfl,rfl,Su.of (s0 _ _ ht),rfl,lb,rfl,⟨_,Sv.of (s0 _ _ hb)⟩,?_⟩
  have blen:=btl.len
  refine Jtd (xs:=bs) (λi σ H'=>∃(o1 o2 o3 o4 o5 o6:Option V) (os:List S1) (Bs:List Bsn),σ= [some (.ref t),some (.ref nb),o1,o2,o3,o4,o5,o6]/\H' nb=some (.lst (os.map V.ref))/\Scc K a H' os Bs/\Bs.length=i/\Bs.map Jta=(R.Bs.take i).map Jwy/\GXL a H' (Bs.map (·.g)) ((R.Bs.take i).map (·.G))/\Sj H H') ?_ ?_ ?_ ?_
  ·exact ⟨_,_,_,_,_,_,[],[],rfl,Sr,True.intro,rfl,rfl,True.intro,s0⟩
  ·rintro i σ H' _ ⟨_,_,_,_,_,_,_,_,_,_,_,_,_,_,sm⟩
   exact Sv.of (sm _ _ hb)
  ·rintro i x σ H' hx ⟨o1,o2,o3,o4,o5,o6,os,Bs,rfl,hnbs,bl,bln,bkey,gxl,sm⟩
   obtain ⟨B,eB,⟨tb,g,rfl,htb,gt⟩⟩:=btl.get hx
   have hB:B∈R.Bs:=yp eB
   obtain ⟨bg,bnm,blt⟩:=rg.Bs B hB
   have olen:=bl.len
   have hi:i < R.Bs.length:=(yj.mp eB).1
   have hn:=rg.n
   refine ⟨tb,_,rfl,Su.of (sm _ _ htb),rfl,_,_,rfl,_,_,rfl,_,_,rfl,_,_,rfl,_,_,rfl,_,_,rfl,rfl,?_⟩
   refine ⟨_,rfl,.inl ⟨rfl,_,Sv.of hnbs⟩,_,rfl,_,rfl,_,rfl,_,rfl,_,rfl,_,rfl,p,g,B.G,rfl,gt.same sm,bg.G,λgv H1 s1 gx=>?_⟩
   have gs:GS K a H1 gv (nOf B.G):=gx.gs bg.G
   intro x dx hx1 hd1 ne
   have sn:Sj H1 (upd (upd H1 dx (.own x)) x (.ins a.Jmg dx [])):=λb o e=>by rw [Sz (Jmw e hx1),Sz (Jmw e hd1)];exact e
   refine ⟨x,dx,.str B.z,.int B.lo,.int B.hi,.int B.st,.int B.rn,gv,true,none,rfl,Sr,Yk blt,.inl ⟨_,rfl⟩,.inl ⟨_,rfl⟩,.inl ⟨_,rfl⟩,.inl ⟨_,rfl⟩,(gs.gti T).same sn,.good B.lo B.hi bnm rfl rfl (Jqh bg.lo.1 bg.lo.2) (Jqh bg.hi.1 bg.hi.2) (Jqh bg.st.1 bg.st.2) (Jqh bg.rn.1 bg.rn.2) rfl,λH2 s2=>⟨rfl,?_⟩⟩
   have s3:Sj H1 (upd H2 x (.ins a.Jmg dx (Smn (.str B.z) (.int B.lo) (.int B.hi) (.int B.st) (.int B.rn) gv))):=λb o e=>by rw [Sz (Jmw e hx1)];exact s2 _ _ (sn _ _ e)
   have s13:=s1.trans s3
   have hnb3:=s13 _ _ hnbs
   refine ⟨nb,_,_,rfl,rfl,hnb3,by rw [yf];exact Jno (by omega),?_⟩
   refine ⟨_,_,_,_,_,_,os++ [x],Bs++ [⟨B.z,B.lo,B.hi,B.st,B.rn,gv,nOf B.G⟩],rfl,by rw [Sr,yab];rfl,?_,by rw [yae];show Bs.length+1=i+1;omega,?_,?_,?_⟩
   ·exact Scc.snoc (Sby.put hnb3 ⟨dx,Sr,gs.same s3⟩) (Scc.map (λx B h=>(h.same s13).put hnb3) bl)
   ·rw [yab,bkey,yag,eB,yab]
    rfl
   ·rw [yab,yag,eB,yab]
    exact GXL.snoc (GX.put hnb3 (gx.same s3)) (GXL.map (λx G h=>(h.same s13).put hnb3) gxl)
   ·intro b o e
    rw [Sz (Jmw e hnb)]
    exact s13 _ _ (sm _ _ e)
  ·rintro σ H1 ⟨o1,o2,o3,o4,o5,o6,os,Bs,rfl,hnbs,bl,bln,bkey,gxl,sm⟩
   rw [yac (by omega)] at bkey gxl
   refine ⟨_,rfl,t,_,0,_,rfl,rfl,Su.of (sm _ _ ht),rfl,?_⟩
   refine ⟨_,rfl,t,_,1,_,rfl,rfl,Su.of (sm _ _ ht),rfl,?_⟩
   refine ⟨_,rfl,_,rfl,t,_,3,_,rfl,rfl,Su.of (sm _ _ ht),rfl,lt,rfl,⟨_,Sv.of (sm _ _ htt)⟩,λD hD=>?_⟩
   have tlen:=ttl.len
   refine Jok (K:=K) (a:=lt) (xs:=ts) (D:=D) (λi σ H'=>∃(o1 o2 o3:Option V) (ws:List S1) (Ws:List Twn),σ= [o1,o2,o3]/\H' D=some (.lst (ws.map V.ref))/\Sc4 a H' ws Ws/\Ws.length=i/\Ws.map (λB=>(B.z,B.b,B.wt))=(R.Ts.take i).map (λB=>(B.z,B.b,B.wt))/\Sj H1 H') ?_ ?_ ?_ ?_
   ·exact ⟨_,_,_,[],[],rfl,Sr,True.intro,rfl,rfl,Sj.upd hD⟩
   ·rintro i σ H' _ ⟨_,_,_,_,_,_,_,_,_,_,s1⟩
    exact Sv.of (s1 _ _ (sm _ _ htt))
   ·rintro i x σ H' hx ⟨p1,p2,p3,ws,Ws,rfl,hDs,wl,wln,wkey,s1⟩
    obtain ⟨B,eB,⟨tb,rfl,htb⟩⟩:=ttl.get hx
    obtain ⟨bnm,blt,bin,bw⟩:=rg.Ts B (yp eB)
    have hi:i < R.Ts.length:=(yj.mp eB).1
    have h3:=rg.tn
    have wlen:=wl.len
    obtain ⟨Bb,hBb,ebb⟩:=yaf.mp bin
    have blb:Ltr 8 B.b:=by rw [<-ebb];exact (rg.Bs Bb hBb).2.2
    have bnb:Jru B.b=true:=by rw [<-ebb];exact (rg.Bs Bb hBb).2.1
    refine Yb2 (Su.of (s1 _ _ (sm _ _ htb))) ⟨_,rfl,_,rfl,_,rfl,λx dx hx1 hd1 ne=>?_⟩
    have sn:Sj H' (upd (upd H' dx (.own x)) x (.ins a.Jmh dx [])):=λb o e=>by rw [Sz (Jmw e hx1),Sz (Jmw e hd1)];exact e
    refine ⟨x,dx,.str B.z,.str B.b,.int B.wt,none,rfl,Sr,Yk blt,Yk blb,.inl ⟨_,rfl⟩,.good bnm bnb (Jqh bw.1 bw.2),λH2 s2=>⟨rfl,?_⟩⟩
    have s3:Sj H' (upd H2 x (.ins a.Jmh dx (twnF (.str B.z) (.str B.b) (.int B.wt)))):=λb o e=>by rw [Sz (Jmw e hx1)];exact s2 _ _ (sn _ _ e)
    have hD3:=s3 _ _ hDs
    refine ⟨_,hD3,by rw [yf];exact Jno (by omega),_,_,_,ws++ [x],Ws++ [⟨B.z,B.b,B.wt⟩],rfl,by rw [Sr,yab];rfl,?_,by rw [yae];show Ws.length+1=i+1;omega,?_,?_⟩
    ·exact Sc4.snoc (Sbt.put hD3 ⟨dx,Sr⟩) (Sc4.map (λx B h=>(h.same s3).put hD3) wl)
    ·rw [yab,wkey,yag,eB,yab]
     rfl
    ·intro b o e
     rw [Sz (Jmw e hD)]
     exact s3 _ _ (s1 _ _ e)
   ·rintro σ H2 ⟨p1,p2,p3,ws,Ws,rfl,hDs,wl,wln,wkey,s1⟩
    rw [yac (by omega)] at wkey
    intro x dx hx1 hd1 ne
    have sn:Sj H2 (upd (upd H2 dx (.own x)) x (.ins a.Jmi dx [])):=λb o e=>by rw [Sz (Jmw e hx1),Sz (Jmw e hd1)];exact e
    have hz:Bs.map (·.z)=R.Bs.map (·.z):=by
     have:=congrArg (yam (·.1)) bkey
     simpa [yav,Jta,Jwy,ybz] using this
    have hr:Bs.map (·.rn)=R.Bs.map (·.rn):=by
     have:=congrArg (yam (·.2.2.2.2.1)) bkey
     simpa [yav,Jta,Jwy,ybz] using this
    have hw:Ws.map (·.z)=R.Ts.map (·.z):=by
     have:=congrArg (yam (·.1)) wkey
     simpa [yav,ybz] using this
    have hwb:Ws.map (·.b)=R.Ts.map (·.b):=by
     have:=congrArg (yam (·.2.1)) wkey
     simpa [yav,ybz] using this
    have n1:=rg.n
    have n2:=rg.tn
    refine ⟨x,dx,nb,D,R.c,R.g,os,ws,Bs,Ws,rfl,Sr,rg.c,rg.g,sn _ _ (s1 _ _ hnbs),(bl.same s1).same sn,by omega,by rw [hz];exact rg.nd,sn _ _ hDs,wl.same sn,by omega,by rw [hw];exact rg.td,λB hB=>?_,λH3 b t s3 hb3 ht3 nb3 nt3=>⟨rfl,?_⟩⟩
    ·have:B.b∈R.Ts.map (·.b):=by rw [<-hwb];exact yau hB
     obtain ⟨C,hC,e⟩:=yaf.mp this
     rw [hz,<-e]
     exact (rg.Ts C hC).2.2.1
    ·have s4:Sj H2 (upd H3 x (.ins a.Jmi dx (Sky (.int R.c) (.int R.g) (.ref b) (.ref t)))):=λb o e=>by rw [Sz (Jmw e hx1)];exact s3 _ _ (sn _ _ e)
     refine k x ⟨R.c,R.g,Bs,Ws⟩ _ ((sm.trans s1).trans s4) ⟨dx,b,t,os,ws,Sr,by rw [Sz nb3];exact hb3,(bl.same s1).same s4,by rw [Sz nt3];exact ht3,wl.same s4,by dsimp only;omega,by dsimp only;omega,λB hB=>?_⟩ ⟨rfl,rfl,bkey,wkey⟩ ((gxl.same s1).same s4)
     have:B.rn∈R.Bs.map (·.rn):=by rw [<-hr];exact yau hB
     obtain ⟨C,hC,e⟩:=yaf.mp this
     rw [<-e]
     exact (rg.Bs C hC).1.rn
theorem Yc {K:Se} {p a D:S1} {xs:List V} {te:TE} {R:Hp->Prop} {H:Hp} {o:Option V} {rest:List (Option V)} (Pr:Nat->V->Prop) (st:Sbj H p) (hD:H D=none) (sz:xs.length<=2000) (hq:H a=some (.lst xs)) (na:a≠p)
  (he:∀(i:Nat) (x:V) (H':Hp) (Q:VK),xs[i]?=some x->But p H H'->(∀y H5,But p H' H5->Pr i y->Q y H5)->te (some x::rest) H' Q) (hd:∀ys H',But p H H'->H' D=some (.lst ys)->ys.length=xs.length->(∀i y,ys[i]?=some y->Pr i y)->R H'):
  ∃W:Nat->Nat->L2.St->Hp->Prop,(∃m,W 0 m (o::rest) (upd H D (.lst [])))/\∀i m σ' H',W i m σ' H'->((Itl K a).stop i H'/\R H')\/((Itl K a).go i H'/\∃N:L2.St->Hp->Prop,(∀σ2 H2,N σ2 H2->∃m',m' < m/\W (i+1) m' σ2 H2)/\
   ∀x H2,(Itl K a).yld i H' x H2->Jpa 0 x σ' H2 λσ3 H3=>Y3 σ3 H3 λb H4=>if b=true then te σ3 H4 (λv H5=>∃ys,H5 D=some (.lst ys)/\ys.length < S6/\N σ3 (upd H5 D (.lst (ys++ [v])))) else N σ3 H4):=by
 have nD:D≠p:=st.ne hD
 refine Jok (λi σ H'=>(∃o,σ=o::rest)/\(∃ys,H' D=some (.lst ys)/\ys.length=i/\∀j y,ys[j]?=some y->Pr j y)/\But p H H') ⟨⟨_,rfl⟩,⟨[],Sr,rfl,λj y e=>by simp at e⟩,But.of st (Sj.upd hD)⟩ (λi σ H' _ ⟨_,_,b⟩=>Sv.of (b.1 _ _ na hq)) ?_ ?_
 ·rintro i x σ H' hx ⟨⟨o,rfl⟩,⟨ys,hDs,hl,hy⟩,b⟩
  have hi:i < xs.length:=(yj.mp hx).1
  refine Jo9 (he i x H' _ hx b λy H5 b5 py=>⟨ys,b5.1 _ _ nD hDs,Jno (by omega),⟨_,rfl⟩,⟨ys++ [y],Sr,by rw [yae];show ys.length+1=i+1;omega,λj z ej=>?_⟩,(b.trans b5).updD hD nD⟩)
  rw [yca] at ej
  split at ej
  ·exact hy j z ej
  ·have hj:j=i:=by
    have:=(yj.mp ej).1
    simp at this
    omega
   subst hj
   rw [hl,Nat.sub_self] at ej
   cases ej
   exact py
 ·rintro σ H' ⟨_,⟨ys,hDs,hl,hy⟩,b⟩
  exact hd ys H' b hDs hl hy
theorem Sci.but {p:S1} {H H':Hp} {x:V} {R:Jn4} (rg:Jp8 R) (st:Sbj H p) (b:But p H H') (h:Sci p H x R):Sci p H' x R:=
 let ⟨t,lb,lt,bs,ts,e,h1,h2,h3,h4,h5,n1,n2⟩:=h
 ⟨t,lb,lt,bs,ts,e,b.1 _ _ (Jpt st h1 (λ_ _ _ z=>by cases z)) h1,b.1 _ _ n1 h2,BTL.map (λ_ _ _ h=>h.but st b) (λB hB=>(rg.Bs B hB).1) h3,b.1 _ _ n2 h4,TTL.map (λ_ _ h=>h.but st b) h5,n1,n2⟩
theorem Sci.same {p:S1} {H H':Hp} {x:V} {R:Jn4} (rg:Jp8 R) (s:Sj H H') (h:Sci p H x R):Sci p H' x R:=
 let ⟨t,lb,lt,bs,ts,e,h1,h2,h3,h4,h5,n1,n2⟩:=h
 ⟨t,lb,lt,bs,ts,e,s _ _ h1,s _ _ h2,BTL.map (λ_ _ _ h=>h.same s) (λB hB=>(rg.Bs B hB).1) h3,s _ _ h4,TTL.map (λ_ _ h=>h.same s) h5,n1,n2⟩
theorem Yem {Pr:Nat->Int->Prop}:∀{ys:List V},(∀i y,ys[i]?=some y->∃n:Int,y= .int n/\Pr i n)->∃ns:List Int,ys=ns.map V.int/\∀i n,ns[i]?=some n->Pr i n:=by
 intro ys h
 refine ⟨ys.map Juo,?_,λi n e=>?_⟩
 ·rw [yav]
  refine List.ext_getElem? λi=>?_
  rw [yg]
  cases e:ys[i]? with
  |none=>rfl
  |some y=>
   obtain ⟨n,rfl,_⟩:=h i y e
   rfl
 ·rw [yg] at e
  cases ey:ys[i]? with
  |none=>rw [ey] at e;cases e
  |some y=>
   rw [ey] at e
   obtain ⟨m,rfl,pm⟩:=h i y ey
   cases e
   exact pm
inductive Snv (vs:List V) (H:Hp) (Q:VK) (z3:XK):Prop where
 |mk (p:S1) (x:V) (G:Jnj) (_:vs= [x]) (_:Scu p H x G) (_:∀H',Sj H H'->Q (.int (nOf G:Nat)) H')
def Sal (H:Hp) (x:V) (R:Jn4) (ls:List Int) (wt:Int):Prop:=(∃y u:S1,x= .ref y/\H y=some (.tup [.ref u,.int wt])/\H u=some (.tup (ls.map V.int)))/\ls.length=R.Bs.length/\(∀(i:Nat) (n:Int),ls[i]?=some n->∃B,R.Bs[i]?=some B/\B.lo<=n/\n<=B.hi)/\0<=wt/\wt<=R.c
inductive Ydq (vs:List V) (H:Hp) (Q:VK) (z3:XK):Prop where
 |mk (p:S1) (x:V) (R:Jn4) (_:vs= [.ref p,x]) (_:Sbj H p) (_:Sci p H x R) (_:Jp8 R) (_:∀(y:V) (ls:List Int) (wt:Int) (H':Hp),But p H H'->Sal H' y R ls wt->Q y H')
theorem Jva:Jmy ["_law_gate_here"] ["_law_gate_here"] (Jmt (top 76)):=⟨rfl,rfl,rfl,by decide +kernel,rfl,by decide +kernel,by decide +kernel⟩
theorem Jv6 (T:Tx K mg a):Ss P w K mg base CX0 1 a.Jko a.Jkp ["_law_gate_here"] Snv:=by
 refine T.Jz.fn.ok Jva (λvs H Q E h=>?_) (λcdv A outer s H vs Q E hr h=>?_)
 ·obtain ⟨p,x,G,rfl,_⟩:=h
  rfl
 ·obtain ⟨p,x,⟨kd,ns,sv⟩,rfl,⟨t,m,rfl,ht,hm,_⟩,k⟩:=h
  refine ⟨?t,?B,?C⟩
  case B=>
   refine' Sy ?O0
   case O0=>exact (Jn0 (Jn1 Jne (Jol (Sk (Jmx Jn8 (by rfl) T.Jay Jnz (Sk (Jn1 Jn9 (pv 0) So (λ_ _=>rfl)) Sm)) (Sk So Sm))) (Jnd Jq5 (by rfl) T.Jaw Jst (Sk (Joi Jyd (Jn1 Jn9 (pv 0) So (λ_ _=>rfl)) Jqd (Jni _)) Sm)) (λ_ _=>rfl)))
  dsimp only at ht hm
  refine ⟨_,rfl,t,_,1,_,rfl,rfl,Su.of ht,rfl,m,_,rfl,.inl (Sv.of hm),(show 2<=S6 by decide),λD hD=>?_⟩
  have s1:=Sj.upd (o:=.lst [.int ((ns.map V.int).length:Nat),.int 1]) hD
  refine ⟨_,rfl,t,_,2,_,rfl,rfl,Su.of (s1 _ _ ht),rfl,rfl,.inr ⟨_,rfl,?_⟩⟩
  cases sv with
  |none=>
   refine ⟨D,_,0,_,rfl,rfl,Sv.of Sr,rfl,?_⟩
   have:=k _ s1
   rw [show nOf ⟨kd,ns,none⟩=(ns.map V.int).length by rw [yf];rfl] at this
   exact this
  |some j=>exact ⟨D,_,1,_,rfl,rfl,Sv.of Sr,rfl,k _ s1⟩
theorem Scs:Jmy ["_law_stream_here","_law_told","_law_levels"] ["_law_stream_here","_law_told"] (Jmt (top 77)):=⟨rfl,rfl,rfl,by decide +kernel,rfl,by decide +kernel,by decide +kernel⟩
theorem Jv7 (T:Tx K mg a):Ss P w K mg base CX0 2 a.Jkq a.Jkr ["_law_stream_here","_law_told"] Ydq:=by
 have Sl:=Jpb (P:=P) (w:=w) (base:=base) T
 refine T.Ja0.fn.ok Scs (λvs H Q E h=>?_) (λcdv A outer s H vs Q E hr h=>?_)
 ·obtain ⟨p,x,R,rfl,_⟩:=h
  rfl
 ·obtain ⟨p,x,R,rfl,st,rt,rg,k⟩:=h
  refine ⟨?t,?B,?C⟩
  case B=>
   refine' Sw ?O0 ?O1
   case O0=>exact (Jn3 (i:=2) Scs.nd rfl (ye rfl) (Jnd Jnl (by rfl) T.Jb6 Jnq (Sk (Jnm (N:=(["_law_one","_law_stream_here"]:List Str)) (ini:=[none,some 0]) rfl (Jo1 (Jn1 Jn9 (pv 1) So (λ_ _=>rfl))) (λ_ _ _ _ _=>(Jmz (i:=0) (by decide +kernel:(["_law_one","_law_stream_here"]:List Str).Nodup) rfl (ye rfl))) (λ_ _ _ _ _=>Jnk) (λ_ _ _ _ _=>(Jn5 Jnn (Jn1 (Jog (K:=K) rfl) (pv 0) So (λ_ _=>rfl)) (Jmv T.Js Sl hr (by decide) (Sk (pv 1) (Sk (Jn5 Jnn (Jn5 Jo4 (Jn1 (Jog (K:=K) rfl) (pv 0) So (λ_ _=>rfl)) (Jn1 (Jog (K:=K) rfl) (pv 0) So (λ_ _=>rfl))) So) Sm)))))) Sm)))
   case O1=>
   refine' Sy ?O2
   case O2=>exact (Jn0 (Jo8 (Sk (pv 2) (Sk (Jmv T.Js Sl hr (by decide) (Sk (pv 0) (Sk (Jn5 Jnn (Jn1 Jn9 (pv 1) So (λ_ _=>rfl)) So) Sm))) Sm))))
  obtain ⟨t,lb,lt,bs,ts,rfl,ht,hb,btl,htt,ttl,nb,nt⟩:=rt
  refine ⟨_,rfl,t,_,2,_,rfl,rfl,Su.of ht,rfl,lb,rfl,⟨_,Sv.of hb⟩,λD hD=>?_⟩
  have blen:=btl.len
  have hn:=rg.n
  refine Yc (p:=p) (λi y=>∃n:Int,y= .int n/\∃B,R.Bs[i]?=some B/\B.lo<=n/\n<=B.hi) st hD (by omega) hb nb ?_ ?_
  ·intro i x H' Q' hx b k'
   obtain ⟨B,eB,tb,g,rfl,htb,gt⟩:=btl.get hx
   have bg:=(rg.Bs B (yp eB)).1
   have htb':=b.1 _ _ (Jpt st htb (λ_ _ _ z=>by cases z)) htb
   have q1:=bg.lo
   have q2:=bg.hi
   refine ⟨_,rfl,tb,_,1,_,rfl,rfl,Su.of htb',rfl,_,rfl,_,rfl,tb,_,2,_,rfl,rfl,Su.of htb',rfl,_,rfl,tb,_,1,_,rfl,rfl,Su.of htb',rfl,_,_,rfl,rfl,_,_,rfl,rfl,p,_,rfl,b.2,by omega,Jrd (by omega),λr H5 r0 r1 b5=>⟨_,_,rfl,rfl,k' _ _ b5 ⟨_,rfl,B,eB,by omega,by omega⟩⟩⟩
  ·intro ys H1 b1 hD1 hl1 hy
   obtain ⟨ns,rfl,hns⟩:=Yem hy
   rw [yf] at hl1
   have nD:D≠p:=st.ne hD
   refine ⟨D,_,rfl,.inl ⟨Sv.of hD1,λu hu=>?_⟩⟩
   have su:=Sj.upd (o:=.tup (ns.map V.int)) hu
   have b2:=b1.same su
   have ht2:=b2.1 _ _ (Jpt st ht (λ_ _ _ z=>by cases z)) ht
   have hc:=rg.c
   refine ⟨_,rfl,_,rfl,_,rfl,t,_,0,_,rfl,rfl,Su.of ht2,rfl,_,_,rfl,rfl,p,_,rfl,b2.2,by omega,Jrd (by omega),λr H5 r0 r1 b5=>⟨(show 2<=S6 by decide),λy hy=>?_⟩⟩
   have sy:=Sj.upd (o:=.tup [.ref u,.int r]) hy
   have hu5:H5 u=some (.tup (ns.map V.int)):=b5.1 _ _ (Jpt b2.2 Sr (λ_ _ _ z=>by cases z)) Sr
   exact k (.ref y) ns r _ ((b2.trans b5).same sy) ⟨⟨y,u,rfl,Sr,sy _ _ hu5⟩,by omega,hns,r0,by omega⟩
def Jqb (kd:Str) (m lv:Int):Int:=if kd=("step" :Str) then (if lv < m then lv else m) else if kd=("flap" :Str) then (if 0 > lv - m then 0 else lv - m) else lv/m
def lvG (G:Jnj) (s lv:Int):Int:=Jqb G.kd (G.ns.getD (match G.sv with|some j=>j|none=>s).toNat 0) lv
inductive Ya3 (C:S1) (lo:Int) (f:Int->Int->Int) (vs:List V) (H:Hp) (Q:VK) (z3:XK):Prop where
 |mk (g:S1) (ns:List Int) (s lv:Int) (_:vs= [.ref g,.int s,.int lv]) (_:Sbr C H g (ns.map V.int)) (_:(0<=s/\s < ns.length)) (_:(∀n∈ns,lo<=n/\n<=12)) (_:(0<=lv/\lv<=1000)) (_:Q (.int (f (ns.getD s.toNat 0) lv)) H)
theorem Jth {ns:List Int} {s:Int} (h:0<=s/\s < ns.length):atI (ns.map V.int) s=some (.int (ns.getD s.toNat 0))/\ns.getD s.toNat 0∈ns:=by
 obtain ⟨i,rfl⟩:=ybm h.1
 have hi:i < ns.length:=by omega
 have e:ns.getD (i:Int).toNat 0=ns[i]:=by simp [yat,hi]
 rw [e]
 exact ⟨Jps hi,yax hi⟩
theorem Jt7:Jmy ["self","setting","level"] ["self","setting","level"] (Jmt (Jn2 (top 48) 2)):=⟨rfl,rfl,rfl,by decide +kernel,rfl,by decide +kernel,by decide +kernel⟩
theorem Jsy (T:Tx K mg a):Ss P w K mg base CX0 1 a.Jj6 a.Jj7 ["self","setting","level"] (Ya3 a.Jmc 0 λm lv=>if lv < m then lv else m):=by
 refine T.Jdc.fn.ok Jt7 (λvs H Q E h=>?_) (λcdv A outer s H vs Q E hr h=>?_)
 ·obtain ⟨g,ns,s,lv,rfl,_⟩:=h
  rfl
 ·obtain ⟨g,ns,s,lv,rfl,⟨dx,t,hg,ht⟩,hs,hn,hl,k⟩:=h
  obtain ⟨hat,hin⟩:=Jth hs
  refine ⟨?t,?B,?C⟩
  case B=>
   refine' Sy ?O0
   case O0=>exact (Jn0 (Jmx (Jor rfl) (by rfl) T.Jb1 Jqn (Sk (Jn1 Jn9 (Jna (pv 0) (by rfl)) (pv 1) (λ_ _=>rfl)) (Sk (pv 2) Sm))))
  exact ⟨_,rfl,g,_,dx,_,_,rfl,hg,T.Jeb,T.Jfp,rfl,_,rfl,t,_,_,_,rfl,rfl,Su.of ht,hat,_,rfl,_,_,rfl,k⟩
theorem Jt1:Jmy ["self","setting","level"] ["self","setting","level"] (Jmt (Jn2 (top 49) 2)):=⟨rfl,rfl,rfl,by decide +kernel,rfl,by decide +kernel,by decide +kernel⟩
theorem Jsw (T:Tx K mg a):Ss P w K mg base CX0 1 a.Jjc a.Jjd ["self","setting","level"] (Ya3 a.Jmd 0 λm lv=>if 0 > lv - m then 0 else lv - m):=by
 refine T.Jdf.fn.ok Jt1 (λvs H Q E h=>?_) (λcdv A outer s H vs Q E hr h=>?_)
 ·obtain ⟨g,ns,s,lv,rfl,_⟩:=h
  rfl
 ·obtain ⟨g,ns,s,lv,rfl,⟨dx,t,hg,ht⟩,hs,hn,hl,k⟩:=h
  obtain ⟨hat,hin⟩:=Jth hs
  refine ⟨?t,?B,?C⟩
  case B=>
   refine' Sy ?O0
   case O0=>exact (Jn0 (Jmx (Jpl rfl) (by rfl) T.Jb0 Jsu (Sk (Jn5 Jo4 (pv 2) (Jn1 Jn9 (Jna (pv 0) (by rfl)) (pv 1) (λ_ _=>rfl))) (Sk So Sm))))
  exact ⟨_,rfl,_,rfl,g,_,dx,_,_,rfl,hg,T.Jeh,T.Jfq,rfl,_,rfl,t,_,_,_,rfl,rfl,Su.of ht,hat,_,_,rfl,rfl,_,_,rfl,k⟩
theorem Jt6:Jmy ["self","setting","level"] ["self","setting","level"] (Jmt (Jn2 (top 50) 2)):=⟨rfl,rfl,rfl,by decide +kernel,rfl,by decide +kernel,by decide +kernel⟩
theorem Jsx (T:Tx K mg a):Ss P w K mg base CX0 1 a.Jji a.Jjj ["self","setting","level"] (Ya3 a.Jme 1 λm lv=>lv/m):=by
 refine T.Jdi.fn.ok Jt6 (λvs H Q E h=>?_) (λcdv A outer s H vs Q E hr h=>?_)
 ·obtain ⟨g,ns,s,lv,rfl,_⟩:=h
  rfl
 ·obtain ⟨g,ns,s,lv,rfl,⟨dx,t,hg,ht⟩,hs,hn,hl,k⟩:=h
  obtain ⟨hat,hin⟩:=Jth hs
  refine ⟨?t,?B,?C⟩
  case B=>
   refine' Sy ?O0
   case O0=>exact (Jn0 (Jn5 Jr0 (pv 2) (Jn1 Jn9 (Jna (pv 0) (by rfl)) (pv 1) (λ_ _=>rfl))))
  have hm:=hn _ hin
  refine ⟨_,rfl,_,rfl,g,_,dx,_,_,rfl,hg,T.Jen,T.Jfr,rfl,_,rfl,t,_,_,_,rfl,rfl,Su.of ht,hat,?_⟩
  exact ⟨_,_,rfl,rfl,⟨by omega,Jrd (by omega)⟩,k⟩
theorem Jxe:∀{ns:List Int} {lo:Int},Jof lo (ns.map V.int)=true->∀n∈ns,lo<=n/\n<=12
 | [],_,_=>λ_ h=>nomatch h
 |x::r,lo,h=>by
  have h':((decide (lo<=x)&&decide (x<=12))&&Jof (x+1) (r.map V.int))=true:=h
  rw [yx,yx,decide_eq_true_eq,decide_eq_true_eq] at h'
  intro n hn
  rcases ym.mp hn with rfl|hn
  ·exact h'.1
  ·have:=Jxe h'.2 n hn
   omega
theorem Sbd.marks {G:Jnj} (h:Sbd G):∀n∈G.ns,Jpo G.kd<=n/\n<=12:=by
 have q:(decide (1<=(G.ns.map V.int).length/\(G.ns.map V.int).length<=4)&&Jof (Jpo G.kd) (G.ns.map V.int))=true:=h.ns
 rw [yx] at q
 exact Jxe q.2
theorem Juz {H:Hp} {g:S1} {kd:Str} {ns:List Int} {s lv:Int} {Q:VK} (T:Tx K mg a) (hk:Knd kd) (ga:Sbr (cOf a kd) H g (ns.map V.int)) (hs:0<=s/\s < ns.length) (hn:∀n∈ns,Jpo kd<=n/\n<=12) (hl:0<=lv/\lv<=1000) (k:Q (.int (Jqb kd (ns.getD s.toNat 0) lv)) H):
  ∃C dx fs f fd ps sp,H g=some (.ins C dx fs)/\fs.lookup ("passes" :Str)=none/\Cls K C/\Jpv K C "passes" f/\Ss P w K mg base CX0 1 f fd ps sp/\Sbk K fd ps []/\sp [.ref g,.int s,.int lv] H Q E0:=by
 obtain ⟨dx,t,h1,h2⟩:=id ga
 rcases hk with rfl|rfl|rfl
 ·have e2:cOf a "step" =a.Jmc:=if_pos rfl
  rw [e2] at h1 ga
  exact ⟨_,dx,_,_,_,_,_,h1,rfl,T.Jeb,T.Jeg,Jsy T,T.Jdc.bd,g,ns,s,lv,rfl,ga,hs,hn,hl,k⟩
 ·have e2:cOf a "flap" =a.Jmd:=by unfold cOf;rw [if_neg Juv,if_pos rfl]
  rw [e2] at h1 ga
  have ek:Jqb "flap" (ns.getD s.toNat 0) lv=(if 0 > lv - ns.getD s.toNat 0 then 0 else lv - ns.getD s.toNat 0):=by unfold Jqb;rw [if_neg Juv,if_pos rfl]
  rw [ek] at k
  exact ⟨_,dx,_,_,_,_,_,h1,rfl,T.Jeh,T.Jem,Jsw T,T.Jdf.bd,g,ns,s,lv,rfl,ga,hs,hn,hl,k⟩
 ·have e2:cOf a "part" =a.Jme:=by unfold cOf;rw [if_neg Jux,if_neg Juw]
  rw [e2] at h1 ga
  have ek:Jqb "part" (ns.getD s.toNat 0) lv=lv/ns.getD s.toNat 0:=by unfold Jqb;rw [if_neg Jux,if_neg Juw]
  rw [ek] at k
  exact ⟨_,dx,_,_,_,_,_,h1,rfl,T.Jen,T.Jes,Jsx T,T.Jdi.bd,g,ns,s,lv,rfl,ga,hs,hn,hl,k⟩
theorem Yd9 {H:Hp} {g:S1} {kd:Str} {xs:List V} (T:Tx K mg a) (hk:Knd kd) (ga:Sbr (cOf a kd) H g xs):∃t,TyX K H (.ref g) t/\Sf K t (.ref a.Jmf)=some false:=by
 obtain ⟨dx,t,h1,h2⟩:=ga
 rcases hk with rfl|rfl|rfl
 ·rw [show cOf a "step" =a.Jmc from if_pos rfl] at h1
  exact ⟨_,.of (T.Jec.ty T.Jeb h1),T.Jgp⟩
 ·rw [show cOf a "flap" =a.Jmd by unfold cOf;rw [if_neg Juv,if_pos rfl]] at h1
  exact ⟨_,.of (T.Jei.ty T.Jeh h1),T.Jgq⟩
 ·rw [show cOf a "part" =a.Jme by unfold cOf;rw [if_neg Jux,if_neg Juw]] at h1
  exact ⟨_,.of (T.Jeo.ty T.Jen h1),T.Jgr⟩
inductive Yfj (a:Ad) (vs:List V) (H:Hp) (Q:VK) (z3:XK):Prop where
 |mk (x g dx:S1) (y:V) (kd:Str) (ns:List Int) (j lv:Int) (_:vs= [.ref x,y,.int lv]) (_:H x=some (.ins a.Jmf dx [("gate",.ref g),("setting",.int j)])) (_:Knd kd) (_:Sbr (cOf a kd) H g (ns.map V.int)) (_:(0<=j/\j < ns.length)) (_:(∀n∈ns,Jpo kd<=n/\n<=12)) (_:(0<=lv/\lv<=1000)) (_:Q (.int (Jqb kd (ns.getD j.toNat 0) lv)) H)
theorem Sb2:Jmy ["self","setting","level","inner"] ["self","setting","level"] (Jmt (Jn2 (top 51) 2)):=⟨rfl,rfl,rfl,by decide +kernel,rfl,by decide +kernel,by decide +kernel⟩
theorem Jsf (T:Tx K mg a):Ss P w K mg base CX0 2 a.Jjo a.Jjp ["self","setting","level"] (Yfj a):=by
 refine T.Jdl.fn.ok Sb2 (λvs H Q E h=>?_) (λcdv A outer s H vs Q E hr h=>?_)
 ·obtain ⟨x,g,dx,y,kd,ns,j,lv,rfl,_⟩:=h
  rfl
 ·obtain ⟨x,g,dx,y,kd,ns,j,lv,rfl,hx,hk,ga,hj,hn,hl,k⟩:=h
  refine ⟨?t,?B,?C⟩
  case B=>
   refine' Sw ?O0 ?O1
   case O0=>exact (Jn3 (i:=3) Sb2.nd rfl (ye rfl) (pv 0))
   case O1=>
   refine' Sw ?O2 ?O3
   case O2=>exact (Yda PassesOwn.never (Jnf (Jmx Jo7 (by rfl) T.Jax Jnb (Sk (Jna (pv 3) (by rfl)) (Sk (Jo5 (by rfl) T.Jbo (v:=.ref _) rfl) Sm)))) (Sy (Jn3 (i:=3) Sb2.nd rfl (ye rfl) (Jna (pv 3) (by rfl)))))
   case O3=>
   refine' Sy ?O4
   case O4=>exact (Jn0 (Jtm (Jna (pv 3) (by rfl)) hr (Sk (Jna (pv 3) (by rfl)) (Sk (pv 2) Sm))))
  obtain ⟨t,tg,et⟩:=Yd9 T hk ga
  obtain ⟨C,dx',fs,f,fd,ps,sp,h1,h2,c,m,ok,bd,hsp⟩:=Juz (P:=P) (w:=w) (base:=base) (Q:=Q) T hk ga hj hn hl k
  refine ⟨_,rfl,λ_ σ' H'=>σ'= [some (.ref x),some y,some (.int lv),some (.ref x)]/\H'=H,⟨0,rfl,rfl⟩,?_⟩
  rintro n σ' H' ⟨rfl,rfl⟩
  refine ⟨_,rfl,x,_,dx,_,_,rfl,hx,T.Jet,T.Jfs,rfl,_,_,_,t,false,rfl,rfl,tg,et,_,rfl,Jnv ?_⟩
  exact ⟨_,rfl,x,_,dx,_,_,rfl,hx,T.Jet,T.Jfs,rfl,g,C,dx',fs,f,fd,ps,sp,1,rfl,h1,h2,c,m,ok,by decide,bd,_,rfl,x,_,dx,_,_,rfl,hx,T.Jet,T.Jft,rfl,_,rfl,hsp⟩
theorem GX.passes {H:Hp} {x:V} {G:Jnj} {s lv:Int} {Q:VK} (T:Tx K mg a) (gg:Sbd G) (gx:GX a H x G) (hs:0<=s/\s < (nOf G:Int)) (hl:0<=lv/\lv<=1000) (k:Q (.int (lvG G s lv)) H):
  ∃o C dx fs f fd ps sp k',x= .ref o/\H o=some (.ins C dx fs)/\fs.lookup ("passes" :Str)=none/\Cls K C/\Jpv K C "passes" f/\Ss P w K mg base CX0 k' f fd ps sp/\k'<=2/\Sbk K fd ps []/\sp [x,.int s,.int lv] H Q E0:=by
 obtain ⟨g,ga,r⟩:=gx
 unfold lvG at k
 unfold nOf at hs
 cases e:G.sv with
 |none=>
  rw [e] at r k hs
  subst r
  obtain ⟨C,dx',fs,f,fd,ps,sp,h1,h2,c,m,ok,bd,hsp⟩:=Juz (P:=P) (w:=w) (base:=base) (Q:=Q) T gg.kd ga hs gg.marks hl k
  exact ⟨g,C,dx',fs,f,fd,ps,sp,1,rfl,h1,h2,c,m,ok,by decide,bd,hsp⟩
 |some j=>
  rw [e] at r k
  obtain ⟨q,dx,rfl,r2⟩:=r
  exact ⟨q,_,dx,_,_,_,_,_,2,rfl,r2,rfl,T.Jet,T.Jey,Jsf T,by decide,T.Jdl.bd,q,g,dx,.int s,G.kd,G.ns,j,lv,rfl,r2,gg.kd,ga,gg.sv j e,gg.marks,hl,k⟩
inductive Ydr (a:Ad) (vs:List V) (H:Hp) (Q:VK) (z3:XK):Prop where
 |mk (x:V) (G:Jnj) (s lv:Int) (_:vs= [x,.int s,.int lv]) (_:GX a H x G) (_:Sbd G) (_:(0<=s/\s < (nOf G:Int))) (_:(0<=lv/\lv<=1000)) (_:Q (.int (lvG G s lv)) H)
theorem Js5:Jmy ["self","thing"] ["self","thing"] (Jmt (Jn2 (top 11) 0)):=⟨rfl,rfl,rfl,by decide +kernel,rfl,by decide +kernel,by decide +kernel⟩
theorem Jqx (T:Tx K mg a):Ss P w K mg base CX0 1 a.Jha a.Jhb ["self","thing"] (Jpx K "thing"):=by
 refine T.Jd0.fn.ok Js5 (λvs H Q E h=>?_) (λcdv A outer s H vs Q E hr h=>?_)
 ·obtain ⟨e,C,W,fI,y,rfl,_⟩:=h
  rfl
 ·obtain ⟨e,C,W,fI,y,rfl,q,c,n,k⟩:=h
  refine ⟨_,(Sy (Jpu (pv 0) (pv 1) rfl)),?_⟩
  exact ⟨_,rfl,_,rfl,e,C,W,fI,true,rfl,q,c,n,k⟩
theorem Jyk:Jmy ["self","setting","level"] ["self","setting","level"] (Jmt (Jn2 (top 47) 0)):=⟨rfl,rfl,rfl,by decide +kernel,rfl,by decide +kernel,by decide +kernel⟩
theorem Jq2 (T:Tx K mg a):Ss P w K mg base (CXX P w) 3 a.Jj0 a.Jj1 ["self","setting","level"] (Ydr a):=by
 have Sx:=Jo6 (P:=P) (w:=w) (base:=base) T
 have Sa2:=Jpf (P:=P) (w:=w) (base:=base) T
 have Sb0:=Jqx (P:=P) (w:=w) (base:=base) T
 refine T.Jd9.fn.okX Jyk (λvs H Q E h=>?_) (λcdv A outer s H vs Q E hr h=>?_)
 ·obtain ⟨x,G,s,lv,rfl,_⟩:=h
  rfl
 ·obtain ⟨x,G,s,lv,rfl,gx,gg,hs,hl,k⟩:=h
  refine ⟨?t,?B,?C⟩
  case B=>
   refine' Sw ?O0 ?O1
   case O0=>
    refine' Jng ?O2 ?O3 ?O4
    case O2=>exact (Jnh (Jnf (Jmv T.J0 Sx hr (by decide) (Sk (pv 1) (Sk So (Sk (Jn5 Jo4 (Jug (pv 0) hr) So) Sm))))))
    case O3=>
     refine' Sy ?O5
     case O5=>exact (Jns Jnu rfl (Job T.Jdr Sa2 hr (by decide) T.Jcs.bd T.Jb9 (Sk (pv 1) Sm)))
    case O4=>exact Jn6
   case O1=>
   refine' Sw ?O6 ?O7
   case O6=>
    refine' Jng ?O8 ?O9 ?Oa
    case O8=>exact (Jnh (Jnf (Jmv T.J0 Sx hr (by decide) (Sk (pv 2) (Sk So (Sk (Jo5 (by rfl) T.Jal (v:=.int 1000) ⟨_,rfl⟩) Sm))))))
    case O9=>
     refine' Sy ?Ob
     case Ob=>exact (Jns Jnu rfl (Job T.Jdz Sb0 hr (by decide) T.Jd0.bd T.Jbh (Sk (pv 2) Sm)))
    case Oa=>exact Jn6
   case O7=>
   refine' Sy ?Oc
   case Oc=>exact (Jn0 (Jtm (pv 0) hr (Sk (pv 1) (Sk (pv 2) Sm))))
  have gs:GS K a H x (nOf G):=gx.gs gg
  obtain ⟨o,C,dx',fs,f,fd,ps,sp,k',rfl,h1,h2,c,m,ok,hk,bd,hsp⟩:=gx.passes (P:=P) (w:=w) (base:=base) (Q:=Q) T gg hs hl k
  refine ⟨_,rfl,_,rfl,Jp3 T gs ⟨_,_,rfl,rfl,.int s,0,(nOf G:Int) - 1,rfl,.inl ⟨s,rfl⟩,_,rfl,ifF (by simp [Jnc];omega) ?_⟩ (by decide)⟩
  refine ⟨_,rfl,.int lv,0,1000,rfl,.inl ⟨lv,rfl⟩,_,rfl,ifF (by simp [Jnc];omega) ?_⟩
  exact ⟨_,rfl,o,C,dx',fs,f,fd,ps,sp,k',rfl,h1,h2,c,m,ok,hk,bd,_,rfl,_,rfl,hsp⟩
def plc (S:Riv) (z:Str):Nat:=(S.Bs.map (·.z)).idxOf z
inductive Yfk (K:Se) (a:Ad) (vs:List V) (H:Hp) (Q:VK) (z3:XK):Prop where
 |mk (o:S1) (S:Riv) (z:Str) (_:vs= [.ref o,.str z]) (_:Say K a H o S) (_:z∈S.Bs.map (·.z)) (_:∀H',Sj H H'->Q (.int (plc S z)) H')
def TIn (S:Riv):Prop:=∀T∈S.Ts,T.b∈S.Bs.map (·.z)/\1<=T.wt/\T.wt<=6
inductive Yfc (K:Se) (a:Ad) (vs:List V) (H:Hp) (Q:VK) (z3:XK):Prop where
 |mk (o:S1) (S:Riv) (t:Int) (T:Twn) (_:vs= [.ref o,.int t]) (_:Say K a H o S) (_:TIn S) (_:0<=t) (_:S.Ts[t.toNat]?=some T) (_:∀H',Sj H H'->Q (.int (plc S T.b)) H')
theorem Sc4.at {a:Ad} {H:Hp}:∀{xs:List S1} {Bs:List Twn} {i:Nat} {B:Twn},Sc4 a H xs Bs->Bs[i]?=some B->∃o,xs[i]?=some o/\Sbt a H o B
 |o::_,_::_,0,_,⟨h,_⟩,e=>by cases e;exact ⟨o,rfl,h⟩
 |_::_,_::_,i+1,_,⟨_,t⟩,e=>Sc4.at (i:=i) t (by simpa using e)
 | [],[],i,_,_,e=>by simp at e
theorem Ycv:∀{l:List Str} {i:Nat} {z:Str},l[i]?=some z->(∀j,j < i->l[j]?≠some z)->l.idxOf z=i
 | [],_,_,h,_=>by simp at h
 |x::l,0,z,h,_=>by
  have e:x=z:=by simpa using h
  rw [e]
  simp
 |x::l,i+1,z,h,n=>by
  have hx:x≠z:=λe=>n 0 (by omega) (by simp [e])
  have ih:=Ycv (l:=l) (i:=i) (z:=z) (by simpa using h) (λj hj=>by have:=n (j+1) (by omega);simpa using this)
  have hb:(x==z)=false:=beq_false_of_ne hx
  simp [List.idxOf_cons,hb,ih]
theorem Sbg:Jmy ["self","name","place","basin"] ["self","name"] (Jmt (Jn2 (top 65) 1)):=⟨rfl,rfl,rfl,by decide +kernel,rfl,by decide +kernel,by decide +kernel⟩
theorem Jti (T:Tx K mg a):Ss P w K mg base CX0 1 a.Jk4 a.Jk5 ["self","name"] (Yfk K a):=by
 refine T.Jdp.fn.ok Sbg (λvs H Q E h=>?_) (λcdv A outer s H vs Q E hr h=>?_)
 ·obtain ⟨o,S,z,rfl,_⟩:=h
  rfl
 ·obtain ⟨o,S,z,rfl,ro,hz,k⟩:=h
  refine ⟨?t,?B,?C⟩
  case B=>
   refine' Sw ?O0 ?O1
   case O0=>
    refine' Jpj ?O2 ?O3 ?O4 ?O5 ?O6
    case O2=>exact PassesOwn.never
    case O3=>exact rfl
    case O4=>exact (Jzr (by rfl) T.Jav (Sk (Jna (pv 0) (by rfl)) Sm))
    case O5=>exact (Jr7 rfl (Jn7 (Jmz (i:=2) Sbg.nd rfl (ye rfl)) (Jn7 (Jmz (i:=3) Sbg.nd rfl (ye rfl)) Joe)))
    case O6=>
    refine' Sy ?O7
    case O7=>
    refine' Jng ?O8 ?O9 ?Oa
    case O8=>exact (Jnp Jqz (Jna (pv 3) (by rfl)) (pv 1) (Jni _))
    case O9=>
     refine' Sy ?Ob
     case Ob=>exact (Jn0 (pv 2))
    case Oa=>exact Jn6
   case O1=>
   refine' Sy ?Oc
   case Oc=>exact (Jn0 Jqd)
  obtain ⟨dx,b,t,os,ts,ho,hb,bl,ht,tl,n1,n2,n3⟩:=ro
  have len:=bl.len
  refine ⟨_,rfl,o,_,dx,_,_,rfl,ho,T.Jf5,T.Jg5,rfl,b,rfl,⟨_,Su.of hb⟩,?_⟩
  refine Ycs (xs:=os.map V.ref) (λi σ H'=>(∃o1 o2,σ= [some (.ref o),some (.str z),o1,o2])/\Sj H H'/\∀j,j < i->∀B,S.Bs[j]?=some B->B.z≠z) ⟨⟨_,_,rfl⟩,Sj.refl _,λj hj=>absurd hj (yby j)⟩ (λi σ H' _ ⟨_,sm,_⟩=>Su.of (sm _ _ hb)) ?_ ?_
  ·rintro i x σ H' Ta hx ⟨⟨o1,o2,rfl⟩,sm,no⟩ hT
   obtain ⟨ob,B,rfl,hB,dxb,hob,gs⟩:=(bl.same sm).get hx
   have sT:=Sj.upd (o:=.tup [.int i,.ref ob]) hT
   refine ⟨Ta,_,rfl,Su.of Sr,rfl,_,_,rfl,_,_,rfl,rfl,?_⟩
   refine ⟨_,rfl,ob,_,dxb,_,_,rfl,sT _ _ hob,T.Jez,T.Jfu,rfl,_,rfl,rfl,_,rfl,?_⟩
   by_cases e:B.z=z
   ·refine ifT (by simp [e]) ⟨_,rfl,?_⟩
    have ei:plc S z=i:=by
     refine Ycv (by rw [yg,hB,<-e];rfl) λj hj z'=>?_
     rw [yg] at z'
     obtain ⟨B',hB',ez⟩:=yw.mp z'
     exact no j hj B' hB' ez
    have k':=k _ (sm.trans sT)
    rw [ei] at k'
    exact k'
   ·refine ifF (by simp [e]) ⟨⟨_,_,rfl⟩,sm.trans sT,λj hj B' hB'=>?_⟩
    by_cases ej:j=i
    ·subst ej
     rw [hB] at hB'
     cases hB'
     exact e
    ·exact no j (by omega) B' hB'
  ·rintro σ H' ⟨_,sm,no⟩
   exfalso
   have hm:(S.Bs.map (·.z)).idxOf z < (S.Bs.map (·.z)).length:=List.idxOf_lt_length_of_mem hz
   have hj:(S.Bs.map (·.z)).idxOf z < S.Bs.length:=by rw [yf] at hm;exact hm
   have g:=List.getElem_idxOf hm
   rw [List.getElem_map] at g
   exact no _ (by rw [yf,len];exact hj) _ (yh hj) g
theorem Jsk:Jmy ["river","town"] ["river","town"] (Jmt (top 27)):=⟨rfl,rfl,rfl,by decide +kernel,rfl,by decide +kernel,by decide +kernel⟩
theorem Jpz (T:Tx K mg a):Ss P w K mg base CX0 2 a.Jhy a.Jhz ["river","town"] (Yfc K a):=by
 refine T.Jb.fn.ok Jsk (λvs H Q E h=>?_) (λcdv A outer s H vs Q E hr h=>?_)
 ·obtain ⟨o,S,t,W,rfl,_⟩:=h
  rfl
 ·obtain ⟨o,S,t,W,rfl,ro,ti,h0,hW,k⟩:=h
  refine ⟨?t,?B,?C⟩
  case B=>
   refine' Sy ?O0
   case O0=>exact (Jn0 (Jtm (pv 0) hr (Sk (Jna (Jn1 Jn9 (Jna (pv 0) (by rfl)) (pv 1) (λ_ _=>rfl)) (by rfl)) Sm)))
  obtain ⟨dx,b,tt,os,ts,ho,hb,bl,ht,tl,n1,n2,n3⟩:=id ro
  obtain ⟨ow,how,dw,hw⟩:=tl.at hW
  obtain ⟨i,rfl⟩:=ybm h0
  have hat:atI (ts.map V.ref) (i:Int)=some (.ref ow):=Jq0 (by rw [yg];simp at how;rw [how];rfl)
  refine ⟨_,rfl,o,_,dx,_,_,_,_,_,1,rfl,ho,rfl,T.Jf5,T.Jf7,Jti T,by decide,T.Jdp.bd,?_⟩
  refine ⟨_,rfl,o,_,dx,_,_,rfl,ho,T.Jf5,T.Jg6,rfl,_,rfl,tt,_,_,_,rfl,rfl,Su.of ht,hat,ow,_,dw,_,_,rfl,hw,T.Jf2,T.Jg1,rfl,o,S,W.b,rfl,ro,(ti W (yp hW)).1,k⟩
def drw (S:Riv) (ls:List Int):V->Int
 | .int t=>match S.Ts[t.toNat]? with
  |some T=>if ls.getD (plc S T.b) 0≥T.wt then T.wt else 0
  |none=>0
 |_=>0
def Shy (S:Riv) (v:V):Prop:=v= .non\/∃j:Int,v= .int j/\0<=j/\j < S.Ts.length
def StA (H:Hp) (x:V) (S:Riv) (ls:List Int) (wt:Int):Prop:=∃y u:S1,x= .ref y/\H y=some (.tup [.ref u,.int wt])/\H u=some (.tup (ls.map V.int))/\ls.length=S.Bs.length
def ChA (H:Hp) (x:V) (S:Riv) (cs:List Int) (tv:V):Prop:=∃y u:S1,x= .ref y/\H y=some (.tup [.ref u,tv])/\H u=some (.tup (cs.map V.int))/\cs.length=S.Bs.length/\Shy S tv
theorem StA.same {H H':Hp} {x:V} {S:Riv} {ls:List Int} {wt:Int} (s:Sj H H') (h:StA H x S ls wt):StA H' x S ls wt:=by obtain ⟨y,u,e,h1,h2,h3⟩:=h;exact ⟨y,u,e,s _ _ h1,s _ _ h2,h3⟩
theorem ChA.same {H H':Hp} {x:V} {S:Riv} {cs:List Int} {tv:V} (s:Sj H H') (h:ChA H x S cs tv):ChA H' x S cs tv:=by obtain ⟨y,u,e,h1,h2,h3⟩:=h;exact ⟨y,u,e,s _ _ h1,s _ _ h2,h3⟩
theorem Jw5 {S:Riv} {z:Str} (h:z∈S.Bs.map (·.z)):plc S z < S.Bs.length:=by
 have hm:(S.Bs.map (·.z)).idxOf z < (S.Bs.map (·.z)).length:=List.idxOf_lt_length_of_mem h
 rw [yf] at hm
 exact hm
theorem Jsc {ns:List Int} {i:Nat} (h:i < ns.length):atI (ns.map V.int) (i:Int)=some (.int (ns.getD i 0)):=by
 have e:ns.getD i 0=ns[i]:=by simp [yat,h]
 rw [e]
 exact Jps h
inductive Sns (K:Se) (a:Ad) (vs:List V) (H:Hp) (Q:VK) (z3:XK):Prop where
 |mk (o:S1) (S:Riv) (x c:V) (ls cs:List Int) (wt:Int) (tv:V) (_:vs= [.ref o,x,c]) (_:Say K a H o S) (_:TIn S) (_:StA H x S ls wt) (_:ChA H c S cs tv) (_:∀H',Sj H H'->Q (.int (drw S ls tv)) H')
theorem Sga:Jmy ["river","standing","choice","town","want"] ["river","standing","choice"] (Jmt (top 28)):=⟨rfl,rfl,rfl,by decide +kernel,rfl,by decide +kernel,by decide +kernel⟩
theorem Yex (T:Tx K mg a):Ss P w K mg base CX0 3 a.Ji0 a.Ji1 ["river","standing","choice"] (Sns K a):=by
 have Sb9:=Jpz (P:=P) (w:=w) (base:=base) T
 refine T.Jc.fn.ok Sga (λvs H Q E h=>?_) (λcdv A outer s H vs Q E hr h=>?_)
 ·obtain ⟨o,S,x,c,ls,cs,wt,tv,rfl,_⟩:=h
  rfl
 ·obtain ⟨o,S,x,c,ls,cs,wt,tv,rfl,ro,ti,⟨y,u,rfl,hy,hu,lu⟩,⟨z,v,rfl,hz,hv,lv,tw⟩,k⟩:=h
  refine ⟨?t,?B,?C⟩
  case B=>
   refine' Sw ?O0 ?O1
   case O0=>exact (Jn3 (i:=3) Sga.nd rfl (ye rfl) (Jn1 Jn9 (pv 2) So (λ_ _=>rfl)))
   case O1=>
   refine' Sw ?O2 ?O3
   case O2=>
    refine' Jng ?O4 ?O5 ?O6
    case O4=>exact (Jnp Jyc (pv 3) Jqd (Jni _))
    case O5=>
     refine' Sy ?O7
     case O7=>exact (Jn0 So)
    case O6=>exact Jn6
   case O3=>
   refine' Sw ?O8 ?O9
   case O8=>exact (Jn3 (i:=4) Sga.nd rfl (ye rfl) (Jna (Jn1 Jn9 (Jna (pv 0) (by rfl)) (pv 3) (λ_ _=>rfl)) (by rfl)))
   case O9=>
   refine' Sy ?Oa
   case Oa=>exact (Jn0 (Jw3 (Jnp Slr (Jn1 Jn9 (Jn1 Jn9 (pv 1) So (λ_ _=>rfl)) (Jmv T.Jb Sb9 hr (by decide) (Sk (pv 0) (Sk (pv 3) Sm))) (λ_ _=>rfl)) (pv 4) (Jni _)) (pv 4) So))
  obtain ⟨dx,b,tt,os,ts,ho,hb,bl,ht,tl,n1,n2,n3⟩:=id ro
  refine ⟨_,rfl,z,_,1,tv,rfl,rfl,Su.of hz,rfl,?_⟩
  rcases tw with rfl|⟨j,rfl,j0,j1⟩
  ·exact ⟨_,rfl,rfl,_,rfl,Yg rfl (k _ λ_ _ h=>h)⟩
  ·obtain ⟨i,rfl⟩:=ybm j0
   have hi:i < S.Ts.length:=by omega
   obtain ⟨ow,how,dw,hw⟩:=tl.at (i:=i) (B:=S.Ts[i]) (yh hi)
   have hat:atI (ts.map V.ref) (i:Int)=some (.ref ow):=Jq0 (by rw [yg,how];rfl)
   have pin:=(ti _ (yax hi)).1
   have pl:=Jw5 pin
   have e:drw S ls (.int (i:Int))=if ls.getD (plc S S.Ts[i].b) 0≥S.Ts[i].wt then S.Ts[i].wt else 0:=by
    show (match S.Ts[(i:Int).toNat]? with|some T=>_|none=>_)=_
    rw [ybl,yh hi]
   rw [e] at k
   refine ⟨_,rfl,rfl,_,rfl,Jxy (λz=>by cases z) ?_⟩
   refine ⟨_,rfl,o,_,dx,_,_,rfl,ho,T.Jf5,T.Jg6,rfl,_,rfl,tt,_,_,_,rfl,rfl,Su.of ht,hat,ow,_,dw,_,_,rfl,hw,T.Jf2,T.Jg2,rfl,?_⟩
   refine ⟨_,rfl,y,_,0,_,rfl,rfl,Su.of hy,rfl,_,rfl,_,rfl,o,S,(i:Int),S.Ts[i],rfl,ro,ti,j0,(by simp [hi]),λH1 s1=>?_⟩
   refine ⟨u,_,_,_,rfl,rfl,Su.of (s1 _ _ hu),Jsc (by omega),_,rfl,_,_,rfl,rfl,_,rfl,?_⟩
   by_cases q:S.Ts[i].wt<=ls.getD (plc S S.Ts[i].b) 0
   ·have k':=k _ s1
    rw [if_pos q] at k'
    exact ifT (decide_eq_true q) ⟨_,rfl,k'⟩
   ·have k':=k _ s1
    rw [if_neg q] at k'
    exact ifF (decide_eq_false q) k'
def Jt0 (S:Riv):V->Nat
 | .int t=>match S.Ts[t.toNat]? with
  |some T=>plc S T.b
  |none=>0
 |_=>0
def lft (S:Riv) (ls:List Int) (tv:V):List Int:=if drw S ls tv > 0 then ls.set (Jt0 S tv) (ls.getD (Jt0 S tv) 0 - drw S ls tv) else ls
inductive Snw (K:Se) (a:Ad) (vs:List V) (H:Hp) (Q:VK) (z3:XK):Prop where
 |mk (o:S1) (S:Riv) (x c:V) (ls cs:List Int) (wt:Int) (tv:V) (_:vs= [.ref o,x,c,.int (drw S ls tv)]) (_:Say K a H o S) (_:TIn S) (_:StA H x S ls wt) (_:ChA H c S cs tv) (_:∀l H',H l=none->Sj H H'->H' l=some (.lst ((lft S ls tv).map V.int))->Q (.ref l) H')
theorem Sd3:Jmy ["river","standing","choice","drawn","left"] ["river","standing","choice","drawn"] (Jmt (top 29)):=⟨rfl,rfl,rfl,by decide +kernel,rfl,by decide +kernel,by decide +kernel⟩
theorem Jw1 (T:Tx K mg a):Ss P w K mg base CX0 3 a.Ji2 a.Ji3 ["river","standing","choice","drawn"] (Snw K a):=by
 have Sb9:=Jpz (P:=P) (w:=w) (base:=base) T
 refine T.Jd.fn.ok Sd3 (λvs H Q E h=>?_) (λcdv A outer s H vs Q E hr h=>?_)
 ·obtain ⟨o,S,x,c,ls,cs,wt,tv,rfl,_⟩:=h
  rfl
 ·obtain ⟨o,S,x,c,ls,cs,wt,tv,rfl,ro,ti,⟨y,u,rfl,hy,hu,lu⟩,⟨z,v,rfl,hz,hv,lv,tw⟩,k⟩:=h
  refine ⟨?t,?B,?C⟩
  case B=>
   refine' Sw ?O0 ?O1
   case O0=>exact (Jn3 (i:=4) Sd3.nd rfl (ye rfl) (Jnd Jox (by rfl) T.Jaz Jq1 (Sk (Jn1 Jn9 (pv 1) So (λ_ _=>rfl)) Sm)))
   case O1=>
   refine' Sw ?O2 ?O3
   case O2=>
    refine' Jng ?O4 ?O5 ?O6
    case O4=>exact (Jnp Jrf (pv 3) So (Jni _))
    case O5=>
     refine' Sy ?O7
     case O7=>exact (Yf3 (pv 4) (Jmv T.Jb Sb9 hr (by decide) (Sk (pv 0) (Sk (Jn1 Jn9 (pv 2) So (λ_ _=>rfl)) Sm))) Yct (pv 3) Sn1 Jpk)
    case O6=>exact Jn6
   case O3=>
   refine' Sy ?O8
   case O8=>exact (Jn0 (pv 4))
  refine ⟨_,rfl,y,_,0,_,rfl,rfl,Su.of hy,rfl,u,_,rfl,.inr (Su.of hu),λl hl=>?_⟩
  have s1:=Sj.upd (o:=.lst (ls.map V.int)) hl
  refine ⟨_,rfl,_,_,rfl,rfl,_,rfl,?_⟩
  by_cases hd:drw S ls tv > 0
  ·refine ifT (decide_eq_true hd) ?_
   obtain ⟨j,rfl,j0,j1⟩:∃j:Int,tv= .int j/\0<=j/\j < S.Ts.length:=by
    rcases tw with rfl|h
    ·exact absurd (show (0:Int) > 0 from hd) (by decide)
    ·exact h
   obtain ⟨i,rfl⟩:=ybm j0
   have hi:i < S.Ts.length:=by omega
   have pin:=(ti _ (yax hi)).1
   have pl:=Jw5 pin
   have ep:Jt0 S (.int (i:Int))=plc S S.Ts[i].b:=by
    show (match S.Ts[(i:Int).toNat]? with|some T=>_|none=>_)=_
    rw [ybl,yh hi]
   refine ⟨_,rfl,_,rfl,_,rfl,z,_,1,_,rfl,rfl,Su.of (s1 _ _ hz),rfl,o,S,(i:Int),S.Ts[i],rfl,ro.same s1,ti,j0,(by simp [hi]),λH1 s2=>?_⟩
   have hl1:=s2 _ _ (Sr (H:=H) (a:=l) (o:=.lst (ls.map V.int)))
   have pl':plc S S.Ts[i].b < ls.length:=by omega
   have hix:ixN (ls.map V.int).length ((plc S S.Ts[i].b:Nat):Int)=some (plc S S.Ts[i].b):=by
    unfold ixN
    rw [if_pos (by omega),if_pos (by rw [yf];omega)]
    rfl
   refine ⟨l,_,_,_,rfl,rfl,Sv.of hl1,by omega,Jsc pl',_,rfl,_,_,rfl,rfl,l,_,_,_,rfl,rfl,hl1,hix,_,rfl,?_⟩
   have e:lft S ls (.int (i:Int))=ls.set (plc S S.Ts[i].b) (ls.getD (plc S S.Ts[i].b) 0 - drw S ls (.int (i:Int))):=by
    unfold lft
    rw [if_pos hd,ep]
   rw [e,List.map_set] at k
   exact k l _ hl (λb o e=>by rw [Sz (Jmw e hl)];exact (s1.trans s2) _ _ e) Sr
  ·refine ifF (decide_eq_false hd) ?_
   have e:lft S ls tv=ls:=if_neg hd
   rw [e] at k
   exact ⟨_,rfl,k l _ hl s1 Sr⟩
def Jss:List Jnj->List Int->List Int->List Int
 |G::Gs,c::cs,l::ls=>lvG G c l::Jss Gs cs ls
 |_,_,_=>[]
theorem Jq6:∀{Gs:List Jnj} {cs ls:List Int},Gs.length=cs.length->cs.length=ls.length->(Jss Gs cs ls).length=Gs.length
 | [],_,_,_,_=>rfl
 |_::_,[],_,e,_=>by simp at e
 |_::_,_::_,[],_,e=>by simp at e
 |_::Gs,_::cs,_::ls,e1,e2=>by
  show (Jss Gs cs ls).length+1=Gs.length+1
  rw [Jq6 (by simpa using e1) (by simpa using e2)]
theorem Juf:∀{Gs:List Jnj} {cs ls:List Int} {i:Nat} {G:Jnj} {c l:Int},Gs[i]?=some G->cs[i]?=some c->ls[i]?=some l->(Jss Gs cs ls)[i]?=some (lvG G c l)
 |_::_,_::_,_::_,0,_,_,_,h1,h2,h3=>by cases h1;cases h2;cases h3;rfl
 |_::Gs,_::cs,_::ls,i+1,_,_,_,h1,h2,h3=>Juf (Gs:=Gs) (cs:=cs) (ls:=ls) (i:=i) (by simpa using h1) (by simpa using h2) (by simpa using h3)
 | [],_,_,_,_,_,_,h,_,_=>by simp at h
 |_::_,[],_,_,_,_,_,_,h,_=>by simp at h
 |_::_,_::_,[],_,_,_,_,_,_,h=>by simp at h
def Sb1:List Jnj->List Int->List Int->Prop
 | [],[],[]=>True
 |G::Gs,c::cs,l::ls=>(Sbd G/\(0<=c/\c < (nOf G:Int))/\(0<=l/\l<=1000))/\Sb1 Gs cs ls
 |_,_,_=>False
theorem Sb1.len:∀{Gs:List Jnj} {cs ls:List Int},Sb1 Gs cs ls->Gs.length=cs.length/\cs.length=ls.length
 | [],[],[],_=>⟨rfl,rfl⟩
 |_::Gs,_::cs,_::ls,⟨_,t⟩=>by
  have:=t.len
  simp
  omega
theorem Sb1.get:∀{Gs:List Jnj} {cs ls:List Int} {i:Nat} {G:Jnj} {c l:Int},Sb1 Gs cs ls->Gs[i]?=some G->cs[i]?=some c->ls[i]?=some l->Sbd G/\(0<=c/\c < (nOf G:Int))/\(0<=l/\l<=1000)
 |_::_,_::_,_::_,0,_,_,_,⟨h,_⟩,h1,h2,h3=>by cases h1;cases h2;cases h3;exact h
 |_::Gs,_::cs,_::ls,i+1,_,_,_,⟨_,t⟩,h1,h2,h3=>t.get (i:=i) (by simpa using h1) (by simpa using h2) (by simpa using h3)
 | [],[],[],_,_,_,_,_,h,_,_=>by simp at h
inductive So0 (K:Se) (a:Ad) (vs:List V) (H:Hp) (Q:VK) (z3:XK):Prop where
 |mk (o v l:S1) (S:Riv) (Gs:List Jnj) (cs ls:List Int) (_:vs= [.ref o,.ref v,.ref l]) (_:Say K a H o S) (_:GXL a H (S.Bs.map (·.g)) Gs) (_:Sb1 Gs cs ls) (_:S.Bs.length=Gs.length) (_:H v=some (.tup (cs.map V.int))) (_:H l=some (.lst (ls.map V.int))) (_:∀u H',Sj H H'->H' u=some (.tup ((Jss Gs cs ls).map V.int))->Q (.ref u) H')
def Jrp:Int->List Int->List Int->List Int->List Int
 |g,l::ls,o::os,r::rs=>(l - o+g+r)::Jrp o ls os rs
 |_,_,_,_=>[]
theorem Jrq:∀{g:Int} {ls os rs:List Int},ls.length=os.length->ls.length=rs.length->(Jrp g ls os rs).length=ls.length
 |_,[],_,_,_,_=>rfl
 |_,_::_,[],_,e,_=>by simp at e
 |_,_::_,_::_,[],_,e=>by simp at e
 |_,_::ls,o::os,_::rs,e1,e2=>by
  show (Jrp o ls os rs).length+1=ls.length+1
  rw [Jrq (by simpa using e1) (by simpa using e2)]
theorem Jvj:∀{g:Int} {ls os rs:List Int} {i:Nat} {l o f r:Int},ls[i]?=some l->os[i]?=some o->(g::os)[i]?=some f->rs[i]?=some r->(Jrp g ls os rs)[i]?=some (l - o+f+r)
 |_,_::_,_::_,_::_,0,_,_,_,_,h1,h2,h3,h4=>by cases h1;cases h2;cases h3;cases h4;rfl
 |_,_::ls,o::os,_::rs,i+1,_,_,_,_,h1,h2,h3,h4=>Jvj (g:=o) (ls:=ls) (os:=os) (rs:=rs) (i:=i) (by simpa using h1) (by simpa using h2) (by simpa using h3) (by simpa using h4)
 |_,[],_,_,_,_,_,_,_,h,_,_,_=>by simp at h
 |_,_::_,[],_,_,_,_,_,_,_,h,_,_=>by simp at h
 |_,_::_,_::_,[],_,_,_,_,_,_,_,_,h=>by simp at h
inductive Ydj (vs:List V) (H:Hp) (Q:VK) (z3:XK):Prop where
 |mk (l u r:S1) (ls os rs:List Int) (_:vs= [.ref l,.ref u,.ref r]) (_:H l=some (.lst (ls.map V.int))) (_:H u=some (.tup (os.map V.int))) (_:H r=some (.tup (rs.map V.int))) (_:ls.length=os.length) (_:ls.length=rs.length) (_:(1<=ls.length/\ls.length<=16)) (_:∀w H',Sj H H'->H' w=some (.tup ((Jrp 0 ls os rs).map V.int))->Q (.ref w) H')
def Joq:Nat->List Bsn->List Int->List Int
 |k,B::Bs,l::ls=>if B.lo<=l/\l<=B.hi then Joq (k+1) Bs ls else (k:Int)::Joq (k+1) Bs ls
 |_,_,_=>[]
theorem Ju2:∀{k:Nat} {Bs:List Bsn} {ls:List Int} {B:Bsn} {l:Int},Bs.length=ls.length->Joq k (Bs++ [B]) (ls++ [l])=Joq k Bs ls++(if B.lo<=l/\l<=B.hi then [] else [((k+Bs.length:Nat):Int)])
 |k,[],[],B,l,_=>by
  show (if B.lo<=l/\l<=B.hi then _ else _)=_
  split <;> rfl
 |_,[],_::_,_,_,e=>by simp at e
 |_,_::_,[],_,_,e=>by simp at e
 |k,B'::Bs,l'::ls,B,l,e=>by
  have ih:=Ju2 (k:=k+1) (Bs:=Bs) (ls:=ls) (B:=B) (l:=l) (by simpa using e)
  have ek:k+1+Bs.length=k+(B'::Bs).length:=by rw [yal];omega
  rw [ek] at ih
  show (if B'.lo<=l'/\l'<=B'.hi then Joq (k+1) (Bs++ [B]) (ls++ [l]) else (k:Int)::Joq (k+1) (Bs++ [B]) (ls++ [l]))=(if B'.lo<=l'/\l'<=B'.hi then Joq (k+1) Bs ls else (k:Int)::Joq (k+1) Bs ls)++_
  rw [ih]
  split <;> rfl
theorem Jtb:∀{k:Nat} {Bs:List Bsn} {ls:List Int},(Joq k Bs ls).length<=Bs.length
 |_,[],_=>by simp [Joq]
 |_,_::_,[]=>by simp [Joq]
 |k,B::Bs,l::ls=>by
  have:=Jtb (k:=k+1) (Bs:=Bs) (ls:=ls)
  show (if B.lo<=l/\l<=B.hi then Joq (k+1) Bs ls else (k:Int)::Joq (k+1) Bs ls).length<=_
  split <;> simp <;> omega
inductive Ydk (K:Se) (a:Ad) (vs:List V) (H:Hp) (Q:VK) (z3:XK):Prop where
 |mk (o u:S1) (S:Riv) (ls:List Int) (_:vs= [.ref o,.ref u]) (_:Say K a H o S) (_:H u=some (.tup (ls.map V.int))) (_:ls.length=S.Bs.length) (_:∀w H',Sj H H'->H' w=some (.tup ((Joq 0 S.Bs ls).map V.int))->Q (.ref w) H')
theorem GX.lets {H:Hp} {x:V} {G:Jnj} {s lv:Int} (T:Tx K mg a) (gg:Sbd G) (gx:GX a H x G) (hs:0<=s/\s < (nOf G:Int)) (hl:0<=lv/\lv<=1000):
  ∃o C dx fs f fd ps sp k',x= .ref o/\H o=some (.ins C dx fs)/\fs.lookup ("lets" :Str)=none/\Cls K C/\Jpv K C "lets" f/\Ss P w K mg base CX0 k' f fd ps sp/\k'<=3/\Sbk K fd ps []/\∀Q:VK,Q (.int (lvG G s lv)) H->sp [x,.int s,.int lv] H Q E0:=by
 have sp:∀Q:VK,Q (.int (lvG G s lv)) H->Ydr a [x,.int s,.int lv] H Q E0:=λQ k=>⟨x,G,s,lv,rfl,gx,gg,hs,hl,k⟩
 obtain ⟨g,ga,r⟩:=gx
 obtain ⟨dx,t,h1,h2⟩:=id ga
 cases e:G.sv with
 |none=>
  rw [e] at r
  subst r
  rcases gg.kd with q|q|q
  ·rw [q,show cOf a "step" =a.Jmc from if_pos rfl] at h1
   exact ⟨g,_,dx,_,_,_,_,_,3,rfl,h1,rfl,T.Jeb,T.Jee,(Jq2 T).calm,by decide,T.Jd9.bd,sp⟩
  ·rw [q,show cOf a "flap" =a.Jmd by unfold cOf;rw [if_neg Juv,if_pos rfl]] at h1
   exact ⟨g,_,dx,_,_,_,_,_,3,rfl,h1,rfl,T.Jeh,T.Jek,(Jq2 T).calm,by decide,T.Jd9.bd,sp⟩
  ·rw [q,show cOf a "part" =a.Jme by unfold cOf;rw [if_neg Jux,if_neg Juw]] at h1
   exact ⟨g,_,dx,_,_,_,_,_,3,rfl,h1,rfl,T.Jen,T.Jeq,(Jq2 T).calm,by decide,T.Jd9.bd,sp⟩
 |some j=>
  rw [e] at r
  obtain ⟨q,dq,rfl,r2⟩:=r
  exact ⟨q,_,dq,_,_,_,_,_,3,rfl,r2,rfl,T.Jet,T.Jew,(Jq2 T).calm,by decide,T.Jd9.bd,sp⟩
theorem Yz:Jmy ["river","settings","levels"] ["river","settings","levels"] (Jmt (top 30)):=⟨rfl,rfl,rfl,by decide +kernel,rfl,by decide +kernel,by decide +kernel⟩
theorem Yp (T:Tx K mg a):Ss P w K mg base CX0 4 a.Ji4 a.Ji5 ["river","settings","levels"] (So0 K a):=by
 refine T.Je.fn.ok Yz (λvs H Q E h=>?_) (λcdv A outer s H vs Q E hr h=>?_)
 ·obtain ⟨o,v,l,S,Gs,cs,ls,rfl,_⟩:=h
  rfl
 ·obtain ⟨o,v,l,S,Gs,cs,ls,rfl,ro,gxl,so,ln,hv,hl,k⟩:=h
  refine ⟨?t,?B,?C⟩
  case B=>
   refine' Sy ?O0
   case O0=>exact (Jn0 (Jnd Jnl (by rfl) T.Jb6 Jnq (Sk (Jnm (N:=(["basin","setting","level"]:List Str)) (ini:=[none,none,none]) rfl (Jyg true true false (by rfl) T.Jb7 (Sk (Jna (pv 0) (by rfl)) (Sk (pv 1) (Sk (pv 2) Sm)))) (λ_ _ _ _ _=>(Jqj (K:=K) (n:=3) rfl rfl (Jn7 (Jmz (i:=0) (by decide +kernel:(["basin","setting","level"]:List Str).Nodup) rfl (ye rfl)) (Jn7 (Jmz (i:=1) (by decide +kernel:(["basin","setting","level"]:List Str).Nodup) rfl (ye rfl)) (Jn7 (Jmz (i:=2) (by decide +kernel:(["basin","setting","level"]:List Str).Nodup) rfl (ye rfl)) Joe))))) (λ_ _ _ _ _=>Jnk) (λ_ _ _ _ _=>(Ybr (P:=P) (w:=w) (K:=K) (mg:=mg) (base:=base) rfl rfl rfl rfl rfl (Joj (K:=K) rfl (pv 0) (by rfl)) hr (Sk (pv 1) (Sk (pv 2) Sm))))) Sm)))
  obtain ⟨dx,b,tt,os,ts,ho,hb,bl,ht,tl,n1,n2,n3⟩:=id ro
  have len:=bl.len
  have sl:=so.len
  refine ⟨_,rfl,o,_,dx,_,_,rfl,ho,T.Jf5,T.Jg5,rfl,_,rfl,_,rfl,b,v,l,rfl,⟨_,Su.of hb⟩,⟨_,Su.of hv⟩,⟨_,Sv.of hl⟩,λD hD=>?_⟩
  have s0:=Sj.upd (o:=.lst []) hD
  refine Ju4 (K:=K) (l1:=b) (l2:=v) (l3:=l) (b1:=true) (b2:=true) (b3:=false) (xs:=os.map V.ref) (ys:=cs.map V.int) (us:=ls.map V.int) (D:=D) (λi σ H'=>(∃o1 o2 o3,σ= [o1,o2,o3])/\H' D=some (.lst (((Jss Gs cs ls).take i).map V.int))/\Sj H H') ⟨⟨_,_,_,rfl⟩,Sr,s0⟩ (λi σ H' _ ⟨_,_,sm⟩=>⟨Su.of (sm _ _ hb),Su.of (sm _ _ hv),Sv.of (sm _ _ hl)⟩) (by rw [yf,yf];omega) (by rw [yf,yf];omega) ?_ ?_
  ·rintro i x y u σ H' Ta hx hy hu ⟨⟨o1,o2,o3,rfl⟩,hDs,sm⟩ hT
   obtain ⟨ob,B,rfl,hB,dxb,hob,gs⟩:=(bl.same sm).get hx
   rw [yg] at hy hu
   obtain ⟨c,hc,rfl⟩:=yw.mp hy
   obtain ⟨lv,hlv,rfl⟩:=yw.mp hu
   obtain ⟨G,hG,gx⟩:=(gxl.same sm).get (i:=i) (x:=B.g) (by rw [yg,hB];rfl)
   obtain ⟨gg,hs,hl'⟩:=so.get hG hc hlv
   have sT:=Sj.upd (o:=.tup [.ref ob,.int c,.int lv]) hT
   have hi:i < os.length:=by have:=(yj.mp hx).1;rw [yf] at this;exact this
   refine Yb2 (Su.of Sr) ⟨_,rfl,ob,_,dxb,_,_,rfl,sT _ _ hob,T.Jez,T.Jfz,rfl,?_⟩
   obtain ⟨q,C,dxq,fs,f,fd,ps,sp,k',eq,h1,h2,c',m,ok,hk,bd,hsp⟩:=GX.lets (P:=P) (w:=w) (base:=base) T gg (gx.same sT) hs hl'
   refine ⟨q,C,dxq,fs,f,fd,ps,sp,k',eq,h1,h2,c',m,ok,hk,bd,_,rfl,_,rfl,hsp _ ⟨_,sT _ _ hDs,?_,⟨_,_,_,rfl⟩,?_,?_⟩⟩
   ·rw [yf,yy]
    exact Jno (by omega)
   ·rw [Sr,yag,Juf hG hc hlv]
    simp
   ·intro c o z
    rw [Sz (Jmw z hD)]
    exact sT _ _ (sm _ _ z)
  rintro σ H1 ⟨_,hDs,sm⟩
  rw [yac (by rw [Jq6 sl.1 sl.2,yf];omega)] at hDs
  exact ⟨D,_,rfl,.inl ⟨Sv.of hDs,λu hu=>k u _ (sm.trans (Sj.upd hu)) Sr⟩⟩
theorem Ycm (xs:List V) (h:1<=xs.length):Jxq xs none (some (-1))=xs.dropLast:=by
 unfold Jxq
 rw [HT.sIx_none]
 have e:HT.sIx xs.length xs.length (some (-1))=xs.length - 1:=by
  show (if (-1:Int) < 0 then ((-1:Int)+(xs.length:Int)).toNat else min (-1:Int).toNat xs.length)=_
  rw [if_pos (by decide)]
  omega
 rw [e,List.dropLast_eq_take]
 rfl
theorem Jvv {n:Nat} (h:1<=n):¬(HT.sIx n 0 none=0/\HT.sIx n n (some (-1))=n):=by
 have e:HT.sIx n n (some (-1))=n - 1:=by
  show (if (-1:Int) < 0 then ((-1:Int)+(n:Int)).toNat else min (-1:Int).toNat n)=_
  rw [if_pos (by decide)]
  omega
 rw [e]
 omega
theorem Sck:Jmy ["left","outs","rain","from_above"] ["left","outs","rain"] (Jmt (top 31)):=⟨rfl,rfl,rfl,by decide +kernel,rfl,by decide +kernel,by decide +kernel⟩
theorem Jue (T:Tx K mg a):Ss P w K mg base CX0 1 a.Ji6 a.Ji7 ["left","outs","rain"] Ydj:=by
 refine T.Jf.fn.ok Sck (λvs H Q E h=>?_) (λcdv A outer s H vs Q E hr h=>?_)
 ·obtain ⟨l,u,r,ls,os,rs,rfl,_⟩:=h
  rfl
 ·obtain ⟨l,u,r,ls,os,rs,rfl,hl,hu,hr0,e1,e2,n,k⟩:=h
  refine ⟨?t,?B,?C⟩
  case B=>
   refine' Sw ?O0 ?O1
   case O0=>exact (Jn3 (i:=3) Sck.nd rfl (ye rfl) (Jn5 Yap (Jo8 (Sk So Sm)) (Jr1 Jyp (pv 1) Jve (Jqk (Jv0 Jsa So)))))
   case O1=>
   refine' Sy ?O2
   case O2=>
   refine' Jn0 ?O3
   case O3=>exact (Jnd Jnl (by rfl) T.Jb6 Jnq (Sk (Jnm (N:=(["level","out","gained","cubes"]:List Str)) (ini:=[none,none,none,none]) rfl (Yf2 false true true true (by rfl) T.Jb7 (pa4 (pv 0) (pv 1) (pv 3) (pv 2))) (λ_ _ _ _ _=>(Jqj (K:=K) (n:=4) rfl rfl (Jn7 (Jmz (i:=0) (by decide +kernel:(["level","out","gained","cubes"]:List Str).Nodup) rfl (ye rfl)) (Jn7 (Jmz (i:=1) (by decide +kernel:(["level","out","gained","cubes"]:List Str).Nodup) rfl (ye rfl)) (Jn7 (Jmz (i:=2) (by decide +kernel:(["level","out","gained","cubes"]:List Str).Nodup) rfl (ye rfl)) (Jn7 (Jmz (i:=3) (by decide +kernel:(["level","out","gained","cubes"]:List Str).Nodup) rfl (ye rfl)) Joe)))))) (λ_ _ _ _ _=>Jnk) (λ_ _ _ _ _=>(Jn5 Jnn (Jn5 Jnn (Jn5 Jo4 (pv 0) (pv 1)) (pv 2)) (pv 3)))) Sm))
  refine ⟨(show 1<=S6 by decide),λq1 h1=>?_⟩
  have s1:=Sj.upd (o:=.tup [.int 0]) h1
  refine ⟨_,rfl,_,rfl,_,rfl,u,_,rfl,Su.of (s1 _ _ hu),Jvv (by rw [yf];omega),λq2 h2=>?_⟩
  rw [Ycm _ (by rw [yf];omega)]
  have s2:=Sj.upd (o:=.tup (os.map V.int).dropLast) h2
  refine ⟨q1,q2,_,_,rfl,rfl,s2 _ _ Sr,Sr,Jq7 _ (by simp;omega),λf H3 s3 hf=>?_⟩
  have s13:=(s1.trans s2).trans s3
  have ef: [V.int 0]++(os.map V.int).dropLast=((0:Int)::os.dropLast).map V.int:=by rw [ybj,List.map_dropLast];rfl
  rw [ef] at hf
  refine ⟨_,rfl,_,rfl,_,rfl,_,rfl,l,u,f,r,rfl,⟨_,Sv.of (s13 _ _ hl)⟩,⟨_,Su.of (s13 _ _ hu)⟩,⟨_,Su.of hf⟩,⟨_,Su.of (s13 _ _ hr0)⟩,λD hD=>?_⟩
  have s0:=Sj.upd (o:=.lst []) hD
  refine Ybc (K:=K) (l1:=l) (l2:=u) (l3:=f) (l4:=r) (b1:=false) (b2:=true) (b3:=true) (b4:=true) (xs:=ls.map V.int) (ys:=os.map V.int) (us:=((0:Int)::os.dropLast).map V.int) (vs:=rs.map V.int) (D:=D) (λi σ H'=>(∃o1 o2 o3 o4,σ= [o1,o2,o3,o4])/\H' D=some (.lst (((Jrp 0 ls os rs).take i).map V.int))/\Sj H3 H') ⟨⟨_,_,_,_,rfl⟩,Sr,s0⟩ (λi σ H' _ ⟨_,_,sm⟩=>⟨Sv.of (sm _ _ (s13 _ _ hl)),Su.of (sm _ _ (s13 _ _ hu)),Su.of (sm _ _ hf),Su.of (sm _ _ (s13 _ _ hr0))⟩) (by simp;omega) (by simp;omega) (by simp;omega) ?_ ?_
  ·rintro i x y z v σ H' Ta hx hy hz hv ⟨⟨o1,o2,o3,o4,rfl⟩,hDs,sm⟩ hT
   rw [yg] at hx hy hz hv
   obtain ⟨lv,hlv,rfl⟩:=yw.mp hx
   obtain ⟨ov,hov,rfl⟩:=yw.mp hy
   obtain ⟨fv,hfv,rfl⟩:=yw.mp hz
   obtain ⟨rv,hrv,rfl⟩:=yw.mp hv
   have hi:i < ls.length:=(yj.mp hlv).1
   have hfv':((0:Int)::os)[i]?=some fv:=by
    cases i with
    |zero=>simpa using hfv
    |succ j=>
     have e:os.dropLast[j]?=some fv:=by simpa using hfv
     rw [List.dropLast_eq_take,List.getElem?_take] at e
     split at e
     ·simpa using e
     ·cases e
   have sT:=Sj.upd (o:=.tup [.int lv,.int ov,.int fv,.int rv]) hT
   refine Ss1 (Su.of Sr) ⟨_,rfl,_,rfl,_,_,rfl,rfl,_,rfl,_,_,rfl,rfl,_,rfl,_,_,rfl,rfl,_,sT _ _ hDs,?_,⟨_,_,_,_,rfl⟩,?_,?_⟩
   ·rw [yf,yy]
    exact Jno (by omega)
   ·rw [Sr,yag,Jvj hlv hov hfv' hrv]
    simp
   ·intro c o z
    rw [Sz (Jmw z hD)]
    exact sT _ _ (sm _ _ z)
  rintro σ H4 ⟨_,hDs,sm⟩
  rw [yac (by rw [Jrq e1 e2,yf];omega)] at hDs
  exact ⟨D,_,rfl,.inl ⟨Sv.of hDs,λq hq=>k q _ ((s13.trans sm).trans (Sj.upd hq)) Sr⟩⟩
theorem Jym:Jmy ["river","levels"] ["river","levels"] (Jmt (top 32)):=⟨rfl,rfl,rfl,by decide +kernel,rfl,by decide +kernel,by decide +kernel⟩
theorem Jy5 (T:Tx K mg a):Ss P w K mg base CX0 1 a.Ji8 a.Ji9 ["river","levels"] (Ydk K a):=by
 refine T.Jg.fn.ok Jym (λvs H Q E h=>?_) (λcdv A outer s H vs Q E hr h=>?_)
 ·obtain ⟨o,u,S,ls,rfl,_⟩:=h
  rfl
 ·obtain ⟨o,u,S,ls,rfl,ro,hu,ln,k⟩:=h
  refine ⟨?t,?B,?C⟩
  case B=>
   refine' Sy ?O0
   case O0=>exact (Jn0 (Jnd Jnl (by rfl) T.Jb6 Jnq (Sk (Jnm (N:=(["place","basin","levels"]:List Str)) (ini:=[none,none,some 1]) rfl (Jzr (by rfl) T.Jav (Sk (Jna (pv 0) (by rfl)) Sm)) (λ_ _ _ _ _=>(Jqj (K:=K) (n:=2) rfl rfl (Jn7 (Jmz (i:=0) (by decide +kernel:(["place","basin","levels"]:List Str).Nodup) rfl (ye rfl)) (Jn7 (Jmz (i:=1) (by decide +kernel:(["place","basin","levels"]:List Str).Nodup) rfl (ye rfl)) Joe)))) (λ_ _ _ _ _=>(Yau (Jnh (Jw6 Jrg Jrg (Joj (K:=K) rfl (pv 1) (by rfl)) (Jn1 (Jog (K:=K) rfl) (pv 2) (pv 0) (λ_ _=>rfl)) (Joj (K:=K) rfl (pv 1) (by rfl)))))) (λ_ _ _ _ _=>(pv 0))) Sm)))
  obtain ⟨dx,b,tt,os,ts,ho,hb,bl,ht,tl,n1,n2,n3⟩:=id ro
  have len:=bl.len
  refine ⟨_,rfl,o,_,dx,_,_,rfl,ho,T.Jf5,T.Jg5,rfl,b,rfl,⟨_,Su.of hb⟩,λD hD=>?_⟩
  have s0:=Sj.upd (o:=.lst []) hD
  refine Yba (K:=K) (a:=b) (xs:=os.map V.ref) (D:=D) (λi σ H'=>(∃o1 o2,σ= [o1,o2,some (.ref u)])/\H' D=some (.lst ((Joq 0 (S.Bs.take i) (ls.take i)).map V.int))/\Sj H H') ⟨⟨_,_,rfl⟩,Sr,s0⟩ (λi σ H' _ ⟨_,_,sm⟩=>Su.of (sm _ _ hb)) ?_ ?_
  ·rintro i x σ H' Ta hx ⟨⟨o1,o2,rfl⟩,hDs,sm⟩ hT
   obtain ⟨ob,B,rfl,hB,dxb,hob,gs⟩:=(bl.same sm).get hx
   have sT:=Sj.upd (o:=.tup [.int i,.ref ob]) hT
   have hi:i < S.Bs.length:=(yj.mp hB).1
   have hil:i < ls.length:=by omega
   have hob':=sT _ _ hob
   have hu':=sT _ _ (sm _ _ hu)
   have nx:Joq 0 (S.Bs.take (i+1)) (ls.take (i+1))=Joq 0 (S.Bs.take i) (ls.take i)++(if B.lo<=ls[i]/\ls[i]<=B.hi then [] else [(i:Int)]):=by
    have q:=Ju2 (k:=0) (Bs:=S.Bs.take i) (ls:=ls.take i) (B:=B) (l:=ls[i]) (by rw [yy,yy];omega)
    rw [yy,Nat.min_eq_left (by omega),Nat.zero_add] at q
    rw [yag,hB,yag,yh hil]
    exact q
   refine ⟨Ta,_,rfl,Su.of Sr,rfl,_,_,rfl,_,_,rfl,rfl,?_⟩
   have bad:¬(B.lo<=ls[i]/\ls[i]<=B.hi)->∃vs,(upd H' Ta (.tup [.int i,.ref ob])) D=some (.lst vs)/\vs.length < S6/\(∃p1 p2,[some (V.int i),some (.ref ob),some (.ref u)]= [p1,p2,some (V.ref u)])/\upd (upd H' Ta (.tup [.int i,.ref ob])) D (.lst (vs++ [.int i])) D=some (.lst ((Joq 0 (S.Bs.take (i+1)) (ls.take (i+1))).map V.int))/\Sj H (upd (upd H' Ta (.tup [.int i,.ref ob])) D (.lst (vs++ [.int i]))):=λq=>by
    refine ⟨_,sT _ _ hDs,?_,⟨_,_,rfl⟩,?_,?_⟩
    ·have:=Jtb (k:=0) (Bs:=S.Bs.take i) (ls:=ls.take i)
     rw [yy] at this
     rw [yf]
     exact Jno (by omega)
    ·rw [Sr,nx,if_neg q,yab]
     rfl
    ·intro c o z
     rw [Sz (Jmw z hD)]
     exact sT _ _ (sm _ _ z)
   refine ⟨_,rfl,ob,_,dxb,_,_,rfl,hob',T.Jez,T.Jfv,rfl,_,rfl,_,rfl,u,_,_,_,rfl,rfl,Su.of hu',Jps hil,_,_,rfl,rfl,_,rfl,?_⟩
   by_cases h1:B.lo<=ls[i]
   ·rw [decide_eq_true h1]
    refine Joc ⟨_,rfl,ob,_,dxb,_,_,rfl,hob',T.Jez,T.Jfw,rfl,_,_,rfl,rfl,_,rfl,?_⟩
    by_cases h2:ls[i]<=B.hi
    ·rw [decide_eq_true h2]
     refine Jnv ⟨⟨_,_,rfl⟩,?_,sm.trans sT⟩
     rw [nx,if_pos ⟨h1,h2⟩,ybe]
     exact sT _ _ hDs
    ·rw [decide_eq_false h2]
     exact Joc ⟨_,rfl,bad λz=>h2 z.2⟩
   ·rw [decide_eq_false h1]
    exact Jnv ⟨_,rfl,Joc ⟨_,rfl,bad λz=>h1 z.1⟩⟩
  rintro σ H1 ⟨_,hDs,sm⟩
  rw [yac (by rw [yf];omega),yac (by rw [yf];omega)] at hDs
  exact ⟨D,_,rfl,.inl ⟨Sv.of hDs,λq hq=>k q _ (sm.trans (Sj.upd hq)) Sr⟩⟩
def Son (c r:V) (d:Int) (u lv:S1) (wt:Int) (q:S1):List (Str×V):=[("choice",c),("rain",r),("drawn",.int d),("paid",.bl (decide (d > 0))),("outs",.ref u),("levels",.ref lv),("wet",.int wt),("broken",.ref q)]
structure Shx (K:Se) (a:Ad) (H:Hp) (o:S1) (S:Riv) (Gs:List Jnj) (x c:V) (ls cs:List Int) (wt:Int) (tv:V) (ra:S1) (rn:List Int):Prop where
 ro:Say K a H o S
 ti:TIn S
 gx:GXL a H (S.Bs.map (·.g)) Gs
 ln:S.Bs.length=Gs.length
 st:StA H x S ls wt
 ch:ChA H c S cs tv
 hr:H ra=some (.tup (rn.map V.int))
 rl:rn.length=S.Bs.length
 sm:Sml rn
 so:Sb1 Gs cs (lft S ls tv)
 n1:1<=S.Bs.length
theorem Shx.same {K:Se} {a:Ad} {H H':Hp} {o:S1} {S:Riv} {Gs:List Jnj} {x c:V} {ls cs:List Int} {wt:Int} {tv:V} {ra:S1} {rn:List Int} (s:Sj H H') (h:Shx K a H o S Gs x c ls cs wt tv ra rn):Shx K a H' o S Gs x c ls cs wt tv ra rn:=
 ⟨h.ro.same s,h.ti,h.gx.same s,h.ln,h.st.same s,h.ch.same s,s _ _ h.hr,h.rl,h.sm,h.so,h.n1⟩
def Jpg (S:Riv) (Gs:List Jnj) (ls cs:List Int) (tv:V):List Int:=Jss Gs cs (lft S ls tv)
def Jpw (S:Riv) (Gs:List Jnj) (ls cs:List Int) (tv:V) (rn:List Int):List Int:=Jrp 0 (lft S ls tv) (Jpg S Gs ls cs tv) rn
def Jtw (S:Riv) (wt:Int) (rn:List Int):Int:=if S.c < wt - rn.sum+S.g then S.c else wt - rn.sum+S.g
def Sey (a:Ad) (H:Hp) (p:S1) (c r:V) (S:Riv) (Gs:List Jnj) (ls cs:List Int) (wt:Int) (tv:V) (rn:List Int):Prop:=∃dx u lv q,H p=some (.ins a.Jm9 dx (Son c r (drw S ls tv) u lv (Jtw S wt rn) q))/\H u=some (.tup ((Jpg S Gs ls cs tv).map V.int))/\H lv=some (.tup ((Jpw S Gs ls cs tv rn).map V.int))/\H q=some (.tup ((Joq 0 S.Bs (Jpw S Gs ls cs tv rn)).map V.int))
inductive Yfr (K:Se) (a:Ad) (vs:List V) (H:Hp) (Q:VK) (z3:XK):Prop where
 |mk (p dx o ra:S1) (H0:Hp) (S:Riv) (Gs:List Jnj) (x c:V) (ls cs rn:List Int) (wt:Int) (tv:V) (_:vs= [.ref p,.ref o,x,c,.ref ra]) (_:H0 p=none) (_:Sj H0 H) (_:H p=some (.ins a.Jm9 dx [])) (_:Shx K a H0 o S Gs x c ls cs wt tv ra rn) (_:∀H',Sj H0 H'->Sey a H' p c (.ref ra) S Gs ls cs wt tv rn->Q .non H')
theorem Jtg {S:Riv} {ls:List Int} {tv:V}:(lft S ls tv).length=ls.length:=by
 unfold lft
 split
 ·rw [List.length_set]
 ·rfl
def fs2 (c r:V):List (Str×V):=[("choice",c),("rain",r)]
def fs3 (c r:V) (d:Int):List (Str×V):=[("choice",c),("rain",r),("drawn",.int d)]
def fs4 (c r:V) (d:Int):List (Str×V):=[("choice",c),("rain",r),("drawn",.int d),("paid",.bl (decide (d > 0)))]
def fs5 (c r:V) (d:Int) (u:S1):List (Str×V):=[("choice",c),("rain",r),("drawn",.int d),("paid",.bl (decide (d > 0))),("outs",.ref u)]
def fs6 (c r:V) (d:Int) (u lv:S1):List (Str×V):=[("choice",c),("rain",r),("drawn",.int d),("paid",.bl (decide (d > 0))),("outs",.ref u),("levels",.ref lv)]
def fs7 (c r:V) (d:Int) (u lv:S1) (wt:Int):List (Str×V):=[("choice",c),("rain",r),("drawn",.int d),("paid",.bl (decide (d > 0))),("outs",.ref u),("levels",.ref lv),("wet",.int wt)]
theorem pf2 (c r:V):Joa "rain" r (Joa "choice" c [])=fs2 c r:=Jnx (show (["choice"]:List Str).contains "rain" =false by decide +kernel)
theorem pf3 (c r:V) (d:Int):Joa "drawn" (.int d) (fs2 c r)=fs3 c r d:=Jnx (show (["choice","rain"]:List Str).contains "drawn" =false by decide +kernel)
theorem pf4 (c r:V) (d:Int):Joa "paid" (.bl (decide (0 < d))) (fs3 c r d)=fs4 c r d:=Jnx (show (["choice","rain","drawn"]:List Str).contains "paid" =false by decide +kernel)
theorem pf5 (c r:V) (d:Int) (u:S1):Joa "outs" (.ref u) (fs4 c r d)=fs5 c r d u:=Jnx (show (["choice","rain","drawn","paid"]:List Str).contains "outs" =false by decide +kernel)
theorem pf6 (c r:V) (d:Int) (u lv:S1):Joa "levels" (.ref lv) (fs5 c r d u)=fs6 c r d u lv:=Jnx (show (["choice","rain","drawn","paid","outs"]:List Str).contains "levels" =false by decide +kernel)
theorem pf7 (c r:V) (d:Int) (u lv:S1) (wt:Int):Joa "wet" (.int wt) (fs6 c r d u lv)=fs7 c r d u lv wt:=Jnx (show (["choice","rain","drawn","paid","outs","levels"]:List Str).contains "wet" =false by decide +kernel)
theorem pf8 (c r:V) (d:Int) (u lv:S1) (wt:Int) (q:S1):Joa "broken" (.ref q) (fs7 c r d u lv wt)=Son c r d u lv wt q:=Jnx (show (["choice","rain","drawn","paid","outs","levels","wet"]:List Str).contains "broken" =false by decide +kernel)
theorem Scj:Jmy ["self","river","standing","choice","rain","left"] ["self","river","standing","choice","rain"] (Jmt (Jn2 (top 33) 0)):=⟨rfl,rfl,rfl,by decide +kernel,rfl,by decide +kernel,by decide +kernel⟩
theorem Jy2 (T:Tx K mg a):Ss P w K mg base CX0 5 a.Jia a.Jib ["self","river","standing","choice","rain"] (Yfr K a):=by
 have Sm0:=Yex (P:=P) (w:=w) (base:=base) T
 have Sfb:=Jw1 (P:=P) (w:=w) (base:=base) T
 have Si4:=Yp (P:=P) (w:=w) (base:=base) T
 have Seg:=Jue (P:=P) (w:=w) (base:=base) T
 have Sgo:=Jy5 (P:=P) (w:=w) (base:=base) T
 refine T.Jd1.fn.ok Scj (λvs H Q E h=>?_) (λcdv A outer s H vs Q E hr h=>?_)
 ·obtain ⟨p,dx,o,ra,H0,S,Gs,x,c,ls,cs,rn,wt,tv,rfl,_⟩:=h
  rfl
 ·obtain ⟨p,dx,o,ra,H0,S,Gs,x,c,ls,cs,rn,wt,tv,rfl,np,s0,hp,ti,k⟩:=h
  refine ⟨?t,?B,?C⟩
  case B=>
   refine' Sw ?O0 ?O1
   case O0=>exact (Jny (pv 0) (pv 3) rfl)
   case O1=>
   refine' Sw ?O2 ?O3
   case O2=>exact (Jny (pv 0) (pv 4) rfl)
   case O3=>
   refine' Sw ?O4 ?O5
   case O4=>exact (Jny (pv 0) (Jmv T.Jc Sm0 hr (by decide) (Sk (pv 1) (Sk (pv 2) (Sk (pv 3) Sm)))) rfl)
   case O5=>
   refine' Sw ?O6 ?O7
   case O6=>exact (Jny (pv 0) (Joi Jrf (Jna (pv 0) (by rfl)) So (Jni _)) rfl)
   case O7=>
   refine' Sw ?O8 ?O9
   case O8=>exact (Jn3 (i:=5) Scj.nd rfl (ye rfl) (Jmv T.Jd Sfb hr (by decide) (pa4 (pv 1) (pv 2) (pv 3) (Jna (pv 0) (by rfl)))))
   case O9=>
   refine' Sw ?Oa ?Ob
   case Oa=>exact (Jny (pv 0) (Jmv T.Je Si4 hr (by decide) (Sk (pv 1) (Sk (Jn1 Jn9 (pv 3) So (λ_ _=>rfl)) (Sk (pv 5) Sm)))) rfl)
   case Ob=>
   refine' Sw ?Oc ?Od
   case Oc=>exact (Jny (pv 0) (Jmv T.Jf Seg hr (by decide) (Sk (pv 5) (Sk (Jna (pv 0) (by rfl)) (Sk (pv 4) Sm)))) rfl)
   case Od=>
   refine' Sw ?Oe ?Of
   case Oe=>exact (Jny (pv 0) (Jmx (Jor rfl) (by rfl) T.Jb1 Jqn (Sk (Jn5 Jnn (Jn5 Jo4 (Jn1 Jn9 (pv 2) So (λ_ _=>rfl)) (Jmx (Jo3 rfl) (by rfl) T.Jb5 Jou (Sk (pv 4) Sm))) (Jna (pv 1) (by rfl))) (Sk (Jna (pv 1) (by rfl)) Sm))) rfl)
   case Of=>
   refine' Sy ?Og
   case Og=>exact (Jny (pv 0) (Jmv T.Jg Sgo hr (by decide) (Sk (pv 1) (Sk (Jna (pv 0) (by rfl)) Sm))) rfl)
  have new:∀{Ha:Hp} {ob:HO},Sj H0 Ha->Sj H0 (upd Ha p ob):=λs b oo e=>by rw [Sz (Jmw e np)];exact s _ _ e
  refine ⟨_,rfl,_,rfl,p,_,dx,[],rfl,hp,T.Je0,T.Jff,by simp,?_⟩
  refine ⟨_,rfl,_,rfl,p,_,dx,_,rfl,Sr,T.Je0,T.Jfg,by simp [Joa],?_⟩
  rw [Jp1,pf2]
  have h2:Sj H0 (upd H p (.ins a.Jm9 dx (fs2 c (.ref ra)))):=new s0
  have ti2:=ti.same h2
  refine ⟨_,rfl,_,rfl,_,rfl,o,S,x,c,ls,cs,wt,tv,rfl,ti2.ro,ti2.ti,ti2.st,ti2.ch,λH3 s3=>?_⟩
  have p3:=s3 _ _ (Sr (H:=H) (a:=p) (o:=.ins a.Jm9 dx (fs2 c (.ref ra))))
  have h3:=h2.trans s3
  refine ⟨_,rfl,p,_,dx,_,rfl,p3,T.Je0,T.Jfh,by simp [fs2],?_⟩
  rw [pf3]
  refine ⟨_,rfl,p,_,dx,_,_,rfl,Sr,T.Je0,T.Jfh,rfl,_,_,rfl,rfl,?_⟩
  refine ⟨_,rfl,p,_,dx,_,rfl,Sr,T.Je0,T.Jfi,by simp [fs3],?_⟩
  rw [Jp1,pf4]
  have h4:Sj H0 (upd H3 p (.ins a.Jm9 dx (fs4 c (.ref ra) (drw S ls tv)))):=new h3
  have ti4:=ti.same h4
  refine ⟨_,rfl,_,rfl,_,rfl,_,rfl,p,_,dx,_,_,rfl,Sr,T.Je0,T.Jfh,rfl,o,S,x,c,ls,cs,wt,tv,rfl,ti4.ro,ti4.ti,ti4.st,ti4.ch,λl H5 hl0 s5 hl5=>?_⟩
  have p5:=s5 _ _ (Sr (H:=H3) (a:=p) (o:=.ins a.Jm9 dx (fs4 c (.ref ra) (drw S ls tv))))
  have h5:=h4.trans s5
  have ti5:=ti.same h5
  obtain ⟨y,yu,rfl,hy,hyu,ly⟩:=ti5.st
  obtain ⟨z,v,rfl,hz,hv,lc,tw⟩:=ti5.ch
  have sol:=ti.so.len
  refine ⟨_,rfl,_,rfl,z,_,0,_,rfl,rfl,Su.of hz,rfl,_,rfl,o,v,l,S,Gs,cs,lft S ls tv,rfl,ti5.ro,ti5.gx,ti5.so,ti5.ln,hv,hl5,λu H6 s6 hu6=>?_⟩
  have p6:=s6 _ _ p5
  have np6:∀{b:S1} {ob:HO},H6 b=some ob->(∀C d fs,ob≠ .ins C d fs)->b≠p:=λhb n e=>by rw [e,p6] at hb;exact n _ _ _ (yv.inj hb).symm
  refine ⟨_,rfl,p,_,dx,_,rfl,p6,T.Je0,T.Jfj,by simp [fs4],?_⟩
  rw [pf5]
  have h6:Sj H0 (upd H6 p (.ins a.Jm9 dx (fs5 (.ref z) (.ref ra) (drw S ls tv) u))):=new (h5.trans s6)
  have ti6:=ti.same h6
  have u6:(upd H6 p (.ins a.Jm9 dx (fs5 (.ref z) (.ref ra) (drw S ls tv) u))) u=some (.tup ((Jpg S Gs ls cs tv).map V.int)):=by rw [Sz (np6 hu6 (λ_ _ _ z=>by cases z))];exact hu6
  have l6:(upd H6 p (.ins a.Jm9 dx (fs5 (.ref z) (.ref ra) (drw S ls tv) u))) l=some (.lst ((lft S ls tv).map V.int)):=by rw [Sz (np6 (s6 _ _ hl5) (λ_ _ _ z=>by cases z))];exact s6 _ _ hl5
  have n16:S.Bs.length<=16:=by obtain ⟨_,_,_,_,_,_,_,_,_,_,q,_⟩:=ti.ro;exact q
  have el:(lft S ls tv).length=S.Bs.length:=by rw [Jtg];exact ly
  have eo:(Jpg S Gs ls cs tv).length=S.Bs.length:=by unfold Jpg;rw [Jq6 sol.1 sol.2];exact ti.ln.symm
  have rl:=ti.rl
  have n1:=ti.n1
  refine ⟨_,rfl,_,rfl,p,_,dx,_,_,rfl,Sr,T.Je0,T.Jfj,rfl,_,rfl,l,u,ra,_,_,rn,rfl,l6,u6,ti6.hr,by omega,by omega,by omega,λlv H7 s7 hlv7=>?_⟩
  have p7:=s7 _ _ (Sr (H:=H6) (a:=p) (o:=.ins a.Jm9 dx (fs5 (.ref z) (.ref ra) (drw S ls tv) u)))
  have np7:∀{b:S1} {ob:HO},H7 b=some ob->(∀C d fs,ob≠ .ins C d fs)->b≠p:=λhb n e=>by rw [e,p7] at hb;exact n _ _ _ (yv.inj hb).symm
  refine ⟨_,rfl,p,_,dx,_,rfl,p7,T.Je0,T.Jfk,by simp [fs5],?_⟩
  rw [pf6]
  have h7:Sj H0 (upd H7 p (.ins a.Jm9 dx (fs6 (.ref z) (.ref ra) (drw S ls tv) u lv))):=new (h6.trans s7)
  have ti7:=ti.same h7
  obtain ⟨dxr,b,tt,os,ts,ho,hb,bl,ht,tl,m1,m2,m3⟩:=id ti7.ro
  obtain ⟨y7,yu7,ey,hy7,hyu7,ly7⟩:=ti7.st
  obtain rfl:y=y7:=V.ref.inj ey
  refine ⟨_,rfl,y,_,1,_,rfl,rfl,Su.of hy7,rfl,_,rfl,ra,rn,rfl,.inr (Su.of ti7.hr),ti.sm,_,_,rfl,rfl,_,rfl,o,_,dxr,_,_,rfl,ho,T.Jf5,T.Jg4,rfl,_,_,rfl,rfl,_,rfl,o,_,dxr,_,_,rfl,ho,T.Jf5,T.Jg3,rfl,_,_,rfl,?_⟩
  refine ⟨_,rfl,p,_,dx,_,rfl,Sr,T.Je0,T.Jfl,by simp [fs6],?_⟩
  rw [Jp1,pf7]
  have h8:Sj H0 (upd H7 p (.ins a.Jm9 dx (fs7 (.ref z) (.ref ra) (drw S ls tv) u lv (Jtw S wt rn)))):=new (h6.trans s7)
  have ti8:=ti.same h8
  have lv8:(upd H7 p (.ins a.Jm9 dx (fs7 (.ref z) (.ref ra) (drw S ls tv) u lv (Jtw S wt rn)))) lv=some (.tup ((Jpw S Gs ls cs tv rn).map V.int)):=by rw [Sz (np7 hlv7 (λ_ _ _ z=>by cases z))];exact hlv7
  have u8:(upd H7 p (.ins a.Jm9 dx (fs7 (.ref z) (.ref ra) (drw S ls tv) u lv (Jtw S wt rn)))) u=some (.tup ((Jpg S Gs ls cs tv).map V.int)):=by rw [Sz (np7 (s7 _ _ u6) (λ_ _ _ z=>by cases z))];exact s7 _ _ u6
  have e8:(Jpw S Gs ls cs tv rn).length=S.Bs.length:=by unfold Jpw;rw [Jrq (by omega) (by omega)];exact el
  refine ⟨_,rfl,_,rfl,p,_,dx,_,_,rfl,Sr,T.Je0,T.Jfk,rfl,o,lv,S,_,rfl,ti8.ro,lv8,e8,λq H9 s9 hq9=>?_⟩
  have p9:=s9 _ _ (Sr (H:=H7) (a:=p) (o:=.ins a.Jm9 dx (fs7 (.ref z) (.ref ra) (drw S ls tv) u lv (Jtw S wt rn))))
  have np9:∀{b:S1} {ob:HO},H9 b=some ob->(∀C d fs,ob≠ .ins C d fs)->b≠p:=λhb n e=>by rw [e,p9] at hb;exact n _ _ _ (yv.inj hb).symm
  refine ⟨_,rfl,p,_,dx,_,rfl,p9,T.Je0,T.Jfm,by simp [fs7],?_⟩
  rw [pf8]
  have keep:∀{b:S1} {ob ox:HO},H9 b=some ob->(∀C d fs,ob≠ .ins C d fs)->upd H9 p ox b=some ob:=λhb n=>by rw [Sz (np9 hb n)];exact hb
  exact k _ (new (h8.trans s9)) ⟨dx,u,lv,q,Sr,keep (s9 _ _ u8) (λ_ _ _ z=>by cases z),keep (s9 _ _ lv8) (λ_ _ _ z=>by cases z),keep hq9 (λ_ _ _ z=>by cases z)⟩
theorem Ye5:∀{vs:List V} {ls hs:List Int},vs.length=ls.length->ls.length=hs.length->(wl vs ls hs).all id=true->∃ns:List Int,vs=ns.map V.int/\ns.length=ls.length/\∀(i:Nat) (n l h:Int),ns[i]?=some n->ls[i]?=some l->hs[i]?=some h->l<=n/\n<=h
 | [],[],_,_,_,_=>⟨[],rfl,rfl,λi n l h e=>by simp at e⟩
 | [],_::_,_,e,_,_=>by simp at e
 |_::_,[],_,e,_,_=>by simp at e
 |_::_,_::_,[],_,e,_=>by simp at e
 |v::vs,l::ls,h::hs,e1,e2,a=>by
  have a':(Jnc v l h&&(wl vs ls hs).all id)=true:=a
  rw [yx] at a'
  obtain ⟨ns,rfl,ln,q⟩:=Ye5 (vs:=vs) (ls:=ls) (hs:=hs) (by simpa using e1) (by simpa using e2) a'.2
  obtain ⟨i,rfl⟩:=Jr2 a'.1
  have h2:(decide (l<=i)&&decide (i<=h))=true:=a'.1
  have h3:l<=i/\i<=h:=by simpa using h2
  refine ⟨i::ns,rfl,by simp [ln],λj n l' h' q1 q2 q3=>?_⟩
  cases j with
  |zero=>cases q1;cases q2;cases q3;exact h3
  |succ j=>exact q j n l' h' (by simpa using q1) (by simpa using q2) (by simpa using q3)
theorem Jyi {r:Option (List V)} {ls hs:List Int} (e:ls.length=hs.length) (h:Jq4 r ls hs=true):∃ns:List Int,r=some (ns.map V.int)/\ns.length=ls.length/\∀(i:Nat) (n l h:Int),ns[i]?=some n->ls[i]?=some l->hs[i]?=some h->l<=n/\n<=h:=by
 cases r with
 |none=>cases h
 |some vs=>
  have h':(decide (vs.length=ls.length)&&(wl vs ls hs).all id)=true:=h
  rw [yx,decide_eq_true_eq] at h'
  obtain ⟨ns,rfl,q⟩:=Ye5 h'.1 e h'.2
  exact ⟨ns,rfl,q⟩
structure RvX (K:Se) (a:Ad) (H:Hp) (o:S1) (S:Riv) (Gs:List Jnj):Prop where
 ro:Say K a H o S
 gx:GXL a H (S.Bs.map (·.g)) Gs
 ln:S.Bs.length=Gs.length
 ti:TIn S
 n1:1<=S.Bs.length
 ok:∀(i:Nat) (B:Bsn) (G:Jnj),S.Bs[i]?=some B->Gs[i]?=some G->Sbd G/\B.n=nOf G/\0<=B.lo/\B.hi<=12
theorem RvX.same {K:Se} {a:Ad} {H H':Hp} {o:S1} {S:Riv} {Gs:List Jnj} (s:Sj H H') (h:RvX K a H o S Gs):RvX K a H' o S Gs:=⟨h.ro.same s,h.gx.same s,h.ln,h.ti,h.n1,h.ok⟩
def Smf (S:Riv) (ls:List Int):Prop:=∀(i:Nat) (n:Int) (B:Bsn),ls[i]?=some n->S.Bs[i]?=some B->B.lo<=n/\n<=B.hi
def Slz (S:Riv) (cs:List Int):Prop:=∀(i:Nat) (n:Int) (B:Bsn),cs[i]?=some n->S.Bs[i]?=some B->0<=n/\n<=(B.n:Int) - 1
theorem Srn {K:Se} {H:Hp} {x:V} {S:Riv} {q:Pr} (h:stB S q=true) (p:PrT K H x q):∃(ls:List Int) (wt:Int),StA H x S ls wt/\Smf S ls/\(0<=wt/\wt<=S.c)/\Jwc q=wt:=by
 cases q with
 |no=>cases h
 |oth=>cases h
 |two u w r=>
  have h':(Jnc w 0 S.c&&Jq4 r (S.Bs.map (·.lo)) (S.Bs.map (·.hi)))=true:=h
  rw [yx] at h'
  obtain ⟨wt,rfl⟩:=Jr2 h'.1
  have h2:(decide (0<=wt)&&decide (wt<=S.c))=true:=h'.1
  obtain ⟨ls,rfl,ln,b⟩:=Jyi (by simp) h'.2
  obtain ⟨y,rfl,hy,⟨uu,rfl,hu,_,_⟩,_⟩:=p
  refine ⟨ls,wt,⟨y,uu,rfl,hy,hu,by simpa using ln⟩,λi n B e1 e2=>b i n B.lo B.hi e1 (by simp [e2]) (by simp [e2]),by simpa using h2,rfl⟩
theorem Sqn {K:Se} {H:Hp} {x:V} {S:Riv} {q:Pr} (h:chB S q=true) (p:PrT K H x q):∃(cs:List Int) (tv:V),ChA H x S cs tv/\Slz S cs:=by
 cases q with
 |no=>cases h
 |oth=>cases h
 |two u w r=>
  have h':(Jtt S.Ts.length w&&Jq4 r (yaa S.Bs.length 0) (S.Bs.map λB=>(B.n:Int) - 1))=true:=h
  rw [yx] at h'
  obtain ⟨cs,rfl,ln,b⟩:=Jyi (by simp) h'.2
  obtain ⟨y,rfl,hy,⟨uu,rfl,hu,_,_⟩,tw⟩:=p
  have ln':cs.length=S.Bs.length:=by simpa using ln
  refine ⟨cs,w,⟨y,uu,rfl,hy,hu,ln',?_⟩,λi n B e1 e2=>b i n 0 ((B.n:Int) - 1) e1 ?_ (by simp [e2])⟩
  ·by_cases hw:w= .non
   ·exact .inl hw
   ·have e:Jtt S.Ts.length w=Jnc w 0 ((S.Ts.length:Int) - 1):=by cases w <;> first|rfl|exact absurd rfl hw
    rw [e] at h'
    obtain ⟨j,rfl⟩:=Jr2 h'.1
    have h2:(decide (0<=j)&&decide (j<=(S.Ts.length:Int) - 1))=true:=h'.1
    have h3:0<=j/\j<=(S.Ts.length:Int) - 1:=by simpa using h2
    exact .inr ⟨j,rfl,h3.1,by omega⟩
  ·have hi:i < S.Bs.length:=(yj.mp e2).1
   simp [ybu,hi]
theorem Srd {K:Se} {a:Ad} {H:Hp} {x:V} {o:S1} {S:Riv} {wet:Int} {r:Option (List V)} (ro:Say K a H o S) (h:rnB S wet r=true) (p:Sff K H x r):∃(ra:S1) (rn:List Int),x= .ref ra/\H ra=some (.tup (rn.map V.int))/\rn.length=S.Bs.length/\Sml rn:=by
 obtain ⟨dx,b,t,os,ts,ho,hb,bl,ht,tl,n1,n2,n3⟩:=ro
 cases r with
 |none=>cases h
 |some vs=>
  have h':(Jq4 (some vs) (yaa S.Bs.length 0) (S.Bs.map (·.rn))&&(decide (Jr5 S wet<=Jys vs)&&decide (Jys vs<=wet)))=true:=h
  rw [yx] at h'
  obtain ⟨ns,e,ln,q⟩:=Jyi (by simp) h'.1
  cases e
  obtain ⟨_,ms,e',em,sm⟩:=Jzu h'.1 n1 n3
  cases e'
  have e2:ns=ms:=by
   have:=congrArg (yam Juo) em
   simpa [yav,ybz,Juo] using this
  subst e2
  obtain ⟨ra,rfl,hr,_,_⟩:=p
  exact ⟨ra,ns,rfl,hr,by simpa using ln,sm⟩
theorem Sb1.of:∀{Gs:List Jnj} {cs ls:List Int},Gs.length=cs.length->cs.length=ls.length->(∀(i:Nat) (G:Jnj) (c l:Int),Gs[i]?=some G->cs[i]?=some c->ls[i]?=some l->Sbd G/\(0<=c/\c < (nOf G:Int))/\(0<=l/\l<=1000))->Sb1 Gs cs ls
 | [],[],[],_,_,_=>True.intro
 |G::Gs,c::cs,l::ls,e1,e2,h=>⟨h 0 G c l rfl rfl rfl,Sb1.of (by simpa using e1) (by simpa using e2) λi G c l q1 q2 q3=>h (i+1) G c l (by simpa using q1) (by simpa using q2) (by simpa using q3)⟩
 | [],_::_,_,e,_,_=>by simp at e
 |_::_,[],_,e,_,_=>by simp at e
 | [],[],_::_,_,e,_=>by simp at e
 |_::_,_::_,[],_,e,_=>by simp at e
theorem Jxt {S:Riv} {ls:List Int} {tv:V} (ti:TIn S):0<=drw S ls tv/\(drw S ls tv > 0->drw S ls tv<=ls.getD (Jt0 S tv) 0):=by
 cases tv with
 |int t=>
  show 0<=(match S.Ts[t.toNat]? with|some T=>if ls.getD (plc S T.b) 0≥T.wt then T.wt else 0|none=>0)/\((match S.Ts[t.toNat]? with|some T=>if ls.getD (plc S T.b) 0≥T.wt then T.wt else 0|none=>0) > 0->(match S.Ts[t.toNat]? with|some T=>if ls.getD (plc S T.b) 0≥T.wt then T.wt else 0|none=>0)<=ls.getD (match S.Ts[t.toNat]? with|some T=>plc S T.b|none=>0) 0)
  cases e:S.Ts[t.toNat]? with
  |none=>simp
  |some T=>
   have:=ti T (yp e)
   dsimp only
   split <;> omega
 |_=>exact ⟨Int.le_refl 0,λh=>absurd (show (0:Int) > 0 from h) (by decide)⟩
theorem Yd0 {S:Riv} {ls:List Int} {tv:V} (ti:TIn S) (h0:∀n∈ls,0<=n/\n<=12):∀n∈lft S ls tv,0<=n/\n<=12:=by
 have d:=Jxt (ls:=ls) (tv:=tv) ti
 unfold lft
 split
 ·rename_i hd
  intro n hn
  rcases List.mem_or_eq_of_mem_set hn with h|h
  ·exact h0 n h
  ·by_cases hp:Jt0 S tv < ls.length
   ·have e:ls.getD (Jt0 S tv) 0=ls[Jt0 S tv]:=by simp [yat,hp]
    have:=h0 _ (yax hp)
    rw [e] at h d
    have:=d.2 hd
    omega
   ·have e:ls.getD (Jt0 S tv) 0=0:=by simp [yat,hp]
    rw [e] at d
    have:=d.2 hd
    omega
 ·exact h0
theorem RvX.sets {K:Se} {a:Ad} {H:Hp} {o:S1} {S:Riv} {Gs:List Jnj} {ls cs:List Int} {tv:V} (h:RvX K a H o S Gs) (l1:ls.length=S.Bs.length) (l2:cs.length=S.Bs.length) (hl:Smf S ls) (hc:Slz S cs):Sb1 Gs cs (lft S ls tv):=by
 have ln:=h.ln
 have all:∀n∈ls,0<=n/\n<=12:=λn hn=>by
  obtain ⟨i,hi⟩:=ybc hn
  have hi':i < ls.length:=(yj.mp hi).1
  have b:=hl i n S.Bs[i] hi (yh (by omega))
  have k:=h.ok i S.Bs[i] (Gs[i]'(by omega)) (yh (by omega)) (yh (by omega))
  omega
 refine .of (by omega) (by rw [Jtg];omega) λi G c l q1 q2 q3=>?_
 have hi:i < Gs.length:=(yj.mp q1).1
 have k:=h.ok i S.Bs[i] G (yh (by omega)) q1
 have b:=hc i c S.Bs[i] q2 (yh (by omega))
 have f:=Yd0 (tv:=tv) h.ti all l (yp q3)
 exact ⟨k.1,by rw [<-k.2.1];omega,by omega⟩
def Sj4 (a:Ad) (S:Riv) (H:Hp) (x c:V) (q r:Pr) (E:XK) (k:Prop):Prop:=if stB S q=true then (if chB S r=true then k else ∀cl eo H',RfC a.Jm6 H H' c cl eo->E cl eo H') else ∀cl eo H',RfC a.Jm5 H H' x cl eo->E cl eo H'
inductive So4 (K:Se) (a:Ad) (vs:List V) (H:Hp) (Q:VK) (E:XK):Prop where
 |mk (o:S1) (S:Riv) (x c:V) (q r:Pr) (_:vs= [.ref o,x,c]) (_:Say K a H o S) (_:PrT K H x q) (_:PrT K H c r) (_:Sj4 a S H x c q r E (∀H',Sj H H'->Q .non H'))
inductive Ydv (K:Se) (a:Ad) (vs:List V) (H:Hp) (Q:VK) (E:XK):Prop where
 |mk (o:S1) (S:Riv) (Gs:List Jnj) (x c y:V) (q r:Pr) (rr:Option (List V)) (_:vs= [.ref o,x,c,y]) (_:RvX K a H o S Gs) (_:PrT K H x q) (_:PrT K H c r) (_:Sff K H y rr) (_:Sj4 a S H x c q r E (if rnB S (Jwc q) rr=true then ∀ls cs rn wt tv ra p H',StA H x S ls wt->ChA H c S cs tv->y= .ref ra->H ra=some (.tup (rn.map V.int))->Sj H H'->Sey a H' p c y S Gs ls cs wt tv rn->Q (.ref p) H' else ∀cl eo H',RfC a.Jm7 H H' y cl eo->E cl eo H'))
theorem Js4:Jmy ["self","thing"] ["self","thing"] (Jmt (Jn2 (top 9) 0)):=⟨rfl,rfl,rfl,by decide +kernel,rfl,by decide +kernel,by decide +kernel⟩
theorem Jqw (T:Tx K mg a):Ss P w K mg base CX0 1 a.Jh6 a.Jh7 ["self","thing"] (Jpx K "thing"):=by
 refine T.Jcy.fn.ok Js4 (λvs H Q E h=>?_) (λcdv A outer s H vs Q E hr h=>?_)
 ·obtain ⟨e,C,W,fI,y,rfl,_⟩:=h
  rfl
 ·obtain ⟨e,C,W,fI,y,rfl,q,c,n,k⟩:=h
  refine ⟨_,(Sy (Jpu (pv 0) (pv 1) rfl)),?_⟩
  exact ⟨_,rfl,_,rfl,e,C,W,fI,true,rfl,q,c,n,k⟩
theorem Jt4:Jmy ["self","thing"] ["self","thing"] (Jmt (Jn2 (top 10) 0)):=⟨rfl,rfl,rfl,by decide +kernel,rfl,by decide +kernel,by decide +kernel⟩
theorem Jvw (T:Tx K mg a):Ss P w K mg base CX0 1 a.Jh8 a.Jh9 ["self","thing"] (Jpx K "thing"):=by
 refine T.Jcz.fn.ok Jt4 (λvs H Q E h=>?_) (λcdv A outer s H vs Q E hr h=>?_)
 ·obtain ⟨e,C,W,fI,y,rfl,_⟩:=h
  rfl
 ·obtain ⟨e,C,W,fI,y,rfl,q,c,n,k⟩:=h
  refine ⟨_,(Sy (Jpu (pv 0) (pv 1) rfl)),?_⟩
  exact ⟨_,rfl,_,rfl,e,C,W,fI,true,rfl,q,c,n,k⟩
theorem Jsl:Jmy ["river","standing","choice"] ["river","standing","choice"] (Jmt (top 26)):=⟨rfl,rfl,rfl,by decide +kernel,rfl,by decide +kernel,by decide +kernel⟩
theorem Jsg (T:Tx K mg a):Ss P w K mg base (CXX P w) 5 a.Jhw a.Jhx ["river","standing","choice"] (So4 K a):=by
 have Sb5:=Jq9 (P:=P) (w:=w) (base:=base) T
 have Scw:=Jtk (P:=P) (w:=w) (base:=base) T
 have Sa8:=Jp5 (P:=P) (w:=w) (base:=base) T
 have Saz:=Jqw (P:=P) (w:=w) (base:=base) T
 refine T.Ja.fn.okX Jsl (λvs H Q E h=>?_) (λcdv A outer s H vs Q E hr h=>?_)
 ·obtain ⟨o,S,x,c,q,r,rfl,_⟩:=h
  rfl
 ·obtain ⟨o,S,x,c,q,r,rfl,ro,px,pc,k⟩:=h
  refine ⟨?t,?B,?C⟩
  case B=>
   refine' Sw ?O0 ?O1
   case O0=>
    refine' Jng ?O2 ?O3 ?O4
    case O2=>exact (Jnh (Jnf (Jmv T.J6 Sb5 hr (by decide) (Sk (pv 0) (Sk (pv 1) Sm)))))
    case O3=>
     refine' Sy ?O5
     case O5=>exact (Jns Jnu rfl (Job T.Jdw Sa8 hr (by decide) T.Jcx.bd T.Jbe (Sk (pv 1) Sm)))
    case O4=>exact Jn6
   case O1=>
   refine' Sy ?O6
   case O6=>
   refine' Jng ?O7 ?O8 ?O9
   case O7=>exact (Jnh (Jnf (Jmv T.J7 Scw hr (by decide) (Sk (pv 0) (Sk (pv 2) Sm)))))
   case O8=>
    refine' Sy ?Oa
    case Oa=>exact (Jns Jnu rfl (Job T.Jdx Saz hr (by decide) T.Jcy.bd T.Jbf (Sk (pv 2) Sm)))
   case O9=>exact Jn6
  unfold Sj4 at k
  refine ⟨_,rfl,_,rfl,o,S,x,q,rfl,ro,px,λH1 s1=>⟨_,rfl,?_⟩⟩
  cases es:stB S q with
  |false=>
   rw [es] at k
   exact Joc (Jon T.Jdw T.Jfc rfl λe dx h1 h2 h3=>k _ _ _ ((RfC.new h1 h2 h3).of s1))
  |true=>
   rw [if_pos es] at k
   refine Jnv ⟨_,rfl,_,rfl,o,S,c,r,rfl,ro.same s1,pc.same s1,λH2 s2=>⟨_,rfl,?_⟩⟩
   have s12:=s1.trans s2
   cases ec:chB S r with
   |false=>
    rw [ec] at k
    exact Joc (Jon T.Jdx T.Jfd rfl λe dx h1 h2 h3=>k _ _ _ ((RfC.new h1 h2 h3).of s12))
   |true=>
    rw [if_pos ec] at k
    exact Jnv (k _ s12)
theorem Ybv:Jmy ["river","standing","choice","rain"] ["river","standing","choice","rain"] (Jmt (top 34)):=⟨rfl,rfl,rfl,by decide +kernel,rfl,by decide +kernel,by decide +kernel⟩
theorem Ybo (T:Tx K mg a):Ss P w K mg base (CXX P w) 7 a.Jie a.Jif ["river","standing","choice","rain"] (Ydv K a):=by
 have Sdf:=Jsg (P:=P) (w:=w) (base:=base) T
 have Si3:=Ym (P:=P) (w:=w) (base:=base) T
 have Sdl:=Jvw (P:=P) (w:=w) (base:=base) T
 have Sed:=Jy2 (P:=P) (w:=w) (base:=base) T
 refine T.Jh.fn.okX Ybv (λvs H Q E h=>?_) (λcdv A outer s H vs Q E hr h=>?_)
 ·obtain ⟨o,S,Gs,x,c,y,q,r,rr,rfl,_⟩:=h
  rfl
 ·obtain ⟨o,S,Gs,x,c,y,q,r,rr,rfl,rv,px,pc,py,k⟩:=h
  refine ⟨?t,?B,?C⟩
  case B=>
   refine' Sw ?O0 ?O1
   case O0=>exact (Jp0 (Jow T.Ja Sdf Jnu hr (by decide) (Sk (pv 0) (Sk (pv 1) (Sk (pv 2) Sm)))))
   case O1=>
   refine' Sw ?O2 ?O3
   case O2=>
    refine' Jng ?O4 ?O5 ?O6
    case O4=>exact (Jnh (Jnf (Jow T.J9 Si3 Jnu hr (by decide) (Sk (pv 0) (Sk (pv 1) (Sk (pv 3) Sm))))))
    case O5=>
     refine' Sy ?O7
     case O7=>exact (Jns Jnu rfl (Job T.Jdy Sdl hr (by decide) T.Jcz.bd T.Jbg (Sk (pv 3) Sm)))
    case O6=>exact Jn6
   case O3=>
   refine' Sy ?O8
   case O8=>
   refine' Jn0 ?O9
   case O9=>exact (Jq3 T.Je1 Sed (hr.mono (by decide)) (by rfl) T.Jbi T.Jd1.bd .nil Jph (pa4 (pv 0) (pv 1) (pv 2) (pv 3)))
  refine ⟨_,rfl,_,rfl,_,rfl,o,S,x,c,q,r,rfl,rv.ro,px,pc,?_⟩
  unfold Sj4 at k⊢
  cases es:stB S q with
  |false=>
   rw [es] at k
   exact k
  |true=>
   rw [if_pos es] at k
   rw [if_pos rfl]
   cases ec:chB S r with
   |false=>
    rw [ec] at k
    exact k
   |true=>
    rw [if_pos ec] at k
    rw [if_pos rfl]
    intro H1 s1
    refine ⟨_,rfl,_,rfl,_,rfl,o,S,x,q,y,rr,rfl,rv.ro.same s1,px.same s1,py.same s1,?_⟩
    rw [if_pos es]
    intro H2 s2
    have s12:=s1.trans s2
    refine ⟨_,rfl,?_⟩
    cases er:rnB S (Jwc q) rr with
    |false=>
     rw [er] at k
     exact Joc (Jon T.Jdy T.Jfe rfl λe dx h1 h2 h3=>k _ _ _ ((RfC.new h1 h2 h3).of s12))
    |true=>
     rw [if_pos er] at k
     obtain ⟨ls,wt,sa,lvi,_,_⟩:=Srn es px
     obtain ⟨cs,tv,ca,csi⟩:=Sqn ec pc
     obtain ⟨ra,rn,rfl,hra,rl,sm⟩:=Srd rv.ro er py
     refine Jnv ⟨_,rfl,_,rfl,_,rfl,_,rfl,λp dx hp hd ne=>?_⟩
     have sn:Sj H2 (upd (upd H2 dx (.own p)) p (.ins a.Jm9 dx [])):=λb ob e=>by rw [Sz (Jmw e hp),Sz (Jmw e hd)];exact e
     have la:ls.length=S.Bs.length:=by obtain ⟨_,_,_,_,_,z⟩:=sa;exact z
     have lc:cs.length=S.Bs.length:=by obtain ⟨_,_,_,_,_,z,_⟩:=ca;exact z
     have rv2:=rv.same s12
     refine ⟨p,dx,o,ra,H2,S,Gs,x,c,ls,cs,rn,wt,tv,rfl,hp,sn,Sr,⟨rv2.ro,rv2.ti,rv2.gx,rv2.ln,sa.same s12,ca.same s12,s12 _ _ hra,rl,sm,rv2.sets la lc lvi csi,rv2.n1⟩,λH3 s3 ta=>⟨rfl,?_⟩⟩
     exact k ls cs rn wt tv ra p H3 sa ca rfl hra (s12.trans s3) ta
def tk1 (b c:Int):Int:=(b+7919*c)*48271%2147483629
def tk2 (b c:Int):Int:=tk1 b c*tk1 b c%2147483587
def tkF (b c m:Int):Int:=(tk2 b c*(tk2 b c+11)+16807*c)%2147483647/16%m
def Sd (H:Hp) (p:S1) (b c:Int):Prop:=H p=some (.lst [.int 0,.int b,.int c])
theorem Sd.st {H:Hp} {p:S1} {b c:Int} (h:Sd H p b c):Sbj H p:=⟨_,_,_,h⟩
inductive Yfp (vs:List V) (H:Hp) (Q:VK) (z3:XK):Prop where
 |mk (p:S1) (m b c:Int) (_:vs= [.ref p,.int m]) (_:Sd H p b c) (_:0 < m) (_:m.natAbs.log2 < 9000) (_:∀H',But p H H'->Sd H' p b (c+1)->0<=tkF b (c+1) m->tkF b (c+1) m < m->Q (.int (tkF b (c+1) m)) H')
def csF (b c:Int) (ns:List Int):Nat->List Int
 |0=>[]
 |i+1=>csF b c ns i++ [tkF b (c+i+1) (ns.getD i 0)]
def twF (b c n:Int):V:=if tkF b (c+1) (n+1) - 1 < 0 then .non else .int (tkF b (c+1) (n+1) - 1)
theorem Jvc {b c:Int} {ns:List Int} {i:Nat}:(csF b c ns i).length=i:=by
 induction i with
 |zero=>rfl
 |succ i ih=>rw [csF,yae,ih];rfl
def nsR (R:Jn4):List Int:=R.Bs.map λB=>(nOf B.G:Int)
def Sko (R:Jn4) (v:V):Prop:=v= .non\/∃j:Int,v= .int j/\0<=j/\j < R.Ts.length
def Sb4 (H:Hp) (x:V) (R:Jn4) (ns:List Int) (tv:V):Prop:=(∃y u:S1,x= .ref y/\H y=some (.tup [.ref u,tv])/\H u=some (.tup (ns.map V.int)))/\ns.length=R.Bs.length/\(∀(i:Nat) (n:Int),ns[i]?=some n->0<=n/\n<=4/\∃B,R.Bs[i]?=some B/\n < (nOf B.G:Int))/\Sko R tv
inductive Ya1 (vs:List V) (H:Hp) (Q:VK) (z3:XK):Prop where
 |mk (p:S1) (x:V) (R:Jn4) (b c:Int) (_:vs= [.ref p,x]) (_:Sd H p b c) (_:Sci p H x R) (_:Jp8 R) (_:∀(y:V) (H':Hp),But p H H'->Sd H' p b (c+R.Bs.length+1)->Sb4 H' y R (csF b c (nsR R) R.Bs.length) (twF b (c+R.Bs.length) R.Ts.length)->Q y H')
theorem Snc {G:Jnj} (h:Sbd G):1<=nOf G/\nOf G<=4:=by
 have:=h.len
 unfold nOf
 split <;> omega
def Jot (R:Jn4) (wet:Int):Int:=
 if (if wet+R.g - R.c > 0 then wet+R.g - R.c else 0) < (R.Bs.map (·.rn)).sum then (if wet+R.g - R.c > 0 then wet+R.g - R.c else 0) else (R.Bs.map (·.rn)).sum
inductive Ybz (vs:List V) (H:Hp) (Q:VK) (z3:XK):Prop where
 |mk (p:S1) (x:V) (R:Jn4) (wet:Int) (_:vs= [x,.int wet]) (_:Sci p H x R) (_:Jp8 R) (_:∀H',Sj H H'->Q (.int (Jot R wet)) H')
theorem Jtl (T:Tx K mg a):Ss P w K mg base CX0 1 a.Jka a.Jkb ["_law_stream_here","_law_many"] Yfp:=by
 refine T.Js.fn.ok Sar (λvs H Q E h=>?_) (λcdv A outer s H vs Q E hr h=>?_)
 ·obtain ⟨p,m,b,c,rfl,_⟩:=h
  rfl
 ·obtain ⟨p,m,b,c,rfl,hp,hm,hl,k⟩:=h
  unfold Sd at hp
  refine ⟨_,(Sw (Jpi (Jn5 Jnn (Jn1 Jne (pv 0) So (λ_ _=>rfl)) So) (Js1 (pv 0) So Jpk))
   (Sw (Jng (Jnp Jrf (Jn1 Jne (pv 0) So (λ_ _=>rfl)) So (Jni _)) (Sw (Jn3 (i:=2) Sar.nd rfl (ye rfl) (Jn5 Jp6 (Jn1 Jne (pv 0) So (λ_ _=>rfl)) (pv 1)))
    (Sw (Jpi (Jn5 Jr0 (Jn1 Jne (pv 0) So (λ_ _=>rfl)) (pv 1)) (Js1 (pv 0) So Jpk))
    (Sy (Jn0 (pv 2))))) Jn6)
   (Sw (Jn3 (i:=3) Sar.nd rfl (ye rfl) (Jn5 Jp6 (Jn5 Jp2 (Jn5 Jnn (Jn1 Jne (pv 0) So (λ_ _=>rfl)) (Jn5 Jp2 So (Jn1 Jne (pv 0) So (λ_ _=>rfl)))) So) So))
   (Sw (Jn3 (i:=3) Sar.nd rfl (ye rfl) (Jn5 Jp6 (Jn5 Jp2 (pv 3) (pv 3)) So))
   (Sy (Jn0 (Jn5 Jp6 (Jn5 Jr0 (Jn5 Jp6 (Jn5 Jnn (Jn5 Jp2 (pv 3) (Jn5 Jnn (pv 3) So)) (Jn5 Jp2 So (Jn1 Jne (pv 0) So (λ_ _=>rfl)))) So) So) (pv 1)))))))),?_⟩
  refine ⟨_,rfl,p,_,_,_,rfl,rfl,Sv.of hp,rfl,_,_,rfl,rfl,_,rfl,p,_,_,_,rfl,rfl,hp,rfl,?_⟩
  refine ⟨_,rfl,p,_,_,_,rfl,rfl,Sv.of Sr,rfl,_,_,rfl,rfl,_,rfl,Jnv ?_⟩
  refine ⟨_,rfl,p,_,_,_,rfl,rfl,Sv.of Sr,rfl,_,rfl,p,_,_,_,rfl,rfl,Sv.of Sr,rfl,_,_,rfl,rfl,.inl ⟨by decide,by decide⟩,_,_,rfl,rfl,_,_,rfl,rfl,.inr ⟨by decide,by decide⟩,_,_,rfl,rfl,(by show (0:Int) < 2147483629;decide),?_⟩
  have n1:∀x:Int,-(2^64) < x%2147483629/\x%2147483629 < 2^64:=λx=>by
   have h1:=ybr x (show (2147483629:Int)≠0 by decide)
   have h2:=ybs x (show (0:Int) < 2147483629 by decide)
   constructor <;> omega
  have n2:∀x:Int,-(2^64) < x%2147483587/\x%2147483587 < 2^64:=λx=>by
   have h1:=ybr x (show (2147483587:Int)≠0 by decide)
   have h2:=ybs x (show (0:Int) < 2147483587 by decide)
   constructor <;> omega
  refine ⟨_,rfl,_,rfl,_,_,rfl,rfl,.inl (n1 _),_,_,rfl,rfl,(by show (0:Int) < 2147483587;decide),?_⟩
  refine ⟨_,rfl,_,rfl,_,_,rfl,rfl,_,_,rfl,rfl,.inl (n2 _),_,rfl,p,_,_,_,rfl,rfl,Sv.of Sr,rfl,_,_,rfl,rfl,.inl ⟨by decide,by decide⟩,_,_,rfl,rfl,_,_,rfl,rfl,(by show (0:Int) < 2147483647;decide),_,_,rfl,rfl,⟨by decide,by decide⟩,_,rfl,_,_,rfl,rfl,hm,?_⟩
  have q:=k (upd H p (.lst [.int 0,.int b,.int (c+1)])) ⟨λd o ne e=>by rw [Sz ne];exact e,_,_,_,Sr⟩ Sr (ybr _ (by omega)) (ybs _ hm)
  unfold tkF tk2 tk1 at q
  exact q
theorem Scf:Jmy ["_law_stream_here","_law_told","_law_settings_here","_law_town"] ["_law_stream_here","_law_told"] (Jmt (top 78)):=⟨rfl,rfl,rfl,by decide +kernel,rfl,by decide +kernel,by decide +kernel⟩
theorem Jwl (T:Tx K mg a):Ss P w K mg base CX0 2 a.Jks a.Jkt ["_law_stream_here","_law_told"] Ya1:=by
 have Sl:=Jtl (P:=P) (w:=w) (base:=base) T
 have See:=Jv6 (P:=P) (w:=w) (base:=base) T
 refine T.Ja1.fn.ok Scf (λvs H Q E h=>?_) (λcdv A outer s H vs Q E hr h=>?_)
 ·obtain ⟨p,x,R,b,c,rfl,_⟩:=h
  rfl
 ·obtain ⟨p,x,R,b0,c0,rfl,sd,rt,rg,k⟩:=h
  refine ⟨?t,?B,?C⟩
  case B=>
   refine' Sw ?O0 ?O1
   case O0=>exact (Jn3 (i:=2) Scf.nd rfl (ye rfl) (Jnd Jnl (by rfl) T.Jb6 Jnq (Sk (Jnm (N:=(["_law_one","_law_stream_here"]:List Str)) (ini:=[none,some 0]) rfl (Jo1 (Jn1 Jn9 (pv 1) So (λ_ _=>rfl))) (λ_ _ _ _ _=>(Jmz (i:=0) (by decide +kernel:(["_law_one","_law_stream_here"]:List Str).Nodup) rfl (ye rfl))) (λ_ _ _ _ _=>Jnk) (λ_ _ _ _ _=>(Jmv T.Js Sl hr (by decide) (Sk (pv 1) (Sk (Jmv T.Jz See hr (by decide) (Sk (Jn1 (Jog (K:=K) rfl) (pv 0) So (λ_ _=>rfl)) Sm)) Sm))))) Sm)))
   case O1=>
   refine' Sw ?O2 ?O3
   case O2=>exact (Jn3 (i:=3) Scf.nd rfl (ye rfl) (Jn5 Jo4 (Jmv T.Js Sl hr (by decide) (Sk (pv 0) (Sk (Jn5 Jnn (Jmx Jn8 (by rfl) T.Jay Jnz (Sk (Jn1 Jn9 (pv 1) So (λ_ _=>rfl)) Sm)) So) Sm))) So))
   case O3=>
   refine' Sy ?O4
   case O4=>exact (Jn0 (Jo8 (Sk (pv 2) (Sk (Jn1 Jne (Jol (Sk (pv 3) (Sk Jqd Sm))) (Jnd Jq5 (by rfl) T.Jaw Jst (Sk (Joi Yaq (pv 3) So (Jni _)) Sm)) (λ_ _=>rfl)) Sm))))
  have st:=sd.st
  obtain ⟨t,lb,lt,bs,ts,rfl,ht,hb,btl,htt,ttl,nb,nt⟩:=rt
  refine ⟨_,rfl,t,_,2,_,rfl,rfl,Su.of ht,rfl,lb,rfl,⟨_,Sv.of hb⟩,λD hD=>?_⟩
  have blen:=btl.len
  have hn:=rg.n
  have nD:D≠p:=st.ne hD
  refine Jok (λi σ H'=>(∃o,σ= [o,some (.ref p)])/\H' D=some (.lst ((csF b0 c0 (nsR R) i).map V.int))/\(∀(j:Nat) (n:Int),(csF b0 c0 (nsR R) i)[j]?=some n->0<=n/\n<=4/\∃B,R.Bs[j]?=some B/\n < (nOf B.G:Int))/\Sd H' p b0 (c0+i)/\But p H H') ⟨⟨_,rfl⟩,Sr,(λj n e=>by simp [csF] at e),(by unfold Sd;rw [Sz nD.symm,show c0+((0:Nat):Int)=c0 by omega];exact sd),But.of st (Sj.upd hD)⟩ (λi σ H' _ ⟨_,_,_,_,b⟩=>Sv.of (b.1 _ _ nb hb)) ?_ ?_
  ·rintro i x σ H' hx ⟨⟨o,rfl⟩,hDs,hj,sd',b⟩
   obtain ⟨B,eB,bt⟩:=btl.get hx
   obtain ⟨tb,g,rfl,htb',gt⟩:=bt.but st b
   have bg:=(rg.Bs B (yp eB)).1
   have q1:=Snc bg.G
   have hi:i < R.Bs.length:=(yj.mp eB).1
   have en:(nsR R).getD i 0=(nOf B.G:Int):=by unfold nsR;simp [eB]
   refine Jo9 ⟨_,rfl,_,rfl,tb,_,5,_,rfl,rfl,Su.of htb',rfl,p,g,B.G,rfl,gt,λH2 s2=>?_⟩
   refine ⟨p,_,b0,c0+i,rfl,s2 _ _ sd',by omega,Jrd (by omega),λH5 b5 sd5 r0 r1=>?_⟩
   have b25:=(But.of b.2 s2).trans b5
   refine ⟨_,b25.1 _ _ nD hDs,by rw [yf,Jvc];exact Jno (by omega),⟨_,rfl⟩,?_,λj n ej=>?_,?_,(b.trans b25).updD hD nD⟩
   ·rw [Sr,csF,yab,en]
    rfl
   ·rw [csF,yca] at ej
    split at ej
    ·exact hj j n ej
    ·rw [Jvc] at ej
     have hj0:j - i=0:=by
      have:=(yj.mp ej).1
      simpa using this
     have ej':j=i:=by
      rename_i nj
      rw [Jvc] at nj
      omega
     subst ej'
     rw [hj0,en] at ej
     cases ej
     exact ⟨r0,by omega,B,eB,r1⟩
   ·unfold Sd
    rw [Sz nD.symm,show c0+((i+1:Nat):Int)=c0+i+1 by omega]
    exact sd5
  ·rintro σ H1 ⟨⟨o,rfl⟩,hD1,hj,sd1,b1⟩
   rw [blen] at hD1 hj sd1
   refine ⟨D,_,rfl,.inl ⟨Sv.of hD1,λu hu=>?_⟩⟩
   have su:=Sj.upd (o:=.tup ((csF b0 c0 (nsR R) R.Bs.length).map V.int)) hu
   have b2:=b1.same su
   have ht2:=b2.1 _ _ (Jpt st ht (λ_ _ _ z=>by cases z)) ht
   have htt2:=b2.1 _ _ nt htt
   have tlen:=ttl.len
   have tn:=rg.tn
   refine ⟨_,rfl,_,rfl,t,_,3,_,rfl,rfl,Su.of ht2,rfl,lt,_,rfl,.inl (Sv.of htt2),_,_,rfl,rfl,p,_,b0,_,rfl,su _ _ sd1,by omega,Jrd (by omega),λH5 b5 sd5 r0 r1=>⟨_,_,rfl,rfl,?_⟩⟩
   have hu5:H5 u=some (.tup ((csF b0 c0 (nsR R) R.Bs.length).map V.int)):=b5.1 _ _ (Jpt b2.2 Sr (λ_ _ _ z=>by cases z)) Sr
   rw [tlen] at r0 r1⊢
   generalize er:tkF b0 (c0+R.Bs.length+1) (((R.Ts.length:Nat):Int)+1)=r at*
   refine ⟨_,rfl,_,rfl,(show 2<=S6 by decide),λD2 hD2=>⟨_,rfl,_,_,rfl,rfl,.inr ⟨_,rfl,?_⟩⟩⟩
   have s2:=Sj.upd (o:=.lst [.int (r - 1),.non]) hD2
   obtain ⟨hat,htv⟩:atI [V.int (r - 1),.non] (if decide (r - 1 < 0)=true then 1 else 0)=some (twF b0 (c0+R.Bs.length) R.Ts.length)/\Sko R (twF b0 (c0+R.Bs.length) R.Ts.length):=by
    unfold twF
    rw [er]
    by_cases h:r - 1 < 0
    ·rw [decide_eq_true h,if_pos h]
     exact ⟨rfl,.inl rfl⟩
    ·rw [decide_eq_false h,if_neg h]
     exact ⟨rfl,.inr ⟨_,rfl,by omega,by omega⟩⟩
   refine ⟨D2,_,_,_,rfl,rfl,Sv.of Sr,hat,(show 2<=S6 by decide),λy hy=>?_⟩
   have sy:=s2.trans (Sj.upd (o:=.tup [.ref u,twF b0 (c0+R.Bs.length) R.Ts.length]) hy)
   exact k (.ref y) _ ((b2.trans b5).same sy) (sy _ _ sd5) ⟨⟨y,u,rfl,Sr,sy _ _ hu5⟩,Jvc,hj,htv⟩
theorem Jwv:Jmy ["_law_told","_law_wet"] ["_law_told","_law_wet"] (Jmt (top 79)):=⟨rfl,rfl,rfl,by decide +kernel,rfl,by decide +kernel,by decide +kernel⟩
theorem Jwm (T:Tx K mg a):Ss P w K mg base CX0 1 a.Jku a.Jkv ["_law_told","_law_wet"] Ybz:=by
 refine T.Ja2.fn.ok Jwv (λvs H Q E h=>?_) (λcdv A outer s H vs Q E hr h=>?_)
 ·obtain ⟨p,x,R,wet,rfl,_⟩:=h
  rfl
 ·obtain ⟨p,x,R,wet,rfl,rt,rg,k⟩:=h
  refine ⟨?t,?B,?C⟩
  case B=>
   refine' Sy ?O0
   case O0=>exact (Jn0 (Jmx (Jor rfl) (by rfl) T.Jb1 Jqn (Sk (Jmx (Jo3 rfl) (by rfl) T.Jb5 Jou (Sk (Jnm (N:=(["_law_one"]:List Str)) (ini:=[none]) rfl (Jo1 (Jn1 Jn9 (pv 0) So (λ_ _=>rfl))) (λ_ _ _ _ _=>(Jmz (i:=0) (by decide +kernel:(["_law_one"]:List Str).Nodup) rfl (ye rfl))) (λ_ _ _ _ _=>Jnk) (λ_ _ _ _ _=>(Jn1 (Jog (K:=K) rfl) (pv 0) So (λ_ _=>rfl)))) Sm)) (Sk (Jmx (Jpl rfl) (by rfl) T.Jb0 Jsu (Sk So (Sk (Jn5 Jo4 (Jn5 Jnn (pv 1) (Jn1 Jn9 (pv 0) So (λ_ _=>rfl))) (Jn1 Jn9 (pv 0) So (λ_ _=>rfl))) Sm))) Sm))))
  obtain ⟨t,lb,lt,bs,ts,rfl,ht,hb,btl,htt,ttl,nb,nt⟩:=rt
  have blen:=btl.len
  have hn:=rg.n
  refine ⟨_,rfl,t,_,2,_,rfl,rfl,Su.of ht,rfl,lb,rfl,⟨_,Sv.of hb⟩,λD hD=>?_⟩
  refine Jp4 ((R.Bs.map (·.rn)).map V.int) hD (by simp [blen]) (by omega) hb ?_ ?_
  ·intro i x y H' Q' hx hy sm k'
   obtain ⟨B,eB,tb,g,rfl,htb,gt⟩:=btl.get hx
   rw [yg,yg,eB] at hy
   cases hy
   exact ⟨_,rfl,tb,_,4,_,rfl,rfl,Su.of (sm _ _ htb),rfl,k' _ λ_ _ h=>h⟩
  intro H1 s1 hD1
  refine ⟨D,_,rfl,.inl (Sv.of hD1),⟨by rw [yf];omega,λn hn=>?_⟩,?_⟩
  ·obtain ⟨B,hB,rfl⟩:=yaf.mp hn
   have:=(rg.Bs B hB).1.rn
   omega
  refine ⟨_,rfl,_,rfl,t,_,1,_,rfl,rfl,Su.of (s1 _ _ ht),rfl,_,_,rfl,rfl,_,rfl,t,_,0,_,rfl,rfl,Su.of (s1 _ _ ht),rfl,_,_,rfl,rfl,_,_,rfl,_,_,rfl,k _ s1⟩
def Skm (n:Nat) (ms:List Int):Prop:=ms.length=n/\∀m∈ms,0<=m/\m<=6
theorem Skm.sml {n:Nat} {ms:List Int} (h:Skm n ms) (hn:n<=16):Sml ms:=⟨by have:=h.1;omega,λm hm=>by have:=h.2 m hm;omega⟩
theorem Ydx:∀{ms:List Int},(∀m∈ms,0<=m)->0<=ms.sum
 | [],_=>by simp
 |x::r,h=>by
  have h1:=h x yak
  have h2:=Ydx (ms:=r) λm hm=>h m (yr _ hm)
  rw [yay]
  omega
def RnB (R:Jn4) (ms:List Int):Prop:=∀(i:Nat) (m:Int) (B:Jp7),ms[i]?=some m->R.Bs[i]?=some B->0<=m/\m<=B.rn
def Sj5 (R:Jn4) (wet:Int) (ms:List Int):Prop:=ms.length=R.Bs.length/\RnB R ms/\ms.sum<=wet/\Jot R wet<=ms.sum
theorem RnB.row6 {R:Jn4} {ms:List Int} (rg:Jp8 R) (ln:ms.length=R.Bs.length) (h:RnB R ms):Skm R.Bs.length ms:=⟨ln,λm hm=>by
 obtain ⟨i,hi⟩:=ybc hm
 have hi':i < R.Bs.length:=by have:=(yj.mp hi).1;omega
 have q:=h i m R.Bs[i] hi (yh hi')
 have:=(rg.Bs R.Bs[i] (yax hi')).1.rn
 omega⟩
theorem Yax:∀{ms:List Int} {i:Nat} {v:Int} (h:i < ms.length),(ms.set i v).sum=ms.sum - ms[i]+v
 |m::ms,0,v,_=>by
  show (v::ms).sum=(m::ms).sum - m+v
  rw [yay,yay]
  omega
 |m::ms,i+1,v,h=>by
  have ih:=Yax (ms:=ms) (i:=i) (v:=v) (by simpa using h)
  show (m::ms.set i v).sum=(m::ms).sum - ms[i]'(by simpa using h)+v
  rw [yay,yay,ih]
  omega
theorem Ybf {R:Jn4} {wet:Int} (rg:Jp8 R) (hw:0<=wet):Jot R wet<=wet/\Jot R wet<=(R.Bs.map (·.rn)).sum:=by
 have:=rg.g
 unfold Jot
 split <;> split <;> omega
def rsR (R:Jn4):List Int:=R.Bs.map (·.rn)
theorem Yaw {R:Jn4} {i:Nat} {B:Jp7} (h:R.Bs[i]?=some B):(rsR R).getD i 0=B.rn:=by unfold rsR;simp [h]
def mn (a b:Int):Int:=if b < a then b else a
def Slp (R:Jn4) (wet:Int) (ns:List Int):Int:=if Jot R wet - ns.sum > 0 then Jot R wet - ns.sum else 0
def upF (rs ns:List Int) (l:Int):Nat->List Int×Int
 |0=>(ns,l)
 |i+1=>((upF rs ns l i).1.set i ((upF rs ns l i).1.getD i 0+mn (rs.getD i 0 - (upF rs ns l i).1.getD i 0) (upF rs ns l i).2),(upF rs ns l i).2 - mn (rs.getD i 0 - (upF rs ns l i).1.getD i 0) (upF rs ns l i).2)
def rzF (R:Jn4) (wet:Int) (ns:List Int):List Int:=(upF (rsR R) ns (Slp R wet ns) R.Bs.length).1
def rnF (b c wet:Int) (rs:List Int):Nat->List Int
 |0=>[]
 |i+1=>rnF b c wet rs i++ [tkF b (c+i+1) (mn (rs.getD i 0) (wet - (rnF b c wet rs i).sum)+1)]
def Jv1 (b c:Int) (R:Jn4) (wet:Int):List Int:=rzF R wet (rnF b c wet (rsR R) R.Bs.length)
inductive Ya2 (vs:List V) (H:Hp) (Q:VK) (z3:XK):Prop where
 |mk (p:S1) (x:V) (R:Jn4) (wet:Int) (r:S1) (ns:List Int) (_:vs= [x,.int wet,.ref r]) (_:Sci p H x R) (_:Jp8 R) (_:0<=wet) (_:H r=some (.lst (ns.map V.int))) (_:ns.length=R.Bs.length) (_:RnB R ns) (_:ns.sum<=wet) (_:∀(u:S1) (H':Hp),Sj H H'->H' u=some (.tup ((rzF R wet ns).map V.int))->Sj5 R wet (rzF R wet ns)->Q (.ref u) H')
inductive Ydo (vs:List V) (H:Hp) (Q:VK) (z3:XK):Prop where
 |mk (p:S1) (x:V) (R:Jn4) (wet b c:Int) (_:vs= [.ref p,x,.int wet]) (_:Sd H p b c) (_:Sci p H x R) (_:Jp8 R) (_:(0<=wet/\wet<=12)) (_:∀(u:S1) (H':Hp),But p H H'->Sd H' p b (c+R.Bs.length)->H' u=some (.tup ((Jv1 b c R wet).map V.int))->Sj5 R wet (Jv1 b c R wet)->Q (.ref u) H')
theorem Sak:Jmy ["_law_told","_law_wet","_law_row","_law_found","_law_lack","_law_k","_law_one","_law_more"] ["_law_told","_law_wet","_law_row"] (Jmt (top 80)):=⟨rfl,rfl,rfl,by decide +kernel,rfl,by decide +kernel,by decide +kernel⟩
theorem Jwo (T:Tx K mg a):Ss P w K mg base CX0 2 a.Jkw a.Jkx ["_law_told","_law_wet","_law_row"] Ya2:=by
 have Sf7:=Jwm (P:=P) (w:=w) (base:=base) T
 refine T.Ja3.fn.ok Sak (λvs H Q E h=>?_) (λcdv A outer s H vs Q E hr h=>?_)
 ·obtain ⟨p,x,R,wet,r,ns,rfl,_⟩:=h
  rfl
 ·obtain ⟨p,x,R,wet,r,ns,rfl,rt,rg,hw,hr0,ln0,rb0,sw0,k⟩:=h
  refine ⟨?t,?B,?C⟩
  case B=>
   refine' Sw ?O0 ?O1
   case O0=>exact (Jn3 (i:=3) Sak.nd rfl (ye rfl) (Jnd Jox (by rfl) T.Jaz Jq1 (Sk (pv 2) Sm)))
   case O1=>
   refine' Sw ?O2 ?O3
   case O2=>exact (Jn3 (i:=4) Sak.nd rfl (ye rfl) (Jmx (Jpl rfl) (by rfl) T.Jb0 Jsu (Sk So (Sk (Jn5 Jo4 (Jmv T.Ja2 Sf7 hr (by decide) (Sk (pv 0) (Sk (pv 1) Sm))) (Jmx (Jo3 rfl) (by rfl) T.Jb5 Jou (Sk (pv 3) Sm))) Sm))))
   case O3=>
   refine' Sw ?O4 ?O5
   case O4=>
    refine' Jpj ?O6 ?O7 ?O8 ?O9 ?Oa
    case O6=>exact PassesOwn.never
    case O7=>exact rfl
    case O8=>exact (Yat (by rfl) T.Jav (Sk (Jn1 Jn9 (pv 0) So (λ_ _=>rfl)) Sm))
    case O9=>exact (Jr7 rfl (Jn7 (Jmz (i:=5) Sak.nd rfl (ye rfl)) (Jn7 (Jmz (i:=6) Sak.nd rfl (ye rfl)) Joe)))
    case Oa=>
    refine' Sw ?Ob ?Oc
    case Ob=>exact (Jn3 (i:=7) Sak.nd rfl (ye rfl) (Jmx (Jor rfl) (by rfl) T.Jb1 Jqn (Sk (Jn5 Jo4 (Jn1 Jn9 (pv 6) So (λ_ _=>rfl)) (Jn1 Jne (pv 3) (pv 5) (λ_ _=>rfl))) (Sk (pv 4) Sm))))
    case Oc=>
    refine' Sw ?Od ?Oe
    case Od=>exact (Jpi (Jn5 Jnn (Jn1 Jne (pv 3) (pv 5) (λ_ _=>rfl)) (pv 7)) (Js1 (pv 3) (pv 5) Jpk))
    case Oe=>
    refine' Sy ?Of
    case Of=>exact (Jn3 (i:=4) Sak.nd rfl (ye rfl) (Jn5 Jo4 (pv 4) (pv 7)))
   case O5=>
   refine' Sy ?Og
   case Og=>exact (Jn0 (Jnd Jnl (by rfl) T.Jb6 Jnq (Sk (pv 3) Sm)))
  obtain ⟨t,lb,lt,bs,ts,rfl,ht,hb,btl,htt,ttl,nb,nt⟩:=id rt
  have blen:=btl.len
  have hn:=rg.n
  have fl:=Ybf rg hw
  refine ⟨_,rfl,r,_,rfl,.inl (Sv.of hr0),λF hF=>?_⟩
  have s1:=Sj.upd (o:=.lst (ns.map V.int)) hF
  refine ⟨_,rfl,_,rfl,p,_,R,wet,rfl,rt.same rg s1,rg,λH2 s2=>?_⟩
  have s12:=s1.trans s2
  have hF2:=s2 _ _ (Sr (H:=H) (a:=F) (o:=.lst (ns.map V.int)))
  refine ⟨_,rfl,F,ns,rfl,.inl (Sv.of hF2),(rb0.row6 rg ln0).sml hn.2,_,_,rfl,rfl,_,_,rfl,?_⟩
  refine ⟨_,rfl,t,_,2,_,rfl,rfl,Su.of (s12 _ _ ht),rfl,?_⟩
  refine ⟨lb,rfl,⟨_,Sv.of (s12 _ _ hb)⟩,?_⟩
  refine Yej (xs:=bs) (λi σ H'=>∃(o1 o2 o3:Option V) (ms:List Int) (l:Int),σ= [some (.ref t),some (.int wet),some (.ref r),some (.ref F),some (.int l),o1,o2,o3]/\H' F=some (.lst (ms.map V.int))/\(ms,l)=upF (rsR R) ns (Slp R wet ns) i/\ms.length=R.Bs.length/\RnB R ms/\ms.sum<=wet/\(0<=l/\(l=0/\Jot R wet<=ms.sum\/l=Jot R wet - ms.sum))/\(Jot R wet<=ms.sum\/∀j,j < i->∀B,R.Bs[j]?=some B->ms[j]?=some B.rn)/\Sj H H') ?_ ?_ ?_ ?_
  ·refine ⟨_,_,_,ns,_,rfl,hF2,rfl,ln0,rb0,sw0,?_,.inr λj hj=>absurd hj (yby j),s12⟩
   split <;> omega
  ·rintro i σ H' _ ⟨_,_,_,_,_,_,_,_,_,_,_,_,_,sm⟩
   exact Sv.of (sm _ _ hb)
  ·rintro i x σ H' Ta hx ⟨o1,o2,o3,ms,l,rfl,hFs,up,ln,rb,sw,hl,dj,sm⟩ hT
   obtain ⟨B,eB,tb,g,rfl,htb,gt⟩:=btl.get hx
   have bg:=(rg.Bs B (yp eB)).1
   have sT:=Sj.upd (o:=.tup [.int i,.ref tb]) hT
   have hi:i < R.Bs.length:=(yj.mp eB).1
   have hi':i < ms.length:=by omega
   have htb':=sT _ _ (sm _ _ htb)
   have hFT:=sT _ _ hFs
   have hat:atI (ms.map V.int) (i:Int)=some (.int ms[i]):=Jps hi'
   have b6:=rb i ms[i] B (yh hi') eB
   have q6:=rb.row6 rg ln
   refine ⟨Ta,_,rfl,Su.of Sr,rfl,_,_,rfl,_,_,rfl,rfl,?_⟩
   refine ⟨_,rfl,tb,_,4,_,rfl,rfl,Su.of htb',rfl,_,rfl,_,rfl,F,_,_,_,rfl,rfl,Sv.of hFT,hat,_,_,rfl,rfl,_,rfl,_,_,rfl,?_⟩
   refine ⟨_,rfl,_,rfl,F,_,_,_,rfl,rfl,Sv.of hFT,hat,_,rfl,_,_,rfl,rfl,?_⟩
   have hix:ixN (ms.map V.int).length (i:Int)=some i:=by
    unfold ixN
    rw [if_pos (by omega),if_pos (by rw [yf];omega)]
    rfl
   refine ⟨_,rfl,_,rfl,F,_,_,i,rfl,rfl,hFT,hix,?_⟩
   refine ⟨_,rfl,_,rfl,_,_,rfl,rfl,?_⟩
   generalize ev:(if l < B.rn - ms[i] then l else B.rn - ms[i])=v
   have ev':mn (B.rn - ms[i]) l=v:=ev
   have ss:=Yax (ms:=ms) (i:=i) (v:=ms[i]+v) hi'
   have hv:0<=v/\ms[i]+v<=B.rn/\v<=l/\(v=l\/ms[i]+v=B.rn):=by
    rw [<-ev]
    split <;> omega
   have get_set:∀(j:Nat),(ms.set i (ms[i]+v))[j]?=if i=j then some (ms[i]+v) else ms[j]?:=λj=>by
    rw [List.getElem?_set]
    by_cases e:i=j
    ·subst e
     rw [if_pos rfl,if_pos rfl,if_pos hi']
    ·rw [if_neg e,if_neg e]
   refine ⟨_,_,_,ms.set i (ms[i]+v),l - v,rfl,by rw [Sr,List.map_set],?_,by rw [List.length_set];exact ln,λj m B' hm hB'=>?_,by rw [ss];omega,?_,?_,λb o e=>?_⟩
   ·rw [upF,<-up,Yaw eB]
    dsimp only
    have e0:ms.getD i 0=ms[i]:=by simp [yat,hi']
    rw [e0,ev']
   ·rw [get_set] at hm
    split at hm
    ·rename_i e
     subst e
     rw [eB] at hB'
     cases hB'
     cases hm
     exact ⟨by omega,hv.2.1⟩
    ·exact rb j m B' hm hB'
   ·rw [ss]
    omega
   ·rw [ss]
    rcases hv.2.2.2 with h|h
    ·exact .inl (by omega)
    ·by_cases nf:Jot R wet<=ms.sum
     ·exact .inl (by omega)
     ·refine .inr λj hj B' hB'=>?_
      rw [get_set]
      split
      ·rename_i e
       subst e
       rw [eB] at hB'
       cases hB'
       rw [h]
      ·rename_i e
       rcases dj with d|d
       ·exact absurd d nf
       ·exact d j (by omega) B' hB'
   ·rw [Sz (Jmw e hF)]
    exact sT _ _ (sm _ _ e)
  ·rintro σ H1 ⟨o1,o2,o3,ms,l,rfl,hFs,up,ln,rb,sw,hl,dj,sm⟩
   have em:ms=rzF R wet ns:=by
    unfold rzF
    rw [<-blen,<-up]
   have fin:Jot R wet<=ms.sum:=by
    rcases dj with d|d
    ·exact d
    ·have e:ms=R.Bs.map (·.rn):=by
      refine List.ext_getElem? λj=>?_
      by_cases hj:j < R.Bs.length
      ·rw [d j (by omega) R.Bs[j] (yh hj),yg,yh hj]
       rfl
      ·rw [ycf (by omega),ycf (by rw [yf];omega)]
     rw [e]
     exact fl.2
   exact ⟨_,rfl,F,_,rfl,.inl ⟨Sv.of hFs,λu hu=>k u _ (sm.trans (Sj.upd hu)) (by rw [<-em];exact Sr) (by rw [<-em];exact ⟨ln,rb,sw,fin⟩)⟩⟩
theorem Sd2:Jmy ["_law_stream_here","_law_told","_law_wet","_law_found","_law_one"] ["_law_stream_here","_law_told","_law_wet"] (Jmt (top 81)):=⟨rfl,rfl,rfl,by decide +kernel,rfl,by decide +kernel,by decide +kernel⟩
theorem Jzo (T:Tx K mg a):Ss P w K mg base CX0 3 a.Jky a.Jkz ["_law_stream_here","_law_told","_law_wet"] Ydo:=by
 have Sl:=Jtl (P:=P) (w:=w) (base:=base) T
 have Sf9:=Jwo (P:=P) (w:=w) (base:=base) T
 refine T.Ja4.fn.ok Sd2 (λvs H Q E h=>?_) (λcdv A outer s H vs Q E hr h=>?_)
 ·obtain ⟨p,x,R,wet,b0,c0,rfl,_⟩:=h
  rfl
 ·obtain ⟨p,x,R,wet,b0,c0,rfl,sd,rt,rg,hw,k⟩:=h
  have st:=sd.st
  refine ⟨?t,?B,?C⟩
  case B=>
   refine' Sw ?O0 ?O1
   case O0=>exact (Jn3 (i:=3) Sd2.nd rfl (ye rfl) (Jol Sm))
   case O1=>
   refine' Sw ?O2 ?O3
   case O2=>
    refine' Jpj ?O4 ?O5 ?O6 ?O7 ?O8
    case O4=>exact PassesOwn.never
    case O5=>exact rfl
    case O6=>exact (Jo1 (Jn1 Jn9 (pv 1) So (λ_ _=>rfl)))
    case O7=>exact (Jmz (i:=4) Sd2.nd rfl (ye rfl))
    case O8=>
    refine' Sy ?O9
    case O9=>exact (Jp0 (Js0 F.plainAttrs_list F.slot_list_append F.type_list_append Joz (pv 3) (Sk (Jmv T.Js Sl hr (by decide) (Sk (pv 0) (Sk (Jn5 Jnn (Jmx (Jor rfl) (by rfl) T.Jb1 Jqn (Sk (Jn1 Jn9 (pv 4) So (λ_ _=>rfl)) (Sk (Jn5 Jo4 (pv 2) (Jmx (Jo3 rfl) (by rfl) T.Jb5 Jou (Sk (pv 3) Sm))) Sm))) So) Sm))) Sm)))
   case O3=>
   refine' Sy ?Oa
   case Oa=>exact (Jn0 (Jmv T.Ja3 Sf9 hr (by decide) (Sk (pv 1) (Sk (pv 2) (Sk (pv 3) Sm)))))
  obtain ⟨t,lb,lt,bs,ts,rfl,ht,hb,btl,htt,ttl,nb,nt⟩:=id rt
  have blen:=btl.len
  have hn:=rg.n
  refine ⟨(show 0<=S6 by decide),λF hF=>?_⟩
  have s1:=Sj.upd (o:=.lst []) hF
  have nF:F≠p:=st.ne hF
  refine ⟨_,rfl,t,_,2,_,rfl,rfl,Su.of (s1 _ _ ht),rfl,lb,rfl,⟨_,Sv.of (s1 _ _ hb)⟩,?_⟩
  refine Jtd (xs:=bs) (λi σ H'=>∃(o1:Option V) (ms:List Int),σ= [some (.ref p),some (.ref t),some (.int wet),some (.ref F),o1]/\H' F=some (.lst (ms.map V.int))/\Skm i ms/\RnB R ms/\ms.sum<=wet/\But p H H'/\ms=rnF b0 c0 wet (rsR R) i/\Sd H' p b0 (c0+i)) ?_ ?_ ?_ ?_
  ·refine ⟨_,[],rfl,Sr,⟨rfl,λm hm=>absurd hm (by simp)⟩,(λi m B h=>by simp at h),hw.1,But.of st s1,rfl,?_⟩
   rw [show c0+((0:Nat):Int)=c0 by omega]
   exact s1 _ _ sd
  ·rintro i σ H' _ ⟨_,_,_,_,_,_,_,b,_⟩
   exact Sv.of (b.1 _ _ nb hb)
  ·rintro i x σ H' hx ⟨o1,ms,rfl,hFs,q6,rb,hsum,b,em,sdi⟩
   obtain ⟨B,eB,bt⟩:=btl.get hx
   obtain ⟨tb,g,rfl,htb,gt⟩:=bt.but st b
   have bg:=(rg.Bs B (yp eB)).1
   have hi:i < R.Bs.length:=(yj.mp eB).1
   have rn:=bg.rn
   have hl:=q6.1
   have s0:0<=ms.sum:=Ydx λm hm=>(q6.2 m hm).1
   refine ⟨_,rfl,.inl ⟨rfl,_,Sv.of hFs⟩,_,rfl,_,rfl,tb,_,4,_,rfl,rfl,Su.of htb,rfl,_,rfl,_,rfl,F,ms,rfl,.inl (Sv.of hFs),q6.sml (by omega),_,_,rfl,rfl,_,_,rfl,_,_,rfl,rfl,?_⟩
   have hm:0<=(if wet - ms.sum < B.rn then wet - ms.sum else B.rn)/\(if wet - ms.sum < B.rn then wet - ms.sum else B.rn)<=6/\(if wet - ms.sum < B.rn then wet - ms.sum else B.rn)<=wet - ms.sum/\(if wet - ms.sum < B.rn then wet - ms.sum else B.rn)<=B.rn:=by
    split <;> omega
   refine ⟨p,_,b0,c0+i,rfl,sdi,by omega,Jrd (by omega),λH5 b5 sd5 v0 v1=>?_⟩
   generalize ev:tkF b0 (c0+i+1) ((if wet - ms.sum < B.rn then wet - ms.sum else B.rn)+1)=v at*
   have hF5:=b5.1 _ _ nF hFs
   refine ⟨F,_,_,rfl,rfl,hF5,by rw [yf];exact Jno (by omega),?_⟩
   refine ⟨_,ms++ [v],rfl,by rw [Sr,yab];rfl,⟨by rw [yae];show ms.length+1=i+1;omega,λm hm'=>?_⟩,λj m B' hj hB'=>?_,by rw [List.sum_append,List.sum_singleton];omega,(b.trans b5).updD hF nF,?_,?_⟩
   ·rcases ybh.mp hm' with h|h
    ·exact q6.2 m h
    ·rw [List.mem_singleton.mp h]
     exact ⟨v0,by omega⟩
   ·rw [yca] at hj
    split at hj
    ·exact rb j m B' hj hB'
    ·rename_i nj
     have ej:j=i:=by
      have:=(yj.mp hj).1
      simp at this
      omega
     subst ej
     rw [eB] at hB'
     cases hB'
     have em:v=m:=by simpa [hl] using hj
     omega
   ·rw [rnF,<-em,Yaw eB]
    show ms++ [v]=ms++ [tkF b0 (c0+i+1) ((if wet - ms.sum < B.rn then wet - ms.sum else B.rn)+1)]
    rw [ev]
   ·unfold Sd
    rw [Sz nF.symm,show c0+((i+1:Nat):Int)=c0+i+1 by omega]
    exact sd5
  ·rintro σ H1 ⟨o1,ms,rfl,hFs,q6,rb,hsum,b,em,sdi⟩
   rw [blen] at em sdi
   refine ⟨_,rfl,_,rfl,_,rfl,p,_,R,wet,F,ms,rfl,rt.but rg st b,rg,hw.1,hFs,by have:=q6.1;omega,rb,hsum,λu H2 s2 hu r6=>?_⟩
   have e2:rzF R wet ms=Jv1 b0 c0 R wet:=by unfold Jv1;rw [em]
   rw [e2] at hu r6
   exact k u H2 (b.same s2) (s2 _ _ sdi) hu r6
def LL (H H':Hp):Prop:=∀b o,H b=some o->H' b=some o\/((∃xs,o= .lst xs)/\∃ys,H' b=some (.lst ys))
theorem LL.same {H H':Hp} (s:Sj H H'):LL H H':=λb o e=>.inl (s b o e)
theorem LL.but {p:S1} {H H':Hp} (st:Sbj H p) (b:But p H H'):LL H H':=λc o e=>by
 by_cases z:c=p
 ·subst z
  obtain ⟨x,y,w',q⟩:=st
  obtain ⟨x',y',w'',q'⟩:=b.2
  rw [q] at e
  exact .inr ⟨⟨_,(yv.inj e).symm⟩,_,q'⟩
 ·exact .inl (b.1 c o z e)
theorem LL.upd {H:Hp} {l:S1} {xs ys:List V} (h:H l=some (.lst xs)):LL H (upd H l (.lst ys)):=λc o e=>by
 by_cases z:c=l
 ·subst z
  rw [h] at e
  exact .inr ⟨⟨_,(yv.inj e).symm⟩,ys,Sr⟩
 ·exact .inl (by rw [Sz z];exact e)
theorem LL.trans {H1 H2 H3:Hp} (a:LL H1 H2) (b:LL H2 H3):LL H1 H3:=λc o e=>by
 rcases a c o e with h|⟨⟨xs,rfl⟩,ys,h⟩
 ·exact b c o h
 ·rcases b c _ h with h'|⟨_,zs,h'⟩
  ·exact .inr ⟨⟨xs,rfl⟩,ys,h'⟩
  ·exact .inr ⟨⟨xs,rfl⟩,zs,h'⟩
theorem LL.get {H H':Hp} (s:LL H H') {b:S1} {o:HO} (n:∀xs,o≠ .lst xs) (e:H b=some o):H' b=some o:=by
 rcases s b o e with h|⟨⟨xs,w'⟩,_⟩
 ·exact h
 ·exact absurd w' (n xs)
theorem Jsb {p:S1} {H H':Hp} (st:Sbj H p) (b:But p H H') {c:S1} {o:HO} (g:H c=some o) (n:∀x y z:Int,o≠ .lst [.int x,.int y,.int z]):H' c=some o:=b.1 _ _ (Jpt st g n) g
theorem GS.ll {K:Se} {a:Ad} {H H':Hp} {x:V} {n:Nat} (s:LL H H') (h:GS K a H x n):GS K a H' x n:=by
 cases h with
 |plain i g l=>
  obtain ⟨dx,t,h1,h2⟩:=g
  exact .plain i ⟨dx,t,s.get (by intro _ z;cases z) h1,s.get (by intro _ z;cases z) h2⟩ l
 |stuck e=>exact .stuck (s.get (by intro _ z;cases z) e)
theorem Sby.ll {K:Se} {a:Ad} {H H':Hp} {b:S1} {B:Bsn} (s:LL H H') (h:Sby K a H b B):Sby K a H' b B:=by
 obtain ⟨dx,h1,h2⟩:=h
 exact ⟨dx,s.get (by intro _ z;cases z) h1,h2.ll s⟩
theorem Sbt.ll {a:Ad} {H H':Hp} {b:S1} {B:Twn} (s:LL H H') (h:Sbt a H b B):Sbt a H' b B:=by
 obtain ⟨dx,h1⟩:=h
 exact ⟨dx,s.get (by intro _ z;cases z) h1⟩
theorem Say.ll {K:Se} {a:Ad} {H H':Hp} {o:S1} {R:Riv} (s:LL H H') (h:Say K a H o R):Say K a H' o R:=by
 obtain ⟨dx,b,t,os,ts,h1,h2,h3,h4,h5,h6⟩:=h
 exact ⟨dx,b,t,os,ts,s.get (by intro _ z;cases z) h1,s.get (by intro _ z;cases z) h2,h3.map λ_ _ h=>h.ll s,s.get (by intro _ z;cases z) h4,h5.map λ_ _ h=>h.ll s,h6⟩
theorem Jrs {α:Type} {R:Jn4} {S:Riv} (h:Jse R S) (f:Str×Int×Int×Int×Int×Nat->α):S.Bs.map (λB=>f (Jta B))=R.Bs.map (λB=>f (Jwy B)):=by
 have e1:S.Bs.map (λB=>f (Jta B))=(S.Bs.map Jta).map f:=by rw [yav];rfl
 have e2:R.Bs.map (λB=>f (Jwy B))=(R.Bs.map Jwy).map f:=by rw [yav];rfl
 rw [e1,e2,h.Bs]
theorem Jpe {R:Jn4} {S:Riv} (h:Jse R S):S.Bs.length=R.Bs.length:=by
 have:=congrArg List.length h.Bs
 simpa using this
theorem Ju8 {R:Jn4} {S:Riv} (h:Jse R S):S.Ts.length=R.Ts.length:=by
 have:=congrArg List.length h.Ts
 simpa using this
inductive Yff (vs:List V) (H:Hp) (Q:VK) (z3:XK):Prop where
 |mk (p:S1) (x:V) (G:Jnj) (s lv:Int) (_:vs= [x,.int s,.int lv]) (_:Scu p H x G) (_:Sbd G) (_:(0<=s/\s < (nOf G:Int))) (_:(0<=lv/\lv<=1000)) (_:∀H',Sj H H'->Q (.int (lvG G s lv)) H')
inductive Yfh (vs:List V) (H:Hp) (Q:VK) (z3:XK):Prop where
 |mk (p:S1) (td:V) (R:Jn4) (S:Riv) (L:S1) (ls:List Int) (tv:V) (_:vs= [td,.ref L,tv]) (_:Sci p H td R) (_:Jp8 R) (_:Jse R S) (_:H L=some (.lst (ls.map V.int))) (_:ls.length=R.Bs.length) (_:Sko R tv) (_:∀H',Sj H H'->Q (.bl (decide (drw S ls tv > 0))) H')
theorem Sbo:Jmy ["_law_gate_here","_law_setting","_law_level","_law_kind","_law_marks","_law_stuck","_law_mark"] ["_law_gate_here","_law_setting","_law_level"] (Jmt (top 82)):=⟨rfl,rfl,rfl,by decide +kernel,rfl,by decide +kernel,by decide +kernel⟩
theorem Jzl (T:Tx K mg a):Ss P w K mg base CX0 1 a.Jl0 a.Jl1 ["_law_gate_here","_law_setting","_law_level"] Yff:=by
 refine T.Ja5.fn.ok Sbo (λvs H Q E h=>?_) (λcdv A outer s H vs Q E hr h=>?_)
 ·obtain ⟨p,x,G,s,lv,rfl,_⟩:=h
  rfl
 ·obtain ⟨p,x,G,s,lv,rfl,⟨t,m,rfl,ht,hm,_⟩,gg,hs,hl,k⟩:=h
  refine ⟨?t,?B,?C⟩
  case B=>
   refine' Sw ?O0 ?O1
   case O0=>exact (Jpi (pv 0) (Jr7 rfl (Jn7 (Jmz (i:=3) Sbo.nd rfl (ye rfl)) (Jn7 (Jmz (i:=4) Sbo.nd rfl (ye rfl)) (Jn7 (Jmz (i:=5) Sbo.nd rfl (ye rfl)) Joe)))))
   case O1=>
   refine' Sw ?O2 ?O3
   case O2=>exact (Jn3 (i:=6) Sbo.nd rfl (ye rfl) (Jn1 Jne (pv 4) (Jn1 Jne (Jol (Sk (pv 1) (Sk (pv 5) Sm))) (Jnd Jq5 (by rfl) T.Jaw Jst (Sk (Joi Jyd (pv 5) Jqd (Jni _)) Sm)) (λ_ _=>rfl)) (λ_ _=>rfl)))
   case O3=>
   refine' Sw ?O4 ?O5
   case O4=>
    refine' Jng ?O6 ?O7 ?O8
    case O6=>exact (Jnp Jqz (pv 3) Jom (Jni _))
    case O7=>
     refine' Sy ?O9
     case O9=>exact (Jn0 (Jmx (Jor rfl) (by rfl) T.Jb1 Jqn (Sk (pv 6) (Sk (pv 2) Sm))))
    case O8=>exact Jn6
   case O5=>
   refine' Sw ?Oa ?Ob
   case Oa=>
    refine' Jng ?Oc ?Od ?Oe
    case Oc=>exact (Jnp Jqz (pv 3) Jom (Jni _))
    case Od=>
     refine' Sy ?Of
     case Of=>exact (Jn0 (Jmx (Jpl rfl) (by rfl) T.Jb0 Jsu (Sk So (Sk (Jn5 Jo4 (pv 2) (pv 6)) Sm))))
    case Oe=>exact Jn6
   case Ob=>
   refine' Sy ?Og
   case Og=>exact (Jn0 (Jn5 Jr0 (pv 2) (pv 6)))
  refine ⟨_,rfl,t,_,rfl,Su.of ht,rfl,_,_,rfl,_,_,rfl,_,_,rfl,rfl,?_⟩
  have hk:=gg.kd
  have mk:=gg.marks
  obtain ⟨j,hj,ej⟩:∃j:Int,(0<=j/\j < G.ns.length)/\atI [V.int s,svV G.sv] (if (!decide (svV G.sv=V.non))=true then 1 else 0)=some (.int j)/\lvG G s lv=Jqb G.kd (G.ns.getD j.toNat 0) lv:=by
   unfold lvG
   unfold nOf at hs
   cases e:G.sv with
   |none=>
    rw [e] at hs
    exact ⟨s,hs,rfl,rfl⟩
   |some j=>exact ⟨j,gg.sv j e,rfl,rfl⟩
  obtain ⟨hat,hin⟩:=Jth hj
  have hb:=mk _ hin
  rw [ej.2] at k
  refine ⟨_,rfl,_,rfl,_,rfl,(show 2<=S6 by decide),λD hD=>⟨_,rfl,rfl,.inr ⟨_,rfl,D,_,_,_,rfl,rfl,Sv.of Sr,ej.1,m,_,_,_,rfl,rfl,Sv.of (Sj.upd hD _ _ hm),hat,?_⟩⟩⟩
  have k1:=k _ (Sj.upd (o:=.lst [.int s,svV G.sv]) hD)
  rcases hk with q|q|q
  ·rw [q] at k1
   refine ⟨_,rfl,rfl,_,rfl,Yg (by rw [q]) ⟨_,rfl,_,rfl,_,_,rfl,?_⟩⟩
   unfold Jqb at k1
   rw [if_pos rfl] at k1
   exact k1
  ·rw [q] at k1
   refine ⟨_,rfl,rfl,_,rfl,Jxy (by rw [q];exact Yc4 Juv) ⟨_,rfl,rfl,_,rfl,Yg (by rw [q]) ⟨_,rfl,_,rfl,_,_,rfl,rfl,_,_,rfl,?_⟩⟩⟩
   unfold Jqb at k1
   rw [if_neg Juv,if_pos rfl] at k1
   have e:(if lv - G.ns.getD j.toNat 0 > 0 then lv - G.ns.getD j.toNat 0 else 0)=(if 0 > lv - G.ns.getD j.toNat 0 then 0 else lv - G.ns.getD j.toNat 0):=by
    split <;> split <;> omega
   rw [<-e] at k1
   exact k1
  ·rw [q] at k1 hb
   have lo:Jpo "part" =1:=if_pos rfl
   rw [lo] at hb
   refine ⟨_,rfl,rfl,_,rfl,Jxy (by rw [q];exact Yc4 Jux) ⟨_,rfl,rfl,_,rfl,Jxy (by rw [q];exact Yc4 Juw) ⟨_,rfl,_,rfl,_,_,rfl,rfl,⟨by omega,Jrd (by omega)⟩,?_⟩⟩⟩
   unfold Jqb at k1
   rw [if_neg Jux,if_neg Juw] at k1
   exact k1
theorem Sca:Jmy ["_law_told","_law_levels","_law_town","_law_name","_law_basin_here","_law_want"] ["_law_told","_law_levels","_law_town"] (Jmt (top 83)):=⟨rfl,rfl,rfl,by decide +kernel,rfl,by decide +kernel,by decide +kernel⟩
theorem Jzn (T:Tx K mg a):Ss P w K mg base CX0 1 a.Jl2 a.Jl3 ["_law_told","_law_levels","_law_town"] Yfh:=by
 refine T.Ja6.fn.ok Sca (λvs H Q E h=>?_) (λcdv A outer s H vs Q E hr h=>?_)
 ·obtain ⟨p,td,R,S,L,ls,tv,rfl,_⟩:=h
  rfl
 ·obtain ⟨p,td,R,S,L,ls,tv,rfl,rt,rg,lk,hL,ln,tw,k⟩:=h
  refine ⟨?t,?B,?C⟩
  case B=>
   refine' Sw ?O0 ?O1
   case O0=>
    refine' Jng ?O2 ?O3 ?O4
    case O2=>exact (Jnp Jyc (pv 2) Jqd (Jni _))
    case O3=>
     refine' Sy ?O5
     case O5=>exact (Jn0 Jov)
    case O4=>exact Jn6
   case O1=>
   refine' Sw ?O6 ?O7
   case O6=>exact (Jpi (Jn1 Jne (Jn1 Jn9 (pv 0) So (λ_ _=>rfl)) (pv 2) (λ_ _=>rfl)) (Jr7 rfl (Jn7 (Jmz (i:=3) Sca.nd rfl (ye rfl)) (Jn7 (Jmz (i:=4) Sca.nd rfl (ye rfl)) (Jn7 (Jmz (i:=5) Sca.nd rfl (ye rfl)) Joe)))))
   case O7=>
   refine' Sy ?O8
   case O8=>exact (Jn0 (Joi Slr (Jn1 Jne (pv 1) (Js0 F.plainAttrs_list F.slot_list_index F.type_list_index Jzc (Jnm (N:=(["_law_one"]:List Str)) (ini:=[none]) rfl (Jo1 (Jn1 Jn9 (pv 0) So (λ_ _=>rfl))) (λ_ _ _ _ _=>(Jmz (i:=0) (by decide +kernel:(["_law_one"]:List Str).Nodup) rfl (ye rfl))) (λ_ _ _ _ _=>Jnk) (λ_ _ _ _ _=>(Jn1 (Jog (K:=K) rfl) (pv 0) So (λ_ _=>rfl)))) (Sk (pv 4) Sm)) (λ_ _=>rfl)) (pv 5) (Jni _)))
  obtain ⟨t,lb,lt,bs,ts,rfl,ht,hb,btl,htt,ttl,nb,nt⟩:=id rt
  have blen:=btl.len
  have tlen:=ttl.len
  have hn:=rg.n
  rcases tw with rfl|⟨j,rfl,j0,j1⟩
  ·refine ⟨_,rfl,rfl,_,rfl,Yg rfl ?_⟩
   have k1:=k _ (Sj.refl H)
   exact k1
  ·obtain ⟨i,rfl⟩:=ybm j0
   have hi:i < R.Ts.length:=by omega
   have hit:i < ts.length:=by omega
   obtain ⟨C,eC,tc,ec,htc⟩:=ttl.get (i:=i) (x:=ts[i]) (yh hit)
   have hat:atI ts (i:Int)=some (.ref tc):=Jq0 (by rw [yh hit,ec])
   have hC:=rg.Ts C (yp eC)
   refine ⟨_,rfl,rfl,_,rfl,Jxy (λz=>by cases z) ?_⟩
   refine ⟨_,rfl,t,_,3,_,rfl,rfl,Su.of ht,rfl,_,rfl,lt,_,_,_,rfl,rfl,Sv.of htt,hat,tc,_,rfl,Su.of htc,rfl,_,_,rfl,_,_,rfl,_,_,rfl,rfl,?_⟩
   refine ⟨_,rfl,_,rfl,t,_,2,_,rfl,rfl,Su.of ht,rfl,lb,rfl,⟨_,Sv.of hb⟩,λD hD=>?_⟩
   refine Jp4 ((R.Bs.map (·.z)).map V.str) hD (by simp [blen]) (by omega) hb ?_ ?_
   ·intro i x y H' Q' hx hy sm k'
    obtain ⟨B,eB,tb,g,rfl,htb,gt⟩:=btl.get hx
    rw [yg,yg,eB] at hy
    cases hy
    exact ⟨_,rfl,tb,_,0,_,rfl,rfl,Su.of (sm _ _ htb),rfl,k' _ λ_ _ h=>h⟩
   intro H1 s1 hD1
   have hz:S.Bs.map (·.z)=R.Bs.map (·.z):=Jrs lk (·.1)
   have pl:plc S C.b < ls.length:=by
    have:=Jw5 (S:=S) (z:=C.b) (by rw [hz];exact hC.2.2.1)
    rw [Jpe lk] at this
    omega
   have ep:((R.Bs.map (·.z)).idxOf C.b:Nat)=plc S C.b:=by unfold plc;rw [hz]
   refine ⟨.inl ⟨rfl,_,Sv.of hD1⟩,_,rfl,D,_,C.b,rfl,rfl,hD1,hC.2.2.1,?_⟩
   rw [ep]
   refine ⟨L,_,_,_,rfl,rfl,Sv.of (s1 _ _ hL),Jsc pl,_,rfl,_,_,rfl,rfl,?_⟩
   have k1:=k _ s1
   have ed:decide (drw S ls (.int (i:Int)) > 0)=decide (C.wt<=ls.getD (plc S C.b) 0):=by
    have eT:(S.Ts.map (λB=>(B.z,B.b,B.wt)))[i]?=some (C.z,C.b,C.wt):=by rw [lk.Ts,yg,eC];rfl
    rw [yg] at eT
    obtain ⟨W,hW,eW⟩:=yw.mp eT
    have e1:W.b=C.b:=congrArg (·.2.1) eW
    have e2:W.wt=C.wt:=congrArg (·.2.2) eW
    have e3:drw S ls (.int (i:Int))=if ls.getD (plc S C.b) 0≥C.wt then C.wt else 0:=by
     show (match S.Ts[(i:Int).toNat]? with|some T=>_|none=>_)=_
     rw [ybl,hW]
     show (if ls.getD (plc S W.b) 0≥W.wt then W.wt else 0)=_
     rw [e1,e2]
    rw [e3]
    by_cases q:C.wt<=ls.getD (plc S C.b) 0
    ·rw [if_pos q,decide_eq_true q,decide_eq_true (by omega)]
    ·rw [if_neg q,decide_eq_false q]
     rfl
   rw [ed] at k1
   exact k1
def Spt (H:Hp) (y:V) (S:Riv) (Gs:List Jnj) (ls cs:List Int) (wt:Int) (tv:V) (rn:List Int):Prop:=∃t u1 u2 u3:S1,y= .ref t/\H t=some (.tup [.ref u1,.int (Jtw S wt rn),.ref u2,.int (drw S ls tv),.bl (decide (drw S ls tv > 0)),.ref u3])/\H u1=some (.tup ((Jpw S Gs ls cs tv rn).map V.int))/\H u2=some (.tup ((Jpg S Gs ls cs tv).map V.int))/\H u3=some (.tup ((Joq 0 S.Bs (Jpw S Gs ls cs tv rn)).map V.int))
structure Sj3 (p:S1) (H:Hp) (td:V) (R:Jn4) (S:Riv) (x c:V) (ls cs:List Int) (wt:Int) (tv:V) (ra:S1) (rn:List Int):Prop where
 rt:Sci p H td R
 rg:Jp8 R
 lk:Jse R S
 st:StA H x S ls wt
 ch:ChA H c S cs tv
 hr:H ra=some (.tup (rn.map V.int))
 rl:rn.length=S.Bs.length
 sm:Sml rn
 so:Sb1 (R.Bs.map (·.G)) cs (lft S ls tv)
theorem Sj3.same {p:S1} {H H':Hp} {td:V} {R:Jn4} {S:Riv} {x c:V} {ls cs:List Int} {wt:Int} {tv:V} {ra:S1} {rn:List Int} (s:Sj H H') (h:Sj3 p H td R S x c ls cs wt tv ra rn):Sj3 p H' td R S x c ls cs wt tv ra rn:=⟨h.rt.same h.rg s,h.rg,h.lk,h.st.same s,h.ch.same s,s _ _ h.hr,h.rl,h.sm,h.so⟩
inductive Yc0 (vs:List V) (H:Hp) (Q:VK) (z3:XK):Prop where
 |mk (p:S1) (td:V) (R:Jn4) (S:Riv) (x c:V) (ls cs:List Int) (wt:Int) (tv:V) (ra:S1) (rn:List Int) (_:vs= [td,x,c,.ref ra]) (_:Sj3 p H td R S x c ls cs wt tv ra rn) (_:∀y H',Sj H H'->Spt H' y S (R.Bs.map (·.G)) ls cs wt tv rn->Q y H')
theorem Shy.told {R:Jn4} {S:Riv} {tv:V} (lk:Jse R S) (h:Shy S tv):Sko R tv:=by
 rcases h with h|⟨j,h,j0,j1⟩
 ·exact .inl h
 ·exact .inr ⟨j,h,j0,by rw [<-Ju8 lk];exact j1⟩
theorem Jqr {α:Type}:∀{a b:List α} {i:Nat} {v:α},a.length=b.length->a[i]?=some v->(a.take i++b.drop i).set i v=a.take (i+1)++b.drop (i+1)
 |x::a,y::b,0,v,_,h=>by
  cases h
  rfl
 |x::a,y::b,i+1,v,e,h=>by
  have ih:=Jqr (a:=a) (b:=b) (i:=i) (v:=v) (by simpa using e) (by simpa using h)
  show x::(a.take i++b.drop i).set i v=x::(a.take (i+1)++b.drop (i+1))
  rw [ih]
 | [],_,_,_,_,h=>by simp at h
 |_::_,[],_,_,e,_=>by simp at e
theorem Jts {α:Type}:∀{a b:List α} {i:Nat},a.length=b.length->(a.take i++b.drop i)[i]?=b[i]?
 | [],[],_,_=>by simp
 |x::a,y::b,0,_=>rfl
 |x::a,y::b,i+1,e=>by
  have ih:=Jts (a:=a) (b:=b) (i:=i) (by simpa using e)
  show (x::(a.take i++b.drop i))[i+1]?=(y::b)[i+1]?
  simpa using ih
 | [],_::_,_,e=>by simp at e
 |_::_,[],_,e=>by simp at e
theorem Sol {R:Jn4} {S:Riv} (lk:Jse R S) (rg:Jp8 R):TIn S:=λT hT=>by
 have hz:S.Bs.map (·.z)=R.Bs.map (·.z):=Jrs lk (·.1)
 have:(T.z,T.b,T.wt)∈R.Ts.map (λB=>(B.z,B.b,B.wt)):=by rw [<-lk.Ts];exact yau (f:=λB:Twn=>(B.z,B.b,B.wt)) hT
 obtain ⟨C,hC,e⟩:=yaf.mp this
 have q:=rg.Ts C hC
 have e2:C.b=T.b:=congrArg (·.2.1) e
 have e3:C.wt=T.wt:=congrArg (·.2.2) e
 rw [hz,<-e2,<-e3]
 exact ⟨q.2.2.1,q.2.2.2.1,q.2.2.2.2⟩
theorem Sa1:Jmy ["_law_told","_law_standing_here","_law_choice_here","_law_rain_here","_law_levels","_law_paid","_law_drawn","_law_name","_law_basin_here","_law_place","_law_outs","_law_k","_law_broken","_law_wet"] ["_law_told","_law_standing_here","_law_choice_here","_law_rain_here"] (Jmt (top 84)):=⟨rfl,rfl,rfl,by decide +kernel,rfl,by decide +kernel,by decide +kernel⟩
theorem Jsr (T:Tx K mg a):Ss P w K mg base CX0 2 a.Jl4 a.Jl5 ["_law_told","_law_standing_here","_law_choice_here","_law_rain_here"] Yc0:=by
 have Sgj:=Jzn (P:=P) (w:=w) (base:=base) T
 have Sgh:=Jzl (P:=P) (w:=w) (base:=base) T
 refine T.Ja7.fn.ok Sa1 (λvs H Q E h=>?_) (λcdv A outer s H vs Q E hr h=>?_)
 ·obtain ⟨p,td,R,S,x,c,ls,cs,wt,tv,ra,rn,rfl,_⟩:=h
  rfl
 ·obtain ⟨p,td,R,S,x,c,ls,cs,wt,tv,ra,rn,rfl,li,k⟩:=h
  refine ⟨?t,?B,?C⟩
  case B=>
   refine' Sw ?O0 ?O1
   case O0=>exact (Jn3 (i:=4) Sa1.nd rfl (Or.inr rfl) (Jnd Jox (by rfl) T.Jaz Jq1 (Sk (Jn1 Jn9 (pv 1) So (λ_ _=>rfl)) Sm)))
   case O1=>
   refine' Sw ?O2 ?O3
   case O2=>exact (Jn3 (i:=5) Sa1.nd rfl (ye rfl) (Jmv T.Ja6 Sgj hr (by decide) (Sk (pv 0) (Sk (pv 4) (Sk (Jn1 Jn9 (pv 2) So (λ_ _=>rfl)) Sm)))))
   case O3=>
   refine' Sw ?O4 ?O5
   case O4=>exact (Jn3 (i:=6) Sa1.nd rfl (ye rfl) So)
   case O5=>
   refine' Sw ?O6 ?O7
   case O6=>
    refine' Jng ?O8 ?O9 ?Oa
    case O8=>exact (Ydb (pv 5) (λ_=>rfl))
    case O9=>
     refine' Sw ?Ob ?Oc
     case Ob=>exact (Jpi (Jn1 Jne (Jn1 Jn9 (pv 0) So (λ_ _=>rfl)) (Jn1 Jn9 (pv 2) So (λ_ _=>rfl)) (λ_ _=>rfl)) (Jr7 rfl (Jn7 (Jmz (i:=7) Sa1.nd rfl (ye rfl)) (Jn7 (Jmz (i:=8) Sa1.nd rfl (ye rfl)) (Jn7 (Jmz (i:=6) Sa1.nd rfl (ye rfl)) Joe)))))
     case Oc=>
     refine' Sw ?Od ?Oe
     case Od=>exact (Jn3 (i:=9) Sa1.nd rfl (ye rfl) (Js0 F.plainAttrs_list F.slot_list_index F.type_list_index Jzc (Jnm (N:=(["_law_one"]:List Str)) (ini:=[none]) rfl (Jo1 (Jn1 Jn9 (pv 0) So (λ_ _=>rfl))) (λ_ _ _ _ _=>(Jmz (i:=0) (by decide +kernel:(["_law_one"]:List Str).Nodup) rfl (ye rfl))) (λ_ _ _ _ _=>Jnk) (λ_ _ _ _ _=>(Jn1 (Jog (K:=K) rfl) (pv 0) So (λ_ _=>rfl)))) (Sk (pv 8) Sm)))
     case Oe=>
     refine' Sy ?Of
     case Of=>exact (Jpi (Jn5 Jo4 (Jn1 Jne (pv 4) (pv 9) (λ_ _=>rfl)) (pv 6)) (Js1 (pv 4) (pv 9) Jpk))
    case Oa=>exact Jn6
   case O7=>
   refine' Sw ?Og ?Oh
   case Og=>exact (Jyh (i:=10) (N:=(["_law_one","_law_setting","_law_level"]:List Str)) (ini:=[none,none,none]) Sa1.nd rfl (ye rfl) rfl (Jyg false true false (by rfl) T.Jb7 (Sk (Jn1 Jn9 (pv 0) So (λ_ _=>rfl)) (Sk (Jn1 Jn9 (pv 2) So (λ_ _=>rfl)) (Sk (pv 4) Sm)))) (λ_ _ _ _ _=>(Jqj (K:=K) (n:=3) rfl rfl (Jn7 (Jmz (i:=0) (by decide +kernel:(["_law_one","_law_setting","_law_level"]:List Str).Nodup) rfl (ye rfl)) (Jn7 (Jmz (i:=1) (by decide +kernel:(["_law_one","_law_setting","_law_level"]:List Str).Nodup) rfl (ye rfl)) (Jn7 (Jmz (i:=2) (by decide +kernel:(["_law_one","_law_setting","_law_level"]:List Str).Nodup) rfl (ye rfl)) Joe))))) (λ_ _ _ _ _=>Jnk) (λ_ _ _ _ _=>(Jmv T.Ja5 Sgh hr (by decide) (Sk (Jn1 (Jog (K:=K) rfl) (pv 0) So (λ_ _=>rfl)) (Sk (pv 1) (Sk (pv 2) Sm))))))
   case Oh=>
   refine' Sw ?Oi ?Oj
   case Oi=>
    refine' Jpj ?Ok ?Ol ?Om ?On ?Oo
    case Ok=>exact PassesOwn.never
    case Ol=>exact rfl
    case Om=>exact (Jpc (by rfl) T.Jb2 (Sk (Jmx Jn8 (by rfl) T.Jay Jnz (Sk (pv 4) Sm)) Sm))
    case On=>exact (Jmz (i:=11) Sa1.nd rfl (ye rfl))
    case Oo=>
    refine' Sw ?Op ?Oq
    case Op=>exact (Jpi (Jn5 Jnn (Jn5 Jo4 (Jn1 Jne (pv 4) (pv 11) (λ_ _=>rfl)) (Jn1 Jne (pv 10) (pv 11) (λ_ _=>rfl))) (Jn1 Jn9 (pv 3) (pv 11) (λ_ _=>rfl))) (Js1 (pv 4) (pv 11) Jpk))
    case Oq=>
    refine' Sy ?Or
    case Or=>
    refine' Jng ?Os ?Ot ?Ou
    case Os=>exact (Jnp Jrf (pv 11) So (Jni _))
    case Ot=>
     refine' Sy ?Ov
     case Ov=>exact (Jpi (Jn5 Jnn (Jn1 Jne (pv 4) (pv 11) (λ_ _=>rfl)) (Jn1 Jne (pv 10) (Jn5 Jo4 (pv 11) So) (λ_ _=>rfl))) (Js1 (pv 4) (pv 11) Jpk))
    case Ou=>exact Jn6
   case Oj=>
   refine' Sw ?Ow ?Ox
   case Ow=>exact (Jyh (i:=12) (N:=(["_law_k","_law_one","_law_levels"]:List Str)) (ini:=[none,none,some 4]) Sa1.nd rfl (ye rfl) rfl (Yat (by rfl) T.Jav (Sk (Jn1 Jn9 (pv 0) So (λ_ _=>rfl)) Sm)) (λ_ _ _ _ _=>(Jqj (K:=K) (n:=2) rfl rfl (Jn7 (Jmz (i:=0) (by decide +kernel:(["_law_k","_law_one","_law_levels"]:List Str).Nodup) rfl (ye rfl)) (Jn7 (Jmz (i:=1) (by decide +kernel:(["_law_k","_law_one","_law_levels"]:List Str).Nodup) rfl (ye rfl)) Joe)))) (λ_ _ _ _ _=>(Yau (PW.pt (Jri (Jnp Yaq (Jn1 (Jza (K:=K) rfl) (pv 2) (pv 0) (λ_ _=>rfl)) (Jn1 (Jog (K:=K) rfl) (pv 1) So (λ_ _=>rfl)) (Jni _)) (Jqf (Jnp Jrf (Jn1 (Jza (K:=K) rfl) (pv 2) (pv 0) (λ_ _=>rfl)) (Jn1 (Jog (K:=K) rfl) (pv 1) So (λ_ _=>rfl)) (Jni _))))))) (λ_ _ _ _ _=>(pv 0)))
   case Ox=>
   refine' Sw ?Oy ?Oz
   case Oy=>exact (Jn3 (i:=13) Sa1.nd rfl (ye rfl) (Jmx (Jor rfl) (by rfl) T.Jb1 Jqn (Sk (Jn1 Jn9 (pv 0) So (λ_ _=>rfl)) (Sk (Jn5 Jnn (Jn5 Jo4 (Jn1 Jn9 (pv 1) So (λ_ _=>rfl)) (Jmx (Jo3 rfl) (by rfl) T.Jb5 Jou (Sk (pv 3) Sm))) (Jn1 Jn9 (pv 0) So (λ_ _=>rfl))) Sm))))
   case Oz=>
   refine' Sy ?U0
   case U0=>
   refine' Jn0 ?U1
   case U1=>
   refine' Jo8 ?U2
   case U2=>
   refine' pa6 ?U3 ?U4 ?U5 ?U6 ?U7 ?U8
   case U3=>exact (Jnd Jnl (by rfl) T.Jb6 Jnq (Sk (pv 4) Sm))
   case U4=>exact (pv 13)
   case U5=>exact (Jnd Jnl (by rfl) T.Jb6 Jnq (Sk (pv 10) Sm))
   case U6=>exact (pv 6)
   case U7=>exact (pv 5)
   case U8=>exact (Jnd Jnl (by rfl) T.Jb6 Jnq (Sk (pv 12) Sm))
  obtain ⟨y,yu,rfl,hy,hyu,ly⟩:=li.st
  obtain ⟨z,zu,rfl,hz,hzu,lz,tw⟩:=li.ch
  obtain ⟨t,lb,lt,bs,ts,rfl,ht,hb,btl,htt,ttl,nb,nt⟩:=id li.rt
  have rg:=li.rg
  have lk:=li.lk
  have blen:=btl.len
  have tlen:=ttl.len
  have hn:=rg.n
  have sl:=Jpe lk
  refine ⟨_,rfl,y,_,0,_,rfl,rfl,Su.of hy,rfl,yu,_,rfl,.inr (Su.of hyu),λL hL=>?_⟩
  have s1:=Sj.upd (o:=.lst (ls.map V.int)) hL
  have li1:=li.same s1
  refine ⟨_,rfl,_,rfl,_,rfl,z,_,1,_,rfl,rfl,Su.of (s1 _ _ hz),rfl,p,_,R,S,L,ls,tv,rfl,li1.rt,rg,lk,Sr,by omega,tw.told lk,λH2 s2=>?_⟩
  have s12:=s1.trans s2
  have hL2:=s2 _ _ (Sr (H:=H) (a:=L) (o:=.lst (ls.map V.int)))
  dsimp only [Jpa]
  refine Jql (λσ H1=>σ= [some (.ref t),some (.ref y),some (.ref z),some (.ref ra),some (.ref L),some (.bl (decide (drw S ls tv > 0))),some (.int 0),none,none,none,none,none,none,none]/\H1=H2) (λR' hR=>hR _ _ ⟨rfl,rfl⟩) ?_
  rintro σ H1' ⟨rfl,rfl⟩
  refine Jql (λσ H1=>∃o7 o8 o9 o10 o11 o12 o13,σ= [some (.ref t),some (.ref y),some (.ref z),some (.ref ra),some (.ref L),some (.bl (decide (drw S ls tv > 0))),some (.int (drw S ls tv)),o7,o8,o9,o10,o11,o12,o13]/\H1 L=some (.lst ((lft S ls tv).map V.int))/\Sj H H1) (λR' hR=>?_) ?_
  ·refine ⟨_,rfl,_,rfl,?_⟩
   by_cases hd:drw S ls tv > 0
   ·refine ifT (decide_eq_true hd) ?_
    obtain ⟨j,rfl,j0,j1⟩:∃j:Int,tv= .int j/\0<=j/\j < S.Ts.length:=by
     rcases tw with rfl|h
     ·exact absurd (show (0:Int) > 0 from hd) (by decide)
     ·exact h
    obtain ⟨i,rfl⟩:=ybm j0
    have tl:=Ju8 lk
    have hi:i < R.Ts.length:=by omega
    have hit:i < ts.length:=by omega
    obtain ⟨C,eC,tc,ec,htc⟩:=ttl.get (i:=i) (x:=ts[i]) (yh hit)
    have hat:atI ts (i:Int)=some (.ref tc):=Jq0 (by rw [yh hit,ec])
    have hC:=rg.Ts C (yp eC)
    have hzn:S.Bs.map (·.z)=R.Bs.map (·.z):=Jrs lk (·.1)
    have eT:(S.Ts.map (λB=>(B.z,B.b,B.wt)))[i]?=some (C.z,C.b,C.wt):=by rw [lk.Ts,yg,eC];rfl
    rw [yg] at eT
    obtain ⟨W,hW,eW⟩:=yw.mp eT
    have e1:W.b=C.b:=congrArg (·.2.1) eW
    have e2:W.wt=C.wt:=congrArg (·.2.2) eW
    have e3:drw S ls (.int (i:Int))=if ls.getD (plc S C.b) 0≥C.wt then C.wt else 0:=by
     show (match S.Ts[(i:Int).toNat]? with|some T=>_|none=>_)=_
     rw [ybl,hW]
     show (if ls.getD (plc S W.b) 0≥W.wt then W.wt else 0)=_
     rw [e1,e2]
    have e4:drw S ls (.int (i:Int))=C.wt:=by
     rw [e3] at hd⊢
     split at hd
     ·rename_i q
      rw [if_pos q]
     ·exact absurd hd (by decide)
    have e5:Jt0 S (.int (i:Int))=plc S C.b:=by
     show (match S.Ts[(i:Int).toNat]? with|some T=>_|none=>_)=_
     rw [ybl,hW]
     show plc S W.b=_
     rw [e1]
    have pl:plc S C.b < ls.length:=by
     have:=Jw5 (S:=S) (z:=C.b) (by rw [hzn];exact hC.2.2.1)
     omega
    have ep:((R.Bs.map (·.z)).idxOf C.b:Nat)=plc S C.b:=by unfold plc;rw [hzn]
    refine ⟨_,rfl,t,_,3,_,rfl,rfl,Su.of (s12 _ _ ht),rfl,_,rfl,z,_,1,_,rfl,rfl,Su.of (s12 _ _ hz),rfl,lt,_,_,_,rfl,rfl,Sv.of (s12 _ _ htt),hat,tc,_,rfl,Su.of (s12 _ _ htc),rfl,_,_,rfl,_,_,rfl,_,_,rfl,rfl,?_⟩
    refine ⟨_,rfl,t,_,2,_,rfl,rfl,Su.of (s12 _ _ ht),rfl,lb,rfl,⟨_,Sv.of (s12 _ _ hb)⟩,λD hD=>?_⟩
    refine Jp4 ((R.Bs.map (·.z)).map V.str) hD (by simp [blen]) (by omega) (s12 _ _ hb) ?_ ?_
    ·intro i x y H' Q' hx hy sm k'
     obtain ⟨B,eB,tb,g,rfl,htb,gt⟩:=btl.get hx
     rw [yg,yg,eB] at hy
     cases hy
     exact ⟨_,rfl,tb,_,0,_,rfl,rfl,Su.of (sm _ _ (s12 _ _ htb)),rfl,k' _ λ_ _ h=>h⟩
    intro H3 s3 hD3
    refine ⟨.inl ⟨rfl,_,Sv.of hD3⟩,_,rfl,D,_,C.b,rfl,rfl,hD3,hC.2.2.1,?_⟩
    rw [ep]
    have hL3:=s3 _ _ hL2
    have hix:ixN (ls.map V.int).length ((plc S C.b:Nat):Int)=some (plc S C.b):=by
     unfold ixN
     rw [if_pos (by omega),if_pos (by rw [yf];omega)]
     rfl
    refine ⟨_,rfl,_,rfl,L,_,_,_,rfl,rfl,Sv.of hL3,Jsc pl,_,rfl,_,_,rfl,rfl,_,rfl,_,rfl,L,_,_,_,rfl,rfl,hL3,hix,hR _ _ ⟨some (.str C.z),some (.str C.b),some (.int (plc S C.b)),none,none,none,none,?_,?_,?_⟩⟩
    ·rw [e4]
     rfl
    ·rw [Sr]
     unfold lft
     rw [if_pos hd,e5,e4,List.map_set]
    ·intro b o e
     rw [Sz (Jmw e hL)]
     exact s3 _ _ (s12 _ _ e)
   ·refine ifF (decide_eq_false hd) (hR _ _ ⟨none,none,none,none,none,none,none,?_,?_,s12⟩)
    ·have:=(Jxt (S:=S) (ls:=ls) (tv:=tv) (Sol lk rg)).1
     have e:drw S ls tv=0:=by omega
     rw [e]
    ·have e:lft S ls tv=ls:=if_neg hd
     rw [e]
     exact hL2
  ·rintro σ H3 ⟨o7,o8,o9,o10,o11,o12,o13,rfl,hL3,s3⟩
   have li3:=li.same s3
   have sol:=li.so.len
   have gl:(R.Bs.map (·.G)).length=R.Bs.length:=yf ..
   refine ⟨_,rfl,t,_,2,_,rfl,rfl,Su.of (s3 _ _ ht),rfl,_,rfl,z,_,0,_,rfl,rfl,Su.of (s3 _ _ hz),rfl,_,rfl,lb,zu,L,rfl,⟨_,Sv.of (s3 _ _ hb)⟩,⟨_,Su.of (s3 _ _ hzu)⟩,⟨_,Sv.of hL3⟩,λD hD=>?_⟩
   have sD:=Sj.upd (o:=.lst []) hD
   refine Ju4 (K:=K) (l1:=lb) (l2:=zu) (l3:=L) (b1:=false) (b2:=true) (b3:=false) (xs:=bs) (ys:=cs.map V.int) (us:=(lft S ls tv).map V.int) (D:=D) (λi σ H'=>(∃o1 o2 o3,σ= [o1,o2,o3])/\H' D=some (.lst (((Jpg S (R.Bs.map (·.G)) ls cs tv).take i).map V.int))/\Sj H3 H') ⟨⟨_,_,_,rfl⟩,Sr,sD⟩ (λi σ H' _ ⟨_,_,sm⟩=>⟨Sv.of (sm _ _ (s3 _ _ hb)),Su.of (sm _ _ (s3 _ _ hzu)),Sv.of (sm _ _ hL3)⟩) (by rw [yf];omega) (by rw [yf];omega) ?_ ?_
   ·rintro i x y' u σ H' Ta hx hy hu ⟨⟨p1,p2,p3,rfl⟩,hDs,sm⟩ hT
    obtain ⟨B,eB,tb,g,rfl,htb,gt⟩:=btl.get hx
    rw [yg] at hy hu
    obtain ⟨c,hc,rfl⟩:=yw.mp hy
    obtain ⟨lv,hlv,rfl⟩:=yw.mp hu
    have hG:(R.Bs.map (·.G))[i]?=some B.G:=by rw [yg,eB];rfl
    obtain ⟨gg,hs,hl'⟩:=li.so.get hG hc hlv
    have sT:=Sj.upd (o:=.tup [.ref tb,.int c,.int lv]) hT
    have s4:=(s3.trans sm).trans sT
    refine Yb2 (Su.of Sr) ⟨_,rfl,tb,_,5,_,rfl,rfl,Su.of (s4 _ _ htb),rfl,_,rfl,_,rfl,p,g,B.G,c,lv,rfl,gt.same s4,gg,hs,hl',λH5 s5=>⟨_,s5 _ _ (sT _ _ hDs),?_,⟨_,_,_,rfl⟩,?_,?_⟩⟩
    ·rw [yf,yy]
     have hi:i < bs.length:=(yj.mp hx).1
     exact Jno (by omega)
    ·rw [Sr,yag]
     unfold Jpg
     rw [Juf hG hc hlv]
     simp
    ·intro c o z
     rw [Sz (Jmw z hD)]
     exact s5 _ _ (sT _ _ (sm _ _ z))
   rintro σ' H4 ⟨_,hDs,sm⟩
   have el:(lft S ls tv).length=S.Bs.length:=by rw [Jtg];exact ly
   have eo:(Jpg S (R.Bs.map (·.G)) ls cs tv).length=S.Bs.length:=by unfold Jpg;rw [Jq6 sol.1 sol.2];omega
   have rl:=li.rl
   have e8:(Jpw S (R.Bs.map (·.G)) ls cs tv rn).length=S.Bs.length:=by unfold Jpw;rw [Jrq (by omega) (by omega)];exact el
   rw [yac (by omega)] at hDs
   have s4:=s3.trans sm
   have hL4:=sm _ _ hL3
   generalize hGs:R.Bs.map (·.G)=Gs at*
   generalize hlf:lft S ls tv=lf at*
   have elv:Jpw S Gs ls cs tv rn=Jrp 0 lf (Jpg S Gs ls cs tv) rn:=by unfold Jpw;rw [hlf]
   generalize hlv:Jpw S Gs ls cs tv rn=lvv at*
   generalize hos:Jpg S Gs ls cs tv=os at*
   refine ⟨_,rfl,L,_,rfl,.inl (Sv.of hL4),_,rfl,by rw [yf];omega,by rw [yf];omega,?_⟩
   refine Jpn (λi σ H'=>∃p11,σ= [some (.ref t),some (.ref y),some (.ref z),some (.ref ra),some (.ref L),some (.bl (decide (drw S ls tv > 0))),some (.int (drw S ls tv)),o7,o8,o9,some (.ref D),p11,o12,o13]/\H' L=some (.lst ((lvv.take i++lf.drop i).map V.int))/\H' D=some (.lst (os.map V.int))/\Sj H H') ⟨_,rfl,by simpa using hL4,hDs,s4⟩ ?_ ?_
   ·rintro i σ H5 hi ⟨p11,rfl,hL5,hD5,s5⟩
    have hi':i < lf.length:=by rw [yf] at hi;omega
    have e0:(0:Int)+(i:Int)=(i:Int):=by omega
    have clen:(lvv.take i++lf.drop i).length=lf.length:=by rw [yae,yy,List.length_drop];omega
    have cat:(lvv.take i++lf.drop i)[i]?=some lf[i]:=by rw [Jts (by omega)];exact yh hi'
    have a1:atI ((lvv.take i++lf.drop i).map V.int) ((0:Int)+(i:Int))=some (.int lf[i]):=by rw [e0];exact Jq0 (by rw [yg,cat];rfl)
    have hio:i < os.length:=by omega
    have hir:i < rn.length:=by omega
    have a2:atI (os.map V.int) ((0:Int)+(i:Int))=some (.int os[i]):=by rw [e0];exact Jps hio
    have a3:atI (rn.map V.int) ((0:Int)+(i:Int))=some (.int rn[i]):=by rw [e0];exact Jps hir
    have hix:∀{ms:List Int},ms.length=lf.length->ixN (ms.map V.int).length ((0:Int)+(i:Int))=some i:=λe=>by
     rw [e0]
     unfold ixN
     rw [if_pos (by omega),if_pos (by rw [yf];omega)]
     rfl
    have keep:∀{Ha:Hp} {ob:HO},Sj H Ha->Sj H (upd Ha L ob):=λs b oo e=>by rw [Sz (Jmw e hL)];exact s _ _ e
    have nDL:D≠L:=λe=>by rw [e,hL3] at hD;cases hD
    refine ⟨_,rfl,_,rfl,L,_,_,_,rfl,rfl,Sv.of hL5,a1,_,rfl,_,rfl,D,_,_,_,rfl,rfl,Sv.of hD5,a2,_,_,rfl,rfl,_,rfl,_,rfl,ra,_,_,_,rfl,rfl,Su.of (s5 _ _ li.hr),a3,_,_,rfl,rfl,?_⟩
    refine ⟨_,rfl,_,rfl,L,_,_,_,rfl,rfl,hL5,hix clen,?_⟩
    refine ⟨_,rfl,_,_,rfl,rfl,_,rfl,?_⟩
    have hf:∀f:Int,((0:Int)::os)[i]?=some f->lvv[i]?=some (lf[i] - os[i]+f+rn[i]):=λf h=>by
     rw [elv]
     exact Jvj (yh hi') (yh hio) h (yh hir)
    by_cases h0:(0:Int) < 0+(i:Int)
    ·refine ifT (decide_eq_true h0) ?_
     have hp:i - 1 < os.length:=by omega
     have fv:((0:Int)::os)[i]?=some os[i - 1]:=by
      cases i with
      |zero=>exact absurd h0 (by decide)
      |succ n=>simp
     have a4:atI (((lvv.take i++lf.drop i).map V.int).set i (.int (lf[i] - os[i]+rn[i]))) ((0:Int)+(i:Int))=some (.int (lf[i] - os[i]+rn[i])):=by
      rw [e0]
      refine Jq0 ?_
      rw [List.getElem?_set,if_pos rfl,if_pos (by rw [yf];omega)]
     have a5:atI (os.map V.int) ((0:Int)+(i:Int) - 1)=some (.int os[i - 1]):=by
      rw [show (0:Int)+(i:Int) - 1=((i - 1:Nat):Int) by omega]
      exact Jps hp
     have hix2:ixN (((lvv.take i++lf.drop i).map V.int).set i (.int (lf[i] - os[i]+rn[i]))).length ((0:Int)+(i:Int))=some i:=by
      rw [List.length_set]
      exact hix clen
     refine ⟨_,rfl,_,rfl,L,_,_,_,rfl,rfl,Sv.of Sr,a4,_,rfl,_,rfl,_,_,rfl,rfl,D,_,_,_,rfl,rfl,Sv.of (by rw [Sz nDL];exact hD5),a5,_,_,rfl,rfl,_,rfl,_,rfl,L,_,_,_,rfl,rfl,Sr,hix2,?_⟩
     refine ⟨_,rfl,?_,by rw [Sz nDL,Sz nDL];exact hD5,keep (keep s5)⟩
     rw [Sr,List.set_set,<-List.map_set,<-Jqr (by omega) (hf _ fv)]
     have e:lf[i] - os[i]+rn[i]+os[i - 1]=lf[i] - os[i]+os[i - 1]+rn[i]:=by omega
     rw [<-e,List.map_set]
    ·refine ifF (decide_eq_false h0) ⟨_,rfl,?_,by rw [Sz nDL];exact hD5,keep s5⟩
     have ez:i=0:=by omega
     subst ez
     rw [Sr,<-Jqr (by omega) (hf 0 rfl),List.map_set]
     have e:V.int (lf[0] - os[0]+rn[0])=V.int (lf[0] - os[0]+0+rn[0]):=by rw [show lf[0] - os[0]+rn[0]=lf[0] - os[0]+0+rn[0] by omega]
     show some (HO.lst (List.set _ 0 (V.int (lf[0] - os[0]+rn[0]))))=_
     rw [e]
     rfl
   rintro σ H5 ⟨p11,rfl,hL5,hD5,s5⟩
   rw [yf,show ((lf.length:Nat):Int).toNat=lf.length by omega,yac (by omega),List.drop_of_length_le (by omega),ybe] at hL5
   refine ⟨_,rfl,t,_,2,_,rfl,rfl,Su.of (s5 _ _ ht),rfl,lb,rfl,⟨_,Sv.of (s5 _ _ hb)⟩,λF hF=>?_⟩
   have sF:=Sj.upd (o:=.lst []) hF
   refine Yck (K:=K) (a:=lb) (xs:=bs) (D:=F) (λi σ H'=>(∃q1 q2,σ= [q1,q2,some (.ref L)])/\H' F=some (.lst ((Joq 0 (S.Bs.take i) (lvv.take i)).map V.int))/\Sj H5 H') ⟨⟨_,_,rfl⟩,Sr,sF⟩ (λi σ H' _ ⟨_,_,sm⟩=>Sv.of (sm _ _ (s5 _ _ hb))) ?_ ?_
   ·rintro i x σ H' Ta hx ⟨⟨q1,q2,rfl⟩,hFs,sm'⟩ hT
    obtain ⟨B,eB,tb,g,rfl,htb,gt⟩:=btl.get hx
    have hi:i < S.Bs.length:=by have:=(yj.mp eB).1;omega
    have hil:i < lvv.length:=by omega
    obtain ⟨B',hB',elo,ehi⟩:∃B',S.Bs[i]?=some B'/\B'.lo=B.lo/\B'.hi=B.hi:=by
     have k1:(S.Bs.map Jta)[i]?=some (Jwy B):=by rw [lk.Bs,yg,eB];rfl
     rw [yg] at k1
     obtain ⟨B',h1,h2⟩:=yw.mp k1
     exact ⟨B',h1,congrArg (·.2.1) h2,congrArg (·.2.2.1) h2⟩
    have sT:=Sj.upd (o:=.tup [.int i,.ref tb]) hT
    have s6:=(s5.trans sm').trans sT
    have hL6:=sT _ _ (sm' _ _ hL5)
    have nx:Joq 0 (S.Bs.take (i+1)) (lvv.take (i+1))=Joq 0 (S.Bs.take i) (lvv.take i)++(if B.lo<=lvv[i]/\lvv[i]<=B.hi then [] else [(i:Int)]):=by
     have q:=Ju2 (k:=0) (Bs:=S.Bs.take i) (ls:=lvv.take i) (B:=B') (l:=lvv[i]) (by rw [yy,yy];omega)
     rw [yy,Nat.min_eq_left (by omega),Nat.zero_add,elo,ehi] at q
     rw [yag,hB',yag,yh hil]
     exact q
    have bad:¬(B.lo<=lvv[i]/\lvv[i]<=B.hi)->∃vs,(upd H' Ta (.tup [.int i,.ref tb])) F=some (.lst vs)/\vs.length < S6/\(∃p1 p2,[some (V.int i),some (.ref tb),some (.ref L)]= [p1,p2,some (V.ref L)])/\upd (upd H' Ta (.tup [.int i,.ref tb])) F (.lst (vs++ [.int i])) F=some (.lst ((Joq 0 (S.Bs.take (i+1)) (lvv.take (i+1))).map V.int))/\Sj H5 (upd (upd H' Ta (.tup [.int i,.ref tb])) F (.lst (vs++ [.int i]))):=λq=>by
     refine ⟨_,sT _ _ hFs,?_,⟨_,_,rfl⟩,?_,?_⟩
     ·have:=Jtb (k:=0) (Bs:=S.Bs.take i) (ls:=lvv.take i)
      rw [yy] at this
      rw [yf]
      exact Jno (by omega)
     ·rw [Sr,nx,if_neg q,yab]
      rfl
     ·intro c o z
      rw [Sz (Jmw z hF)]
      exact sT _ _ (sm' _ _ z)
    refine ⟨Ta,_,rfl,Su.of Sr,rfl,_,_,rfl,_,_,rfl,rfl,?_⟩
    refine ⟨_,rfl,_,rfl,L,_,_,_,rfl,rfl,Sv.of hL6,Jps hil,_,rfl,tb,_,1,_,rfl,rfl,Su.of (s6 _ _ htb),rfl,_,_,rfl,rfl,_,rfl,?_⟩
    by_cases h1:lvv[i] < B.lo
    ·exact ifT (decide_eq_true h1) (Joc ⟨_,rfl,bad λz=>by omega⟩)
    ·refine ifF (decide_eq_false h1) ⟨_,rfl,_,rfl,L,_,_,_,rfl,rfl,Sv.of hL6,Jps hil,_,rfl,tb,_,2,_,rfl,rfl,Su.of (s6 _ _ htb),rfl,_,_,rfl,rfl,_,rfl,?_⟩
     by_cases h2:B.hi < lvv[i]
     ·exact ifT (decide_eq_true h2) ⟨_,rfl,bad λz=>by omega⟩
     ·refine ifF (decide_eq_false h2) ⟨⟨_,_,rfl⟩,?_,sm'.trans sT⟩
      rw [nx,if_pos ⟨by omega,by omega⟩,ybe]
      exact sT _ _ hFs
   rintro σ H6 ⟨_,hFs,sm'⟩
   rw [yac (by omega),yac (by omega)] at hFs
   have s6:=s5.trans sm'
   have ew:(if wt - rn.sum+R.g < R.c then wt - rn.sum+R.g else R.c)=Jtw S wt rn:=by
    unfold Jtw
    rw [lk.c,lk.g]
    split <;> split <;> omega
   refine ⟨_,rfl,t,_,0,_,rfl,rfl,Su.of (s6 _ _ ht),rfl,_,rfl,y,_,1,_,rfl,rfl,Su.of (s6 _ _ hy),rfl,_,rfl,ra,rn,rfl,.inr (Su.of (s6 _ _ li.hr)),li.sm,_,_,rfl,rfl,_,rfl,t,_,1,_,rfl,rfl,Su.of (s6 _ _ ht),rfl,_,_,rfl,rfl,_,_,rfl,?_⟩
   refine ⟨_,rfl,L,_,rfl,.inl ⟨Sv.of (sm' _ _ hL5),λu1 h1=>?_⟩⟩
   have t1:=Sj.upd (o:=.tup (lvv.map V.int)) h1
   refine ⟨_,rfl,_,rfl,D,_,rfl,.inl ⟨Sv.of (t1 _ _ (sm' _ _ hD5)),λu2 h2=>?_⟩⟩
   have t2:=Sj.upd (o:=.tup (os.map V.int)) h2
   refine ⟨_,rfl,_,rfl,_,rfl,F,_,rfl,.inl ⟨Sv.of (t2 _ _ (t1 _ _ hFs)),λu3 h3=>?_⟩⟩
   have t3:=Sj.upd (o:=.tup ((Joq 0 S.Bs lvv).map V.int)) h3
   refine ⟨(show 6<=S6 by decide),λq hq=>?_⟩
   have t4:=Sj.upd (o:=.tup [.ref u1,.int (if wt - rn.sum+R.g < R.c then wt - rn.sum+R.g else R.c),.ref u2,.int (drw S ls tv),.bl (decide (drw S ls tv > 0)),.ref u3]) hq
   refine k _ _ (s6.trans (((t1.trans t2).trans t3).trans t4)) ⟨q,u1,u2,u3,rfl,?_,?_,?_,?_⟩
   ·rw [<-ew]
    exact Sr
   ·rw [hlv]
    exact t4 _ _ (t3 _ _ (t2 _ _ Sr))
   ·rw [hos]
    exact t4 _ _ (t3 _ _ Sr)
   ·rw [hlv]
    exact t4 _ _ Sr
def Alk (H:Hp):Nat->V->V->Prop
 |0,_,_=>False
 |d+1,v,v'=>(v=v'/\(v= .non\/(∃n,v= .int n)\/(∃b,v= .bl b)\/∃z,v= .str z))\/∃p q xs ys,v= .ref p/\v'= .ref q/\H p=some (.tup xs)/\H q=some (.tup ys)/\xs.length=ys.length/\xs.length < 300/\∀(i:Nat) (x y:V),xs[i]?=some x->ys[i]?=some y->Alk H d x y
theorem Alk.same {H H':Hp} (s:Sj H H'):∀{d:Nat} {v v':V},Alk H d v v'->Alk H' d v v'
 |0,_,_,h=>h.elim
 |d+1,_,_,h=>by
  rcases h with h|⟨p,q,xs,ys,rfl,rfl,hp,hq,l,z,f⟩
  ·exact .inl h
  ·exact .inr ⟨p,q,xs,ys,rfl,rfl,s _ _ hp,s _ _ hq,l,z,λi x y e1 e2=>Alk.same s (f i x y e1 e2)⟩
inductive So7 (d:Nat) (vs:List V) (H:Hp) (Q:VK) (z3:XK):Prop where
 |mk (v:_) (v':_) (_:vs= [v,v']) (_:Alk H d v v') (_:∀H',Sj H H'->Q (.bl true) H')
theorem Y0:Jmy ["_law_found","_law_due_here"] ["_law_found","_law_due_here"] (Jmt (top 85)):=⟨rfl,rfl,rfl,by decide +kernel,rfl,by decide +kernel,by decide +kernel⟩
theorem Jyb (T:Tx K mg a) (d:Nat) (Sbb:Ss P w K mg base CX0 d a.Jl6 a.Jl7 ["_law_found","_law_due_here"] (So7 d)):Ss P w K mg base CX0 (d+1) a.Jl6 a.Jl7 ["_law_found","_law_due_here"] (So7 (d+1)):=by
 refine T.Ja8.fn.ok Y0 (λvs H Q E h=>?_) (λcdv A outer s H vs Q E hr h=>?_)
 ·obtain ⟨v,v',rfl,_⟩:=h
  rfl
 ·obtain ⟨v,v',rfl,al,k⟩:=h
  refine ⟨?t,?B,?C⟩
  case B=>
   refine' Sw ?O0 ?O1
   case O0=>
    refine' Jng ?O2 ?O3 ?O4
    case O2=>exact (Jnf (Jmx Jo7 (by rfl) T.Jax Jnb (Sk (pv 1) (Sk (Joh (v:=.ty "tuple") (by rfl) T.Jb6 Jnq rfl) Sm))))
    case O3=>
     refine' Sw ?O5 ?O6
     case O5=>
      refine' Jng ?O7 ?O8 ?O9
      case O7=>exact (PW.pt (Jri (Jnh (Jnf (Jmx Jo7 (by rfl) T.Jax Jnb (Sk (pv 0) (Sk (Joh (v:=.ty "tuple") (by rfl) T.Jb6 Jnq rfl) Sm))))) (Jqf (Jnp Yd5 (Jmx Jn8 (by rfl) T.Jay Jnz (Sk (pv 0) Sm)) (Jmx Jn8 (by rfl) T.Jay Jnz (Sk (pv 1) Sm)) (Jni _)))))
      case O8=>
       refine' Sy ?Oa
       case Oa=>exact (Jn0 Jov)
      case O9=>exact Jn6
     case O6=>
     refine' Sy ?Ob
     case Ob=>exact (Jn0 (Jmx (Jqt rfl) (by rfl) T.Jas Ju3 (Sk (Jnm (N:=(["_law_one","_law_other"]:List Str)) (ini:=[none,none]) rfl (Yf1 true true (by rfl) T.Jb7 (Sk (pv 0) (Sk (pv 1) Sm))) (λ_ _ _ _ _=>(Jqj (K:=K) (n:=2) rfl rfl (Jn7 (Jmz (i:=0) (by decide +kernel:(["_law_one","_law_other"]:List Str).Nodup) rfl (ye rfl)) (Jn7 (Jmz (i:=1) (by decide +kernel:(["_law_one","_law_other"]:List Str).Nodup) rfl (ye rfl)) Joe)))) (λ_ _ _ _ _=>Jnk) (λ_ _ _ _ _=>(Jmv T.Ja8 Sbb hr (yk _) (Sk (pv 0) (Sk (pv 1) Sm))))) Sm)))
    case O4=>exact Jn6
   case O1=>
   refine' Sy ?Oc
   case Oc=>exact (Jn0 (Jye (Joi Jqz (Jmx Jo7 (by rfl) T.Jax Jnb (Sk (pv 0) (Sk (Joh (v:=.ty "bool") (by rfl) T.Jau Jxn rfl) Sm))) (Jmx Jo7 (by rfl) T.Jax Jnb (Sk (pv 1) (Sk (Joh (v:=.ty "bool") (by rfl) T.Jau Jxn rfl) Sm))) (Jni _)) (Jyf (Joi Jqz (pv 0) (pv 1) (Jni _)))))
  rcases al with ⟨rfl,al⟩|⟨p,q,xs,ys,rfl,rfl,hp,hq,l,z,f⟩
  ·obtain ⟨t,b,ty,e1,e2,sc⟩:∃t b,TyX K H v t/\Sf K t (.type "tuple")=some false/\Sf K t (.type "bool")=some b/\Snq v v=true:=by
    rcases al with rfl|⟨n,rfl⟩|⟨b,rfl⟩|⟨z,rfl⟩
    ·exact ⟨_,_,.of .non,rfl,rfl,rfl⟩
    ·exact ⟨_,_,.of (.int n),rfl,rfl,rfl⟩
    ·exact ⟨_,_,.of (.bl b),rfl,rfl,rfl⟩
    ·exact ⟨_,_,.of (.str z),rfl,rfl,rfl⟩
   refine ⟨_,rfl,_,_,_,_,_,rfl,rfl,ty,e1,_,rfl,Jnv ?_⟩
   refine ⟨_,rfl,_,_,_,_,_,rfl,rfl,ty,e2,_,rfl,_,_,_,_,_,rfl,rfl,ty,e2,rfl,?_⟩
   rw [decide_eq_true rfl]
   refine ⟨_,rfl,Joc ⟨_,rfl,_,rfl,sc,?_⟩⟩
   rw [decide_eq_true rfl]
   exact k _ (Sj.refl H)
  ·refine ⟨_,rfl,_,_,_,_,_,rfl,rfl,.of (.tup hq),(by rfl:Sf K (.type "tuple") (.type "tuple")=some true),_,rfl,Joc ?_⟩
   refine ⟨_,rfl,_,_,_,_,_,rfl,rfl,.of (.tup hp),(by rfl:Sf K (.type "tuple") (.type "tuple")=some true),_,rfl,Jnv ?_⟩
   refine ⟨_,rfl,p,xs,rfl,.inr (Su.of hp),_,rfl,q,ys,rfl,.inr (Su.of hq),rfl,_,rfl,ifF (by rw [l];simp) ?_⟩
   refine ⟨_,rfl,_,rfl,p,q,rfl,⟨_,Su.of hp⟩,⟨_,Su.of hq⟩,λD hD=>?_⟩
   have sD:=Sj.upd (o:=.lst []) hD
   refine Ybb (K:=K) (l1:=p) (l2:=q) (b1:=true) (b2:=true) (xs:=xs) (ys:=ys) (D:=D) (λi σ H'=>(∃o1 o2,σ= [o1,o2])/\H' D=some (.lst ((yaa i true).map V.bl))/\Sj H H') ⟨⟨_,_,rfl⟩,Sr,sD⟩ (λi σ H' _ ⟨_,_,sm⟩=>⟨Su.of (sm _ _ hp),Su.of (sm _ _ hq)⟩) l ?_ ?_
   ·rintro i x y σ H' Ta hx hy ⟨⟨o1,o2,rfl⟩,hDs,sm⟩ hT
    have hi:i < xs.length:=(yj.mp hx).1
    have sT:=Sj.upd (o:=.tup [x,y]) hT
    refine Ss0 (Su.of Sr) ⟨_,rfl,_,rfl,x,y,rfl,Alk.same (sm.trans sT) (f i x y hx hy),λH5 s5=>⟨_,s5 _ _ (sT _ _ hDs),?_,⟨_,_,rfl⟩,?_,?_⟩⟩
    ·rw [yf,ybo]
     exact Jno (by omega)
    ·rw [Sr,List.replicate_succ',yab]
     rfl
    ·intro c o e
     rw [Sz (Jmw e hD)]
     exact s5 _ _ (sT _ _ (sm _ _ e))
   ·rintro σ H' ⟨_,hDs,sm⟩
    refine ⟨D,_,rfl,Sv.of hDs,?_⟩
    rw [show (yaa xs.length true).all id=true by simp]
    exact k _ sm
theorem Juy (T:Tx K mg a):∀d:Nat,Ss P w K mg base CX0 d a.Jl6 a.Jl7 ["_law_found","_law_due_here"] (So7 d)
 |0=>⟨λ_ _ _ _ h=>by
   obtain ⟨_,_,_,h,_⟩:=h
   exact h.elim,λ_ _ _ _ _ _ _ _ _ _ _ _ _ h=>by
   obtain ⟨_,_,_,h,_⟩:=h
   exact h.elim⟩
 |d+1=>Jyb T d (Juy T d)
theorem Yaa:∀{g:Int} {ls os rs:List Int},ls.length=os.length->ls.length=rs.length->(Jrp g ls os rs).sum+os.getLast?.getD g=ls.sum+g+rs.sum
 |g,[],[],[],_,_=>by simp [Jrp]
 |_,[],_::_,_,e,_=>by simp at e
 |_,[],[],_::_,_,e=>by simp at e
 |_,_::_,[],_,e,_=>by simp at e
 |_,_::_,_::_,[],_,e=>by simp at e
 |g,l::ls,o::os,r::rs,e1,e2=>by
  have ih:=Yaa (g:=o) (ls:=ls) (os:=os) (rs:=rs) (by simpa using e1) (by simpa using e2)
  show ((l - o+g+r)::Jrp o ls os rs).sum+_=_
  rw [List.getLast?_cons,yay,yay,yay]
  show l - o+g+r+(Jrp o ls os rs).sum+os.getLast?.getD o=_
  omega
theorem Y1:∀{ls:List Int} {i:Nat} {d:Int},i < ls.length->(ls.set i (ls.getD i 0 - d)).sum=ls.sum - d
 |l::ls,0,d,_=>by
  show (l - d)+ls.sum=l+ls.sum - d
  omega
 |l::ls,i+1,d,h=>by
  have ih:=Y1 (ls:=ls) (i:=i) (d:=d) (by simpa using h)
  show l+(ls.set i (ls.getD i 0 - d)).sum=l+ls.sum - d
  omega
 | [],_,_,h=>by simp at h
theorem Yei {S:Riv} {ls:List Int} {tv:V} (ti:TIn S) (h:drw S ls tv > 0):Jt0 S tv < S.Bs.length:=by
 cases tv with
 |int t=>
  unfold drw at h
  unfold Jt0
  dsimp only at h⊢
  cases e:S.Ts[t.toNat]? with
  |none=>rw [e] at h;exact absurd (show (0:Int) > 0 from h) (by decide)
  |some T=>exact Jw5 (ti T (yp e)).1
 |_=>exact absurd (show (0:Int) > 0 from h) (by decide)
theorem Yeq {S:Riv} {ls:List Int} {tv:V} (ti:TIn S) (l:ls.length=S.Bs.length):(lft S ls tv).sum=ls.sum - drw S ls tv:=by
 have d:=(Jxt (ls:=ls) (tv:=tv) ti).1
 unfold lft
 split
 ·rename_i h
  exact Y1 (by rw [l];exact Yei ti h)
 ·omega
theorem Ye3 {S:Riv} {Gs:List Jnj} {ls cs rn:List Int} {tv:V} (ti:TIn S) (l:ls.length=S.Bs.length) (so:Sb1 Gs cs (lft S ls tv)) (g:Gs.length=S.Bs.length) (r:rn.length=S.Bs.length):ls.sum+rn.sum=(Jpw S Gs ls cs tv rn).sum+drw S ls tv+(Jpg S Gs ls cs tv).getLast?.getD 0:=by
 have e:=so.len
 have ol:(Jpg S Gs ls cs tv).length=Gs.length:=Jq6 e.1 e.2
 have fl:(lft S ls tv).length=ls.length:=Jtg
 have a:=Yaa (g:=0) (ls:=lft S ls tv) (os:=Jpg S Gs ls cs tv) (rs:=rn) (by omega) (by omega)
 have b:=Yeq (tv:=tv) ti l
 unfold Jpw
 omega
theorem Yam {os:List Int} (h:1<=os.length):atI (os.map V.int) (-1)=some (.int (os.getLast?.getD 0)):=by
 unfold atI
 have e:ixN (os.map V.int).length (-1)=some (os.length - 1):=by
  unfold ixN
  rw [yf,if_neg (by omega)]
  rw [if_pos (by omega)]
  congr 1
  omega
 rw [e]
 show (os.map V.int)[os.length - 1]?=_
 rw [yg,List.getLast?_eq_getElem?,yh (by omega)]
 rfl
theorem Yde:∀{ns los his:List Int},ns.length=los.length->los.length=his.length->(∀(i:Nat) (n l h:Int),ns[i]?=some n->los[i]?=some l->his[i]?=some h->l<=n/\n<=h)->(wl (ns.map V.int) los his).all id=true
 | [],[],_,_,_,_=>rfl
 | [],_::_,_,e,_,_=>by simp at e
 |_::_,[],_,e,_,_=>by simp at e
 |_::_,_::_,[],_,e,_=>by simp at e
 |n::ns,l::los,h::his,e1,e2,f=>by
  have ih:=Yde (ns:=ns) (los:=los) (his:=his) (by simpa using e1) (by simpa using e2) λi n l h q1 q2 q3=>f (i+1) n l h (by simpa using q1) (by simpa using q2) (by simpa using q3)
  have q:=f 0 n l h rfl rfl rfl
  show ((decide (l<=n)&&decide (n<=h))&&(wl (ns.map V.int) los his).all id)=true
  rw [ih,decide_eq_true q.1,decide_eq_true q.2]
  rfl
theorem Jvg {ns los his:List Int} (e1:ns.length=los.length) (e2:los.length=his.length) (f:∀(i:Nat) (n l h:Int),ns[i]?=some n->los[i]?=some l->his[i]?=some h->l<=n/\n<=h):Jq4 (some (ns.map V.int)) los his=true:=by
 show (decide ((ns.map V.int).length=los.length)&&(wl (ns.map V.int) los his).all id)=true
 rw [Yde e1 e2 f,yf,decide_eq_true e1]
 rfl
theorem Ych:∀{k:Nat} {Bs:List Bsn} {ls:List Int},Joq k Bs ls= []->∀(i:Nat) (n:Int) (B:Bsn),ls[i]?=some n->Bs[i]?=some B->B.lo<=n/\n<=B.hi
 |k,B::Bs,l::ls,h,i,n,C,e1,e2=>by
  have h':(if B.lo<=l/\l<=B.hi then Joq (k+1) Bs ls else (k:Int)::Joq (k+1) Bs ls)= []:=h
  split at h'
  ·rename_i q
   cases i with
   |zero=>cases e1;cases e2;exact q
   |succ i=>exact Ych h' i n C (by simpa using e1) (by simpa using e2)
  ·cases h'
 |_,[],_,_,_,_,_,_,e=>by simp at e
 |_,_::_,[],_,_,_,_,e,_=>by simp at e
theorem Jzb {R:Jn4} {S:Riv} (h:Jse R S) (wet:Int):Jr5 S wet=Jot R wet:=by
 unfold Jr5 Jot
 rw [h.c,h.g,show S.Bs.map (·.rn)=R.Bs.map (·.rn) from Jrs h (·.2.2.2.2.1)]
 generalize (R.Bs.map (·.rn)).sum=m
 generalize wet+R.g - R.c=n
 split <;> split <;> split <;> (try split) <;> omega
theorem Yez {kd:Str} {m lv:Int} (h:Knd kd) (hm:Jpo kd<=m) (l:0<=lv):0<=Jqb kd m lv/\Jqb kd m lv<=lv:=by
 have m0:0<=m:=by
  unfold Jpo at hm
  split at hm <;> omega
 unfold Jqb
 split
 ·split <;> omega
 ·split
  ·split <;> omega
  ·exact ⟨Int.ediv_nonneg l m0,Int.ediv_le_self m l⟩
theorem Sna {G:Jnj} {s lv:Int} (gg:Sbd G) (hs:0<=s/\s < (nOf G:Int)) (hl:0<=lv):0<=lvG G s lv/\lvG G s lv<=lv:=by
 obtain ⟨j,hj,e⟩:∃j:Int,(0<=j/\j < G.ns.length)/\lvG G s lv=Jqb G.kd (G.ns.getD j.toNat 0) lv:=by
  unfold lvG
  unfold nOf at hs
  cases e:G.sv with
  |none=>
   rw [e] at hs
   exact ⟨s,hs,rfl⟩
  |some j=>exact ⟨j,gg.sv j e,rfl⟩
 rw [e]
 exact Yez gg.kd (gg.marks _ (Jth hj).2).1 hl
theorem Yar:∀{Gs:List Jnj} {cs ls:List Int},Sb1 Gs cs ls->(∀l∈ls,0<=l/\l<=12)->∀n∈Jss Gs cs ls,0<=n/\n<=12
 | [],[],[],_,_,n,h=>by simp [Jss] at h
 |G::Gs,c::cs,l::ls,⟨⟨g,hc,hl⟩,t⟩,b,n,h=>by
  have h':n∈lvG G c l::Jss Gs cs ls:=h
  rcases ym.mp h' with rfl|h'
  ·have:=Sna g hc hl.1
   have:=b l (by simp)
   omega
  ·exact Yar t (λl hl=>b l (by simp [hl])) n h'
theorem Ycg:∀{g:Int} {ls os rs:List Int},(0<=g/\g<=12)->(∀n∈ls,0<=n/\n<=12)->(∀n∈os,0<=n/\n<=12)->(∀n∈rs,0<=n/\n<=6)->∀n∈Jrp g ls os rs,-12<=n/\n<=36
 |g,l::ls,o::os,r::rs,hg,h1,h2,h3,n,h=>by
  have h':n∈(l - o+g+r)::Jrp o ls os rs:=h
  have a1:=h1 l (by simp)
  have a2:=h2 o (by simp)
  have a3:=h3 r (by simp)
  rcases ym.mp h' with rfl|h'
  ·omega
  ·exact Ycg a2 (λn h=>h1 n (by simp [h])) (λn h=>h2 n (by simp [h])) (λn h=>h3 n (by simp [h])) n h'
 |_,[],_,_,_,_,_,_,_,h=>by simp [Jrp] at h
 |_,_::_,[],_,_,_,_,_,_,h=>by simp [Jrp] at h
 |_,_::_,_::_,[],_,_,_,_,_,h=>by simp [Jrp] at h
inductive Ydu (a:Ad) (vs:List V) (H:Hp) (Q:VK) (z3:XK):Prop where
 |mk (p dx u lv q:S1) (c r:V) (d wt:Int) (_:vs= [.ref p]) (_:H p=some (.ins a.Jm9 dx (Son c r d u lv wt q))) (_:∀t H',Sj H H'->H' t=some (.tup [.ref lv,.int wt])->Q (.ref t) H')
theorem Jvr {as bs:List Int} (h:as.map V.int=bs.map V.int):as=bs:=by
 have:=congrArg (yam Juo) h
 simpa [yav,ybz,Juo] using this
theorem StA.inj {H:Hp} {x:V} {S:Riv} {ls ls':List Int} {wt wt':Int} (h:StA H x S ls wt) (h':StA H x S ls' wt'):ls'=ls/\wt'=wt:=by
 obtain ⟨y,u,rfl,h1,h2,_⟩:=h
 obtain ⟨y',u',e,h1',h2',_⟩:=h'
 cases e
 rw [h1] at h1'
 cases h1'
 rw [h2] at h2'
 have e:ls.map V.int=ls'.map V.int:=by simpa using h2'
 exact ⟨(Jvr e).symm,rfl⟩
theorem ChA.inj {H:Hp} {x:V} {S:Riv} {ls ls':List Int} {wt wt':V} (h:ChA H x S ls wt) (h':ChA H x S ls' wt'):ls'=ls/\wt'=wt:=by
 obtain ⟨y,u,rfl,h1,h2,_⟩:=h
 obtain ⟨y',u',e,h1',h2',_⟩:=h'
 cases e
 rw [h1] at h1'
 cases h1'
 rw [h2] at h2'
 have e:ls.map V.int=ls'.map V.int:=by simpa using h2'
 exact ⟨(Jvr e).symm,rfl⟩
theorem Jrr {R:Jn4} {S:Riv} (lk:Jse R S) {i:Nat} {B:Bsn} {C:Jp7} (h1:S.Bs[i]?=some B) (h2:R.Bs[i]?=some C):Jta B=Jwy C:=by
 have k1:(S.Bs.map Jta)[i]?=some (Jta B):=by rw [yg,h1];rfl
 rw [lk.Bs,yg,h2] at k1
 exact (yv.inj k1).symm
structure Shi (K:Se) (a:Ad) (p:S1) (H:Hp) (o:S1) (td:V) (R:Jn4) (S:Riv) (x c:V) (ls cs:List Int) (wt:Int) (tv:V) (ra:S1) (rn:List Int) (q r:Pr):Prop where
 rv:RvX K a H o S (R.Bs.map (·.G))
 li:Sj3 p H td R S x c ls cs wt tv ra rn
 px:PrT K H x q
 sb:stB S q=true
 wq:Jwc q=wt
 pc:PrT K H c r
 cb:chB S r=true
 rr:Sff K H (.ref ra) (some (rn.map V.int))
 rb:rnB S wt (some (rn.map V.int))=true
 w0:0<=Jtw S wt rn/\Jtw S wt rn<=S.c
 lb:∀n∈ls,0<=n/\n<=12
 rd:∀n∈rn,0<=n/\n<=6
theorem Shi.of {K:Se} {a:Ad} {p o:S1} {H:Hp} {td:V} {R:Jn4} {S:Riv} {x c:V} {ls cs:List Int} {wt:Int} {tv:V} {ra:S1} {rn:List Int} (rt:Sci p H td R) (rg:Jp8 R) (lk:Jse R S) (rv:RvX K a H o S (R.Bs.map (·.G))) (sd:Sal H x R ls wt) (ch:Sb4 H c R cs tv) (hra:H ra=some (.tup (rn.map V.int))) (ri:Sj5 R wt rn):∃q r,Shi K a p H o td R S x c ls cs wt tv ra rn q r:=by
 have hl:=Jpe lk
 have hn:=rg.n
 obtain ⟨⟨y,u,rfl,hy,hu⟩,lls,lin,w0,w1⟩:=id sd
 obtain ⟨⟨z,zu,rfl,hz,hzu⟩,lcs,cin,tw⟩:=id ch
 obtain ⟨rl,rb,rs,rf⟩:=ri
 have twS:Shy S tv:=by
  rcases tw with h|⟨j,h,j0,j1⟩
  ·exact .inl h
  ·exact .inr ⟨j,h,j0,by rw [Ju8 lk];exact j1⟩
 have lvi:Smf S ls:=λi n B e1 e2=>by
  obtain ⟨C,eC,b⟩:=lin i n e1
  have q:=Jrr lk e2 eC
  have q1:B.lo=C.lo:=congrArg (·.2.1) q
  have q2:B.hi=C.hi:=congrArg (·.2.2.1) q
  rw [q1,q2]
  exact b
 have csi:Slz S cs:=λi n B e1 e2=>by
  obtain ⟨n0,_,C,eC,b⟩:=cin i n e1
  have q:=Jrr lk e2 eC
  have q1:B.n=nOf C.G:=congrArg (·.2.2.2.2.2) q
  omega
 have rd:∀n∈rn,0<=n/\n<=6:=λn hn=>by
  obtain ⟨i,hi⟩:=ybc hn
  have hi':i < rn.length:=(yj.mp hi).1
  have e:R.Bs[i]?=some (R.Bs[i]'(by omega)):=yh (by omega)
  have:=rb i n _ hi e
  have:=(rg.Bs _ (yp e)).1.rn
  omega
 have sm:Sml rn:=⟨by omega,λn hn=>by
  have:=rd n hn
  omega⟩
 have lb:∀n∈ls,0<=n/\n<=12:=λn hn=>by
  obtain ⟨i,hi⟩:=ybc hn
  obtain ⟨C,eC,b⟩:=lin i n hi
  have g:=(rg.Bs _ (yp eC)).1
  have:=g.lo
  have:=g.hi
  omega
 have st:StA H (.ref y) S ls wt:=⟨y,u,rfl,hy,hu,by omega⟩
 have chA:ChA H (.ref z) S cs tv:=⟨z,zu,rfl,hz,hzu,by omega,twS⟩
 have so:=rv.sets (tv:=tv) (ls:=ls) (cs:=cs) (by omega) (by omega) lvi csi
 refine ⟨.two (.ref u) (.int wt) (some (ls.map V.int)),.two (.ref zu) tv (some (cs.map V.int)),rv,⟨rt,rg,lk,st,chA,hra,by omega,sm,so⟩,⟨y,rfl,hy,⟨u,rfl,hu,λv hv=>Jra hv,by rw [yf];omega⟩,.inl ⟨wt,rfl⟩⟩,?_,rfl,⟨z,rfl,hz,⟨zu,rfl,hzu,λv hv=>Jra hv,by rw [yf];omega⟩,?_⟩,?_,⟨ra,rfl,hra,λv hv=>Jra hv,by rw [yf];omega⟩,?_,?_,lb,rd⟩
 ·show ((decide (0<=wt)&&decide (wt<=S.c))&&Jq4 (some (ls.map V.int)) (S.Bs.map (·.lo)) (S.Bs.map (·.hi)))=true
  rw [Jvg (by rw [yf];omega) (by simp),decide_eq_true w0,decide_eq_true (by rw [lk.c];exact w1)]
  ·rfl
  ·intro i n l h e1 e2 e3
   rw [yg] at e2 e3
   obtain ⟨B,hB,rfl⟩:=yw.mp e2
   rw [hB] at e3
   cases e3
   exact lvi i n B e1 hB
 ·rcases tw with rfl|⟨j,rfl,_⟩
  ·exact Yfy rfl
  ·exact .inl ⟨j,rfl⟩
 ·show (Jtt S.Ts.length tv&&Jq4 (some (cs.map V.int)) (yaa S.Bs.length 0) (S.Bs.map λB=>(B.n:Int) - 1))=true
  rw [Jvg (by rw [ybo];omega) (by simp)]
  ·rcases twS with rfl|⟨j,rfl,j0,j1⟩
   ·rfl
   ·show ((decide (0<=j)&&decide (j<=(S.Ts.length:Int) - 1))&&true)=true
    rw [decide_eq_true j0,decide_eq_true (show j<=(S.Ts.length:Int) - 1 by omega)]
    rfl
  ·intro i n l h e1 e2 e3
   rw [yg] at e3
   obtain ⟨B,hB,rfl⟩:=yw.mp e3
   rw [ybu] at e2
   split at e2
   ·cases e2
    exact csi i n B e1 hB
   ·cases e2
 ·show (Jq4 (some (rn.map V.int)) (yaa S.Bs.length 0) (S.Bs.map (·.rn))&&(decide (Jr5 S wt<=Jys (rn.map V.int))&&decide (Jys (rn.map V.int)<=wt)))=true
  rw [Jvg (by rw [ybo];omega) (by simp),Jxj,Jzb lk,decide_eq_true rs,decide_eq_true rf]
  ·rfl
  ·intro i n l h e1 e2 e3
   rw [yg] at e3
   obtain ⟨B,hB,rfl⟩:=yw.mp e3
   have hi:i < S.Bs.length:=(yj.mp hB).1
   rw [ybu,if_pos hi] at e2
   cases e2
   have eC:R.Bs[i]?=some (R.Bs[i]'(by omega)):=yh (by omega)
   have q1:B.rn=(R.Bs[i]'(by omega)).rn:=congrArg (·.2.2.2.2.1) (Jrr lk hB eC)
   rw [q1]
   exact rb i n _ e1 eC
 ·have:=rg.c
  have:=rg.g
  unfold Jtw
  rw [lk.c,lk.g]
  split <;> omega
theorem Jvo {K:Se} {H:Hp}:∀ns:List Int,Scq K H (ns.map V.int) (ns.map PyData.int)
 | []=>.nil
 |_::r=>.cons (.int _) (Jvo r)
theorem Jtr (ns:List Int):SeqAt.shaped (.tuple (ns.map PyData.int))=true:=by
 have e1:∀l:List Int,PyData.canLayAll0 (l.map PyData.int)=true:=by
  intro l
  induction l with
  |nil=>rfl
  |cons c r ih=>simp only [ybj,PyData.canLayAll0,PyData.canLay0,ih,Bool.and_self]
 have e2:∀l:List Int,PyData.depthAll (l.map PyData.int)=0:=by
  intro l
  induction l with
  |nil=>rfl
  |cons c r ih=>simp [PyData.depthAll,PyData.depth,ih]
 simp [SeqAt.shaped,PyData.canLay0,PyData.depth,e1 ns,e2]
theorem Jz8 (ns:List Int):PyData.eqv (.tuple (ns.map PyData.int)) (.tuple [])=decide (ns= []):=by
 cases ns <;> rfl
theorem Jui:Jmy ["self"] ["self"] (Jmt (Jn2 (top 33) 1)):=⟨rfl,rfl,rfl,by decide +kernel,rfl,by decide +kernel,by decide +kernel⟩
theorem Jqy (T:Tx K mg a):Ss P w K mg base CX0 1 a.Jic a.Jid ["self"] (Ydu a):=by
 refine T.Jd2.fn.ok Jui (λvs H Q E h=>?_) (λcdv A outer s H vs Q E hr h=>?_)
 ·obtain ⟨p,dx,u,lv,q,c,r,d,wt,rfl,_⟩:=h
  rfl
 ·obtain ⟨p,dx,u,lv,q,c,r,d,wt,rfl,hp,k⟩:=h
  refine ⟨?t,?B,?C⟩
  case B=>
   refine' Sy ?O0
   case O0=>exact (Jn0 (Jo8 (Sk (Jna (pv 0) (by rfl)) (Sk (Jna (pv 0) (by rfl)) Sm))))
  refine ⟨_,rfl,p,_,dx,_,_,rfl,hp,T.Je0,T.Jfk,rfl,_,rfl,p,_,dx,_,_,rfl,hp,T.Je0,T.Jfl,rfl,(show 2<=S6 by decide),λt ht=>k t _ (Sj.upd ht) Sr⟩
theorem Snp {K:Se} {a:Ad} {H:Hp} {o:S1} {S:Riv} {R:Jn4} (ro:Say K a H o S) (lk:Jse R S) (rg:Jp8 R) (gx:GXL a H (S.Bs.map (·.g)) (R.Bs.map (·.G))):RvX K a H o S (R.Bs.map (·.G)):=by
 have hl:=Jpe lk
 have hz:S.Bs.map (·.z)=R.Bs.map (·.z):=Jrs lk (·.1)
 refine ⟨ro,gx,by rw [yf];exact hl,λT hT=>?_,by have:=rg.n;omega,λi B G hB hG=>?_⟩
 ·have:(T.z,T.b,T.wt)∈R.Ts.map (λB=>(B.z,B.b,B.wt)):=by rw [<-lk.Ts];exact yau (f:=λB:Twn=>(B.z,B.b,B.wt)) hT
  obtain ⟨C,hC,e⟩:=yaf.mp this
  have q:=rg.Ts C hC
  have e2:C.b=T.b:=congrArg (·.2.1) e
  have e3:C.wt=T.wt:=congrArg (·.2.2) e
  rw [hz,<-e2,<-e3]
  exact ⟨q.2.2.1,q.2.2.2.1,q.2.2.2.2⟩
 ·rw [yg] at hG
  obtain ⟨C,hC,rfl⟩:=yw.mp hG
  have k1:(S.Bs.map Jta)[i]?=some (Jta B):=by rw [yg,hB];rfl
  rw [lk.Bs,yg,hC] at k1
  have e:Jwy C=Jta B:=yv.inj k1
  have bg:=(rg.Bs C (yp hC)).1
  have e1:C.lo=B.lo:=congrArg (·.2.1) e
  have e2:C.hi=B.hi:=congrArg (·.2.2.1) e
  have e3:nOf C.G=B.n:=congrArg (·.2.2.2.2.2) e
  exact ⟨bg.G,e3.symm,by rw [<-e1];exact bg.lo.1,by rw [<-e2];exact bg.hi.2⟩
theorem Sci.move {p q:S1} {H:Hp} {x:V} {R:Jn4} (rg:Jp8 R) (hq:H q=none) (h:Sci p H x R):Sci q H x R:=by
 obtain ⟨t,lb,lt,bs,ts,e,ht,hb,btl,htt,ttl,nb,nt⟩:=h
 exact ⟨t,lb,lt,bs,ts,e,ht,hb,btl.map (λ_ _ _ h=>h.move hq) (λB hB=>(rg.Bs B hB).1),htt,ttl,Jmw hb hq,Jmw htt hq⟩
theorem GXL.ll {a:Ad} {H H':Hp} {xs:List V} {Gs:List Jnj} (s:LL H H') (h:GXL a H xs Gs):GXL a H' xs Gs:=h.map λx G h=>by
 obtain ⟨g,⟨dx,t,h1,h2⟩,r⟩:=h
 refine ⟨g,⟨dx,t,s.get (by intro _ z;cases z) h1,s.get (by intro _ z;cases z) h2⟩,?_⟩
 cases e:G.sv with
 |none=>rw [e] at r;exact r
 |some j=>
  rw [e] at r
  obtain ⟨q,dx,r1,r2⟩:=r
  exact ⟨q,dx,r1,s.get (by intro _ z;cases z) r2⟩
theorem RvX.ll {K:Se} {a:Ad} {H H':Hp} {o:S1} {S:Riv} {Gs:List Jnj} (s:LL H H') (h:RvX K a H o S Gs):RvX K a H' o S Gs:=⟨h.ro.ll s,h.gx.ll s,h.ln,h.ti,h.n1,h.ok⟩
theorem Sal.but {p:S1} {H H':Hp} {x:V} {R:Jn4} {ls:List Int} {wt:Int} (st:Sbj H p) (b:But p H H') (h:Sal H x R ls wt):Sal H' x R ls wt:=
 let ⟨⟨y,u,e,h1,h2⟩,r⟩:=h
 ⟨⟨y,u,e,Jsb st b h1 (by intro _ _ _ z;cases z),Jsb st b h2 (by intro _ _ _ z;cases z)⟩,r⟩
theorem Sb4.but {p:S1} {H H':Hp} {x:V} {R:Jn4} {ls:List Int} {tv:V} (st:Sbj H p) (b:But p H H') (h:Sb4 H x R ls tv):Sb4 H' x R ls tv:=
 let ⟨⟨y,u,e,h1,h2⟩,r⟩:=h
 ⟨⟨y,u,e,Jsb st b h1 (by intro _ _ _ z;cases z),Jsb st b h2 (by intro _ _ _ z;cases z)⟩,r⟩
def Slu (ls:List Int) (wt k:Int):Int:=ls.foldl (λn l=>n*31+l) (7*k+wt)
inductive So6 (vs:List V) (H:Hp) (Q:VK) (z3:XK):Prop where
 |mk (y u:S1) (ls:List Int) (wt k:Int) (_:vs= [.ref y,.int k]) (_:H y=some (.tup [.ref u,.int wt])) (_:H u=some (.tup (ls.map V.int))) (_:Q (.int (Slu ls wt k)) H)
structure WX (K:Se) (a:Ad) (p o:S1) (H:Hp) (td:V) (R:Jn4) (S:Riv):Prop where
 rt:Sci p H td R
 rg:Jp8 R
 lk:Jse R S
 rv:RvX K a H o S (R.Bs.map (·.G))
theorem WX.same {K:Se} {a:Ad} {p o:S1} {H H':Hp} {td:V} {R:Jn4} {S:Riv} (s:Sj H H') (h:WX K a p o H td R S):WX K a p o H' td R S:=⟨h.rt.same h.rg s,h.rg,h.lk,h.rv.same s⟩
theorem WX.move {K:Se} {a:Ad} {p q o:S1} {H:Hp} {td:V} {R:Jn4} {S:Riv} (hq:H q=none) (h:WX K a p o H td R S):WX K a q o H td R S:=⟨h.rt.move h.rg hq,h.rg,h.lk,h.rv⟩
theorem WX.but {K:Se} {a:Ad} {p o:S1} {H H':Hp} {td:V} {R:Jn4} {S:Riv} (st:Sbj H p) (b:But p H H') (h:WX K a p o H td R S):WX K a p o H' td R S:=⟨h.rt.but h.rg st b,h.rg,h.lk,h.rv.ll (LL.but st b)⟩
def Jnt (cell:Int) (ls:List Int) (wt k:Int):Int:=(cell+101*Slu ls wt k)%2147483647
def cj (n:Nat):Nat->Int
 |0=>0
 |j+1=>cj n j+n+1+n
def Sku (b:Int) (R:Jn4) (j:Nat):List Int:=csF b (cj R.Bs.length j) (nsR R) R.Bs.length
def Skv (b:Int) (R:Jn4) (j:Nat):V:=twF b (cj R.Bs.length j+R.Bs.length) R.Ts.length
def Sjb (b:Int) (R:Jn4) (wt:Int) (j:Nat):List Int:=Jv1 b (cj R.Bs.length j+R.Bs.length+1) R wt
def Jqv (b:Int) (R:Jn4) (S:Riv) (ls:List Int) (wt:Int) (j:Nat):Nat:=(Joq 0 S.Bs (Jpw S (R.Bs.map (·.G)) ls (Sku b R j) (Skv b R j) (Sjb b R wt j))).length
def bsI (cell:Int) (f:Nat->Nat):Nat->Nat
 |0=>0
 |j+1=>if j=0 then 0 else if 0 < cell%5/\f j < f (bsI cell f j) then j else bsI cell f j
def pkI (R:Jn4) (S:Riv) (cell:Int) (ls:List Int) (wt k:Int):Nat:=bsI cell (Jqv (Jnt cell ls wt k) R S ls wt) 3
def pkC (R:Jn4) (S:Riv) (cell:Int) (ls:List Int) (wt k:Int):List Int:=Sku (Jnt cell ls wt k) R (pkI R S cell ls wt k)
def pkT (R:Jn4) (S:Riv) (cell:Int) (ls:List Int) (wt k:Int):V:=Skv (Jnt cell ls wt k) R (pkI R S cell ls wt k)
def pkR (R:Jn4) (S:Riv) (cell:Int) (ls:List Int) (wt k:Int):List Int:=Sjb (Jnt cell ls wt k) R wt (pkI R S cell ls wt k)
def Skl (H:Hp) (R:Jn4) (S:Riv) (cell:Int) (ls:List Int) (wt k:Int) (c:V) (r:S1):Prop:=Sb4 H c R (pkC R S cell ls wt k) (pkT R S cell ls wt k)/\H r=some (.tup ((pkR R S cell ls wt k).map V.int))/\Sj5 R wt (pkR R S cell ls wt k)
inductive So2 (K:Se) (a:Ad) (vs:List V) (H:Hp) (Q:VK) (z3:XK):Prop where
 |mk (p o:S1) (td:V) (R:Jn4) (S:Riv) (x:V) (ls:List Int) (wt cell k:Int) (_:vs= [td,.int cell,x,.int k]) (_:WX K a p o H td R S) (_:Sal H x R ls wt) (_:∀(t:S1) (c:V) (r:S1) (H':Hp),Sj H H'->H' t=some (.tup [c,.ref r])->Skl H' R S cell ls wt k c r->Q (.ref t) H')
def Sfq (H:Hp) (b:Int) (R:Jn4) (S:Riv) (ls:List Int) (wt:Int) (bv:V) (i:Nat):Prop:=∃(t:S1) (c:V) (r:S1),bv= .ref t/\H t=some (.tup [.int (Jqv b R S ls wt i:Nat),c,.ref r])/\Sb4 H c R (Sku b R i) (Skv b R i)/\H r=some (.tup ((Sjb b R wt i).map V.int))/\Sj5 R wt (Sjb b R wt i)
theorem Sfq.but {p:S1} {H H':Hp} {b:Int} {R:Jn4} {S:Riv} {ls:List Int} {wt:Int} {bv:V} {i:Nat} (st:Sbj H p) (bt:But p H H') (h:Sfq H b R S ls wt bv i):Sfq H' b R S ls wt bv i:=by
 obtain ⟨t,c,r,e,h1,h2,h3,h4⟩:=h
 exact ⟨t,c,r,e,Jsb st bt h1 (by intro _ _ _ z;cases z),h2.but st bt,Jsb st bt h3 (by intro _ _ _ z;cases z),h4⟩
theorem Sb4.same {H H':Hp} {x:V} {R:Jn4} {ls:List Int} {tv:V} (s:Sj H H') (h:Sb4 H x R ls tv):Sb4 H' x R ls tv:=
 let ⟨⟨y,u,e,h1,h2⟩,r⟩:=h
 ⟨⟨y,u,e,s _ _ h1,s _ _ h2⟩,r⟩
theorem Sal.same {H H':Hp} {x:V} {R:Jn4} {ls:List Int} {wt:Int} (s:Sj H H') (h:Sal H x R ls wt):Sal H' x R ls wt:=
 let ⟨⟨y,u,e,h1,h2⟩,r⟩:=h
 ⟨⟨y,u,e,s _ _ h1,s _ _ h2⟩,r⟩
theorem Scb:Jmy ["_law_standing_here","_law_k","_law_number","_law_level"] ["_law_standing_here","_law_k"] (Jmt (top 86)):=⟨rfl,rfl,rfl,by decide +kernel,rfl,by decide +kernel,by decide +kernel⟩
theorem Jzp (T:Tx K mg a):Ss P w K mg base CX0 1 a.Jl8 a.Jl9 ["_law_standing_here","_law_k"] So6:=by
 refine T.Ja9.fn.ok Scb (λvs H Q E h=>?_) (λcdv A outer s H vs Q E hr h=>?_)
 ·obtain ⟨y,u,ls,wt,k,rfl,_⟩:=h
  rfl
 ·obtain ⟨y,u,ls,wt,kk,rfl,hy,hu,k⟩:=h
  refine ⟨?t,?B,?C⟩
  case B=>
   refine' Sw ?O0 ?O1
   case O0=>exact (Jn3 (i:=2) Scb.nd rfl (ye rfl) (Jn5 Jnn (Jn5 Jp2 So (pv 1)) (Jn1 Jn9 (pv 0) So (λ_ _=>rfl))))
   case O1=>
   refine' Sw ?O2 ?O3
   case O2=>
    refine' Jpj ?O4 ?O5 ?O6 ?O7 ?O8
    case O4=>exact PassesOwn.never
    case O5=>exact rfl
    case O6=>exact (Jqe (Jn1 Jn9 (pv 0) So (λ_ _=>rfl)))
    case O7=>exact (Jmz (i:=3) Scb.nd rfl (ye rfl))
    case O8=>
    refine' Sy ?O9
    case O9=>exact (Jn3 (i:=2) Scb.nd rfl (ye rfl) (Jn5 Jnn (Jn5 Jp2 (pv 2) So) (pv 3)))
   case O3=>
   refine' Sy ?Oa
   case Oa=>exact (Jn0 (pv 2))
  refine ⟨_,rfl,_,_,rfl,rfl,.inl ⟨by decide,by decide⟩,_,rfl,y,_,1,_,rfl,rfl,Su.of hy,rfl,_,_,rfl,rfl,?_⟩
  refine ⟨_,rfl,y,_,0,_,rfl,rfl,Su.of hy,rfl,u,rfl,⟨_,Su.of hu⟩,?_⟩
  refine Yai (xs:=ls.map V.int) (λi σ H'=>∃o3,σ= [some (.ref y),some (.int kk),some (.int ((ls.take i).foldl (λn l=>n*31+l) (7*kk+wt))),o3]/\H'=H) ⟨_,rfl,rfl⟩ (λi σ H' _ ⟨_,_,e⟩=>by rw [e];exact Su.of hu) ?_ ?_
  ·rintro i x σ H' hx ⟨o3,rfl,rfl⟩
   rw [yg] at hx
   obtain ⟨l,hl,rfl⟩:=yw.mp hx
   refine ⟨_,rfl,_,_,rfl,rfl,.inr ⟨by decide,by decide⟩,_,rfl,_,_,rfl,rfl,some (.int l),?_,rfl⟩
   rw [yag,hl,List.foldl_append]
   rfl
  ·rintro σ H' ⟨o3,rfl,rfl⟩
   rw [yf,yac (yk _)]
   exact ⟨_,rfl,k⟩
theorem Saq:Jmy ["_law_told","_law_cell_here","_law_standing_here","_law_k","_law_stream_here","_law_best","_law_lap","_law_choice_here","_law_rain_here","_law_broken"] ["_law_told","_law_cell_here","_law_standing_here","_law_k"] (Jmt (top 87)):=⟨rfl,rfl,rfl,by decide +kernel,rfl,by decide +kernel,by decide +kernel⟩
theorem Jrz (T:Tx K mg a):Ss P w K mg base CX0 4 a.Jla a.Jlb ["_law_told","_law_cell_here","_law_standing_here","_law_k"] (So2 K a):=by
 have Sgl:=Jzp (P:=P) (w:=w) (base:=base) T
 have Sf6:=Jwl (P:=P) (w:=w) (base:=base) T
 have Sgk:=Jzo (P:=P) (w:=w) (base:=base) T
 have Sce:=Jsr (P:=P) (w:=w) (base:=base) T
 refine T.Jaa.fn.ok Saq (λvs H Q E h=>?_) (λcdv A outer s H vs Q E hr h=>?_)
 ·obtain ⟨p,o,td,R,S,x,ls,wt,cell,k,rfl,_⟩:=h
  rfl
 ·obtain ⟨p0,o,td,R,S,x,ls,wt,cell,kk,rfl,wx,sd,k⟩:=h
  refine ⟨?t,?B,?C⟩
  case B=>
   refine' Sw ?O0 ?O1
   case O0=>exact (Jn3 (i:=4) Saq.nd rfl (ye rfl) (Jol (Sk So (Sk (Jn5 Jp6 (Jn5 Jnn (pv 1) (Jn5 Jp2 So (Jmv T.Ja9 Sgl hr (by decide) (Sk (pv 2) (Sk (pv 3) Sm))))) So) (Sk So Sm)))))
   case O1=>
   refine' Sw ?O2 ?O3
   case O2=>exact (Jn3 (i:=5) Saq.nd rfl (ye rfl) Jqd)
   case O3=>
   refine' Sw ?O4 ?O5
   case O4=>
    refine' Jpj ?O6 ?O7 ?O8 ?O9 ?Oa
    case O6=>exact PassesOwn.never
    case O7=>exact rfl
    case O8=>exact (Jpc (by rfl) T.Jb2 (Sk So Sm))
    case O9=>exact (Jmz (i:=6) Saq.nd rfl (ye rfl))
    case Oa=>
    refine' Sw ?Ob ?Oc
    case Ob=>exact (Jn3 (i:=7) Saq.nd rfl (ye rfl) (Jmv T.Ja1 Sf6 hr (by decide) (Sk (pv 4) (Sk (pv 0) Sm))))
    case Oc=>
    refine' Sw ?Od ?Oe
    case Od=>exact (Jn3 (i:=8) Saq.nd rfl (ye rfl) (Jmv T.Ja4 Sgk hr (by decide) (Sk (pv 4) (Sk (pv 0) (Sk (Jn1 Jn9 (pv 2) So (λ_ _=>rfl)) Sm)))))
    case Oe=>
    refine' Sw ?Of ?Og
    case Of=>exact (Jn3 (i:=9) Saq.nd rfl (ye rfl) (Jn1 Jn9 (Jmv T.Ja7 Sce hr (by decide) (pa4 (pv 0) (pv 2) (pv 7) (pv 8))) So (λ_ _=>rfl)))
    case Og=>
    refine' Sy ?Oh
    case Oh=>
    refine' Jng ?Oi ?Oj ?Ok
    case Oi=>exact (PW.pt (Jri (Jnp Jyc (pv 5) Jqd (Jni _)) (Jqf (PW.pt (Ydc (Jnp Jrf (Jn5 Jp6 (pv 1) So) So (Jni _)) (Yav (Jnp Yaq (Jmx Jn8 (by rfl) T.Jay Jnz (Sk (pv 9) Sm)) (Jn1 Jn9 (pv 5) So (λ_ _=>rfl)) (Jni _))))))))
    case Oj=>
     refine' Sy ?Ol
     case Ol=>exact (Jn3 (i:=5) Saq.nd rfl (ye rfl) (Jo8 (Sk (Jmx Jn8 (by rfl) T.Jay Jnz (Sk (pv 9) Sm)) (Sk (pv 7) (Sk (pv 8) Sm)))))
    case Ok=>exact Jn6
   case O5=>
   refine' Sy ?Om
   case Om=>exact (Jn0 (Jr1 Jyp (pv 5) (Jqk So) Jve))
  obtain ⟨⟨y,u,rfl,hy,hu⟩,_,_,w0,w1⟩:=id sd
  have rc:=wx.rg.c
  refine ⟨_,rfl,_,rfl,_,rfl,y,u,ls,wt,kk,rfl,hy,hu,_,_,rfl,rfl,.inl ⟨by decide,by decide⟩,_,_,rfl,rfl,_,_,rfl,rfl,(by show (0:Int) < 2147483647;decide),(show 3<=S6 by decide),λp hp=>?_⟩
  have s1:=Sj.upd (o:=.lst [.int 0,.int (Jnt cell ls wt kk),.int 0]) hp
  have sd1:Sd (upd H p (.lst [.int 0,.int (Jnt cell ls wt kk),.int 0])) p (Jnt cell ls wt kk) 0:=Sr
  have st1:=sd1.st
  have wx1:=(wx.move hp).same s1
  have x1:=sd.same s1
  change Soh _ _ _ _ (upd H p (.lst [.int 0,.int (Jnt cell ls wt kk),.int 0]))
  generalize eH:upd H p (.lst [.int 0,.int (Jnt cell ls wt kk),.int 0])=H1 at*
  refine ⟨3,rfl,by decide,by decide,?_⟩
  refine Jpn (λj σ H'=>∃o6 o7 o8 o9 bv,σ= [some td,some (.int cell),some (.ref y),some (.int kk),some (.ref p),some bv,o6,o7,o8,o9]/\But p H1 H'/\Sd H' p (Jnt cell ls wt kk) (cj R.Bs.length j)/\(j=0/\bv= .non\/0 < j/\Sfq H' (Jnt cell ls wt kk) R S ls wt bv (bsI cell (Jqv (Jnt cell ls wt kk) R S ls wt) j))) ⟨_,_,_,_,_,rfl,But.of st1 (Sj.refl _),sd1,.inl ⟨rfl,rfl⟩⟩ ?_ ?_
  ·rintro j σ H' hj ⟨o6,o7,o8,o9,bv,rfl,bt,sdj,hb⟩
   have wxj:=wx1.but st1 bt
   have xj:=x1.but st1 bt
   refine ⟨_,rfl,_,rfl,p,td,R,_,_,rfl,sdj,wxj.rt,wx.rg,λcv H2 b2 sd2 ch=>?_⟩
   have wx2:=wxj.but bt.2 b2
   have x2:=xj.but bt.2 b2
   obtain ⟨⟨y',u',e,hy2,hu2⟩,_⟩:=id x2
   cases e
   refine ⟨_,rfl,_,rfl,_,rfl,y,_,1,_,rfl,rfl,Su.of hy2,rfl,p,td,R,wt,_,_,rfl,sd2,wx2.rt,wx.rg,by omega,λru H3 b3 sd3 hru ri=>?_⟩
   have wx3:=wx2.but b2.2 b3
   have x3:=x2.but b2.2 b3
   have ch3:=ch.but b2.2 b3
   obtain ⟨q,r,g⟩:=Shi.of wx3.rt wx.rg wx.lk wx3.rv x3 ch3 hru ri
   refine ⟨_,rfl,_,rfl,_,rfl,_,rfl,p,td,R,S,.ref y,cv,ls,_,wt,_,ru,_,rfl,g.li,λdv H4 s4 du=>?_⟩
   obtain ⟨d,u1,u2,u3,rfl,hd,h1,h2,h3⟩:=id du
   refine ⟨d,_,5,_,rfl,rfl,Su.of hd,rfl,?_⟩
   have b34:=(b2.trans b3).same s4
   have btF:=bt.trans b34
   have sd4:Sd H4 p (Jnt cell ls wt kk) (cj R.Bs.length (j+1)):=s4 _ _ sd3
   have len:(yam V.int (Joq 0 S.Bs (Jpw S (R.Bs.map (·.G)) ls (Sku (Jnt cell ls wt kk) R j) (Skv (Jnt cell ls wt kk) R j) (Sjb (Jnt cell ls wt kk) R wt j)))).length=Jqv (Jnt cell ls wt kk) R S ls wt j:=yf ..
   have yes:∀t:S1,H4 t=none->∀i,i=j->But p H1 (upd H4 t (.tup [.int (Jqv (Jnt cell ls wt kk) R S ls wt j:Nat),cv,.ref ru]))/\Sd (upd H4 t (.tup [.int (Jqv (Jnt cell ls wt kk) R S ls wt j:Nat),cv,.ref ru])) p (Jnt cell ls wt kk) (cj R.Bs.length (j+1))/\(j+1=0/\V.ref t= .non\/0 < j+1/\Sfq (upd H4 t (.tup [.int (Jqv (Jnt cell ls wt kk) R S ls wt j:Nat),cv,.ref ru])) (Jnt cell ls wt kk) R S ls wt (.ref t) i):=λt ht i ei=>by
    subst ei
    have sT:=Sj.upd (o:=.tup [.int (Jqv (Jnt cell ls wt kk) R S ls wt i:Nat),cv,.ref ru]) ht
    exact ⟨btF.same sT,sT _ _ sd4,.inr ⟨Nat.succ_pos _,t,cv,ru,rfl,Sr,(ch3.same s4).same sT,sT _ _ (s4 _ _ hru),ri⟩⟩
   rcases hb with ⟨rfl,rfl⟩|⟨j0,hl⟩
   ·refine ⟨_,rfl,rfl,_,rfl,ifT (decide_eq_true rfl) (Joc ?_)⟩
    refine ⟨_,rfl,u3,_,rfl,.inr (Su.of h3),_,rfl,_,rfl,(show 3<=S6 by decide),λt ht=>?_⟩
    rw [show ((yam V.int (Joq 0 S.Bs (Jpw S (yam (·.G) R.Bs) ls (csF (Jnt cell ls wt kk) (cj R.Bs.length 0) (nsR R) R.Bs.length) (twF (Jnt cell ls wt kk) (cj R.Bs.length 0+↑R.Bs.length) ↑R.Ts.length) (Jv1 (Jnt cell ls wt kk) (cj R.Bs.length 0+↑R.Bs.length+1) R wt)))).length)=Jqv (Jnt cell ls wt kk) R S ls wt 0 from len]
    exact ⟨_,_,_,_,_,rfl,yes t ht _ rfl⟩
   ·have hl4:=(hl.but bt.2 b34)
    obtain ⟨t0,c0,r0,rfl,ht0,hc0,hr0,ri0⟩:=id hl4
    refine ⟨_,rfl,rfl,_,rfl,ifF (decide_eq_false (by intro z;cases z)) ?_⟩
    refine ⟨_,rfl,_,_,rfl,rfl,(by show (0:Int) < 5;decide),_,_,rfl,rfl,_,rfl,?_⟩
    have no:¬(0 < cell%5/\Jqv (Jnt cell ls wt kk) R S ls wt j < Jqv (Jnt cell ls wt kk) R S ls wt (bsI cell (Jqv (Jnt cell ls wt kk) R S ls wt) j))->bsI cell (Jqv (Jnt cell ls wt kk) R S ls wt) (j+1)=bsI cell (Jqv (Jnt cell ls wt kk) R S ls wt) j:=λh=>by
     rw [bsI,if_neg (by omega),if_neg h]
    by_cases h5:0 < cell%5
    ·refine ifT (decide_eq_true h5) ?_
     refine ⟨_,rfl,u3,_,rfl,.inr (Su.of h3),_,rfl,t0,_,0,_,rfl,rfl,Su.of ht0,rfl,_,_,rfl,rfl,_,rfl,?_⟩
     rw [show ((yam V.int (Joq 0 S.Bs (Jpw S (yam (·.G) R.Bs) ls (csF (Jnt cell ls wt kk) (cj R.Bs.length j) (nsR R) R.Bs.length) (twF (Jnt cell ls wt kk) (cj R.Bs.length j+↑R.Bs.length) ↑R.Ts.length) (Jv1 (Jnt cell ls wt kk) (cj R.Bs.length j+↑R.Bs.length+1) R wt)))).length)=Jqv (Jnt cell ls wt kk) R S ls wt j from len]
     by_cases h6:Jqv (Jnt cell ls wt kk) R S ls wt j < Jqv (Jnt cell ls wt kk) R S ls wt (bsI cell (Jqv (Jnt cell ls wt kk) R S ls wt) j)
     ·refine ifT (decide_eq_true (by omega)) ?_
      refine ⟨_,rfl,u3,_,rfl,.inr (Su.of h3),_,rfl,_,rfl,(show 3<=S6 by decide),λt ht=>?_⟩
      rw [show ((yam V.int (Joq 0 S.Bs (Jpw S (yam (·.G) R.Bs) ls (csF (Jnt cell ls wt kk) (cj R.Bs.length j) (nsR R) R.Bs.length) (twF (Jnt cell ls wt kk) (cj R.Bs.length j+↑R.Bs.length) ↑R.Ts.length) (Jv1 (Jnt cell ls wt kk) (cj R.Bs.length j+↑R.Bs.length+1) R wt)))).length)=Jqv (Jnt cell ls wt kk) R S ls wt j from len]
      exact ⟨_,_,_,_,_,rfl,yes t ht _ (by rw [bsI,if_neg (by omega),if_pos ⟨h5,h6⟩])⟩
     ·refine ifF (decide_eq_false (by omega)) ⟨_,_,_,_,_,rfl,btF,sd4,.inr ⟨Nat.succ_pos _,?_⟩⟩
      rw [no λz=>h6 z.2]
      exact hl4
    ·refine ifF (decide_eq_false h5) (Jnv ⟨_,_,_,_,_,rfl,btF,sd4,.inr ⟨Nat.succ_pos _,?_⟩⟩)
     rw [no λz=>h5 z.1]
     exact hl4
  ·rintro σ H' ⟨o6,o7,o8,o9,bv,rfl,bt,sdj,hb⟩
   obtain ⟨t,c,r,rfl,ht,hc,hr',ri⟩:Sfq H' (Jnt cell ls wt kk) R S ls wt bv (bsI cell (Jqv (Jnt cell ls wt kk) R S ls wt) 3):=by
    rcases hb with ⟨e,_⟩|⟨_,h⟩
    ·cases e
    ·exact h
   refine ⟨_,rfl,_,rfl,t,_,rfl,Su.of ht,(show ¬(HT.sIx 3 0 (some 1)=0/\HT.sIx 3 3 none=3) by decide),λv hv=>?_⟩
   have sv:=Sj.upd (o:=.tup [c,.ref r]) hv
   have sH:Sj H H':=λb ob e=>bt.1 _ _ (Jmw e hp) (s1 _ _ e)
   exact k v c r _ (sH.trans sv) Sr ⟨hc.same sv,sv _ _ hr',ri⟩
abbrev lb__law_keeper:Array (Nat×Nat×Str):=#[((Jtn (nst (top 88) 0)).line,(Jtn (nst (top 88) 0)).col,"_law_keeper.<locals>._law_keeper_here")]
abbrev lb__law_sky:Array (Nat×Nat×Str):=#[((Jtn (nst (top 89) 0)).line,(Jtn (nst (top 89) 0)).col,"_law_sky.<locals>._law_sky_here")]
def Exc (A:S1) (H H':Hp):Prop:=∀b o,b≠A->H b=some o->H' b=some o
theorem Exc.same {A:S1} {H H':Hp} (s:Sj H H'):Exc A H H':=λ_ _ _ e=>s _ _ e
theorem Exc.trans {A:S1} {H H' H'':Hp} (h:Exc A H H') (k:Exc A H' H''):Exc A H H'':=λb o n e=>k b o n (h b o n e)
theorem Exc.upd {A:S1} {H:Hp} {o:HO}:Exc A H (upd H A o):=λ_ _ n e=>by rw [Sz n];exact e
theorem Exc.of {A:S1} {H0 H H':Hp} (n:H0 A=none) (s:Sj H0 H) (x:Exc A H H'):Sj H0 H':=λb o e=>x b o (Jmw e n) (s b o e)
theorem Exc.get {A:S1} {H H':Hp} {b:S1} {o:HO} {as:List V} (hA:H A=some (.lst as)) (x:Exc A H H') (h:H b=some o) (n:∀xs,o≠ .lst xs):H' b=some o:=x b o (λz=>by rw [z,hA] at h;exact n as (yv.inj h).symm) h
theorem Sal.exc {A:S1} {H H':Hp} {x:V} {R:Jn4} {ls:List Int} {wt:Int} {as:List V} (hA:H A=some (.lst as)) (e:Exc A H H') (h:Sal H x R ls wt):Sal H' x R ls wt:=
 let ⟨⟨y,u,e1,h1,h2⟩,r⟩:=h
 ⟨⟨y,u,e1,e.get hA h1 (by intro _ z;cases z),e.get hA h2 (by intro _ z;cases z)⟩,r⟩
theorem Sb4.exc {A:S1} {H H':Hp} {x:V} {R:Jn4} {ls:List Int} {tv:V} {as:List V} (hA:H A=some (.lst as)) (e:Exc A H H') (h:Sb4 H x R ls tv):Sb4 H' x R ls tv:=
 let ⟨⟨y,u,e1,h1,h2⟩,r⟩:=h
 ⟨⟨y,u,e1,e.get hA h1 (by intro _ z;cases z),e.get hA h2 (by intro _ z;cases z)⟩,r⟩
def Ycc (H:Hp) (f A:S1) (td:V) (cell:Int):Prop:=Sbz H f "_law_keeper_here" "_law_keeper.<locals>._law_keeper_here" (nst (top 88) 0) [("_law_asked",.ref A),("_law_told",td),("_law_cell_here",.int cell)]
def Slm (H:Hp) (f A:S1) (td:V) (cell:Int):Prop:=Sbz H f "_law_sky_here" "_law_sky.<locals>._law_sky_here" (nst (top 89) 0) [("_law_asked",.ref A),("_law_told",td),("_law_cell_here",.int cell)]
inductive Snt (K:Se) (a:Ad) (cs:List V) (vs:List V) (H:Hp) (Q:VK) (z4:XK):Prop where
 |mk (A:S1) (as:List V) (H0:Hp) (p o:S1) (td:V) (R:Jn4) (S:Riv) (x:V) (ls:List Int) (wt cell k:Int) (_:cs= [.ref A,td,.int cell]) (_:vs= [x,.int k]) (_:H A=some (.lst as)) (_:as.length<=1000) (_:H0 A=none) (_:Sj H0 H) (_:WX K a p o H0 td R S) (_:Sal H x R ls wt) (_:∀(t:S1) (c:V) (r:S1) (H':Hp),Exc A H H'->H' A=some (.lst (as++ [.ref t]))->H' t=some (.tup [.str "keeper",x,.int k])->Skl H' R S cell ls wt k c r->Q c H')
inductive Srl (K:Se) (a:Ad) (cs:List V) (vs:List V) (H:Hp) (Q:VK) (z4:XK):Prop where
 |mk (A:S1) (as:List V) (H0:Hp) (p o:S1) (td:V) (R:Jn4) (S:Riv) (x y:V) (ls:List Int) (wt cell k:Int) (_:cs= [.ref A,td,.int cell]) (_:vs= [x,y,.int k]) (_:H A=some (.lst as)) (_:as.length<=1000) (_:H0 A=none) (_:Sj H0 H) (_:WX K a p o H0 td R S) (_:Sal H x R ls wt) (_:∀(t:S1) (c:V) (r:S1) (H':Hp),Exc A H H'->H' A=some (.lst (as++ [.ref t]))->H' t=some (.tup [.str "sky",x,y,.int k])->Skl H' R S cell ls wt k c r->Q (.ref r) H')
inductive Srh (a:Ad) (vs:List V) (H:Hp) (Q:VK) (z3:XK):Prop where
 |mk (td:V) (cell:Int) (A:S1) (_:vs= [td,.int cell,.ref A]) (_:H a.Jmk=some (.tbl lb__law_keeper)) (_:∀(f:S1) (H':Hp),Sj H H'->Ycc H' f A td cell->Q (.ref f) H')
inductive Srm (a:Ad) (vs:List V) (H:Hp) (Q:VK) (z3:XK):Prop where
 |mk (td:V) (cell:Int) (A:S1) (_:vs= [td,.int cell,.ref A]) (_:H a.Jmm=some (.tbl lb__law_sky)) (_:∀(f:S1) (H':Hp),Sj H H'->Slm H' f A td cell->Q (.ref f) H')
theorem Jpq:Jro ["_law_standing_here","_law_k","_law_asked","_law_told","_law_cell_here"] ["_law_standing_here","_law_k"] ["_law_asked","_law_told","_law_cell_here"] (Jmt (nst (top 88) 0)):=⟨rfl,rfl,rfl,by decide +kernel,rfl,by decide +kernel,by decide +kernel,by decide +kernel⟩
theorem Ybn (T:Tx K mg a) (f:S1):Jx2 P w K mg base CX0 5 f (Yaz "_law_keeper_here" "_law_keeper.<locals>._law_keeper_here" (nst (top 88) 0) ["_law_asked","_law_told","_law_cell_here"] (Snt K a) f):=by
 have Sbn:=Jrz (P:=P) (w:=w) (base:=base) T
 refine Yac Jpq (λ_ _ _ _ _ us hl=>match us,hl with| [_,_],_=>rfl) (λcs vs H Q E h=>?_) (λf c clos A outer s H vs cs Q E hr h=>?_) f
 ·obtain ⟨A,as,H0,p,o,td,R,S,x,ls,wt,cell,k,rfl,rfl,_⟩:=h
  exact ⟨rfl,rfl⟩
 ·obtain ⟨A,as,H0,p,o,td,R,S,x,ls,wt,cell,k,rfl,rfl,hA,la,n0,s0,wx,sd,k'⟩:=h
  refine ⟨?t,?B,?C⟩
  case B=>
   refine' Sw ?O0 ?O1
   case O0=>exact (Jp0 (Js0 F.plainAttrs_list F.slot_list_append F.type_list_append Joz (pv 2) (Sk (Jo8 (Sk Jom (Sk (pv 0) (Sk (pv 1) Sm)))) Sm)))
   case O1=>
   refine' Sy ?O2
   case O2=>
   refine' Jn0 ?O3
   case O3=>
   refine' Jn1 ?O4 ?O5 ?O6 ?O7
   case O4=>exact Jn9
   case O5=>exact (Jmv T.Jaa Sbn hr (by decide) (pa4 (pv 3) (pv 4) (pv 0) (pv 1)))
   case O6=>exact So
   case O7=>exact (λ_ _=>rfl)
  refine ⟨_,rfl,.inl ⟨rfl,_,Sv.of hA⟩,_,rfl,_,rfl,(show 3<=S6 by decide),λt ht=>?_⟩
  have s1:=Sj.upd (o:=.tup [.str "keeper",x,.int k]) ht
  have nt:t≠A:=λz=>by rw [z,hA] at ht;cases ht
  refine ⟨A,_,_,rfl,rfl,s1 _ _ hA,Jno (by omega),?_⟩
  have e1:Exc A H (upd (upd H t (.tup [.str "keeper",x,.int k])) A (.lst (as++ [.ref t]))):=(Exc.same s1).trans Exc.upd
  have wx1:=wx.same (e1.of n0 s0)
  refine ⟨_,rfl,_,rfl,_,rfl,_,rfl,p,o,td,R,S,x,ls,wt,cell,k,rfl,wx1,sd.exc hA e1,λq c r H' s' hq pk=>?_⟩
  refine ⟨q,_,0,_,rfl,rfl,Su.of hq,rfl,k' t c r H' (e1.trans (Exc.same s')) (s' _ _ Sr) (s' _ _ ?_) pk⟩
  rw [Sz nt]
  exact Sr
theorem Jqq:Jro ["_law_standing_here","_law_choice_here","_law_k","_law_asked","_law_told","_law_cell_here"] ["_law_standing_here","_law_choice_here","_law_k"] ["_law_asked","_law_told","_law_cell_here"] (Jmt (nst (top 89) 0)):=⟨rfl,rfl,rfl,by decide +kernel,rfl,by decide +kernel,by decide +kernel,by decide +kernel⟩
theorem Sne (T:Tx K mg a) (f:S1):Jx2 P w K mg base CX0 5 f (Yaz "_law_sky_here" "_law_sky.<locals>._law_sky_here" (nst (top 89) 0) ["_law_asked","_law_told","_law_cell_here"] (Srl K a) f):=by
 have Sbn:=Jrz (P:=P) (w:=w) (base:=base) T
 refine Yac Jqq (λ_ _ _ _ _ us hl=>match us,hl with| [_,_,_],_=>rfl) (λcs vs H Q E h=>?_) (λf c clos A outer s H vs cs Q E hr h=>?_) f
 ·obtain ⟨A,as,H0,p,o,td,R,S,x,y,ls,wt,cell,k,rfl,rfl,_⟩:=h
  exact ⟨rfl,rfl⟩
 ·obtain ⟨A,as,H0,p,o,td,R,S,x,y,ls,wt,cell,k,rfl,rfl,hA,la,n0,s0,wx,sd,k'⟩:=h
  refine ⟨?t,?B,?C⟩
  case B=>
   refine' Sw ?O0 ?O1
   case O0=>exact (Jp0 (Js0 F.plainAttrs_list F.slot_list_append F.type_list_append Joz (pv 3) (Sk (Jo8 (pa4 Jom (pv 0) (pv 1) (pv 2))) Sm)))
   case O1=>
   refine' Sy ?O2
   case O2=>
   refine' Jn0 ?O3
   case O3=>
   refine' Jn1 ?O4 ?O5 ?O6 ?O7
   case O4=>exact Jn9
   case O5=>exact (Jmv T.Jaa Sbn hr (by decide) (pa4 (pv 4) (pv 5) (pv 0) (pv 2)))
   case O6=>exact So
   case O7=>exact (λ_ _=>rfl)
  refine ⟨_,rfl,.inl ⟨rfl,_,Sv.of hA⟩,_,rfl,_,rfl,_,rfl,(show 4<=S6 by decide),λt ht=>?_⟩
  have s1:=Sj.upd (o:=.tup [.str "sky",x,y,.int k]) ht
  have nt:t≠A:=λz=>by rw [z,hA] at ht;cases ht
  refine ⟨A,_,_,rfl,rfl,s1 _ _ hA,Jno (by omega),?_⟩
  have e1:Exc A H (upd (upd H t (.tup [.str "sky",x,y,.int k])) A (.lst (as++ [.ref t]))):=(Exc.same s1).trans Exc.upd
  have wx1:=wx.same (e1.of n0 s0)
  refine ⟨_,rfl,_,rfl,_,rfl,_,rfl,p,o,td,R,S,x,ls,wt,cell,k,rfl,wx1,sd.exc hA e1,λq c r H' s' hq pk=>?_⟩
  refine ⟨q,_,1,_,rfl,rfl,Su.of hq,rfl,k' t c r H' (e1.trans (Exc.same s')) (s' _ _ Sr) (s' _ _ ?_) pk⟩
  rw [Sz nt]
  exact Sr
theorem Sdd:Jmy ["_law_told","_law_cell_here","_law_asked","_law_keeper_here"] ["_law_told","_law_cell_here","_law_asked"] (Jmt (top 88)):=⟨rfl,rfl,rfl,by decide +kernel,rfl,by decide +kernel,by decide +kernel⟩
theorem Jwn (T:Tx K mg a) (B:Bmn mg base):Ss P w K mg base CX0 1 a.Jlc a.Jld ["_law_told","_law_cell_here","_law_asked"] (Srh a):=by
 refine T.Jab.fn.okN T.Jg7 Sdd (λvs H Q E h=>?_) (λA outer s H vs Q E hr h=>?_)
 ·obtain ⟨td,cell,A,rfl,_⟩:=h
  rfl
 ·obtain ⟨td,cell,A,rfl,ht,k⟩:=h
  refine ⟨?t,PB.nox ?B,?C⟩
  case B=>
   refine' Yd6 (st:=nst (top 88) 0) (name:="_law_keeper_here") (qual:="_law_keeper.<locals>._law_keeper_here") (i:=3) (lb:=lb__law_keeper) (caps:=[("_law_asked",2),("_law_told",0),("_law_cell_here",1)]) T.Jg7 B rfl rfl rfl rfl rfl (by rfl) Ycz (λ_=>Yan) Sdd.nd rfl rfl (by intro y hy;simp only [ym,yad,or_false] at hy;rcases hy with rfl|rfl|rfl <;> exact ⟨rfl,by decide,rfl,rfl,rfl⟩) (by decide +kernel) ?O0
   case O0=>
   refine' PSs.pb ?O1
   case O1=>
   refine' Sy ?O2
   case O2=>exact (Jn0 (pv 3))
  refine ⟨ht,[.ref A,td,.int cell],?_,rfl,λf H' s' hf clo=>?_⟩
  ·intro y hy
   simp only [List.zip_cons_cons,List.zip_nil_right,ym,yad,or_false] at hy
   rcases hy with rfl|rfl|rfl <;> rfl
  ·exact ⟨_,rfl,k f H' s' clo⟩
theorem Sez:Jmy ["_law_told","_law_cell_here","_law_asked","_law_sky_here"] ["_law_told","_law_cell_here","_law_asked"] (Jmt (top 89)):=⟨rfl,rfl,rfl,by decide +kernel,rfl,by decide +kernel,by decide +kernel⟩
theorem Yo (T:Tx K mg a) (B:Bmn mg base):Ss P w K mg base CX0 1 a.Jle a.Jlf ["_law_told","_law_cell_here","_law_asked"] (Srm a):=by
 refine T.Jac.fn.okN T.Jg9 Sez (λvs H Q E h=>?_) (λA outer s H vs Q E hr h=>?_)
 ·obtain ⟨td,cell,A,rfl,_⟩:=h
  rfl
 ·obtain ⟨td,cell,A,rfl,ht,k⟩:=h
  refine ⟨?t,PB.nox ?B,?C⟩
  case B=>
   refine' Yd6 (st:=nst (top 89) 0) (name:="_law_sky_here") (qual:="_law_sky.<locals>._law_sky_here") (i:=3) (lb:=lb__law_sky) (caps:=[("_law_asked",2),("_law_told",0),("_law_cell_here",1)]) T.Jg9 B rfl rfl rfl rfl rfl (by rfl) Ycz (λ_=>Yan) Sez.nd rfl rfl (by intro y hy;simp only [ym,yad,or_false] at hy;rcases hy with rfl|rfl|rfl <;> exact ⟨rfl,by decide,rfl,rfl,rfl⟩) (by decide +kernel) ?O0
   case O0=>
   refine' PSs.pb ?O1
   case O1=>
   refine' Sy ?O2
   case O2=>exact (Jn0 (pv 3))
  refine ⟨ht,[.ref A,td,.int cell],?_,rfl,λf H' s' hf clo=>?_⟩
  ·intro y hy
   simp only [List.zip_cons_cons,List.zip_nil_right,ym,yad,or_false] at hy
   rcases hy with rfl|rfl|rfl <;> rfl
  ·exact ⟨_,rfl,k f H' s' clo⟩
def Saw (r:V->PyData->Prop):List V->List PyData->Prop
 | [],[]=>True
 |x::xs,d::ds=>r x d/\Saw r xs ds
 |_,_=>False
theorem Saw.map {r r':V->PyData->Prop} (f:∀v d,r v d->r' v d):∀{xs:List V} {ds:List PyData},Saw r xs ds->Saw r' xs ds
 | [],[],_=>True.intro
 |_::_,_::_,h=>⟨f _ _ h.1,Saw.map f h.2⟩
 | [],_::_,h=>h.elim
 |_::_,[],h=>h.elim
theorem Saw.len {r:V->PyData->Prop}:∀{xs:List V} {ds:List PyData},Saw r xs ds->xs.length=ds.length
 | [],[],_=>rfl
 |_::_,_::_,h=>congrArg (·+1) (Saw.len h.2)
 | [],_::_,h=>h.elim
 |_::_,[],h=>h.elim
theorem Saw.app {r:V->PyData->Prop} {ys:List V} {es:List PyData} (k:Saw r ys es):∀{xs:List V} {ds:List PyData},Saw r xs ds->Saw r (xs++ys) (ds++es)
 | [],[],_=>k
 |_::_,_::_,h=>⟨h.1,Saw.app k h.2⟩
 | [],_::_,h=>h.elim
 |_::_,[],h=>h.elim
theorem Saw.get {r:V->PyData->Prop}:∀{xs:List V} {ds:List PyData} {i:Nat} {x:V},Saw r xs ds->xs[i]?=some x->∃d,ds[i]?=some d/\r x d
 |_::_,d::_,0,_,h,e=>by cases e;exact ⟨d,rfl,h.1⟩
 |_::_,_::_,i+1,_,h,e=>Saw.get (i:=i) h.2 (by simpa using e)
 | [],[],_,_,_,e=>by simp at e
 | [],_::_,_,_,h,_=>h.elim
 |_::_,[],_,_,h,_=>h.elim
def TD (H:Hp):Nat->V->PyData->Prop
 |0,_,_=>False
 |n+1,v,d=>(∃i,v= .int i/\d= .int i)\/(v= .non/\d= .none)\/(∃b,v= .bl b/\d= .bool b)\/(∃z,v= .str z/\d= .str z)\/∃t xs ds,v= .ref t/\d= .tuple ds/\H t=some (.tup xs)/\xs.length < 300/\Saw (TD H n) xs ds
theorem TD.ll {H H':Hp} (s:LL H H'):∀{n:Nat} {v:V} {d:PyData},TD H n v d->TD H' n v d
 |0,_,_,h=>h.elim
 |n+1,_,_,h=>by
  rcases h with h|h|h|h|⟨t,xs,ds,e1,e2,ht,l,q⟩
  ·exact .inl h
  ·exact .inr (.inl h)
  ·exact .inr (.inr (.inl h))
  ·exact .inr (.inr (.inr (.inl h)))
  ·exact .inr (.inr (.inr (.inr ⟨t,xs,ds,e1,e2,s.get (by intro _ z;cases z) ht,l,q.map λv d h=>TD.ll s h⟩)))
theorem TD.int {H:Hp} {n:Nat} (i:Int):TD H (n+1) (.int i) (.int i):=.inl ⟨i,rfl,rfl⟩
theorem TD.bl {H:Hp} {n:Nat} (i:Bool):TD H (n+1) (.bl i) (.bool i):=.inr (.inr (.inl ⟨i,rfl,rfl⟩))
theorem TD.str {H:Hp} {n:Nat} (i:Str):TD H (n+1) (.str i) (.str i):=.inr (.inr (.inr (.inl ⟨i,rfl,rfl⟩)))
theorem TD.tup {H:Hp} {n:Nat} {t:S1} {xs:List V} {ds:List PyData} (h:H t=some (.tup xs)) (l:xs.length < 300) (q:Saw (TD H n) xs ds):TD H (n+1) (.ref t) (.tuple ds):=.inr (.inr (.inr (.inr ⟨t,xs,ds,rfl,rfl,h,l,q⟩)))
theorem Jx3 {H:Hp} {n:Nat}:∀{ns:List Int},Saw (TD H (n+1)) (ns.map V.int) (ns.map PyData.int)
 | []=>True.intro
 |i::_=>⟨.int i,Jx3⟩
theorem TD.ints {H:Hp} {n:Nat} {t:S1} {ns:List Int} (h:H t=some (.tup (ns.map V.int))) (l:ns.length < 300):TD H (n+2) (.ref t) (.tuple (ns.map PyData.int)):=.tup h (by rw [yf];exact l) Jx3
theorem TD.dat {K:Se} {H:Hp}:∀{n:Nat} {v:V} {d:PyData},TD H n v d->Sdx K H v d
 |0,_,_,h=>h.elim
 |n+1,_,_,h=>by
  rcases h with ⟨i,rfl,rfl⟩|⟨rfl,rfl⟩|⟨b,rfl,rfl⟩|⟨z,rfl,rfl⟩|⟨t,xs,ds,rfl,rfl,ht,l,q⟩
  ·exact .int i
  ·exact .non
  ·exact .bl b
  ·exact .str z
  ·refine .tup (Su.of ht) ?_
   clear ht l
   induction xs generalizing ds with
   |nil=>
    cases ds with
    |nil=>exact .nil
    |cons _ _=>exact q.elim
   |cons x xs ih=>
    cases ds with
    |nil=>exact q.elim
    |cons d ds=>exact .cons (TD.dat q.1) (ih ds q.2)
theorem Jxs {K:Se} {H:Hp} {n:Nat}:∀{xs:List V} {ds:List PyData},Saw (TD H n) xs ds->Scq K H xs ds
 | [],[],_=>.nil
 |_::_,_::_,h=>.cons h.1.dat (Jxs h.2)
 | [],_::_,h=>h.elim
 |_::_,[],h=>h.elim
theorem TD.alk {H:Hp}:∀{n:Nat} {v v':V} {d:PyData},TD H n v d->TD H n v' d->Alk H n v v'
 |0,_,_,_,h,_=>h.elim
 |n+1,_,_,_,h,h'=>by
  rcases h with ⟨i,rfl,rfl⟩|⟨rfl,rfl⟩|⟨b,rfl,rfl⟩|⟨z,rfl,rfl⟩|⟨t,xs,ds,rfl,rfl,ht,l,q⟩ <;> rcases h' with ⟨i',rfl,e⟩|⟨rfl,e⟩|⟨b',rfl,e⟩|⟨z',rfl,e⟩|⟨t',xs',ds',rfl,e,ht',l',q'⟩ <;> cases e
  ·exact .inl ⟨rfl,.inr (.inl ⟨_,rfl⟩)⟩
  ·exact .inl ⟨rfl,.inl rfl⟩
  ·exact .inl ⟨rfl,.inr (.inr (.inl ⟨_,rfl⟩))⟩
  ·exact .inl ⟨rfl,.inr (.inr (.inr ⟨_,rfl⟩))⟩
  ·refine .inr ⟨t,t',xs,xs',rfl,rfl,ht,ht',by rw [q.len,q'.len],l,λi x y ex ey=>?_⟩
   obtain ⟨d,ed,hd⟩:=q.get ex
   obtain ⟨d',ed',hd'⟩:=q'.get ey
   rw [ed] at ed'
   cases ed'
   exact TD.alk hd hd'
theorem TD.up {H:Hp}:∀{n:Nat} {v:V} {d:PyData},TD H n v d->TD H (n+1) v d
 |0,_,_,h=>h.elim
 |n+1,_,_,h=>by
  rcases h with h|h|h|h|⟨t,xs,ds,e1,e2,ht,l,q⟩
  ·exact .inl h
  ·exact .inr (.inl h)
  ·exact .inr (.inr (.inl h))
  ·exact .inr (.inr (.inr (.inl h)))
  ·exact .inr (.inr (.inr (.inr ⟨t,xs,ds,e1,e2,ht,l,q.map λv d h=>TD.up h⟩)))
section
variable (R:Jn4) (S:Riv) (cell:Int) (ls:List Int) (wt:Int)
def stF:Nat->List Int×Int
 |0=>(ls,wt)
 |i+1=>(Jpw S (R.Bs.map (·.G)) (stF i).1 (pkC R S cell (stF i).1 (stF i).2 i) (pkT R S cell (stF i).1 (stF i).2 i) (pkR R S cell (stF i).1 (stF i).2 i),Jtw S (stF i).2 (pkR R S cell (stF i).1 (stF i).2 i))
def uL (i:Nat):List Int:=(stF R S cell ls wt i).1
def uW (i:Nat):Int:=(stF R S cell ls wt i).2
def uC (i:Nat):List Int:=pkC R S cell (uL R S cell ls wt i) (uW R S cell ls wt i) i
def uT (i:Nat):V:=pkT R S cell (uL R S cell ls wt i) (uW R S cell ls wt i) i
def uR (i:Nat):List Int:=pkR R S cell (uL R S cell ls wt i) (uW R S cell ls wt i) i
def uV (i:Nat):List Int:=Jpw S (R.Bs.map (·.G)) (uL R S cell ls wt i) (uC R S cell ls wt i) (uT R S cell ls wt i) (uR R S cell ls wt i)
def uO (i:Nat):List Int:=Jpg S (R.Bs.map (·.G)) (uL R S cell ls wt i) (uC R S cell ls wt i) (uT R S cell ls wt i)
def uD (i:Nat):Int:=drw S (uL R S cell ls wt i) (uT R S cell ls wt i)
def uB (i:Nat):List Int:=Joq 0 S.Bs (uV R S cell ls wt i)
theorem Jqm (i:Nat):uL R S cell ls wt (i+1)=uV R S cell ls wt i:=by simp only [uL,uV,uC,uT,uR,uW,stF]
theorem Jvh (i:Nat):uW R S cell ls wt (i+1)=Jtw S (uW R S cell ls wt i) (uR R S cell ls wt i):=by simp only [uL,uR,uW,stF]
def Sf5 (many n:Nat):Prop:=n<=many/\(∀j,j+1 < n->uB R S cell ls wt j= [])/\(n=many\/∃j,n=j+1/\uB R S cell ls wt j≠ [])
def dT:V->PyData
 | .int j=>.int j
 |_=>.none
def dI (ns:List Int):PyData:=.tuple (ns.map PyData.int)
def dS (i:Nat):PyData:=.tuple [dI (uL R S cell ls wt i),.int (uW R S cell ls wt i)]
def dC (i:Nat):PyData:=.tuple [dI (uC R S cell ls wt i),dT (uT R S cell ls wt i)]
def Jqs:Nat->List PyData
 |0=>[]
 |i+1=>Jqs i++ [.tuple [.str "keeper",dS R S cell ls wt i,.int i],.tuple [.str "sky",dS R S cell ls wt i,dC R S cell ls wt i,.int i]]
def dU (i:Nat):PyData:=.tuple [dC R S cell ls wt i,dI (uR R S cell ls wt i),dI (uV R S cell ls wt i),.int (uW R S cell ls wt (i+1)),dI (uO R S cell ls wt i),.int (uD R S cell ls wt i),.bool (decide (uD R S cell ls wt i > 0)),dI (uB R S cell ls wt i)]
def dUs (n:Nat):List PyData:=(yz n).map (dU R S cell ls wt)
end
theorem Sf5.uniq {R:Jn4} {S:Riv} {cell:Int} {ls:List Int} {wt:Int} {many n m:Nat} (h:Sf5 R S cell ls wt many n) (k:Sf5 R S cell ls wt many m):n=m:=by
 have lt:∀{n m:Nat},Sf5 R S cell ls wt many n->Sf5 R S cell ls wt many m->¬n < m:=λ{n m} h k z=>by
  obtain ⟨_,_,h3⟩:=h
  obtain ⟨k1,k2,_⟩:=k
  rcases h3 with rfl|⟨j,rfl,ne⟩
  ·omega
  ·exact ne (k2 j z)
 rcases Nat.lt_trichotomy n m with z|z|z
 ·exact absurd z (lt h k)
 ·exact z
 ·exact absurd z (lt k h)
def Sdq (a:Ad) (H:Hp) (R:Jn4) (S:Riv) (cell:Int) (ls:List Int) (wt:Int) (v:V) (i:Nat):Prop:=∃(p:S1) (c:V) (r:S1),v= .ref p/\Sey a H p c (.ref r) S (R.Bs.map (·.G)) (uL R S cell ls wt i) (uC R S cell ls wt i) (uW R S cell ls wt i) (uT R S cell ls wt i) (uR R S cell ls wt i)/\Sb4 H c R (uC R S cell ls wt i) (uT R S cell ls wt i)/\H r=some (.tup ((uR R S cell ls wt i).map V.int))
theorem Sb4.ll {H H':Hp} {x:V} {R:Jn4} {ls:List Int} {tv:V} (s:LL H H') (h:Sb4 H x R ls tv):Sb4 H' x R ls tv:=
 let ⟨⟨y,u,e,h1,h2⟩,r⟩:=h
 ⟨⟨y,u,e,s.get (by intro _ z;cases z) h1,s.get (by intro _ z;cases z) h2⟩,r⟩
theorem Sal.ll {H H':Hp} {x:V} {R:Jn4} {ls:List Int} {wt:Int} (s:LL H H') (h:Sal H x R ls wt):Sal H' x R ls wt:=
 let ⟨⟨y,u,e,h1,h2⟩,r⟩:=h
 ⟨⟨y,u,e,s.get (by intro _ z;cases z) h1,s.get (by intro _ z;cases z) h2⟩,r⟩
theorem Sey.ll {a:Ad} {H H':Hp} {p:S1} {c r:V} {S:Riv} {Gs:List Jnj} {ls cs:List Int} {wt:Int} {tv:V} {rn:List Int} (s:LL H H') (h:Sey a H p c r S Gs ls cs wt tv rn):Sey a H' p c r S Gs ls cs wt tv rn:=by
 obtain ⟨dx,u,lv,q,h1,h2,h3,h4⟩:=h
 exact ⟨dx,u,lv,q,s.get (by intro _ z;cases z) h1,s.get (by intro _ z;cases z) h2,s.get (by intro _ z;cases z) h3,s.get (by intro _ z;cases z) h4⟩
theorem Sdq.ll {a:Ad} {H H':Hp} {R:Jn4} {S:Riv} {cell:Int} {ls:List Int} {wt:Int} {v:V} {i:Nat} (s:LL H H') (h:Sdq a H R S cell ls wt v i):Sdq a H' R S cell ls wt v i:=by
 obtain ⟨p,c,r,e,h1,h2,h3⟩:=h
 exact ⟨p,c,r,e,h1.ll s,h2.ll s,s.get (by intro _ z;cases z) h3⟩
def SqP (r:V->Nat->Prop) (ts:List V) (n:Nat):Prop:=ts.length=n/\∀i v,ts[i]?=some v->r v i
theorem SqP.map {r r':V->Nat->Prop} {ts:List V} {n:Nat} (f:∀v i,r v i->r' v i) (h:SqP r ts n):SqP r' ts n:=⟨h.1,λi v e=>f v i (h.2 i v e)⟩
theorem SqP.snoc {r:V->Nat->Prop} {ts:List V} {n:Nat} {v:V} (h:SqP r ts n) (k:r v n):SqP r (ts++ [v]) (n+1):=by
 refine ⟨by rw [yae,h.1];rfl,λi x e=>?_⟩
 rw [yca] at e
 split at e
 ·exact h.2 i x e
 ·rename_i ni
  have hi:i - ts.length=0:=by
   have:=(yj.mp e).1
   simpa using this
  have:=h.1
  have ei:i=n:=by omega
  rw [hi] at e
  cases e
  rw [ei]
  exact k
theorem SqP.all {r:V->Nat->Prop} {q:V->PyData->Prop} {ts:List V} {ds:List PyData} (h:SqP r ts ds.length) (f:∀i v d,r v i->ds[i]?=some d->q v d):Saw q ts ds:=by
 induction ts generalizing r ds with
 |nil=>
  cases ds with
  |nil=>exact True.intro
  |cons _ _=>exact absurd h.1 (by simp)
 |cons v ts ih=>
  cases ds with
  |nil=>exact absurd h.1 (by simp)
  |cons d ds=>exact ⟨f 0 v d (h.2 0 v rfl) rfl,ih (r:=λv i=>r v (i+1)) ⟨by simpa using h.1,λi v e=>h.2 (i+1) v (by simpa using e)⟩ λi v d q e=>f (i+1) v d q (by simpa using e)⟩
def Sbm (a:Ad) (H:Hp) (R:Jn4) (S:Riv) (cell:Int) (ls:List Int) (wt:Int) (ts:List V) (n:Nat):Prop:=SqP (Sdq a H R S cell ls wt) ts n
theorem Sbm.ll {a:Ad} {H H':Hp} {R:Jn4} {S:Riv} {cell:Int} {ls:List Int} {wt:Int} {ts:List V} {n:Nat} (s:LL H H') (h:Sbm a H R S cell ls wt ts n):Sbm a H' R S cell ls wt ts n:=SqP.map (λ_ _ h=>h.ll s) h
theorem Exc.ll {A:S1} {H H':Hp} {as as':List V} (hA:H A=some (.lst as)) (hA':H' A=some (.lst as')) (x:Exc A H H'):LL H H':=λc o e=>by
 by_cases z:c=A
 ·subst z
  rw [hA] at e
  exact .inr ⟨⟨_,(yv.inj e).symm⟩,_,hA'⟩
 ·exact .inl (x c o z e)
def Sno (b:V) (t:S1):List (Str×V):=[("begin",b),("turns",.ref t)]
theorem pfR (b:V) (t:S1):Joa "turns" (.ref t) (Joa "begin" b [])=Sno b t:=Jnx (show (["begin"]:List Str).contains "turns" =false by decide +kernel)
inductive So5 (a:Ad) (vs:List V) (H:Hp) (Q:VK) (z3:XK):Prop where
 |mk (p dx L:S1) (H0:Hp) (b:V) (ts:List V) (_:vs= [.ref p,b,.ref L]) (_:H0 p=none) (_:Sj H0 H) (_:H p=some (.ins a.Jma dx [])) (_:H L=some (.lst ts)) (_:∀t H',Sj H0 H'->H' p=some (.ins a.Jma dx (Sno b t))->H' t=some (.tup ts)->Q .non H')
structure RnX (K:Se) (a:Ad) (H:Hp) (A f g p o:S1) (H0:Hp) (td:V) (R:Jn4) (S:Riv) (cell:Int):Prop where
 n0:H0 A=none
 s0:Sj H0 H
 wx:WX K a p o H0 td R S
 kp:Ycc H f A td cell
 sk:Slm H g A td cell
theorem Sbz.ll {H H':Hp} {f:S1} {name qual:Str} {st:Stmt} {caps:List (Str×V)} (s:LL H H') (h:Sbz H f name qual st caps):Sbz H' f name qual st caps:=by
 obtain ⟨clos,c,a,b,d,e,g,k⟩:=h
 have ce:∀b v,Scp H b v->Scp H' b v:=λb v ⟨o,u,q1,q2,q3⟩=>⟨o,u,s.get (by intro _ z;cases z) q1,q2,q3⟩
 exact ⟨clos,c,s.get (by intro _ z;cases z) a,s.get (by intro _ z;cases z) b,d,e,λx b z=>let ⟨v,q⟩:=g x b z;⟨v,ce _ _ q⟩,λx v z=>let ⟨b,q1,q2⟩:=k x v z;⟨b,q1,ce _ _ q2⟩⟩
theorem RnX.exc {K:Se} {a:Ad} {H H':Hp} {A f g p o:S1} {H0:Hp} {td:V} {R:Jn4} {S:Riv} {cell:Int} {as as':List V} (hA:H A=some (.lst as)) (hA':H' A=some (.lst as')) (e:Exc A H H') (h:RnX K a H A f g p o H0 td R S cell):RnX K a H' A f g p o H0 td R S cell:=⟨h.n0,e.of h.n0 h.s0,h.wx,Sbz.ll (e.ll hA hA') h.kp,Sbz.ll (e.ll hA hA') h.sk⟩
inductive Snz (K:Se) (a:Ad) (vs:List V) (H:Hp) (Q:VK) (z3:XK):Prop where
 |mk (A f g p o:S1) (as:List V) (H0:Hp) (td:V) (R:Jn4) (S:Riv) (x:V) (ls:List Int) (wt cell k:Int) (_:vs= [.ref o,x,.ref f,.ref g,.int k]) (_:H A=some (.lst as)) (_:as.length<=900) (_:RnX K a H A f g p o H0 td R S cell) (_:Sal H x R ls wt) (_:∀(q t1 t2:S1) (c:V) (r:S1) (H':Hp),Exc A H H'->H' A=some (.lst (as++ [.ref t1,.ref t2]))->H' t1=some (.tup [.str "keeper",x,.int k])->H' t2=some (.tup [.str "sky",x,c,.int k])->Sey a H' q c (.ref r) S (R.Bs.map (·.G)) ls (pkC R S cell ls wt k) wt (pkT R S cell ls wt k) (pkR R S cell ls wt k)->Skl H' R S cell ls wt k c r->Q (.ref q) H')
theorem Jv8:Jmy ["self","begin","turns"] ["self","begin","turns"] (Jmt (Jn2 (top 37) 0)):=⟨rfl,rfl,rfl,by decide +kernel,rfl,by decide +kernel,by decide +kernel⟩
theorem Jzg (T:Tx K mg a):Ss P w K mg base CX0 1 a.Jig a.Jih ["self","begin","turns"] (So5 a):=by
 refine T.Jd3.fn.ok Jv8 (λvs H Q E h=>?_) (λcdv A outer s H vs Q E hr h=>?_)
 ·obtain ⟨p,dx,L,H0,b,ts,rfl,_⟩:=h
  rfl
 ·obtain ⟨p,dx,L,H0,b,ts,rfl,np,s0,hp,hL,k⟩:=h
  refine ⟨?t,?B,?C⟩
  case B=>
   refine' Sw ?O0 ?O1
   case O0=>exact (Jny (pv 0) (pv 1) rfl)
   case O1=>
   refine' Sy ?O2
   case O2=>exact (Jny (pv 0) (Jnd Jnl (by rfl) T.Jb6 Jnq (Sk (pv 2) Sm)) rfl)
  have nL:L≠p:=λz=>by rw [z,hp] at hL;cases hL
  have new:∀{Ha:Hp} {ob:HO},Sj H0 Ha->Sj H0 (upd Ha p ob):=λs b oo e=>by rw [Sz (Jmw e np)];exact s _ _ e
  refine ⟨_,rfl,_,rfl,p,_,dx,[],rfl,hp,T.Je3,T.Jfn,by simp,?_⟩
  refine ⟨_,rfl,L,_,rfl,.inl ⟨Sv.of (by rw [Sz nL];exact hL),λt ht=>?_⟩⟩
  have nt:p≠t:=λz=>by rw [<-z,Sr] at ht;cases ht
  refine ⟨_,rfl,p,_,dx,_,rfl,(by rw [Sz nt];exact Sr),T.Je3,T.Jfo,by simp [Joa],?_⟩
  rw [pfR]
  exact k t _ (new ((new s0).trans (Sj.upd ht))) Sr (by rw [Sz nt.symm];exact Sr)
theorem Sds:Jmy ["river","standing","keeper","sky","k","choice"] ["river","standing","keeper","sky","k"] (Jmt (top 38)):=⟨rfl,rfl,rfl,by decide +kernel,rfl,by decide +kernel,by decide +kernel⟩
theorem Jya (T:Tx K mg a):Ss P w K mg base (CXX P w) 8 a.Jis a.Jit ["river","standing","keeper","sky","k"] (Snz K a):=by
 have Sis:=Ybn (P:=P) (w:=w) (base:=base) T
 have Spx:=Sne (P:=P) (w:=w) (base:=base) T
 have Scw:=Jtk (P:=P) (w:=w) (base:=base) T
 have Saz:=Jqw (P:=P) (w:=w) (base:=base) T
 have Sit:=Ybo (P:=P) (w:=w) (base:=base) T
 refine T.Ji.fn.okX Sds (λvs H Q E h=>?_) (λcdv A outer s H vs Q E hr h=>?_)
 ·obtain ⟨A,f,g,p,o,as,H0,td,R,S,x,ls,wt,cell,k,rfl,_⟩:=h
  rfl
 ·obtain ⟨A,f,g,p,o,as,H0,td,R,S,x,ls,wt,cell,kk,rfl,hA,la,rx,sd,k⟩:=h
  refine ⟨?t,?B,?C⟩
  case B=>
   refine' Sw ?O0 ?O1
   case O0=>exact (Jn3 (i:=5) Sds.nd rfl (ye rfl) (Jzq Sis hr (by decide) 2 (Sk (pv 1) (Sk (pv 4) Sm))))
   case O1=>
   refine' Sw ?O2 ?O3
   case O2=>
    refine' Jng ?O4 ?O5 ?O6
    case O4=>exact (Jnh (Jnf (Jmv T.J7 Scw hr (by decide) (Sk (pv 0) (Sk (pv 5) Sm)))))
    case O5=>
     refine' Sy ?O7
     case O7=>exact (Jns Jnu rfl (Job T.Jdx Saz hr (by decide) T.Jcy.bd T.Jbf (Sk (pv 5) Sm)))
    case O6=>exact Jn6
   case O3=>
   refine' Sy ?O8
   case O8=>
   refine' Jn0 ?O9
   case O9=>exact (Jow T.Jh Sit Jnu hr (by decide) (pa4 (pv 0) (pv 1) (pv 5) (Jzq Spx hr (by decide) 3 (Sk (pv 1) (Sk (pv 5) (Sk (pv 4) Sm))))))
  refine ⟨f,rfl,_,rfl,_,rfl,[.ref A,td,.int cell],rx.kp,A,as,H0,p,o,td,R,S,x,ls,wt,cell,kk,rfl,rfl,hA,by omega,rx.n0,rx.s0,rx.wx,sd,λt1 c r1 H1 e1 hA1 ht1 pk1=>?_⟩
  have rx1:=rx.exc hA hA1 e1
  have wx1:=rx1.wx.same rx1.s0
  have sd1:=sd.exc hA e1
  obtain ⟨q1,q2,g1⟩:=Shi.of wx1.rt wx1.rg wx1.lk wx1.rv sd1 pk1.1 pk1.2.1 pk1.2.2
  refine ⟨_,rfl,_,rfl,o,S,c,q2,rfl,wx1.rv.ro,g1.pc,λH2 s2=>⟨_,rfl,?_⟩⟩
  rw [g1.cb]
  refine Jnv ?_
  have rx2:=rx1.exc hA1 (s2 _ _ hA1) (Exc.same s2)
  have sd2:=sd1.same s2
  refine ⟨_,rfl,_,rfl,_,rfl,g,rfl,_,rfl,_,rfl,_,rfl,[.ref A,td,.int cell],rx2.sk,A,_,H0,p,o,td,R,S,x,c,ls,wt,cell,kk,rfl,rfl,s2 _ _ hA1,(by rw [yae];show as.length+1<=1000;omega),rx2.n0,rx2.s0,rx2.wx,sd2,λt2 c2 r H3 e3 hA3 ht3 pk3=>?_⟩
  have hA2:=s2 _ _ hA1
  have rx3:=rx2.exc hA2 hA3 e3
  have wx3:=rx3.wx.same rx3.s0
  have sd3:=sd2.exc hA2 e3
  have ch3:=(pk1.1.same s2).exc hA2 e3
  obtain ⟨q,r',g3⟩:=Shi.of wx3.rt wx3.rg wx3.lk wx3.rv sd3 ch3 pk3.2.1 pk3.2.2
  refine ⟨o,S,_,x,c,.ref r,q,r',_,rfl,wx3.rv,g3.px,g3.pc,g3.rr,?_⟩
  unfold Sj4
  rw [if_pos g3.sb,if_pos g3.cb,g3.wq,if_pos g3.rb]
  intro ls' cs' rn' wt' tv' ra' t H4 st' ch' er hr' s4 tr
  obtain ⟨rfl,rfl⟩:=StA.inj g3.li.st st'
  obtain ⟨rfl,rfl⟩:=ChA.inj g3.li.ch ch'
  cases er
  rw [pk3.2.1] at hr'
  obtain rfl:=Jvr (show (pkR R S cell ls' wt' kk).map V.int=rn'.map V.int by simpa using hr')
  have ht1':=e3.get hA2 (s2 _ _ ht1) (by intro _ z;cases z)
  refine k t t1 t2 c r H4 ((e1.trans (Exc.same s2)).trans (e3.trans (Exc.same s4))) ?_ (s4 _ _ ht1') (s4 _ _ ht3) tr ⟨ch3.same s4,s4 _ _ pk3.2.1,pk3.2.2⟩
  have:=s4 _ _ hA3
  rw [List.append_assoc] at this
  exact this
section
variable (R:Jn4) (S:Riv) (cell:Int) (ls:List Int) (wt:Int)
structure GdI (i:Nat):Prop where
 ll:(uL R S cell ls wt i).length=S.Bs.length
 rl:(uR R S cell ls wt i).length=S.Bs.length
 so:Sb1 (R.Bs.map (·.G)) (uC R S cell ls wt i) (lft S (uL R S cell ls wt i) (uT R S cell ls wt i))
 lb:∀n∈uL R S cell ls wt i,0<=n/\n<=12
 rd:∀n∈uR R S cell ls wt i,0<=n/\n<=6
end
theorem Jz3 {R:Jn4} {S:Riv} {cell:Int} {ls:List Int} {wt:Int} {i:Nat}:(Jqs R S cell ls wt i).length=2*i:=by
 induction i with
 |zero=>rfl
 |succ i ih=>rw [Jqs,yae,ih];rfl
theorem Sal.td {H:Hp} {x:V} {R:Jn4} {ls:List Int} {wt:Int} (h:Sal H x R ls wt) (n:R.Bs.length<=16):TD H 3 x (.tuple [dI ls,.int wt]):=by
 obtain ⟨⟨y,u,rfl,hy,hu⟩,l,_⟩:=h
 exact .tup hy (show 2 < 300 by decide) ⟨.ints hu (by omega),.int _,True.intro⟩
theorem Sb4.td {H:Hp} {x:V} {R:Jn4} {ls:List Int} {tv:V} (h:Sb4 H x R ls tv) (n:R.Bs.length<=16):TD H 3 x (.tuple [dI ls,dT tv]):=by
 obtain ⟨⟨y,u,rfl,hy,hu⟩,l,_,tw⟩:=h
 refine .tup hy (show 2 < 300 by decide) ⟨.ints hu (by omega),?_,True.intro⟩
 rcases tw with rfl|⟨j,rfl,_⟩
 ·exact .inr (.inl ⟨rfl,rfl⟩)
 ·exact .int j
theorem Y2 {H:Hp} {y u:S1} {R:Jn4} {S:Riv} {lv:List Int} {wet:Int} (lk:Jse R S) (l:lv.length=S.Bs.length) (hb:Joq 0 S.Bs lv= []) (w:0<=wet/\wet<=S.c) (h1:H y=some (.tup [.ref u,.int wet])) (h2:H u=some (.tup (lv.map V.int))):Sal H (.ref y) R lv wet:=by
 have hl':=Jpe lk
 refine ⟨⟨y,u,rfl,h1,h2⟩,by omega,λn v e1=>?_,w.1,by rw [<-lk.c];exact w.2⟩
 have hn:n < lv.length:=(yj.mp e1).1
 have eB:S.Bs[n]?=some (S.Bs[n]'(by omega)):=yh (by omega)
 have eC:R.Bs[n]?=some (R.Bs[n]'(by omega)):=yh (by omega)
 have q:=Ych hb n v _ e1 eB
 have key:=Jrr lk eB eC
 have q1:(S.Bs[n]'(by omega)).lo=(R.Bs[n]'(by omega)).lo:=congrArg (·.2.1) key
 have q2:(S.Bs[n]'(by omega)).hi=(R.Bs[n]'(by omega)).hi:=congrArg (·.2.2.1) key
 exact ⟨_,eC,by omega,by omega⟩
theorem Jxz {S:Riv} {Gs:List Jnj} {ls cs rn:List Int} {tv:V} (l:ls.length=S.Bs.length) (so:Sb1 Gs cs (lft S ls tv)) (r:rn.length=S.Bs.length):(Jpg S Gs ls cs tv).length=S.Bs.length/\(Jpw S Gs ls cs tv rn).length=S.Bs.length:=by
 have e:=so.len
 have fl:(lft S ls tv).length=ls.length:=Jtg
 have ol:(Jpg S Gs ls cs tv).length=Gs.length:=Jq6 e.1 e.2
 refine ⟨by omega,?_⟩
 have:(Jpw S Gs ls cs tv rn).length=(lft S ls tv).length:=Jrq (by omega) (by omega)
 omega
theorem Sob {K:Se} {H:Hp} {x:V} {R:Jn4} {S:Riv} {ls:List Int} {wt:Int} (rg:Jp8 R) (lk:Jse R S) (h:Sal H x R ls wt):∃q,PrT K H x q/\stB S q=true:=by
 have hl:=Jpe lk
 have hn:=rg.n
 obtain ⟨⟨y,u,rfl,hy,hu⟩,lls,lin,w0,w1⟩:=h
 refine ⟨.two (.ref u) (.int wt) (some (ls.map V.int)),⟨y,rfl,hy,⟨u,rfl,hu,λv hv=>Jra hv,by rw [yf];omega⟩,.inl ⟨wt,rfl⟩⟩,?_⟩
 show ((decide (0<=wt)&&decide (wt<=S.c))&&Jq4 (some (ls.map V.int)) (S.Bs.map (·.lo)) (S.Bs.map (·.hi)))=true
 rw [Jvg (by rw [yf];omega) (by simp),decide_eq_true w0,decide_eq_true (by rw [lk.c];exact w1)]
 ·rfl
 ·intro i n l h e1 e2 e3
  rw [yg] at e2 e3
  obtain ⟨B,hB,rfl⟩:=yw.mp e2
  rw [hB] at e3
  cases e3
  obtain ⟨C,eC,b⟩:=lin i n e1
  have q:=Jrr lk hB eC
  have q1:B.lo=C.lo:=congrArg (·.2.1) q
  have q2:B.hi=C.hi:=congrArg (·.2.2.1) q
  show B.lo<=n/\n<=B.hi
  rw [q1,q2]
  exact b
def Ya8 (a:Ad) (H:Hp) (r:S1) (x:V) (ts:List V):Prop:=∃dx t,H r=some (.ins a.Jma dx (Sno x t))/\H t=some (.tup ts)
inductive Srk (K:Se) (a:Ad) (vs:List V) (H:Hp) (Q:VK) (z3:XK):Prop where
 |mk (A f g p o:S1) (H0:Hp) (td:V) (R:Jn4) (S:Riv) (x:V) (ls:List Int) (wt cell:Int) (n:Nat) (_:vs= [.ref o,x,.ref f,.ref g,.int n]) (_:n<=200) (_:H A=some (.lst [])) (_:RnX K a H A f g p o H0 td R S cell) (_:Sal H x R ls wt) (_:∀(r:S1) (ts asv:List V) (m:Nat) (H':Hp),Exc A H H'->Sf5 R S cell ls wt n m->(∀j,j < m->GdI R S cell ls wt j)->Ya8 a H' r x ts->Sbm a H' R S cell ls wt ts m->H' A=some (.lst asv)->Saw (TD H' 4) asv (Jqs R S cell ls wt m)->Q (.ref r) H')
theorem Se6:Jmy ["river","standing","keeper","sky","many","turns","now","k","turn"] ["river","standing","keeper","sky","many"] (Jmt (top 39)):=⟨rfl,rfl,rfl,by decide +kernel,rfl,by decide +kernel,by decide +kernel⟩
theorem Snd (T:Tx K mg a):Ss P w K mg base (CXX P w) 9 a.Jiu a.Jiv ["river","standing","keeper","sky","many"] (Srk K a):=by
 have Sgp:=Jya (P:=P) (w:=w) (base:=base) T
 have Sx:=Jo6 (P:=P) (w:=w) (base:=base) T
 have Sb5:=Jq9 (P:=P) (w:=w) (base:=base) T
 have Sb0:=Jqx (P:=P) (w:=w) (base:=base) T
 have Sa8:=Jp5 (P:=P) (w:=w) (base:=base) T
 have Sbq:=Jqy (P:=P) (w:=w) (base:=base) T
 have Ses:=Jzg (P:=P) (w:=w) (base:=base) T
 refine T.Jj.fn.okX Se6 (λvs H Q E h=>?_) (λcdv A outer s H vs Q E hr h=>?_)
 ·obtain ⟨A,f,g,p,o,H0,td,R,S,x,ls,wt,cell,n,rfl,_⟩:=h
  rfl
 ·obtain ⟨A,f,g,p,o,H0,td,R,S,x,ls,wt,cell,n,rfl,hn,hA,rx,sd,k⟩:=h
  refine ⟨?t,?B,?C⟩
  case B=>
   refine' Sw ?O0 ?O1
   case O0=>
    refine' Jng ?O2 ?O3 ?O4
    case O2=>exact (Jnh (Jnf (Jmv T.J0 Sx hr (by decide) (Sk (pv 4) (Sk So (Sk (Jo5 (by rfl) T.Jai (v:=.int 200) ⟨_,rfl⟩) Sm))))))
    case O3=>
     refine' Sy ?O5
     case O5=>exact (Jns Jnu rfl (Job T.Jdz Sb0 hr (by decide) T.Jd0.bd T.Jbh (Sk (pv 4) Sm)))
    case O4=>exact Jn6
   case O1=>
   refine' Sw ?O6 ?O7
   case O6=>
    refine' Jng ?O8 ?O9 ?Oa
    case O8=>exact (Jnh (Jnf (Jmv T.J6 Sb5 hr (by decide) (Sk (pv 0) (Sk (pv 1) Sm)))))
    case O9=>
     refine' Sy ?Ob
     case Ob=>exact (Jns Jnu rfl (Job T.Jdw Sa8 hr (by decide) T.Jcx.bd T.Jbe (Sk (pv 1) Sm)))
    case Oa=>exact Jn6
   case O7=>
   refine' Sw ?Oc ?Od
   case Oc=>exact (Jn3 (i:=5) Se6.nd rfl (ye rfl) (Jol Sm))
   case Od=>
   refine' Sw ?Oe ?Of
   case Oe=>exact (Jn3 (i:=6) Se6.nd rfl (ye rfl) (pv 1))
   case Of=>
   refine' Sw ?Og ?Oh
   case Og=>
    refine' Jpj ?Oi ?Oj ?Ok ?Ol ?Om
    case Oi=>exact PassesOwn.leaving
    case Oj=>exact rfl
    case Ok=>exact (Jpc (by rfl) T.Jb2 (Sk (pv 4) Sm))
    case Ol=>exact (Jmz (i:=7) Se6.nd rfl (ye rfl))
    case Om=>
    refine' Sw ?On ?Oo
    case On=>exact (Jn3 (i:=8) Se6.nd rfl (ye rfl) (Jow T.Ji Sgp Jnu hr (by decide) (pa5 (pv 0) (pv 6) (pv 2) (pv 3) (pv 7))))
    case Oo=>
    refine' Sw ?Op ?Oq
    case Op=>exact (Jp0 (Js0 F.plainAttrs_list F.slot_list_append F.type_list_append Joz (pv 5) (Sk (pv 8) Sm)))
    case Oq=>
    refine' Sw ?Or ?Os
    case Or=>
     refine' Jng ?Ot ?Ou ?Ov
     case Ot=>exact (Jnp Jrf (Jmx Jn8 (by rfl) T.Jay Jnz (Sk (Jna (pv 8) (by rfl)) Sm)) So (Jni _))
     case Ou=>
      refine' Sy ?Ow
      case Ow=>exact Jzs
     case Ov=>exact Jn6
    case Os=>
    refine' Sy ?Ox
    case Ox=>exact (Jn3 (i:=6) Se6.nd rfl (ye rfl) (Jqc (pv 8) T.Je0 T.Je2 Sbq (hr.mono (by decide)) T.Jd2.bd .nil Jph))
   case Oh=>
   refine' Sy ?Oy
   case Oy=>exact (Jn0 (Jq3 T.Je5 Ses (hr.mono (by decide)) (by rfl) T.Jbj T.Jd3.bd .nil Jph (Sk (pv 1) (Sk (pv 5) Sm))))
  have wx:=rx.wx.same rx.s0
  have rn:=wx.rg.n
  refine ⟨_,rfl,.int n,0,200,rfl,.inl ⟨_,rfl⟩,_,rfl,?_⟩
  have wh:Jnc (.int (n:Int)) 0 200=true:=by
   show (decide ((0:Int)<=n)&&decide ((n:Int)<=200))=true
   rw [decide_eq_true (by omega),decide_eq_true (by omega)]
   rfl
  rw [wh]
  refine Jnv ?_
  obtain ⟨q0,pq,sq⟩:=Sob (K:=K) wx.rg wx.lk sd
  refine ⟨_,rfl,_,rfl,o,S,x,q0,rfl,wx.rv.ro,pq,λH1 s1=>⟨_,rfl,?_⟩⟩
  rw [sq]
  refine Jnv ⟨(show 0<=S6 by decide),λL hL=>?_⟩
  have hA1:=s1 _ _ hA
  have nLA:L≠A:=λz=>by rw [z,hA1] at hL;cases hL
  have s2:=Sj.upd (o:=.lst []) hL
  refine ⟨_,rfl,?_⟩
  dsimp only [Jpa]
  refine Jql (λσ H'=>∃(o6 o7 o8:Option V) (m:Nat) (ts asv:List V),σ= [some (.ref o),some x,some (.ref f),some (.ref g),some (.int n),some (.ref L),o6,o7,o8]/\Exc A H1 H'/\H' L=some (.lst ts)/\Sf5 R S cell ls wt n m/\(∀j,j < m->GdI R S cell ls wt j)/\Sbm a H' R S cell ls wt ts m/\H' A=some (.lst asv)/\Saw (TD H' 4) asv (Jqs R S cell ls wt m)) (λR' hR=>?_) ?_
  ·refine ⟨_,rfl,n,rfl,by omega,by omega,?_⟩
   refine Jpn (λi σ H'=>∃(o7 o8:Option V) (nv:V) (ts asv:List V),σ= [some (.ref o),some x,some (.ref f),some (.ref g),some (.int n),some (.ref L),some nv,o7,o8]/\Exc A H1 H'/\H' L=some (.lst ts)/\(∀j,j < i->uB R S cell ls wt j= []/\GdI R S cell ls wt j)/\Sbm a H' R S cell ls wt ts i/\H' A=some (.lst asv)/\Saw (TD H' 4) asv (Jqs R S cell ls wt i)/\Sal H' nv R (uL R S cell ls wt i) (uW R S cell ls wt i)) ⟨_,_,_,[],[],rfl,Exc.same s2,Sr,(λj hj=>absurd hj (yby j)),⟨rfl,λi v e=>by simp at e⟩,s2 _ _ hA1,True.intro,(sd.same s1).same s2⟩ ?_ ?_
   ·rintro i σ H' hi ⟨o7,o8,nv,ts,asv,rfl,e1,hL',gd,tsa,hA',al,sdi⟩
    have hi':i < n:=by omega
    have rx':=rx.exc hA hA' ((Exc.same s1).trans e1)
    have tl:=tsa.1
    have al':=al.len
    rw [Jz3] at al'
    refine ⟨_,rfl,_,rfl,_,rfl,_,rfl,_,rfl,A,f,g,p,o,asv,H0,td,R,S,nv,uL R S cell ls wt i,uW R S cell ls wt i,cell,i,?_,hA',by omega,rx',sdi,λq t1 t2 c r H2 e2 hA2 ht1 ht2 tr pk=>?_⟩
    ·rw [Int.zero_add]
    have rx2:=rx'.exc hA' hA2 e2
    have wx2:=rx2.wx.same rx2.s0
    have sd2:=sdi.exc hA' e2
    obtain ⟨_,_,g2⟩:=Shi.of wx2.rt wx2.rg wx2.lk wx2.rv sd2 pk.1 pk.2.1 pk.2.2
    have gdi:GdI R S cell ls wt i:=⟨by rw [sdi.2.1];exact (Jpe wx2.lk).symm,g2.li.rl,g2.li.so,g2.lb,g2.rd⟩
    have ll2:=e2.ll hA' hA2
    have hL2:=e2 _ _ nLA hL'
    have lla:=Jxz gdi.ll gdi.so gdi.rl
    refine ⟨_,rfl,.inl ⟨rfl,_,Sv.of hL2⟩,_,rfl,L,_,_,rfl,rfl,hL2,Jno (by omega),?_⟩
    have ll3:=LL.upd (ys:=ts++ [.ref q]) hL2
    have ti:Sdq a (upd H2 L (.lst (ts++ [.ref q]))) R S cell ls wt (.ref q) i:=⟨q,c,r,rfl,tr.ll ll3,pk.1.ll ll3,ll3.get (by intro _ z;cases z) pk.2.1⟩
    have tsa3:Sbm a _ R S cell ls wt _ _:=SqP.snoc ((tsa.ll ll2).ll ll3) ti
    have e3:Exc A H1 (upd H2 L (.lst (ts++ [.ref q]))):=λb ob nb e=>by
     have hb:b≠L:=λz=>by rw [z,hL] at e;cases e
     rw [Sz hb]
     exact e2 _ _ nb (e1 _ _ nb e)
    have hA3:upd H2 L (.lst (ts++ [.ref q])) A=some (.lst (asv++ [.ref t1,.ref t2])):=by rw [Sz nLA.symm];exact hA2
    have sd3:=sd2.ll ll3
    have ch3:=pk.1.ll ll3
    have al3:Saw (TD (upd H2 L (.lst (ts++ [.ref q]))) 4) (asv++ [.ref t1,.ref t2]) (Jqs R S cell ls wt (i+1)):=by
     rw [Jqs]
     have two:Saw (TD (upd H2 L (.lst (ts++ [.ref q]))) 4) [.ref t1,.ref t2] [.tuple [.str "keeper",dS R S cell ls wt i,.int i],.tuple [.str "sky",dS R S cell ls wt i,dC R S cell ls wt i,.int i]]:=⟨.tup (ll3.get (by intro _ z;cases z) ht1) (show 3 < 300 by decide) ⟨.str _,sd3.td rn.2,.int _,True.intro⟩,.tup (ll3.get (by intro _ z;cases z) ht2) (show 4 < 300 by decide) ⟨.str _,sd3.td rn.2,ch3.td rn.2,.int _,True.intro⟩,True.intro⟩
     exact Saw.app two (al.map λv d h=>(h.ll ll2).ll ll3)
    obtain ⟨dx,u,lv,b,hq,hu,hlv,hb⟩:=tr.ll ll3
    refine ⟨_,rfl,q,_,dx,_,_,rfl,hq,T.Je0,T.Jfm,rfl,b,_,rfl,.inr (Su.of hb),_,_,rfl,rfl,_,rfl,?_⟩
    by_cases hbk:uB R S cell ls wt i= []
    ·have e0:(yam V.int (Joq 0 S.Bs (Jpw S (yam (·.G) R.Bs) (uL R S cell ls wt i) (pkC R S cell (uL R S cell ls wt i) (uW R S cell ls wt i) i) (pkT R S cell (uL R S cell ls wt i) (uW R S cell ls wt i) i) (pkR R S cell (uL R S cell ls wt i) (uW R S cell ls wt i) i)))).length=0:=by
      rw [yf]
      exact yce.mpr hbk
     refine ifF (decide_eq_false (by rw [e0];decide)) ?_
     refine ⟨_,rfl,q,dx,_,rfl,hq,rfl,q,dx,u,lv,b,_,_,_,_,rfl,hq,λt H4 s4 ht=>?_⟩
     have s4l:=LL.same s4
     exact ⟨_,_,.ref t,ts++ [.ref q],asv++ [.ref t1,.ref t2],rfl,e3.trans (Exc.same s4),s4 _ _ Sr,λj hj=>(by
      by_cases z:j < i
      ·exact gd j z
      ·obtain rfl:j=i:=by omega
       exact ⟨hbk,gdi⟩),tsa3.ll s4l,s4 _ _ hA3,al3.map λv d h=>h.ll s4l,(by
      rw [Jqm,Jvh]
      exact Y2 wx2.lk lla.2 hbk g2.w0 ht (s4 _ _ hlv))⟩
    ·have e0:(yam V.int (Joq 0 S.Bs (Jpw S (yam (·.G) R.Bs) (uL R S cell ls wt i) (pkC R S cell (uL R S cell ls wt i) (uW R S cell ls wt i) i) (pkT R S cell (uL R S cell ls wt i) (uW R S cell ls wt i) i) (pkR R S cell (uL R S cell ls wt i) (uW R S cell ls wt i) i)))).length≠0:=by
      rw [yf]
      exact λz=>hbk (yce.mp z)
     refine ifT (decide_eq_true (by omega)) ?_
     exact hR _ _ ⟨_,_,_,i+1,ts++ [.ref q],asv++ [.ref t1,.ref t2],rfl,e3,Sr,⟨by omega,λj hj=>(gd j (by omega)).1,.inr ⟨i,rfl,hbk⟩⟩,λj hj=>(by
      by_cases z:j < i
      ·exact (gd j z).2
      ·obtain rfl:j=i:=by omega
       exact gdi),tsa3,hA3,al3⟩
   ·rintro σ H' ⟨o7,o8,nv,ts,asv,rfl,e1,hL',gd,tsa,hA',al,sdi⟩
    rw [show ((n:Int)).toNat=n from ybl n] at*
    exact hR _ _ ⟨_,_,_,n,ts,asv,rfl,e1,hL',⟨yk _,λj hj=>(gd j (by omega)).1,.inl rfl⟩,λj hj=>(gd j hj).2,tsa,hA',al⟩
  ·rintro σ H2 ⟨o6,o7,o8,m,ts,asv,rfl,e2,hL2,en,gd,tsa,hA2,al⟩
   refine ⟨_,rfl,_,rfl,λr dx hr hd ne=>?_⟩
   have sn:Sj H2 (upd (upd H2 dx (.own r)) r (.ins a.Jma dx [])):=λb ob e=>by rw [Sz (Jmw e hr),Sz (Jmw e hd)];exact e
   refine ⟨r,dx,L,H2,x,ts,rfl,hr,sn,Sr,sn _ _ hL2,λt H3 s3 h3 ht3=>⟨rfl,?_⟩⟩
   exact k r ts asv m H3 ((Exc.same s1).trans (e2.trans (Exc.same s3))) en gd ⟨dx,t,h3,ht3⟩ (tsa.ll (LL.same s3)) (s3 _ _ hA2) (al.map λv d h=>h.ll (LL.same s3))
def Si2 (H:Hp) (R:Jn4) (S:Riv) (cell:Int) (ls:List Int) (wt:Int) (v:V) (i:Nat):Prop:=∃(t:S1) (c:V) (r lv u b:S1),v= .ref t/\H t=some (.tup [c,.ref r,.ref lv,.int (uW R S cell ls wt (i+1)),.ref u,.int (uD R S cell ls wt i),.bl (decide (uD R S cell ls wt i > 0)),.ref b])/\Sb4 H c R (uC R S cell ls wt i) (uT R S cell ls wt i)/\H r=some (.tup ((uR R S cell ls wt i).map V.int))/\H lv=some (.tup ((uV R S cell ls wt i).map V.int))/\H u=some (.tup ((uO R S cell ls wt i).map V.int))/\H b=some (.tup ((uB R S cell ls wt i).map V.int))
theorem Si2.ll {H H':Hp} {R:Jn4} {S:Riv} {cell:Int} {ls:List Int} {wt:Int} {v:V} {i:Nat} (s:LL H H') (h:Si2 H R S cell ls wt v i):Si2 H' R S cell ls wt v i:=by
 obtain ⟨t,c,r,lv,u,b,e,h1,h2,h3,h4,h5,h6⟩:=h
 exact ⟨t,c,r,lv,u,b,e,s.get (by intro _ z;cases z) h1,h2.ll s,s.get (by intro _ z;cases z) h3,s.get (by intro _ z;cases z) h4,s.get (by intro _ z;cases z) h5,s.get (by intro _ z;cases z) h6⟩
def Scm (H:Hp) (R:Jn4) (S:Riv) (cell:Int) (ls:List Int) (wt:Int) (ts:List V) (n:Nat):Prop:=SqP (Si2 H R S cell ls wt) ts n
theorem Scm.ll {H H':Hp} {R:Jn4} {S:Riv} {cell:Int} {ls:List Int} {wt:Int} {ts:List V} {n:Nat} (s:LL H H') (h:Scm H R S cell ls wt ts n):Scm H' R S cell ls wt ts n:=SqP.map (λ_ _ h=>h.ll s) h
inductive Srg (K:Se) (a:Ad) (vs:List V) (H:Hp) (Q:VK) (z3:XK):Prop where
 |mk (p o:S1) (td:V) (R:Jn4) (S:Riv) (x:V) (ls:List Int) (wt cell:Int) (n:Nat) (_:vs= [td,.int cell,x,.int n]) (_:n<=200) (_:WX K a p o H td R S) (_:Sal H x R ls wt) (_:∀(D T As:S1) (ts asv:List V) (m:Nat) (H':Hp),Sj H H'->H' D=some (.lst [.ref T,.ref As])->H' T=some (.lst ts)->H' As=some (.lst asv)->H T=none->H As=none->Sf5 R S cell ls wt n m->Scm H' R S cell ls wt ts m->Saw (TD H' 4) asv (Jqs R S cell ls wt m)->Q (.ref D) H')
theorem Jxb {ts:List V} {v:V}:atI (ts++ [v]) (-1)=some v:=by
 unfold atI
 have e:ixN (ts++ [v]).length (-1)=some ts.length:=by
  unfold ixN
  rw [yae,if_neg (by omega)]
  rw [if_pos (by show -(((ts.length+1:Nat):Int))<= -1;omega)]
  congr 1
  show ((-1:Int)+((ts.length+1:Nat):Int)).toNat=ts.length
  omega
 rw [e]
 simp
theorem Sau:Jmy ["_law_told","_law_cell_here","_law_standing_here","_law_many","_law_turns","_law_asked","_law_k","_law_choice_here","_law_rain_here"] ["_law_told","_law_cell_here","_law_standing_here","_law_many"] (Jmt (top 90)):=⟨rfl,rfl,rfl,by decide +kernel,rfl,by decide +kernel,by decide +kernel⟩
theorem Yn (T:Tx K mg a):Ss P w K mg base CX0 5 a.Jlg a.Jlh ["_law_told","_law_cell_here","_law_standing_here","_law_many"] (Srg K a):=by
 have Sbn:=Jrz (P:=P) (w:=w) (base:=base) T
 have Sce:=Jsr (P:=P) (w:=w) (base:=base) T
 refine T.Jad.fn.ok Sau (λvs H Q E h=>?_) (λcdv A outer s H vs Q E hr h=>?_)
 ·obtain ⟨p,o,td,R,S,x,ls,wt,cell,n,rfl,_⟩:=h
  rfl
 ·obtain ⟨p,o,td,R,S,x,ls,wt,cell,n,rfl,hn,wx,sd,k⟩:=h
  have hu64:=Jxw hr
  refine ⟨?t,?B,?C⟩
  case B=>
   refine' Sw ?O0 ?O1
   case O0=>exact (Jn3 (i:=4) Sau.nd rfl (ye rfl) (Jol Sm))
   case O1=>
   refine' Sw ?O2 ?O3
   case O2=>exact (Jn3 (i:=5) Sau.nd rfl (ye rfl) (Jol Sm))
   case O3=>
   refine' Sw ?O4 ?O5
   case O4=>
    refine' Jpj ?O6 ?O7 ?O8 ?O9 ?Oa
    case O6=>exact PassesOwn.never
    case O7=>exact rfl
    case O8=>exact (Jpc (by rfl) T.Jb2 (Sk (pv 3) Sm))
    case O9=>exact (Jmz (i:=6) Sau.nd rfl (ye rfl))
    case Oa=>
    refine' Sw ?Ob ?Oc
    case Ob=>
     refine' Jpi ?Od ?Oe
     case Od=>exact (Jmv T.Jaa Sbn hr (by decide) (pa4 (pv 0) (pv 1) (pv 2) (pv 6)))
     case Oe=>exact (Jr7 rfl (Jn7 (Jmz (i:=7) Sau.nd rfl (ye rfl)) (Jn7 (Jmz (i:=8) Sau.nd rfl (ye rfl)) Joe)))
    case Oc=>
    refine' Sw ?Of ?Og
    case Of=>exact (Jn3 (i:=5) Sau.nd rfl (ye rfl) (Jn5 Snf (pv 5) (Jol (Sk (Jo8 (Sk Jom (Sk (pv 2) (Sk (pv 6) Sm)))) (Sk (Jo8 (pa4 Jom (pv 2) (pv 7) (pv 6))) Sm)))))
    case Og=>
    refine' Sw ?Oh ?Oi
    case Oh=>exact (Jp0 (Js0 F.plainAttrs_list F.slot_list_append F.type_list_append Joz (pv 4) (Sk (Jn5 Yap (Jo8 (Sk (pv 7) (Sk (pv 8) Sm))) (Jmv T.Ja7 Sce hr (by decide) (pa4 (pv 0) (pv 2) (pv 7) (pv 8)))) Sm)))
    case Oi=>
    refine' Sw ?Oj ?Ok
    case Oj=>exact (Jn3 (i:=2) Sau.nd rfl (ye rfl) (Jr1 Jyp (Jn1 Jne (pv 4) (Jv0 Jsa So) (λ_ _=>rfl)) (Jqk So) (Jqk So)))
    case Ok=>
    refine' Sy ?Ol
    case Ol=>
    refine' Jng ?Om ?On ?Oo
    case Om=>exact (Jnp (Ys hu64) (Jn1 Jn9 (Jn1 Jne (pv 4) (Jv0 Jsa So) (λ_ _=>rfl)) So (λ_ _=>rfl)) (Jo8 Sm) (Jni _))
    case On=>
     refine' Sy ?Op
     case Op=>exact Jzs
    case Oo=>exact Jn6
   case O5=>
   refine' Sy ?Oq
   case Oq=>exact (Jn0 (Jol (Sk (pv 4) (Sk (pv 5) Sm))))
  have rn:=wx.rg.n
  refine ⟨(show 0<=S6 by decide),λTL hTL=>?_⟩
  have s1:=Sj.upd (o:=.lst []) hTL
  refine ⟨(show 0<=S6 by decide),λA0 hA0=>?_⟩
  have s2:=Sj.upd (o:=.lst []) hA0
  have nA0:A0≠TL:=λz=>by rw [z,Sr] at hA0;cases hA0
  have hA00:H A0=none:=by rw [Sz nA0] at hA0;exact hA0
  dsimp only [Jpa]
  refine Jql (λσ H'=>∃(nv o6 o7 o8:Option V) (As:S1) (m:Nat) (ts asv:List V),σ= [some td,some (.int cell),nv,some (.int n),some (.ref TL),some (.ref As),o6,o7,o8]/\Sj H H'/\H' TL=some (.lst ts)/\H' As=some (.lst asv)/\H As=none/\Sf5 R S cell ls wt n m/\Scm H' R S cell ls wt ts m/\Saw (TD H' 4) asv (Jqs R S cell ls wt m)) (λR' hR=>?_) ?_
  ·refine ⟨_,rfl,n,rfl,by omega,by omega,?_⟩
   refine Jpn (λi σ H'=>∃(nv:V) (o6 o7 o8:Option V) (As:S1) (ts asv:List V),σ= [some td,some (.int cell),some nv,some (.int n),some (.ref TL),some (.ref As),o6,o7,o8]/\Sj H H'/\H' TL=some (.lst ts)/\H' As=some (.lst asv)/\H As=none/\(∀j,j < i->uB R S cell ls wt j= [])/\Scm H' R S cell ls wt ts i/\Saw (TD H' 4) asv (Jqs R S cell ls wt i)/\Sal H' nv R (uL R S cell ls wt i) (uW R S cell ls wt i)) ⟨_,_,_,_,A0,[],[],rfl,s1.trans s2,(by rw [Sz nA0.symm];exact Sr),Sr,hA00,(λj hj=>absurd hj (yby j)),⟨rfl,λi v e=>by simp at e⟩,True.intro,(sd.same s1).same s2⟩ ?_ ?_
   ·rintro i σ H' hi ⟨nv,o6,o7,o8,As,ts,asv,rfl,sH,hT,hAs,nAs,ub,da,al,sdi⟩
    have hi':i < n:=by omega
    have wx':=wx.same sH
    have tl:=da.1
    have al':=al.len
    rw [Jz3] at al'
    refine ⟨_,rfl,_,rfl,_,rfl,_,rfl,p,o,td,R,S,nv,uL R S cell ls wt i,uW R S cell ls wt i,cell,i,?_,wx',sdi,λt c r H2 s2 ht pk=>⟨t,_,rfl,Su.of ht,rfl,_,_,rfl,_,_,rfl,rfl,?_⟩⟩
    ·rw [Int.zero_add]
     rfl
    dsimp only
    have hTL2:=s2 _ _ hT
    have hAs2:=s2 _ _ hAs
    refine ⟨_,rfl,_,rfl,_,rfl,(show 3<=S6 by decide),λt1 ht1=>?_⟩
    have a1:=Sj.upd (o:=.tup [.str "keeper",nv,.int (0+(i:Int))]) ht1
    refine ⟨_,rfl,_,rfl,_,rfl,(show 4<=S6 by decide),λt2 ht2=>⟨(show 2<=S6 by decide),λL2 hL2=>?_⟩⟩
    have a2:=Sj.upd (o:=.tup [.str "sky",nv,c,.int (0+(i:Int))]) ht2
    have a3:=Sj.upd (o:=.lst [.ref t1,.ref t2]) hL2
    have a13:=a1.trans (a2.trans a3)
    refine ⟨As,L2,asv,_,rfl,rfl,a13 _ _ hAs2,Sr,ybg (Jno (by show asv.length+2<=2000;omega)),λA2 hA2=>?_⟩
    have a4:=Sj.upd (o:=.lst (asv++ [.ref t1,.ref t2])) hA2
    have a14:=a13.trans a4
    have g1:=a4 _ _ (a3 _ _ (a2 _ _ (Sr (H:=H2) (a:=t1) (o:=.tup [.str "keeper",nv,.int (0+(i:Int))]))))
    have g2:=a4 _ _ (a3 _ _ (Sr (H:=upd H2 t1 (.tup [.str "keeper",nv,.int (0+(i:Int))])) (a:=t2) (o:=.tup [.str "sky",nv,c,.int (0+(i:Int))])))
    have gA:upd (upd (upd (upd H2 t1 (.tup [.str "keeper",nv,.int (0+(i:Int))])) t2 (.tup [.str "sky",nv,c,.int (0+(i:Int))])) L2 (.lst [.ref t1,.ref t2])) A2 (.lst (asv++ [.ref t1,.ref t2])) A2=some (.lst (asv++ [.ref t1,.ref t2])):=Sr
    have nA2:H A2=none:=by
     cases e:H A2 with
     |none=>rfl
     |some ob=>rw [a13 _ _ (s2 _ _ (sH _ _ e))] at hA2;cases hA2
    have nA2T:A2≠TL:=λz=>by rw [z,a13 _ _ hTL2] at hA2;cases hA2
    generalize upd (upd (upd (upd H2 t1 (.tup [.str "keeper",nv,.int (0+(i:Int))])) t2 (.tup [.str "sky",nv,c,.int (0+(i:Int))])) L2 (.lst [.ref t1,.ref t2])) A2 (.lst (asv++ [.ref t1,.ref t2]))=H5 at*
    rw [Int.zero_add] at g1 g2
    have s5:=sH.trans (s2.trans a14)
    refine ⟨_,rfl,.inl ⟨rfl,_,Sv.of (a14 _ _ hTL2)⟩,_,rfl,_,rfl,(show 2<=S6 by decide),λt3 ht3=>?_⟩
    have a5:=Sj.upd (o:=.tup [c,.ref r]) ht3
    have s6:=s5.trans a5
    have a15:=a14.trans a5
    have wx6:=wx.same s6
    have sd6:=(sdi.same s2).same a15
    have ch6:=pk.1.same a15
    obtain ⟨_,_,g6⟩:=Shi.of wx6.rt wx6.rg wx6.lk wx6.rv sd6 ch6 (a15 _ _ pk.2.1) pk.2.2
    refine ⟨_,rfl,_,rfl,_,rfl,_,rfl,p,td,R,S,nv,c,_,_,_,_,r,_,rfl,g6.li,λdv H7 s7 du=>?_⟩
    obtain ⟨d,u1,u2,u3,rfl,hd,h1,h2,h3⟩:=id du
    refine ⟨t3,d,_,_,rfl,rfl,s7 _ _ Sr,hd,(show 8<=S6 by decide),λq H8 s8 hq=>?_⟩
    have a78:=s7.trans s8
    have a58:=a5.trans a78
    have s8':=s6.trans a78
    have hT8:=a58 _ _ (a14 _ _ hTL2)
    refine ⟨TL,_,_,rfl,rfl,hT8,Jno (by omega),?_⟩
    have l9:=LL.upd (ys:=ts++ [.ref q]) hT8
    have lA:LL H5 (upd H8 TL (.lst (ts++ [.ref q]))):=(LL.same a58).trans l9
    have l29:LL H2 (upd H8 TL (.lst (ts++ [.ref q]))):=(LL.same a14).trans lA
    have l89:LL H' (upd H8 TL (.lst (ts++ [.ref q]))):=(LL.same s2).trans l29
    have s9:Sj H (upd H8 TL (.lst (ts++ [.ref q]))):=λb ob e=>by
     rw [Sz (Jmw e hTL)]
     exact s8' _ _ e
    have hA9:upd H8 TL (.lst (ts++ [.ref q])) A2=some (.lst (asv++ [.ref t1,.ref t2])):=by
     rw [Sz nA2T]
     exact a58 _ _ gA
    have hT9:=Sr (H:=H8) (a:=TL) (o:=.lst (ts++ [.ref q]))
    have hq9:=l9.get (by intro _ z;cases z) hq
    have k1:=l9.get (by intro _ z;cases z) (s8 _ _ h1)
    have k2:=l9.get (by intro _ z;cases z) (s8 _ _ h2)
    have k3:=l9.get (by intro _ z;cases z) (s8 _ _ h3)
    have ch9:=pk.1.ll l29
    have sd9:=(sdi.ll l89)
    have di:Si2 (upd H8 TL (.lst (ts++ [.ref q]))) R S cell ls wt (.ref q) i:=⟨q,c,r,u1,u2,u3,rfl,by rw [Jvh];exact hq9,ch9,l29.get (by intro _ z;cases z) pk.2.1,k1,k2,k3⟩
    have da9:Scm (upd H8 TL (.lst (ts++ [.ref q]))) R S cell ls wt (ts++ [.ref q]) (i+1):=SqP.snoc (da.ll l89) di
    have al9:Saw (TD (upd H8 TL (.lst (ts++ [.ref q]))) 4) (asv++ [.ref t1,.ref t2]) (Jqs R S cell ls wt (i+1)):=by
     rw [Jqs]
     have two:Saw (TD (upd H8 TL (.lst (ts++ [.ref q]))) 4) [.ref t1,.ref t2] [.tuple [.str "keeper",dS R S cell ls wt i,.int i],.tuple [.str "sky",dS R S cell ls wt i,dC R S cell ls wt i,.int i]]:=⟨.tup (lA.get (by intro _ z;cases z) g1) (show 3 < 300 by decide) ⟨.str _,sd9.td rn.2,.int _,True.intro⟩,.tup (lA.get (by intro _ z;cases z) g2) (show 4 < 300 by decide) ⟨.str _,sd9.td rn.2,ch9.td rn.2,.int _,True.intro⟩,True.intro⟩
     exact Saw.app two (al.map λv d h=>h.ll l89)
    generalize upd H8 TL (.lst (ts++ [.ref q]))=H9 at*
    refine ⟨_,rfl,_,rfl,TL,_,-1,_,rfl,rfl,Sv.of hT9,Jxb,_,rfl,_,rfl,q,_,rfl,Su.of hq9,(show ¬(HT.sIx 8 0 (some 2)=0/\HT.sIx 8 8 (some 4)=8) by decide),λx2 hx2=>?_⟩
    have s10:=Sj.upd (o:=.tup [.ref u1,.int (Jtw S (uW R S cell ls wt i) (uR R S cell ls wt i))]) hx2
    refine ⟨_,rfl,_,rfl,TL,_,-1,_,rfl,rfl,Sv.of (s10 _ _ hT9),Jxb,q,_,7,_,rfl,rfl,Su.of (s10 _ _ hq9),rfl,(show 0<=S6 by decide),λe he=>?_⟩
    have s11:=Sj.upd (o:=.tup []) he
    have s1011:=s10.trans s11
    refine ⟨_,_,.tup (Su.of (s1011 _ _ k3)) (Jvo _),.tup (Su.of Sr) .nil,Jtr _,rfl,_,rfl,?_⟩
    rw [if_pos rfl,Jz8]
    have l11:=LL.same s1011
    by_cases hbk:uB R S cell ls wt i= []
    ·refine ifF (congrArg not (decide_eq_true hbk)) ⟨.ref x2,_,_,_,A2,ts++ [.ref q],asv++ [.ref t1,.ref t2],rfl,s9.trans s1011,s1011 _ _ hT9,s1011 _ _ hA9,nA2,λj hj=>?_,da9.ll l11,al9.map λv d h=>h.ll l11,?_⟩
     ·by_cases z:j < i
      ·exact ub j z
      ·obtain rfl:j=i:=by omega
       exact hbk
     ·rw [Jqm,Jvh]
      have gl:(uL R S cell ls wt i).length=S.Bs.length:=by rw [sdi.2.1];exact (Jpe wx.lk).symm
      exact Y2 wx.lk (Jxz gl g6.li.so g6.li.rl).2 hbk g6.w0 (s11 _ _ Sr) (s1011 _ _ k1)
    ·exact ifT (congrArg not (decide_eq_false hbk)) (hR _ _ ⟨_,_,_,_,A2,i+1,ts++ [.ref q],asv++ [.ref t1,.ref t2],rfl,s9.trans s1011,s1011 _ _ hT9,s1011 _ _ hA9,nA2,⟨by omega,λj hj=>ub j (by omega),.inr ⟨i,rfl,hbk⟩⟩,da9.ll l11,al9.map λv d h=>h.ll l11⟩)
   ·rintro σ H' ⟨nv,o6,o7,o8,As,ts,asv,rfl,sH,hT,hAs,nAs,ub,da,al,sdi⟩
    rw [show ((n:Int)).toNat=n from ybl n] at*
    exact hR _ _ ⟨_,_,_,_,As,n,ts,asv,rfl,sH,hT,hAs,nAs,⟨yk _,λj hj=>ub j (by omega),.inl rfl⟩,da,al⟩
  ·rintro σ H' ⟨nv,o6,o7,o8,As,m,ts,asv,rfl,sH,hT,hAs,nAs,en,da,al⟩
   refine ⟨_,rfl,_,rfl,(show 2<=S6 by decide),λD hD=>?_⟩
   have s3:=Sj.upd (o:=.lst [.ref TL,.ref As]) hD
   exact k D TL As ts asv m _ (sH.trans s3) Sr (s3 _ _ hT) (s3 _ _ hAs) hTL nAs en (da.ll (LL.same s3)) (al.map λv d h=>h.ll (LL.same s3))
theorem Jr8 {α:Type} {f:Nat->α} {m i:Nat} {y:α} (h:((yz m).map f)[i]?=some y):y=f i/\i < m:=by
 rw [yg] at h
 obtain ⟨j,hj,rfl⟩:=yw.mp h
 have hi:i < (yz m).length:=(yj.mp hj).1
 rw [List.length_range] at hi
 rw [List.getElem?_range hi] at hj
 cases hj
 exact ⟨rfl,hi⟩
theorem Jwa {b:Int} (hb:0<=b):∀{ns:List Int},(∀n∈ns,0<=n/\n<=b)->0<=ns.sum/\ns.sum<=b*ns.length
 | [],_=>by simp
 |n::ns,h=>by
  have ih:=Jwa hb (ns:=ns) λm hm=>h m (yr _ hm)
  have h0:=h n yak
  rw [yay,yal]
  have e:b*((ns.length+1:Nat):Int)=b*ns.length+b:=by rw [Int.natCast_add,Int.mul_add];simp
  omega
theorem Smw {S:Riv} {ls:List Int} {tv:V} (ti:TIn S) (lb:∀n∈ls,0<=n/\n<=12):0<=drw S ls tv/\drw S ls tv<=12:=by
 have d:=Jxt (ls:=ls) (tv:=tv) ti
 refine ⟨d.1,?_⟩
 by_cases h:drw S ls tv > 0
 ·have h2:=d.2 h
  by_cases hp:Jt0 S tv < ls.length
  ·have e:ls.getD (Jt0 S tv) 0=ls[Jt0 S tv]:=by simp [yat,hp]
   have:=lb _ (yax hp)
   omega
  ·have e:ls.getD (Jt0 S tv) 0=0:=by simp [yat,hp]
   omega
 ·omega
theorem Yeo {os:List Int} (h:∀n∈os,0<=n/\n<=12):0<=os.getLast?.getD 0/\os.getLast?.getD 0<=12:=by
 cases e:os.getLast? with
 |none=>decide
 |some n=>exact h n (List.mem_of_getLast? e)
def uG (R:Jn4) (S:Riv) (cell:Int) (ls:List Int) (wt:Int) (i:Nat):Int:=(uO R S cell ls wt i).getLast?.getD 0
structure BdI (R:Jn4) (S:Riv) (cell:Int) (ls:List Int) (wt:Int) (i:Nat):Prop where
 r:0<=(uR R S cell ls wt i).sum/\(uR R S cell ls wt i).sum<=96
 d:0<=uD R S cell ls wt i/\uD R S cell ls wt i<=12
 g:0<=uG R S cell ls wt i/\uG R S cell ls wt i<=12
 v:∀n∈uV R S cell ls wt i,-12<=n/\n<=36
 ol:(uO R S cell ls wt i).length=S.Bs.length
 vl:(uV R S cell ls wt i).length=S.Bs.length
theorem GdI.bd {R:Jn4} {S:Riv} {cell:Int} {ls:List Int} {wt:Int} {i:Nat} (ti:TIn S) (n16:S.Bs.length<=16) (h:GdI R S cell ls wt i):BdI R S cell ls wt i:=by
 have fi:=Yd0 (tv:=uT R S cell ls wt i) ti h.lb
 have oi:=Yar h.so fi
 have ll:=Jxz h.ll h.so h.rl
 have sr:=Jwa (by decide) h.rd
 have rl:=h.rl
 exact ⟨by omega,Smw ti h.lb,Yeo oi,Ycg ⟨Int.le_refl 0,by decide⟩ fi oi h.rd,ll.1,ll.2⟩
inductive Skz (a:Ad) (f:Jn4->Riv->Int->List Int->Int->Nat->V) (vs:List V) (H:Hp) (Q:VK) (z3:XK):Prop where
 |mk (r:S1) (x:V) (ts:List V) (m:Nat) (R:Jn4) (S:Riv) (cell:Int) (ls:List Int) (wt:Int) (_:vs= [.ref r]) (_:Ya8 a H r x ts) (_:Sbm a H R S cell ls wt ts m) (_:m<=200) (_:TIn S) (_:(1<=S.Bs.length/\S.Bs.length<=16)) (_:(∀j,j < m->GdI R S cell ls wt j)) (_:∀H',Sj H H'->Q (f R S cell ls wt m) H')
def Skp (R:Jn4) (S:Riv) (cell:Int) (ls:List Int) (wt:Int) (m:Nat):Bool:=((yz m).map λi=>decide (0 < ((uB R S cell ls wt i).length:Int))).any id
def Jwd (R:Jn4) (S:Riv) (cell:Int) (ls:List Int) (wt:Int) (m:Nat):V:=.str (if Skp R S cell ls wt m=true then "broken" else "held")
def Jsn (R:Jn4) (S:Riv) (cell:Int) (ls:List Int) (wt:Int) (m:Nat):Int:=((yz m).map λi=>(uR R S cell ls wt i).sum).sum
def Jx0 (R:Jn4) (S:Riv) (cell:Int) (ls:List Int) (wt:Int) (m:Nat):Int:=((yz m).map (uD R S cell ls wt)).sum
def Jwf (R:Jn4) (S:Riv) (cell:Int) (ls:List Int) (wt:Int) (m:Nat):Int:=((yz m).map (uG R S cell ls wt)).sum
theorem Juk {f:Nat->Int} {m:Nat} (hm:m<=200) (h:∀i,i < m->0<=f i/\f i<=96):Sml ((yz m).map f):=⟨by simp;omega,λn hn=>by
 obtain ⟨i,hi,rfl⟩:=yaf.mp hn
 have:=h i (yaz.mp hi)
 omega⟩
def dSt (ls:List Int) (wt:Int):PyData:=.tuple [dI ls,.int wt]
inductive Yfl (a:Ad) (vs:List V) (H:Hp) (Q:VK) (z3:XK):Prop where
 |mk (r:S1) (x:V) (ts:List V) (m:Nat) (R:Jn4) (S:Riv) (cell:Int) (ls:List Int) (wt:Int) (_:vs= [.ref r]) (_:Ya8 a H r x ts) (_:Sbm a H R S cell ls wt ts m) (_:(∀j,j < m->(uV R S cell ls wt j).length < 300)) (_:TD H 3 x (dSt ls wt)) (_:∀v H',Sj H H'->TD H' 3 v (dSt (uL R S cell ls wt m) (uW R S cell ls wt m))->Q v H')
theorem Jzx:Jmy ["self"] ["self"] (Jmt (Jn2 (top 37) 1)):=⟨rfl,rfl,rfl,by decide +kernel,rfl,by decide +kernel,by decide +kernel⟩
theorem Jzi (T:Tx K mg a):Ss P w K mg base CX0 1 a.Jii a.Jij ["self"] (Skz a Jwd):=by
 refine T.Jd4.fn.ok Jzx (λvs H Q E h=>?_) (λcdv A outer s H vs Q E hr h=>?_)
 ·obtain ⟨r,x,ts,m,R,S,cell,ls,wt,rfl,_⟩:=h
  rfl
 ·obtain ⟨r,x,ts,m,R,S,cell,ls,wt,rfl,⟨dx,t,hR,ht⟩,tsa,hm,ti,n1,gd,k⟩:=h
  refine ⟨?t,?B,?C⟩
  case B=>
   refine' Sy ?O0
   case O0=>exact (Jn0 (Jw3 (Jnf (Jmx (Ycj rfl rfl) (by rfl) T.Jat Smq (Sk (Jnm (N:=(["turn"]:List Str)) (ini:=[none]) rfl (Jqe (Jna (pv 0) (by rfl))) (λ_ _ _ _ _=>(Jmz (i:=0) (by decide +kernel:(["turn"]:List Str).Nodup) rfl (ye rfl))) (λ_ _ _ _ _=>Jnk) (λ_ _ _ _ _=>(Joi Jrf (Jmx (Jwe (K:=K) rfl) (by rfl) T.Jay Jnz (Sk (Joj (K:=K) rfl (pv 0) (by rfl)) Sm)) So (Jni _)))) Sm))) Jom Jom))
  have tl:=tsa.1
  refine ⟨_,rfl,r,_,dx,_,_,rfl,hR,T.Je3,T.Jfo,rfl,t,rfl,⟨_,Su.of ht⟩,λD hD=>?_⟩
  refine Jos (((yz m).map λi=>decide (0 < ((uB R S cell ls wt i).length:Int))).map V.bl) hD (by simp [tl]) (by omega) ht ?_ ?_
  ·intro i x y H' Q' hx hy sm k'
   rw [yg] at hy
   obtain ⟨z,hz,rfl⟩:=yw.mp hy
   obtain ⟨rfl,hi⟩:=Jr8 hz
   obtain ⟨p,c,rr,rfl,tr,_⟩:=tsa.2 i x hx
   obtain ⟨dx',u,lv,b,hp,hu,hlv,hb⟩:=tr.ll (LL.same sm)
   refine ⟨_,rfl,p,_,dx',_,_,rfl,hp,T.Je0,T.Jfm,rfl,b,_,rfl,.inr (Su.of hb),_,_,rfl,rfl,?_⟩
   have:=k' _ (Sj.refl _)
   rw [show (yam V.int (Joq 0 S.Bs (Jpw S (yam (·.G) R.Bs) (uL R S cell ls wt i) (uC R S cell ls wt i) (uT R S cell ls wt i) (uR R S cell ls wt i)))).length=(uB R S cell ls wt i).length from yf ..]
   exact this
  intro H1 s1 hD1
  refine ⟨D,_,rfl,Sv.of hD1,_,rfl,?_⟩
  have kk:=k _ s1
  unfold Jwd Skp at kk
  by_cases hb:(((yz m).map λi=>decide (0 < ((uB R S cell ls wt i).length:Int))).any id)=true
  ·rw [if_pos hb] at kk
   exact ifT hb kk
  ·rw [if_neg hb] at kk
   exact ifF (by simpa using hb) kk
theorem Jzw:Jmy ["self"] ["self"] (Jmt (Jn2 (top 37) 2)):=⟨rfl,rfl,rfl,by decide +kernel,rfl,by decide +kernel,by decide +kernel⟩
theorem Jzh (T:Tx K mg a):Ss P w K mg base CX0 2 a.Jik a.Jil ["self"] (Yfl a):=by
 have Sbq:=Jqy (P:=P) (w:=w) (base:=base) T
 refine T.Jd5.fn.ok Jzw (λvs H Q E h=>?_) (λcdv A outer s H vs Q E hr h=>?_)
 ·obtain ⟨r,x,ts,m,R,S,cell,ls,wt,rfl,_⟩:=h
  rfl
 ·obtain ⟨r,x,ts,m,R,S,cell,ls,wt,rfl,⟨dx,t,hR,ht⟩,tsa,vl,xd,k⟩:=h
  refine ⟨?t,?B,?C⟩
  case B=>
   refine' Sy ?O0
   case O0=>exact (Jn0 (Jw3 (Jnp Jrf (Jmx Jn8 (by rfl) T.Jay Jnz (Sk (Jna (pv 0) (by rfl)) Sm)) So (Jni _)) (Jqc (Jn1 Jn9 (Jna (pv 0) (by rfl)) (Jv0 Jsa So) (λ_ _=>rfl)) T.Je0 T.Je2 Sbq (hr.mono (by decide)) T.Jd2.bd .nil Jph) (Jna (pv 0) (by rfl))))
  have tl:=tsa.1
  refine ⟨_,rfl,r,_,dx,_,_,rfl,hR,T.Je3,T.Jfo,rfl,t,_,rfl,.inr (Su.of ht),_,_,rfl,rfl,_,rfl,?_⟩
  cases m with
  |zero=>exact ifF (decide_eq_false (by omega)) ⟨_,rfl,r,_,dx,_,_,rfl,hR,T.Je3,T.Jfn,rfl,k x H (Sj.refl _) xd⟩
  |succ j=>
   have hj:j < ts.length:=by omega
   obtain ⟨p,c,rr,e,tr,_⟩:=tsa.2 j ts[j] (yh hj)
   obtain ⟨dx',u,lv,b,hp,hu,hlv,hb⟩:=tr
   have hat:atI ts (-1)=some (.ref p):=by
    rw [<-e]
    unfold atI
    have e:ixN ts.length (-1)=some j:=by
     unfold ixN
     rw [if_neg (by omega),if_pos (by omega)]
     congr 1
     omega
    rw [e]
    exact yh hj
   refine ifT (decide_eq_true (by omega)) ⟨_,rfl,r,_,dx,_,_,rfl,hR,T.Je3,T.Jfo,rfl,_,rfl,t,_,-1,_,rfl,rfl,Su.of ht,hat,p,dx',_,rfl,hp,rfl,p,dx',u,lv,b,_,_,_,_,rfl,hp,λq H' s' hq=>k _ H' s' (.tup hq (show 2 < 300 by decide) ⟨.ints (by rw [Jqm];exact s' _ _ hlv) (by rw [Jqm];exact vl j (by omega)),by rw [Jvh];exact .int _,True.intro⟩)⟩
theorem Jwq:Jmy ["self"] ["self"] (Jmt (Jn2 (top 37) 3)):=⟨rfl,rfl,rfl,by decide +kernel,rfl,by decide +kernel,by decide +kernel⟩
theorem Jwi (T:Tx K mg a):Ss P w K mg base CX0 1 a.Jim a.Jin ["self"] (Skz a λR S cell ls wt m=>.int (Jsn R S cell ls wt m)):=by
 refine T.Jd6.fn.ok Jwq (λvs H Q E h=>?_) (λcdv A outer s H vs Q E hr h=>?_)
 ·obtain ⟨r,x,ts,m,R,S,cell,ls,wt,rfl,_⟩:=h
  rfl
 ·obtain ⟨r,x,ts,m,R,S,cell,ls,wt,rfl,⟨dx,t,hR,ht⟩,tsa,hm,ti,n1,gd,k⟩:=h
  refine ⟨?t,?B,?C⟩
  case B=>
   refine' Sy ?O0
   case O0=>exact (Jn0 (Jmx (Jo3 rfl) (by rfl) T.Jb5 Jou (Sk (Jnm (N:=(["turn"]:List Str)) (ini:=[none]) rfl (Jqe (Jna (pv 0) (by rfl))) (λ_ _ _ _ _=>(Jmz (i:=0) (by decide +kernel:(["turn"]:List Str).Nodup) rfl (ye rfl))) (λ_ _ _ _ _=>Jnk) (λ_ _ _ _ _=>(Jmx (Jx8 (K:=K) rfl rfl) (by rfl) T.Jb5 Jou (Sk (Joj (K:=K) rfl (pv 0) (by rfl)) Sm)))) Sm)))
  have tl:=tsa.1
  refine ⟨_,rfl,r,_,dx,_,_,rfl,hR,T.Je3,T.Jfo,rfl,t,rfl,⟨_,Su.of ht⟩,λD hD=>?_⟩
  refine Jos (((yz m).map λi=>(uR R S cell ls wt i).sum).map V.int) hD (by simp [tl]) (by omega) ht ?_ ?_
  ·intro i x y H' Q' hx hy sm k'
   rw [yg] at hy
   obtain ⟨z,hz,rfl⟩:=yw.mp hy
   obtain ⟨rfl,hi⟩:=Jr8 hz
   obtain ⟨p,c,rr,rfl,tr,_,hrr⟩:=tsa.2 i x hx
   obtain ⟨dx',u,lv,b,hp,hu,hlv,hb⟩:=tr.ll (LL.same sm)
   have g:=gd i hi
   have rl:=g.rl
   exact ⟨_,rfl,p,_,dx',_,_,rfl,hp,T.Je0,T.Jfg,rfl,rr,_,rfl,.inr (Su.of (sm _ _ hrr)),⟨by omega,λn hn=>by have:=g.rd n hn;omega⟩,k' _ (Sj.refl _)⟩
  intro H1 s1 hD1
  exact ⟨D,_,rfl,.inl (Sv.of hD1),Juk hm λi hi=>((gd i hi).bd ti n1.2).r,k _ s1⟩
theorem Jyl:Jmy ["self"] ["self"] (Jmt (Jn2 (top 37) 4)):=⟨rfl,rfl,rfl,by decide +kernel,rfl,by decide +kernel,by decide +kernel⟩
theorem Jy0 (T:Tx K mg a):Ss P w K mg base CX0 1 a.Jio a.Jip ["self"] (Skz a λR S cell ls wt m=>.int (Jx0 R S cell ls wt m)):=by
 refine T.Jd7.fn.ok Jyl (λvs H Q E h=>?_) (λcdv A outer s H vs Q E hr h=>?_)
 ·obtain ⟨r,x,ts,m,R,S,cell,ls,wt,rfl,_⟩:=h
  rfl
 ·obtain ⟨r,x,ts,m,R,S,cell,ls,wt,rfl,⟨dx,t,hR,ht⟩,tsa,hm,ti,n1,gd,k⟩:=h
  refine ⟨?t,?B,?C⟩
  case B=>
   refine' Sy ?O0
   case O0=>exact (Jn0 (Jmx (Jo3 rfl) (by rfl) T.Jb5 Jou (Sk (Jnm (N:=(["turn"]:List Str)) (ini:=[none]) rfl (Jqe (Jna (pv 0) (by rfl))) (λ_ _ _ _ _=>(Jmz (i:=0) (by decide +kernel:(["turn"]:List Str).Nodup) rfl (ye rfl))) (λ_ _ _ _ _=>Jnk) (λ_ _ _ _ _=>(Joj (K:=K) rfl (pv 0) (by rfl)))) Sm)))
  have tl:=tsa.1
  refine ⟨_,rfl,r,_,dx,_,_,rfl,hR,T.Je3,T.Jfo,rfl,t,rfl,⟨_,Su.of ht⟩,λD hD=>?_⟩
  refine Jos (((yz m).map (uD R S cell ls wt)).map V.int) hD (by simp [tl]) (by omega) ht ?_ ?_
  ·intro i x y H' Q' hx hy sm k'
   rw [yg] at hy
   obtain ⟨z,hz,rfl⟩:=yw.mp hy
   obtain ⟨rfl,hi⟩:=Jr8 hz
   obtain ⟨p,c,rr,rfl,tr,_⟩:=tsa.2 i x hx
   obtain ⟨dx',u,lv,b,hp,hu,hlv,hb⟩:=tr.ll (LL.same sm)
   exact ⟨_,rfl,p,_,dx',_,_,rfl,hp,T.Je0,T.Jfh,rfl,k' _ (Sj.refl _)⟩
  intro H1 s1 hD1
  refine ⟨D,_,rfl,.inl (Sv.of hD1),Juk hm λi hi=>?_,k _ s1⟩
  have:=((gd i hi).bd ti n1.2).d
  omega
theorem Jzv:Jmy ["self"] ["self"] (Jmt (Jn2 (top 37) 5)):=⟨rfl,rfl,rfl,by decide +kernel,rfl,by decide +kernel,by decide +kernel⟩
theorem Jzf (T:Tx K mg a):Ss P w K mg base CX0 1 a.Jiq a.Jir ["self"] (Skz a λR S cell ls wt m=>.int (Jwf R S cell ls wt m)):=by
 refine T.Jd8.fn.ok Jzv (λvs H Q E h=>?_) (λcdv A outer s H vs Q E hr h=>?_)
 ·obtain ⟨r,x,ts,m,R,S,cell,ls,wt,rfl,_⟩:=h
  rfl
 ·obtain ⟨r,x,ts,m,R,S,cell,ls,wt,rfl,⟨dx,t,hR,ht⟩,tsa,hm,ti,n1,gd,k⟩:=h
  refine ⟨?t,?B,?C⟩
  case B=>
   refine' Sy ?O0
   case O0=>exact (Jn0 (Jmx (Jo3 rfl) (by rfl) T.Jb5 Jou (Sk (Jnm (N:=(["turn"]:List Str)) (ini:=[none]) rfl (Jqe (Jna (pv 0) (by rfl))) (λ_ _ _ _ _=>(Jmz (i:=0) (by decide +kernel:(["turn"]:List Str).Nodup) rfl (ye rfl))) (λ_ _ _ _ _=>Jnk) (λ_ _ _ _ _=>(Jn1 (Jog (K:=K) rfl) (Joj (K:=K) rfl (pv 0) (by rfl)) (Jv0 Jsa So) (λ_ _=>rfl)))) Sm)))
  have tl:=tsa.1
  refine ⟨_,rfl,r,_,dx,_,_,rfl,hR,T.Je3,T.Jfo,rfl,t,rfl,⟨_,Su.of ht⟩,λD hD=>?_⟩
  refine Jos (((yz m).map (uG R S cell ls wt)).map V.int) hD (by simp [tl]) (by omega) ht ?_ ?_
  ·intro i x y H' Q' hx hy sm k'
   rw [yg] at hy
   obtain ⟨z,hz,rfl⟩:=yw.mp hy
   obtain ⟨rfl,hi⟩:=Jr8 hz
   obtain ⟨p,c,rr,rfl,tr,_⟩:=tsa.2 i x hx
   obtain ⟨dx',u,lv,b,hp,hu,hlv,hb⟩:=tr.ll (LL.same sm)
   have ol:=((gd i hi).bd ti n1.2).ol
   exact ⟨_,rfl,p,_,dx',_,_,rfl,hp,T.Je0,T.Jfj,rfl,_,rfl,u,_,-1,_,rfl,rfl,Su.of hu,Yam (by unfold uO at ol;omega),k' _ (Sj.refl _)⟩
  intro H1 s1 hD1
  refine ⟨D,_,rfl,.inl (Sv.of hD1),Juk hm λi hi=>?_,k _ s1⟩
  have:=((gd i hi).bd ti n1.2).g
  omega
theorem Jz9 {R:Jn4} {S:Riv} {cell:Int} {ls:List Int} {wt:Int} (ti:TIn S) (lk:(R.Bs.map (·.G)).length=S.Bs.length):∀{m:Nat},(∀j,j < m->GdI R S cell ls wt j)->ls.sum+Jsn R S cell ls wt m=(uL R S cell ls wt m).sum+Jx0 R S cell ls wt m+Jwf R S cell ls wt m
 |0,_=>by
  show ls.sum+0=ls.sum+0+0
  omega
 |m+1,h=>by
  have ih:=Jz9 ti lk (m:=m) λj hj=>h j (by omega)
  have g:=h m (by omega)
  have t:=Ye3 (rn:=uR R S cell ls wt m) ti g.ll g.so lk g.rl
  have e1:Jsn R S cell ls wt (m+1)=Jsn R S cell ls wt m+(uR R S cell ls wt m).sum:=by unfold Jsn;rw [List.range_succ,yab,List.sum_append];simp
  have e2:Jx0 R S cell ls wt (m+1)=Jx0 R S cell ls wt m+uD R S cell ls wt m:=by unfold Jx0;rw [List.range_succ,yab,List.sum_append];simp
  have e3:Jwf R S cell ls wt (m+1)=Jwf R S cell ls wt m+uG R S cell ls wt m:=by unfold Jwf;rw [List.range_succ,yab,List.sum_append];simp
  rw [e1,e2,e3,Jqm]
  have t':(uL R S cell ls wt m).sum+(uR R S cell ls wt m).sum=(uV R S cell ls wt m).sum+uD R S cell ls wt m+uG R S cell ls wt m:=t
  omega
theorem Ycf {R:Jn4} {S:Riv} {cell:Int} {ls:List Int} {wt:Int} {j:Nat} (h:∀i,i+1 < j+1->uB R S cell ls wt i= []):Skp R S cell ls wt (j+1)=!decide (uB R S cell ls wt j= []):=by
 have e0:((yz j).map λi=>decide (0 < ((uB R S cell ls wt i).length:Int))).any id=false:=by
  rw [List.any_eq_false]
  intro b hb
  obtain ⟨i,hi,rfl⟩:=yaf.mp hb
  rw [h i (by have:=yaz.mp hi;omega)]
  decide
 unfold Skp
 rw [List.range_succ,yab,List.any_append,e0]
 by_cases z:uB R S cell ls wt j= []
 ·simp [z]
 ·have:0 < (uB R S cell ls wt j).length:=List.length_pos_iff.mpr z
  simp [z,this]
theorem Sdq.td {H:Hp} {R:Jn4} {S:Riv} {cell:Int} {ls:List Int} {wt:Int} {i:Nat} {c:V} {r u lv b t:S1} (n16:R.Bs.length<=16) (sl:S.Bs.length<=16) (bd:BdI R S cell ls wt i) (rl:(uR R S cell ls wt i).length=S.Bs.length) (ht:H t=some (.tup [c,.ref r,.ref lv,.int (uW R S cell ls wt (i+1)),.ref u,.int (uD R S cell ls wt i),.bl (decide (uD R S cell ls wt i > 0)),.ref b])) (hc:Sb4 H c R (uC R S cell ls wt i) (uT R S cell ls wt i)) (hr:H r=some (.tup ((uR R S cell ls wt i).map V.int))) (hlv:H lv=some (.tup ((uV R S cell ls wt i).map V.int))) (hu:H u=some (.tup ((uO R S cell ls wt i).map V.int))) (hb:H b=some (.tup ((uB R S cell ls wt i).map V.int))):TD H 4 (.ref t) (dU R S cell ls wt i):=by
 have vl:=bd.vl
 have ol:=bd.ol
 have bl:=Jtb (k:=0) (Bs:=S.Bs) (ls:=uV R S cell ls wt i)
 have bl':(uB R S cell ls wt i).length<=S.Bs.length:=bl
 exact .tup ht (show 8 < 300 by decide) ⟨hc.td n16,.ints hr (by omega),.ints hlv (by omega),.int _,.ints hu (by omega),.int _,.bl _,.ints hb (by omega),True.intro⟩
inductive Yfo (a:Ad) (vs:List V) (H:Hp) (Q:VK) (z3:XK):Prop where
 |mk (v:V) (R:Jn4) (S:Riv) (cell:Int) (ls:List Int) (wt:Int) (i:Nat) (_:vs= [v]) (_:Sdq a H R S cell ls wt v i) (_:R.Bs.length<=16) (_:S.Bs.length<=16) (_:BdI R S cell ls wt i) (_:(uR R S cell ls wt i).length=S.Bs.length) (_:∀t H',Sj H H'->TD H' 4 (.ref t) (dU R S cell ls wt i)->Q (.ref t) H')
inductive Svu (K:Se) (a:Ad) (vs:List V) (H:Hp) (Q:VK) (z3:XK):Prop where
 |mk (r TL:S1) (x:V) (ts ds:List V) (n m:Nat) (R:Jn4) (S:Riv) (cell:Int) (ls:List Int) (wt:Int) (_:vs= [.ref r,x,.ref TL]) (_:Jp8 R) (_:Jse R S) (_:TIn S) (_:Ya8 a H r x ts) (_:Sbm a H R S cell ls wt ts m) (_:H TL=some (.lst ds)) (_:Scm H R S cell ls wt ds m) (_:Sal H x R ls wt) (_:Sf5 R S cell ls wt n m) (_:n<=200) (_:(∀j,j < m->GdI R S cell ls wt j)) (_:∀H',Sj H H'->Q (.bl true) H')
theorem Yae {R:Jn4} {S:Riv} {cell:Int} {ls:List Int} {wt:Int} {m:Nat}:(dUs R S cell ls wt m).length=m:=by simp [dUs]
theorem Smx {H:Hp} {R:Jn4} {S:Riv} {cell:Int} {ls:List Int} {wt:Int} {m:Nat} {ds:List V} (n16:R.Bs.length<=16) (sl:S.Bs.length<=16) (bd:∀j,j < m->BdI R S cell ls wt j) (gd:∀j,j < m->GdI R S cell ls wt j) (da:Scm H R S cell ls wt ds m):Saw (TD H 4) ds (dUs R S cell ls wt m):=by
 refine SqP.all (r:=Si2 H R S cell ls wt) (by rw [Yae];exact da) λi v d h e=>?_
 obtain ⟨rfl,hi⟩:=Jr8 e
 obtain ⟨t,c,r,lv,u,b,rfl,h1,h2,h3,h4,h5,h6⟩:=h
 exact Sdq.td n16 sl (bd i hi) (gd i hi).rl h1 h2 h3 h4 h5 h6
theorem Yef {ds:List V} {j:Nat} (l:ds.length=j+1):∃v,ds[j]?=some v/\atI ds (-1)=some v:=by
 have hj:j < ds.length:=by omega
 refine ⟨ds[j],yh hj,?_⟩
 unfold atI
 have e:ixN ds.length (-1)=some j:=by
  unfold ixN
  rw [if_neg (by omega),if_pos (by omega)]
  congr 1
  omega
 rw [e]
 exact yh hj
theorem Jyo:Jmy ["_law_turn"] ["_law_turn"] (Jmt (top 91)):=⟨rfl,rfl,rfl,by decide +kernel,rfl,by decide +kernel,by decide +kernel⟩
theorem Jy9 (T:Tx K mg a):Ss P w K mg base CX0 1 a.Jli a.Jlj ["_law_turn"] (Yfo a):=by
 refine T.Jae.fn.ok Jyo (λvs H Q E h=>?_) (λcdv A outer s H vs Q E hr h=>?_)
 ·obtain ⟨v,R,S,cell,ls,wt,i,rfl,_⟩:=h
  rfl
 ·obtain ⟨v,R,S,cell,ls,wt,i,rfl,⟨p,c,r,rfl,⟨dx,u,lv,b,hp,hu,hlv,hb⟩,hc,hrr⟩,n16,sl,bd,rl,k⟩:=h
  refine ⟨?t,?B,?C⟩
  case B=>
   refine' Sy ?O0
   case O0=>
   refine' Jn0 ?O1
   case O1=>
   refine' Jo8 ?O2
   case O2=>
   refine' pa8 ?O3 ?O4 ?O5 ?O6 ?O7 ?O8 ?O9 ?Oa
   case O3=>exact (Jna (pv 0) (by rfl))
   case O4=>exact (Jna (pv 0) (by rfl))
   case O5=>exact (Jna (pv 0) (by rfl))
   case O6=>exact (Jna (pv 0) (by rfl))
   case O7=>exact (Jna (pv 0) (by rfl))
   case O8=>exact (Jna (pv 0) (by rfl))
   case O9=>exact (Jna (pv 0) (by rfl))
   case Oa=>exact (Jna (pv 0) (by rfl))
  refine ⟨_,rfl,p,_,dx,_,_,rfl,hp,T.Je0,T.Jff,rfl,_,rfl,p,_,dx,_,_,rfl,hp,T.Je0,T.Jfg,rfl,_,rfl,p,_,dx,_,_,rfl,hp,T.Je0,T.Jfk,rfl,_,rfl,p,_,dx,_,_,rfl,hp,T.Je0,T.Jfl,rfl,_,rfl,p,_,dx,_,_,rfl,hp,T.Je0,T.Jfj,rfl,_,rfl,p,_,dx,_,_,rfl,hp,T.Je0,T.Jfh,rfl,_,rfl,p,_,dx,_,_,rfl,hp,T.Je0,T.Jfi,rfl,_,rfl,p,_,dx,_,_,rfl,hp,T.Je0,T.Jfm,rfl,(show 8<=S6 by decide),λt ht=>?_⟩
  have s1:=Sj.upd (o:=.tup [c,.ref r,.ref lv,.int (uW R S cell ls wt (i+1)),.ref u,.int (uD R S cell ls wt i),.bl (decide (uD R S cell ls wt i > 0)),.ref b]) ht
  refine k t _ s1 ?_
  exact Sdq.td n16 sl bd rl Sr (hc.same s1) (s1 _ _ hrr) (s1 _ _ hlv) (s1 _ _ hu) (s1 _ _ hb)
theorem Sa6:Jmy ["_law_found","_law_standing_here","_law_turns","_law_last","_law_word","_law_fallen","_law_taken","_law_gone"] ["_law_found","_law_standing_here","_law_turns"] (Jmt (top 92)):=⟨rfl,rfl,rfl,by decide +kernel,rfl,by decide +kernel,by decide +kernel⟩
theorem Jud (T:Tx K mg a):Ss P w K mg base CX0 6 a.Jlk a.Jll ["_law_found","_law_standing_here","_law_turns"] (Svu K a):=by
 have Sbb:=Juy (P:=P) (w:=w) (base:=base) T 5
 have Sfy:=Jy9 (P:=P) (w:=w) (base:=base) T
 have Sh5:=Jzi (P:=P) (w:=w) (base:=base) T
 have Sh4:=Jzh (P:=P) (w:=w) (base:=base) T
 have Sfv:=Jwi (P:=P) (w:=w) (base:=base) T
 have Sgf:=Jy0 (P:=P) (w:=w) (base:=base) T
 have Sh3:=Jzf (P:=P) (w:=w) (base:=base) T
 refine T.Jaf.fn.ok Sa6 (λvs H Q E h=>?_) (λcdv A outer s H vs Q E hr h=>?_)
 ·obtain ⟨r,TL,x,ts,ds,n,m,R,S,cell,ls,wt,rfl,_⟩:=h
  rfl
 ·obtain ⟨r,TL,x,ts,ds,n,m,R,S,cell,ls,wt,rfl,rg,lk,ti,⟨dx,tt,hR,htt⟩,tsa,hT,da,sd,en,hn,gd,k⟩:=h
  have hu64:=Jxw hr
  refine ⟨?t,?B,?C⟩
  case B=>
   refine' Sw ?O0 ?O1
   case O0=>
    refine' Jng ?O2 ?O3 ?O4
    case O2=>exact (PW.pt (Jri (Jnh (Jnf (Jmx Jo7 (by rfl) T.Jax Jnb (Sk (pv 0) (Sk (Jo5 (by rfl) T.Jbj (v:=.ref _) rfl) Sm))))) (Jri (Jnh (Jnf (Jmv T.Ja8 Sbb hr (by decide) (Sk (Jna (pv 0) (by rfl)) (Sk (pv 1) Sm))))) (Jqf (Jnh (Jnf (Jmx Jo7 (by rfl) T.Jax Jnb (Sk (Jna (pv 0) (by rfl)) (Sk (Joh (v:=.ty "tuple") (by rfl) T.Jb6 Jnq rfl) Sm)))))))))
    case O3=>
     refine' Sy ?O5
     case O5=>exact (Jn0 Jov)
    case O4=>exact Jn6
   case O1=>
   refine' Sw ?O6 ?O7
   case O6=>
    refine' Jng ?O8 ?O9 ?Oa
    case O8=>exact (Jnh (Jnf (Jmv T.Ja8 Sbb hr (by decide) (Sk (Jnd Jnl (by rfl) T.Jb6 Jnq (Sk (Jnm (N:=(["_law_turn"]:List Str)) (ini:=[none]) rfl (Jqe (Jna (pv 0) (by rfl))) (λ_ _ _ _ _=>(Jmz (i:=0) (by decide +kernel:(["_law_turn"]:List Str).Nodup) rfl (ye rfl))) (λ_ _ _ _ _=>Jnk) (λ_ _ _ _ _=>(Jmv T.Jae Sfy hr (by decide) (Sk (pv 0) Sm)))) Sm)) (Sk (Jnd Jnl (by rfl) T.Jb6 Jnq (Sk (pv 2) Sm)) Sm)))))
    case O9=>
     refine' Sy ?Ob
     case Ob=>exact (Jn0 Jov)
    case Oa=>exact Jn6
   case O7=>
   refine' Sw ?Oc ?Od
   case Oc=>exact (Jn3 (i:=3) Sa6.nd rfl (ye rfl) (pv 1))
   case Od=>
   refine' Sw ?Oe ?Of
   case Oe=>exact (Jn3 (i:=4) Sa6.nd rfl (ye rfl) Jom)
   case Of=>
   refine' Sw ?Og ?Oh
   case Og=>
    refine' Jng ?Oi ?Oj ?Ok
    case Oi=>exact (Jnp (Sng hu64) (pv 2) (Jol Sm) (Jni _))
    case Oj=>
     refine' Sw ?Ol ?Om
     case Ol=>exact (Jn3 (i:=3) Sa6.nd rfl (ye rfl) (Jr1 Jyp (Jn1 Jne (pv 2) (Jv0 Jsa So) (λ_ _=>rfl)) (Jqk So) (Jqk So)))
     case Om=>
     refine' Sy ?On
     case On=>exact (Jn3 (i:=4) Sa6.nd rfl (ye rfl) (Jn1 Jne (Jol (Sk Jom (Sk Jom Sm))) (Jnd Jq5 (by rfl) T.Jaw Jst (Sk (Joi (Ys hu64) (Jn1 Jn9 (Jn1 Jne (pv 2) (Jv0 Jsa So) (λ_ _=>rfl)) So (λ_ _=>rfl)) (Jo8 Sm) (Jni _)) Sm)) (λ_ _=>rfl)))
    case Ok=>exact Jn6
   case Oh=>
   refine' Sw ?Oo ?Op
   case Oo=>
    refine' Jng ?Oq ?Or ?Os
    case Oq=>exact (PW.pt (Jri (Jnp Yd5 (Jqc (pv 0) T.Je3 T.Je6 Sh5 (hr.mono (by decide)) T.Jd4.bd .nil Jph) (pv 4) (Jni _)) (Jqf (Jnh (Jnf (Jmv T.Ja8 Sbb hr (by decide) (Sk (Jqc (pv 0) T.Je3 T.Je7 Sh4 (hr.mono (by decide)) T.Jd5.bd .nil Jph) (Sk (pv 3) Sm))))))))
    case Or=>
     refine' Sy ?Ot
     case Ot=>exact (Jn0 Jov)
    case Os=>exact Jn6
   case Op=>
   refine' Sw ?Ou ?Ov
   case Ou=>exact (Jn3 (i:=5) Sa6.nd rfl (ye rfl) (Jmx (Jo3 rfl) (by rfl) T.Jb5 Jou (Sk (Jnm (N:=(["_law_turn"]:List Str)) (ini:=[none]) rfl (Jo1 (pv 2)) (λ_ _ _ _ _=>(Jmz (i:=0) (by decide +kernel:(["_law_turn"]:List Str).Nodup) rfl (ye rfl))) (λ_ _ _ _ _=>Jnk) (λ_ _ _ _ _=>(Jmx (Jx8 (K:=K) rfl rfl) (by rfl) T.Jb5 Jou (Sk (Jn1 (Jog (K:=K) rfl) (pv 0) So (λ_ _=>rfl)) Sm)))) Sm)))
   case Ov=>
   refine' Sw ?Ow ?Ox
   case Ow=>exact (Jn3 (i:=6) Sa6.nd rfl (ye rfl) (Jmx (Jo3 rfl) (by rfl) T.Jb5 Jou (Sk (Jnm (N:=(["_law_turn"]:List Str)) (ini:=[none]) rfl (Jo1 (pv 2)) (λ_ _ _ _ _=>(Jmz (i:=0) (by decide +kernel:(["_law_turn"]:List Str).Nodup) rfl (ye rfl))) (λ_ _ _ _ _=>Jnk) (λ_ _ _ _ _=>(Jn1 (Jog (K:=K) rfl) (pv 0) So (λ_ _=>rfl)))) Sm)))
   case Ox=>
   refine' Sw ?Oy ?Oz
   case Oy=>exact (Jn3 (i:=7) Sa6.nd rfl (ye rfl) (Jmx (Jo3 rfl) (by rfl) T.Jb5 Jou (Sk (Jnm (N:=(["_law_turn"]:List Str)) (ini:=[none]) rfl (Jo1 (pv 2)) (λ_ _ _ _ _=>(Jmz (i:=0) (by decide +kernel:(["_law_turn"]:List Str).Nodup) rfl (ye rfl))) (λ_ _ _ _ _=>Jnk) (λ_ _ _ _ _=>(Jn1 (Jog (K:=K) rfl) (Jn1 (Jog (K:=K) rfl) (pv 0) So (λ_ _=>rfl)) (Jv0 Jsa So) (λ_ _=>rfl)))) Sm)))
   case Oz=>
   refine' Sw ?U0 ?U1
   case U0=>
    refine' Jng ?U2 ?U3 ?U4
    case U2=>exact (Jnh (Jnf (Jmv T.Ja8 Sbb hr (by decide) (Sk (Jo8 (Sk (Jqc (pv 0) T.Je3 T.Je8 Sfv (hr.mono (by decide)) T.Jd6.bd .nil Jph) (Sk (Jqc (pv 0) T.Je3 T.Je9 Sgf (hr.mono (by decide)) T.Jd7.bd .nil Jph) (Sk (Jqc (pv 0) T.Je3 T.Jea Sh3 (hr.mono (by decide)) T.Jd8.bd .nil Jph) Sm)))) (Sk (Jo8 (Sk (pv 5) (Sk (pv 6) (Sk (pv 7) Sm)))) Sm)))))
    case U3=>
     refine' Sy ?U5
     case U5=>exact (Jn0 Jov)
    case U4=>exact Jn6
   case U1=>
   refine' Sy ?U6
   case U6=>exact (Jn0 (Joi Jqz (Jn5 Jnn (Jmx (Jo3 rfl) (by rfl) T.Jb5 Jou (Sk (Jn1 Jn9 (pv 1) So (λ_ _=>rfl)) Sm)) (pv 5)) (Jn5 Jnn (Jn5 Jnn (Jmx (Jo3 rfl) (by rfl) T.Jb5 Jou (Sk (Jn1 Jn9 (pv 3) So (λ_ _=>rfl)) Sm)) (pv 6)) (pv 7)) (Jni _)))
  have rn:=rg.n
  have sl:=Jpe lk
  have s16:S.Bs.length<=16:=by omega
  have s1':1<=S.Bs.length/\S.Bs.length<=16:=by omega
  have m200:m<=200:=yan en.1 hn
  have bd:∀j,j < m->BdI R S cell ls wt j:=λj hj=>(gd j hj).bd ti s16
  have xd:TD H 3 x (dSt ls wt):=sd.td rn.2
  have yR:Sf K (.ref a.Jma) (.ref a.Jma)=some true:=by simp [Sf]
  refine ⟨_,rfl,_,_,_,_,true,rfl,rfl,.of (T.Je4.ty T.Je3 hR),yR,_,rfl,Jnv ?_⟩
  refine ⟨_,rfl,r,_,dx,_,_,rfl,hR,T.Je3,T.Jfn,rfl,_,rfl,x,x,rfl,xd.up.up.alk xd.up.up,λH1 s1=>⟨_,rfl,Jnv ?_⟩⟩
  refine ⟨_,rfl,r,_,dx,_,_,rfl,s1 _ _ hR,T.Je3,T.Jfo,rfl,_,_,_,_,true,rfl,rfl,.of (.tup (s1 _ _ htt)),(by rfl:Sf K (.type "tuple") (.type "tuple")=some true),_,rfl,Jnv ?_⟩
  have tsl:=tsa.1
  have dsl:=da.1
  refine ⟨_,rfl,r,_,dx,_,_,rfl,s1 _ _ hR,T.Je3,T.Jfo,rfl,tt,rfl,⟨_,Su.of (s1 _ _ htt)⟩,λD hD=>?_⟩
  have sD:=Sj.upd (o:=.lst []) hD
  refine Jz6 (K:=K) (a:=tt) (xs:=ts) (λi σ H'=>(∃o,σ= [o])/\(∃ys,H' D=some (.lst ys)/\SqP (λv j=>TD H' 4 v (dU R S cell ls wt j)) ys i)/\Sj H1 H') ⟨⟨_,rfl⟩,⟨[],Sr,rfl,λj y e=>by simp at e⟩,sD⟩ (λi σ H' _ ⟨_,_,sm⟩=>Su.of (sm _ _ (s1 _ _ htt))) ?_ ?_
  ·rintro i v σ H' hv ⟨⟨o,rfl⟩,⟨ys,hDs,sq⟩,sm⟩
   have hi:i < m:=by have:=(yj.mp hv).1;omega
   refine Jo9 ⟨_,rfl,v,R,S,cell,ls,wt,i,rfl,(tsa.2 i v hv).ll (LL.same (s1.trans sm)),rn.2,s16,bd i hi,(gd i hi).rl,λt H5 s5 td=>⟨ys,s5 _ _ hDs,by rw [sq.1];exact Jno (by omega),⟨_,rfl⟩,⟨ys++ [.ref t],Sr,?_⟩,?_⟩⟩
   ·have l5:=LL.upd (ys:=ys++ [.ref t]) (s5 _ _ hDs)
    exact SqP.snoc (sq.map λv j h=>(h.ll (LL.same s5)).ll l5) (td.ll l5)
   ·intro b ob e
    rw [Sz (Jmw e hD)]
    exact s5 _ _ (sm _ _ e)
  rintro σ H2 ⟨⟨o,rfl⟩,⟨ys,hDs,sq⟩,sm⟩
  rw [tsl] at sq
  have s2:=s1.trans sm
  refine ⟨D,_,rfl,.inl ⟨Sv.of hDs,λt1 ht1=>?_⟩⟩
  have a1:=Sj.upd (o:=.tup ys) ht1
  refine ⟨_,rfl,TL,_,rfl,.inl ⟨Sv.of (a1 _ _ (s2 _ _ hT)),λt2 ht2=>?_⟩⟩
  have a2:=Sj.upd (o:=.tup ds) ht2
  have a12:=a1.trans a2
  have td1:TD (upd (upd H2 t1 (.tup ys)) t2 (.tup ds)) 5 (.ref t1) (.tuple (dUs R S cell ls wt m)):=.tup (a2 _ _ Sr) (by rw [sq.1];omega) (SqP.all (r:=λv j=>TD H2 4 v (dU R S cell ls wt j)) (by rw [Yae];exact sq) λi v d h e=>by
   obtain ⟨rfl,_⟩:=Jr8 e
   exact h.ll (LL.same a12))
  have td2:TD (upd (upd H2 t1 (.tup ys)) t2 (.tup ds)) 5 (.ref t2) (.tuple (dUs R S cell ls wt m)):=.tup Sr (by omega) (Smx rn.2 s16 bd gd (da.ll (LL.same (s2.trans a12))))
  refine ⟨_,_,rfl,td1.alk td2,λH3 s3'=>⟨_,rfl,Jnv ?_⟩⟩
  have s3:=(s2.trans a12).trans s3'
  obtain ⟨⟨y0,u0,rfl,hy0,hu0⟩,l0,_⟩:=id sd
  refine ⟨_,rfl,?_⟩
  dsimp only [Jpa]
  refine Jql (λσ H'=>σ= [some (.ref r),some (.ref y0),some (.ref TL),some (.ref y0),some (.str "held"),none,none,none]/\H'=H3) (λR' hR=>hR _ _ ⟨rfl,rfl⟩) ?_
  rintro σ Hx ⟨rfl,rfl⟩
  refine Jql (λσ H'=>∃y u,σ= [some (.ref r),some (.ref y0),some (.ref TL),some (.ref y),some (Jwd R S cell ls wt m),none,none,none]/\Sj Hx H'/\H' y=some (.tup [.ref u,.int (uW R S cell ls wt m)])/\H' u=some (.tup ((uL R S cell ls wt m).map V.int))) (λR' hR=>?_) ?_
  ·refine ⟨_,rfl,(show 0<=S6 by decide),λe he=>⟨TL,e,ds,rfl,rfl,Sv.of (Sj.upd he _ _ (s3 _ _ hT)),Sv.of Sr,_,rfl,?_⟩⟩
   have a3:=Sj.upd (o:=.lst []) he
   cases m with
   |zero=>
    have e0:ds= []:=yce.mp dsl
    subst e0
    exact Jnv (hR _ _ ⟨y0,u0,rfl,a3,a3 _ _ (s3 _ _ hy0),a3 _ _ (s3 _ _ hu0)⟩)
   |succ j=>
    obtain ⟨v,hv,hat⟩:=Yef dsl
    have ne:(!ds.isEmpty)=true:=by cases ds with|nil=>cases dsl|cons _ _=>rfl
    obtain ⟨q,c,rr,lv,u,b,rfl,h1,h2,h3,h4,h5,h6⟩:=(da.2 j v hv).ll (LL.same (s3.trans a3))
    refine ifT ne ?_
    refine ⟨_,rfl,_,rfl,TL,_,-1,_,rfl,rfl,Sv.of (a3 _ _ (s3 _ _ hT)),hat,_,rfl,_,rfl,q,_,rfl,Su.of h1,(show ¬(HT.sIx 8 0 (some 2)=0/\HT.sIx 8 8 (some 4)=8) by decide),λy hy=>?_⟩
    have a4:=Sj.upd (o:=.tup [.ref lv,.int (uW R S cell ls wt (j+1))]) hy
    refine ⟨(show 2<=S6 by decide),λWL hWL=>?_⟩
    have a5:=Sj.upd (o:=.lst [.str "held",.str "broken"]) hWL
    have a45:=a4.trans a5
    refine ⟨_,rfl,_,rfl,TL,_,-1,_,rfl,rfl,Sv.of (a45 _ _ (a3 _ _ (s3 _ _ hT))),hat,q,_,7,_,rfl,rfl,Su.of (a45 _ _ h1),rfl,(show 0<=S6 by decide),λe2 he2=>?_⟩
    have a6:=Sj.upd (o:=.tup []) he2
    have a46:=a45.trans a6
    refine ⟨_,_,.tup (Su.of (a46 _ _ h6)) (Jvo _),.tup (Su.of Sr) .nil,Jtr _,rfl,.inr ⟨_,rfl,?_⟩⟩
    rw [if_pos rfl,Jz8]
    have ew:atI [V.str "held",.str "broken"] (if (!decide (uB R S cell ls wt j= []))=true then 1 else 0)=some (Jwd R S cell ls wt (j+1)):=by
     unfold Jwd
     rw [Ycf λi hi=>en.2.1 i hi]
     by_cases z:uB R S cell ls wt j= []
     ·rw [decide_eq_true z]
      rfl
     ·rw [decide_eq_false z]
      rfl
    refine ⟨WL,_,_,_,rfl,rfl,Sv.of (a6 _ _ Sr),ew,hR _ _ ⟨y,lv,rfl,a3.trans a46,?_,?_⟩⟩
    ·exact a6 _ _ (a5 _ _ Sr)
    ·rw [Jqm]
     exact a46 _ _ h4
  ·rintro σ H4 ⟨y,u,rfl,s4',hy,hu⟩
   have s4:=s3.trans s4'
   have tsa4:=tsa.ll (LL.same s4)
   refine ⟨_,rfl,r,dx,_,rfl,s4 _ _ hR,rfl,r,_,ts,m,R,S,cell,ls,wt,rfl,⟨dx,tt,s4 _ _ hR,s4 _ _ htt⟩,tsa4,m200,ti,s1',gd,λH5 s5'=>?_⟩
   have s5:=s4.trans s5'
   refine ⟨_,rfl,rfl,_,rfl,ifF (by show (!decide (Jwd R S cell ls wt m=Jwd R S cell ls wt m))=false;rw [decide_eq_true rfl];rfl) ?_⟩
   have tsa5:=tsa.ll (LL.same s5)
   have ul:(uL R S cell ls wt m).length<=16:=by
    cases m with
    |zero=>show ls.length<=16;omega
    |succ j=>rw [Jqm,(bd j (by omega)).vl];omega
   refine ⟨_,rfl,r,dx,_,rfl,s5 _ _ hR,rfl,r,_,ts,m,R,S,cell,ls,wt,rfl,⟨dx,tt,s5 _ _ hR,s5 _ _ htt⟩,tsa5,λj hj=>by rw [(bd j hj).vl];omega,xd.ll (LL.same s5),λv H6 s6' vd=>?_⟩
   have s6:=s5.trans s6'
   have s46:=s5'.trans s6'
   have ld:TD H6 3 (.ref y) (dSt (uL R S cell ls wt m) (uW R S cell ls wt m)):=.tup (s46 _ _ hy) (show 2 < 300 by decide) ⟨.ints (s46 _ _ hu) (by omega),.int _,True.intro⟩
   refine ⟨_,rfl,v,_,rfl,vd.up.up.alk ld.up.up,λH7 s7'=>⟨_,rfl,Jnv ?_⟩⟩
   have s7:=s6.trans s7'
   have s47:=s46.trans s7'
   have hT7:=s7 _ _ hT
   have da7:=da.ll (LL.same s7)
   refine ⟨_,rfl,TL,rfl,⟨_,Sv.of hT7⟩,λD1 hD1=>?_⟩
   refine Jp4 (((yz m).map λi=>(uR R S cell ls wt i).sum).map V.int) hD1 (by simp [dsl]) (by omega) hT7 ?_ ?_
   ·intro i x y H' Q' hx hy sm k'
    rw [yg] at hy
    obtain ⟨z,hz,rfl⟩:=yw.mp hy
    obtain ⟨rfl,hi⟩:=Jr8 hz
    obtain ⟨q,c,rr,lv,u,b,rfl,h1,h2,h3,h4,h5,h6⟩:=(da7.2 i x hx).ll (LL.same sm)
    have g:=gd i hi
    have rl:=g.rl
    exact ⟨_,rfl,q,_,1,_,rfl,rfl,Su.of h1,rfl,rr,_,rfl,.inr (Su.of h3),⟨by omega,λn hn=>by have:=g.rd n hn;omega⟩,k' _ (Sj.refl _)⟩
   intro H8 s8' hD8
   have s8:=s7.trans s8'
   refine ⟨D1,_,rfl,.inl (Sv.of hD8),Juk m200 λi hi=>(bd i hi).r,?_⟩
   have hT8:=s8 _ _ hT
   have da8:=da.ll (LL.same s8)
   refine ⟨_,rfl,TL,rfl,⟨_,Sv.of hT8⟩,λD2 hD2=>?_⟩
   refine Jp4 (((yz m).map (uD R S cell ls wt)).map V.int) hD2 (by simp [dsl]) (by omega) hT8 ?_ ?_
   ·intro i x y H' Q' hx hy sm k'
    rw [yg] at hy
    obtain ⟨z,hz,rfl⟩:=yw.mp hy
    obtain ⟨rfl,hi⟩:=Jr8 hz
    obtain ⟨q,c,rr,lv,u,b,rfl,h1,_⟩:=(da8.2 i x hx).ll (LL.same sm)
    exact ⟨_,rfl,q,_,5,_,rfl,rfl,Su.of h1,rfl,k' _ (Sj.refl _)⟩
   intro H9 s9' hD9
   have s9:=s8.trans s9'
   refine ⟨D2,_,rfl,.inl (Sv.of hD9),Juk m200 λi hi=>by have:=(bd i hi).d;omega,?_⟩
   have hT9:=s9 _ _ hT
   have da9:=da.ll (LL.same s9)
   refine ⟨_,rfl,TL,rfl,⟨_,Sv.of hT9⟩,λD3 hD3=>?_⟩
   refine Jp4 (((yz m).map (uG R S cell ls wt)).map V.int) hD3 (by simp [dsl]) (by omega) hT9 ?_ ?_
   ·intro i x y H' Q' hx hy sm k'
    rw [yg] at hy
    obtain ⟨z,hz,rfl⟩:=yw.mp hy
    obtain ⟨rfl,hi⟩:=Jr8 hz
    obtain ⟨q,c,rr,lv,u,b,rfl,h1,h2,h3,h4,h5,h6⟩:=(da9.2 i x hx).ll (LL.same sm)
    exact ⟨_,rfl,q,_,4,_,rfl,rfl,Su.of h1,rfl,_,rfl,u,_,-1,_,rfl,rfl,Su.of h5,Yam (by have:=(bd i hi).ol;omega),k' _ (Sj.refl _)⟩
   intro HA sA' hDA
   have sA:=s9.trans sA'
   refine ⟨D3,_,rfl,.inl (Sv.of hDA),Juk m200 λi hi=>by have:=(bd i hi).g;omega,?_⟩
   refine ⟨_,rfl,r,dx,_,rfl,sA _ _ hR,rfl,r,_,ts,m,R,S,cell,ls,wt,rfl,⟨dx,tt,sA _ _ hR,sA _ _ htt⟩,tsa.ll (LL.same sA),m200,ti,s1',gd,λHB sB'=>?_⟩
   have sB:=sA.trans sB'
   refine ⟨_,rfl,r,dx,_,rfl,sB _ _ hR,rfl,r,_,ts,m,R,S,cell,ls,wt,rfl,⟨dx,tt,sB _ _ hR,sB _ _ htt⟩,tsa.ll (LL.same sB),m200,ti,s1',gd,λHC sC'=>?_⟩
   have sC:=sB.trans sC'
   refine ⟨_,rfl,r,dx,_,rfl,sC _ _ hR,rfl,r,_,ts,m,R,S,cell,ls,wt,rfl,⟨dx,tt,sC _ _ hR,sC _ _ htt⟩,tsa.ll (LL.same sC),m200,ti,s1',gd,λHD sD'=>?_⟩
   have sD:=sC.trans sD'
   refine ⟨(show 3<=S6 by decide),λf1 hf1=>?_⟩
   have b1:=Sj.upd (o:=.tup [.int (Jsn R S cell ls wt m),.int (Jx0 R S cell ls wt m),.int (Jwf R S cell ls wt m)]) hf1
   refine ⟨_,rfl,_,rfl,_,rfl,(show 3<=S6 by decide),λf2 hf2=>?_⟩
   have b2:=Sj.upd (o:=.tup [.int (Jsn R S cell ls wt m),.int (Jx0 R S cell ls wt m),.int (Jwf R S cell ls wt m)]) hf2
   have al1:∀(Hz:Hp) (f:S1),Hz f=some (.tup [.int (Jsn R S cell ls wt m),.int (Jx0 R S cell ls wt m),.int (Jwf R S cell ls wt m)])->TD Hz 5 (.ref f) (.tuple [.int (Jsn R S cell ls wt m),.int (Jx0 R S cell ls wt m),.int (Jwf R S cell ls wt m)]):=λHz f h=>.tup h (show 3 < 300 by decide) ⟨.int _,.int _,.int _,True.intro⟩
   refine ⟨_,_,rfl,(al1 _ f1 (b2 _ _ Sr)).alk (al1 _ f2 Sr),λHE sE'=>⟨_,rfl,Jnv ?_⟩⟩
   have sDE:=(b1.trans b2).trans sE'
   have sE:=sD.trans sDE
   have s4E:=s47.trans (s8'.trans (s9'.trans (sA'.trans (sB'.trans (sC'.trans (sD'.trans sDE))))))
   have lb:∀n∈ls,0<=n/\n<=12:=λn hn=>by
    obtain ⟨i,hi⟩:=ybc hn
    obtain ⟨C,eC,b⟩:=sd.2.2.1 i n hi
    have g:=(rg.Bs _ (yp eC)).1
    have:=g.lo
    have:=g.hi
    omega
   have ub:∀n∈uL R S cell ls wt m,-12<=n/\n<=36:=by
    cases m with
    |zero=>
     intro n hn
     have:=lb n hn
     omega
    |succ j=>rw [Jqm];exact (bd j (by omega)).v
   refine ⟨_,rfl,y0,_,0,_,rfl,rfl,Su.of (sE _ _ hy0),rfl,u0,ls,rfl,.inr (Su.of (sE _ _ hu0)),⟨by omega,λn hn=>by have:=lb n hn;omega⟩,_,rfl,_,_,rfl,rfl,?_⟩
   refine ⟨_,rfl,y,_,0,_,rfl,rfl,Su.of (s4E _ _ hy),rfl,u,_,rfl,.inr (Su.of (s4E _ _ hu)),⟨by omega,λn hn=>by have:=ub n hn;omega⟩,_,rfl,_,_,rfl,rfl,_,rfl,_,_,rfl,rfl,rfl,?_⟩
   have fs:=Jz9 (cell:=cell) (ls:=ls) (wt:=wt) ti (by rw [yf];omega) gd
   have kk:=k _ sE
   rw [show (V.bl true)=V.bl (decide (V.int (ls.sum+Jsn R S cell ls wt m)=V.int ((uL R S cell ls wt m).sum+Jx0 R S cell ls wt m+Jwf R S cell ls wt m))) by rw [fs,decide_eq_true rfl]] at kk
   exact kk
inductive spLaw (K:Se) (a:Ad) (vs:List V) (H:Hp) (Q:VK) (z3:XK):Prop where
 |mk (x:S1) (ns:List Int) (_:vs= [.ref x]) (_:Sv K H x (ns.map V.int)) (_:ns.length<=63) (_:H a.Jmk=some (.tbl lb__law_keeper)) (_:H a.Jmm=some (.tbl lb__law_sky)) (_:∀H',Q (.bl true) H')
def OkD (n:Nat) (d:PyData):Prop:=d.canLay0=true/\d.depth<=n
theorem Yd3 {n:Nat}:∀{ds:List PyData},(∀d∈ds,OkD n d)->PyData.canLayAll0 ds=true/\PyData.depthAll ds<=n
 | [],_=>⟨rfl,yai _⟩
 |d::ds,h=>by
  have ih:=Yd3 (ds:=ds) λe he=>h e (yr _ he)
  have h0:=h d yak
  refine ⟨?_,?_⟩
  ·rw [PyData.canLayAll0,h0.1,ih.1]
   rfl
  ·rw [PyData.depthAll]
   exact Nat.max_le.mpr ⟨h0.2,ih.2⟩
theorem Jze {n:Nat} {ds:List PyData} (h:∀d∈ds,OkD n d):OkD (n+1) (.tuple ds):=by
 have q:=Yd3 h
 refine ⟨?_,?_⟩
 ·rw [PyData.canLay0]
  exact q.1
 ·rw [PyData.depth]
  have:=q.2
  omega
theorem okI {n:Nat} (i:Int):OkD n (.int i):=⟨rfl,yai _⟩
theorem Yd4 {n:Nat} (ns:List Int):OkD (n+1) (dI ns):=Jze λd hd=>by
 obtain ⟨i,_,rfl⟩:=yaf.mp hd
 exact okI i
theorem okS {R:Jn4} {S:Riv} {cell:Int} {ls:List Int} {wt:Int} {i:Nat}:OkD 2 (dS R S cell ls wt i):=Jze λd hd=>by
 simp only [ym,yad,or_false] at hd
 rcases hd with rfl|rfl
 ·exact Yd4 _
 ·exact okI _
theorem okC {R:Jn4} {S:Riv} {cell:Int} {ls:List Int} {wt:Int} {i:Nat}:OkD 2 (dC R S cell ls wt i):=Jze λd hd=>by
 simp only [ym,yad,or_false] at hd
 rcases hd with rfl|rfl
 ·exact Yd4 _
 ·unfold dT
  split
  ·exact okI _
  ·exact ⟨rfl,yai _⟩
theorem Slq {n:Nat} {z:Str} (h:PyData.strOk z=true):OkD n (.str z):=⟨by rw [PyData.canLay0];exact h,yai _⟩
theorem Ya9 {R:Jn4} {S:Riv} {cell:Int} {ls:List Int} {wt:Int}:∀{m:Nat},∀d∈Jqs R S cell ls wt m,OkD 3 d
 |0,d,h=>by simp [Jqs] at h
 |m+1,d,h=>by
  rw [Jqs] at h
  rcases ybh.mp h with h|h
  ·exact Ya9 d h
  ·simp only [ym,yad,or_false] at h
   rcases h with rfl|rfl
   ·refine Jze λd hd=>?_
    simp only [ym,yad,or_false] at hd
    rcases hd with rfl|rfl|rfl
    ·exact Slq (by decide +kernel)
    ·exact okS
    ·exact okI _
   ·refine Jze λd hd=>?_
    simp only [ym,yad,or_false] at hd
    rcases hd with rfl|rfl|rfl|rfl
    ·exact Slq (by decide +kernel)
    ·exact okS
    ·exact okC
    ·exact okI _
theorem Scz {R:Jn4} {S:Riv} {cell:Int} {ls:List Int} {wt:Int} {m:Nat}:SeqAt.shaped (.list (Jqs R S cell ls wt m))=true/\PyData.eqv (.list (Jqs R S cell ls wt m)) (.list (Jqs R S cell ls wt m))=true:=by
 have q:=Yd3 (Ya9 (R:=R) (S:=S) (cell:=cell) (ls:=ls) (wt:=wt) (m:=m))
 have c:(PyData.list (Jqs R S cell ls wt m)).canLay0=true:=by rw [PyData.canLay0];exact q.1
 refine ⟨?_,SeqAt.eqv_refl _ c⟩
 unfold SeqAt.shaped
 rw [c,decide_eq_true (by rw [PyData.depth];have:=q.2;omega)]
 rfl
theorem Sbh:Jmy ["_law_script","_law_told","_law_river_here","_law_k","_law_cell_here","_law_stream_here","_law_standing_here","_law_many","_law_turns","_law_due_here","_law_lap","_law_asked","_law_found"] ["_law_script"] (Jmt (top 93)):=⟨rfl,rfl,rfl,by decide +kernel,rfl,by decide +kernel,by decide +kernel⟩
theorem ok_law (T:Tx K mg a) (B:Bmn mg base):Ss P w K mg base CX0 10 a.a_law a.d_law ["_law_script"] (spLaw K a):=by
 have Se8:=Jzj (P:=P) (w:=w) (base:=base) T
 have Scd:=Jsq (P:=P) (w:=w) (base:=base) T
 have Sl:=Jpb (P:=P) (w:=w) (base:=base) T
 have Sfx:=Jy8 (P:=P) (w:=w) (base:=base) T
 have Sgi:=Jzm (P:=P) (w:=w) (base:=base) T
 have Sef:=Jv7 (P:=P) (w:=w) (base:=base) T
 have Sh6:=Yn (P:=P) (w:=w) (base:=base) T
 have Sf8:=Jwn (P:=P) (w:=w) (base:=base) T B
 have Sh7:=Yo (P:=P) (w:=w) (base:=base) T B
 have Spw:=Snd (P:=P) (w:=w) (base:=base) T
 have Se1:=Jud (P:=P) (w:=w) (base:=base) T
 refine T.f_law.fn.ok Sbh (λvs H Q E h=>?_) (λcdv A outer s H vs Q E hr h=>?_)
 ·obtain ⟨x,ns,rfl,_⟩:=h
  rfl
 ·obtain ⟨x,ns,rfl,hS,hl,htk,hts,k⟩:=h
  have hu64:=Jxw hr
  refine ⟨?t,?B,?C⟩
  case B=>
   refine' Sw ?O0 ?O1
   case O0=>exact (Jn3 (i:=1) Sbh.nd rfl (ye rfl) (Jmv T.Jw Sfx hr (by decide) (Sk (Jmv T.Jq Se8 hr (by decide) (Sk (pv 0) (Sk So Sm))) Sm)))
   case O1=>
   refine' Sw ?O2 ?O3
   case O2=>exact (Jn3 (i:=2) Sbh.nd rfl (ye rfl) (Jmv T.Jy Sgi hr (by decide) (Sk (pv 1) Sm)))
   case O3=>
   refine' Sw ?O4 ?O5
   case O4=>
    refine' Jpj ?O6 ?O7 ?O8 ?O9 ?Oa
    case O6=>exact PassesOwn.never
    case O7=>exact rfl
    case O8=>exact (Ybs (by rfl) T.Jb2 (Sk So (Sk (Jmx (Jpl rfl) (by rfl) T.Jb0 Jsu (Sk So (Sk (Jmx (Jor rfl) (by rfl) T.Jb1 Jqn (Sk (Jmx Jn8 (by rfl) T.Jay Jnz (Sk (pv 0) Sm)) (Sk So Sm))) Sm))) Sm)))
    case O9=>exact (Jmz (i:=3) Sbh.nd rfl (ye rfl))
    case Oa=>
    refine' Sw ?Ob ?Oc
    case Ob=>exact (Jn3 (i:=4) Sbh.nd rfl (ye rfl) (Jmv T.Jq Se8 hr (by decide) (Sk (pv 0) (Sk (pv 3) Sm))))
    case Oc=>
    refine' Sw ?Od ?Oe
    case Od=>exact (Jn3 (i:=5) Sbh.nd rfl (ye rfl) (Jmv T.Jr Scd hr (by decide) (Sk (pv 4) Sm)))
    case Oe=>
    refine' Sw ?Of ?Og
    case Of=>exact (Jn3 (i:=6) Sbh.nd rfl (ye rfl) (Jmv T.Ja0 Sef hr (by decide) (Sk (pv 5) (Sk (pv 1) Sm))))
    case Og=>
    refine' Sw ?Oh ?Oi
    case Oh=>exact (Jn3 (i:=7) Sbh.nd rfl (ye rfl) (Jmv T.Js Sl hr (by decide) (Sk (pv 5) (Sk (Jn1 Jne (Jol (pa8 So So So So So So So So)) (Jmv T.Js Sl hr (by decide) (Sk (pv 5) (Sk So Sm))) (λ_ _=>rfl)) Sm))))
    case Oi=>
    refine' Sw ?Oj ?Ok
    case Oj=>
     refine' Jng ?Ol ?Om ?On
     case Ol=>exact (Jnp Jrf (Jmx Jn8 (by rfl) T.Jay Jnz (Sk (Jn1 Jn9 (pv 1) So (λ_ _=>rfl)) Sm)) So (Jni _))
     case Om=>
      refine' Sy ?Oo
      case Oo=>exact (Jn3 (i:=7) Sbh.nd rfl (ye rfl) (Jmx (Jor rfl) (by rfl) T.Jb1 Jqn (Sk (pv 7) (Sk So Sm))))
     case On=>exact Jn6
    case Ok=>
    refine' Sw ?Op ?Oq
    case Op=>
     refine' Jpi ?Or ?Os
     case Or=>exact (Jmv T.Jad Sh6 hr (by decide) (pa4 (pv 1) (pv 4) (pv 6) (pv 7)))
     case Os=>exact (Snk rfl (Jn7 (Jmz (i:=8) Sbh.nd rfl (ye rfl)) (Jn7 (Jmz (i:=9) Sbh.nd rfl (ye rfl)) Joe)))
    case Oq=>
    refine' Sy ?Ot
    case Ot=>
    refine' Jpj ?Ou ?Ov ?Ow ?Ox ?Oy
    case Ou=>exact PassesOwn.never
    case Ov=>exact rfl
    case Ow=>exact (Jpc (by rfl) T.Jb2 (Sk So Sm))
    case Ox=>exact (Jmz (i:=10) Sbh.nd rfl (ye rfl))
    case Oy=>
    refine' Sw ?Oz ?U0
    case Oz=>exact (Jn3 (i:=11) Sbh.nd rfl (ye rfl) (Jol Sm))
    case U0=>
    refine' Sw ?U1 ?U2
    case U1=>exact (Jn3 (i:=12) Sbh.nd rfl (ye rfl) (Jmv T.Jj Spw.calm hr (by decide) (pa5 (pv 2) (pv 6) (Jmv T.Jab Sf8 hr (by decide) (Sk (pv 1) (Sk (pv 4) (Sk (pv 11) Sm)))) (Jmv T.Jac Sh7 hr (by decide) (Sk (pv 1) (Sk (pv 4) (Sk (pv 11) Sm)))) (pv 7))))
    case U2=>
    refine' Sy ?U3
    case U3=>
    refine' Jng ?U4 ?U5 ?U6
    case U4=>exact (PW.pt (Jri (Jnh (Jnf (Jmv T.Jaf Se1 hr (by decide) (Sk (pv 12) (Sk (pv 6) (Sk (pv 8) Sm)))))) (Jqf (Jnp (Ys hu64) (pv 11) (pv 9) (Jni _)))))
    case U5=>
     refine' Sy ?U7
     case U7=>exact (Jn0 Jov)
    case U6=>exact Jn6
   case O5=>
   refine' Sy ?U8
   case U8=>exact (Jn0 Jov)
  refine ⟨_,rfl,x,ns,0,rfl,hS,λc0=>⟨c0,rfl,λtd R p0 H1 hp0 s1 st0 rt rg=>?_⟩⟩
  refine ⟨_,rfl,p0,td,R,rfl,rt,rg,λo S H2 s2 ro lk gx=>?_⟩
  have s12:=s1.trans s2
  have rv2:=Snp ro lk rg gx
  have wx2:WX K a p0 o H2 td R S:=⟨rt.same rg s2,rg,lk,rv2⟩
  have ti:=rv2.ti
  refine ⟨_,rfl,x,_,rfl,.inl (s12.seq hS),_,_,rfl,_,_,rfl,_,_,rfl,⟨by decide,by decide,?_,?_⟩,?_⟩
  ·split <;> split <;> omega
  ·split <;> split <;> omega
  refine Jpn (λi σ H'=>∃o3 o4 o5 o6 o7 o8 o9 o10 o11 o12,σ= [some (.ref x),some td,some (.ref o),o3,o4,o5,o6,o7,o8,o9,o10,o11,o12]/\Sj H2 H') ⟨_,_,_,_,_,_,_,_,_,_,rfl,Sj.refl _⟩ ?_ ?_
  ·rintro i σ Hs hi ⟨o3,o4,o5,o6,o7,o8,o9,o10,o11,o12,rfl,sH⟩
   refine ⟨_,rfl,_,rfl,x,ns,1+i,by simp,(s12.trans sH).seq hS,λcl=>?_⟩
   refine ⟨_,rfl,cl,rfl,λp H3 hp s3 st=>?_⟩
   have wx3:=((wx2.same sH).move hp).same s3
   refine ⟨_,rfl,_,rfl,p,td,R,rfl,st,wx3.rt,rg,λsv ls wt H4 b4 sd=>?_⟩
   refine ⟨_,rfl,(show 8<=S6 by decide),λL hL=>?_⟩
   have nL:L≠p:=b4.2.ne hL
   have b5:=But.of b4.2 (Sj.upd (o:=.lst [V.int 4,V.int 8,V.int 16,V.int 30,V.int 60,V.int 8,V.int 16,V.int 201]) hL)
   refine ⟨_,rfl,p,8,rfl,b5.2,by decide,by decide,λr3 H6 r30 r31 b6=>?_⟩
   obtain ⟨n3,hat,n31,n32⟩:∃n:Int,atI [V.int 4,V.int 8,V.int 16,V.int 30,V.int 60,V.int 8,V.int 16,V.int 201] r3=some (.int n)/\1<=n/\n<=201:=by
    have cs:r3=0\/r3=1\/r3=2\/r3=3\/r3=4\/r3=5\/r3=6\/r3=7:=by omega
    rcases cs with rfl|rfl|rfl|rfl|rfl|rfl|rfl|rfl <;> exact ⟨_,rfl,by decide,by decide⟩
   refine ⟨L,_,r3,_,rfl,rfl,Sv.of (b6.1 _ _ nL Sr),hat,p,_,rfl,b6.2,by omega,Jrd (by omega),λmv H7 m0 m1 b7=>?_⟩
   have b37:=(b4.trans b5).trans (b6.trans b7)
   have b47:=b5.trans (b6.trans b7)
   have wx7:=wx3.but st b37
   have sd7:=sd.but b4.2 b47
   have s7:Sj Hs H7:=λc ob e=>b37.1 _ _ (Jmw e hp) (s3 _ _ e)
   dsimp only [Jpa]
   refine Jql (λσ H'=>∃n:Nat,n<=200/\σ= [some (.ref x),some td,some (.ref o),some (.int (1+i)),some (.int cl),some (.ref p),some sv,some (.int n),o8,o9,o10,o11,o12]/\H'=H7) (λR' hR=>?_) ?_
   ·obtain ⟨t,lb,lt,bs,ts,rfl,ht,hb,btl,_⟩:=id wx7.rt
    refine ⟨_,rfl,t,_,2,_,rfl,rfl,Su.of ht,rfl,lb,_,rfl,.inl (Sv.of hb),_,_,rfl,rfl,_,rfl,?_⟩
    by_cases h4:(4:Int) < bs.length
    ·refine ifT (decide_eq_true h4) ⟨_,rfl,_,_,rfl,hR _ _ ⟨(if 30 < mv then 30 else mv).toNat,by split <;> omega,?_,rfl⟩⟩
     rw [Int.toNat_of_nonneg (by split <;> omega)]
     rfl
    ·refine ifF (decide_eq_false h4) (hR _ _ ⟨mv.toNat,by omega,?_,rfl⟩)
     rw [Int.toNat_of_nonneg m0]
     rfl
   ·rintro σ Hx ⟨n,hn,rfl,rfl⟩
    refine ⟨_,rfl,_,rfl,_,rfl,_,rfl,p,o,td,R,S,sv,ls,wt,cl,n,rfl,hn,wx7,sd7,λD TL As ds dsv m H8 s8 hD hTL hAs nTL nAs en da al=>?_⟩
    refine ⟨D,_,rfl,Sv.of hD,rfl,_,_,rfl,_,_,rfl,rfl,?_⟩
    refine ⟨2,rfl,by decide,by decide,?_⟩
    refine Jpn (λj σ H'=>∃q10 q11 q12,σ= [some (.ref x),some td,some (.ref o),some (.int (1+i)),some (.int cl),some (.ref p),some sv,some (.int n),some (.ref TL),some (.ref As),q10,q11,q12]/\Sj H8 H') ⟨_,_,_,rfl,Sj.refl _⟩ ?_ ?_
    ·rintro j σ H' hj ⟨q10,q11,q12,rfl,sl⟩
     have s9:=s8.trans sl
     have tk:Sj H H':=(s12.trans sH).trans (s7.trans s9)
     refine ⟨(show 0<=S6 by decide),λAq hAq=>?_⟩
     have a1:=Sj.upd (o:=.lst []) hAq
     refine ⟨_,rfl,_,rfl,_,rfl,_,rfl,_,rfl,td,cl,Aq,rfl,a1 _ _ (tk _ _ htk),λf Hf sf kf=>?_⟩
     refine ⟨_,rfl,_,rfl,_,rfl,td,cl,Aq,rfl,sf _ _ (a1 _ _ (tk _ _ hts)),λg Hg sg kg=>?_⟩
     have aA:=sg _ _ (sf _ _ (Sr (H:=H') (a:=Aq) (o:=.lst [])))
     have s0:=a1.trans (sf.trans sg)
     refine ⟨_,rfl,Aq,f,g,p,o,H',td,R,S,sv,ls,wt,cl,n,rfl,hn,aA,⟨hAq,s0,wx7.same s9,Sbz.same sg kf,kg⟩,(sd7.same s9).same s0,λr ts asv m' Hr er en' gd ra ta hA' al'=>?_⟩
     obtain rfl:=en.uniq en'
     have sr:Sj H' Hr:=er.of hAq s0
     have sr8:=sl.trans sr
     refine ⟨_,rfl,_,rfl,_,rfl,r,TL,sv,ts,ds,n,m,R,S,cl,ls,wt,rfl,rg,lk,ti,ra,ta,sr8 _ _ hTL,da.ll (LL.same sr8),(sd7.same s8).same sr8,en,hn,gd,λH9 s9'=>⟨_,rfl,Jnv ?_⟩⟩
     refine ⟨_,rfl,_,rfl,_,_,.lst (Sv.of (s9' _ _ hA')) (Jxs (al'.map λv d h=>h.ll (LL.same s9'))),.lst (Sv.of (s9' _ _ (sr8 _ _ hAs))) (Jxs (al.map λv d h=>h.ll (LL.same (sr8.trans s9')))),Scz.1,Scz.1,_,rfl,ifF ?_ ?_⟩
     ·rw [if_pos rfl,Scz.2]
      rfl
     ·exact ⟨_,_,_,rfl,sr8.trans s9'⟩
    ·rintro σ H' ⟨q10,q11,q12,rfl,sl⟩
     exact ⟨_,_,_,_,_,_,_,_,_,_,rfl,sH.trans (s7.trans (s8.trans sl))⟩
  ·rintro σ H' ⟨o3,o4,o5,o6,o7,o8,o9,o10,o11,o12,rfl,sH⟩
   exact k _
end
end K14
namespace PySem.W.Fast
def tw9381397326358218073:=()
def tw2105531333481284820:=()
def tw10160671514685071648:=()
def tw7539496647503982259:=()
def tw7554977025251829945:=()
def tw6060591420095336976:=()
def tw9514429953084516842:=()
def tw5061996203939982614:=()
def tw10448395910302718558:=()
def tw16231210150755061318:=()
def tw18421634622747329966:=()
def tw1810734770297318921:=()
def tw2729871136157157582:=()
def tw10731869092385002119:=()
def tw11976887124076158914:=()
def tw5581825515379442789:=()
def tw6599375036750678996:=()
def tw16975069850293316351:=()
def tw17811072007839431737:=()
def tw11975664156219959486:=()
def tw15159750316513862491:=()
def tw3371821949510813732:=()
def tw2088672428025524957:=()
def tw13866138252850690898:=()
def tw14787240125735440416:=()
def tw13443380323085940324:=()
def tw6143427781147019343:=()
def tw5962817592536233646:=()
def tw8828165336737888476:=()
def tw11352116234010597854:=()
def tw9357070684993690244:=()
def tw14058917793918060114:=()
def tw17851198023846010195:=()
def tw2861020579224661179:=()
def tw10750725017262047300:=()
def tw898806208090877106:=()
def tw14392551392240252761:=()
def tw7034097111978773609:=()
def tw16590632144235697580:=()
def tw13837111199462918359:=()
def tw18381388791944429387:=()
def tw8592862544515177613:=()
def tw11882538969113898581:=()
def tw10402406845707371306:=()
def tw7526618742476809850:=()
def tw4229362750724423341:=()
def tw15541093082575669679:=()
def tw13898583713962560235:=()
def tw12347249632636278241:=()
def tw9078432270068866865:=()
def tw6188905059185489178:=()
def tw3683434410990924956:=()
def tw7242780697855361049:=()
def tw7217365303454912881:=()
def tw151063530856215540:=()
def tw7693970807266845994:=()
def tw4396943355738873154:=()
def tw11492892200861274265:=()
def tw4219661990111613860:=()
def tw1492024415314402072:=()
def tw340991464382177311:=()
def tw10031936825917797046:=()
def tw12270344736494804312:=()
def tw15507834503697351984:=()
def tw3131351875985164741:=()
def tw18241856667877513764:=()
def tw447381554960069148:=()
def tw12583274384399428022:=()
def tw12675994098645671656:=()
def tw17276727207514746395:=()
def tw17934354552481966845:=()
def tw14920926221710008166:=()
def tw11276954747448061212:=()
def tw6099766161058210806:=()
def tw3906102470127568975:=()
def tw5963253374314336724:=()
def tw3015611497042175748:=()
def tw17562762485464240739:=()
def tw17379519350725052798:=()
def tw328975513172093210:=()
def tw3158610681310735835:=()
def tw11937545686633395211:=()
def tw18381750465204186071:=()
def tw18048051725170189996:=()
def tw9693532655483686077:=()
def tw9171295279562695019:=()
def tw11857885326312325040:=()
def tw9286663070223223189:=()
def tw7142554993966416358:=()
def tw11123533816295001607:=()
def tw9023404870879911287:=()
def tw5158992402859538483:=()
def tw630164638006559549:=()
def tw4389394238128393550:=()
def tw3082456462380446909:=()
def tw7497395240282329225:=()
def tw1268517627784535534:=()
def tw8874850460898609871:=()
def tw14900148567220651679:=()
def tw16700616805429343190:=()
def tw15347244932672640232:=()
def tw10200378481688573966:=()
def tw15990822621383347929:=()
def tw493986352883276210:=()
def tw8388132890201902832:=()
def tw14184783247734774455:=()
def tw8978743148849148381:=()
def tw410456800040617429:=()
def tw7821992071458153604:=()
def tw12600356927111049240:=()
def tw15157870201094959250:=()
def tw4413359675656120514:=()
def tw4739820236023227650:=()
def tw17758269295703465864:=()
def tw9241956022152185173:=()
def tw6644739889002999142:=()
def tw4838130447151714389:=()
def tw16396999915511653707:=()
def tw6490375586888954814:=()
def tw138285677087909582:=()
def tw16369496126764210890:=()
def tw10514104715899801776:=()
def tw7126083632100850374:=()
def tw6700002385552917073:=()
def tw3011899089347711367:=()
def tw10067146340903443817:=()
def tw8113325489833743160:=()
def tw12832803877316784483:=()
def tw3662240174573224703:=()
def tw7410919737926688063:=()
def tw5462593081801537842:=()
def tw7751334941258162920:=()
def tw2758795867587158092:=()
def tw7836421613555314028:=()
def tw5990901638205714881:=()
def tw10449945556180507180:=()
def tw17718096746199908812:=()
def tw3518250283733553916:=()
def tw10617702124149238453:=()
def tw929431425682072871:=()
def tw91170674613770373:=()
def tw10624443670949708440:=()
def tw13424375540250508130:=()
def tw3141784900255378342:=()
def tw18372684836210463158:=()
def tw13779872905177802816:=()
def tw7226859384902810184:=()
def tw836664972327360337:=()
def tw11878752088304902717:=()
def tw9120374948965205052:=()
def tw7746757662176921135:=()
def tw14617430242791404850:=()
def tw3950268382331051844:=()
def tw1592756987624091844:=()
def tw461504683443602228:=()
def tw13002318520514897805:=()
def tw3783565883095556905:=()
def tw8585311684834420307:=()
def tw9029347497778639437:=()
def tw8917217950980875654:=()
def tw4064676712218330034:=()
def tw2568552112044342842:=()
def tw1111438970464041151:=()
def tw17746522909178536569:=()
def tw4211068352355888996:=()
def tw16986085838455457525:=()
def tw1484715759936450100:=()
def tw14123867627969823493:=()
def tw14316818402274556344:=()
def tw8410272395026375513:=()
def tw7189748772292681140:=()
def tw18001271897715850299:=()
def tw7221076190046294856:=()
def tw17789405343321644819:=()
def tw6060320472341379263:=()
def tw13420106781725860569:=()
def tw13879695699735590472:=()
def tw2014342213244790106:=()
def tw12670610638244774292:=()
def tw7164284560949507663:=()
def tw4004966023537132760:=()
def tw8904503348364757155:=()
def tw4842522272780602468:=()
def tw12642683560767415192:=()
def tw8743273109763588510:=()
def tw1450441648883181422:=()
def tw14944324772092244454:=()
def tw11568775009680568825:=()
def tw18143554253200119802:=()
def tw1489239396499768245:=()
def tw760003415997794353:=()
def tw949430122175524587:=()
def tw14968348141670248015:=()
def tw6837489379841106470:=()
def tw5195190462794794802:=()
def tw302614259079889979:=()
def tw273515066162390362:=()
def tw12544742476535256926:=()
def tw12282480212063804845:=()
def tw7188579316924473161:=()
def tw5993926303308801624:=()
def tw13475879949244877957:=()
def tw6745832059383928333:=()
def tw11990445747495714303:=()
def tw17273993204921313393:=()
def tw9689161562304208974:=()
def tw17267739328582571890:=()
def tw4125222935574206141:=()
def tw6186726204302928928:=()
def tw5557312443931240011:=()
def tw12026474348481014709:=()
def tw16777480596655513572:=()
def tw13768422531001056143:=()
def tw2448560528422301283:=()
def tw8102535611867076919:=()
def tw17891519567280839532:=()
def tw18396161763247648792:=()
def tw17096483087478711114:=()
def tw12468696002929857700:=()
def tw6087277057079809574:=()
def tw17048980657064862207:=()
def tw4440657072122495709:=()
def tw2800395885889443879:=()
def tw11311892191472942906:=()
def tw3562094235762494405:=()
def tw12152674910474772606:=()
def tw6400499716199291217:=()
def tw3005133040383646324:=()
def tw17431724555786201543:=()
def tw2505532791211920295:=()
def tw18049620200249051949:=()
def tw16186779904598370638:=()
def tw13074627145449420542:=()
def tw10620389794564068615:=()
def tw17734046605422110640:=()
def tw15199840041809636618:=()
def tw4070111801894149330:=()
def tw11738170964248731758:=()
def tw553379142498425849:=()
def tw6353706916939897641:=()
def tw157545654690349977:=()
def tw10813710073863479509:=()
def tw3822119132563320679:=()
def tw2404326973907838561:=()
def tw9544046685311837186:=()
def tw7829715743426193375:=()
def tw17757103422924896647:=()
def tw3282236229332250264:=()
def tw18002688182544797726:=()
def tw14080949921302340925:=()
def tw5051390408302095075:=()
def tw12912095797626363372:=()
def tw12416284908834377592:=()
def tw1441016049044179509:=()
def tw880821387165850184:=()
def tw4668095320115276942:=()
def tw17334708410707945079:=()
def tw16299334822837405549:=()
def tw12510917185740435085:=()
def tw11161806312435575146:=()
def tw10089902529157127196:=()
def tw6939559733873605473:=()
def tw4843769867077043950:=()
def tw3602940806698009818:=()
def tw17148624552564823240:=()
def tw5934808972981929382:=()
def tw5024915715862703990:=()
def tw11527364594058007280:=()
def tw10990959155270926889:=()
def tw6092796886109984043:=()
def tw2652389158943445274:=()
def tw17530436570455317989:=()
def tw6254069599020246404:=()
def tw4805568696586702856:=()
def tw4061882644294634985:=()
def tw17362587060534141512:=()
def tw15874811895738952133:=()
def tw11283128491055390013:=()
def tw6625326326450913936:=()
def tw3042785031163666649:=()
def tw14484320621302377782:=()
def tw13913281614503956028:=()
def tw13036269221891979020:=()
def tw1263006200886617441:=()
def tw11741132953344558133:=()
def tw11409927569518112371:=()
def tw10322693499418844263:=()
def tw4979976242806512939:=()
def tw6201884868408699661:=()
def tw17968680564759274214:=()
def tw12467642415404335764:=()
def tw17828336797255239450:=()
def tw11739736121282992456:=()
def tw8680365784345650646:=()
def tw808473084356351091:=()
def tw6309621401607353874:=()
def tw16816672587520205062:=()
def tw840750831717435014:=()
def tw26966189354380975:=()
def tw9591073724617916872:=()
def tw9544456974644198771:=()
def tw8880352486930187169:=()
def tw8878082896209572422:=()
def tw8462882116695582404:=()
def tw8213086073181295779:=()
def tw8123574387333299925:=()
def tw7965534786578002635:=()
def tw7617259172230891825:=()
def tw7540521701284215682:=()
def tw7325069390050336548:=()
def tw7104734611078173220:=()
def tw5551049343964604254:=()
def tw4597470218609309562:=()
def tw4069183148314440425:=()
def tw399491224869287609:=()
def tw3976522723021732600:=()
def tw3773063799019786890:=()
def tw3631791811256666930:=()
def tw3481694304078353457:=()
def tw2855703610985187386:=()
def tw17880744532663069462:=()
def tw17859143293646842837:=()
def tw1769552482725243775:=()
def tw15221995633682720754:=()
def tw1485016149976853520:=()
def tw14014679273365044291:=()
def tw12509655164226849303:=()
def tw12310150918707938864:=()
def tw11361653896483435657:=()
def tw4956011027100685530:=()
def tw9857108953829772623:=()
def tw8578095747891089817:=()
def tw8235167869886783993:=()
def tw7910583600318117863:=()
def tw6926452295287149830:=()
def tw6457001426888774554:=()
def tw6041959939691190149:=()
def tw5194562897775910958:=()
def tw4365655838664640034:=()
def tw3676753128738608869:=()
def tw2839456963577037964:=()
def tw277095481267868652:=()
def tw2588305079815679446:=()
def tw16112234349733003280:=()
def tw15708917726274709101:=()
def tw15427834829772245695:=()
def tw1499927674487087716:=()
def tw14735456231290468194:=()
def tw14357637292208344641:=()
def tw12446585259810677216:=()
def tw12208307167239725761:=()
def tw11328726957752624190:=()
def tw10722431990358557334:=()
def tw6082351905145249504:=()
def tw6039451210606684288:=()
def tw5712411757091911455:=()
def tw2621714686206939262:=()
def tw2594227945999730116:=()
def tw2226481114547009906:=()
def tw11616460669958146656:=()
def tw11441997781218904841:=()
def tw10913531656846167919:=()
def tw6568608953645577585:=()
def tw5775028002481075159:=()
def tw5338800829812119828:=()
def tw4658817074118967600:=()
def tw442460620507124930:=()
def tw3306955785779248544:=()
def tw2255272177802609033:=()
def tw11348437491420332187:=()
def tw10492025539242277241:=()
def tw9762774906894430516:=()
def tw6059428398616137747:=()
def tw15075006681751037094:=()
def tw13895075046967678279:=()
def tw11839147190617092148:=()
def tw11879054617573265259:=()
def tw8973706890213301083:=()
def tw6900148896525044673:=()
def tw600069247340764233:=()
def tw4351267807378272992:=()
def tw3640980464390999758:=()
def tw3248950892406886458:=()
def tw252165327082042800:=()
def tw1958930489175317676:=()
def tw17931328151965524196:=()
def tw1785470358585049893:=()
def tw16020734661246514354:=()
def tw15284968467267961044:=()
def tw14275424914323099506:=()
def tw14109123552930095204:=()
def tw14064863171281682779:=()
def tw10470540169801939513:=()
def tw10232814358525194969:=()
def tw15625034186183286890:=()
def tw75821312422573286:=()
def tw6868969181503894209:=()
def tw6703723621573081543:=()
def tw659028769221925171:=()
def tw6309938589656226588:=()
def tw6081318737519218975:=()
def tw5371648661972873373:=()
def tw297527674736393077:=()
def tw19410645387732248:=()
def tw15634073831740348880:=()
def tw13844691826721670253:=()
def tw13654570944976901225:=()
def tw10593394350177956101:=()
def tw13252635510784926985:=()
def tw8689837919954446196:=()
def tw432852359146233393:=()
def tw3473199325457729078:=()
def tw1889426239733221139:=()
def tw17975979154832840438:=()
def tw11030987931382546956:=()
def tw5688140574370335547:=()
def tw5607759059916136586:=()
def tw329752499942951005:=()
def tw2524928841417302060:=()
def tw1715925145834976813:=()
def tw16594964455784181498:=()
def tw15790250002830849338:=()
def tw15299296789436684740:=()
def tw14375072509994291247:=()
def tw14043055513480343279:=()
def tw12248214994190380603:=()
def tw7310752473385311344:=()
def tw12892640273636477358:=()
def tw10147782125508394141:=()
def tw17167484745719755233:=()
def tw175316620309057580:=()
def tw5703550347724265964:=()
def tw9405009979319855035:=()
def tw8675573378557334020:=()
def tw8202894303493717430:=()
def tw6597773502512870084:=()
def tw5187458297649189765:=()
def tw4366365071888276773:=()
def tw3716140316684443942:=()
def tw17900232523193049223:=()
def tw17612001994577031150:=()
def tw1746756795774081751:=()
def tw17340001084590585592:=()
def tw16515309533490902960:=()
def tw15844256737888468694:=()
def tw15705681191124161430:=()
def tw14921004464093573105:=()
def tw13839620577286658358:=()
def tw13348999071707981094:=()
def tw13185109305346932709:=()
def tw13050419126743757634:=()
def tw12840035535387854060:=()
def tw12819307605557382881:=()
def tw12803966215541640192:=()
def tw11146469897095109403:=()
def tw10643368216630830950:=()
def tw14051519925743305093:=()
def tw12634193761134022359:=()
def tw9117120400425832049:=()
def tw7827324088487983642:=()
def tw5743868152099404875:=()
def tw4348790233205953140:=()
def tw4337226239289322075:=()
def tw16704381389266609324:=()
def tw15293695608385131913:=()
def tw15094640599040767520:=()
def tw14559666537800762498:=()
def tw126423639974728191:=()
def tw10568052665950384586:=()
def tw17288890286955839482:=()
def tw10515918419559941993:=()
def tw6148000072499562294:=()
def tw650897947890614347:=()
def tw3179437801103901402:=()
def tw12647073950517675009:=()
def tw12402062438486876764:=()
def tw474824824971046633:=()
def tw2525531878397620120:=()
def tw13894035125443165547:=()
def tw10747634641704874762:=()
def tw13837988111140391332:=()
end PySem.W.Fast
open PySem PySem.W PyProof.Rows
set_option maxRecDepth 100000 in
set_option maxHeartbeats 0 in
theorem PySem.Challenge.cw_weirwatch_k14_whole_runs_holds : PySem.Challenge.rw_weirwatch_k14_whole_runs.Holds := by
 w_on;o_law;k_head;(case hw=>w_witness2)
 k_fill
 refine L2.walk_ofT (l:=PySem.Challenge.rw_weirwatch_k14_whole_runs) (n:=63) (k:=10) (x:="_law_script") (CX:=L2.CX0) rfl (by decide) rfl ⟨rfl,by decide,by decide⟩ (λw h Y=>PySem.W.km_in_of Y) ?K ?F ?C
 case K=>intro w;kernel_rfl
 case F=>
  intro w mg fa h KX G TB hmg
  have T:∃a:K14.Ad,(∀(s:S3) (v:S2),BindsTo s a.d_law ⟨[v],[]⟩ [("_law_script",v)])/\K14.Tx (L2.KOf KX) mg a:=by
   have hh:=λaa ab ac ad ae af ag ah ai aj ak al am an ao ap aq ar au av aw ax ay az ba bb bc bd be bf bg bh bi bj bk bl bm bn bo bp bq br bs bt bu bv bw bx bz ca cb cc cd ce cf cg ch ci cj ck cl cm cn co cp cq cr cs ct cu cv cw cx cy cz da db dc dd de df dg dh di dj dk dl dm dn dp dq dr ds dt du dv dw dx dy dz ea eb ec ed ee ef eg eh ei ej ek el em en eo ep eq er es et eu ev ew ex ey ez fb fc fd fe ff fg fh fi fj fk fl fm fn fo fp fq fr fs ft fu fv fw fx fy fz ga gb gc gd ge gf gg gh gi gj gk gl gm gn go gp gq gr gs gt gu gv gw gx gy gz ha hb hc hd he hf hg hh hi hj hk hl hm hn ho hp hq hr hs ht hu hv hw hx hy hz ia ib ic id ie ig ih ii ij ik=>@K14.Tx.mk (L2.KOf KX) mg ⟨aa,ab,ac,ad,ae,af,ag,ah,ai,aj,ak,al,am,an,ao,ap,aq,ar,au,av,aw,ax,ay,az,ba,bb,bc,bd,be,bf,bg,bh,bi,bj,bk,bl,bm,bn,bo,bp,bq,br,bs,bt,bu,bv,bw,bx,bz,ca,cb,cc,cd,ce,cf,cg,ch,ci,cj,ck,cl,cm,cn,co,cp,cq,cr,cs,ct,cu,cv,cw,cx,cy,cz,da,db,dc,dd,de,df,dg,dh,di,dj,dk,dl,dm,dn,dp,dq,dr,ds,dt,du,dv,dw,dx,dy,dz,ea,eb,ec,ed,ee,ef,eg,eh,ei,ej,ek,el,em,en,eo,ep,eq,er,es,et,eu,ev,ew,ex,ey,ez,fb,fc,fd,fe,ff,fg,fh,fi,fj,fk,fl,fm,fn,fo,fp,fq,fr,fs,ft,fu,fv,fw,fx,fy,fz,ga,gb,gc,gd,ge,gf,gg,gh,gi,gj,gk,gl,gm,gn,go,gp,gq,gr,gs,gt,gu,gv,gw,gx,gy,gz,ha,hb,hc,hd,he,hf,hg,hh,hi,hj,hk,hl,hm,hn,ho,hp,hq,hr,hs,ht,hu,hv,hw,hx,hy,hz,ia,ib,ic,id,ie,ig,ih,ii,ij,ik⟩
   dsimp only [L2.KOf,L2.NoAttr] at hh⊢
   apply Exists.intro
   refine' ⟨?bb,?tx⟩
   case tx=>
    apply hh
    iterate 53 (refine' L2.ft_mk KX G ?a ?b ?c ?d ?e;(case a=>k_is);(case b=>k_is);(case c=>k_is);(case d=>k_is);(case e=>first|(intro _ _ _ _ _ _ u h;obtain ⟨_,rfl⟩:=L2.lv1 u h;rfl)|(intro _ _ _ _ _ _ u h;obtain ⟨_,_,rfl⟩:=L2.lv2 u h;rfl)|(intro _ _ _ _ _ _ u h;obtain ⟨_,_,_,rfl⟩:=L2.lv3 u h;rfl)|(intro _ _ _ _ _ _ u h;obtain ⟨_,_,_,_,rfl⟩:=L2.lv4 u h;rfl)|(intro _ _ _ _ _ _ u h;obtain ⟨_,_,_,_,_,rfl⟩:=L2.lv5 u h;rfl)|(intro _ _ _ _ _ _ u h;obtain ⟨_,_,_,_,_,_,_,rfl⟩:=L2.lv7 u h;rfl)))
    iterate 12 (refine' PySem.W.mg_of KX G ?a;(case a=>k_is))
    iterate 16 (refine' PySem.W.mg_none_of KX G ?a;(case a=>k_is))
    iterate 21 (refine' PySem.W.mg_of KX G ?a;(case a=>k_is))
    iterate 35 (k_is)
    iterate 35 (refine' L2.fm_mk ?a ?b ?c ?d;(case a=>k_is);(case b=>k_is);(case c=>k_is);(case d=>first|(intro _ _ _ _ _ _ u h;obtain ⟨_,rfl⟩:=L2.lv1 u h;rfl)|(intro _ _ _ _ _ _ u h;obtain ⟨_,_,rfl⟩:=L2.lv2 u h;rfl)|(intro _ _ _ _ _ _ u h;obtain ⟨_,_,_,rfl⟩:=L2.lv3 u h;rfl)|(intro _ _ _ _ _ _ u h;obtain ⟨_,_,_,_,rfl⟩:=L2.lv4 u h;rfl)|(intro _ _ _ _ _ _ u h;obtain ⟨_,_,_,_,_,rfl⟩:=L2.lv5 u h;rfl)|(intro _ _ _ _ _ _ u h;obtain ⟨_,_,_,_,_,_,_,rfl⟩:=L2.lv7 u h;rfl)))
    iterate 10 (refine' L2.xc_mk ?a ?b ?c;(case a=>k_is);(case b=>kernel_rfl);(case c=>kernel_rfl))
    iterate 44 (constructor <;> k_is)
    iterate 35 (k_is)
    refine' L2.nst_mk ?a ?b ?c ?d ?e;(case a=>k_is);(case b=>rfl);(case c=>k_is);(case d=>rfl);(case e=>rfl)
    kernel_rfl
    refine' L2.nst_mk ?a ?b ?c ?d ?e;(case a=>k_is);(case b=>rfl);(case c=>k_is);(case d=>rfl);(case e=>rfl)
    kernel_rfl
    decide
    iterate 17 (kernel_rfl)
   case bb=>exact λs v=>.of_eq rfl
  obtain ⟨a,b,T⟩:=T
  have e:=hmg.symm.trans T.f_law.mgx
  cases e
  exact ⟨a.d_law,K14.spLaw (L2.KOf KX) a,[(a.Jmk,K14.lb__law_keeper),(a.Jmm,K14.lb__law_sky)],b,List.forall_mem_cons.mpr ⟨L2.tab_kn (y:="_law_keeper") TB rfl T.Jg8,List.forall_mem_cons.mpr ⟨L2.tab_kn (y:="_law_sky") TB rfl T.Jga,λ_ z=>nomatch z⟩⟩,T.tnd,λbase kb nb B=>K14.ok_law T B,λH x ns hl ht hS=>⟨x,ns,rfl,hS,hl,ht _ (.head _),ht _ (.tail _ (.head _)),λ_=>rfl⟩⟩
 case C=>exact λ_ _ _ _ z=>z
#print axioms PySem.Challenge.cw_weirwatch_k14_whole_runs_holds
