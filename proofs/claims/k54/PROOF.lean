import PyProof.Rows.All
import Wide.All
import OpenK.AllK
import Wide.FinOn
import Lean
import PyProof.EqAt
import PyProof.EqKinds
import PyProof.TupleCall
import PyProof.Rows.Range3
import PyProof.Rows.FStr
import KE.KDictSum
import PyProof.DictUpdate
import PyProof.DictIter
import PyProof.Rows.ListMulArg
import KE.KSortTup
import KE.LcSums
import PyProof.SeqI3
import KE.KMinBuiltin
import KE.KRevIter
import PyProof.ListRange
import PyProof.TupleOfSeq
import PySem.Challenge.RW_holdplaces_k54_all_sets_of_rows_and_ring
set_option Elab.async false
set_option bootstrap.genMatcherCode false
set_option maxHeartbeats 8000000
set_option maxRecDepth 100000
set_option linter.all false
noncomputable section
open Option renaming bind_eq_some_iff→au,map_eq_some_iff→aX,bind_eq_bind→aw
open List renaming mem_append_right→bJ,mem_cons_of_mem→aO,mem_cons_self→aP,size_toArray→aJ,lookup_cons→aW,not_mem_nil→cf,length_cons→cg,length_map→a6,replicate→bM,map_cons→aK,mem_cons→aL,mem_map→bN
open PySem renaming mem_of_lookup→bK,wpAny_truthy_bool→a8,wpAny_newObj_type→bS,swappedStores→bt,Comprehension→bz,bootBuiltins→bc,mainGlobals→ay,sizeLine_eq→bp,wpAny_bind→ah,wpAny_pure→av,compareOp→aF,cellsFrom→aQ,sizeLine→az,NameKind→aD,starEach→aH,Program→aq,Shared→af,Around→ar,Value→ae,wpAny→ag,model→ai,World→aj,Scope→aI
open Nat renaming lt_of_lt_of_le→aZ,lt_irrefl→bj,ne_of_lt→aS,le_trans→a5,le_refl→aA
open Bool renaming false_eq_true→a7,false_ne_true→bZ,not_eq_true'→aR,and_eq_true→ax,or_eq_true→a9
open PySem.W renaming mg_none_of→b3,kia_one→a_,kitOne→bh,keepIn→bT,Frag→ao,nsIn→aC,fnOf→bO
open Option.some renaming injEq→bL,inj→bq
open ForInStep renaming yield→b4
open PySem.NameKind renaming free→br
open PySem.Heap renaming lt_size→aE
open PySem.Str renaming ofString→aU
open False renaming elim→aM
open And renaming intro→ak
open PySem.Value renaming ref→aG
open PyProof.Rows renaming Keyed→aB
set_option Elab.async false
namespace L2
open PySem PySem.Spec PyProof.Rows
abbrev Key:=Sum Int Str
noncomputable def eC:Key->ae->Bool
 | .inl k,v=>ae.isInt k v
 | .inr x,v=>ae.isStrOf x v
noncomputable def nI(w:aj):Key->Int
 | .inl k=>hashInt k
 | .inr x=>hashStr w x
theorem de:∀{k:Key}{v:ae},eC k v=true->(∃i t,k=Sum.inl i/\v=ae.int i t)\/(∃x t,k=Sum.inr x/\v=ae.str x t)
 | .inl i,v,h=>by
  obtain⟨t,e⟩:=ae.isInt_shape (k:=i) (v:=v) h;exact .inl ⟨i,t,rfl,e⟩
 | .inr x,v,h=>by
  obtain⟨t,e⟩:=ae.isStrOf_shape (x:=x) (v:=v) h;exact .inr ⟨x,t,rfl,e⟩
theorem uc(i:Int)(t:Tok):eC (.inl i) (.int i t)=true:=by simp[eC,ae.isInt]
theorem n_(x:Str)(t:Tok):eC (.inr x) (.str x t)=true:=by simp[eC,ae.isStrOf]
theorem Ad(a b:Int):decide ((Sum.inl a:Key)=Sum.inl b)=(a==b):=by
 by_cases e:a=b
 ·subst e;simp
 ·have h:¬ (Sum.inl a:Key)=Sum.inl b:=λq=>e (Sum.inl.inj q)
  rw[decide_eq_false h];exact(beq_eq_false_iff_ne.mpr e).symm
theorem pj(a b:Str):decide ((Sum.inr a:Key)=Sum.inr b)=decide (a=b):=by
 by_cases e:a=b
 ·subst e;simp
 ·have h:¬ (Sum.inr a:Key)=Sum.inr b:=λq=>e (Sum.inr.inj q)
  rw[decide_eq_false h,decide_eq_false e]
theorem pS(a:Int)(b:Str):decide ((Sum.inl a:Key)=Sum.inr b)=false:=decide_eq_false (λq=>nomatch q)
theorem xR(a:Str)(b:Int):decide ((Sum.inr a:Key)=Sum.inl b)=false:=decide_eq_false (λq=>nomatch q)
noncomputable def zp(prog:aq)(w:aj):PySem.KeyKind prog w Key where
 is:=eC
 hash:=nI w
 inj:=λv a b ha hb=>by
  rcases de ha with ⟨i,t,rfl,rfl⟩|⟨x,t,rfl,rfl⟩
  ·rcases de hb with ⟨j,u,rfl,e⟩|⟨y,u,rfl,e⟩
   ·injection e with e1 _;rw[e1]
   ·exact nomatch e
  ·rcases de hb with ⟨j,u,rfl,e⟩|⟨y,u,rfl,e⟩
   ·exact nomatch e
   ·injection e with e1 _;rw[e1]
 byValue:=λk v h=>by
  rcases de h with ⟨i,t,rfl,rfl⟩|⟨x,t,rfl,rfl⟩<;>rfl
 pyHash:=λhv h=>by
  rcases de hv with ⟨i,t,rfl,rfl⟩|⟨x,t,rfl,rfl⟩
  ·exact wpAny_pyHash_int h
  ·exact wpAny_pyHash_str h
 eqBool:=λhu hv h=>by
  rcases de hu with ⟨i,t,rfl,rfl⟩|⟨x,t,rfl,rfl⟩
  ·rcases de hv with ⟨j,u,rfl,rfl⟩|⟨y,u,rfl,rfl⟩
   ·rw[Ad]at h;exact wpAny_eqBool_int h
   ·rw[pS]at h;exact SeqAt.EqAt.int_str i t y u _ _ _ _ h
  ·rcases de hv with ⟨j,u,rfl,rfl⟩|⟨y,u,rfl,rfl⟩
   ·rw[xR]at h;exact SeqAt.EqAt.str_int x t j u _ _ _ _ h
   ·rw[pj]at h;exact wpAny_eqBool_str h
 «strs»:=λk x t v h=>by
  rcases de h with ⟨i,u,rfl,e⟩|⟨y,u,rfl,e⟩
  ·exact nomatch e
  ·injection e with e1 _
   subst e1;cases v<;>rfl
theorem o8(prog:aq)(w:aj)(i:Int)(t:Tok):(zp prog w).is (.inl i) (.int i t)=true:=uc i t
theorem pI(prog:aq)(w:aj)(x:Str)(t:Tok):(zp prog w).is (.inr x) (.str x t)=true:=n_ x t
inductive V where
 |non|bl (b:Bool)|int (i:Int)|str (x:Str)|byt (b:Array UInt8)|flt (b:UInt64)|ref (a:Addr)|ty (n:String)
 deriving DecidableEq
noncomputable def RelV:V->ae->Prop
 | .non,u=>u=ae.none
 | .bl b,u=>u=ae.bool b
 | .int i,u=>∃t,u=ae.int i t
 | .str x,u=>∃t,u=ae.str x t
 | .byt b,u=>∃t,u=ae.bytes b t
 | .flt b,u=>∃t,u=ae.float b t
 | .ref a,u=>u=aG a
 | .ty n,u=>u=ae.type n
abbrev Vals:List V->List ae->Prop:=Paired RelV
theorem Vals.length{xs:List V}{us:List ae}(r:Vals xs us):xs.length=us.length:=Paired.length r
theorem Vals.get:∀{xs:List V}{us:List ae}{i:Nat}{x:V},Vals xs us->xs[i]? = some x->∃u,us[i]? = some u/\RelV x u
 |_,_,_,_,.nil,e=>by simp at e
 |_,_,0,_,.cons r _,e=>by simp at e;subst e;exact⟨_,rfl,r⟩
 |_,_,i+1,x,.cons _ t,e=>by
  obtain⟨u,h1,h2⟩:=Vals.get (i:=i) (x:=x) t (by simpa using e);exact⟨u,by simpa using h1,h2⟩
theorem Vals.set{x:V}{u:ae}(r:RelV x u):∀{xs:List V}{us:List ae} (i:Nat),Vals xs us->Vals (xs.set i x) (us.set i u)
 |_,_,_,.nil=>.nil
 |_,_,0,.cons _ t=>.cons r t
 |_,_,i+1,.cons q t=>.cons q (Vals.set r i t)
theorem Vals.append:∀{xs ys:List V}{us ws:List ae},Vals xs us->Vals ys ws->Vals (xs++ys) (us++ws)
 |_,_,_,_,.nil,s=>s
 |_,_,_,_,.cons r t,s=>.cons r (Vals.append t s)
theorem Vals.take:∀{xs:List V}{us:List ae} (n:Nat),Vals xs us->Vals (xs.take n) (us.take n)
 |_,_,0,_=>.nil
 |_,_,_+1,.nil=>.nil
 |_,_,n+1,.cons r t=>.cons r (Vals.take n t)
theorem Vals.drop:∀{xs:List V}{us:List ae} (n:Nat),Vals xs us->Vals (xs.drop n) (us.drop n)
 |_,_,0,r=>r
 |_,_,_+1,.nil=>.nil
 |_,_,n+1,.cons _ t=>Vals.drop n t
noncomputable def bY:Option V->Option ae->Prop
 |some v,some u=>RelV v u
 |none,none=>True
 |_,_=>False
noncomputable def KV{κ:Type}:List (κ×V)->List (κ×ae)->Prop:=Paired λ(p:κ×V) (q:κ×ae)=>p.1=q.1/\RelV p.2 q.2
noncomputable def kV:Key->V
 | .inl i=>.int i
 | .inr x=>.str x
inductive HO where
 |lst (xs:List V)
 |tup (xs:List V)
 |dK (kvs:List (Key×V))|dT (kvs:List (List Key×V))
 |set (S:Int->Bool) (n:Nat)
 |ins (C dx:Addr) (fs:List (Str×V))
 |own (x:Addr)
 |xd (fs:List (Str×V))
 |met (f x:Addr)
 |rng (lo hi:Int)
 |frz (o:Obj) (u:HO)
 |tbl (ps:Array ae)
 |ext (φ:Heap->Prop)
abbrev Hp:=Addr->Option HO
noncomputable def upd(H:Hp)(a:Addr)(o:HO):Hp:=λb=>if b=a then some o else H b
theorem zi{H:Hp}{a:Addr}{o:HO}:upd H a o a=some o:=by unfold upd;rw[if_pos rfl]
theorem qg{H:Hp}{a b:Addr}{o:HO}(h:b≠a):upd H a o b=H b:=by unfold upd;rw[if_neg h]
theorem q_{H:Hp}{a:Addr}{o u:HO}:upd (upd H a o) a u=upd H a u:=by
 funext b;unfold upd;split<;>rfl
theorem nJ{H:Hp}{a b:Addr}{o u:HO}(h:H a=some o)(h':H b=some u)(d:o≠u):a≠b:=by
 intro e;subst e;rw[h]at h';exact d (bq h')
theorem fj{H:Hp}{a b:Addr}{o:HO}(h:H a=some o)(h':H b=none):a≠b:=by
 intro e;subst e;rw[h]at h';cases h'
section
variable(P:aq)(w:aj)
noncomputable def zx(H:Hp)(h:Heap)(a:Addr):HO->Prop
 | .lst xs=>xs.length<=az/\∃(its:List ae) (n:Nat),Vals xs its/\h.get? a=some {cls:=.type "list",data:=.seq its.toArray n}
 | .tup xs=>xs.length<=az/\∃its:List ae,Vals xs its/\IsTup h a its.toArray
 | .dK kvs=>kvs.length<=az/\(a==sysModules)=false/\∃vs,KV kvs vs/\h.DictOf (zp P w) a vs
 | .dT kvs=>kvs.length<=az/\(a==sysModules)=false/\∃xs:List (List Key×Addr×ae),
   Paired (λ(p:List Key×V) (q:List Key×Addr×ae)=>p.1=q.1/\H q.2.1=some (.tup (p.1.map kV))/\RelV p.2 q.2.2) kvs xs /\
   ∃o es ep,h.get? a=some o/\o.ExactDict/\o.data=.dict es ep/\es.toList=xs.map (entryOfKey (tupleKind (zp P w)))/\(xs.map (·.1)).Nodup
 | .set S n=>h.SetOf (intKind P w) a S n
 | .ins C dx fs=>H dx=some (.own a)/\fs.length<=1000/\dx≠a/\h.get? a=some (PySem.W.instObj C dx) /\
   ∃mA,h.Ns1 dx mA/\(∀f,bY (fs.lookup f) (mA f))/\PySem.Within mA (fs.map (·.1))
 | .own _=>∃o,h.get? a=some o
 | .xd fs=>∃mA,h.Ns1 a mA/\∀f,bY (fs.lookup f) (mA f)
 | .rng lo hi=>∃t u v,h.get? a=some {cls:=.type "range",data:=.fields #[.int lo t,.int hi u,.int 1 v]}
 | .frz o u=>h.get? a=some o/\zx H h a u
 | .tbl ps=>h.get? a=some {cls:=.none,data:=.fields ps}
 | .met f x=>h.get? a=some (PySem.W.methodObj (.ref f) (.ref x))
 | .ext φ=>φ h/\(∃o,h.get? a=some o)/\∀h1 h2:Heap,φ h1->(∀o,h1.get? a=some o->h2.get? a=some o)->φ h2
noncomputable def HOk(H:Hp)(h:Heap):Prop:=∀a o,H a=some o->zx P w H h a o
end
section
variable{P:aq}{w:aj}{H H':Hp}{h h':Heap}{a:Addr}{o:HO}
theorem zx.lt(x:zx P w H h a o):a<h.objs.size:=by
 cases o with
 |lst xs=>obtain⟨_,_,_,_,e⟩:=x;exact aE e
 |tup xs=>obtain⟨_,_,_,p⟩:=x;exact p.lt
 |dK kvs=>obtain⟨_,_,_,_,o,_,_,e,_⟩:=x;exact aE e
 |dT kvs=>obtain⟨_,_,_,_,o,_,_,e,_⟩:=x;exact aE e
 |set S n=>obtain⟨o,_,_,_,e,_⟩:=x;exact aE e
 |ins C dx fs=>obtain⟨_,_,_,e,_⟩:=x;exact aE e
 |own y=>obtain⟨_,e⟩:=x;exact aE e
 |xd fs=>obtain⟨_,⟨_,_,_,e,_⟩,_⟩:=x;exact aE e
 |rng lo hi=>obtain⟨_,_,_,e⟩:=x;exact aE e
 |frz ob u=>obtain⟨e,_⟩:=x;exact aE e
 |tbl ps=>exact aE (show h.get? a=some _ from x)
 |met f y=>exact aE (show h.get? a=some _ from x)
 |ext φ=>obtain⟨_,⟨_,e⟩,_⟩:=x;exact aE e
theorem Paired.mapP{α β:Type}{F G:α->β->Prop}:∀{l₁:List α}{l₂:List β},Paired F l₁ l₂->(∀a b,F a b->G a b)->Paired G l₁ l₂
 |_,_,.nil,_=>.nil
 |_,_,.cons r t,f=>.cons (f _ _ r) (Paired.mapP t f)
theorem zx.stay(x:zx P w H h a o)(k:∀b u,(b=a\/H b=some (.own a))->h.get? b=some u->h'.get? b=some u)
  (ho:∀b,H b=some (.own a)->H' b=some (.own a)) (ht:∀b xs,H b=some (.tup xs)->H' b=some (.tup xs)):zx P w H' h' a o:=by
 induction o with
 |lst xs=>obtain⟨z,its,n,r,e⟩:=x;exact⟨z,its,n,r,k _ _ (.inl rfl) e⟩
 |tup xs=>obtain⟨z,its,r,ob,e,c⟩:=x;exact⟨z,its,r,ob,k _ _ (.inl rfl) e,c⟩
 |dK kvs=>obtain⟨z,y,vs,r,ob,es,ep,e,c⟩:=x;exact⟨z,y,vs,r,ob,es,ep,k _ _ (.inl rfl) e,c⟩
 |dT kvs=>
  obtain⟨z,y,xs,r,ob,es,ep,e,c⟩:=x;exact⟨z,y,xs,Paired.mapP r λp q z=>⟨z.1,ht _ _ z.2.1,z.2.2⟩,ob,es,ep,k _ _ (.inl rfl) e,c⟩
 |set S n=>obtain⟨ob,es,ep,t,e,c⟩:=x;exact⟨ob,es,ep,t,k _ _ (.inl rfl) e,c⟩
 |ins C dx fs=>
  obtain⟨d,z,ne,e,mA,⟨od,es,ep,e2,c⟩,r⟩:=x;exact⟨ho _ d,z,ne,k _ _ (.inl rfl) e,mA,⟨od,es,ep,k _ _ (.inr d) e2,c⟩,r⟩
 |own y=>obtain⟨ob,e⟩:=x;exact⟨ob,k _ _ (.inl rfl) e⟩
 |xd fs=>obtain⟨mA,⟨od,es,ep,e,c⟩,r⟩:=x;exact⟨mA,⟨od,es,ep,k _ _ (.inl rfl) e,c⟩,r⟩
 |rng lo hi=>obtain⟨t,u,v,e⟩:=x;exact⟨t,u,v,k _ _ (.inl rfl) e⟩
 |frz ob u ih=>obtain⟨e,q⟩:=x;exact⟨k _ _ (.inl rfl) e,ih q⟩
 |tbl ps=>
  have e:h.get? a=some {cls:=.none,data:=.fields ps}:=x;show h'.get? a=some {cls:=.none,data:=.fields ps};exact k a _ (.inl rfl) e
 |met f y=>
  have e:h.get? a=some (PySem.W.methodObj (.ref f) (.ref y)):=x;show h'.get? a=some (PySem.W.methodObj (.ref f) (.ref y));exact k a _ (.inl rfl) e
 |ext φ=>obtain⟨p,⟨o,e⟩,st⟩:=x;exact⟨st _ _ p λo q=>k _ _ (.inl rfl) q,⟨o,k _ _ (.inl rfl) e⟩,st⟩
theorem HOk.lt(x:HOk P w H h)(e:H a=some o):a<h.objs.size:=(x a o e).lt
theorem HOk.fresh(x:HOk P w H h)(e:h.objs.size<=a):H a=none:=by
 cases q:H a with
 |none=>rfl
 |some u=>exact absurd (aZ (x.lt q) e) (bj _)
theorem HOk.kept(x:HOk P w H h)(k:∀b u,h.get? b=some u->h'.get? b=some u):HOk P w H h':=λa o e=>
 (x a o e).stay (λb u _ q=>k b u q) (λ_ q=>q) λ_ _ q=>q
theorem HOk.laid(x:HOk P w H h)(k:∀b u,h.get? b=some u->h'.get? b=some u)(hp:h.objs.size<=a)(new:zx P w (upd H a o) h' a o):HOk P w (upd H a o) h':=λb u e=>by
 have hn:=x.fresh hp;by_cases hb:b=a
 ·subst hb;rw[zi]at e;cases e;exact new
 ·rw[qg hb]at e;exact(x b u e).stay (λc v _ q=>k c v q) (λc q=>by rw[qg (fj q hn)];exact q) λc xs q=>by rw[qg (fj q hn)];exact q
end
noncomputable def Rd(H:Hp)(a:Addr)(u:HO):Prop:=H a=some u\/∃o,H a=some (.frz o u)
theorem Rd.of{H:Hp}{a:Addr}{u:HO}(h:H a=some u):Rd H a u:=.inl h
theorem Rd.ok{P:aq}{w:aj}{H:Hp}{h:Heap}{a:Addr}{u:HO}(r:Rd H a u)(x:HOk P w H h):zx P w H h a u:=by
 rcases r with r|⟨o,r⟩
 ·exact x a u r
 ·obtain⟨_,q⟩:=x a _ r;exact q
noncomputable def Mut:Option HO->Prop
 |some (.lst _)=>True
 |some (.dK _)=>True
 |some (.dT _)=>True
 |some (.set _ _)=>True
 |some (.ins _ _ _)=>True
 |some (.ext _)=>True
 |_=>False
section
variable{P:aq}{w:aj}{H:Hp}{h h':Heap}{x e:Addr}{o':HO}
theorem HOk.write(ok:HOk P w H h)(mu:Mut (H x))(he:e=x\/H e=some (.own x))(k:∀b u,b≠e->h.get? b=some u->h'.get? b=some u)(heo:∃u,h'.get? e=some u)
  (new:zx P w (upd H x o') h' x o'):HOk P w (upd H x o') h':=λb u q=>by
 have nown:∀c y,H c=some (.own y)->c≠x:=λc y r z=>by subst z;rw[r]at mu;exact mu
 have ntup:∀c xs,H c=some (.tup xs)->c≠x:=λc xs r z=>by subst z;rw[r]at mu;exact mu
 by_cases hb:b=x
 ·subst hb;rw[zi]at q;cases q;exact new
 ·rw[qg hb]at q;by_cases hbe:b=e
  ·have q':H b=some (.own x):=by
    rcases he with z|z
    ·exact absurd (hbe.trans z) hb
    ·rw[hbe];exact z
   rw[q]at q';cases q';obtain⟨v,hv⟩:=heo;exact⟨v,by rw[hbe];exact hv⟩
  ·refine(ok b u q).stay (λc v hc r=>k c v ?_ r) (λc r=>by rw[qg (nown c b r)];exact r) λc xs r=>by rw[qg (ntup c xs r)];exact r
   rcases hc with rfl|hc
   ·exact hbe
   ·rintro rfl;rcases he with z|z
    ·exact nown c b hc z
    ·rw[hc]at z;cases z;exact hb rfl
end
structure Un(fs ex:List Addr)(H H':Hp)(h h':Heap):Prop where
 keep:∀b o,h.get? b=some o->H b=none->b∉fs->b∉ex->h'.get? b=some o
 slot:∀b o,h.get? b=some o->H b=none->b∈fs->b∉ex->∃sl,h'.get? b=some {o with slots:=sl}
 free:∀b o,h.get? b=some o->H b=none->b∉ex->H' b=none
 there:∀b o,h.get? b=some o->b∉ex->∃o',h'.get? b=some o'
 tups:∀b xs,H b=some (.tup xs)->H' b=some (.tup xs)
 frzs:∀b o u,H b=some (.frz o u)->H' b=some (.frz o u)
 tbls:∀b ps,H b=some (.tbl ps)->∃more,H' b=some (.tbl (ps++more))
section
variable{fs fs' ex ex':List Addr}{H H1 H2:Hp}{h h1 h2 h':Heap}{a x e:Addr}{o:HO}
theorem Un.any(u:Un fs ex H H1 h h1){b:Addr}{ob:Obj}(q:h.get? b=some ob)(n:H b=none)(hx:b∉ex):∃sl,h1.get? b=some {ob with slots:=sl}:=by
 by_cases hb:b∈fs
 ·exact u.slot b ob q n hb hx
 ·exact⟨ob.slots,u.keep b ob q n hb hx⟩
theorem Un.kept(k:∀b u,h.get? b=some u->h'.get? b=some u):Un fs ex H H h h':=
 ⟨λb ob q _ _ _=>k b ob q,λb ob q _ _ _=>⟨ob.slots,k b ob q⟩,λ_ _ _ n _=>n,λb ob q _=>⟨ob,k b ob q⟩,λ_ _ q=>q,λ_ _ _ q=>q,λ_ ps q=>⟨#[],by rw[q];simp⟩⟩
theorem Un.refl:Un fs ex H H h h:=Un.kept λ_ _ q=>q
theorem Un.laid(k:∀b u,h.get? b=some u->h'.get? b=some u)(hp:h.objs.size<=a)(hn:H a=none):Un fs ex H (upd H a o) h h' where
 keep:=λb u q _ _ _=>k b u q
 slot:=λb u q _ _ _=>⟨u.slots,k b u q⟩
 free:=λb u q n _=>by rw[qg (aS (aZ (aE q) hp))];exact n
 there:=λb u q _=>⟨u,k b u q⟩
 tups:=λb xs q=>by rw[qg (fj q hn)];exact q
 frzs:=λb u xs q=>by rw[qg (fj q hn)];exact q
 tbls:=λb ps q=>⟨#[],by rw[qg (fj q hn),q];simp⟩
theorem Un.write(mu:Mut (H x))(he:e=x\/H e=some (.own x))(k:∀b u,b≠e->h.get? b=some u->h'.get? b=some u)(heo:∃u,h'.get? e=some u):Un fs ex H (upd H x o) h h':=by
 have hx:∀b,H b=none->b≠x:=λb n z=>by subst z;rw[n]at mu;exact mu
 have hb:∀b,H b=none->b≠e:=λb n z=>by
  subst z;rcases he with r|r
  ·exact hx b n r
  ·rw[n]at r;cases r
 have hm:∀b u,H b=some u->¬ Mut (some u)->b≠x:=λb u q nm z=>by subst z;rw[q]at mu;exact nm mu
 refine⟨λb u q n _ _=>k b u (hb b n) q,λb u q n _ _=>⟨u.slots,k b u (hb b n) q⟩,λb u q n _=>by rw[qg (hx b n)];exact n,λb u q _=>?_,
  λb xs q=>by rw[qg (hm b _ q λz=>z)];exact q,λb u xs q=>by rw[qg (hm b _ q λz=>z)];exact q,λb ps q=>⟨#[],by rw[qg (hm b _ q λz=>z),q];simp⟩⟩
 by_cases hbe:b=e
 ·subst hbe;exact heo
 ·exact⟨u,k b u hbe q⟩
end
noncomputable def trk(h:Heap)(H:Hp):List Addr:=(List.range h.objs.size).filter λa=>(H a).isSome
noncomputable def cR(h:Heap)(H:Hp):Heap:=PySem.W.hideAll h (trk h H)
theorem nj(h:Heap)(H:Hp):(cR h H).objs.size=h.objs.size:=PySem.W.hideAll_size _ _
theorem y_{h:Heap}{H:Hp}{b:Addr}{o:Obj}(e:h.get? b=some o)(n:H b=none):(cR h H).get? b=some o:=
 PySem.W.hideAll_get _ e λhm=>by
  have q:(H b).isSome=true:=(List.mem_filter.mp hm).2;rw[n]at q;simp at q
theorem nR{h:Heap}{H:Hp}{b:Addr}{o:Obj}(e:(cR h H).get? b=some o):h.get? b=some o/\H b=none:=by
 have e':h.get? b=some o:=PySem.W.of_hideAll (trk h H) e;refine⟨e',?_⟩;cases q:H b with
 |none=>rfl
 |some x=>
  have hm:b∈trk h H:=List.mem_filter.mpr ⟨List.mem_range.mpr (aE e'),by simp[q]⟩;have z:(cR h H).get? b=none:=PySem.W.hideAll_none (trk h H) hm;rw[z]at e;cases e
noncomputable def gj(g h:Heap)(L:Addr):List (Addr×Obj):=(List.range h.objs.size).filterMap λa=>if a=L\/(g.get? a).isSome=true then none else (h.get? a).map λo=>(a,o)
theorem kh{g h:Heap}{L a:Addr}{o:Obj}(h1:a≠L)(h2:g.get? a=none)(h3:h.get? a=some o):(a,o)∈gj g h L:=
 List.mem_filterMap.mpr ⟨a,List.mem_range.mpr (aE h3),by simp[h1,h2,h3]⟩
theorem oE{g h:Heap}{L:Addr}{p:Addr×Obj}(hp:p∈gj g h L):p.1≠L/\g.get? p.1=none/\h.get? p.1=some p.2:=by
 obtain⟨b,_,e⟩:=List.mem_filterMap.mp hp;split at e
 ·cases e
 ·rename_i hn
  cases q:h.get? b with
  |none=>rw[q]at e;simp at e
  |some u=>
   rw[q]at e;simp only[Option.map_some,bL]at e;subst e;refine⟨λz=>hn (.inl z),?_,q⟩;show g.get? b=none;cases r:g.get? b with
   |none=>rfl
   |some v=>exact(hn (.inr (by simp[r]))).elim
noncomputable def rest(g h:Heap)(L d:Addr):List (Addr×Obj):=(gj g h L).filter λp=>decide (p.1≠d)
theorem nS{g h:Heap}{L:Addr}:News g L h (gj g h L):=λp hp=>let ⟨a,b,c⟩:=oE hp;⟨c,a,b⟩
structure Mod(K:ao)(mg:Str->Option ae)(base:Heap):Prop where
 kin:K.In base
 glob:base.Ns ay mg
 blt:∃mb,base.Ns builtinsNs mb/\∀x:Str,x≠"__name__"->mb x=bc x
 nolimit:base.NoLimit
structure Cx where
 prog:aq
 w:aj
 K:ao
 mg:Str->Option ae
 base:Heap
 A:ar
 N:List Str
 s₀:af
 H₀:Hp
 env:Env
 outer:List Env
 stack:List Env
 ex:List Addr
 fn:Str->Bool
 calm:Bool
 pn:List (Addr×Obj)
 xe:ae->af->Prop
noncomputable def frs(l:List Env):List Addr:=l.filterMap (·.frame)
abbrev Cx.fs(X:Cx):List Addr:=frs X.outer
noncomputable def cC(sc:aI)(x:Str):Prop:=sc.names.lookup x=some .local\/sc.names.lookup x=some .cell\/sc.names.lookup x=some .free
noncomputable def Loc(sc:aI)(x:Str):Prop:=sc.names.lookup x=some .local\/sc.names.lookup x=some .cell
noncomputable def Look(env:Env)(h:Heap)(m:Str->Option ae)(x:Str)(u:ae):Prop:=
 (env.kindOf x=some .local/\m x=some u)\/((env.kindOf x=some .cell\/env.kindOf x=some .free)/\∃c,env.cells.lookup x=some c/\h.IsCell c (some u))
structure Cx.Ok(X:Cx):Prop where
 mod:Mod X.K X.mg X.base
 kind:X.env.scope.kind=.function
 glob:X.env.globals=ay
 blt:X.env.builtins=builtinsNs
 above:X.s₀.heap.objs.size<=X.env.locals
 inj:∀x y c,X.env.cells.lookup x=some c->X.env.cells.lookup y=some c->x=y
 has:∀x,(X.env.kindOf x=some .cell\/X.env.kindOf x=some .free)->∃c,X.env.cells.lookup x=some c
 cab:∀x c,X.fn x=true->X.env.cells.lookup x=some c->X.s₀.heap.objs.size<=c
 hd:X.calm=true->X.A.handled=none
 frames:X.A.frames=some X.stack
 stk:X.stack=X.outer\/(X.stack=X.env::X.outer/\X.env.frame=some X.env.locals)
 exf:∀b∈X.ex,b≠X.env.locals/\∀x c,X.env.cells.lookup x=some c->c≠b
 bs:∀b o,X.base.get? b=some o->X.s₀.heap.get? b=some o/\X.H₀ b=none
 bsz:X.base.objs.size<=X.s₀.heap.objs.size
 noex:∀b o,X.base.get? b=some o->b∉X.ex
 exfs:∀b∈X.ex,b∉X.fs
 funs:X.s₀.heap.FunFrames X.base X.outer
 frf:∀b∈X.fs,X.H₀ b=none
structure Inv(X:Cx)(pins:List (Addr×Obj))(σ:List (Option V))(H:Hp)(s:af):Prop where
 ok:X.Ok
 os:s.os=X.s₀.os
 bare:AllBare s.gens
 base:Un X.fs X.ex X.H₀ H X.s₀.heap s.heap
 loc:∃m,s.heap.Ns X.env.locals m/\∀(i:Nat) (x:Str) (v:V),X.N[i]? = some x->σ[i]? = some (some v)->cC X.env.scope x->∃u,RelV v u/\Look X.env s.heap m x u
 cell:∀x c,X.env.cells.lookup x=some c->∃v,s.heap.IsCell c v
 free:H X.env.locals=none
 freeC:∀x c,X.env.cells.lookup x=some c->H c=none
 pin:∀p∈X.pn++pins,s.heap.get? p.1=some p.2/\H p.1=none/\p.1≠X.env.locals/\p.1∉X.fs/\∀v,p.2.data≠.cell v
 hok:HOk X.prog X.w H s.heap
 len:σ.length=X.N.length
section
variable{X:Cx}{pins:List (Addr×Obj)}{σ:List (Option V)}{H H':Hp}{s:af}{h':Heap}
theorem Cx.Ok.nofr(ok:X.Ok){b:Addr}{o:Obj}(e:X.base.get? b=some o):b∉X.fs:=λhb=>by
 have:=(ok.funs.mem hb).1;rw[e]at this;cases this
theorem Inv.bs(I:Inv X pins σ H s):∀b o,X.base.get? b=some o->s.heap.get? b=some o/\H b=none:=λb o e=>
 ⟨I.base.keep b o (I.ok.bs b o e).1 (I.ok.bs b o e).2 (I.ok.nofr e) (I.ok.noex b o e),I.base.free b o (I.ok.bs b o e).1 (I.ok.bs b o e).2 (I.ok.noex b o e)⟩
theorem Inv.bk(I:Inv X pins σ H s):∀b o,X.base.get? b=some o->s.heap.get? b=some o:=λb o e=>(I.bs b o e).1
theorem Inv.mod(I:Inv X pins σ H s):Mod X.K X.mg X.base:=I.ok.mod
theorem Inv.kIn(I:Inv X pins σ H s):X.K.In s.heap:=I.ok.mod.kin.keeps I.bk
theorem Inv.nolimit(I:Inv X pins σ H s):s.heap.NoLimit:=I.ok.mod.nolimit.keeps I.bk
theorem Inv.fr(I:Inv X pins σ H s):∃m,Fr X.base X.env.locals s.heap m:=
 let ⟨m,hn,_⟩:=I.loc
 ⟨m,hn,I.bk,a5 I.ok.bsz I.ok.above⟩
theorem Inv.lt(I:Inv X pins σ H s):X.env.locals<s.heap.objs.size:=let ⟨_,hn,_⟩:=I.loc;hn.lt
theorem Inv.sz(I:Inv X pins σ H s):X.s₀.heap.objs.size<=s.heap.objs.size:=a5 I.ok.above (Nat.le_of_lt I.lt)
theorem Inv.nofs(I:Inv X pins σ H s){a:Addr}(h:s.heap.objs.size<=a):a∉X.fs:=λhb=>by
 obtain⟨_,o,ho,_⟩:=I.ok.funs.mem hb;exact absurd (aZ (aE ho) (a5 I.sz h)) (bj _)
theorem Inv.cne(I:Inv X pins σ H s):∀x c,X.env.cells.lookup x=some c->c≠X.env.locals:=λx c e z=>by
 obtain⟨v,o,ho,hd⟩:=I.cell x c e;obtain⟨m,⟨o',es,ep,ho',hd',_⟩,_⟩:=I.loc;rw[z,ho']at ho;cases ho;rw[hd']at hd;cases hd
theorem Inv.funs(I:Inv X pins σ H s):s.heap.FunFrames X.base X.outer:=by
 have all:∀(l:List Env),(∀b∈frs l,b∈X.fs)->X.s₀.heap.FunFrames X.base l->s.heap.FunFrames X.base l:=by
  intro l
  induction l with
  |nil=>intro _ _;trivial
  |cons env r ih=>
   intro hs hl;obtain⟨hk,⟨L,o,hf,hn,ho,hd⟩,hr⟩:=hl;have hL:L∈X.fs:=hs L (by unfold frs;rw[List.filterMap_cons,hf];exact aP);obtain⟨sl,e⟩:=I.base.slot L o ho (I.ok.frf L hL) hL λz=>I.ok.exfs L z hL
   exact⟨hk,⟨L,_,hf,hn,e,hd⟩,ih (λb hb=>hs b (by unfold frs;rw[List.filterMap_cons,hf];exact aO _ hb)) hr⟩
 exact all X.outer (λ_ hb=>hb) I.ok.funs
theorem Inv.stack(I:Inv X pins σ H s):s.heap.FunFrames X.base X.stack:=by
 rcases I.ok.stk with e|⟨e,hf⟩
 ·rw[e];exact I.funs
 ·rw[e];obtain⟨m,hn,_⟩:=I.loc;refine .cons (by rw[I.ok.kind];decide) hf hn ?_ I.funs;exact Heap.get?_none_of_le (a5 I.ok.bsz I.ok.above)
theorem Inv.stkSub(I:Inv X pins σ H s):∀b∈frs X.stack,b∈X.env.locals::X.fs:=λb hb=>by
 rcases I.ok.stk with e|⟨e,hf⟩
 ·rw[e]at hb;exact aO _ hb
 ·rw[e]at hb;unfold frs at hb;rw[List.filterMap_cons,hf]at hb;exact hb
theorem Inv.stkFree(I:Inv X pins σ H s):∀b∈frs X.stack,H b=none:=λb hb=>by
 rcases aL.mp (I.stkSub b hb)with e|hb
 ·rw[e];exact I.free
 ·obtain⟨_,o,ho,_⟩:=I.ok.funs.mem hb;exact I.base.free b o ho (I.ok.frf b hb) λz=>I.ok.exfs b z hb
theorem Inv.step{g':Array GenState}{t':Nat}{d':Drawn}{ch:List Addr}(I:Inv X pins σ H s)
  (hch:∀b∈ch,(b∈X.ex\/X.s₀.heap.objs.size<=b)/\b≠X.env.locals/\(∀x c,X.env.cells.lookup x=some c->c≠b)/\∀p∈X.pn++pins,p.1≠b)
  (keep:∀b o,b≠X.env.locals->b∉X.fs->b∉ch->s.heap.get? b=some o->H b=none->h'.get? b=some o)
  (slot:∀b o,b≠X.env.locals->b∈X.fs->b∉ch->s.heap.get? b=some o->H b=none->∃sl,h'.get? b=some {o with slots:=sl}) (free:∀b o,b∉ch->s.heap.get? b=some o->H b=none->H' b=none)
  (there:∀b o,b∉ch->s.heap.get? b=some o->∃o',h'.get? b=some o')
  (tups:∀b xs,H b=some (.tup xs)->H' b=some (.tup xs)) (frzs:∀b o u,H b=some (.frz o u)->H' b=some (.frz o u)) (tbls:∀b ps,H b=some (.tbl ps)->∃more,H' b=some (.tbl (ps++more)))
  (ns:∀m,s.heap.Ns X.env.locals m->h'.Ns X.env.locals m) (hok:HOk X.prog X.w H' h') (hg:AllBare g') :
  Inv X pins σ H' {s with heap:=h',gens:=g',drawn:=d',toks:=t'}:=by
 have neL:∀b o,X.s₀.heap.get? b=some o->b≠X.env.locals:=λb o e=>aS (aZ (aE e) I.ok.above)
 have neC:∀b o,X.s₀.heap.get? b=some o->b∉X.ex->b∉ch:=λb o e hx hb=>by
  rcases(hch b hb).1 with z|z
  ·exact hx z
  ·exact absurd (aZ (aE e) z) (bj _)
 have cellK:∀x c,X.env.cells.lookup x=some c->∀v,s.heap.IsCell c v->h'.IsCell c v:=λx c e v ⟨o,ho,hd⟩=>by
  have nch:c∉ch:=λz=>(hch c z).2.2.1 x c e rfl
  by_cases hc:c∈X.fs
  ·obtain⟨sl,q⟩:=slot c o (I.cne x c e) hc nch ho (I.freeC x c e);exact⟨_,q,hd⟩
  ·exact⟨o,keep c o (I.cne x c e) hc nch ho (I.freeC x c e),hd⟩
 refine⟨I.ok,I.os,hg,⟨λb o e n hb hx=>?_,λb o e n hb hx=>?_,λb o e n hx=>?_,λb o e hx=>?_,λb xs e=>tups b xs (I.base.tups b xs e),λb o xs e=>frzs b o xs (I.base.frzs b o xs e),λb ps e=>?_⟩,?_,λx c e=>?_,?_,λx c e=>?_,λp hp=>?_,hok,I.len⟩
 ·exact keep b o (neL b o e) hb (neC b o e hx) (I.base.keep b o e n hb hx) (I.base.free b o e n hx)
 ·obtain⟨sl,e1⟩:=I.base.slot b o e n hb hx;obtain⟨sl',e2⟩:=slot b _ (neL b o e) hb (neC b o e hx) e1 (I.base.free b o e n hx);exact⟨sl',e2⟩
 ·obtain⟨o',e1⟩:=I.base.there b o e hx;exact free b o' (neC b o e hx) e1 (I.base.free b o e n hx)
 ·obtain⟨o',e1⟩:=I.base.there b o e hx;exact there b o' (neC b o e hx) e1
 ·obtain⟨m1,e1⟩:=I.base.tbls b ps e;obtain⟨m2,e2⟩:=tbls b _ e1;exact⟨m1++m2,by rw[e2,Array.append_assoc]⟩
 ·obtain⟨m,hn,hl⟩:=I.loc;refine⟨m,ns m hn,λi x v e1 e2 e3=>?_⟩;obtain⟨u,r,l⟩:=hl i x v e1 e2 e3;refine⟨u,r,?_⟩;rcases l with l|⟨k,c,e,z⟩
  ·exact .inl l
  ·exact .inr ⟨k,c,e,cellK x c e _ z⟩
 ·obtain⟨v,z⟩:=I.cell x c e;exact⟨v,cellK x c e v z⟩
 ·obtain⟨m,⟨o,_,_,ho,_⟩,_⟩:=I.loc;exact free _ o (λz=>(hch _ z).2.1 rfl) ho I.free
 ·obtain⟨v,o,ho,hd⟩:=I.cell x c e;exact free c o (λz=>(hch c z).2.2.1 x c e rfl) ho (I.freeC x c e)
 ·obtain⟨e,n,ne,nf,d⟩:=I.pin p hp;have nch:p.1∉ch:=λz=>(hch p.1 z).2.2.2 p hp rfl
  exact⟨keep p.1 p.2 ne nf nch e n,free p.1 p.2 nch e n,ne,nf,d⟩
theorem Inv.un{t':Nat}(I:Inv X pins σ H s)(u:Un X.fs [] H H' s.heap h')(hok:HOk X.prog X.w H' h'):Inv X pins σ H' {s with heap:=h',toks:=t'}:=by
 obtain⟨m,⟨o,es,ep,ho,r⟩,_⟩:=id I.loc;obtain⟨sl,hL⟩:=u.any ho I.free (by simp);exact I.step (g':=s.gens) (d':=s.drawn) (ch:=[]) (λ_ z=>nomatch z) (λb o _ hb _ e n=>u.keep b o e n hb (by simp)) (λb o _ hb _ e n=>u.slot b o e n hb (by simp)) (λb o _ e n=>u.free b o e n (by simp)) (λb o _ e=>u.there b o e (by simp)) u.tups u.frzs u.tbls (λm' hm=>by
  obtain⟨o',es',ep',ho',r'⟩:=hm;rw[ho]at ho';cases ho';exact⟨_,es',ep',hL,r'⟩) hok I.bare
theorem Inv.call{g':Array GenState}{t':Nat}{d':Drawn}{ch:List Addr}(I:Inv X pins σ H s)(u:Un (frs X.stack) ch H H' s.heap h')(hok:HOk X.prog X.w H' h')(hg:AllBare g')
  (hch:∀b∈ch,(b∈X.ex\/X.s₀.heap.objs.size<=b)/\b≠X.env.locals/\(∀x c,X.env.cells.lookup x=some c->c≠b)/\∀p∈X.pn++pins,p.1≠b) :
  Inv X pins σ H' {s with heap:=h',gens:=g',drawn:=d',toks:=t'}:=by
 obtain⟨m,⟨o,es,ep,ho,r⟩,_⟩:=id I.loc;obtain⟨sl,hL⟩:=u.any ho I.free λz=>(hch _ z).2.1 rfl
 exact I.step (ch:=ch) hch (λb o hL hb hc e n=>u.keep b o e n (λz=>(aL.mp (I.stkSub b z)).elim hL hb) hc) (λb o _ _ hc e n=>u.any e n hc) (λb o hc e n=>u.free b o e n hc) (λb o hc e=>u.there b o e hc) u.tups u.frzs u.tbls (λm' hm=>by
  obtain⟨o',es',ep',ho',r'⟩:=hm;rw[ho]at ho';cases ho';exact⟨_,es',ep',hL,r'⟩) hok hg
theorem Inv.turned{t':Nat}{it:Addr}(I:Inv X pins σ H s)(k:∀b o,b≠it->s.heap.get? b=some o->h'.get? b=some o)(hn:H it=none)(hL:it≠X.env.locals)
  (h1:it∈X.ex\/X.s₀.heap.objs.size<=it) (h2:∀x c,X.env.cells.lookup x=some c->c≠it) (h3:∀p∈X.pn++pins,p.1≠it):Inv X pins σ H {s with heap:=h',toks:=t'}:=by
 have nit:∀b u,H b=some u->b≠it:=λb u e z=>by rw[z,hn]at e;cases e
 refine I.step (g':=s.gens) (d':=s.drawn) (ch:=[it]) (λb hb=>?_) (λb o _ _ hc e _=>k b o (λz=>hc (by simp[z])) e) (λb o _ _ hc e _=>⟨o.slots,k b o (λz=>hc (by simp[z])) e⟩) (λ_ _ _ _ n=>n)
  (λb o hc e=>⟨o,k b o (λz=>hc (by simp[z])) e⟩) (λ_ _ e=>e) (λ_ _ _ e=>e) (λb ps e=>⟨#[],by rw[e];simp⟩) (λm hm=>?_) (λb u e=>?_) I.bare
 ·have e:b=it:=by simpa using hb
  subst e;exact⟨h1,hL,h2,h3⟩
 ·obtain⟨o,es,ep,ho,r⟩:=hm;exact⟨o,es,ep,k _ o (Ne.symm hL) ho,r⟩
 ·refine(I.hok b u e).stay (λc v hc q=>k c v ?_ q) (λ_ q=>q) λ_ _ q=>q
  rcases hc with z|z
  ·rw[z];exact nit b u e
  ·exact nit c _ z
theorem Inv.tok(I:Inv X pins σ H s)(t:Nat):Inv X pins σ H {s with toks:=t}:=I.un (h':=s.heap) (t':=t) Un.refl I.hok
theorem Inv.kept{t':Nat}(I:Inv X pins σ H s)(k:∀b u,s.heap.get? b=some u->h'.get? b=some u):Inv X pins σ H {s with heap:=h',toks:=t'}:=I.un (Un.kept k) (I.hok.kept k)
theorem Inv.laid{a:Addr}{o:HO}{t':Nat}(I:Inv X pins σ H s)(k:∀b u,s.heap.get? b=some u->h'.get? b=some u)(hp:s.heap.objs.size<=a)(new:zx X.prog X.w (upd H a o) h' a o) :
  Inv X pins σ (upd H a o) {s with heap:=h',toks:=t'}:=I.un (Un.laid k hp (I.hok.fresh hp)) (I.hok.laid k hp new)
theorem Inv.write{x e:Addr}{o:HO}{t':Nat}(I:Inv X pins σ H s)(mu:Mut (H x))(he:e=x\/H e=some (.own x))(k:∀b u,b≠e->s.heap.get? b=some u->h'.get? b=some u)(heo:∃u,h'.get? e=some u)
  (new:zx X.prog X.w (upd H x o) h' x o):Inv X pins σ (upd H x o) {s with heap:=h',toks:=t'}:=I.un (Un.write mu he k heo) (I.hok.write mu he k heo new)
theorem Inv.pins_of{pins':List (Addr×Obj)}(I:Inv X pins σ H s)(h:∀p∈pins',s.heap.get? p.1=some p.2/\H p.1=none/\p.1≠X.env.locals/\p.1∉X.fs/\∀v,p.2.data≠.cell v):Inv X pins' σ H s:=
 ⟨I.ok,I.os,I.bare,I.base,I.loc,I.cell,I.free,I.freeC,λp hp=>(List.mem_append.mp hp).elim (λz=>I.pin p (List.mem_append_left _ z)) (h p),I.hok,I.len⟩
theorem mS{N:List Str}(hN:N.Nodup){i j:Nat}{x:Str}(a:N[i]? = some x)(b:N[j]? = some x):i=j:=by
 obtain⟨h1,e1⟩:=List.getElem?_eq_some_iff.mp a;obtain⟨h2,e2⟩:=List.getElem?_eq_some_iff.mp b;exact(List.getElem_inj hN).mp (e1.trans e2.symm)
theorem jL{M:Model}{A:ar}{E:ae->af->Prop}{i:Nat}{x:Str}{v:V}{u:ae}{Q:Unit->af->Prop}(I:Inv X pins σ H s)(hN:X.N.Nodup)(hi:X.N[i]? = some x)(hx:Loc X.env.scope x)(r:RelV v u)
  (h:∀s',Inv X pins (σ.set i (some v)) H s'->(∃a,Heap.SameBut a s.heap s'.heap/\(a=X.env.locals\/X.env.cells.lookup x=some a))->Q () s') (hf:X.fn x=true\/X.env.scope.names.lookup x=some .local:=by first|exact .inl rfl|exact .inr rfl|assumption):ag M A (storeName X.env x u) Q E s:=by
 obtain⟨m,hn,hl⟩:=id I.loc;have hcls:(X.env.scope.kind==.class||(X.env.scope.kind==.module&&X.env.locals != X.env.globals))=false:=by rw[I.ok.kind];rfl
 have hiσ:i<σ.length:=by rw[I.len];exact(List.getElem?_eq_some_iff.mp hi).1
 have cne:=I.cne;have tracked:∀{a:Addr}{h':Heap},(∃o,s.heap.get? a=some o/\H a=none)->Heap.SameBut a s.heap h'->HOk X.prog X.w H h':=λ{a h'} ha hs b ob e=>by
  obtain⟨_,_,hfree⟩:=ha;refine(I.hok b ob e).stay (λc w' hc q=>(hs.2 c ?_).trans q) (λ_ q=>q) λ_ _ q=>q
  rintro rfl;rcases hc with rfl|hc
  ·rw[hfree]at e;cases e
  ·rw[hfree]at hc;cases hc
 rcases hx with hk|hk
 ·refine wpAny_storeName_local hk hn (λh' hn' hs=>?_) hcls;obtain⟨oL,_,_,hoL,_⟩:=id hn;refine h _ ⟨I.ok,I.os,I.bare,⟨λb o e n hb hx=>?_,λb o e n hb hx=>?_,I.base.free,λb o e hx=>?_,I.base.tups,I.base.frzs,I.base.tbls⟩,⟨_,hn',λj y v' e1 e2 e3=>?_⟩,λy c e=>?_,I.free,I.freeC,λp hp=>?_,tracked ⟨oL,hoL,I.free⟩ hs,by simpa using I.len⟩ ⟨_,hs,.inl rfl⟩
  ·exact(hs.2 b (aS (aZ (aE e) I.ok.above))).trans (I.base.keep b o e n hb hx)
  ·obtain⟨sl,e1⟩:=I.base.slot b o e n hb hx;exact⟨sl,(hs.2 b (aS (aZ (aE e) I.ok.above))).trans e1⟩
  ·obtain⟨o',e1⟩:=I.base.there b o e hx;exact⟨o',(hs.2 b (aS (aZ (aE e) I.ok.above))).trans e1⟩
  ·by_cases hj:j=i
   ·subst hj;rw[hi]at e1;cases e1;rw[List.getElem?_set_self hiσ]at e2;cases e2;exact⟨u,r,.inl ⟨hk,by simp⟩⟩
   ·rw[List.getElem?_set_ne (Ne.symm hj)]at e2;obtain⟨u',r',q⟩:=hl j y v' e1 e2 e3;refine⟨u',r',?_⟩;rcases q with ⟨k,e⟩|⟨k,c,e,z⟩
    ·refine .inl ⟨k,?_⟩;have:y≠x:=λe=>hj (mS hN e1 (e▸hi))
     simp[this,e]
    ·exact .inr ⟨k,c,e,z.sameBut hs (cne y c e)⟩
  ·obtain⟨w',z⟩:=I.cell y c e;exact⟨w',z.sameBut hs (cne y c e)⟩
  ·obtain⟨e,n,ne,nf,d⟩:=I.pin p hp;exact⟨(hs.2 p.1 ne).trans e,n,ne,nf,d⟩
 ·have hfn:X.fn x=true:=by
   rcases hf with z|z
   ·exact z
   ·rw[z]at hk;cases hk
  obtain⟨c,hc⟩:=I.ok.has x (.inl hk);obtain⟨w',z⟩:=I.cell x c hc;refine wpAny_storeName_cell I.ok.kind hk hc z (λh' hc' hs=>?_);obtain⟨oc,hoc,hocd⟩:=id z;refine h {s with heap:=h'} ⟨I.ok,I.os,I.bare,⟨λb o e n hb hx=>?_,λb o e n hb hx=>?_,I.base.free,λb o e hx=>?_,I.base.tups,I.base.frzs,I.base.tbls⟩,⟨m,hn.sameBut hs (Ne.symm (cne x c hc)),λj y v' e1 e2 e3=>?_⟩,λy c' e=>?_,I.free,I.freeC,λp hp=>?_,tracked ⟨oc,hoc,I.freeC x c hc⟩ hs,by simpa using I.len⟩ ⟨c,hs,.inr hc⟩
  ·exact(hs.2 b (aS (aZ (aE e) (I.ok.cab x c hfn hc)))).trans (I.base.keep b o e n hb hx)
  ·obtain⟨sl,e1⟩:=I.base.slot b o e n hb hx;exact⟨sl,(hs.2 b (aS (aZ (aE e) (I.ok.cab x c hfn hc)))).trans e1⟩
  ·obtain⟨o',e1⟩:=I.base.there b o e hx;exact⟨o',(hs.2 b (aS (aZ (aE e) (I.ok.cab x c hfn hc)))).trans e1⟩
  ·by_cases hj:j=i
   ·subst hj;rw[hi]at e1;cases e1;rw[List.getElem?_set_self hiσ]at e2;cases e2;exact⟨u,r,.inr ⟨.inl hk,c,hc,hc'⟩⟩
   ·rw[List.getElem?_set_ne (Ne.symm hj)]at e2;obtain⟨u',r',q⟩:=hl j y v' e1 e2 e3;refine⟨u',r',?_⟩;rcases q with q|⟨k,c',e,z'⟩
    ·exact .inl q
    ·refine .inr ⟨k,c',e,z'.sameBut hs ?_⟩;rintro rfl;exact hj (mS hN e1 (I.ok.inj _ _ _ e hc▸hi))
  ·by_cases hcc:c'=c
   ·subst hcc;exact⟨_,hc'⟩
   ·obtain⟨w2,z2⟩:=I.cell y c' e;exact⟨w2,z2.sameBut hs hcc⟩
  ·obtain⟨e,n,ne,nf,d⟩:=I.pin p hp;refine⟨(hs.2 p.1 ?_).trans e,n,ne,nf,d⟩;intro q;rw[q,hoc]at e;have q':oc=p.2:=bq e;exact d w' (by rw[<-q'];exact hocd)
theorem fh{M:Model}{A:ar}{E:ae->af->Prop}{i:Nat}{x:Str}{v:V}{u:ae}{Q:Unit->af->Prop}(I:Inv X pins σ H s)(hN:X.N.Nodup)(hi:X.N[i]? = some x)(hx:Loc X.env.scope x)(r:RelV v u)
  (h:∀s',Inv X pins (σ.set i (some v)) H s'->Q () s') (hf:X.fn x=true\/X.env.scope.names.lookup x=some .local:=by first|exact .inl rfl|exact .inr rfl|assumption):ag M A (storeName X.env x u) Q E s:=
 jL I hN hi hx r (λs' I' _=>h s' I') hf
theorem Inv.call'{s':af}{ch:List Addr}(I:Inv X pins σ H s)(ho:s'.os=s.os)(u:Un (frs X.stack) ch H H' s.heap s'.heap)(hok:HOk X.prog X.w H' s'.heap)(hg:AllBare s'.gens)
  (hch:∀b∈ch,(b∈X.ex\/X.s₀.heap.objs.size<=b)/\b≠X.env.locals/\(∀x c,X.env.cells.lookup x=some c->c≠b)/\∀p∈X.pn++pins,p.1≠b):Inv X pins σ H' s':=by
 obtain⟨h',g',d',t',o'⟩:=s';have e:o'=s.os:=ho;subst e;exact I.call (g':=g') (t':=t') (d':=d') u hok hg hch
end
abbrev XK:=ae->Option Addr->Hp->Prop
abbrev St:=List (Option V)
abbrev VK:=V->Hp->Prop
abbrev TE:=St->Hp->VK->Prop
abbrev TT:=St->Hp->(Bool->Hp->Prop)->Prop
abbrev TA:=St->Hp->(List V->Hp->Prop)->Prop
structure Ends where
 nx:St->Hp->Prop
 rt:VK
 bk:St->Hp->Prop:=λ_ _=>False
 ct:St->Hp->Prop:=λ_ _=>False
abbrev TS:=Ends->St->Hp->Prop
noncomputable def EP(X:Cx)(pins:List (Addr×Obj))(σ:St)(Q:VK)(u:ae)(s':af):Prop:=∃v H',Inv X pins σ H' s'/\RelV v u/\Q v H'
noncomputable def TP(X:Cx)(pins:List (Addr×Obj))(σ:St)(Q:Bool->Hp->Prop)(b:Bool)(s':af):Prop:=∃H',Inv X pins σ H' s'/\Q b H'
noncomputable def AP(X:Cx)(pins:List (Addr×Obj))(σ:St)(Q:List V->Hp->Prop)(us:List ae)(s':af):Prop:=∃vs H',Inv X pins σ H' s'/\Vals vs us/\Q vs H'
noncomputable def SP(X:Cx)(pins:List (Addr×Obj))(D:Ends)(f:Flow)(s':af):Prop:=
 match f with
 | .next=>∃σ' H',Inv X pins σ' H' s'/\D.nx σ' H'
 | .brk=>∃σ' H',Inv X pins σ' H' s'/\D.bk σ' H'
 | .cont=>∃σ' H',Inv X pins σ' H' s'/\D.ct σ' H'
 | .ret u=>∃v σ' H',Inv X pins σ' H' s'/\RelV v u/\D.rt v H'
noncomputable def PE(X:Cx)(e:Expr)(t:TE):Prop:=
 ∀(pins:List (Addr×Obj)) (s:af) (σ:St) (H:Hp) (Q:VK),Inv X pins σ H s->t σ H Q->ag (ai X.prog X.w) X.A (eval e X.env) (EP X pins σ Q) X.xe s
noncomputable def PT(X:Cx)(e:Expr)(t:TT):Prop:=
 ∀(pins:List (Addr×Obj)) (s:af) (σ:St) (H:Hp) (Q:Bool->Hp->Prop),Inv X pins σ H s->t σ H Q->ag (ai X.prog X.w) X.A (isTrue e X.env (eval e X.env)) (TP X pins σ Q) X.xe s
noncomputable def PW(X:Cx)(e:Expr)(t:TT):Prop:=
 ∀(whole:Sem ae) (pins:List (Addr×Obj)) (s:af) (σ:St) (H:Hp) (Q:Bool->Hp->Prop),Inv X pins σ H s->t σ H Q->ag (ai X.prog X.w) X.A (isTrue e X.env whole) (TP X pins σ Q) X.xe s
theorem PW.pt{X:Cx}{e:Expr}{t:TT}(h:PW X e t):PT X e t:=h _
noncomputable def PA(X:Cx)(es:List Expr)(t:TA):Prop:=
 ∀(pos:Pos) (pins:List (Addr×Obj)) (s:af) (σ:St) (H:Hp) (Q:List V->Hp->Prop),Inv X pins σ H s->t σ H Q->ag (ai X.prog X.w) X.A (spliced (backTo pos (aH es X.env))) (AP X pins σ Q) X.xe s
noncomputable def PS(X:Cx)(st:Stmt)(t:TS):Prop:=
 ∀(pins:List (Addr×Obj)) (s:af) (σ:St) (H:Hp) (D:Ends),Inv X pins σ H s->t D σ H->ag (ai X.prog X.w) X.A (exec st X.env) (SP X pins D) X.xe s
noncomputable def PSs(X:Cx)(st:List Stmt)(t:TS):Prop:=
 ∀(pins:List (Addr×Obj)) (s:af) (σ:St) (H:Hp) (D:Ends),Inv X pins σ H s->t D σ H->ag (ai X.prog X.w) X.A (execs st X.env) (SP X pins D) X.xe s
theorem thn{α:Type}{t:Sem α}{Q Q':α->af->Prop}{M:Model}{A:ar}{E:ae->af->Prop}{s:af}(h:ag M A t Q E s)(hQ:∀a s,Q a s->Q' a s):ag M A t Q' E s:=wpAny_mono h hQ λ_ _ x=>x
section
variable{X:Cx}
theorem bin{a b:Expr}{ta tb:TE}(ha:PE X a ta)(hb:PE X b tb){pins:List (Addr×Obj)}{s:af}{σ:St}{H:Hp}{R:V->V->Hp->Prop}(I:Inv X pins σ H s)(h:ta σ H λx H1=>tb σ H1 λy H2=>R x y H2)
  {α:Type}{Q:α->af->Prop}{f:ae->ae->Sem α}
  (hf:∀v u s2 x y H2,Inv X pins σ H2 s2->RelV x v->RelV y u->R x y H2->ag (ai X.prog X.w) X.A (f v u) Q X.xe s2) :
  ag (ai X.prog X.w) X.A (eval a X.env) (λv s₁=>ag (ai X.prog X.w) X.A (eval b X.env) (λu s₂=>ag (ai X.prog X.w) X.A (f v u) Q X.xe s₂) X.xe s₁) X.xe s:=by
 refine thn (ha pins s σ H _ I h) λv s1 ⟨x,H1,I1,r1,q1⟩=>?_
 refine thn (hb pins s1 σ H1 _ I1 q1) λu s2 ⟨y,H2,I2,r2,q2⟩=>?_
 exact hf v u s2 x y H2 I2 r1 r2 q2
noncomputable def cQ(i:Nat):TE:=λσ H Q=>∃v,σ[i]? = some (some v)/\Q v H
noncomputable def tC(v:V):TE:=λ_ H Q=>Q v H
theorem dn{i:Nat}{x:Str}{pos:Pos}(hN:X.N[i]? = some x)(hv:cC X.env.scope x)(hd:(x==("__debug__" : Str))=false:=by decide)(hcd:(x==("__classdict__" : Str))=false:=by decide):PE X (.Name x pos) (cQ i):=by
 intro pins s σ H Q I h;obtain⟨v,e,h⟩:=h;obtain⟨m,hn,hl⟩:=I.loc;obtain⟨u,r,l⟩:=hl i x v hN e hv;have fin:EP X pins σ Q u s:=⟨v,H,I,r,h⟩
 rcases l with ⟨hk,hm⟩|⟨hk,c,hc,hcell⟩
 ·exact wpAny_Name (wpAny_loadName_local I.ok.kind hk hn hm fin) hd
 ·rcases hk with hk|hk
  ·exact wpAny_Name (wpAny_loadName_cell I.ok.kind hk hc hcell fin) hd
  ·exact wpAny_Name (wpAny_loadName_free I.ok.kind hk hc hcell fin hcd) hd
theorem mM{i j pos}:PE X (.Constant (.int i) j pos) (tC (.int i)):=λ_ _ _ H _ I h=>wpAny_Constant_int ⟨.int i,H,I.tok _,⟨_,rfl⟩,h⟩
theorem tH{b j pos}:PE X (.Constant (.bool b) j pos) (tC (.bl b)):=λ_ _ _ H _ I h=>Constant_bool ⟨.bl b,H,I,rfl,h⟩
theorem xQ{j pos}:PE X (.Constant .none j pos) (tC .non):=λ_ _ _ H _ I h=>Constant_none ⟨.non,H,I,rfl,h⟩
theorem pZ{x j pos}:PE X (.Constant (.str x) j pos) (tC (.str x)):=λ_ _ _ H _ I h=>Calls.Constant_str ⟨.str x,H,I.tok _,⟨_,rfl⟩,h⟩
noncomputable def Gl(X:Cx)(x:Str):Prop:=X.env.kindOf x=some .globalImplicit
theorem jf{E:ae->af->Prop}{pins:List (Addr×Obj)}{s:af}{σ:St}{H:Hp}{x:Str}{u:ae}{pos:Pos}{Q:ae->af->Prop}(I:Inv X pins σ H s)(hg:Gl X x)(hm:X.mg x=some u)(h:Q u s)
  (hd:(x==("__debug__" : Str))=false:=by decide):ag (ai X.prog X.w) X.A (eval (.Name x pos) X.env) Q E s:=
 Calls.Name_function_global I.ok.kind hg (Calls.loadGlobal_global (by rw[I.ok.glob];exact I.mod.glob.keeps I.bk) hm h) hd
theorem eG{E:ae->af->Prop}{pins:List (Addr×Obj)}{s:af}{σ:St}{H:Hp}{x:Str}{u:ae}{pos:Pos}{Q:ae->af->Prop}(I:Inv X pins σ H s)(hg:Gl X x)(hm:X.mg x=none)(hv:bc x=some u)(h:Q u s)
  (hn:x≠"__name__":=by decide) (hd:(x==("__debug__" : Str))=false:=by decide):ag (ai X.prog X.w) X.A (eval (.Name x pos) X.env) Q E s:=by
 obtain⟨mb,h1,h2⟩:=I.mod.blt;exact Calls.Name_function_global I.ok.kind hg (Calls.loadGlobal_builtin (by rw[I.ok.glob];exact I.mod.glob.keeps I.bk) hm (by rw[I.ok.blt];exact h1.keeps I.bk) ((h2 x hn).trans hv) h) hd
theorem iS{x:Str}{v:V}{u:ae}{pos:Pos}(hg:Gl X x)(hm:X.mg x=some u)(r:RelV v u)(hd:(x==("__debug__" : Str))=false:=by decide):PE X (.Name x pos) (tC v):=
 λ_ _ _ H _ I h=>jf I hg hm ⟨v,H,I,r,h⟩ hd
theorem yt{x:Str}{v:V}{u:ae}{pos:Pos}(hg:Gl X x)(hm:X.mg x=none)(hv:bc x=some u)(r:RelV v u)(hn:x≠"__name__":=by decide)(hd:(x==("__debug__" : Str))=false:=by decide):PE X (.Name x pos) (tC v):=
 λ_ _ _ H _ I h=>eG I hg hm hv ⟨v,H,I,r,h⟩ hn hd
variable{a b:Expr}{ta tb:TE}{pos:Pos}
variable{tA tB':TT}{rest:List Expr}
noncomputable def xf(t u:TT):TT:=λσ H Q=>t σ H λc H1=>if c=true then u σ H1 Q else Q false H1
noncomputable def tOr(t u:TT):TT:=λσ H Q=>t σ H λc H1=>if c=true then Q true H1 else u σ H1 Q
noncomputable def xc(t:TT):TT:=λσ H Q=>t σ H λc H1=>Q (!c) H1
theorem oz(ha:PT X a tA):PW X (.BoolOp .And [a] pos) tA:=by
 intro wh pins s σ H Q I h;refine isTrue_and (thn (ha pins s σ H Q I h) λc s1 e=>?_);cases c with
 |true=>exact isTrue_and_nil e
 |false=>exact e
theorem wx(ha:PT X a tA):PW X (.BoolOp .Or [a] pos) tA:=by
 intro wh pins s σ H Q I h;refine isTrue_or (thn (ha pins s σ H Q I h) λc s1 e=>?_);cases c with
 |false=>exact isTrue_or_nil e
 |true=>exact e
theorem n9(ha:PT X a tA)(hb:PW X (.BoolOp .And (b::rest) pos) tB'):PW X (.BoolOp .And (a::b::rest) pos) (xf tA tB'):=by
 intro wh pins s σ H Q I h;refine isTrue_and (thn (ha pins s σ H _ I h) λc s1 ⟨H1,I1,q1⟩=>?_);cases c with
 |true=>exact hb wh pins s1 σ H1 Q I1 q1
 |false=>exact⟨H1,I1,q1⟩
theorem tF(ha:PT X a tA)(hb:PW X (.BoolOp .Or (b::rest) pos) tB'):PW X (.BoolOp .Or (a::b::rest) pos) (tOr tA tB'):=by
 intro wh pins s σ H Q I h;refine isTrue_or (thn (ha pins s σ H _ I h) λc s1 ⟨H1,I1,q1⟩=>?_);cases c with
 |true=>exact⟨H1,I1,q1⟩
 |false=>exact hb wh pins s1 σ H1 Q I1 q1
theorem rK(ha:PT X a tA):PT X (.UnaryOp .Not a pos) (xc tA):=by
 intro pins s σ H Q I h;exact isTrue_not (ha pins s σ H (λc H1=>Q (!c) H1) I h)
noncomputable def uo(ta tb:TE):TE:=λσ H Q=>ta σ H λx H1=>∃c,x=.bl c/\if c=true then tb σ H1 Q else Q (.bl false) H1
noncomputable def oh(ta tb:TE):TE:=λσ H Q=>ta σ H λx H1=>∃c,x=.bl c/\if c=true then Q (.bl true) H1 else tb σ H1 Q
noncomputable def xK(ta:TE):TE:=λσ H Q=>ta σ H λx H1=>∃c,x=.bl c/\Q (.bl (!c)) H1
theorem rL{op}{t:TE}(h:PE X a t):PE X (.BoolOp op [a] pos) t:=λpins s σ H Q I hw=>BoolOp_one (h pins s σ H Q I hw)
theorem o9(ha:PE X a ta)(hb:PE X (.BoolOp .And (b::rest) pos) tb):PE X (.BoolOp .And (a::b::rest) pos) (uo ta tb):=by
 intro pins s σ H Q I h;refine BoolOp_and (thn (ha pins s σ H _ I h) λv s1 ⟨x,H1,I1,r1,q1⟩=>?_);obtain⟨c,rfl,q1⟩:=q1;cases r1;refine a8 ?_;cases c with
 |true=>exact hb pins s1 σ H1 Q I1 q1
 |false=>exact⟨.bl false,H1,I1,rfl,q1⟩
theorem pQ(ha:PE X a ta)(hb:PE X (.BoolOp .Or (b::rest) pos) tb):PE X (.BoolOp .Or (a::b::rest) pos) (oh ta tb):=by
 intro pins s σ H Q I h;refine BoolOp_or (thn (ha pins s σ H _ I h) λv s1 ⟨x,H1,I1,r1,q1⟩=>?_);obtain⟨c,rfl,q1⟩:=q1;cases r1;refine a8 ?_;cases c with
 |false=>exact hb pins s1 σ H1 Q I1 q1
 |true=>exact⟨.bl true,H1,I1,rfl,q1⟩
theorem v_(ha:PE X a ta):PE X (.UnaryOp .Not a pos) (xK ta):=by
 intro pins s σ H Q I h;refine UnaryOp_ (thn (ha pins s σ H _ I h) λv s1 ⟨x,H1,I1,r1,q1⟩=>?_);obtain⟨c,rfl,q1⟩:=q1;cases r1;exact not_of (a8 ⟨.bl (!c),H1,I1,rfl,q1⟩)
noncomputable def tIf(t:TT)(ta tb:TE):TE:=λσ H Q=>t σ H λc H1=>if c=true then ta σ H1 Q else tb σ H1 Q
theorem uU{c:Expr}(hc:PT X c tA)(ha:PE X a ta)(hb:PE X b tb):PE X (.IfExp c a b pos) (tIf tA ta tb):=by
 intro pins s σ H Q I h;refine wpAny_IfExp (thn (hc pins s σ H _ I h) λd s1 ⟨H1,I1,q1⟩=>?_);cases d with
 |true=>exact ha pins s1 σ H1 Q I1 q1
 |false=>exact hb pins s1 σ H1 Q I1 q1
end
noncomputable def SqL(K:ao)(H:Hp)(a:Addr)(xs:List V):Prop:=
 Rd H a (.lst xs) \/
  ∃(o:Obj) (its:Array ae) (n:Nat),K.lookup a=some o/\o.cls=.type "list"/\o.dict=none/\o.data=.seq its n/\its.size<=az/\Vals xs its.toList
noncomputable def SqT(K:ao)(H:Hp)(a:Addr)(xs:List V):Prop:=
 Rd H a (.tup xs) \/
  ∃(o:Obj) (its:Array ae) (n:Nat),K.lookup a=some o/\o.cls=.type "tuple"/\o.data=.seq its n/\its.size<=az/\Vals xs its.toList
noncomputable def vD:ae->Option V
 | .none=>some .non
 | .bool b=>some (.bl b)
 | .int i _=>some (.int i)
 | .str x _=>some (.str x)
 | .bytes b _=>some (.byt b)
 | .float b _=>some (.flt b)
 | .ref a=>some (.ref a)
 | .type n=>some (.ty n)
 |_=>none
theorem RelV.abs{x:V}{u:ae}(r:RelV x u):vD u=some x:=by
 cases x with
 |non=>cases r;rfl
 |bl _=>cases r;rfl
 |int _=>obtain⟨t,rfl⟩:=r;rfl
 |str _=>obtain⟨t,rfl⟩:=r;rfl
 |byt _=>obtain⟨t,rfl⟩:=r;rfl
 |flt _=>obtain⟨t,rfl⟩:=r;rfl
 |ref _=>cases r;rfl
 |ty _=>cases r;rfl
theorem RelV.inj{x y:V}{u:ae}(r:RelV x u)(q:RelV y u):x=y:=bq (r.abs.symm.trans q.abs)
theorem Vals.inj{xs ys:List V}{us:List ae}(h:Vals xs us)(h':Vals ys us):xs=ys:=by
 induction h generalizing ys with
 |nil=>cases h';rfl
 |cons r t ih=>cases h' with
  |cons r' t'=>rw[r.inj r',ih t']
section
variable{X:Cx}{pins:List (Addr×Obj)}{σ:St}{H:Hp}{s:af}{a:Addr}{xs ys:List V}
theorem SqL.of{K:ao}(h:H a=some (.lst xs)):SqL K H a xs:=.inl (.inl h)
theorem SqT.of{K:ao}(h:H a=some (.tup xs)):SqT K H a xs:=.inl (.inl h)
theorem Inv.list(I:Inv X pins σ H s)(h:SqL X.K H a xs):∃its:List ae,Vals xs its/\PlainL s.heap a its.toArray/\xs.length<=sizeLine:=by
 rcases h with h|⟨o,its,n,hk,hc,hd,hs,hz,r⟩
 ·obtain⟨z,its,n,r,e⟩:=h.ok I.hok;exact⟨its,r,⟨_,n,e,rfl,rfl,rfl⟩,z⟩
 ·refine⟨its.toList,r,⟨o,n,I.kIn a o hk,hc,hd,by simpa using hs⟩,?_⟩;have e:=r.length;simp only[Array.length_toList]at e;lia
theorem Inv.tuple(I:Inv X pins σ H s)(h:SqT X.K H a xs):∃its:List ae,Vals xs its/\IsTup s.heap a its.toArray/\xs.length<=sizeLine:=by
 rcases h with h|⟨o,its,n,hk,hc,hs,hz,r⟩
 ·obtain⟨z,its,r,p⟩:=h.ok I.hok;exact⟨its,r,p,z⟩
 ·refine⟨its.toList,r,⟨o,I.kIn a o hk,hc,n,by simpa using hs⟩,?_⟩;have e:=r.length;simp only[Array.length_toList]at e;lia
theorem Inv.list_inj(I:Inv X pins σ H s)(h:SqL X.K H a xs)(h':SqL X.K H a ys):xs=ys:=by
 obtain⟨its,r,⟨o,n,e,_,_,d⟩,_⟩:=I.list h;obtain⟨its',r',⟨o',n',e',_,_,d'⟩,_⟩:=I.list h';rw[e]at e';cases e';rw[d]at d';injection d' with d1 _
 have:its=its':=by simpa using congrArg Array.toList d1
 subst this;exact r.inj r'
theorem Inv.tuple_inj(I:Inv X pins σ H s)(h:SqT X.K H a xs)(h':SqT X.K H a ys):xs=ys:=by
 obtain⟨its,r,⟨o,e,_,n,d⟩,_⟩:=I.tuple h;obtain⟨its',r',⟨o',e',_,n',d'⟩,_⟩:=I.tuple h';rw[e]at e';cases e';rw[d]at d';injection d' with d1 _
 have:its=its':=by simpa using congrArg Array.toList d1
 subst this;exact r.inj r'
end
abbrev Cx.wish(X:Cx)(E:ae->af->Prop):Cx:={X with xe:=E}
abbrev Cx.nox(X:Cx):Cx:=X.wish λ_ _=>False
theorem Cx.Ok.wish{X:Cx}(ok:X.Ok)(E:ae->af->Prop):(X.wish E).Ok:=
 ⟨ok.mod,ok.kind,ok.glob,ok.blt,ok.above,ok.inj,ok.has,ok.cab,ok.hd,ok.frames,ok.stk,ok.exf,ok.bs,ok.bsz,ok.noex,ok.exfs,ok.funs,ok.frf⟩
theorem Cx.Ok.unwish{X:Cx}{E:ae->af->Prop}(ok:(X.wish E).Ok):X.Ok:=
 ⟨ok.mod,ok.kind,ok.glob,ok.blt,ok.above,ok.inj,ok.has,ok.cab,ok.hd,ok.frames,ok.stk,ok.exf,ok.bs,ok.bsz,ok.noex,ok.exfs,ok.funs,ok.frf⟩
section
variable{X:Cx}{pins:List (Addr×Obj)}{σ:St}{H:Hp}{s:af}{E:ae->af->Prop}
theorem Inv.wish(I:Inv X pins σ H s)(E:ae->af->Prop):Inv (X.wish E) pins σ H s:=⟨I.ok.wish E,I.os,I.bare,I.base,I.loc,I.cell,I.free,I.freeC,I.pin,I.hok,I.len⟩
theorem Inv.unwish(I:Inv (X.wish E) pins σ H s):Inv X pins σ H s:=⟨I.ok.unwish,I.os,I.bare,I.base,I.loc,I.cell,I.free,I.freeC,I.pin,I.hok,I.len⟩
theorem SP.unwish{D:Ends}{f:Flow}{s':af}(h:SP (X.wish E) pins D f s'):SP X pins D f s':=by
 cases f with
 |next=>obtain⟨σ',H',I,q⟩:=h;exact⟨σ',H',I.unwish,q⟩
 |brk=>obtain⟨σ',H',I,q⟩:=h;exact⟨σ',H',I.unwish,q⟩
 |cont=>obtain⟨σ',H',I,q⟩:=h;exact⟨σ',H',I.unwish,q⟩
 |ret u=>obtain⟨v,σ',H',I,r,q⟩:=h;exact⟨v,σ',H',I.unwish,r,q⟩
end
section
variable{X:Cx}{st:Stmt}{rest:List Stmt}{t u:TS}{e:Expr}{te:TE}{pos:Pos}
noncomputable def fu:TS:=λD σ H=>D.nx σ H
noncomputable def vI(t u:TS):TS:=λD σ H=>t {D with nx:=u D} σ H
theorem t9:PSs X [] fu:=λ_ _ σ H _ I h=>wpAny_execs_nil ⟨σ,H,I,h⟩
theorem tw(h1:PS X st t)(h2:PSs X rest u):PSs X (st::rest) (vI t u):=by
 intro pins s σ H D I h;refine wpAny_execs_cons (thn (h1 pins s σ H {D with nx:=u D} I h) λf s1 q=>?_);cases f with
 |next=>
  obtain⟨σ',H',I',q⟩:=q;exact h2 pins s1 σ' H' D I' q
 |ret v=>exact q
 |brk=>exact q
 |cont=>exact q
noncomputable def ub:TS:=λD σ H=>D.bk σ H
noncomputable def o6:TS:=λD σ H=>D.ct σ H
theorem m8:PS X (.Pass pos) fu:=λ_ _ σ H _ I h=>wpAny_Pass ⟨σ,H,I,h⟩
theorem uf:PS X (.Break pos) ub:=λ_ _ σ H _ I h=>wpAny_Break ⟨σ,H,I,h⟩
theorem xb:PS X (.Continue pos) o6:=λ_ _ σ H _ I h=>wpAny_Continue ⟨σ,H,I,h⟩
theorem Inv.quiet{pins:List (Addr×Obj)}{σ:St}{H:Hp}{s:af}(I:Inv X pins σ H s):interactive X.env=false:=by simp[interactive,I.ok.kind]
noncomputable def sP(te:TE):TS:=λD σ H=>te σ H λ_ H1=>D.nx σ H1
theorem hU(he:PE X e te)(hs:swapsWith e none pos.line X.env=pure false:=by rfl):PS X (.Expr e pos) (sP te):=by
 intro pins s σ H D I h;exact wpAny_Expr_any (thn (he pins s σ H _ I h) λv s1 ⟨x,H1,I1,r1,q1⟩=>⟨σ,H1,I1,q1⟩) I.quiet hs
noncomputable def ui(te:TE):TS:=λD σ H=>te σ H D.rt
theorem i3(he:PE X e te):PS X (.Return (some e) pos) (ui te):=by
 intro pins s σ H D I h;exact wpAny_Return_some (thn (he pins s σ H _ I h) λv s1 ⟨x,H1,I1,r1,q1⟩=>⟨x,σ,H1,I1,r1,q1⟩)
noncomputable def nV:TS:=λD _ H=>D.rt .non H
theorem wH:PS X (.Return none pos) nV:=λ_ _ σ H _ I h=>wpAny_Return_none ⟨.non,σ,H,I,rfl,h⟩
noncomputable def fS(c:TT)(t u:TS):TS:=λD σ H=>c σ H λb H1=>if b=true then t D σ H1 else u D σ H1
theorem wI{c:Expr}{a b:List Stmt}{tc:TT}(hc:PT X c tc)(ha:PSs X a t)(hb:PSs X b u):PS X (.If c a b pos) (fS tc t u):=by
 intro pins s σ H D I h;refine wpAny_If (thn (hc pins s σ H _ I h) λd s1 ⟨H1,I1,q1⟩=>?_);cases d with
 |true=>exact ha pins s1 σ H1 D I1 q1
 |false=>exact hb pins s1 σ H1 D I1 q1
end
abbrev TG:=V->St->Hp->(St->Hp->Prop)->Prop
abbrev TGs:=List V->St->Hp->(St->Hp->Prop)->Prop
noncomputable def PG(X:Cx)(target:Expr)(t:TG):Prop:=
 ∀(pins:List (Addr×Obj)) (s:af) (σ:St) (H:Hp) (v:V) (u:ae) (Q:St->Hp->Prop),Inv X pins σ H s->RelV v u->t v σ H Q ->
  ag (ai X.prog X.w) X.A (assign target X.env u) (λ_ s'=>∃σ' H',Inv X pins σ' H' s'/\Q σ' H') X.xe s
noncomputable def PGs(X:Cx)(ts:List Expr)(t:TGs):Prop:=
 ∀(pins:List (Addr×Obj)) (s:af) (σ:St) (H:Hp) (vs:List V) (us:List ae) (Q:St->Hp->Prop),Inv X pins σ H s->Vals vs us->t vs σ H Q ->
  ag (ai X.prog X.w) X.A (assignInOrder ((assignEach ts X.env).map (·.2)) us) (λ_ s'=>∃σ' H',Inv X pins σ' H' s'/\Q σ' H') X.xe s
abbrev jc:=V->V->V->Hp->(Hp->Prop)->Prop
noncomputable def dG(X:Cx)(t:jc):Prop:=
 ∀(pins:List (Addr×Obj)) (s:af) (σ:St) (H:Hp) (o i v:V) (ov iv u:ae) (Q:Hp->Prop),Inv X pins σ H s->RelV o ov->RelV i iv->RelV v u->t o i v H Q ->
  ag (ai X.prog X.w) X.A (setItem ov iv u) (λ_ s'=>∃H',Inv X pins σ H' s'/\Q H') X.xe s
section
variable{X:Cx}{pos:Pos}
noncomputable def dq(i:Nat):TG:=λv σ H Q=>Q (σ.set i (some v)) H
theorem nO{i:Nat}{x:Str}(hN:X.N.Nodup)(hi:X.N[i]? = some x)(hx:Loc X.env.scope x)(hf:X.fn x=true\/X.env.scope.names.lookup x=some .local:=by first|exact .inl rfl|exact .inr rfl|assumption):PG X (.Name x pos) (dq i):=by
 intro pins s σ H v u Q I r h;exact wpAny_assign_Name (fh I hN hi hx r (λs' I'=>⟨_,H,I',h⟩) hf)
noncomputable def mv:TGs:=λvs σ H Q=>vs=[]/\Q σ H
noncomputable def jz(t:TG)(u:TGs):TGs:=λvs σ H Q=>∃v r,vs=v::r/\t v σ H λσ' H'=>u r σ' H' Q
theorem jP:PGs X [] mv:=by
 intro pins s σ H vs us Q I r h;obtain⟨e,h⟩:=h;subst e;cases r;exact assignInOrder_nil ⟨σ,H,I,h⟩
theorem gS{e:Expr}{es:List Expr}{t:TG}{u:TGs}(h1:PG X e t)(h2:PGs X es u)
  (hs:(assignEach (e::es) X.env).map (·.2)=assign e X.env::(assignEach es X.env).map (·.2):=by rfl):PGs X (e::es) (jz t u):=by
 intro pins s σ H vs us Q I r h;obtain⟨v,vr,e1,h⟩:=h;subst e1;cases r with
 |cons r rr=>
  rw[hs];refine assignInOrder_cons (thn (h1 pins s σ H _ _ _ I r h) λ_ s1 ⟨σ1,H1,I1,q1⟩=>?_);exact h2 pins s1 σ1 H1 _ _ Q I1 rr q1
noncomputable def lb(K:ao)(n:Nat)(t:TGs):TG:=λv σ H Q=>∃a xs,v=.ref a/\SqT K H a xs/\xs.length=n/\t xs σ H Q
theorem j3{es:List Expr}{k:Nat}{t:TGs}{n:Nat}(hc:X.calm=true)(h:PGs X es t)
  (hn:(assignEach es X.env).length=n:=by rfl) (hst:(assignEach es X.env).findIdx? (·.1)=none:=by rfl):PG X (.Tuple es k pos) (lb X.K n t):=by
 intro pins s σ H v u Q I r hw;obtain⟨a,xs,e1,hq,hl,hw⟩:=hw;subst e1;cases r;obtain⟨its,rv,ht,hz⟩:=I.tuple hq;refine assign_Tuple_tuple (I.ok.hd hc) ht (by simp[hn,<-hl,rv.length]) hst λh' hx=>?_
 have I1:Inv X pins σ H {s with heap:=h'}:=I.kept (t':=s.toks) λb o e=>hx b o (aS (aE e)) e
 exact h pins _ σ H xs _ Q I1 (by simpa using rv) hw
noncomputable def kH(to ti:TE)(t:jc):TG:=λv σ H Q=>to σ H λo H1=>ti σ H1 λi H2=>t o i v H2 λH3=>Q σ H3
theorem jd{o i:Expr}{to ti:TE}{t:jc}(ho:PE X o to)(hi:PE X i ti)(hs:dG X t)
  (ha:∀v,assign (.Subscript o i pos) X.env v=(do
   let ov <-holding [v] (eval o X.env)
   let iv <-holding [v,ov] (eval i X.env)
   standAt pos
   holding [v,ov,iv] (setItem ov iv v)
   release [v,ov,iv] []):=by intro _;rfl):PG X (.Subscript o i pos) (kH to ti t):=by
 intro pins s σ H v u Q I r h;rw[ha];refine ah (wpAny_holding (thn (ho pins s σ H _ I h) λov s1 ⟨x,H1,I1,r1,q1⟩=>?_));refine ah (wpAny_holding (thn (hi pins s1 σ H1 _ I1 q1) λiv s2 ⟨y,H2,I2,r2,q2⟩=>?_));refine ah (wpAny_standAt (ah (wpAny_holding (thn (hs pins s2 σ H2 x y v ov iv u _ I2 r1 r2 r q2) λ_ s3 ⟨H3,I3,q3⟩=>?_))));exact wpAny_release ⟨σ,H3,I3,q3⟩
noncomputable def gf(te:TE)(g:TG):TS:=λD σ H=>te σ H λx H1=>g x σ H1 D.nx
theorem g9{tg e:Expr}{te:TE}{g:TG}(he:PE X e te)(hg:PG X tg g)(hs:swapsWithSole [tg] e pos.line X.env=pure false:=by rfl)(hw:bt [tg] e X.env=pure none:=by rfl)
  (h1:(assignEach [tg] X.env).map (·.2)=[assign tg X.env]:=by rfl):PS X (.Assign [tg] e pos) (gf te g):=by
 intro pins s σ H D I h;refine wpAny_Assign_stores (thn (he pins s σ H _ I h) λv s1 ⟨x,H1,I1,r1,q1⟩=>?_) hs hw;rw[h1];exact thn (hg pins s1 σ H1 x v _ I1 r1 q1) λ_ s2 q=>q
theorem gF{i:Nat}{x:Str}{e:Expr}{te:TE}{pos':Pos}(hN:X.N.Nodup)(hi:X.N[i]? = some x)(hx:Loc X.env.scope x)(he:PE X e te)(hs:swapsWith e (some (.Name x pos')) pos.line X.env=pure false:=by rfl)(hf:X.fn x=true\/X.env.scope.names.lookup x=some .local:=by first|exact .inl rfl|exact .inr rfl|assumption) :
  PS X (.Assign [.Name x pos'] e pos) (gf te (dq i)):=by
 intro pins s σ H D I h;refine wpAny_Assign_Name (thn (he pins s σ H _ I h) λv s1 ⟨y,H1,I1,r1,q1⟩=>?_) hs;exact fh I1 hN hi hx r1 (λs2 I2=>⟨_,H1,I2,q1⟩) hf
end
section
variable{X:Cx}{pos:Pos}
end
structure It where
 go:Nat->Hp->Prop
 yld:Nat->Hp->V->Hp->Prop
 stop:Nat->Hp->Prop
noncomputable def cc(X:Cx)(pins:List (Addr×Obj))(H:Hp)(b:Addr):Prop:=
 H b=none/\b≠X.env.locals/\b∉X.fs/\(b∈X.ex\/X.s₀.heap.objs.size<=b)/\(∀x c,X.env.cells.lookup x=some c->c≠b)/\∀p∈X.pn++pins,p.1≠b
theorem Inv.fpOk{X:Cx}{pins:List (Addr×Obj)}{σ:St}{H H':Hp}{s:af}{b:Addr}(I:Inv X pins σ H s)(hb:s.heap.objs.size<=b)(hn:H' b=none):cc X pins H' b:=by
 refine⟨hn,Nat.ne_of_gt (aZ I.lt hb),I.nofs hb,.inr (a5 I.sz hb),λx c e z=>?_,λp hp z=>?_⟩
 ·obtain⟨v,q⟩:=I.cell x c e;exact absurd (aZ q.lt (by rw[z];exact hb)) (bj _)
 ·exact absurd (aZ (aE (I.pin p hp).1) (by rw[z];exact hb)) (bj _)
structure Turn(P:aq)(w:aj)(K:ao)(tg:Expr)(J:It)(fp:List Addr)(it:Addr)(tn:Nat->Heap->Prop):Prop where
 mem:it∈fp
 obj:∀i h,tn i h->∀b∈fp,∃o,h.get? b=some o/\∀v,o.data≠.cell v
 keep:∀i h h',tn i h->(∀b∈fp,∀o,h.get? b=some o->h'.get? b=some o)->tn i h'
 item:∀(X:Cx),X.prog=P->X.w=w->X.K=K->X.calm=true->∀(i:Nat) (pins:List (Addr×Obj)) (s:af) (σ:St) (H:Hp) (E:ae->af->Prop),Inv X pins σ H s->(∀b∈fp,cc X pins H b)->tn i s.heap->J.go i H ->
  ag (ai P w) X.A (pyNext (.ref it)) (λr s1=>∃u,r=some u /\
   ag (ai P w) X.A (letOwnedTupleGo tg (.ref it) u) (λ_ s2=>∃x H',Inv X pins σ H' s2/\RelV x u/\J.yld i H x H'/\tn (i+1) s2.heap/\∀b∈fp,H' b=none) E s1) E s
 done:∀(X:Cx),X.prog=P->X.w=w->X.K=K->X.calm=true->∀(i:Nat) (pins:List (Addr×Obj)) (s:af) (σ:St) (H:Hp) (E:ae->af->Prop),Inv X pins σ H s->(∀b∈fp,cc X pins H b)->tn i s.heap->J.stop i H ->
  ag (ai P w) X.A (pyNext (.ref it)) (λr s1=>r=none/\Inv X pins σ H s1) E s
 self:∀(A:ar) (i:Nat) (s:af) (Q:ae->af->Prop) (E:ae->af->Prop),tn i s.heap->Q (.ref it) s->ag (ai P w) A (pyIter (.ref it)) Q E s
abbrev TI:=St->Hp->(It->Hp->Prop)->Prop
noncomputable def PIE(X:Cx)(pins:List (Addr×Obj))(σ:St)(tg:Expr)(R:It->Hp->Prop)(itv:ae)(s2:af):Prop:=
 ∃(it:Addr) (fp:List Addr) (tn:Nat->Heap->Prop) (J:It) (H':Hp),itv=.ref it/\Inv X pins σ H' s2/\Turn X.prog X.w X.K tg J fp it tn/\tn 0 s2.heap/\(∀b∈fp,cc X pins H' b)/\R J H'
noncomputable def PI(X:Cx)(tg iter:Expr)(wi:TI):Prop:=
 ∀(pins:List (Addr×Obj)) (s:af) (σ:St) (H:Hp) (R:It->Hp->Prop),Inv X pins σ H s->wi σ H R ->
  ag (ai X.prog X.w) X.A (eval iter X.env) (λv s1=>ag (ai X.prog X.w) X.A (pyIter v) (PIE X pins σ tg R) X.xe s1) X.xe s
theorem fU{M:Model}{A:ar}{E:ae->af->Prop}{s:af}{tg:Expr}{it:Addr}{u:ae}{o:Obj}{n:String}{vs:Array ae}{Q:Unit->af->Prop}(ho:s.heap.get? it=some o)(hc:o.cls=.type n)(hd:o.data=.fields vs)
  (hn:["enumerate","zip","dict_itemiterator","dict_reverseitemiterator","odict_iterator","itertools.zip_longest","itertools.pairwise"].contains n=false) (hQ:Q () s):ag M A (letOwnedTupleGo tg (.ref it) u) Q E s:=by
 unfold letOwnedTupleGo;cases tg<;>first
  |exact av hQ
  | (cases u<;>first
    |exact av hQ
    | (refine ah (wpAny_load ho ?_)
       rw[hc,hd];show ag M A (if (["enumerate","zip","dict_itemiterator","dict_reverseitemiterator","odict_iterator","itertools.zip_longest","itertools.pairwise"].contains n&&vs[0]? == some (rawInt _))=true then _ else _) Q E s;rw[if_neg (by intro h;rw[hn,Bool.false_and]at h;cases h)];exact av hQ))
noncomputable def Itl(K:ao)(a:Addr):It:=
 ⟨λi H=>∃xs x,SqL K H a xs/\xs[i]? = some x,λi H x H'=>H'=H/\∀xs,SqL K H a xs->xs[i]? = some x,λi H=>∃xs,SqL K H a xs/\xs.length<=i⟩
noncomputable def Itt(K:ao)(a:Addr):It:=
 ⟨λi H=>∃xs x,SqT K H a xs/\xs[i]? = some x,λi H x H'=>H'=H/\∀xs,SqT K H a xs->xs[i]? = some x,λi H=>∃xs,SqT K H a xs/\xs.length<=i⟩
noncomputable def Itr(lo:Int)(n:Nat):It:=⟨λi _=>i<n,λi H x H'=>H'=H/\x=.int (lo+i),λi _=>n<=i⟩
theorem xT{P:aq}{w:aj}{K:ao}{tg:Expr}(a it:Addr):Turn P w K tg (Itl K a) [it] it (λi h=>h.IsListIter it a i) where
 mem:=by simp
 obj:=λi h st b hb=>by
  have e:b=it:=by simpa using hb
  subst e;obtain⟨o,e,c,d⟩:=st;exact⟨o,e,λv z=>by rw[d]at z;cases z⟩
 keep:=λi h h' st k=>st.at λo e=>k it (by simp) o e
 item:=by
  intro X hP hw hK hc i pins s σ H E I hf st hg;subst hP hw hK;obtain⟨xs,x,hq,hx⟩:=hg;obtain⟨its,rv,p,hz⟩:=I.list hq;obtain⟨u,hu,ru⟩:=rv.get hx;obtain⟨f0,f1,f2,f3,f4,f5⟩:=hf it (by simp);refine wpAny_pyNext_list_item st p.isList (x:=u) (by simpa using hu) λh' st' sb=>?_
  have I1:Inv X pins σ H {s with heap:=h'}:=I.turned (t':=s.toks) (λb o hb e=>(sb.2 b hb).trans e) f0 f1 f3 f4 f5;obtain⟨o,e,c,d⟩:=id st';exact⟨u,rfl,fU (s:={s with heap:=h'}) e c d (by decide) ⟨x,H,I1,ru,⟨rfl,λys hy=>by rw[I.list_inj hy hq];exact hx⟩,st',λb hb=>(hf b hb).1⟩⟩
 done:=by
  intro X hP hw hK hc i pins s σ H E I hf st hg;subst hP hw hK;obtain⟨xs,hq,hx⟩:=hg;obtain⟨its,rv,p,hz⟩:=I.list hq;obtain⟨f0,f1,f2,f3,f4,f5⟩:=hf it (by simp);have hl:=rv.length;exact wpAny_pyNext_list_end (I.ok.hd hc) st p.isList (by simp;lia) λh' eb=>⟨rfl,I.turned (t':=s.toks) (λb o hb e=>eb b o hb e) f0 f1 f3 f4 f5⟩
 self:=λ_ _ _ _ _ st h=>wpAny_pyIter_listiter st h
theorem oG{P:aq}{w:aj}{K:ao}{tg:Expr}(a it:Addr):Turn P w K tg (Itt K a) [it] it (λi h=>h.IsTupleIter it a i) where
 mem:=by simp
 obj:=λi h st b hb=>by
  have e:b=it:=by simpa using hb
  subst e;obtain⟨o,e,c,d⟩:=st;exact⟨o,e,λv z=>by rw[d]at z;cases z⟩
 keep:=λi h h' st k=>st.at λo e=>k it (by simp) o e
 item:=by
  intro X hP hw hK hc i pins s σ H E I hf st hg;subst hP hw hK;obtain⟨xs,x,hq,hx⟩:=hg;obtain⟨its,rv,p,hz⟩:=I.tuple hq;obtain⟨u,hu,ru⟩:=rv.get hx;obtain⟨f0,f1,f2,f3,f4,f5⟩:=hf it (by simp);refine wpAny_pyNext_tuple_item st (show s.heap.IsTuple a its.toArray from p) (x:=u) (by simpa using hu) λh' st' sb=>?_
  have I1:Inv X pins σ H {s with heap:=h'}:=I.turned (t':=s.toks) (λb o hb e=>(sb.2 b hb).trans e) f0 f1 f3 f4 f5;obtain⟨o,e,c,d⟩:=id st';exact⟨u,rfl,fU (s:={s with heap:=h'}) e c d (by decide) ⟨x,H,I1,ru,⟨rfl,λys hy=>by rw[I.tuple_inj hy hq];exact hx⟩,st',λb hb=>(hf b hb).1⟩⟩
 done:=by
  intro X hP hw hK hc i pins s σ H E I hf st hg;subst hP hw hK;obtain⟨xs,hq,hx⟩:=hg;obtain⟨its,rv,p,hz⟩:=I.tuple hq;obtain⟨f0,f1,f2,f3,f4,f5⟩:=hf it (by simp);have hl:=rv.length;exact wpAny_pyNext_tuple_end (I.ok.hd hc) st (show s.heap.IsTuple a its.toArray from p) (by simp;lia) λh' eb=>⟨rfl,I.turned (t':=s.toks) (λb o hb e=>eb b o hb e) f0 f1 f3 f4 f5⟩
 self:=λ_ _ _ _ _ st h=>wpAny_pyIter_tupleiter st h
theorem x_{P:aq}{w:aj}{K:ao}{tg:Expr}(it:Addr)(lo:Int)(n:Nat):Turn P w K tg (Itr lo n) [it] it (λi h=>IsRangeIter h it (lo+(i:Nat) * 1) ((n:Int)-(i:Nat)) 1) where
 mem:=by simp
 obj:=λi h st b hb=>by
  have e:b=it:=by simpa using hb
  subst e;exact⟨_,st,λv z=>by
   have z':Data.fields _=Data.cell v:=z;cases z'⟩
 keep:=λi h h' st k=>k it (by simp) _ st
 item:=by
  intro X hP hw hK hc i pins s σ H E I hf st hg;subst hP hw hK;obtain⟨f0,f1,f2,f3,f4,f5⟩:=hf it (by simp);have W:=Walks.range (prog:=X.prog) (w:=X.w) (I.ok.hd hc) it lo 1 n;refine W.item i s _ _ hg st λv h' tk hv st' kk=>?_
  obtain⟨t,rfl⟩:=hv;have I1:Inv X pins σ H {s with heap:=h',toks:=tk}:=I.turned (λb o hb e=>kk b o (by simpa using hb) e) f0 f1 f3 f4 f5;refine⟨_,rfl,fU (s:={s with heap:=h',toks:=tk}) (n:="range_iterator") st' rfl rfl (by decide) ⟨.int (lo+i),H,I1,⟨t,?_⟩,⟨rfl,rfl⟩,st',λb hb=>(hf b hb).1⟩⟩;rw[Int.mul_one]
 done:=by
  intro X hP hw hK hc i pins s σ H E I hf st hg;subst hP hw hK;obtain⟨f0,f1,f2,f3,f4,f5⟩:=hf it (by simp);exact wpAny_pyNext_range_end (I.ok.hd hc) st (by have:n<=i:=hg;lia) λh' eb=>⟨rfl,I.turned (t':=s.toks) (λb o hb e=>eb b o hb e) f0 f1 f3 f4 f5⟩
 self:=λ_ _ _ _ _ st h=>wpAny_pyIter_rangeiter st h
section
variable{X:Cx}{tg:Expr}
noncomputable def v9(K:ao)(tl:TE):TI:=λσ H R=>tl σ H λx H1=>∃a,x=.ref a/\(∃xs,SqL K H1 a xs)/\R (Itl K a) H1
noncomputable def uY(K:ao)(tl:TE):TI:=λσ H R=>tl σ H λx H1=>∃a,x=.ref a/\(∃xs,SqT K H1 a xs)/\R (Itt K a) H1
theorem yO{l:Expr}{tl:TE}(hl:PE X l tl):PI X tg l (v9 X.K tl):=by
 intro pins s σ H R I h;refine thn (hl pins s σ H _ I h) λv s1 ⟨x,H1,I1,r1,q1⟩=>?_
 obtain⟨a,e,⟨xs,hq⟩,q⟩:=q1;subst e;cases r1;obtain⟨its,rv,p,hz⟩:=I1.list hq;refine wpAny_pyIter_list p.isList ?_;refine⟨s1.heap.objs.size,[s1.heap.objs.size],_,_,H1,rfl,I1.kept (t':=s1.toks) λb o e=>Heap.get?_push_of_some _ e,xT a _,⟨_,Heap.get?_push_size _ rfl,rfl,rfl⟩,λb hb=>?_,q⟩;have e:b=s1.heap.objs.size:=by simpa using hb
 subst e;exact I1.fpOk (aA _) (I1.hok.fresh (aA _))
theorem pA{l:Expr}{tl:TE}(hl:PE X l tl):PI X tg l (uY X.K tl):=by
 intro pins s σ H R I h;refine thn (hl pins s σ H _ I h) λv s1 ⟨x,H1,I1,r1,q1⟩=>?_
 obtain⟨a,e,⟨xs,hq⟩,q⟩:=q1;subst e;cases r1;obtain⟨its,rv,p,hz⟩:=I1.tuple hq;refine wpAny_pyIter_tuple (show s1.heap.IsTuple a its.toArray from p) ?_;refine⟨s1.heap.objs.size,[s1.heap.objs.size],_,_,H1,rfl,I1.kept (t':=s1.toks) λb o e=>Heap.get?_push_of_some _ e,oG a _,⟨_,Heap.get?_push_size _ rfl,rfl,rfl⟩,λb hb=>?_,q⟩;have e:b=s1.heap.objs.size:=by simpa using hb
 subst e;exact I1.fpOk (aA _) (I1.hok.fresh (aA _))
theorem ki{pins:List (Addr×Obj)}{σ:St}{H:Hp}{s:af}{R:It->Hp->Prop}{E:ae->af->Prop}{lo hi:Int}{t u v:Tok}{tk:Nat}(I:Inv X pins σ H s)(h1:-(2^62)<=lo)(h2:lo<2^62)(h3:-(2^62)<=hi)(h4:hi<2^62)
  (q:R (Itr lo (hi-lo).toNat) H):ag (ai X.prog X.w) X.A (pyIter (.ref s.heap.objs.size)) (PIE X pins σ tg R) E {s with heap:=s.heap.push {cls:=.type "range",data:=.fields #[.int lo t,.int hi u,.int 1 v]},toks:=tk}:=by
 refine wpAny_pyIter_range (IsRange.new ..) (small_one h1 h2 h3 h4) ?_;have I1:Inv X pins σ H {s with heap:=s.heap.push {cls:=.type "range",data:=.fields #[.int lo t,.int hi u,.int 1 v]},toks:=tk}:=I.kept λb o e=>Heap.get?_push_of_some _ e
 refine⟨(s.heap.push {cls:=.type "range",data:=.fields #[.int lo t,.int hi u,.int 1 v]}).objs.size,[(s.heap.push {cls:=.type "range",data:=.fields #[.int lo t,.int hi u,.int 1 v]}).objs.size],_,_,H,rfl,
  I1.kept (t':=tk) λb o e=>Heap.get?_push_of_some _ e,x_ _ lo (hi-lo).toNat,?_,λb hb=>?_,q⟩
 ·have e1:lo+((0:Nat):Int) * 1=lo:=by simp
  have e2:(((hi-lo).toNat:Nat):Int)-((0:Nat):Int)=Builtin.Range.rangeSize lo hi 1:=by rw[rangeSize_one];split<;>lia
  show IsRangeIter _ _ (lo+((0:Nat):Int) * 1) ((((hi-lo).toNat:Nat):Int)-((0:Nat):Int)) 1;rw[e1,e2];exact Heap.get?_push_size _ rfl
 ·have e:b=(s.heap.push {cls:=.type "range",data:=.fields #[.int lo t,.int hi u,.int 1 v]}).objs.size:=by simpa using hb
  subst e;exact I1.fpOk (aA _) (I1.hok.fresh (aA _))
noncomputable def wJ(ta:TA):TI:=λσ H R=>ta σ H λvs H1=>∃j:Int,vs=[.int j]/\-(2^62)<=j/\j<2^62/\R (Itr 0 j.toNat) H1
noncomputable def vq(ta:TA):TI:=λσ H R=>ta σ H λvs H1=>∃i j:Int,vs=[.int i,.int j]/\(-(2^62)<=i/\i<2^62/\-(2^62)<=j/\j<2^62)/\R (Itr i (j-i).toNat) H1
theorem ya{a:Expr}{ta:TA}{p pos:Pos}(hg:Gl X "range")(hm:X.mg "range" = none)(ha:PA X [a] ta)(hs:aH [a] X.env=[(false,eval a X.env)]:=by rfl):PI X tg (.Call (.Name "range" p) [a] [] pos) (wJ ta):=by
 intro pins s σ H R I h;refine Call_ (eG I hg hm boot_range (PyProof.Rows.callWith_type1 (thn (ha pos pins s σ H _ I h) λus s1 ⟨vs,H1,I1,r1,q1⟩=>?_) hs rfl));obtain⟨j,e,q1,q2,q⟩:=q1;subst e;cases r1 with
 |cons r rr=>
  cases rr;obtain⟨t,rfl⟩:=r;exact call_range_1 (ki I1 (by lia) (by lia) q1 q2 (by simpa using q))
theorem vH{a b:Expr}{ta:TA}{p pos:Pos}(hg:Gl X "range")(hm:X.mg "range" = none)(ha:PA X [a,b] ta)(hs:aH [a,b] X.env=[(false,eval a X.env),(false,eval b X.env)]:=by rfl)(hs2:aH [b] X.env=[(false,eval b X.env)]:=by rfl) :
  PI X tg (.Call (.Name "range" p) [a,b] [] pos) (vq ta):=by
 intro pins s σ H R I h;refine Call_ (eG I hg hm boot_range (PyProof.Rows.callWith_type1 (thn (ha pos pins s σ H _ I h) λus s1 ⟨vs,H1,I1,r1,q1⟩=>?_) (by rw[hs,hs2]) (by rw[hs2];rfl)));obtain⟨i,j,e,⟨q1,q2,q3,q4⟩,q⟩:=q1;subst e;cases r1 with
 |cons r rr=>
  cases rr with
  |cons r' rr=>
   cases rr;obtain⟨t,rfl⟩:=r;obtain⟨t',rfl⟩:=r';exact call_range_2 (ki I1 q1 q2 q3 q4 q)
noncomputable def sY(wi:TI)(g:TG)(tb:TS):TS:=λD σ H=>wi σ H λJ H1=>∃W:Nat->Nat->St->Hp->Prop,(∃m,W 0 m σ H1)/\∀i m σ H,W i m σ H ->
 (J.stop i H/\D.nx σ H)\/(J.go i H/\∃N:St->Hp->Prop,(∀σ' H',N σ' H'->∃m',m'<m/\W (i+1) m' σ' H')/\∀x H',J.yld i H x H'->g x σ H' λσ2 H2=>tb {D with nx:=N,ct:=N,bk:=D.nx} σ2 H2)
noncomputable def fq(fp:List Addr)(h:Heap):List (Addr×Obj):=fp.filterMap λb=>(h.get? b).map λo=>(b,o)
theorem gb{fp:List Addr}{h:Heap}{b:Addr}{o:Obj}(hb:b∈fp)(e:h.get? b=some o):(b,o)∈fq fp h:=List.mem_filterMap.mpr ⟨b,hb,by rw[e];rfl⟩
theorem sg{fp:List Addr}{h:Heap}{p:Addr×Obj}(hp:p∈fq fp h):p.1∈fp/\h.get? p.1=some p.2:=by
 obtain⟨b,hb,e⟩:=List.mem_filterMap.mp hp;cases q:h.get? b with
 |none=>rw[q]at e;cases e
 |some o=>
  rw[q]at e;have e':(b,o)=p:=bq e;subst e';exact⟨hb,q⟩
theorem Inv.pinned{pins:List (Addr×Obj)}{σ:St}{H:Hp}{s:af}{fp:List Addr}(I:Inv X pins σ H s)(hf:∀b∈fp,cc X pins H b)(ho:∀b∈fp,∃o,s.heap.get? b=some o/\∀v,o.data≠.cell v):Inv X (pins++fq fp s.heap) σ H s:=
 I.pins_of λp hp=>(List.mem_append.mp hp).elim (λz=>I.pin p (bJ _ z)) λz=>by
  obtain⟨hb,e⟩:=sg z;obtain⟨f0,f1,f2,_⟩:=hf p.1 hb;obtain⟨o,e',d⟩:=ho p.1 hb;rw[e]at e';cases e';exact⟨e,f0,f1,f2,d⟩
theorem Inv.unpinned{pins pl:List (Addr×Obj)}{σ:St}{H:Hp}{s:af}(I:Inv X (pins++pl) σ H s):Inv X pins σ H s:=I.pins_of λp hp=>I.pin p (bJ _ (List.mem_append_left _ hp))
theorem vR{iter:Expr}{body:List Stmt}{wi:TI}{g:TG}{tb:TS}{pos:Pos}(hp:PassesOwn (ai X.prog X.w) X.A X.env X.xe)(hc:X.calm=true)(hi:PI X tg iter wi)(hg:PG X tg g)(hb:PSs X body tb)
  (hs:∀x,foldedSetIterable iter X.env x=pure x:=by intro _;rfl):PS X (.For tg iter body [] pos) (sY wi g tb):=by
 intro pins s σ H D I h;refine wpAny_For (thn (hi pins s σ H _ I h) λv s1 h1=>thn h1 λitv s2 h2=>?_) hs;obtain⟨it,fp,tn,J,H2,e,I2,T,st2,f2,W,⟨m0,w0⟩,turn⟩:=h2;subst e
 -- what stays true of the iterator's objects through the loop
 have stat:∀{H':Hp},(∀b∈fp,H' b=none)->∀b∈fp,cc X pins H' b:=λhn b hb=>⟨hn b hb,(f2 b hb).2⟩
 refine codeAny_forLoop_any (λn s'=>∃i σ' H',Inv X pins σ' H' s'/\tn i s'.heap/\(∀b∈fp,H' b=none)/\W i n σ' H') ?_ m0 ⟨0,σ,H2,I2,st2,λb hb=>(f2 b hb).1,w0⟩;rintro n s3 ⟨i,σ3,H3,I3,st3,fr3,w3⟩;rcases turn i n σ3 H3 w3 with ⟨stop,qn⟩|⟨go,N,hN,step⟩
 ·refine wpAny_passesOwn hp (thn (T.done X rfl rfl rfl hc i pins s3 σ3 H3 X.xe I3 (stat fr3) st3 stop) λr s4 ⟨hr,I4⟩=>?_);subst hr;exact wpAny_execs_nil ⟨σ3,H3,I4,qn⟩
 ·refine wpAny_passesOwn hp (thn (T.item X rfl rfl rfl hc i pins s3 σ3 H3 X.xe I3 (stat fr3) st3 go) λr s4 ⟨u,hr,h4⟩=>?_);subst hr;refine wpAny_passesOwn hp (thn h4 λ_ s5 ⟨x,H5,I5,r5,y5,st5,fr5⟩=>?_);have I5':=I5.pinned (stat fr5) (T.obj _ _ st5);refine wpAny_passesOwn hp (thn (hg _ s5 σ3 H5 x u _ I5' r5 (step x H5 y5)) λ_ s6 ⟨σ6,H6,I6,q6⟩=>?_);refine wpAny_passesOwn hp (thn (hb _ s6 σ6 H6 _ I6 q6) λf s7 q7=>?_);have again:∀{σ7:St}{H7:Hp},Inv X (pins++fq fp s5.heap) σ7 H7 s7->N σ7 H7->∃m,m<n/\∃i σ' H',Inv X pins σ' H' s7/\tn i s7.heap/\(∀b∈fp,H' b=none)/\W i m σ' H':=λ{σ7 H7} I7 n7=>by
   obtain⟨m',hm,w7⟩:=hN σ7 H7 n7;refine⟨m',hm,i+1,σ7,H7,I7.unpinned,T.keep _ _ _ st5 λb hb o e=>(I7.pin (b,o) (bJ _ (bJ _ (gb hb e)))).1,λb hb=>?_,w7⟩;obtain⟨o,e,d⟩:=T.obj _ _ st5 b hb;exact(I7.pin (b,o) (bJ _ (bJ _ (gb hb e)))).2.1
  cases f with
  |next=>obtain⟨σ7,H7,I7,n7⟩:=q7;exact again I7 n7
  |cont=>obtain⟨σ7,H7,I7,n7⟩:=q7;exact again I7 n7
  |brk=>obtain⟨σ7,H7,I7,q7⟩:=q7;exact⟨σ7,H7,I7.unpinned,q7⟩
  |ret v=>obtain⟨x7,σ7,H7,I7,r7,q7⟩:=q7;exact⟨x7,σ7,H7,I7.unpinned,r7,q7⟩
end
abbrev R2:=V->V->Hp->VK->Prop
noncomputable def OpR(X:Cx)(f:ae->ae->Sem ae)(r:R2):Prop:=
 ∀(pins:List (Addr×Obj)) (s:af) (σ:St) (H:Hp) (x y:V) (v u:ae) (Q:VK),Inv X pins σ H s->RelV x v->RelV y u->r x y H Q ->
  ag (ai X.prog X.w) X.A (f v u) (EP X pins σ Q) X.xe s
noncomputable def UnR(X:Cx)(f:ae->Sem ae)(r:V->Hp->VK->Prop):Prop:=
 ∀(pins:List (Addr×Obj)) (s:af) (σ:St) (H:Hp) (x:V) (v:ae) (Q:VK),Inv X pins σ H s->RelV x v->r x H Q ->
  ag (ai X.prog X.w) X.A (f v) (EP X pins σ Q) X.xe s
noncomputable def zm(X:Cx)(f:ae)(r:List V->Hp->VK->Prop):Prop:=
 ∀(pins:List (Addr×Obj)) (s:af) (σ:St) (H:Hp) (xs:List V) (us:List ae) (Q:VK),Inv X pins σ H s->Vals xs us->r xs H Q ->
  ag (ai X.prog X.w) X.A (call f us) (EP X pins σ Q) X.xe s
noncomputable def tJ(X:Cx)(r:V->Hp->(Bool->Hp->Prop)->Prop):Prop:=
 ∀(pins:List (Addr×Obj)) (s:af) (σ:St) (H:Hp) (x:V) (v:ae) (Q:Bool->Hp->Prop),Inv X pins σ H s->RelV x v->r x H Q ->
  ag (ai X.prog X.w) X.A (truthy v) (TP X pins σ Q) X.xe s
noncomputable def tOp(r:R2)(ta tb:TE):TE:=λσ H Q=>ta σ H λx H1=>tb σ H1 λy H2=>r x y H2 Q
noncomputable def tUn(r:V->Hp->VK->Prop)(ta:TE):TE:=λσ H Q=>ta σ H λx H1=>r x H1 Q
noncomputable def rI(C:Int->Int->Prop)(g:Int->Int->V):R2:=λx y H Q=>∃i j,x=.int i/\y=.int j/\C i j/\Q (g i j) H
noncomputable def rI0(g:Int->Int->V):R2:=λx y H Q=>∃i j,x=.int i/\y=.int j/\Q (g i j) H
noncomputable def rU(g:Int->V):V->Hp->VK->Prop:=λx H Q=>∃i,x=.int i/\Q (g i) H
section
variable{X:Cx}{a b c:Expr}{ta tb tc:TE}{pos:Pos}
theorem iq(ha:PE X a ta)(hb:PE X b tb){pins:List (Addr×Obj)}{s:af}{σ:St}{H:Hp}{R:V->V->Hp->Prop}(I:Inv X pins σ H s)
  (h:ta σ H λx H1=>tb σ H1 λy H2=>R x y H2) {Q:ae->af->Prop}{f:ae->ae->Sem ae}
  (hf:∀v u s2 x y H2,Inv X pins σ H2 s2->RelV x v->RelV y u->R x y H2->ag (ai X.prog X.w) X.A (f v u) Q X.xe s2) :
  ag (ai X.prog X.w) X.A (eval a X.env) (λv s₁=>ag (ai X.prog X.w) X.A (eval b X.env) (λu s₂=>ag (ai X.prog X.w) X.A (f v u) Q X.xe s₂) X.xe s₁) X.xe s:=by
 refine thn (ha pins s σ H _ I h) λv s1 ⟨x,H1,I1,r1,q1⟩=>?_
 refine thn (hb pins s1 σ H1 _ I1 q1) λu s2 ⟨y,H2,I2,r2,q2⟩=>?_
 exact hf v u s2 x y H2 I2 r1 r2 q2
theorem rp{op:Operator}{r:R2}(ho:OpR X (binaryOp op) r)(ha:PE X a ta)(hb:PE X b tb):PE X (.BinOp a op b pos) (tOp r ta tb):=by
 intro pins s σ H Q I h;exact wpAny_BinOp (iq ha hb I h λv u s2 x y H2 I2 rx ry q=>ho pins s2 σ H2 x y v u Q I2 rx ry q)
theorem sG{op:UnaryOp}{r:V->Hp->VK->Prop}(ho:UnR X (unaryOp op) r)(ha:PE X a ta):PE X (.UnaryOp op a pos) (tUn r ta):=by
 intro pins s σ H Q I h;exact UnaryOp_ (thn (ha pins s σ H _ I h) λv s1 ⟨x,H1,I1,r1,q1⟩=>ho pins s1 σ H1 x v Q I1 r1 q1)
theorem opI{f:ae->ae->Sem ae}{C:Int->Int->Prop}{g:Int->Int->Int}
  (rule:∀(i j:Int) (t u:Tok) (s:af) (Q:ae->af->Prop) (E:ae->af->Prop),C i j->Q (.int (g i j) s.toks) {s with toks:=s.toks+1}->ag (ai X.prog X.w) X.A (f (.int i t) (.int j u)) Q E s) :
  OpR X f (rI C λi j=>.int (g i j)):=by
 intro pins s σ H x y v u Q I rx ry h;obtain⟨i,j,rfl,rfl,hc,q⟩:=h;obtain⟨t,rfl⟩:=rx;obtain⟨t',rfl⟩:=ry;exact rule i j t t' s _ _ hc ⟨.int (g i j),H,I.tok _,⟨_,rfl⟩,q⟩
theorem gi{f:ae->ae->Sem ae}{g:Int->Int->Int}
  (rule:∀(i j:Int) (t u:Tok) (s:af) (Q:ae->af->Prop) (E:ae->af->Prop),Q (.int (g i j) s.toks) {s with toks:=s.toks+1}->ag (ai X.prog X.w) X.A (f (.int i t) (.int j u)) Q E s) :
  OpR X f (rI0 λi j=>.int (g i j)):=by
 intro pins s σ H x y v u Q I rx ry h;obtain⟨i,j,rfl,rfl,q⟩:=h;obtain⟨t,rfl⟩:=rx;obtain⟨t',rfl⟩:=ry;exact rule i j t t' s _ _ ⟨.int (g i j),H,I.tok _,⟨_,rfl⟩,q⟩
theorem gJ{f:ae->ae->Sem ae}{g:Int->Int->Bool}
  (rule:∀(i j:Int) (t u:Tok) (s:af) (Q:ae->af->Prop) (E:ae->af->Prop),Q (.bool (g i j)) s->ag (ai X.prog X.w) X.A (f (.int i t) (.int j u)) Q E s) :
  OpR X f (rI0 λi j=>.bl (g i j)):=by
 intro pins s σ H x y v u Q I rx ry h;obtain⟨i,j,rfl,rfl,q⟩:=h;obtain⟨t,rfl⟩:=rx;obtain⟨t',rfl⟩:=ry;exact rule i j t t' s _ _ ⟨.bl (g i j),H,I,rfl,q⟩
noncomputable def xC(i j:Int):Prop:=0<=j/\j<=1000000/\i.natAbs<2^64
noncomputable def i_(i j:Int):Prop:=(-(2^64)<i/\i<2^64)\/(-(2^64)<j/\j<2^64)
theorem i_.ok{i j:Int}(h:i_ i j):IntMulOk i j:=by
 rcases h with ⟨h1,h2⟩|⟨h1,h2⟩
 ·exact .of_left (intBits_le_64 h1 h2)
 ·exact .of_right (intBits_le_64 h1 h2)
theorem z_(k:Nat):(0:Int)<=2^k:=by
 rw[two_pow_cast];exact Int.natCast_nonneg _
theorem uZ:OpR X (binaryOp .Add) (rI0 λi j=>.int (i+j)):=gi λ_ _ _ _ _ _ _ q=>add_int q
theorem sd:OpR X (binaryOp .Sub) (rI0 λi j=>.int (i-j)):=gi λ_ _ _ _ _ _ _ q=>sub_int q
theorem yu:OpR X (binaryOp .Mult) (rI i_ λi j=>.int (i * j)):=opI λ_ _ _ _ _ _ _ hc q=>mul_int q hc.ok
theorem w6:OpR X (binaryOp .Mod) (rI (λ_ j=>0<j) λi j=>.int (i%j)):=opI λi j _ _ _ _ _ hc q=>by
 have h1:(0:Int)<j:=hc;exact mod_int' (by lia) (by rw[Int.fmod_eq_emod_of_nonneg i (by lia)];exact q)
theorem oN:OpR X (binaryOp .LShift) (rI xC λi j=>.int (i * 2^j.toNat)):=opI λ_ _ _ _ _ _ _ hc q=>lshift_int_small hc.1 hc.2.1 hc.2.2 q
theorem nU:OpR X (binaryOp .RShift) (rI (λ_ j=>0<=j) λi j=>.int (i/2^j.toNat)):=opI λi j _ _ _ _ _ hc q=>
 rshift_int hc (by rw[Int.fdiv_eq_ediv_of_nonneg i (z_ _)];exact q)
theorem wL:OpR X (binaryOp .BitAnd) (rI0 λi j=>.int (Builtin.bitAnd i j)):=gi λ_ _ _ _ _ _ _ q=>and_int q
theorem uu:OpR X (binaryOp .BitOr) (rI0 λi j=>.int (Builtin.bitOr i j)):=gi λ_ _ _ _ _ _ _ q=>or_int q
theorem unI{f:ae->Sem ae}{g:Int->Int}
  (rule:∀(i:Int) (t:Tok) (s:af) (Q:ae->af->Prop) (E:ae->af->Prop),Q (.int (g i) s.toks) {s with toks:=s.toks+1}->ag (ai X.prog X.w) X.A (f (.int i t)) Q E s) :
  UnR X f (rU λi=>.int (g i)):=by
 intro pins s σ H x v Q I rx h;obtain⟨i,rfl,q⟩:=h;obtain⟨t,rfl⟩:=rx;exact rule i t s _ _ ⟨.int (g i),H,I.tok _,⟨_,rfl⟩,q⟩
theorem mV:UnR X (unaryOp .USub) (rU λi=>.int (-i)):=unI λ_ _ _ _ _ q=>neg_int q
end
section
variable{X:Cx}{a b c:Expr}{ta tb tc:TE}{pos:Pos}
theorem gr{pins:List (Addr×Obj)}{σ:St}{H:Hp}{s:af}{Q:VK}{k k':Bool}(I:Inv X pins σ H s)(q:Q (.bl k) H)(e:k=k'):EP X pins σ Q (.bool k') s:=by
 subst e;exact⟨.bl k,H,I,rfl,q⟩
theorem yX:OpR X (aF .Lt) (rI0 λi j=>.bl (decide (i<j))):=gJ λ_ _ _ _ _ _ _ q=>lt_int q
theorem tZ:OpR X (aF .LtE) (rI0 λi j=>.bl (decide (i<=j))):=gJ λ_ _ _ _ _ _ _ q=>le_int q
theorem rO:OpR X (aF .Gt) (rI0 λi j=>.bl (decide (j<i))):=gJ λ_ _ _ _ _ _ _ q=>gt_int q
theorem sF:OpR X (aF .GtE) (rI0 λi j=>.bl (decide (j<=i))):=gJ λ_ _ _ _ _ _ _ q=>ge_int q
theorem nW:OpR X (aF .Is) (λx y H Q=>y=.non/\Q (.bl (decide (x=.non))) H):=by
 intro pins s σ H x y v u Q I rx ry h;obtain⟨rfl,q⟩:=h;cases ry;refine is_none_gen (gr I q ?_);cases x<;>first
  | (cases rx;rfl)
  | (obtain⟨t,rfl⟩:=rx;rfl)
theorem sZ:OpR X (aF .IsNot) (λx y H Q=>y=.non/\Q (.bl (!decide (x=.non))) H):=by
 intro pins s σ H x y v u Q I rx ry h;obtain⟨rfl,q⟩:=h;cases ry;refine isnot_none_gen (gr I q ?_);cases x<;>first
  | (cases rx;rfl)
  | (obtain⟨t,rfl⟩:=rx;rfl)
theorem OpR.or{f:ae->ae->Sem ae}{r r':R2}(h:OpR X f r)(h':OpR X f r'):OpR X f (λx y H Q=>r x y H Q\/r' x y H Q):=by
 intro pins s σ H x y v u Q I rx ry q;rcases q with q|q
 ·exact h pins s σ H x y v u Q I rx ry q
 ·exact h' pins s σ H x y v u Q I rx ry q
theorem yr{op:CmpOp}{r:R2}(ho:OpR X (aF op) r)(ha:PE X a ta)(hb:PE X b tb)(hm:behindInMarks op b=false):PE X (.Compare a [op] [b] pos) (tOp r ta tb):=by
 intro pins s σ H Q I h;exact wpAny_Compare1 (iq ha hb I h λv u s2 x y H2 I2 rx ry q=>ho pins s2 σ H2 x y v u Q I2 rx ry q) hm
noncomputable def hW(t:TE):TT:=λσ H Q=>t σ H λx H'=>∃k,x=.bl k/\Q k H'
theorem tO{op:CmpOp}{r:R2}(ho:OpR X (aF op) r)(ha:PE X a ta)(hb:PE X b tb)(hm:behindInMarks op b=false):PT X (.Compare a [op] [b] pos) (hW (tOp r ta tb)):=by
 intro pins s σ H Q I h;refine wpAny_isTrue_Compare1 (thn (ha pins s σ H _ I h) λv s1 ⟨x,H1,I1,r1,q1⟩=>thn (hb pins s1 σ H1 _ I1 q1) λu s2 ⟨y,H2,I2,r2,q2⟩=>
  thn (ho pins s2 σ H2 x y v u _ I2 r1 r2 q2) λc s3 ⟨z,H3,I3,r3,k,e,q3⟩=>?_) hm
 subst e;cases r3;exact a8 ⟨H3,I3,q3⟩
noncomputable def jy(r r':R2)(ta tb tc:TE):TE:=λσ H Q=>ta σ H λx H1=>tb σ H1 λy H2=>r x y H2 λz H3=>∃k,z=.bl k /\
 (if k=true then tc σ H3 λw' H4=>r' y w' H4 Q else Q (.bl false) H3)
theorem xE{op op':CmpOp}{r r':R2}(ho:OpR X (aF op) r)(ho':OpR X (aF op') r')(ha:PE X a ta)(hb:PE X b tb)(hc:PE X c tc)
  (hm:lastMarks [op,op'] [b,c]=false:=by with_unfolding_all rfl):PE X (.Compare a [op,op'] [b,c] pos) (jy r r' ta tb tc):=by
 intro pins s σ H Q I h;refine Compare_chain (thn (ha pins s σ H _ I h) λv s1 ⟨x,H1,I1,r1,q1⟩=>chain_link (thn (hb pins s1 σ H1 _ I1 q1) λu s2 ⟨y,H2,I2,r2,q2⟩=>
  thn (ho pins s2 σ H2 x y v u _ I2 r1 r2 q2) λd s3 ⟨z,H3,I3,r3,k,e,q3⟩=>?_)) hm
 subst e;cases r3;refine a8 ?_;cases k with
 |false=>exact ite_ff ⟨.bl false,H3,I3,rfl,q3⟩
 |true=>exact ite_tt (chain_last (thn (hc pins s3 σ H3 _ I3 q3) λw' s4 ⟨z',H4,I4,r4,q4⟩=>ho' pins s4 σ H4 y z' u w' Q I4 r2 r4 q4))
theorem Af{op op':CmpOp}{r r':R2}(ho:OpR X (aF op) r)(ho':OpR X (aF op') r')(ha:PE X a ta)(hb:PE X b tb)(hc:PE X c tc)
  (hm:lastMarks [op,op'] [b,c]=false:=by with_unfolding_all rfl):PT X (.Compare a [op,op'] [b,c] pos) (hW (jy r r' ta tb tc)):=by
 intro pins s σ H Q I h;refine isTrue_chain (thn (ha pins s σ H _ I h) λv s1 ⟨x,H1,I1,r1,q1⟩=>test_link (thn (hb pins s1 σ H1 _ I1 q1) λu s2 ⟨y,H2,I2,r2,q2⟩=>
  thn (ho pins s2 σ H2 x y v u _ I2 r1 r2 q2) λd s3 ⟨z,H3,I3,r3,k,e,q3⟩=>?_)) hm
 subst e;cases r3;refine a8 ?_;cases k with
 |false=>
  obtain⟨k',e',q'⟩:=q3;cases e';exact ite_ff ⟨H3,I3,q'⟩
 |true=>
  refine ite_tt (test_last (thn (hc pins s3 σ H3 _ I3 q3) λw' s4 ⟨z',H4,I4,r4,q4⟩=>thn (ho' pins s4 σ H4 y z' u w' _ I4 r2 r4 q4) λd' s5 ⟨z2,H5,I5,r5,k2,e2,q5⟩=>?_));subst e2;cases r5;exact a8 ⟨H5,I5,q5⟩
noncomputable def iM(K:ao)(x:V)(H:Hp)(k:Bool):Prop:=
 match x with
 | .non=>k=false
 | .bl b=>k=b
 | .int i=>k=(i != 0)
 | .str y=>y.length<=az/\k=((y.length:Int) != 0)
 | .byt y=>y.size<=az/\k=((y.size:Int) != 0)
 | .ref p=>(∃xs,SqL K H p xs/\k = !xs.isEmpty)\/(∃xs,SqT K H p xs/\k = !xs.isEmpty)\/∃kvs,H p=some (.dK kvs)/\k = !kvs.isEmpty
 |_=>False
theorem uy{κ:Type}{kvs:List (κ×V)}{vs:List (κ×ae)}(r:KV kvs vs):(!vs.isEmpty) = !kvs.isEmpty:=by
 cases r<;>rfl
theorem j7{xs:List V}{its:List ae}(r:Vals xs its):(!its.toArray.isEmpty) = !xs.isEmpty:=by
 cases r<;>simp
theorem fo:(az:Nat)<2^63:=by rw[bp];decide
theorem yW:tJ X (λx H Q=>∃k,iM X.K x H k/\Q k H):=by
 intro pins s σ H x v Q I rx h;obtain⟨k,e,q⟩:=h;have hl:=fo;have hs:az=16777216:=bp;cases x with
 |non=>
  cases rx;have e':k=false:=e;subst e';exact truthy_none ⟨H,I,q⟩
 |bl b=>
  cases rx;have e':k=b:=e;subst e';exact a8 ⟨H,I,q⟩
 |int i=>
  obtain⟨t,rfl⟩:=rx;have e':k=(i != 0):=e;subst e';exact PySem.P.truthy_int ⟨H,I,q⟩
 |str y=>
  obtain⟨t,rfl⟩:=rx;obtain⟨hy,e'⟩:y.length<=az/\k=((y.length:Int) != 0):=e;subst e';exact PySem.P.truthy_str (by lia) ⟨H,I.tok _,q⟩
 |byt y=>
  obtain⟨t,rfl⟩:=rx;obtain⟨hy,e'⟩:y.size<=az/\k=((y.size:Int) != 0):=e;subst e';exact PySem.W.truthy_bytes (by lia) ⟨H,I.tok _,q⟩
 |ref p=>
  cases rx;have e':(∃xs,SqL X.K H p xs/\k = !xs.isEmpty)\/(∃xs,SqT X.K H p xs/\k = !xs.isEmpty)\/∃kvs,H p=some (.dK kvs)/\k = !kvs.isEmpty:=e;rcases e' with ⟨xs,hx,e'⟩|⟨xs,hx,e'⟩|⟨kvs,hx,e'⟩
  ·subst e';obtain⟨its,r,pl,hz⟩:=I.list hx;have hlen:=r.length;exact wpAny_truthy_list pl.isList (by simp only[aJ];lia) ⟨H,I.tok _,by rw[j7 r];exact q⟩
  ·subst e';obtain⟨its,r,pl,hz⟩:=I.tuple hx;have hlen:=r.length;exact truthy_tuple pl (by simp only[aJ];lia) ⟨H,I.tok _,by rw[j7 r];exact q⟩
  ·subst e';obtain⟨hz,hS,vs,r,m⟩:kvs.length<=az/\(p==sysModules)=false/\∃vs,KV kvs vs/\s.heap.DictOf (zp X.prog X.w) p vs:=I.hok p _ hx;have hlen:kvs.length=vs.length:=Paired.length r;exact wpAny_truthy_dict hS m (by lia) ⟨H,I.tok _,by rw[uy r];exact q⟩
 |_=>exact(show False from e).elim
theorem vj(ha:PE X a ta)(he:∀whole,isTrue a X.env whole=(do let v <-whole;standAt a.pos;holding [v] (truthy v))) :
  PT X a (λσ H Q=>ta σ H λx H'=>∃k,iM X.K x H' k/\Q k H'):=by
 intro pins s σ H Q I h;exact isTrue_plain (thn (ha pins s σ H _ I h) λv s1 ⟨x,H1,I1,r1,q1⟩=>yW pins s1 σ H1 x v Q I1 r1 q1) (he _)
theorem vals1{x:V}{us:List ae}(r:Vals [x] us):∃u,us=[u]/\RelV x u:=by
 cases r with
 |cons r1 r2=>cases r2;exact⟨_,rfl,r1⟩
theorem vals2{x y:V}{us:List ae}(r:Vals [x,y] us):∃u w',us=[u,w']/\RelV x u/\RelV y w':=by
 cases r with
 |cons r1 r2=>
  cases r2 with
  |cons r3 r4=>cases r4;exact⟨_,_,rfl,r1,r3⟩
theorem rT(hc:X.calm=true):zm X (.builtin "max") (λxs H Q=>∃i j,xs=[.int i,.int j]/\Q (.int (if j>i then j else i)) H):=by
 intro pins s σ H xs us Q I r h;obtain⟨i,j,rfl,q⟩:=h;obtain⟨u,w',rfl,⟨t,rfl⟩,⟨t',rfl⟩⟩:=vals2 r;refine max_two_ints (I.ok.hd hc) λh' tk k=>⟨_,H,I.kept k,?_,q⟩
 by_cases hj:j>i
 ·rw[if_pos hj,if_pos hj];exact⟨_,rfl⟩
 ·rw[if_neg hj,if_neg hj];exact⟨_,rfl⟩
theorem oQ(hc:X.calm=true):zm X (.builtin "min") (λxs H Q=>∃i j,xs=[.int i,.int j]/\Q (.int (if j<i then j else i)) H):=by
 intro pins s σ H xs us Q I r h;obtain⟨i,j,rfl,q⟩:=h;obtain⟨u,w',rfl,⟨t,rfl⟩,⟨t',rfl⟩⟩:=vals2 r;refine min_two_ints (I.ok.hd hc) λh' tk k=>⟨_,H,I.kept k,?_,q⟩
 by_cases hj:j<i
 ·rw[if_pos hj,if_pos hj];exact⟨_,rfl⟩
 ·rw[if_neg hj,if_neg hj];exact⟨_,rfl⟩
theorem pR:zm X (.type "int") (λxs H Q=>(∃i,xs=[.int i]/\Q (.int i) H)\/∃k,xs=[.bl k]/\Q (.int (if k then 1 else 0)) H):=by
 intro pins s σ H xs us Q I r h;rcases h with ⟨i,rfl,q⟩|⟨k,rfl,q⟩
 ·obtain⟨u,rfl,t,rfl⟩:=vals1 r;exact call_int_int ⟨.int i,H,I,⟨_,rfl⟩,q⟩
 ·obtain⟨u,rfl,r1⟩:=vals1 r;cases r1;exact call_int_bool ⟨.int (if k then 1 else 0),H,I.tok _,⟨_,rfl⟩,q⟩
end
structure iU(h:Heap)(x dx C:Addr)(mA:Str->Option ae):Prop where
 obj:h.get? x=some (PySem.W.instObj C dx)
 ns:h.Ns1 dx mA
 ne:dx≠x
theorem ye{h:Heap}{dx:Addr}{mA:Str->Option ae}(n:h.Ns1 dx mA):∃od,h.get? dx=some od/\∀name,PySem.W.lookIn name od=some (mA name):=by
 obtain⟨o,es,ep,ho,hd,hk,_,hm⟩:=n;refine⟨o,ho,λname=>?_⟩;have e:=hm name;unfold nsFind findBy at e;rw[<-Array.find?_toList]at e;unfold PySem.W.lookIn;rw[hd];dsimp only;split
 ·rename_i y q
  rw[q]at e;exact congrArg some e
 ·rename_i q
  rw[q]at e;have a:es.toList.any (·.refKey)=false:=by
   rw[List.any_eq_false];intro y hy;obtain⟨z,t,hkey⟩:=hk y (Array.mem_toList_iff.mp hy);simp[DictEntry.refKey,hkey]
  have a':¬ es.toList.any (·.refKey)=true:=by rw[a];exact bZ
  rw[if_neg a'];exact congrArg some e
theorem iU.look{h:Heap}{x dx C:Addr}{mA:Str->Option ae}(I:iU h x dx C mA):∃od,PySem.W.InstAt h x (PySem.W.instObj C dx) C (some od)/\∀name,PySem.W.lookIn name od=some (mA name):=
 let ⟨od,ho,hl⟩:=ye I.ns
 ⟨od,⟨I.obj,rfl,rfl,ho⟩,hl⟩
section
variable{prog:aq}{w:aj}{A:ar}{E:ae->af->Prop}{s:af}{K:ao}{x dx C f:Addr}{mA:Str->Option ae}{name:Str}{v:ae}
end
theorem bY.some_of{v:V}{o:Option ae}(r:bY (some v) o):∃u,o=some u/\RelV v u:=by
 cases o with
 |none=>exact(show False from r).elim
 |some u=>exact⟨u,rfl,r⟩
section
variable{P:aq}{w:aj}{H H':Hp}{h h':Heap}{a C dx:Addr}{fs fs':List (Str×V)}
theorem sV(hok:HOk P w H h)(e:H a=some (.ins C dx fs)):∃mA,iU h a dx C mA/\(∀f,bY (fs.lookup f) (mA f))/\PySem.Within mA (fs.map (·.1))/\fs.length<=1000/\H dx=some (.own a):=by
 obtain⟨d,z,ne,ob,mA,n,r,q⟩:=(show zx P w H h a (.ins C dx fs)from hok a _ e)
 exact⟨mA,⟨ob,n,ne⟩,r,q,z,d⟩
end
structure Cls(K:ao)(C:Addr):Prop where
 pg:PySem.W.plainGet K C Str.empty=true
 hd:PySem.W.hasDictIn K C=true
 po:PySem.W.plainOver K C=true
 sa:PySem.W.findIn K (.ref C) "__setattr__" = some (some (.builtin "object.__setattr__"))
theorem Cls.get{K:ao}{C:Addr}(c:Cls K C)(f:Str):PySem.W.plainGet K C f=true:=c.pg
section
variable{X:Cx}{pins:List (Addr×Obj)}{σ:St}{H:Hp}{s:af}{a C dx:Addr}{fs:List (Str×V)}{f:Str}{v:V}{A:ar}{E:ae->af->Prop}
end
section
variable{X:Cx}{o e value:Expr}{f:Str}{pos pos' tpos:Pos}{ta tv:TE}
end
section
variable{X:Cx}{pins:List (Addr×Obj)}{σ:St}{H:Hp}{s:af}{A:ar}{E:ae->af->Prop}{Q:ae->af->Prop}{c:ae}{b:Bool}
inductive b_(K:ao)(H:Hp):V->ae->Prop where
 |non:b_ K H .non (.type "NoneType")
 |bl (x:Bool):b_ K H (.bl x) (.type "bool")
 |int (i:Int):b_ K H (.int i) (.type "int")
 |str (x:Str):b_ K H (.str x) (.type "str")
 |flt (x:UInt64):b_ K H (.flt x) (.type "float")
 |lst {a:Addr}{xs:List V} (e:H a=some (.lst xs)):b_ K H (.ref a) (.type "list")
 |frz {a:Addr}{o:Obj}{xs:List V} (e:H a=some (.frz o (.lst xs))):b_ K H (.ref a) (.type "list")
 |tup {a:Addr}{xs:List V} (e:H a=some (.tup xs)):b_ K H (.ref a) (.type "tuple")
 |dK {a:Addr}{kvs:List (Key×V)} (e:H a=some (.dK kvs)):b_ K H (.ref a) (.type "dict")
 |dT {a:Addr}{kvs:List (List Key×V)} (e:H a=some (.dT kvs)):b_ K H (.ref a) (.type "dict")
 |ins {a C dx:Addr}{fs:List (Str×V)} (e:H a=some (.ins C dx fs)) (cl:Cls K C) (ha:PySem.W.findIn K (.ref C) "__class__" = some (some (.builtin "object.__class__")))
   (hn:PySem.W.specialIn K (.builtin "object.__class__") "__get__" = some (some (.builtin "getset_descriptor.__get__"))) (htk:PySem.W.takesIn K (.builtin "object.__class__")=some true)
   (hm:PySem.W.mroIn K C (.type "object")=some true):b_ K H (.ref a) (.ref C)
theorem eN{x:V}{u t:ae}(I:Inv X pins σ H s)(rx:RelV x u)(ty:b_ X.K H x t)(e:bh X.K t c=some b)(h:∀tk,Q (.bool b) {s with toks:=tk}) :
  ag (ai X.prog X.w) A (call (.builtin "isinstance") [u,c]) Q E s:=by
 cases ty with
 |non=>cases (show u=ae.none from rx);exact a_ PySem.W.kitx_none I.kIn True.intro e (λz=>nomatch z) h
 |bl y=>cases (show u=ae.bool y from rx);exact a_ PySem.W.kitx_bool I.kIn True.intro e (λz=>nomatch z) h
 |int i=>obtain⟨t,q⟩:=(show ∃t,u=ae.int i t from rx);cases q;exact a_ PySem.W.kitx_int I.kIn True.intro e (λz=>nomatch z) h
 |str y=>obtain⟨t,q⟩:=(show ∃t,u=ae.str y t from rx);cases q;exact a_ PySem.W.kitx_str I.kIn True.intro e (λz=>nomatch z) h
 |flt y=>obtain⟨t,q⟩:=(show ∃t,u=ae.float y t from rx);cases q;exact a_ PySem.W.kitx_float I.kIn True.intro e (λz=>nomatch z) h
 | @lst a xs ea=>
  cases (show u=aG a from rx);obtain⟨_,_,n,_,h1⟩:=(show zx X.prog X.w H s.heap a (.lst xs)from I.hok a _ ea)
  exact a_ PySem.W.kitx_list I.kIn ⟨_,h1,rfl⟩ e (λz=>nomatch z) h
 | @frz a ob xs ea=>
  cases (show u=aG a from rx);obtain⟨_,_,_,n,_,h1⟩:=(show zx X.prog X.w H s.heap a (.frz ob (.lst xs))from I.hok a _ ea)
  exact a_ PySem.W.kitx_list I.kIn ⟨_,h1,rfl⟩ e (λz=>nomatch z) h
 | @tup a xs ea=>
  cases (show u=aG a from rx);obtain⟨_,_,_,p⟩:=(show zx X.prog X.w H s.heap a (.tup xs)from I.hok a _ ea)
  obtain⟨o,h1,h2,_⟩:=p;exact a_ PySem.W.kitx_tuple I.kIn ⟨o,h1,h2⟩ e (λz=>nomatch z) h
 | @dK a kvs ea=>
  cases (show u=aG a from rx);obtain⟨_,_,vs,_,p⟩:=(show zx X.prog X.w H s.heap a (.dK kvs)from I.hok a _ ea)
  obtain⟨o,es,ep,h1,h2,_⟩:=p;exact a_ PySem.W.kitx_dict I.kIn ⟨o,h1,h2.1⟩ e (λz=>nomatch z) h
 | @dT a kvs ea=>
  cases (show u=aG a from rx);obtain⟨_,_,xs,_,o,es,ep,h1,h2,_⟩:=(show zx X.prog X.w H s.heap a (.dT kvs)from I.hok a _ ea)
  exact a_ PySem.W.kitx_dict I.kIn ⟨o,h1,h2.1⟩ e (λz=>nomatch z) h
 | @ins a C dx fs ea cl ha hn htk hm=>
  cases (show u=aG a from rx);obtain⟨mA,O,_⟩:=sV I.hok ea;obtain⟨od,J,_⟩:=O.look;exact a_ (PySem.W.kitx_own (cl.get _) cl.hd ha hn htk hm) I.kIn J e (λz=>nomatch z) h
end
structure bQ(k:Nat)(A:ar):Prop where
 hd:A.handled=none
 dp:A.depth+3 * k+5<recursionLimit
 un:A.units+16 * k+200<cLine
theorem bQ.deeper{k:Nat}{A:ar}(r:bQ (k+1) A)(env:Env):bQ k (A.deeper env):=
 ⟨r.hd,by have:=r.dp;show A.depth+1+3 * k+5<_;lia,by have:=r.un;show A.units+3+16 * k+200<_;lia⟩
theorem bQ.depth{k:Nat}{A:ar}(r:bQ k A):A.depth<recursionLimit:=by have:=r.dp;lia
theorem bQ.units{k:Nat}{A:ar}(r:bQ k A):A.units+64<cLine:=by have:=r.un;lia
noncomputable def fV:TA:=λ_ H Q=>Q [] H
noncomputable def fB(ta:TE)(tr:TA):TA:=λσ H Q=>ta σ H λx H1=>tr σ H1 λxs H2=>Q (x::xs) H2
section
variable{X:Cx}{e:Expr}{es:List Expr}{te:TE}{t:TA}{pos:Pos}
theorem cx:PA X [] fV:=λ_ _ _ _ H Q I h=>Calls.spliced_nil ⟨[],H,I,.nil,h⟩
theorem zJ(ha:PE X e te)(hr:PA X es t)(hs:aH (e::es) X.env=(false,eval e X.env)::aH es X.env:=by rfl):PA X (e::es) (fB te t):=by
 intro pos pins s σ H Q I h;rw[hs];show ag _ _ (spliced ((false,eval e X.env)::backTo pos (aH es X.env))) _ _ s;refine Calls.spliced_cons (thn (ha pins s σ H _ I h) λu s1 ⟨x,H1,I1,r1,q1⟩=>?_);exact thn (hr pos pins s1 σ H1 _ I1 q1) λus s2 ⟨xs,H2,I2,r2,q2⟩=>⟨x::xs,H2,I2,.cons r1 r2,q2⟩
noncomputable def uQ(t:TA):TE:=λσ H Q=>t σ H λxs H1=>xs.length<=az/\∀p,H1 p=none->Q (.ref p) (upd H1 p (.tup xs))
noncomputable def yx(t:TA):TE:=λσ H Q=>t σ H λxs H1=>xs.length<=az/\∀p,H1 p=none->Q (.ref p) (upd H1 p (.lst xs))
theorem wQ{x1}(h:PA X es t):PE X (.Tuple es x1 pos) (uQ t):=by
 intro pins s σ H Q I hq;refine wpAny_Tuple_spliced (thn (h pos pins s σ H _ I hq) λus s1 ⟨xs,H1,I1,r,z,q⟩=>⟨by rw[<-r.length];exact z,?_⟩);have hf:H1 s1.heap.objs.size=none:=I1.hok.fresh (aA _);refine⟨.ref s1.heap.objs.size,upd H1 s1.heap.objs.size (.tup xs),I1.laid (t':=s1.toks) (λb u e=>Heap.get?_push_of_some _ e) (aA _) ?_,rfl,q _ hf⟩;exact⟨z,us,r,⟨_,Heap.get?_push_size _ rfl,rfl,_,rfl⟩⟩
theorem oA(h:PA X es t):PE X (.List es pos) (yx t):=by
 intro pins s σ H Q I hq;refine wpAny_List_spliced (thn (h pos pins s σ H _ I hq) λus s1 ⟨xs,H1,I1,r,z,q⟩=>⟨by rw[<-r.length];exact z,?_⟩);have hf:H1 s1.heap.objs.size=none:=I1.hok.fresh (aA _);refine⟨.ref s1.heap.objs.size,upd H1 s1.heap.objs.size (.lst xs),I1.laid (t':=s1.toks) (λb u e=>Heap.get?_push_of_some _ e) (aA _) ?_,rfl,q _ hf⟩;exact⟨z,us,0,r,Heap.get?_push_size _ rfl⟩
end
abbrev Sp:=List V->Hp->VK->XK->Prop
abbrev CXT:=List Env->Hp->af->XK->ae->af->Prop
structure ff(P:aq)(w:aj)(K:ao)(mg:Str->Option ae)(base:Heap)(A:ar)(outer:List Env)(s:af)(H:Hp):Prop where
 frames:A.frames=some outer
 mod:Mod K mg base
 bs:∀b o,base.get? b=some o->s.heap.get? b=some o/\H b=none
 bsz:base.objs.size<=s.heap.objs.size
 funs:s.heap.FunFrames base outer
 frf:∀b∈frs outer,H b=none
 hok:HOk P w H s.heap
 bare:AllBare s.gens
noncomputable def CE(outer:List Env)(P:aq)(w:aj)(H:Hp)(s:af)(Q:VK)(u:ae)(s':af):Prop:=
 ∃v H',s'.os=s.os/\AllBare s'.gens/\Un (frs outer) [] H H' s.heap s'.heap/\HOk P w H' s'.heap/\RelV v u/\Q v H'
noncomputable def CR(CX:CXT)(outer:List Env)(P:aq)(w:aj)(H:Hp)(s:af)(Q:VK)(E:XK)(r:Result)(s':af):Prop:=
 match r with
 | .ok (.ret u)=>CE outer P w H s Q u s'
 | .ok _=>False
 | .error e=>CX outer H s E e s'
structure du(P:aq)(w:aj)(K:ao)(mg:Str->Option ae)(base:Heap)(CX:CXT)(k:Nat)(f:Addr)(fd:FuncData)(ps:List Str)(sp:Sp):Prop where
 len:∀vs H Q E,sp vs H Q E->vs.length=ps.length
 run:∀(A:ar) (outer:List Env) (s:af) (H:Hp) (args:Args) (us:List ae) (vs:List V) (Q:VK) (E:XK),bQ k A->ff P w K mg base A outer s H->BindsTo s fd args (ps.zip us)->Vals vs us->sp vs H Q E ->
  codeAny (ai P w) A (.call (.ref f) args) (CR CX outer P w H s Q E) s
section
variable{X:Cx}{pins:List (Addr×Obj)}{σ:St}{H:Hp}{s s':af}
theorem Inv.env0(I:Inv X pins σ H s):ff X.prog X.w X.K X.mg X.base X.A X.stack s H:=
 ⟨I.ok.frames,I.ok.mod,I.bs,a5 I.ok.bsz I.sz,I.stack,I.stkFree,I.hok,I.bare⟩
theorem Inv.after{Q:VK}{u:ae}(I:Inv X pins σ H s)(h:CE X.stack X.prog X.w H s Q u s'):EP X pins σ Q u s':=by
 obtain⟨v,H',os,bare,un,hok,r,q⟩:=h;obtain⟨hh,g,d,t,os'⟩:=s';obtain rfl:os'=s.os:=os;exact⟨v,H',I.call (h':=hh) (g':=g) (d':=d) (t':=t) (ch:=[]) un hok bare (λb z=>absurd z (by simp)),r,q⟩
end
noncomputable def iQ(sp:Sp)(dvs:List V)(E:XK)(t:TA):TE:=λσ H Q=>t σ H λvs H1=>sp (vs++dvs) H1 Q E
noncomputable def Binds(K:ao)(fd:FuncData)(ps:List Str)(ds:List ae):Prop:=
 ∀(s:af) (us:List ae),K.In s.heap->(us++ds).length=ps.length->BindsTo s fd ⟨us,[]⟩ (ps.zip (us++ds))
theorem Binds.all{K:ao}{fd:FuncData}{ps:List Str}(h:∀us:List ae,us.length=ps.length->bindArgs fd ⟨us,[]⟩=pure (ps.zip us)):Binds K fd ps []:=λs us _ hl=>by
 rw[List.append_nil]at hl ⊢;exact .of_eq (h us hl)
noncomputable def Passes(CX:CXT)(X:Cx)(E:XK):Prop:=∀(pins:List (Addr×Obj)) (σ:St) (H:Hp) (s:af) (e:ae) (s':af),Inv X pins σ H s->CX X.stack H s E e s'->X.xe e s'
section
variable{X:Cx}{CX:CXT}{k:Nat}{f C:Addr}{fd:FuncData}{ps:List Str}{sp:Sp}{dvs:List V}{ds:List ae}{E:XK}{x m:Str}{p pos apos:Pos}{e o:Expr}{es:List Expr}{ta:TE}{t:TA}
theorem xB{pins:List (Addr×Obj)}{σ:St}{H:Hp}{s:af}{Q:VK}{us:List ae}{vs:List V}(F:du X.prog X.w X.K X.mg X.base CX k f fd ps sp)(hr:bQ k X.A)(hb:Binds X.K fd ps ds)(hd:Vals dvs ds)(hx:Passes CX X E)
  (I:Inv X pins σ H s) (r:Vals vs us) (h:sp (vs++dvs) H Q E):ag (ai X.prog X.w) X.A (call (.ref f) us) (EP X pins σ Q) X.xe s:=by
 have r2:Vals (vs++dvs) (us++ds):=r.append hd;have hl:(us++ds).length=ps.length:=by rw[<-r2.length];exact F.len _ _ _ _ h
 refine wpAny_call (codeAny_mono (F.run X.A X.stack s H ⟨us,[]⟩ (us++ds) (vs++dvs) Q E hr I.env0 (hb s us I.kIn hl) r2 h) λr s' hq=>?_);cases r with
 |error e=>exact hx pins σ H s e s' I hq
 |ok fl=>
  cases fl with
  |ret u=>exact I.after hq
  |next=>exact aM hq
  |brk=>exact aM hq
  |cont=>exact aM hq
theorem rV(F:du X.prog X.w X.K X.mg X.base CX k f fd ps sp)(hr:bQ k X.A)(hg:Gl X x)(hm:X.mg x=some (.ref f))(hk:bT X.K (.ref f)=true)(hb:Binds X.K fd ps ds)(hd:Vals dvs ds)(hx:Passes CX X E)
  (ha:PA X (e::es) t) (hdb:(x==("__debug__" : Str))=false:=by decide) (he:aH (e::es) X.env=(false,eval e X.env)::aH es X.env:=by rfl) (hpl:(backTo pos (aH es X.env)).any (·.1)=false:=by rfl) :
  PE X (.Call (.Name x p) (e::es) [] pos) (iQ sp dvs E t):=by
 intro pins s σ H Q I h;refine wpAny_Call_Name_kw (jf I hg hm ?_ hdb);refine PySem.W.callWith_K (h₀:=X.base) I.ok.mod.kin hk (thn (ha pos pins s σ H _ I h) λus s1 ⟨vs,H1,I1,r,q⟩=>⟨I1.kIn,?_⟩) he hpl;exact xB F hr hb hd hx I1 r q
end
section
variable{X:Cx}{CX:CXT}{k:Nat}{f C:Addr}{fd:FuncData}{ps ks:List Str}{sp:Sp}{E:XK}{x m:Str}{p pos apos kpos:Pos}{e o:Expr}{es:List Expr}{kws:List Keyword}{te ta:TE}{t tk:TA}{nm:Option Str}
variable{g:List ae->List ae->List ae}{gV:List V->List V->List V}
end
structure eX(N P:List Str)(sc:aI):Prop where
 kind:sc.kind=.function
 co:sc.isCoroutine=false
 gen:sc.isGenerator=false
 nd:N.Nodup
 pre:N.take P.length=P
 par:∀x∈P,sc.names.lookup x=some .local\/sc.names.lookup x=some .cell
 nofree:∀y∈sc.names,y.2≠.free
theorem lh{kindOf:Str->Option aD}{x:Str}:∀{binds:List (Str×ae)}{m:Str->Option ae},(∀v,(x,v)∉binds)->bindL kindOf binds m x=m x
 | [],_,_=>rfl
 | (n,v)::r,m,h=>by
  unfold bindL;rw[lh λw hw=>h w (aO _ hw)];split
  ·have:x≠n:=by rintro rfl;exact h v aP
   simp[this]
  ·rfl
theorem k6{kindOf:Str->Option aD}{x:Str}:∀{binds:List (Str×ae)}{m:Str->Option ae},(∀v,(x,v)∉binds)->bindC kindOf binds m x=m x
 | [],_,_=>rfl
 | (n,v)::r,m,h=>by
  unfold bindC;rw[k6 λw hw=>h w (aO _ hw)];split
  ·rfl
  ·have:x≠n:=by rintro rfl;exact h v aP
   simp[this]
theorem jt{kindOf:Str->Option aD}{x:Str}{v:ae}:∀{P:List Str}{vs:List ae}{i:Nat}{m:Str->Option ae},P.Nodup->P[i]? = some x->vs[i]? = some v->kindOf x=some .local ->
  bindL kindOf (P.zip vs) m x=some v
 | [],_,_,_,_,h,_,_=>by simp at h
 |_::_,[],_,_,_,_,h,_=>by simp at h
 |p::P,w::vs,0,m,nd,h1,h2,hk=>by
  simp at h1 h2;subst h1;subst h2;show bindL kindOf ((p,w)::P.zip vs) m p=_;unfold bindL;rw[lh λv hv=>(List.nodup_cons.mp nd).1 (List.of_mem_zip hv).1,if_pos hk];simp
 |p::P,w::vs,i+1,m,nd,h1,h2,hk=>by
  show bindL kindOf ((p,w)::P.zip vs) m x=_;unfold bindL;exact jt (i:=i) (List.nodup_cons.mp nd).2 (by simpa using h1) (by simpa using h2) hk
theorem mG{kindOf:Str->Option aD}{x:Str}{v:ae}:∀{P:List Str}{vs:List ae}{i:Nat}{m:Str->Option ae},P.Nodup->P[i]? = some x->vs[i]? = some v->kindOf x≠some .local ->
  bindC kindOf (P.zip vs) m x=some v
 | [],_,_,_,_,h,_,_=>by simp at h
 |_::_,[],_,_,_,_,h,_=>by simp at h
 |p::P,w::vs,0,m,nd,h1,h2,hk=>by
  simp at h1 h2;subst h1;subst h2;show bindC kindOf ((p,w)::P.zip vs) m p=_;unfold bindC;rw[k6 λv hv=>(List.nodup_cons.mp nd).1 (List.of_mem_zip hv).1,if_neg hk];simp
 |p::P,w::vs,i+1,m,nd,h1,h2,hk=>by
  show bindC kindOf ((p,w)::P.zip vs) m x=_;unfold bindC;exact mG (i:=i) (List.nodup_cons.mp nd).2 (by simpa using h1) (by simpa using h2) hk
noncomputable def start(N:List Str)(vs:List V):St:=vs.map some++bM (N.length-vs.length) none
noncomputable def cX(CX:CXT)(P:aq)(w:aj)(K:ao)(mg:Str->Option ae)(base:Heap)(N:List Str)(qual:Str)(scope:aI)(f:Addr)(cd:ae)(A:ar)(outer:List Env)(s:af)(H:Hp)(E:XK):Cx where
 prog:=P
 w:=w
 K:=K
 mg:=mg
 base:=base
 A:=A.deeper (envOfC qual scope s.heap.objs.size f cd)
 N:=N
 s₀:=s
 H₀:=H
 env:=envOfC qual scope s.heap.objs.size f cd
 outer:=outer
 stack:=envOfC qual scope s.heap.objs.size f cd::outer
 ex:=[]
 calm:=true
 fn:=λ_=>true
 pn:=[]
 xe:=λe s'=>ag (ai P w) (A.deeper (envOfC qual scope s.heap.objs.size f cd)) (leaving (envOfC qual scope s.heap.objs.size f cd) e) (λ_ s''=>CX outer H s E e s'') (λe' s''=>CX outer H s E e' s'') s'
theorem fW{sc:aI}{n:Nat}{x:Str}(h:sc.names.lookup x=some .cell):∃c,(aQ n sc.names []).lookup x=some c:=by
 have q:=PySem.W.cellsFrom_some sc.names n [] (.inl h);exact Option.isSome_iff_exists.mp q
theorem tm{CX:CXT}{P:aq}{w:aj}{K:ao}{mg:Str->Option ae}{base:Heap}{N ps:List Str}{qual:Str}{scope:aI}{f:Addr}{cd:ae}{A:ar}{outer:List Env}{s s1:af}{H:Hp}{E:XK}{us:List ae}{vs:List V}
  (S:eX N ps scope) (hd:A.handled=none) (e0:ff P w K mg base A outer s H) (hl:vs.length=ps.length) (r:Vals vs us)
  (x:InCallC s s.heap.objs.size (bindL (envOfC qual scope s.heap.objs.size f cd).kindOf (ps.zip us) λ_=>none) (aQ (s.heap.objs.size+1) scope.names []) (bindC (envOfC qual scope s.heap.objs.size f cd).kindOf (ps.zip us) λ_=>none) s1) :
  Inv (cX CX P w K mg base N qual scope f cd A outer s H E) [] (start N vs) H s1:=by
 have hpl:ps.length<=N.length:=by have:=congrArg List.length S.pre;rw[List.length_take]at this;lia
 obtain⟨h1,tk,rfl,hk⟩:=x.done;have noA:∀b:Addr,b∉(cX CX P w K mg base N qual scope f cd A outer s H E).ex:=λb z=>absurd (show b∈([]:List Addr)from z) (by simp)
 refine⟨⟨e0.mod,S.kind,rfl,rfl,aA _,λy z c h1 h2=>?_,λy hy=>?_,λy c _ h=>?_,λ_=>hd,ar.frames_deeper e0.frames,.inr ⟨rfl,rfl⟩,λb z=>absurd z (noA b),e0.bs,e0.bsz,λb _ _=>noA b,λb z=>absurd z (noA b),e0.funs,e0.frf⟩,
  rfl,e0.bare,Un.kept hk,⟨_,x.toInCall.ns,λi y v h1 h2 h3=>?_⟩,λy c h=>⟨_,x.cell y c h⟩,e0.hok.fresh (aA _),λy c h=>?_,λp hp=>absurd (show p∈([]:List (Addr×Obj))from hp) (by simp),e0.hok.kept hk,?_⟩
 ·exact name_of_addr x.apart (bK h1) (bK h2)
 ·have hy:scope.names.lookup y=some .cell\/scope.names.lookup y=some .free:=hy;rcases hy with hy|hy
  ·exact fW hy
  ·exact absurd rfl (S.nofree _ (bK hy))
 ·exact Nat.le_of_lt (x.above y c (bK h))
 ·have hi:i<vs.length:=by
   unfold start at h2;by_cases hi:i<vs.length
   ·exact hi
   ·rw[List.getElem?_append_right (by simpa using hi)]at h2;rw[List.getElem?_replicate]at h2;split at h2<;>cases h2
  have ha:vs[i]? = some v:=by
   unfold start at h2;rw[List.getElem?_append_left (by simpa using hi),List.getElem?_map]at h2;cases e:vs[i]? with
   |none=>rw[e]at h2;cases h2
   |some a=>rw[e]at h2;cases h2;rfl
  obtain⟨u,hu,rv⟩:=r.get ha;have hp:ps[i]? = some y:=by
   rw[<-S.pre,List.getElem?_take_of_lt (by lia)];exact h1
  have ndP:ps.Nodup:=by rw[<-S.pre];exact S.nd.sublist (List.take_sublist _ _)
  refine⟨u,rv,?_⟩;rcases S.par y (List.mem_of_getElem? hp)with k|k
  ·exact .inl ⟨k,jt ndP hp hu k⟩
  ·obtain⟨c,e⟩:=fW (n:=s.heap.objs.size+1) k;refine .inr ⟨.inl k,c,e,?_⟩;have q:=x.cell y c e;rw[mG ndP hp hu (by show scope.names.lookup y≠_;rw[k];decide)]at q;exact q
 ·exact e0.hok.fresh (Nat.le_of_lt (x.above y c (bK h)))
 ·unfold start;show _=N.length;rw[List.length_append,a6,List.length_replicate];lia
theorem xp{CX:CXT}{P:aq}{w:aj}{K:ao}{mg:Str->Option ae}{base:Heap}{k:Nat}{f:Addr}{name qual:Str}{params:Arguments}{body:List Stmt}{scope:aI}{dV kV doc pm cdv ct oc:ae}{an od:Option Addr}
  {osl:Array (Option ae)}{N ps:List Str}{sp:Sp} (lk:K.lookup f=some ⟨oc,od,.func (bO name qual params body scope dV kV doc pm an cdv ct),osl⟩) (hcd:PySem.W.codeIn K cdv qual=true) (S:eX N ps scope)
  (len:∀vs H Q E,sp vs H Q E->vs.length=ps.length)
  (hbody:∀(A:ar) (outer:List Env) (s:af) (H:Hp) (vs:List V) (Q:VK) (E:XK),bQ k (A.deeper (envOfC qual scope s.heap.objs.size f cdv))->sp vs H Q E ->
   ∃t,PSs (cX CX P w K mg base N qual scope f cdv A outer s H E) body t/\t {nx:=λ_ H'=>Q .non H',rt:=Q} (start N vs) H) :
  du P w K mg base CX (k+1) f (bO name qual params body scope dV kV doc pm an cdv ct) ps sp:=by
 refine⟨len,λA outer s H args us vs Q E hr e0 hb r hsp=>?_⟩;have hl:=len _ _ _ _ hsp;have KX:K.In s.heap:=e0.mod.kin.keeps λb o e=>(e0.bs b o e).1
 have lim:s.heap.NoLimit:=e0.mod.nolimit.keeps λb o e=>(e0.bs b o e).1
 have hkind:∀y∈ps.zip us,scope.names.lookup y.1=some .local\/(scope.names.lookup y.1=some .cell/\((aQ (s.heap.objs.size+1) scope.names []).lookup y.1).isSome=true):=λ⟨n,v⟩ hy=>by
  rcases S.par n (List.of_mem_zip hy).1 with q|q
  ·exact .inl q
  ·exact .inr ⟨q,PySem.W.cellsFrom_some _ _ _ (.inl q)⟩
 refine codeAny_call_function hr.depth (KX _ _ lk) rfl S.co S.gen rfl (PySem.W.codeRec_of KX hcd) (hb _ _ _ _ ?_);refine wpAny_newFunctionEnv_cells S.kind hkind λenv he s1 x=>?_
 subst he;refine⟨lim.keeps x.toInCall.keep,codeAny_func ?_⟩;obtain⟨t,ht,hq⟩:=hbody A outer s H vs Q E (hr.deeper _) hsp;have I:Inv (cX CX P w K mg base N qual scope f cdv A outer s H E) [] (start N vs) H s1:=tm S hr.hd e0 hl r x;refine wpAny_mono (ht [] s1 (start N vs) H _ I hq) (λfl s' hs=>?_) λe s' hs=>hs
 have fin:∀{σ':St}{H':Hp}{v:V}{u:ae},Inv (cX CX P w K mg base N qual scope f cdv A outer s H E) [] σ' H' s'->RelV v u->Q v H'->CE outer P w H s Q u s':=
  λ{σ' H' v u} J rv q=>⟨v,H',J.os,J.bare,J.base,J.hok,rv,q⟩
 cases fl with
 |ret u=>
  obtain⟨v,σ',H',J,rv,q⟩:=hs;exact fin J rv q
 |next=>
  obtain⟨σ',H',J,q⟩:=hs;exact fin (v:=V.non) (u:=ae.none) J rfl q
 |brk=>
  obtain⟨_,_,_,q⟩:=hs;exact aM q
 |cont=>
  obtain⟨_,_,_,q⟩:=hs;exact aM q
section
variable{X:Cx}{x:Str}{p pos:Pos}{e:Expr}{es:List Expr}{t:TA}{id T:String}{r:List V->Hp->VK->Prop}
noncomputable def tCB(r:List V->Hp->VK->Prop)(t:TA):TE:=λσ H Q=>t σ H λvs H1=>r vs H1 Q
theorem j0(hc:zm X (.builtin id) r)(hg:Gl X x)(hm:X.mg x=none)(hv:bc x=some (.builtin id))(ha:PA X (e::es) t)(hn:x≠"__name__":=by decide)(hdb:(x==("__debug__" : Str))=false:=by decide)
  (he:aH (e::es) X.env=(false,eval e X.env)::aH es X.env:=by rfl) (hpl:(backTo pos (aH es X.env)).any (·.1)=false:=by rfl):PE X (.Call (.Name x p) (e::es) [] pos) (tCB r t):=by
 intro pins s σ H Q I h;refine wpAny_Call_Name_kw (eG I hg hm hv ?_ hn hdb);exact PyProof.Rows.callWith_builtin1 (thn (ha pos pins s σ H _ I h) λus s1 ⟨vs,H1,I1,r1,q1⟩=>hc pins s1 σ H1 vs us Q I1 r1 q1) he hpl
theorem mi(hc:zm X (.type T) r)(hg:Gl X x)(hm:X.mg x=none)(hv:bc x=some (.type T))(ha:PA X (e::es) t)(hn:x≠"__name__":=by decide)(hdb:(x==("__debug__" : Str))=false:=by decide)
  (he:aH (e::es) X.env=(false,eval e X.env)::aH es X.env:=by rfl) (hpl:(backTo pos (aH es X.env)).any (·.1)=false:=by rfl):PE X (.Call (.Name x p) (e::es) [] pos) (tCB r t):=by
 intro pins s σ H Q I h;refine wpAny_Call_Name_kw (eG I hg hm hv ?_ hn hdb);exact PyProof.Rows.callWith_type1 (thn (ha pos pins s σ H _ I h) λus s1 ⟨vs,H1,I1,r1,q1⟩=>hc pins s1 σ H1 vs us Q I1 r1 q1) he hpl
end
end L2
namespace HT
open PySem PyProof.Rows
noncomputable def lexLt:List Int->List Int->Bool
 | [],[]=>false
 | [],_::_=>true
 |_::_,[]=>false
 |x::xs,y::ys=>if x=y then lexLt xs ys else decide (x<y)
theorem uB(x y:Int)(xs ys:List Int):lexLt (x::xs) (y::ys)=if x=y then lexLt xs ys else decide (x<y):=rfl
theorem t7:lexLt [] []=false:=rfl
theorem pC(y:Int)(ys:List Int):lexLt [] (y::ys)=true:=rfl
theorem rm(x:Int)(xs:List Int):lexLt (x::xs) []=false:=rfl
theorem pH(A:ar)(s:af)(a:Int)(t:Tok)(c:Int)(u:Tok):∃e,SeqAt.EqAt A s (.int a t) (.int c u) e/\(e=true↔a=c):=
 ⟨(a==c),SeqAt.EqAt.int_int a t c u,by simp⟩
theorem y8(A:ar)(s:af)(a:Int)(t:Tok)(c:Int)(u:Tok)(prog:aq)(w:aj)(E:ae->af->Prop)(Q:ae->af->Prop)(h:Q (.bool (decide (a<c))) s) :
  ag (ai prog w) A (richCompare .Lt (.int a t) (.int c u)) Q E s:=
 (PyProof.Rows.lt_int h:ag (ai prog w) A (aF .Lt (.int a t) (.int c u)) Q E s)
section
open PySem.SeqAt
open PySem.AutoSeq1 (wpAny_loadPart')
open PySem.MeetsSeq PySem.MeetsSeq2 PySem.MeetsSeq3
theorem pk(l b:Addr)(items items2:Array ae)(n n2:Nat)(dd dd2:Option Addr)(sl sl2:Array (Option ae))(ns ms:List Int)(hi:IntsAre items.toList ns)(hj:IntsAre items2.toList ms) :
  Meets (Builtin.«tuple.__lt__» ⟨[.ref l,.ref b],[]⟩)
   (λ_ R s=>s.heap.get? l=some {cls:=.type "tuple",dict:=dd,data:=.seq items n,slots:=sl}/\s.heap.get? b=some {cls:=.type "tuple",dict:=dd2,data:=.seq items2 n2,slots:=sl2} /\
    R (.ok (.ret (.bool (lexLt ns ms)))) s):=
 .of_wp λprog w A R s h=>by
  obtain⟨hp,g,d,tk,os⟩:=s;obtain⟨hl,hb,h⟩:=h;have f2:=AutoSeq1.sub_tuple_tuple;have z1:items.size=ns.length:=by rw[<-hi.length];simp
  have z2:items2.size=ms.length:=by rw[<-hj.length];simp
  wp_walk using wpAny_loadPart' hl,wpAny_loadPart' hb,wpAny_forIn_list _ (λrest b s'=>b.1=none/\s'=⟨hp,g,d,tk,os⟩/\∃(vs ws:List ae) (ns' ms':List Int),rest=vs.zip ws /\
   IntsAre vs ns'/\IntsAre ws ms'/\ns'.length+items2.size=ms'.length+items.size/\R (.ok (.ret (.bool (lexLt ns' ms')))) ⟨hp,g,d,tk,os⟩) _
  case turn=>
   rintro⟨y,x⟩ rest b s' ⟨hb',rfl,vs,ws,ns',ms',hz,hvi,hwi,hlen,hR⟩;cases hvi with
   |nil=>rw[List.zip_nil_left]at hz;cases hz
   |cons a t hvi'=>
    cases hwi with
    |nil=>rw[List.zip_nil_right]at hz;cases hz
    |cons c u hwi'=>
     rw[List.zip_cons_cons]at hz;injection hz with hyx hrest
     injection hyx with hy hx
     subst hy hx;rw[uB]at hR;simp only[cg]at hlen;obtain⟨e,he,hiff⟩:=pH A.in1 ⟨hp,g,d,tk,os⟩ a t c u;refine ah (he prog w _ _ ?_);cases e with
     |true=>
      rw[if_pos (hiff.mp rfl)]at hR
      wp_walk
      exact⟨rfl,rfl,_,_,_,_,hrest,hvi',hwi',by lia,hR⟩
     |false=>
      rw[if_neg (λq=>absurd (hiff.mpr q) bZ)]at hR;have hri:=y8 A.in1 ⟨hp,g,d,tk,os⟩ a t c u prog w
      wp_walk using hri
      exact⟨_,rfl,by simpa using hR⟩
  case fin=>
   rintro⟨b1,b2⟩ s' ⟨hb',rfl,vs,ws,ns',ms',hz,hvi,hwi,hlen,hR⟩;simp only at hb';subst hb';have hv:lexLt ns' ms'=decide (items.size<items2.size):=by
    cases hvi with
    |nil=>
     cases hwi with
     |nil=>
      simp only[List.length_nil]at hlen;rw[t7];exact(decide_eq_false (by lia)).symm
     |cons c u hw=>
      simp only[List.length_nil,cg]at hlen;rw[pC];exact(decide_eq_true (by lia)).symm
    |cons a t hv=>
     cases hwi with
     |nil=>
      simp only[List.length_nil,cg]at hlen;rw[rm];exact(decide_eq_false (by lia)).symm
     |cons c u hw=>
      rw[List.zip_cons_cons]at hz;cases hz
   rw[hv]at hR
   wp_walk
   exact⟨_,rfl,by simpa[Builtin.Tuple.tupleCompareSizes]using hR⟩
  case h=>
   exact⟨rfl,rfl,items.toList,items2.toList,ns,ms,rfl,hi,hj,by lia,h⟩
end
section
variable{prog:aq}{w:aj}{A:ar}{E:ae->af->Prop}{s:af}
theorem yc{l b:Addr}{items items2:Array ae}{ns ms:List Int}{Q:ae->af->Prop}(hl:IsTup s.heap l items)(hb:IsTup s.heap b items2)(hi:IntsAre items.toList ns)(hj:IntsAre items2.toList ms)
  (hu:A.units<cLine) (h:Q (.bool (lexLt ns ms)) s):ag (ai prog w) A (aF .Lt (.ref l) (.ref b)) Q E s:=by
 obtain⟨⟨cls,dd,data,sl⟩,ho,hc,n,hd⟩:=id hl;obtain⟨⟨cls2,dd2,data2,sl2⟩,ho2,hc2,n2,hd2⟩:=id hb;simp only at hc hd hc2 hd2;subst hc hd hc2 hd2;exact richCompare_meets_room (op:=.Lt) ⟨_,ho,rfl⟩ ⟨_,ho2,rfl⟩ PySem.F.slot_tuple_lt PySem.F.entry_tuple_lt (PySem.F.args_tuple_lt_2 _ _) (pk l b items items2 n n2 dd dd2 sl sl2 ns ms hi hj)
  ⟨ho,ho2,show ae.bool (lexLt ns ms)≠ae.notImplemented/\Q (.bool (lexLt ns ms)) s from ⟨(λx=>nomatch x),h⟩⟩ hu
theorem ud{t b:Addr}{vs ws:List ae}{Q:ae->af->Prop}(ht:IsTup s.heap t vs.toArray)(hb:IsTup s.heap b ws.toArray)(hv:vs≠[])
  (h1:ws=[]->Q (.ref t) s) (h2:ws≠[]->Q (.ref s.heap.objs.size) {s with heap:=s.heap.push {cls:=.type "tuple",data:=.seq (vs++ws).toArray}})
  (hsz:vs.length+ws.length<=az):ag (ai prog w) A (binaryOp .Add (.ref t) (.ref b)) Q E s:=by
 obtain⟨⟨cls,dd,data,sl⟩,ho,hc,n,hd⟩:=id ht;obtain⟨⟨cls2,dd2,data2,sl2⟩,ho2,hc2,n2,hd2⟩:=id hb;simp only at hc hd hc2 hd2;subst hc hd hc2 hd2;have e:vs.toArray++ws.toArray=(vs++ws).toArray:=by simp
 by_cases hw:ws=[]
 ·exact concat_meets ⟨_,ho,rfl⟩ ⟨_,ho2,rfl⟩ noFill_tuple_add seq_tuple_add PySem.F.slot_tuple_add PySem.F.entry_tuple_add (PySem.F.args_tuple_add_2 _ _)
   (tuple_addW1 t b vs.toArray ws.toArray n n2 dd dd2 sl sl2 (by simpa using hv) (by simp[hw])) ⟨ho,ho2,h1 hw⟩
 ·refine concat_meets ⟨_,ho,rfl⟩ ⟨_,ho2,rfl⟩ noFill_tuple_add seq_tuple_add PySem.F.slot_tuple_add PySem.F.entry_tuple_add (PySem.F.args_tuple_add_2 _ _)
   (tuple_addW2 t b vs.toArray ws.toArray n n2 dd dd2 sl sl2 (by simpa using hv) (by simpa using hw) (by rw[aJ,aJ];exact hsz)) ⟨ho,ho2,?_⟩
  rw[e];exact h2 hw
noncomputable def sIx(n d:Nat):Option Int->Nat
 |none=>d
 |some v=>if v<0 then (v+(n:Int)).toNat else min v.toNat n
theorem tN(n d:Nat)(hd:d<=n)(o:Option Int):sIx n d o<=n:=by
 cases o with
 |none=>exact hd
 |some v=>
  show (if v<0 then (v+(n:Int)).toNat else min v.toNat n)<=n;by_cases hv:v<0
  ·rw[if_pos hv];lia
  ·rw[if_neg hv];exact Nat.min_le_right _ _
theorem kR(v:Int)(n d:Nat):(if v<0 then max (v+(n:Int)) 0 else min v (n:Int))=((sIx n d (some v):Nat):Int):=by
 show (if v<0 then max (v+(n:Int)) 0 else min v (n:Int))=(((if v<0 then (v+(n:Int)).toNat else min v.toNat n):Nat):Int)
 by_cases hv:v<0
 ·simp only[if_pos hv];lia
 ·simp only[if_neg hv];lia
theorem wA(lo hi:Option Int)(n:Nat):Builtin.Slice.sliceAdjust lo hi 1 (n:Int)=(((sIx n 0 lo:Nat):Int),((sIx n n hi:Nat):Int)):=by
 have h1:¬ ((1:Int)<0):=by lia
 unfold Builtin.Slice.sliceAdjust;simp only[h1,if_false];refine Prod.ext ?_ ?_
 ·cases lo with
  |none=>rfl
  |some v=>exact kR v n 0
 ·cases hi with
  |none=>rfl
  |some v=>exact kR v n n
theorem oM(i j:Nat):Builtin.Slice.slicePlaces (i:Int) (j:Int) 1=j-i:=by
 unfold Builtin.Slice.slicePlaces;have h1:(1:Int)>0:=by lia
 simp only[h1,if_true,Int.ediv_one];split<;>lia
theorem lD{v:ae}{o:Option Int}{Q:Option Int->af->Prop}(p:IsPart v o)(h:Q o s):ag (ai prog w) A (Builtin.Slice.slicePartIndex v) Q E s:=by
 cases p with
 |none=>exact slicePart_none h
 |int i t=>exact slicePart_int h
theorem j4{sl:Addr}{vl vu:ae}{lo hi:Option Int}{n:Nat}{Q:Int×Int×Nat->af->Prop}(hs:s.heap.IsSliceOf sl vl vu .none)(pl:IsPart vl lo)(pu:IsPart vu hi)
  (h:Q (((sIx n 0 lo:Nat):Int),1,sIx n n hi-sIx n 0 lo) s):ag (ai prog w) A (Builtin.Slice.sliceApplied (.ref sl) (pure (n:Int))) Q E s:=by
 obtain⟨os,hos,hcs,hds⟩:=id hs;unfold Builtin.Slice.sliceApplied Builtin.Slice.sliceFields;refine ah (ah (wpAny_field hos hds (x:=vl) rfl (ah (wpAny_field hos hds (x:=vu) rfl (ah (wpAny_field hos hds (x:=.none) rfl (av ?_)))))));refine ah (slicePart_none ?_);show ag _ _ (if ((1:Int)==0)=true then _ else _) _ _ s;rw[if_neg (by decide)];refine ah (lD pl (ah (lD pu (ah (av ?_)))));show ag _ _ (match Builtin.Slice.sliceAdjust lo hi 1 (n:Int)with|(lo,hi)=>pure (lo,(1:Int),Builtin.Slice.slicePlaces lo hi 1)) _ _ s;rw[wA lo hi n];show ag _ _ (pure (((sIx n 0 lo:Nat):Int),(1:Int),Builtin.Slice.slicePlaces ((sIx n 0 lo:Nat):Int) ((sIx n n hi:Nat):Int) 1)) _ _ s;rw[oM];exact av h
theorem nL(xs:Array ae)(i k:Nat):((List.range k).filterMap λ(m:Nat)=>xs[((i:Int)+(m:Int) * 1).toNat]?).toArray=((xs.toList.drop i).take k).toArray:=by
 have e:(λ(m:Nat)=>xs[((i:Int)+(m:Int) * 1).toNat]?)=λm=>xs[i+m]?:=by
  funext m;have:((i:Int)+(m:Int) * 1).toNat=i+m:=by lia
  rw[this]
 rw[e];have:=pick_run xs i k;rw[List.filterMap_map]at this;have e2:((λx=>xs[x]?)∘λx=>i+x)=λm=>xs[i+m]?:=rfl
 rw[e2]at this;rw[this]
theorem tf{t sl:Addr}{items:Array ae}{vl vu:ae}{lo hi:Option Int}{Q:ae->af->Prop}(ht:IsTup s.heap t items)(hs:s.heap.IsSliceOf sl vl vu .none)(pl:IsPart vl lo)(pu:IsPart vu hi)
  (hw:¬ (sIx items.size 0 lo=0/\sIx items.size items.size hi=items.size))
  (h:Q (.ref s.heap.objs.size) {s with heap:=s.heap.push {cls:=.type "tuple",data:=.seq ((items.toList.drop (sIx items.size 0 lo)).take (sIx items.size items.size hi-sIx items.size 0 lo)).toArray}})
  (hsz:items.size<=az):ag (ai prog w) A (getItem (.ref t) (.ref sl)) Q E s:=by
 have htake:sizeOk (.seq ((items.toList.drop (sIx items.size 0 lo)).take (sIx items.size items.size hi-sIx items.size 0 lo)).toArray):=by
  show ((items.toList.drop (sIx items.size 0 lo)).take (sIx items.size items.size hi-sIx items.size 0 lo)).toArray.size<=az;rw[aJ,List.length_take,List.length_drop,Array.length_toList];lia
 have hj:sIx items.size items.size hi<=items.size:=tN _ _ (aA _) hi;obtain⟨os,hos,hcs,hds⟩:=id hs;have hTs:s.TypeIs (.ref sl) "slice":=⟨os,hos,hcs⟩
 unfold getItem
 try with_reducible refine wpAny_holding ?_
 first|refine ah (av ?_)|skip
 refine ah (wpAny_sequenceKey ht.typeIs (by decide) ?_);refine ah (wpAny_callSpecial?_slot (name:=aU "__getitem__") ht.typeIs PyProof.Rows.slot_tuple_getitem
  (wpAny_call_entry PyProof.Rows.slot_tuple_getitem ht.typeIs entry_tuple_getitem ?_ (args_tuple_getitem _ _)))
 show ag _ _ (Builtin.Tuple.tupleItemsOf (.ref t)>>=_) _ _ s;refine ah (tupleItemsOf_ ht ?_);refine ah (wpAny_typeOf hTs ?_);rw[if_pos (by decide)];refine ah (j4 hs pl pu ?_);have hno:¬ ((((sIx items.size 0 lo:Nat):Int)==0&&(1:Int)==1&&(sIx items.size items.size hi-sIx items.size 0 lo)==items.size)=true):=by
  intro q;rw[ax,ax]at q;have q1:((sIx items.size 0 lo:Nat):Int)=0:=eq_of_beq q.1.1;have q2:sIx items.size items.size hi-sIx items.size 0 lo=items.size:=eq_of_beq q.2;exact hw ⟨by lia,by lia⟩
 show ag _ _ (if (((sIx items.size 0 lo:Nat):Int)==0&&(1:Int)==1&&(sIx items.size items.size hi-sIx items.size 0 lo)==items.size)=true then _ else _) _ _ s;rw[if_neg hno,nL]
 first
  |exact ah (m:=Builtin.Tuple.tupleExact _) (bS (av ⟨_,rfl,av h⟩) htake)
  |exact ah (m:=Builtin.Tuple.tupleExact _) (bS (ah (av (av ⟨_,rfl,av h⟩))) htake)
  |exact ah (ah (m:=Builtin.Tuple.tupleExact _) (bS (av (av ⟨_,rfl,av h⟩)) htake))
  |exact ah (ah (m:=Builtin.Tuple.tupleExact _) (bS (av ⟨_,rfl,av h⟩) htake))
end
end HT
namespace L2
open PySem PySem.Spec PyProof.Rows
abbrev TO:=St->Hp->(Option Int->Hp->Prop)->Prop
noncomputable def PO(X:Cx)(e:Option Expr)(t:TO):Prop:=
 ∀(pins:List (Addr×Obj)) (s:af) (σ:St) (H:Hp) (Q:Option Int->Hp->Prop),Inv X pins σ H s->t σ H Q ->
  ag (ai X.prog X.w) X.A (evalPart e X.env) (λu s'=>∃o H',Inv X pins σ H' s'/\IsPart u o/\Q o H') X.xe s
noncomputable def nu:TO:=λ_ H Q=>Q none H
noncomputable def xv(t:TE):TO:=λσ H Q=>t σ H λx H1=>∃i,x=.int i/\Q (some i) H1
theorem intsAre_of{ns:List Int}:∀{us:List ae},Vals (ns.map V.int) us->IntsAre us ns:=by
 induction ns with
 |nil=>intro us r;rw[List.map_nil]at r;cases r;exact .nil
 |cons n ns ih=>
  intro us r;rw[aK]at r;cases r with
  |cons r1 r2=>
   obtain⟨t,e⟩:=r1;subst e;exact .cons n t (ih r2)
section
variable{X:Cx}{e:Expr}{te:TE}{lo hi:Option Expr}{tl th:TO}{pos p2:Pos}
theorem uC:PO X none nu:=by
 intro pins s σ H Q I h;rw[evalPart_none];exact av ⟨none,H,I,.none,h⟩
theorem oy(h:PE X e te):PO X (some e) (xv te):=by
 intro pins s σ H Q I hw;rw[evalPart_some];refine thn (h pins s σ H _ I hw) λu s1 ⟨x,H1,I1,r1,q1⟩=>?_
 obtain⟨i,rfl,q⟩:=q1;obtain⟨t,rfl⟩:=r1;exact⟨some i,H1,I1,.int i t,q⟩
noncomputable def SlR(X:Cx)(r:V->Option Int->Option Int->Hp->VK->Prop):Prop:=
 ∀(pins:List (Addr×Obj)) (s:af) (σ:St) (H:Hp) (x:V) (v vl vu:ae) (lo hi:Option Int) (sl:Addr) (Q:VK),Inv X pins σ H s->RelV x v->s.heap.IsSliceOf sl vl vu .none->IsPart vl lo->IsPart vu hi->r x lo hi H Q ->
  ∃T id,typeLookup (.type T) "__getitem__" = pure (some (.builtin id))/\s.TypeIs v T/\ag (ai X.prog X.w) X.A (getItem v (.ref sl)) (EP X pins σ Q) X.xe s
noncomputable def tSl(r:V->Option Int->Option Int->Hp->VK->Prop)(te:TE)(tl th:TO):TE:=λσ H Q=>te σ H λx H1=>tl σ H1 λl H2=>th σ H2 λu H3=>r x l u H3 Q
theorem mW{r:V->Option Int->Option Int->Hp->VK->Prop}(hr:SlR X r)(he:PE X e te)(hl:PO X lo tl)(hu:PO X hi th):PE X (.Subscript e (.Slice lo hi none p2) pos) (tSl r te tl th):=by
 intro pins s σ H Q I h;refine Subscript_ (thn (he pins s σ H _ I h) λv s1 ⟨x,H1,I1,r1,q1⟩=>?_);refine wpAny_Slice (thn (hl pins s1 σ H1 _ I1 q1) λvl s2 ⟨l,H2,I2,pl,q2⟩=>thn (hu pins s2 σ H2 _ I2 q2) λvu s3 ⟨u,H3,I3,pu,q3⟩=>?_);rw[evalPart_none];refine av ?_;have I4:Inv X pins σ H3 {s3 with heap:=s3.heap.push {cls:=.type "slice",data:=.fields #[vl,vu,.none]}}:=I3.kept (t':=s3.toks) λb ob q=>Heap.get?_push_of_some _ q
 obtain⟨T,id,hT,ht,hg⟩:=hr pins {s3 with heap:=s3.heap.push {cls:=.type "slice",data:=.fields #[vl,vu,.none]}} σ H3 x v vl vu l u s3.heap.objs.size Q I4 r1 (Heap.IsSliceOf.new ..) pl pu q3;show ag (ai X.prog X.w) X.A (subscriptTail e (.Slice lo hi none p2) v (.ref s3.heap.objs.size)) (EP X pins σ Q) X.xe {s3 with heap:=s3.heap.push {cls:=.type "slice",data:=.fields #[vl,vu,.none]}};exact tail_any (ops:=[.ref s3.heap.objs.size,v]) ht hT hg (by with_unfolding_all rfl)
noncomputable def dm(xs:List V)(lo hi:Option Int):List V:=(xs.drop (HT.sIx xs.length 0 lo)).take (HT.sIx xs.length xs.length hi-HT.sIx xs.length 0 lo)
theorem j9(xs:List V)(lo hi:Option Int):(dm xs lo hi).length<=xs.length:=by
 unfold dm;rw[List.length_take,List.length_drop];lia
noncomputable def oI(K:ao):V->Option Int->Option Int->Hp->VK->Prop:=λx lo hi H Q=>∃a xs,x=.ref a/\SqT K H a xs /\
 ¬ (HT.sIx xs.length 0 lo=0/\HT.sIx xs.length xs.length hi=xs.length)/\∀p,H p=none->Q (.ref p) (upd H p (.tup (dm xs lo hi)))
theorem nB:SlR X (oI X.K):=by
 intro pins s σ H x v vl vu lo hi sl Q I rx hs pl pu h;obtain⟨a,xs,rfl,hx,hw,q⟩:=h;cases rx;obtain⟨its,r,ht,hz⟩:=I.tuple hx;have hlen:its.toArray.size=xs.length:=by rw[aJ];exact r.length.symm
 refine⟨"tuple",_,PyProof.Rows.slot_tuple_getitem.lookup,ht.typeIs,?_⟩;refine HT.tf ht hs pl pu (by rw[hlen];exact hw) ?_ (by rw[hlen];exact hz);rw[hlen];refine⟨.ref s.heap.objs.size,_,I.laid (t':=s.toks) (o:=.tup (dm xs lo hi)) (λb ob q=>Heap.get?_push_of_some _ q) (aA _) ?_,rfl,q _ (I.hok.fresh (aA _))⟩;exact⟨a5 (j9 xs lo hi) hz,_,(r.drop (HT.sIx xs.length 0 lo)).take (HT.sIx xs.length xs.length hi-HT.sIx xs.length 0 lo),IsTup.new _ _⟩
noncomputable def nF(K:ao):R2:=λx y H Q=>∃a b ns ms,x=.ref a/\y=.ref b/\SqT K H a (ns.map V.int)/\SqT K H b (ms.map V.int)/\Q (.bl (HT.lexLt ns ms)) H
theorem vE(hu:X.A.units<cLine):OpR X (aF .Lt) (nF X.K):=by
 intro pins s σ H x y v u Q I rx ry h;obtain⟨a,b,ns,ms,rfl,rfl,ha,hb,q⟩:=h;cases rx;cases ry;obtain⟨its,r1,p1,_⟩:=I.tuple ha;obtain⟨its2,r2,p2,_⟩:=I.tuple hb;have i1:IntsAre its.toArray.toList ns:=intsAre_of r1;have i2:IntsAre its2.toArray.toList ms:=intsAre_of r2;exact HT.yc p1 p2 i1 i2 hu ⟨.bl (HT.lexLt ns ms),H,I,rfl,q⟩
noncomputable def oS(K:ao):R2:=λx y H Q=>∃a b xs ys,x=.ref a/\y=.ref b/\SqT K H a xs/\SqT K H b ys/\xs≠[]/\xs.length+ys.length<=az /\
 (ys=[]->Q (.ref a) H)/\(ys≠[]->∀p,H p=none->Q (.ref p) (upd H p (.tup (xs++ys))))
theorem Vals.nil_iff{xs:List V}{us:List ae}(r:Vals xs us):us=[]↔xs=[]:=by
 cases r with
 |nil=>simp
 |cons _ _=>simp
theorem rG:OpR X (binaryOp .Add) (oS X.K):=by
 intro pins s σ H x y v u Q I rx ry h;obtain⟨a,b,xs,ys,rfl,rfl,ha,hb,hx,hz,q1,q2⟩:=h;cases rx;cases ry;obtain⟨its,r1,p1,_⟩:=I.tuple ha;obtain⟨its2,r2,p2,_⟩:=I.tuple hb;refine HT.ud p1 p2 (λz=>hx (r1.nil_iff.mp z)) (λz=>⟨.ref a,H,I,rfl,q1 (r2.nil_iff.mp z)⟩) (λz=>?_) (by rw[<-r1.length,<-r2.length];exact hz);refine⟨.ref s.heap.objs.size,_,I.laid (t':=s.toks) (o:=.tup (xs++ys)) (λb ob q=>Heap.get?_push_of_some _ q) (aA _) ?_,rfl,q2 (λw=>z (r2.nil_iff.mpr w)) _ (I.hok.fresh (aA _))⟩;exact⟨by rw[List.length_append];exact hz,_,r1.append r2,IsTup.new _ _⟩
end
noncomputable def ixN(n:Nat)(i:Int):Option Nat:=if 0<=i then (if i<n then some i.toNat else none)else if -(n:Int)<=i then some (i+n).toNat else none
noncomputable def atI{α:Type}(xs:List α)(i:Int):Option α:=(ixN xs.length i).bind λj=>xs[j]?
theorem lr{n:Nat}{i:Int}{j:Nat}(h:ixN n i=some j):seqIndex? i n=some j/\j<n/\-(n:Int)<=i/\i<n:=by
 unfold ixN at h;by_cases h0:0<=i
 ·rw[if_pos h0]at h;by_cases h1:i<n
  ·rw[if_pos h1]at h;have e:i.toNat=j:=bq h;exact⟨by rw[seqIndex_of h0 h1,e],by lia,by lia,h1⟩
  ·rw[if_neg h1]at h;cases h
 ·rw[if_neg h0]at h;by_cases h1:-(n:Int)<=i
  ·rw[if_pos h1]at h;have e:(i+n).toNat=j:=bq h;exact⟨by rw[seqIndex_neg (by lia) h1,e],by lia,h1,by lia⟩
  ·rw[if_neg h1]at h;cases h
theorem jH{α:Type}{xs:List α}{i:Int}{v:α}(h:atI xs i=some v):∃j,seqIndex? i xs.length=some j/\xs[j]? = some v/\j<xs.length/\-(xs.length:Int)<=i/\i<xs.length:=by
 unfold atI at h;cases e:ixN xs.length i with
 |none=>rw[e]at h;cases h
 |some j=>
  rw[e]at h;obtain⟨h1,h2,h3,h4⟩:=lr e;exact⟨j,h1,h,h2,h3,h4⟩
noncomputable def lW(b:Expr):Prop:=∀o i,subscripted b false o i=operate [o,i] (getItem o i)
noncomputable def IxR(X:Cx)(r:R2):Prop:=
 ∀(value slice:Expr) (pins:List (Addr×Obj)) (s:af) (σ:St) (H:Hp) (x y:V) (v u:ae) (Q:VK),Inv X pins σ H s->RelV x v->RelV y u->r x y H Q ->
  subscripted slice false v u=operate [v,u] (getItem v u)->ag (ai X.prog X.w) X.A (subscriptTail value slice v u) (EP X pins σ Q) X.xe s
noncomputable def MtR(X:Cx)(id:String)(r:V->List V->Hp->VK->Prop):Prop:=
 ∀(pins:List (Addr×Obj)) (s:af) (σ:St) (H:Hp) (x:V) (xs:List V) (v:ae) (us:List ae) (Q:VK),Inv X pins σ H s->RelV x v->Vals xs us->r x xs H Q ->
  ag (ai X.prog X.w) X.A (call (.builtin id) (v::us)) (EP X pins σ Q) X.xe s
section
variable{X:Cx}{a b:Expr}{ta tb:TE}{pos:Pos}
theorem IxR.or{r r':R2}(h:IxR X r)(h':IxR X r'):IxR X (λx y H Q=>r x y H Q\/r' x y H Q):=by
 intro value slice pins s σ H x y v u Q I rx ry q hs;rcases q with q|q
 ·exact h value slice pins s σ H x y v u Q I rx ry q hs
 ·exact h' value slice pins s σ H x y v u Q I rx ry q hs
theorem nE{r:R2}(hr:IxR X r)(ha:PE X a ta)(hb:PE X b tb)(hs:lW b):PE X (.Subscript a b pos) (tOp r ta tb):=by
 intro pins s σ H Q I h;exact Subscript_ (iq ha hb I h λv u s2 x y H2 I2 rx ry q=>hr a b pins s2 σ H2 x y v u Q I2 rx ry q (hs _ _))
noncomputable def pX(K:ao):R2:=λx y H Q=>∃p xs i v,x=.ref p/\y=.int i/\SqL K H p xs/\atI xs i=some v/\Q v H
noncomputable def yV(K:ao):R2:=λx y H Q=>∃p xs i v,x=.ref p/\y=.int i/\SqT K H p xs/\atI xs i=some v/\Q v H
theorem tK:IxR X (pX X.K):=by
 intro value slice pins s σ H x y v u Q I rx ry h hs;obtain⟨p,xs,i,z,rfl,rfl,hq,he,q⟩:=h;cases rx;obtain⟨t,rfl⟩:=ry;obtain⟨its,r,pl,hz⟩:=I.list hq;obtain⟨j,h1,h2,h3,h4,h5⟩:=jH he;obtain⟨w,ew,rw'⟩:=r.get h2;have hl:=r.length;have hn:=fo;have fin:EP X pins σ Q w s:=⟨z,H,I,rw',q⟩
 by_cases h0:0<=i
 ·have hj:i.toNat=j:=by
   rw[seqIndex_of h0 h5]at h1;exact bq h1
  exact item_listR pl.isList h0 (by lia) (by rw[hj];simpa using ew) fin hs
 ·have hj:(i+(its.toArray.size:Int)).toNat=j:=by
   rw[seqIndex_neg (by lia) h4]at h1;rw[aJ,<-hl];exact bq h1
  exact subscriptTail_builtinR (x:=w) pl.isList.typeIs slot_list_getitem.lookup
   (wpAny_getItem_list_neg (Q:=λr s'=>r=w/\EP X pins σ Q r s') pl.isList (by lia) (by rw[aJ]<;>lia) (by lia) (by rw[hj];simpa using ew) ⟨rfl,fin⟩) hs
theorem wq:IxR X (yV X.K):=by
 intro value slice pins s σ H x y v u Q I rx ry h hs;obtain⟨p,xs,i,z,rfl,rfl,hq,he,q⟩:=h;cases rx;obtain⟨t,rfl⟩:=ry;obtain⟨its,r,pl,hz⟩:=I.tuple hq;obtain⟨j,h1,h2,h3,h4,h5⟩:=jH he;obtain⟨w,ew,rw'⟩:=r.get h2;have hl:=r.length;have hn:=fo;have fin:EP X pins σ Q w s:=⟨z,H,I,rw',q⟩
 exact subscriptTail_builtinR (x:=w) pl.typeIs slot_tuple_getitem.lookup
  (getItem_tuple (j:=j) (Q:=λr s'=>r=w/\EP X pins σ Q r s') pl (by lia) (by lia) (by rw[aJ,<-hl];exact h1) (by simpa using ew) ⟨rfl,fin⟩) hs
theorem pw(its:List ae)(n j:Nat)(u:ae):Obj.mapSeq (·.setIfInBounds j u) {cls:=.type "list",data:=.seq its.toArray n}={cls:=.type "list",data:=.seq (its.set j u).toArray n}:=by
 simp[Obj.mapSeq]
theorem Inv.lst{pins:List (Addr×Obj)}{σ:St}{H:Hp}{s:af}{p:Addr}{xs:List V}(I:Inv X pins σ H s)(h:H p=some (.lst xs)) :
  ∃(its:List ae) (n:Nat),Vals xs its/\s.heap.get? p=some {cls:=.type "list",data:=.seq its.toArray n}/\xs.length<=sizeLine:=by
 obtain⟨z,its,n,r,e⟩:=I.hok p _ h;exact⟨its,n,r,e,z⟩
theorem Inv.lstUpd{pins:List (Addr×Obj)}{σ:St}{H:Hp}{s:af}{p:Addr}{xs ys:List V}{its its':List ae}{n n':Nat}{f:Obj->Obj}(I:Inv X pins σ H s)(h:H p=some (.lst xs))
  (ho:s.heap.get? p=some {cls:=.type "list",data:=.seq its.toArray n}) (hf:f {cls:=.type "list",data:=.seq its.toArray n}={cls:=.type "list",data:=.seq its'.toArray n'}) (r:Vals ys its') (hz:ys.length<=az) (t:Nat) :
  Inv X pins σ (upd H p (.lst ys)) {s with heap:=s.heap.update p f,toks:=t}:=by
 have e:(s.heap.update p f).get? p=some {cls:=.type "list",data:=.seq its'.toArray n'}:=by
  rw[Heap.get?_update_self f ho (by rw[hf]<;>rfl),hf]
 refine I.write (x:=p) (e:=p) (by rw[h];trivial) (.inl rfl) (λb u hb q=>(Heap.get?_update_other _ _ (Ne.symm hb)).trans q) ⟨_,e⟩ ?_;exact⟨hz,its',n',r,e⟩
noncomputable def mI:V->V->V->Hp->(Hp->Prop)->Prop:=λo i v H Q=>∃p xs k j,o=.ref p/\i=.int k/\H p=some (.lst xs)/\ixN xs.length k=some j/\Q (upd H p (.lst (xs.set j v)))
theorem set_list:dG X mI:=by
 intro pins s σ H o i v ov iv u Q I ro ri rv h;obtain⟨p,xs,k,j,rfl,rfl,hp,hj,q⟩:=h;cases ro;obtain⟨t,rfl⟩:=ri;obtain⟨its,n,r,ho,hz⟩:=I.lst hp;obtain⟨h1,h2,h3,h4⟩:=lr hj;have hl:=r.length;have hn:=fo;have I':Inv X pins σ (upd H p (.lst (xs.set j v))) {s with heap:=s.heap.update p (Obj.mapSeq (·.setIfInBounds j u))}:=
  I.lstUpd hp ho (pw its n j u) (r.set rv j) (by rw[List.length_set];exact hz) s.toks
 by_cases h0:0<=k
 ·have hk:k.toNat=j:=by
   rw[seqIndex_of h0 h4]at h1;exact bq h1
  exact PySem.W.ki_setAt ho h0 (by lia) (by rw[aJ,<-hl];exact h4) (by rw[hk];exact⟨_,I',q⟩)
 ·have hk:(k+(its.toArray.size:Int)).toNat=j:=by
   rw[seqIndex_neg (by lia) h3]at h1;rw[aJ,<-hl];exact bq h1
  exact PySem.W.ki_setBack ho (by lia) (by rw[aJ,<-hl];exact h3) (by lia) (by rw[hk];exact⟨_,I',q⟩)
theorem vT(lo hi:Option Int)(n:Nat):(sliceBounds lo hi none n).1=((HT.sIx n 0 lo:Nat):Int)/\(sliceBounds lo hi none n).2.1=((HT.sIx n n hi:Nat):Int)/\(sliceBounds lo hi none n).2.2=1:=by
 refine⟨?_,?_,rfl⟩
 ·cases lo with
  |none=>simp[sliceBounds,HT.sIx]
  |some i=>
   simp only[sliceBounds,HT.sIx,Option.getD_none,show (1:Int)>0 by decide,if_true];by_cases h:i<0
   ·simp only[h,if_true]<;>lia
   ·simp only[h,if_false]<;>lia
 ·cases hi with
  |none=>simp[sliceBounds,HT.sIx]
  |some i=>
   simp only[sliceBounds,HT.sIx,Option.getD_none,show (1:Int)>0 by decide,if_true];by_cases h:i<0
   ·simp only[h,if_true]<;>lia
   ·simp only[h,if_false]<;>lia
theorem nK(its:List ae)(lo hi:Option Int):slicePick its.toArray lo hi none=((its.drop (HT.sIx its.length 0 lo)).take (HT.sIx its.length its.length hi-HT.sIx its.length 0 lo)).toArray:=by
 obtain⟨h1,h2,h3⟩:=vT lo hi its.toArray.size;unfold slicePick;rw[h1,h2,h3];simp only[sliceRange_one,pick_run,aJ]<;>rfl
noncomputable def xo(K:ao):V->Option Int->Option Int->Hp->VK->Prop:=λx lo hi H Q=>∃a xs,x=.ref a/\SqL K H a xs/\∀p,H p=none->Q (.ref p) (upd H p (.lst (dm xs lo hi)))
theorem wd:SlR X (xo X.K):=by
 intro pins s σ H x v vl vu lo hi sl Q I rx hs pl pu h;obtain⟨a,xs,rfl,hx,q⟩:=h;cases rx;obtain⟨its,r,ht,hz⟩:=I.list hx;have hlen:=r.length;refine⟨"list",_,slot_list_getitem.lookup,ht.isList.typeIs,?_⟩;refine wpAny_getItem_list_slice ht.isList hs pl pu .none (by simp) ?_ (by rw[aJ]<;>lia);rw[nK,<-hlen];refine⟨.ref s.heap.objs.size,_,I.laid (t':=s.toks) (o:=.lst (dm xs lo hi)) (λb ob q=>Heap.get?_push_of_some _ q) (aA _) ?_,rfl,q _ (I.hok.fresh (aA _))⟩;exact⟨a5 (j9 xs lo hi) hz,_,0,(r.drop (HT.sIx xs.length 0 lo)).take (HT.sIx xs.length xs.length hi-HT.sIx xs.length 0 lo),Heap.get?_push_size _ rfl⟩
theorem sW:zm X (.builtin "len") (λxs H Q=>∃p ys,xs=[.ref p]/\(SqL X.K H p ys\/SqT X.K H p ys)/\Q (.int ys.length) H):=by
 intro pins s σ H xs us Q I r h;obtain⟨p,ys,rfl,hq,q⟩:=h;obtain⟨u,rfl,rx⟩:=vals1 r;cases rx;have hn:=fo;rcases hq with hq|hq
 ·obtain⟨its,r',pl,hz⟩:=I.list hq;have hlen:=r'.length;exact Calls.call_len_list pl.isList (by simp only[aJ]<;>lia) ⟨.int ys.length,H,I.tok _,⟨s.toks+1,by rw[aJ,hlen]⟩,q⟩
 ·obtain⟨its,r',pl,hz⟩:=I.tuple hq;have hlen:=r'.length;exact len_tuple pl (by simp only[aJ]<;>lia) ⟨.int ys.length,H,I.tok _,⟨s.toks+1,by rw[aJ,hlen]⟩,q⟩
theorem zm.or{f:ae}{r r':List V->Hp->VK->Prop}(h:zm X f r)(h':zm X f r'):zm X f (λxs H Q=>r xs H Q\/r' xs H Q):=by
 intro pins s σ H xs us Q I rs q;rcases q with q|q
 ·exact h pins s σ H xs us Q I rs q
 ·exact h' pins s σ H xs us Q I rs q
theorem yR:zm X (.type "list") (λxs H Q=>∃p ys,xs=[.ref p]/\(SqL X.K H p ys\/SqT X.K H p ys)/\∀l,H l=none->Q (.ref l) (upd H l (.lst ys))):=by
 intro pins s σ H xs us Q I r h;obtain⟨p,ys,rfl,hq,q⟩:=h;obtain⟨u,rfl,rx⟩:=vals1 r;cases rx;have fin:∀(its:List ae),Vals ys its->ys.length<=az->∀(h':Heap) (c':Nat),(∀b o',s.heap.get? b=some o'->h'.get? b=some o') ->
   h'.get? s.heap.objs.size=some {cls:=.type "list",dict:=none,data:=.seq its.toArray c',slots:=#[]}->EP X pins σ Q (.ref s.heap.objs.size) {s with heap:=h'}:=λits r' hz h' c' kp e=>
  ⟨.ref s.heap.objs.size,_,I.laid (t':=s.toks) kp (aA _) (show zx X.prog X.w _ h' _ (.lst ys)from ⟨hz,its,c',r',e⟩),rfl,q _ (I.hok.fresh (aA _))⟩
 rcases hq with hq|hq
 ·obtain⟨its,r',pl,hz⟩:=I.list hq;have hlen:=r'.length;obtain⟨o,ho,hc,n,hd⟩:=pl.isList;exact call_list_seq p (.inl rfl) ho hc hd (λh' c' kp e=>fin its r' hz h' c' kp e) (by simp only[aJ]<;>lia)
 ·obtain⟨its,r',pl,hz⟩:=I.tuple hq;have hlen:=r'.length;obtain⟨o,ho,hc,n,hd⟩:=pl;exact call_list_seq p (.inr rfl) ho hc hd (λh' c' kp e=>fin its r' hz h' c' kp e) (by simp only[aJ]<;>lia)
theorem r9:zm X (.type "tuple") (λxs H Q=>∃p ys,xs=[.ref p]/\((SqL X.K H p ys/\∀l,H l=none->Q (.ref l) (upd H l (.tup ys)))\/(SqT X.K H p ys/\Q (.ref p) H))):=by
 intro pins s σ H xs us Q I r h;obtain⟨p,ys,rfl,h⟩:=h;obtain⟨u,rfl,rx⟩:=vals1 r;cases rx;rcases h with ⟨hq,q⟩|⟨hq,q⟩
 ·obtain⟨its,r',pl,hz⟩:=I.list hq;have hlen:=r'.length;refine call_tuple_list pl.isList (λh' kp=>?_) (by simp only[aJ]<;>lia);have I1:Inv X pins σ H {s with heap:=h'}:=I.kept (t':=s.toks) kp;have I2:Inv X pins σ (upd H h'.objs.size (.tup ys)) {s with heap:=h'.push {cls:=.type "tuple",data:=.seq its.toArray}}:=
   I1.laid (t':=s.toks) (λb o e=>Heap.get?_push_of_some _ e) (aA _) (show zx X.prog X.w _ _ _ (.tup ys)from ⟨hz,its,r',IsTup.new _ _⟩)
  exact⟨.ref h'.objs.size,_,I2,rfl,q _ (I1.hok.fresh (aA _))⟩
 ·obtain⟨its,r',pl,hz⟩:=I.tuple hq;exact call_tuple_same pl ⟨.ref p,H,I,rfl,q⟩
noncomputable def tyV(K:ao)(T:String)(x:V)(H:Hp):Prop:=match x with
 | .str _=>T = "str"
 | .int _=>T = "int"
 | .ref p=>(T = "list"/\∃xs,SqL K H p xs)\/(T = "tuple"/\∃o,K.lookup p=some o/\o.cls=.type "tuple"/\o.dict=none) \/
   (T = "dict"/\((∃kvs,H p=some (.dK kvs))\/∃kvs,H p=some (.dT kvs)))\/(T = "set"/\∃S n,H p=some (.set S n))
 |_=>False
theorem w9{pins:List (Addr×Obj)}{σ:St}{H:Hp}{s:af}{T:String}{x:V}{v:ae}(I:Inv X pins σ H s)(r:RelV x v)(ty:tyV X.K T x H) :
  s.TypeIs v T/\∀a,v=.ref a->∃ob,s.heap.get? a=some ob/\ob.dict=none:=by
 cases x with
 |str z=>
  obtain⟨t,rfl⟩:=r;cases (show T = "str" from ty);exact⟨typeIs_str s z t,λ_ e=>nomatch e⟩
 |int i=>
  obtain⟨t,rfl⟩:=r;cases (show T = "int" from ty);exact⟨typeIs_int s i t,λ_ e=>nomatch e⟩
 |ref p=>
  cases r;rcases ty with ⟨rfl,xs,hq⟩|⟨rfl,o,hk,hc,hd⟩|⟨rfl,hk⟩|⟨rfl,S,n,hk⟩
  ·obtain⟨its,_,pl,_⟩:=I.list hq;refine⟨pl.isList.typeIs,λa e=>?_⟩;cases e;obtain⟨o,n,e,c,hd,_⟩:=pl;exact⟨o,e,hd⟩
  ·refine⟨⟨o,I.kIn p o hk,hc⟩,λa e=>?_⟩;cases e;exact⟨o,I.kIn _ o hk,hd⟩
  ·have z:∃o,s.heap.get? p=some o/\o.ExactDict:=by
    rcases hk with ⟨kvs,hk⟩|⟨kvs,hk⟩
    ·obtain⟨_,_,_,_,o,_,_,e,ex,_⟩:=I.hok p _ hk;exact⟨o,e,ex⟩
    ·obtain⟨_,_,_,_,o,_,_,e,ex,_⟩:=I.hok p _ hk;exact⟨o,e,ex⟩
   obtain⟨o,e,ex⟩:=z;refine⟨⟨o,e,ex.1⟩,λa e2=>?_⟩;cases e2;exact⟨o,e,ex.2.1⟩
  ·obtain⟨o,_,_,_,e,ex,_⟩:=I.hok p _ hk;refine⟨⟨o,e,ex.1⟩,λa e2=>?_⟩;cases e2;exact⟨o,e,ex.2.1⟩
 |_=>exact aM ty
noncomputable def tBM(K:ao)(T:String)(r:V->List V->Hp->VK->Prop)(to:TE)(t:TA):TE:=λσ H Q=>to σ H λx H1=>tyV K T x H1/\t σ H1 λxs H2=>r x xs H2 Q
variable{o e:Expr}{es:List Expr}{to:TE}{t:TA}{name:Str}{apos cpos:Pos}{T id:String}{r:V->List V->Hp->VK->Prop}
theorem iw(pa:PlainAttrs T)(slot:Slot T name id)(hty:typeOf (.builtin id)=pure (.type "method_descriptor"))(hm:MtR X id r)(ho:PE X o to)(ha:PA X (e::es) t)
  (hbase:attributeBase o name X.env (eval o X.env)=eval o X.env:=by rfl)
  (hfew:((backTo cpos (aH (e::es) X.env)).all (λx=>!x.1)&&(backToKw cpos (keywordEach [] X.env)).all (λx=>x.1.isSome)
   && decide ((e::es).length+([]:List Keyword).length+(if ([]:List Keyword).isEmpty then 0 else 1)<30))=true:=by rfl)
  (hline:(apos.endLine==cpos.line)=true:=by rfl) (hs:aH (e::es) X.env=(false,eval e X.env)::aH es X.env:=by rfl) (hplain:(backTo cpos (aH es X.env)).any (·.1)=false:=by rfl) :
  PE X (.Call (.Attribute o name apos) (e::es) [] cpos) (tBM X.K T r to t):=by
 intro pins s σ H Q I h;refine wpAny_Call_method_late hbase hfew hline rfl (thn (ho pins s σ H _ I h) λv s1 ⟨x,H1,I1,r1,ty,q1⟩=>?_);obtain⟨h1,h2⟩:=w9 I1 r1 ty;refine⟨T,id,pa,slot,hty,h1,h2,?_⟩;have hA:=ha cpos pins s1 σ H1 _ I1 q1;rw[hs]at hA ⊢;refine Calls.callWith_builtin (by show (false||(backTo cpos (aH es X.env)).any (·.1))=false;rw[hplain]<;>rfl) (Calls.evalArgs_plain ?_);exact thn hA λus s2 ⟨vs,H2,I2,r2,q2⟩=>hm pins s2 σ H2 x vs v us Q I2 r1 r2 q2
/- xs.append(e), list.index on a module's tuple .. are MtR facts of 06m -/
end
noncomputable def MtM(X:Cx)(id:String)(r:V->List V->Hp->VK->Prop):Prop:=
 ∀(pins:List (Addr×Obj)) (s:af) (σ:St) (H:Hp) (x:V) (xs:List V) (v:ae) (us:List ae) (Q:VK),Inv X pins σ H s->RelV x v->Vals xs us->r x xs H Q ->
  ag (ai X.prog X.w) X.A (call (.builtin id) (v::us)) (EP X pins σ Q) X.xe s
theorem Vals.one{x:V}{us:List ae}(h:Vals [x] us):∃u,us=[u]/\RelV x u:=by
 cases h with
 |cons r h=>cases h;exact⟨_,rfl,r⟩
theorem Vals.two{x y:V}{us:List ae}(h:Vals [x,y] us):∃u v,us=[u,v]/\RelV x u/\RelV y v:=by
 cases h with
 |cons r h=>cases h with
  |cons q h=>cases h;exact⟨_,_,rfl,r,q⟩
theorem Vals.zero:∀{us:List ae},Vals [] us->us=[]
 |_,.nil=>rfl
theorem Vals.eraseIdx:∀{xs:List V}{us:List ae} (i:Nat),Vals xs us->Vals (xs.eraseIdx i) (us.eraseIdx i)
 |_,_,_,.nil=>.nil
 |_,_,0,.cons _ t=>t
 |_,_,i+1,.cons r t=>.cons r (Vals.eraseIdx i t)
theorem j5{α:Type}:∀(l:List α) (i:Nat),(l.eraseIdx i).length<=l.length
 | [],_=>aA _
 |_::_,0=>Nat.le_succ _
 |_::r,i+1=>Nat.succ_le_succ (j5 r i)
section
variable{X:Cx}{pins:List (Addr×Obj)}{σ:St}{H:Hp}{s:af}{l b:Addr}{xs ys zs:List V}
theorem Inv.lset{its its':List ae}{n:Nat}{f:Array ae->Array ae}{t':Nat}(I:Inv X pins σ H s)(hH:H l=some (.lst xs))
  (e:s.heap.get? l=some {cls:=.type "list",data:=.seq its.toArray n}) (hf:f its.toArray=its'.toArray) (hv:Vals ys its') (hz:ys.length<=az) :
  Inv X pins σ (upd H l (.lst ys)) {s with heap:=s.heap.update l (Obj.mapSeq f),toks:=t'}:=by
 have q:=PySem.IsL.update e f;rw[hf]at q;refine I.write (x:=l) (e:=l) (by rw[hH];exact trivial) (.inl rfl) (λb' u hb hu=>(Heap.get?_update_other s.heap (Obj.mapSeq f) (Ne.symm hb)).trans hu) ⟨_,q⟩ ?_;exact⟨hz,its',_,hv,q⟩
theorem Inv.lnew{its:List ae}{t':Nat}(I:Inv X pins σ H s)(hv:Vals ys its)(hz:ys.length<=az) :
  Inv X pins σ (upd H s.heap.objs.size (.lst ys)) {s with heap:=s.heap.push {cls:=.type "list",data:=.seq its.toArray},toks:=t'}:=
 I.laid (λ_ _ q=>Heap.get?_push_of_some _ q) (aA _) ⟨hz,its,0,hv,Heap.get?_push_size _ rfl⟩
theorem Inv.fresh(I:Inv X pins σ H s):H s.heap.objs.size=none:=I.hok.fresh (aA _)
theorem Inv.lstM(I:Inv X pins σ H s)(hH:H l=some (.lst xs)):xs.length<=az/\∃(its:List ae) (n:Nat),Vals xs its/\xs.length=its.length/\s.heap.get? l=some {cls:=.type "list",data:=.seq its.toArray n}:=by
 obtain⟨z,its,n,r,e⟩:=I.hok l _ hH;exact⟨z,its,n,r,r.length,e⟩
end
section
variable{X:Cx}
noncomputable def nv:V->List V->Hp->VK->Prop:=λx vs H Q=>∃l xs y,x=.ref l/\vs=[y]/\H l=some (.lst xs)/\xs.length<az/\Q .non (upd H l (.lst (xs++[y])))
theorem jN:MtM X "list.append" nv:=by
 intro pins s σ H x vs v us Q I rx rv h;obtain⟨l,xs,y,rfl,rfl,hH,hz,q⟩:=h;cases rx;obtain⟨u,rfl,ru⟩:=rv.one;obtain⟨z,its,n,r,hl,e⟩:=I.lstM hH;refine call_meets F.slot_list_append ⟨_,e,rfl⟩ F.entry_list_append (F.args_list_append_2 _ _) (PySem.list_append l its.toArray n u (by rw[aJ];lia)) ⟨e,?_⟩;refine⟨.non,_,I.lset (its':=its++[u]) hH e (by simp) (r.append (.cons ru .nil)) ?_,rfl,q⟩;rw[List.length_append,List.length_singleton];lia
noncomputable def pe:V->List V->Hp->VK->Prop:=λx vs H Q=>∃l xs i k y,x=.ref l/\vs=[.int i]/\H l=some (.lst xs)/\-(2^63)<=i/\i<2^63/\seqIndex? i xs.length=some k/\xs[k]? = some y/\Q y (upd H l (.lst (xs.eraseIdx k)))
theorem wC:MtM X "list.pop" pe:=by
 intro pins s σ H x vs v us Q I rx rv h;obtain⟨l,xs,i,k,y,rfl,rfl,hH,h1,h2,hk,hy,q⟩:=h;cases rx;obtain⟨u,rfl,ru⟩:=rv.one;obtain⟨t,rfl⟩:=ru;obtain⟨z,its,n,r,hl,e⟩:=I.lstM hH;obtain⟨w,hw,rw'⟩:=r.get hy;refine call_meets F.slot_list_pop ⟨_,e,rfl⟩ F.entry_list_pop (F.args_list_pop_2 _ _)
  (MeetsSeq.list_pop_at l its.toArray n i t k w (fitsIndex_both h1 h2) (by rw[aJ,<-hl];exact hk) (by rw[<-Array.getElem?_toList];exact hw) (by rw[aJ];lia)) ⟨e,?_⟩
 refine⟨y,_,I.lset (its':=its.eraseIdx k) hH e ?_ (r.eraseIdx k) ?_,rw',q⟩
 ·show its.toArray.eraseIdxIfInBounds k=(its.eraseIdx k).toArray;rw[List.eraseIdxIfInBounds_toArray]
 ·have:=j5 xs k;lia
end
section
variable{prog:aq}{w:aj}{A:ar}{E:ae->af->Prop}{s:af}
set_option maxRecDepth 100000 in
end
section
variable{X:Cx}
end
end L2
namespace Att
open PySem PySem.W PySem.Calls PyProof.Rows
theorem pV{P:Params}{h:Heap}:∀(ns:List Int) (vs:List ae),WellAll P h vs (ns.map WData.int)->IntsAre vs ns:=by
 intro ns
 induction ns with
 |nil=>
  intro vs w;rw[List.map_nil]at w;cases w;exact .nil
 |cons n ns ih=>
  intro vs w;rw[aK]at w;cases w with
  |cons a b=>
   cases a;exact .cons _ _ (ih _ b)
theorem xH{l:OpenLaw}{n:Nat}(hn:l.most=some n){P:Params}{h:Heap}{args:List WData}{vals:List ae}
  (hpre:l.row.toRowW.claim.pre args=true) (hwl:WellAll P h vals args) :
  ∃a vs ns,vals=[aG a]/\args=[WData.list (ns.map WData.int)]/\h.get? a=some {cls:=.type "list",data:=.seq vs.toArray}/\IntsAre vs ns/\ns.length<=n:=by
 have hsh:WShape.hasAll [] args [.list .int]=true:=(pre_splitW hpre).1;have hc:l.pre.holds [] {args:=args}=true:=(pre_splitW hpre).2;obtain⟨d,r,rfl,h1,h2⟩:=hasAllW_cons hsh;obtain rfl:=hasAllW_nil h2;obtain⟨xs,rfl,h3⟩:=hasW_list h1;obtain⟨ns,rfl⟩:=items_int h3;have hlen:ns.length<=n:=by
  unfold OpenLaw.pre at hc;have h4:(WTm.not (.lt (.lit (.int (n:Int))) (.len (.arg 0)))).holds [] {args:=[.list (ns.map .int)]}=true:=by
   have h4:=(holds_andW hc).1;rw[hn]at h4;exact h4
  have h5:=condW_of h4 (w_not (w_lt w_lit (w_len_list (w_arg rfl))));rw[a6]at h5;refine Nat.le_of_not_lt λq=>?_
  have q':(n:Int)<((ns.length:Nat):Int):=by lia
  first
   | (rw[decide_eq_true q']at h5;exact absurd h5 (by decide))
   | (simp at h5;lia)
 cases hwl with
 |cons w1 w2=>
  cases w2;cases w1 with
  |list ho hall=>exact⟨_,_,ns,rfl,rfl,ho,pV ns _ hall,hlen⟩
theorem tP(l:OpenLaw)(args:List WData):l.row.toRowW.claim.post args (.bool true) args=true:=
 postW_of (r:=l.row.toRowW) (X:=(true==true))
  (show WShape.has [] (.bool true) .bool=true by first|rfl|decide|simp[WShape.has,WShape.arms,WShape.armsAll])
  (show (WTm.eq .res (.lit (.bool true))).value [] {args:=args,res:=some (.bool true),after:=args}=some (.bool (true==true))from w_eq_bool (w_res rfl) w_lit) rfl
theorem pU{l:OpenLaw}{n:Nat}{q:aq}{loose:List Str}{XP:(Str->Option ae)->Heap->Prop}{YP:aj->Heap->Prop}{d:DefRec}
  (hn:l.most=some n) (hdf:d.params.defaults=[])
  (call:∀(w:aj) (s₀ s₁:af) (mg mb:Str->Option ae) (fa:Addr) (o:Obj) (pm cd doc:ae) (a:Addr) (vs:List ae) (ns:List Int),
   Ground q loose [] XP w s₀ mg mb s₁.heap->YP w s₁.heap ->
   s₁.heap.get? fa=some o->o.data=.func (docDef d.name d.params d.body d.scope pm cd doc)->s₁.heap.CodeRec cd d.name->mg d.name=some (.ref fa) ->
   s₁.heap.get? a=some {cls:=.type "list",data:=.seq vs.toArray}->IntsAre vs ns->ns.length<=n->s₁.gens = #[] ->
   codeAny (ai l.prog w) callerA (.call (.ref fa) ⟨[.ref a],[]⟩) (λr s'=>r=.ok (.ret (.bool true))/\OldK s₁.heap s'.heap/\s'.os=s₁.os/\AllBare s'.gens) s₁) :
  WalkO q loose XP YP l.row.toRowW d [] (λf vs=>PySem.call f vs):=by
 intro w s₀ s₁ mg mb G Y fa o pm cd doc dV kV ho hd hcd hD hmg hg args vals as hpre hlay hrd hwl hlo;obtain rfl:dV=.none:=Dflts.none hD hdf;obtain rfl:kV=.none:=Dflts.noKw hD;obtain⟨a,vs,ns,rfl,rfl,hobj,hints,hlen⟩:=xH hn hpre hwl;refine enter_call (codeAny_mono (call w s₀ s₁ mg mb fa o pm cd doc a vs ns G Y ho (fd_plain hd) hcd hmg hobj hints hlen hg) λr s' hq=>?_);obtain⟨rfl,h2,h3,h4⟩:=hq;exact⟨.inl ⟨.bool true,.bool true,[],rfl,λ_=>rfl,.bool true,tP l _,λ_=>⟨List.Pairwise.nil,λ_ hm=>(nomatch hm)⟩⟩,h2,h3,h4⟩
section
variable{prog:aq}{w:aj}{A:ar}{E:ae->af->Prop}{s:af}{K:Frag}
end
end Att
namespace L2
open PySem PySem.Spec PyProof.Rows
theorem lp:∀{vs:List ae}{ns:List Int},IntsAre vs ns->Vals (ns.map V.int) vs
 |_,_,.nil=>.nil
 |_,_,.cons n t h=>.cons ⟨t,rfl⟩ (lp h)
noncomputable def gW(H:Hp):Prop:=∀b,H b=none\/∃o xs,H b=some (.frz o (.lst xs))
theorem yG{P:aq}{w:aj}{K:ao}{mg mb:Str->Option ae}{CX:CXT}{k:Nat}{fa a:Addr}{fd:FuncData}{x:Str}{sp:Sp}{s₁:af}{vs:List ae}{ns:List Int}
  (KX:K.In s₁.heap) (hns:s₁.heap.Ns ay mg) (hb:s₁.heap.Ns builtinsNs mb) (hbb:∀x:Str,x≠"__name__"->mb x=bc x) (hlim:s₁.heap.NoLimit) (hg:s₁.gens = #[])
  (ha:s₁.heap.get? a=some {cls:=.type "list",data:=.seq vs.toArray}) (hi:IntsAre vs ns) (hl:ns.length<=az) (hr:bQ k callerA)
  (F:∀base:Heap,K.In base->base.Ns ay mg->du P w K mg base CX k fa fd [x] sp) (hbind:∀(s:af) (u:ae),BindsTo s fd ⟨[u],[]⟩ [(x,u)])
  (hsp:∀H:Hp,gW H->SqL K H a (ns.map V.int)->sp [.ref a] H (λv _=>v=.bl true) λ_ _ _=>False)
  (hCX:∀H e s',CX [] H s₁ (λ_ _ _=>False) e s'->False) :
  codeAny (ai P w) callerA (.call (.ref fa) ⟨[.ref a],[]⟩) (λr s'=>r=.ok (.ret (.bool true))/\OldK s₁.heap s'.heap/\s'.os=s₁.os/\AllBare s'.gens) s₁:=by
 have rv:=lp hi;have lenV:=hi.length
 -- from an abstract heap in which nothing but the script may be tracked
 have core:∀H:Hp,gW H->SqL K H a (ns.map V.int)->HOk P w H s₁.heap->(∀b,H b≠none->b=a)->(H a≠none->K.lookup a=none) ->
   codeAny (ai P w) callerA (.call (.ref fa) ⟨[.ref a],[]⟩) (λr s'=>r=.ok (.ret (.bool true))/\OldK s₁.heap s'.heap/\s'.os=s₁.os/\AllBare s'.gens) s₁:=by
  intro H hO hS hok hA hK;have base_of:∀{b:Addr}{o:Obj},s₁.heap.get? b=some o->H b=none->(cR s₁.heap H).get? b=some o:=λe n=>y_ e n
  have noA:∀{b:Addr}{o:Obj}{es:Array DictEntry}{ep:Nat},s₁.heap.get? b=some o->o.data=.dict es ep->H b=none:=λ{b o es ep} e d=>by
   cases q:H b with
   |none=>rfl
   |some u=>
    have e':b=a:=hA b (by rw[q];simp);subst e';rw[ha]at e;cases e;have d':Data.seq vs.toArray _=Data.dict es ep:=d;cases d'
  have nsK:∀{b:Addr}{m:Str->Option ae},s₁.heap.Ns b m->(cR s₁.heap H).Ns b m:=λ{b m} ⟨o,es,ep,e,d,r⟩=>⟨o,es,ep,base_of e (noA e d),d,r⟩
  have hKb:K.In (cR s₁.heap H):=λb o e=>base_of (KX b o e) (by
   cases q:H b with
   |none=>rfl
   |some u=>
    have e':b=a:=hA b (by rw[q];simp);subst e';rw[hK (by rw[q];simp)]at e;cases e)
  have hM:Mod K mg (cR s₁.heap H):=⟨hKb,nsK hns,⟨mb,nsK hb,hbb⟩,let ⟨mc,h1,h2⟩:=hlim;⟨mc,nsK h1,h2⟩⟩
  have e0:ff P w K mg (cR s₁.heap H) callerA [] s₁ H:=⟨rfl,hM,λb o e=>nR e,Nat.le_of_eq (nj _ _),trivial,λb hb=>absurd (show b∈([]:List Addr)from hb) (by simp),hok,.of_eq hg⟩
  refine codeAny_mono ((F _ hKb (nsK hns)).run callerA [] s₁ H ⟨[.ref a],[]⟩ [.ref a] [.ref a] _ _ hr e0 (hbind s₁ (.ref a)) (.cons rfl .nil) (hsp H hO hS)) λr s' h=>?_
  cases r with
  |error e=>exact(hCX H e s' h).elim
  |ok fl=>
   cases fl with
   |next=>exact aM h
   |brk=>exact aM h
   |cont=>exact aM h
   |ret u=>
    obtain⟨v,H',os,bare,un,hok',r',q⟩:=h;have q':v=.bl true:=q;subst q';obtain rfl:u=ae.bool true:=r';refine⟨rfl,OldK.of_keep λb o e=>?_,os,bare⟩;cases q:H b with
    |none=>exact un.keep b o e q (by intro z;exact absurd (show b∈([]:List Addr)from z) (by simp)) (by simp)
    |some u=>
     rcases hO b with z|⟨ob,xs,z⟩
     ·rw[q]at z;cases z
     ·have z2:=un.frzs b ob _ z;obtain⟨e1,_⟩:=hok b _ z;obtain⟨e2,_⟩:=hok' b _ z2;rw[e]at e1;cases e1;exact e2
 cases hk:K.lookup a with
 |some o=>
  -- the script is one of the module's own objects
  have e:=KX a o hk;rw[ha]at e;cases e;refine core (λ_=>none) (λ_=>.inl rfl) (.inr ⟨_,vs.toArray,_,hk,rfl,rfl,rfl,by rw[aJ,lenV];exact hl,by simpa using rv⟩) (λb u z=>by have z':(none:Option HO)=some u:=z;cases z') (λb z=>absurd rfl z) λz=>absurd rfl z
 |none=>
  refine core (λb=>if b=a then some (.frz {cls:=.type "list",data:=.seq vs.toArray} (.lst (ns.map V.int)))else none) (λb=>?_) (.inl (.inr ⟨{cls:=.type "list",data:=.seq vs.toArray},if_pos rfl⟩)) (λb u z=>?_) (λb z=>?_) λ_=>hk
  ·by_cases hb:b=a
   ·exact .inr ⟨_,_,if_pos hb⟩
   ·exact .inl (if_neg hb)
  ·by_cases hb:b=a
   ·have z':=(if_pos hb).symm.trans z;cases z';subst hb;exact⟨ha,by rw[a6];exact hl,vs,_,rv,ha⟩
   ·have z':=(if_neg hb).symm.trans z;cases z'
  ·by_cases hb:b=a
   ·exact hb
   ·exact absurd (if_neg hb) z
theorem xw{l:PySem.W.OpenLaw}{n k:Nat}{q:aq}{loose:List Str}{XP:(Str->Option ae)->Heap->Prop}{YP:aj->Heap->Prop}{d:DefRec}{K:Params->ao}{CX:aj->CXT}{sp:aj->Sp}{x:Str}
  (hn:l.most=some n) (hn2:n<=az) (hdf:d.params.defaults=[]) (hr:bQ k callerA)
  (hY:∀(w:aj) (h:Heap),YP w h->(K w.params).In h)
  (F:∀(w:aj) (mg:Str->Option ae) (fa:Addr) (h:Heap),(K w.params).In h->h.Ns ay mg->mg d.name=some (.ref fa) ->
   ∃fd:FuncData,(∀(s:af) (u:ae),BindsTo s fd ⟨[u],[]⟩ [(x,u)]) /\
    ∀base:Heap,(K w.params).In base->base.Ns ay mg->du l.prog w (K w.params) mg base (CX w) k fa fd [x] (sp w))
  (hsp:∀(w:aj) (H:Hp) (a:Addr) (ns:List Int),ns.length<=n->gW H->SqL (K w.params) H a (ns.map V.int)->sp w [.ref a] H (λv _=>v=.bl true) λ_ _ _=>False)
  (hCX:∀(w:aj) (H:Hp) (s:af) (e:ae) (s':af),CX w [] H s (λ_ _ _=>False) e s'->False) :
  PySem.W.WalkO q loose XP YP l.row.toRowW d [] (λf vs=>PySem.call f vs):=by
 refine Att.pU hn hdf λw s₀ s₁ mg mb fa o pm cd doc a vs ns G Y ho hd hcd hmg hobj hints hlen hg=>?_
 have KX:=hY w _ Y;obtain⟨fd,hb,hF⟩:=F w mg fa _ KX G.T.g hmg;exact yG KX G.T.g G.T.b G.T.builtins G.T.nolimit hg hobj hints (a5 hlen hn2) hr hF hb (λH hO hS=>hsp w H a ns hlen hO hS) λH e s'=>hCX w H s₁ e s'
end L2
/- THE LAST THEOREM (shape; LID, My.* are yours):
   My.Adr: a structure of the addresses that your layer names (classes, functions); My.Txt K t: a structure (Prop) of the equations over K;
   My.txt_mk : {K} {implicit addresses ..} (e1 : nsIn K mainGlobals "law" = some (some (.ref f))) (e2 : K.lookup f = some ⟨oc, od, .func (fnOf "law" "law" params body scope dV kV doc pm an cdv ct), sl⟩) (e3 : codeIn K cdv "law" = true) .. : ∃ t, My.Txt K t
set_option maxRecDepth 100000 in
set_option maxHeartbeats 0 in
theorem PySem.Challenge.cw_LID_holds : PySem.Challenge.rw_LID.Holds := by
 w_on; o_law; k_head; (case hw => w_witness2)
 k_fill
 refine L2.walk_of (l := PySem.Challenge.rw_LID) (n := 63) (k := 40) (x := "script") (CX := fun w => ..) (sp := fun _ => My.sp_law) rfl (by decide) rfl ⟨rfl, by decide, by decide⟩ (fun w h Y => PySem.W.kIn_of Y) ?F ?S ?C
 case F =>
  intro w mg fa h KX G hmg;have T : ∃ t, My.Txt (L2.KOf KX) t := by
   dsimp only [L2.KOf]                          -- K must stand as «<heap const> w.params» for k_is
   refine' My.txt_mk ?e1 ?e2 ?e3 ..
   (case e1 => PySem.W.k_is)                    -- in the order: a name -> its address -> its object -> its parts
   (case e2 => PySem.W.k_is)
   ..
  obtain ⟨t, T⟩ := T;have e0 := hmg.symm.trans (PySem.W.mg_of KX G T.law);cases e0                                       -- fa is the law's own address
  exact ⟨_, fun s u => .of_eq rfl, fun base kb nb => My.law_fn T kb nb⟩     -- if «.of_eq rfl» comes too early: refine' ⟨_, ?b, fun base kb nb => My.law_fn T kb nb⟩; exact fun s u => .of_eq rfl
 case S => exact fun w H a ns hl hO hS => ..
 case C => exact ..
(the tactic k_is has no namespace: write k_is) -/
namespace L2
open PySem PySem.Spec PyProof.Rows
noncomputable def zt(s:Stmt):Arguments:=match s with
 | .FunctionDef _ a _ _ _ _ _ _ _ _=>a
 |_=>{posonlyargs:=[],args:=[],vararg:=none,kwonlyargs:=[],kw_defaults:=[],kwarg:=none,defaults:=[]}
noncomputable def cA(s:Stmt):List Stmt:=match s with
 | .FunctionDef _ _ b _ _ _ _ _ _ _=>b
 |_=>[]
noncomputable def zl(s:Stmt):Scope:=match s with
 | .FunctionDef _ _ _ _ _ _ sc _ _ _=>sc
 |_=>{kind:=.function,names:=[],isGenerator:=false,isCoroutine:=false}
abbrev E0:XK:=λ_ _ _=>False
structure Fun(K:ao)(x qual:Str)(st:Stmt)(f:Addr)(fd:FuncData):Prop where
 ex:∃(oc:ae) (od:Option Addr) (kV doc pm:ae) (an:Option Addr) (cdv ct:ae) (osl:Array (Option ae)),
  fd=bO x qual (zt st) (cA st) (zl st) .none kV doc pm an cdv ct/\K.lookup f=some ⟨oc,od,.func fd,osl⟩/\PySem.W.codeIn K cdv qual=true
 kp:bT K (.ref f)=true
section
variable{P:aq}{w:aj}{K:ao}{mg:Str->Option ae}{base:Heap}
theorem Fun.binds{x qual:Str}{st:Stmt}{f:Addr}{fd:FuncData}{ps:List Str}(F:Fun K x qual st f fd)
  (h:∀(kV doc pm:ae) (an:Option Addr) (cdv ct:ae) (us:List ae),us.length=ps.length->bindArgs (bO x qual (zt st) (cA st) (zl st) .none kV doc pm an cdv ct) ⟨us,[]⟩=pure (ps.zip us)):Binds K fd ps []:=by
 obtain⟨oc,od,kV,doc,pm,an,cdv,ct,osl,rfl,lk,hcd⟩:=F.ex;exact .all (h kV doc pm an cdv ct)
theorem lj{x qual:Str}{st:Stmt}{f:Addr}{oc:ae}{od an:Option Addr}{osl:Array (Option ae)}{kV doc pm cdv ct:ae}(l:K.lookup f=some ⟨oc,od,.func (bO x qual (zt st) (cA st) (zl st) .none kV doc pm an cdv ct),osl⟩)
  (c:PySem.W.codeIn K cdv qual=true) (k:bT K (.ref f)=true):Fun K x qual st f (bO x qual (zt st) (cA st) (zl st) .none kV doc pm an cdv ct):=⟨⟨oc,od,kV,doc,pm,an,cdv,ct,osl,rfl,l,c⟩,k⟩
end
section
variable{X:Cx}
end
noncomputable def qa(H H':Hp):Prop:=∀b o,H b=some o->H' b=some o
theorem qa.refl(H:Hp):qa H H:=λ_ _ h=>h
theorem qa.trans{H H1 H2:Hp}(a:qa H H1)(b:qa H1 H2):qa H H2:=λc o h=>b c o (a c o h)
theorem qa.free{H H':Hp}(e:qa H H'){l:Addr}(h:H' l=Option.none):H l=Option.none:=by
 cases q:H l with
 |none=>rfl
 |some o=>
  rw[e l o q]at h;cases h
theorem qa.seq{K:ao}{H H':Hp}{a:Addr}{xs:List V}(e:qa H H')(h:SqL K H a xs):SqL K H' a xs:=by
 rcases h with (h|⟨o,h⟩)|h
 ·exact .inl (.inl (e _ _ h))
 ·exact .inl (.inr ⟨o,e _ _ h⟩)
 ·exact .inr h
noncomputable def cW(elt:Expr)(gens:List bz)(scope:aI)(pos:Pos)(d:Nat)(acc:ae)(env:Env):Sem Unit:=
 match gens[d+1]? with
 |some g'=>do
  let x <-eval g'.iter env
  standAt g'.iter.pos
  let x <-foldedSetIterable g'.iter env x
  let _ <-runOwn (.compStart (.ListComp elt gens scope pos) (d+1) (<-holding [x] (pyIter x)) acc env) env
  pure ()
 |none=>do
  let _ <-call (.builtin "list.append") [acc,<-eval elt env]
  pure ()
theorem Ag{elt:Expr}{gens:List bz}{scope:aI}{pos:Pos}{d:Nat}{g:bz}{it acc:ae}{env:Env}(hg:gens[d]? = some g)(ha:g.is_async=0)
  (hn:∀g',gens[d+1]? = some g'->g'.is_async=0) :
  compTurn (.ListComp elt gens scope pos) d it acc env=(do
   standAt g.iter.pos
   match <-pyNext it with
   |none=>pure (.done .next)
   |some v=>
    letOwnedTupleGo g.target it v
    assign g.target env v
    let ok <-(forIn g.ifs true λc r=>if r=true then do let ok <-isTrue c env (eval c env);pure (b4 ok)else pure (b4 r))
    if ok then
     cW elt gens scope pos d acc env
     again (.compLoop (.ListComp elt gens scope pos) d it acc env)
    else again (.compLoop (.ListComp elt gens scope pos) d it acc env)):=by
 unfold compTurn;cases e:gens[d+1]? with
 |none=>
  simp only[hg,ha,e,cW]
  rfl
 |some g'=>
  have ha':=hn g' e;simp only[hg,ha,e,ha',cW];simp only[bne_self_eq_false,a7,if_false,bind_assoc,pure_bind]
  rfl
theorem m_{prog:aq}{w:aj}{A:ar}{R:Result->af->Prop}{s:af}{elt:Expr}{gens:List bz}{scope:aI}{pos:Pos}{d:Nat}{g:bz}{it acc:ae}{env:Env}
  (hg:gens[d]? = some g) (ha:g.is_async=0)
  (h0:codeAny (ai prog w) A (.compLoop (.ListComp elt gens scope pos) d it acc env) R s)
  (h:ag (ai prog w) A (pyIter it) (λit' s'=>codeAny (ai prog w) A (.compLoop (.ListComp elt gens scope pos) d it' acc env) R s')
   (notedBy (ai prog w) A env λx s'=>R (.error x) s') s) :
  codeAny (ai prog w) A (.compStart (.ListComp elt gens scope pos) d it acc env) R s:=by
 refine codeAny_of_tree ?_;show ag _ _ ((compStart (.ListComp elt gens scope pos) d it acc env).onRaise (λx=>do noteFrame x env;standAt theWindowsPlace)) _ _ s;refine wpAny_notedAt ?_;unfold compStart;have e2:(clausesOf (.ListComp elt gens scope pos))[d]? = some g:=hg;simp only[e2];rw[if_neg (by show ¬ (g.is_async != 0)=true;simp[ha])];show ag _ _ (ask>>=_) _ _ s;refine ah (wpAny_askSetting (wpAny_ite ?_));split
 ·first
   |exact ah (av (av (ak rfl h0)))
   |exact av (ak rfl h0)
 ·first
   |exact ah (wpAny_rule (ah (wpAny_standAt (ah (wpAny_mono h (λit' s' h'=>av (ak rfl h')) λ_ _ x=>x)))))
   | (refine ah (wpAny_rule ?_);show ag _ _ (standAt g.iter.pos>>=_) _ _ s;exact ah (wpAny_standAt (ah (wpAny_mono h (λit' s' h'=>av (ak rfl h')) λ_ _ x=>x))))
noncomputable def PTs(Y:Cx)(ifs:List Expr)(t:TT):Prop:=
 ∀(pins:List (Addr×Obj)) (s:af) (σ:St) (H:Hp) (Q:Bool->Hp->Prop),Inv Y pins σ H s->t σ H Q ->
  ag (ai Y.prog Y.w) Y.A (forIn ifs true λc r=>if r=true then do let ok <-isTrue c Y.env (eval c Y.env);pure (b4 ok)else pure (b4 r)) (TP Y pins σ Q) Y.xe s
noncomputable def xy:TT:=λ_ H Q=>Q true H
theorem oJ{Y:Cx}:PTs Y [] xy:=λ_ _ _ H _ I h=>wpAny_tests_nil ⟨H,I,h⟩
theorem oH{Y:Cx}{c:Expr}{t:TT}(hc:PT Y c t):PTs Y [c] t:=λpins s σ H Q I h=>wpAny_tests_one (hc pins s σ H Q I h)
noncomputable def PB(Y:Cx)(m:Sem Unit)(t:TS):Prop:=
 ∀(pins:List (Addr×Obj)) (s:af) (σ:St) (H:Hp) (D:Ends),Inv Y pins σ H s->t D σ H ->
  ag (ai Y.prog Y.w) Y.A m (λ_ s'=>∃σ' H',Inv Y pins σ' H' s'/\D.nx σ' H') Y.xe s
section
variable{Y:Cx}{elt:Expr}{gens:List bz}{scope:aI}{pos:Pos}{d:Nat}
noncomputable def fZ(acc:Addr)(te:TE):TS:=λD σ H=>te σ H λy H1=>∃xs,H1 acc=some (.lst xs)/\xs.length<az/\D.nx σ (upd H1 acc (.lst (xs++[y])))
theorem lG{acc:Addr}{te:TE}(hn:gens[d+1]? = none)(he:PE Y elt te):PB Y (cW elt gens scope pos d (.ref acc) Y.env) (fZ acc te):=by
 intro pins s σ H D I h;unfold cW;rw[hn];refine ah (thn (he pins s σ H _ I h) λu s1 ⟨y,H1,I1,r1,xs,hx,hz,q⟩=>?_);refine ah (thn (jN pins s1 σ H1 (.ref acc) [y] (.ref acc) [u] (λ_ H'=>D.nx σ H') I1 rfl (.cons r1 .nil) ⟨acc,xs,y,rfl,rfl,hx,hz,q⟩) λ_ s2 ⟨_,H2,I2,_,q2⟩=>?_);exact av ⟨σ,H2,I2,q2⟩
theorem xF{g:bz}{it:Addr}{acc:ae}{fp:List Addr}{tn:Nat->Heap->Prop}{J:It}{tg:TG}{tt:TT}{tb:TS}(hc:Y.calm=true)(hx:∀e s,¬ Y.xe e s)(hg:gens[d]? = some g)(ha:g.is_async=0)
  (hn:∀g',gens[d+1]? = some g'->g'.is_async=0) (T:Turn Y.prog Y.w Y.K g.target J fp it tn) (pg:PG Y g.target tg) (pt:PTs Y g.ifs tt) (pb:PB Y (cW elt gens scope pos d acc Y.env) tb)
  {pins:List (Addr×Obj)}{s:af}{σ:St}{H:Hp}{D:Ends} (I:Inv Y pins σ H s) (st:tn 0 s.heap) (fr:∀b∈fp,cc Y pins H b)
  (h:∃W:Nat->Nat->St->Hp->Prop,(∃m,W 0 m σ H)/\∀i m σ H,W i m σ H ->
   (J.stop i H/\D.nx σ H)\/(J.go i H/\∃N:St->Hp->Prop,(∀σ' H',N σ' H'->∃m',m'<m/\W (i+1) m' σ' H')/\∀x H',J.yld i H x H'->tg x σ H' λσ2 H2=>fS tt tb fu {D with nx:=N,ct:=N,bk:=D.nx} σ2 H2)) :
  codeAny (ai Y.prog Y.w) Y.A (.compLoop (.ListComp elt gens scope pos) d (.ref it) acc Y.env) (λr s'=>r=.ok .next/\∃σ' H',Inv Y pins σ' H' s'/\D.nx σ' H') s:=by
 obtain⟨W,⟨m0,w0⟩,turn⟩:=h;have stat:∀{H':Hp},(∀b∈fp,H' b=none)->∀b∈fp,cc Y pins H' b:=λhn b hb=>⟨hn b hb,(fr b hb).2⟩
 refine codeAny_loop rfl (λn s'=>∃i σ' H',Inv Y pins σ' H' s'/\tn i s'.heap/\(∀b∈fp,H' b=none)/\W i n σ' H') ?_ m0 ⟨0,σ,H,I,st,λb hb=>(fr b hb).1,w0⟩;rintro n s3 ⟨i,σ3,H3,I3,st3,fr3,w3⟩;show ag _ Y.A ((compTurn (.ListComp elt gens scope pos) d (.ref it) acc Y.env).onRaise (λx=>do noteFrame x Y.env;theTreesLotGoes x)) _ _ s3;refine wpAny_noted ?_;rw[Ag hg ha hn];have nox:∀{E:ae->af->Prop} (e:ae) (s:af),Y.xe e s->E e s:=λe s z=>absurd z (hx e s)
 refine ah (wpAny_standAt ?_);rcases turn i n σ3 H3 w3 with ⟨stop,qn⟩|⟨go,N,hN,step⟩
 ·refine ah (thn (T.done Y rfl rfl rfl hc i pins s3 σ3 H3 _ I3 (stat fr3) st3 stop) λr s4 ⟨hr,I4⟩=>?_);subst hr;exact av ⟨rfl,σ3,H3,I4,qn⟩
 ·refine ah (thn (T.item Y rfl rfl rfl hc i pins s3 σ3 H3 _ I3 (stat fr3) st3 go) λr s4 ⟨u,hr,h4⟩=>?_);subst hr;refine ah (thn h4 λ_ s5 ⟨x,H5,I5,r5,y5,st5,fr5⟩=>?_);have I5':=I5.pinned (stat fr5) (T.obj _ _ st5);refine ah (wpAny_mono (pg _ s5 σ3 H5 x u _ I5' r5 (step x H5 y5)) (λ_ s6 ⟨σ6,H6,I6,q6⟩=>?_) nox);have again:∀{s7:af}{σ7:St}{H7:Hp},Inv Y (pins++fq fp s5.heap) σ7 H7 s7->N σ7 H7->∃m,m<n/\∃i σ' H',Inv Y pins σ' H' s7/\tn i s7.heap/\(∀b∈fp,H' b=none)/\W i m σ' H':=λ{s7 σ7 H7} I7 n7=>by
   obtain⟨m',hm,w7⟩:=hN σ7 H7 n7;refine⟨m',hm,i+1,σ7,H7,I7.unpinned,T.keep _ _ _ st5 λb hb o e=>(I7.pin (b,o) (bJ _ (bJ _ (gb hb e)))).1,λb hb=>?_,w7⟩;obtain⟨o,e,d⟩:=T.obj _ _ st5 b hb;exact(I7.pin (b,o) (bJ _ (bJ _ (gb hb e)))).2.1
  refine ah (wpAny_mono (pt _ s6 σ6 H6 _ I6 q6) (λb s7 ⟨H7,I7,q7⟩=>?_) nox);cases b with
  |true=>
   rw[if_pos rfl];rw[if_pos rfl]at q7;refine ah (wpAny_mono (pb _ s7 σ6 H7 _ I7 q7) (λ_ s8 ⟨σ8,H8,I8,q8⟩=>?_) nox);exact av ⟨rfl,again I8 q8⟩
  |false=>
   rw[if_neg bZ];rw[if_neg bZ]at q7;exact av ⟨rfl,again I7 q7⟩
end
theorem jr{env:Env}:∀{names:List (Str×aD)}{cs:List (Str×Addr)},(∀x∈names,x.2=.free->∃c,env.cells.lookup x.1=some c) ->
  ∃cl,(forIn names cs (λ(x:Str×aD) (cs:List (Str×Addr))=>if (x.2==br)=true then do let c <-cellOf env x.1;pure (b4 ((x.1,c)::cs))else pure (b4 cs)):Sem (List (Str×Addr)))=pure cl /\
   (∀x c,cl.lookup x=some c->env.cells.lookup x=some c\/cs.lookup x=some c)/\(∀x,(∃c,cs.lookup x=some c)->∃c,cl.lookup x=some c)/\∀x∈names,x.2=.free->∃c,cl.lookup x.1=some c
 | [],cs,_=>⟨cs,by rw[List.forIn_nil],λ_ _ h=>.inr h,λ_ h=>h,λ_ h=>nomatch h⟩
 | (n,k)::r,cs,h=>by
  rw[List.forIn_cons];by_cases hk:k=.free
  ·subst hk;obtain⟨c,hc⟩:=h (n,.free) aP rfl;have e:cellOf env n=pure c:=by
    have hc':env.cells.lookup n=some c:=hc;unfold cellOf;rw[hc']
   obtain⟨cl,e1,e2,e3,e4⟩:=jr (names:=r) (cs:=(n,c)::cs) λx hx=>h x (aO _ hx)
   refine⟨cl,?_,λx c' q=>?_,λx q=>e3 x ?_,λx hx hf=>?_⟩
   ·simp only[beq_self_eq_true,if_true,e,pure_bind];exact e1
   ·rcases e2 x c' q with z|z
    ·exact .inl z
    ·rw[aW]at z;by_cases hxn:(x==n)=true
     ·rw[hxn]at z;have:x=n:=by simpa using hxn
      subst this;cases z;exact .inl hc
     ·have hxn':(x==n)=false:=by simpa using hxn
      rw[hxn']at z;exact .inr z
   ·rw[aW];by_cases hxn:(x==n)=true
    ·rw[hxn];exact⟨c,rfl⟩
    ·have hxn':(x==n)=false:=by simpa using hxn
     rw[hxn'];exact q
   ·rcases aL.mp hx with z|z
    ·subst z;exact e3 n ⟨c,by rw[aW,beq_self_eq_true]⟩
    ·exact e4 x z hf
  ·have hk':(k==br)=false:=by simpa using hk
   obtain⟨cl,e1,e2,e3,e4⟩:=jr (names:=r) (cs:=cs) λx hx=>h x (aO _ hx)
   refine⟨cl,?_,e2,e3,λx hx hf=>?_⟩
   ·simp only[hk',a7,if_false,pure_bind];exact e1
   ·rcases aL.mp hx with z|z
    ·subst z;exact absurd hf hk
    ·exact e4 x z hf
theorem k9{env:Env}{scope:aI}(h:∀x∈scope.names,x.2=.free->∃c,env.cells.lookup x.1=some c) :
  ∃cl,closureFor scope env=pure cl/\(∀x c,cl.lookup x=some c->env.cells.lookup x=some c)/\∀x∈scope.names,x.2=.free->∃c,cl.lookup x.1=some c:=by
 obtain⟨cl,e1,e2,_,e4⟩:=jr (env:=env) (names:=scope.names) (cs:=[]) h;refine⟨cl,?_,λx c q=>(e2 x c q).elim (λz=>z) (λz=>by simp at z),e4⟩;have e:closureFor scope env=(forIn scope.names [] (λ(x:Str×aD) (cs:List (Str×Addr))=>if (x.2==br)=true then do let c <-cellOf env x.1;pure (b4 ((x.1,c)::cs))else pure (b4 cs))>>=λcs=>pure cs):=rfl;rw[e,e1,pure_bind]
theorem gC{env:Env}:∀{names:List (Str×aD)}{x:Str}{k:aD},
  (names.map λ(n,k)=>if (k==br&&env.scope.kind==.function&&env.kindOf n==some .cell)then (n,aD.cell)else (n,k)).lookup x=some k ->
  names.lookup x=some k\/(k=.cell/\names.lookup x=some .free)
 | [],_,_,h=>by simp at h
 | (n,k')::r,x,k,h=>by
  have ih:=@gC env r x k;have h':List.lookup x ((if (k'==br&&env.scope.kind==.function&&env.kindOf n==some .cell)=true then (n,aD.cell)else (n,k'))::r.map (λ(n,k)=>if (k==br&&env.scope.kind==.function&&env.kindOf n==some .cell)then (n,aD.cell)else (n,k)))=some k:=h;cases hx:x==n with
  |true=>
   by_cases hc:(k'==br&&env.scope.kind==.function&&env.kindOf n==some .cell)=true
   ·rw[if_pos hc]at h';simp only[aW,hx]at h';cases h';have:k'=.free:=by
     have z:(k'==br)=true:=by
      cases q:(k'==br)with
      |true=>rfl
      |false=>rw[q]at hc;simp at hc
     simpa using z
    subst this;exact .inr ⟨rfl,by simp[aW,hx]⟩
   ·rw[if_neg hc]at h';simp only[aW,hx]at h';cases h';exact .inl (by simp[aW,hx])
  |false=>
   have h2:(r.map (λ(n,k)=>if (k==br&&env.scope.kind==.function&&env.kindOf n==some .cell)then (n,aD.cell)else (n,k))).lookup x=some k:=by
    by_cases hc:(k'==br&&env.scope.kind==.function&&env.kindOf n==some .cell)=true
    ·rw[if_pos hc]at h';simpa only[aW,hx]using h'
    ·rw[if_neg hc]at h';simpa only[aW,hx]using h'
   rcases ih h2 with z|z
   ·exact .inl (by simpa only[aW,hx]using z)
   ·exact .inr ⟨z.1,by simpa only[aW,hx]using z.2⟩
noncomputable def fD(names:List (Str×aD)):List Str:=(names.filter λy=>y.2==.cell).map (·.1)
theorem jl:∀(names:List (Str×aD)) (n:Nat) (a b:List (Str×Addr)),aQ n names (a++b)=aQ n names a++b
 | [],_,_,_=>rfl
 | (x,k)::r,n,a,b=>by
  unfold aQ;split
  ·exact jl r (n+1) ((x,n)::a) b
  ·exact jl r n a b
theorem i7{x:Str}{c:Addr}:∀{names:List (Str×aD)}{n:Nat}{a:List (Str×Addr)},(x,c)∈aQ n names a->(x,c)∈a\/(x,aD.cell)∈names
 | [],_,_,h=>.inl h
 | (y,k)::r,n,a,h=>by
  unfold aQ at h;split at h
  ·rename_i hk
   rcases i7 h with z|z
   ·rcases aL.mp z with q|q
    ·have hk:k=.cell:=by simpa using hk
     cases q;exact .inr (by rw[hk];exact aP)
    ·exact .inl q
   ·exact .inr (aO _ z)
  ·rcases i7 h with z|z
   ·exact .inl z
   ·exact .inr (aO _ z)
theorem uS{M:Model}{A:ar}{E:ae->af->Prop}{s:af}{scope:aI}{globals:Addr}{cl:List (Str×Addr)}{qual:Str}{env:Env}{Q:Env->af->Prop}
  (hQ:∀h₁,h₁.Ns s.heap.objs.size (λ_=>none)->(∀b o,s.heap.get? b=some o->h₁.get? b=some o)->CellsOk h₁ (s.heap.objs.size+1) (aQ (s.heap.objs.size+1) scope.names []) ->
   Q (newEnv scope s.heap.objs.size globals (aQ (s.heap.objs.size+1) scope.names []++cl) qual none .none (some env) builtinsNs) {s with heap:=h₁}) :
  ag M A (newFunctionEnv scope globals cl [] qual none .none (some env)) Q E s:=by
 simp only[newFunctionEnv,Option.isSome_some,if_true];refine ah (wpAny_alloc ?_);refine ah (wpAny_layCells _ (λname kind cells=>by cases hkc:kind==aD.cell<;>simp[hkc]) _ _ _ _ ?_);have ok:=cellsFrom_ok scope.names (s.heap.push {cls:=.type "dict",data:=.dict #[]}) (s.heap.objs.size+1) [] ⟨λ_ _ hm=>(nomatch hm),List.Pairwise.nil⟩ (by rw[Heap.size_push];exact aA _);rw[Heap.size_push]at ok;rw[show ({s with heap:=s.heap.push {cls:=.type "dict",data:=.dict #[]}}:af).heap.objs.size=s.heap.objs.size+1 from Heap.size_push ..];rw[show cl=[]++cl from rfl,jl];rw[List.forIn_nil];exact ah (av (av (hQ _ ((Heap.Ns.new s.heap (.type "dict")).keeps (pushCells_keeps _ _)) (λb o e=>pushCells_keeps _ _ b o (Heap.get?_push_of_some _ e)) ok)))
noncomputable def zL(X:Cx)(NY:List Str)(scope:aI)(cl:List (Str×Addr))(C:Addr)(s₀:af)(H₀:Hp)(fp:List Addr):Cx where
 prog:=X.prog
 w:=X.w
 K:=X.K
 mg:=X.mg
 base:=X.base
 A:=X.A
 N:=NY
 s₀:=s₀
 H₀:=H₀
 env:=compEnvC scope (aQ (C+1) scope.names []++cl) C X.env
 outer:=X.stack
 stack:=X.stack
 ex:=fp
 fn:=λx=>(fD scope.names).contains x
 calm:=X.calm
 pn:=[]
 xe:=λ_ _=>False
noncomputable def caps(cap:List (Option Nat))(σ:St):St:=cap.map λo=>o.bind λj=>(σ[j]?).join
noncomputable def km(X:Cx)(NY:List Str)(cap:List (Option Nat))(scope:aI):Prop:=
 cap.length=NY.length/\∀(i j:Nat),cap[i]? = some (some j)->∃x,NY[i]? = some x/\X.N[j]? = some x/\scope.names.lookup x=some .free/\(X.env.kindOf x=some .cell\/X.env.kindOf x=some .free)
structure cm(X:Cx)(NY:List Str)(cap:List (Option Nat))(scope:aI):Prop where
 kind:scope.kind=.function
 cells:∀y∈scope.names,y.2=.cell->scope.names.lookup y.1=some .cell
 names:∀y∈scope.names,y.2=.local->scope.names.lookup y.1=some .local
 free:∀y∈scope.names,y.2=.free->X.env.kindOf y.1=some .cell\/X.env.kindOf y.1=some .free
 cap:km X NY cap scope
theorem xr{cap:List (Option Nat)}{σ:St}{i:Nat}{v:V}(h:(caps cap σ)[i]? = some (some v)):∃j,cap[i]? = some (some j)/\σ[j]? = some (some v):=by
 unfold caps at h;rw[List.getElem?_map]at h;cases e:cap[i]? with
 |none=>rw[e]at h;simp at h
 |some o=>
  rw[e]at h;cases o with
  |none=>simp at h
  |some j=>
   refine⟨j,rfl,?_⟩;have h':(σ[j]?).join=some v:=by simpa using h
   cases q:σ[j]? with
   |none=>rw[q]at h';cases h'
   |some z=>rw[q]at h';exact congrArg some h'
theorem pd{X:Cx}{pins:List (Addr×Obj)}{σ:St}{H:Hp}{s:af}{NY:List Str}{cap:List (Option Nat)}{scope:aI}{cl:List (Str×Addr)}{fp:List Addr}{h₁:Heap}{m:Str->Option ae}
  (I:Inv X pins σ H s) (S:cm X NY cap scope) (hsub:∀x c,cl.lookup x=some c->X.env.cells.lookup x=some c) (hall:∀x∈scope.names,x.2=.free->∃c,cl.lookup x.1=some c)
  (hf:∀b∈fp,cc X pins H b) (hlt:∀b∈fp,b<s.heap.objs.size) (hn:h₁.Ns s.heap.objs.size m) (hk:∀b o,s.heap.get? b=some o->h₁.get? b=some o) (hcs:CellsOk h₁ (s.heap.objs.size+1) (aQ (s.heap.objs.size+1) scope.names [])) {tk:Nat} :
  Inv (zL X NY scope cl s.heap.objs.size s H fp) [] (caps cap σ) H {s with heap:=h₁,toks:=tk}:=by
 have relx:∀x,(compEnvC scope (aQ (s.heap.objs.size+1) scope.names []++cl) s.heap.objs.size X.env).kindOf x=some .cell\/(compEnvC scope (aQ (s.heap.objs.size+1) scope.names []++cl) s.heap.objs.size X.env).kindOf x=some .free->scope.names.lookup x=some .free\/scope.names.lookup x=some .cell:=λx hx=>by
  rcases hx with q|q
  ·rcases gC (env:=X.env) (names:=scope.names) (x:=x) (k:=.cell) q with z|z
   ·exact .inr z
   ·exact .inl z.2
  ·rcases gC (env:=X.env) (names:=scope.names) (x:=x) (k:=.free) q with z|z
   ·exact .inl z
   ·exact .inl z.2
 have cnew:∀x c,cl.lookup x=some c->c<s.heap.objs.size:=λx c e=>by
  obtain⟨v,q⟩:=I.cell x c (hsub x c e);exact q.lt
 -- a cell is one of its own, or one from around
 have two:∀x c,(aQ (s.heap.objs.size+1) scope.names []++cl).lookup x=some c->(x,c)∈aQ (s.heap.objs.size+1) scope.names []\/cl.lookup x=some c:=λx c e=>by
  rw[List.lookup_append]at e;cases q:(aQ (s.heap.objs.size+1) scope.names []).lookup x with
  |none=>rw[q]at e;exact .inr e
  |some c'=>rw[q]at e;cases e;exact .inl (bK q)
 have own1:∀x c,(x,c)∈aQ (s.heap.objs.size+1) scope.names []->scope.names.lookup x=some .cell:=λx c e=>by
  rcases i7 e with z|z
  ·cases z
  ·exact S.cells _ z rfl
 have ownA:∀x c,(x,c)∈aQ (s.heap.objs.size+1) scope.names []->s.heap.objs.size<c:=λx c e=>(hcs.empty x c e).2
 have frl:∀x c,scope.names.lookup x=some .free->cl.lookup x=some c->(aQ (s.heap.objs.size+1) scope.names []++cl).lookup x=some c:=λx c e1 e2=>by
  rw[List.lookup_append];cases q:(aQ (s.heap.objs.size+1) scope.names []).lookup x with
  |none=>rw[e2];rfl
  |some c'=>have:=own1 x c' (bK q);rw[e1]at this;cases this
 refine⟨⟨I.ok.mod,S.kind,I.ok.glob,I.ok.blt,aA _,λx y c e1 e2=>?_,λx hx=>?_,λx c e e2=>?_,I.ok.hd,I.ok.frames,.inl rfl,λb hb=>?_,λb o e=>I.bs b o e,a5 I.ok.bsz I.sz,λb o e hb=>?_,λb hb z=>?_,I.stack,I.stkFree⟩,
  rfl,I.bare,Un.kept hk,⟨m,hn,λi x v e1 e2 e3=>?_⟩,λx c e=>?_,I.hok.fresh (aA _),λx c e=>?_,λp hp=>absurd (show p∈([]:List (Addr×Obj))from hp) (by simp),I.hok.kept hk,?_⟩
 ·rcases two x c e1 with z1|z1<;>rcases two y c e2 with z2|z2
  ·exact name_of_addr hcs.apart z1 z2
  ·exact absurd (Nat.lt_trans (cnew y c z2) (ownA x c z1)) (bj _)
  ·exact absurd (Nat.lt_trans (cnew x c z1) (ownA y c z2)) (bj _)
  ·exact I.ok.inj x y c (hsub x c z1) (hsub y c z2)
 ·rcases relx x hx with z|z
  ·obtain⟨c,hc⟩:=hall (x,.free) (bK z) rfl;exact⟨c,frl x c z hc⟩
  ·obtain⟨c,hc⟩:=fW (n:=s.heap.objs.size+1) z;refine⟨c,?_⟩;show (aQ (s.heap.objs.size+1) scope.names []++cl).lookup x=some c;rw[List.lookup_append,hc];rfl
 ·have e:(fD scope.names).contains x=true:=e;have hm:scope.names.lookup x=some .cell:=by
   simp only[fD,List.contains_iff_mem,bN,List.mem_filter,beq_iff_eq]at e;obtain⟨y,⟨y1,y2⟩,rfl⟩:=e;exact S.cells y y1 y2
  rcases two x c e2 with z|z
  ·exact Nat.le_of_lt (ownA x c z)
  ·obtain⟨c',hc⟩:=fW (n:=s.heap.objs.size+1) hm;have e2:(aQ (s.heap.objs.size+1) scope.names []++cl).lookup x=some c:=e2;rw[List.lookup_append,hc]at e2;cases e2;exact Nat.le_of_lt (ownA x _ (bK hc))
 ·obtain⟨f0,f1,f2,f3,f4,f5⟩:=hf b hb;refine⟨aS (hlt b hb),λx c e=>?_⟩;rcases two x c e with z|z
  ·exact λw=>absurd (Nat.lt_trans (ownA x c z) (w▸hlt b hb)) (bj _)
  ·exact f4 x c (hsub x c z)
 ·obtain⟨f0,f1,f2,f3,f4,f5⟩:=hf b hb;rcases f3 with z|z
  ·exact I.ok.noex b o e z
  ·exact absurd (aZ (aE e) (a5 I.ok.bsz z)) (bj _)
 ·obtain⟨f0,f1,f2,f3,f4,f5⟩:=hf b hb;rcases aL.mp (I.stkSub b z)with q|q
  ·exact f1 q
  ·exact f2 q
 ·obtain⟨j,c1,c2⟩:=xr e2;obtain⟨x',n1,n2,n3,n4⟩:=S.cap.2 i j c1;have ex:x'=x:=bq (n1.symm.trans e1);subst ex;obtain⟨m',_,hl⟩:=I.loc;obtain⟨u,r,l⟩:=hl j x' v n2 c2 (n4.elim (λz=>.inr (.inl z)) λz=>.inr (.inr z));refine⟨u,r,.inr ⟨?_,?_⟩⟩
  ·rcases e3 with z|z|z
   ·rcases gC (env:=X.env) (names:=scope.names) (x:=x') (k:=.local) z with q|q
    ·rw[n3]at q;cases q
    ·cases q.1
   ·exact .inl z
   ·exact .inr z
  ·rcases l with ⟨kk,_⟩|⟨_,c,ec,ic⟩
   ·rcases n4 with z|z
    ·rw[kk]at z;cases z
    ·rw[kk]at z;cases z
   ·obtain⟨c',ec'⟩:=hall (x',.free) (bK n3) rfl;have:=hsub x' c' ec';rw[ec]at this;cases this;obtain⟨o,ho,hd⟩:=ic;exact⟨c,frl x' c n3 ec',o,hk _ _ ho,hd⟩
 ·rcases two x c e with z|z
  ·exact⟨_,(hcs.empty x c z).1⟩
  ·obtain⟨v,o,ho,hd⟩:=I.cell x c (hsub x c z);exact⟨v,o,hk _ _ ho,hd⟩
 ·rcases two x c e with z|z
  ·exact I.hok.fresh (Nat.le_of_lt (ownA x c z))
  ·exact I.freeC x c (hsub x c z)
 ·show (caps cap σ).length=NY.length;unfold caps;rw[a6];exact S.cap.1
noncomputable def g7(cap:List (Option Nat))(wi:TI)(tg:TG)(tt:TT)(tb:Addr->TS):TE:=λσ H Q=>wi σ H λJ H1=>∀acc,H1 acc=none ->
 ∃W:Nat->Nat->St->Hp->Prop,(∃m,W 0 m (caps cap σ) (upd H1 acc (.lst [])))/\∀i m τ H,W i m τ H ->
  (J.stop i H/\(Ends.mk (λ_ H=>Q (.ref acc) H) (λ_ _=>False) (λ_ _=>False) (λ_ _=>False)).nx τ H)\/(J.go i H/\∃N:St->Hp->Prop,(∀σ' H',N σ' H'->∃m',m'<m/\W (i+1) m' σ' H')/\∀x H',J.yld i H x H' ->
   tg x τ H' λσ2 H2=>fS tt (tb acc) fu {(Ends.mk (λ_ H=>Q (.ref acc) H) (λ_ _=>False) (λ_ _=>False) (λ_ _=>False))with nx:=N,ct:=N,bk:=(Ends.mk (λ_ H=>Q (.ref acc) H) (λ_ _=>False) (λ_ _=>False) (λ_ _=>False)).nx} σ2 H2)
structure Loose(X:Cx)(pins:List (Addr×Obj))(C:Addr):Prop where
 loc:C≠X.env.locals
 cell:∀x c,X.env.cells.lookup x=some c->c≠C
 up:X.s₀.heap.objs.size<=C
 pin:∀p∈X.pn++pins,p.1≠C
theorem Loose.turn{X:Cx}{pins:List (Addr×Obj)}{C:Addr}{σ:St}{H:Hp}{s:af}{h':Heap}(L:Loose X pins C)(I:Inv X pins σ H s)(hn:H C=none)(hs:Heap.SameBut C s.heap h'):Inv X pins σ H {s with heap:=h'}:=
 I.turned (t':=s.toks) (it:=C) (λb o hb e=>(hs.2 b hb).trans e) hn L.loc (.inr L.up) L.cell L.pin
section
variable{X:Cx}{elt tgt it:Expr}{ifs:List Expr}{gs:List bz}{scope:aI}{pos:Pos}{NY:List Str}{cap:List (Option Nat)}{wi:TI}{tg:TG}{tt:TT}{tb:Addr->TS}
theorem kQ{Q:VK}{pins:List (Addr×Obj)}{σ:St}{H:Hp}{s s2:af}{cl:List (Str×Addr)}{itv:ae}{E:ae->af->Prop}{use:Option (ae->Sem Unit)}{QQ:ae->af->Prop}
  (hc:X.calm=true) (S:cm X NY cap scope) (hng:∀g'∈gs,g'.is_async=0)
  (hsub:∀x c,cl.lookup x=some c->X.env.cells.lookup x=some c) (hall:∀x∈scope.names,x.2=.free->∃c,cl.lookup x.1=some c)
  (hb:∀cl C s₀ H₀ fp,PG (zL X NY scope cl C s₀ H₀ fp) tgt tg/\PTs (zL X NY scope cl C s₀ H₀ fp) ifs tt/\∀acc,PB (zL X NY scope cl C s₀ H₀ fp) (cW elt (⟨tgt,it,ifs,0⟩::gs) scope pos 0 (.ref acc) (zL X NY scope cl C s₀ H₀ fp).env) (tb acc))
  (h2:PIE X pins σ tgt (λJ H1=>∀acc,H1 acc=none ->
   ∃W:Nat->Nat->St->Hp->Prop,(∃m,W 0 m (caps cap σ) (upd H1 acc (.lst [])))/\∀i m τ H,W i m τ H ->
    (J.stop i H/\(Ends.mk (λ_ H=>Q (.ref acc) H) (λ_ _=>False) (λ_ _=>False) (λ_ _=>False)).nx τ H)\/(J.go i H/\∃N:St->Hp->Prop,(∀σ' H',N σ' H'->∃m',m'<m/\W (i+1) m' σ' H')/\∀x H',J.yld i H x H' ->
     tg x τ H' λσ2 H2=>fS tt (tb acc) fu {(Ends.mk (λ_ H=>Q (.ref acc) H) (λ_ _=>False) (λ_ _=>False) (λ_ _=>False))with nx:=N,ct:=N,bk:=(Ends.mk (λ_ H=>Q (.ref acc) H) (λ_ _=>False) (λ_ _=>False) (λ_ _=>False)).nx} σ2 H2)) itv s2)
  (fin:∀(acc C:Addr) (s':af) (m:Str->Option ae) (H':Hp),s'.heap.Ns C m->Loose X pins C->Inv X pins σ H' s'->H' C=none->Q (.ref acc) H'->compPost (ai X.prog X.w) X.A E use QQ (.ref acc) C (.ok .next) s') :
  ag (ai X.prog X.w) X.A (newList []) (λacc s₃=>ag (ai X.prog X.w) X.A (newFunctionEnv scope X.env.globals cl [] X.env.qual none .none (some X.env)) (λcenv s₄=>
   codeAny (ai X.prog X.w) X.A (.compStart (.ListComp elt (⟨tgt,it,ifs,0⟩::gs) scope pos) 0 itv acc {cenv with scope:=relabel scope X.env}) (compPost (ai X.prog X.w) X.A E use QQ acc cenv.locals) s₄) E s₃) E s2:=by
 obtain⟨ia,fp,tn,J,H2,e,I2,T,st2,f2,q⟩:=h2;subst e;have hlt2:∀b∈fp,b<s2.heap.objs.size:=λb hb=>by
  obtain⟨o,ho,_⟩:=T.obj _ _ st2 b hb;exact aE ho
 refine bS ?_;have hacc:H2 s2.heap.objs.size=none:=I2.hok.fresh (aA _);have I3:Inv X pins σ (upd H2 s2.heap.objs.size (.lst [])) {s2 with heap:=s2.heap.push {cls:=.type "list",dict:=none,data:=.seq ([]:List ae).toArray}}:=
  I2.laid (t':=s2.toks) (λb u e=>Heap.get?_push_of_some _ e) (aA _) ⟨Nat.zero_le _,[],0,.nil,Heap.get?_push_size _ rfl⟩
 have hsz3:(s2.heap.push {cls:=.type "list",dict:=none,data:=.seq ([]:List ae).toArray}).objs.size=s2.heap.objs.size+1:=Heap.size_push ..;generalize hs3:({s2 with heap:=s2.heap.push {cls:=.type "list",dict:=none,data:=.seq ([]:List ae).toArray}}:af)=s3 at I3 ⊢;have hsz:s3.heap.objs.size=s2.heap.objs.size+1:=by rw[<-hs3];exact hsz3
 have st3:tn 0 s3.heap:=T.keep _ _ _ st2 λb hb o e=>by rw[<-hs3];exact Heap.get?_push_of_some _ e
 have f3:∀b∈fp,cc X pins (upd H2 s2.heap.objs.size (.lst [])) b:=λb hb=>⟨by rw[qg (aS (hlt2 b hb))];exact(f2 b hb).1,(f2 b hb).2⟩
 have hlt3:∀b∈fp,b<s3.heap.objs.size:=λb hb=>by rw[hsz];exact Nat.lt_succ_of_lt (hlt2 b hb)
 refine uS λh₁ hns₁ hk1 hcs=>?_
 have IY:=pd (tk:=s3.toks) I3 S hsub hall f3 hlt3 hns₁ hk1 hcs;have stY:tn 0 h₁:=T.keep _ _ _ st3 λb hb o e=>hk1 b o e
 obtain⟨pg,pt,pb⟩:=hb cl s3.heap.objs.size s3 (upd H2 s2.heap.objs.size (.lst [])) fp;have fY:∀b∈fp,cc (zL X NY scope cl s3.heap.objs.size s3 (upd H2 s2.heap.objs.size (.lst [])) fp) [] (upd H2 s2.heap.objs.size (.lst [])) b:=λb hb=>by
  obtain⟨g0,g1,g2,g3,g4,g5⟩:=f3 b hb;refine⟨g0,aS (hlt3 b hb),λz=>?_,.inl hb,(IY.ok.exf b hb).2,λp hp=>absurd (show p∈([]:List (Addr×Obj))from hp) (by simp)⟩;rcases aL.mp (I3.stkSub b z)with w|w
  ·exact g1 w
  ·exact g2 w
 have L:=xF (elt:=elt) (gens:=⟨tgt,it,ifs,0⟩::gs) (scope:=scope) (pos:=pos) (d:=0) (Y:=zL X NY scope cl s3.heap.objs.size s3 (upd H2 s2.heap.objs.size (.lst [])) fp) (acc:=.ref s2.heap.objs.size) hc (λ_ _ z=>z) rfl rfl
  (λg' hg'=>hng g' (List.mem_of_getElem? (i:=0) (by simpa using hg'))) T pg pt (pb s2.heap.objs.size) IY stY fY (q s2.heap.objs.size hacc)
 refine codeAny_mono (m_ (elt:=elt) (gens:=⟨tgt,it,ifs,0⟩::gs) (scope:=scope) (pos:=pos) (d:=0) (env:=compEnvC scope (aQ (s3.heap.objs.size+1) scope.names []++cl) s3.heap.objs.size X.env) rfl rfl L (T.self _ 0 _ _ _ stY L)) λr s' ⟨e,τ',H',I',q'⟩=>?_
 subst e;obtain⟨m',hn',_⟩:=id I'.loc;have hLne:s3.heap.objs.size≠X.env.locals:=Nat.ne_of_gt I3.lt;have hCne:∀x c,X.env.cells.lookup x=some c->c≠s3.heap.objs.size:=λx c e z=>by
  obtain⟨v,qv⟩:=I3.cell x c e;exact absurd qv.lt (by rw[z];exact bj _)
 have J1:Inv X pins σ H' s':=by
  refine I3.call' (ch:=fp) I'.os I'.base I'.hok I'.bare λb hb=>?_
  obtain⟨g0,g1,g2,g3,g4,g5⟩:=f3 b hb;exact⟨g3,g1,g4,g5⟩
 refine fin s2.heap.objs.size s3.heap.objs.size s' m' H' hn' ⟨hLne,hCne,I3.sz,λp hp z=>?_⟩ J1 I'.free q';have:=aE (I3.pin p hp).1;rw[z]at this;exact bj _ this
theorem xO(hc:X.calm=true)(S:cm X NY cap scope)(hi:PI X tgt it wi)
  (hb:∀cl C s₀ H₀ fp,PG (zL X NY scope cl C s₀ H₀ fp) tgt tg/\PTs (zL X NY scope cl C s₀ H₀ fp) ifs tt/\∀acc,PB (zL X NY scope cl C s₀ H₀ fp) (cW elt (⟨tgt,it,ifs,0⟩::gs) scope pos 0 (.ref acc) (zL X NY scope cl C s₀ H₀ fp).env) (tb acc))
  (hng:∀g'∈gs,g'.is_async=0:=by simp)
  (hs:∀x,foldedSetIterable it X.env x=pure x:=by intro _;rfl):PE X (.ListComp elt (⟨tgt,it,ifs,0⟩::gs) scope pos) (g7 cap wi tg tt tb):=by
 intro pins s σ H Q I h;obtain⟨cl,hcl,hsub,hall⟩:=k9 (env:=X.env) (scope:=scope) λx hx hf=>I.ok.has x.1 (S.free x hx hf)
 rw[eval_ListComp];refine wpAny_comprehension_free (use:=none) rfl hs hcl S.kind S.names (thn (hi pins s σ H _ I h) λv s1 h1=>thn h1 λitv s2 h2=>?_);exact kQ (s:=s) (H:=H) (use:=none) hc S hng hsub hall hb h2 λacc C s' m H' hn L I' hC q=>⟨m,hn,λh' hs'=>⟨.ref acc,H',L.turn I' hC hs',rfl,q⟩⟩
theorem m5{i:Nat}{x:Str}{pos' spos:Pos}(hN:X.N.Nodup)(hix:X.N[i]? = some x)(hx:Loc X.env.scope x)(hc:X.calm=true)(S:cm X NY cap scope)(hi:PI X tgt it wi)
  (hb:∀cl C s₀ H₀ fp,PG (zL X NY scope cl C s₀ H₀ fp) tgt tg/\PTs (zL X NY scope cl C s₀ H₀ fp) ifs tt/\∀acc,PB (zL X NY scope cl C s₀ H₀ fp) (cW elt (⟨tgt,it,ifs,0⟩::gs) scope pos 0 (.ref acc) (zL X NY scope cl C s₀ H₀ fp).env) (tb acc))
  (hng:∀g'∈gs,g'.is_async=0:=by simp)
  (hsw:swapsWith (.ListComp elt (⟨tgt,it,ifs,0⟩::gs) scope pos) (some (.Name x pos')) spos.line X.env=pure true:=by rfl)
  (hf:X.fn x=true\/X.env.scope.names.lookup x=some .local:=by first|exact .inl rfl|exact .inr rfl|assumption)
  (hs:∀x,foldedSetIterable it X.env x=pure x:=by intro _;rfl) :
  PS X (.Assign [.Name x pos'] (.ListComp elt (⟨tgt,it,ifs,0⟩::gs) scope pos) spos) (gf (g7 cap wi tg tt tb) (dq i)):=by
 intro pins s σ H D I h;obtain⟨cl,hcl,hsub,hall⟩:=k9 (env:=X.env) (scope:=scope) λx hx hf=>I.ok.has x.1 (S.free x hx hf)
 rw[exec_Assign_Name_used _ _ _ _ hsw];refine ah (wpAny_standAt (ah ?_));show ag _ _ (do let _ <-comprehension (.ListComp elt (⟨tgt,it,ifs,0⟩::gs) scope pos) scope X.env _ (newList []) false (eval it X.env) (some (assign (.Name x pos') X.env))) _ _ s;refine ah (wpAny_mono (wpAny_comprehension_free (use:=some (assign (.Name x pos') X.env)) (Q:=λ_ s'=>SP X pins D .next s') rfl hs hcl S.kind S.names (thn (hi pins s σ H _ I h) λv s1 h1=>thn h1 λitv s2 h2=>?_)) (λ_ s' q=>av (av q)) λ_ _ e=>e);refine kQ (s:=s) (H:=H) (Q:=λx H1=>dq i x σ H1 D.nx) (use:=some (assign (.Name x pos') X.env)) hc S hng hsub hall hb h2 λacc C s' m H' hn L I1 hC q1=>?_
 show ag _ _ (assign (.Name x pos') X.env (.ref acc)) _ _ _;refine wpAny_assign_Name (jL (v:=.ref acc) I1 hN hix hx rfl (λs3 I3 ⟨a,hsa,ha⟩=>?_) hf);have hCa:C≠a:=by
  rcases ha with z|z
  ·rw[z];exact L.loc
  ·exact Ne.symm (L.cell x a z)
 exact⟨m,hn.sameBut hsa hCa,λh' hsb=>⟨_,H',L.turn I3 hC hsb,q1⟩⟩
end
theorem zx.there{P:aq}{w:aj}{H:Hp}{h:Heap}{a:Addr}{o:HO}(x:zx P w H h a o):∃u,h.get? a=some u:=by
 cases o with
 |lst xs=>obtain⟨_,_,_,_,e⟩:=x;exact⟨_,e⟩
 |tup xs=>obtain⟨_,_,_,o,e,_⟩:=x;exact⟨_,e⟩
 |dK kvs=>obtain⟨_,_,_,_,o,_,_,e,_⟩:=x;exact⟨_,e⟩
 |dT kvs=>obtain⟨_,_,_,_,o,_,_,e,_⟩:=x;exact⟨_,e⟩
 |set S n=>obtain⟨o,_,_,_,e,_⟩:=x;exact⟨_,e⟩
 |ins C dx fs=>obtain⟨_,_,_,e,_⟩:=x;exact⟨_,e⟩
 |own y=>obtain⟨_,e⟩:=x;exact⟨_,e⟩
 |xd fs=>obtain⟨_,⟨_,_,_,e,_⟩,_⟩:=x;exact⟨_,e⟩
 |rng lo hi=>obtain⟨_,_,_,e⟩:=x;exact⟨_,e⟩
 |frz ob u=>obtain⟨e,_⟩:=x;exact⟨_,e⟩
 |tbl ps=>exact⟨_,(show h.get? a=some _ from x)⟩
 |met f y=>exact⟨_,(show h.get? a=some _ from x)⟩
 |ext φ=>obtain⟨_,e,_⟩:=x;exact e
theorem HOk.free_of{P:aq}{w:aj}{H:Hp}{h:Heap}{a:Addr}(x:HOk P w H h)(e:h.get? a=none):H a=none:=by
 cases q:H a with
 |none=>rfl
 |some o=>obtain⟨u,z⟩:=(x a o q).there;rw[e]at z;cases z
structure Apart(X:Cx)(pins:List (Addr×Obj))(H:Hp)(b:Addr):Prop where
 new:X.s₀.heap.get? b=none
 free:H b=none
 pin:∀p∈X.pn++pins,p.1≠b
structure cF(X:Cx)(pins:List (Addr×Obj))(H:Hp)(h:Heap)(x:Addr)(cls:ae):Prop where
 me:Apart X pins H x
 tr:∃oe vs T oT ts a0,h.get? x=some oe/\oe.cls=cls/\vs[0]? = some a0/\oe.data=.fields vs/\vs[1]? = some (.ref T)/\T≠x/\h.get? T=some oT/\oT.data=.fields ts/\ts[3]? = some .none/\Apart X pins H T
structure Fly(h₀ h:Heap)(H:Hp)(x:Addr)(cls:ae):Prop where
 new:h₀.get? x=none
 free:H x=none
 tr:∃oe vs T oT ts a0,h.get? x=some oe/\oe.cls=cls/\vs[0]? = some a0/\oe.data=.fields vs/\vs[1]? = some (.ref T)/\T≠x/\h.get? T=some oT/\oT.data=.fields ts/\ts[3]? = some .none/\h₀.get? T=none/\H T=none
noncomputable def CX1(P:aq)(w:aj):CXT:=λouter H s E e s'=>
 ∃x cls H',e=.ref x/\s'.os=s.os/\AllBare s'.gens/\Un (frs outer) [] H H' s.heap s'.heap/\HOk P w H' s'.heap/\Fly s.heap s'.heap H' x cls/\E cls none H'
section
variable{X:Cx}{pins:List (Addr×Obj)}{σ:St}{H:Hp}{s:af}{x T:Addr}{cls:ae}
theorem Inv.stepN{h':Heap}{t':Nat}{ch:List Addr}(I:Inv X pins σ H s)(hex:X.ex=[])(hch:∀b∈ch,Apart X pins H b/\b≠X.env.locals/\(∀x c,X.env.cells.lookup x=some c->c≠b)/\b∉X.fs)
  (keep:∀b o,b∉frs X.stack->b≠X.env.locals->b∉X.fs->b∉ch->s.heap.get? b=some o->h'.get? b=some o)
  (slot:∀b o,(b∈frs X.stack\/b=X.env.locals\/b∈X.fs)->s.heap.get? b=some o->∃sl,h'.get? b=some {o with slots:=sl}) (there:∀b o,b∉ch->s.heap.get? b=some o->∃o',h'.get? b=some o') :
  Inv X pins σ H {s with heap:=h',toks:=t'}:=by
 have sub:∀b,b∈frs X.stack->b=X.env.locals\/b∈X.fs:=λb hb=>aL.mp (I.stkSub b hb)
 have keep':∀b o,b≠X.env.locals->b∉X.fs->b∉ch->s.heap.get? b=some o->h'.get? b=some o:=λb o h1 h2 h3 e=>keep b o (λz=>(sub b z).elim h1 h2) h1 h2 h3 e
 have neL:∀b o,X.s₀.heap.get? b=some o->b≠X.env.locals:=λb o e=>aS (aZ (aE e) I.ok.above)
 have neC:∀b o,X.s₀.heap.get? b=some o->b∉ch:=λb o e hb=>by
  have:=(hch b hb).1.new;rw[e]at this;cases this
 have cellK:∀x c,X.env.cells.lookup x=some c->∀v,s.heap.IsCell c v->h'.IsCell c v:=λx c e v ⟨o,ho,hd⟩=>by
  have nch:c∉ch:=λz=>(hch c z).2.2.1 x c e rfl
  by_cases hc:c∈X.fs
  ·obtain⟨sl,q⟩:=slot c o (.inr (.inr hc)) ho;exact⟨_,q,hd⟩
  ·exact⟨o,keep' c o (I.cne x c e) hc nch ho,hd⟩
 have nex:∀b,b∉X.ex:=λb=>by rw[hex];simp
 refine⟨I.ok,I.os,I.bare,⟨λb o e n hb hx=>?_,λb o e n hb hx=>?_,I.base.free,λb o e hx=>?_,I.base.tups,I.base.frzs,I.base.tbls⟩,?_,λx c e=>?_,I.free,I.freeC,λp hp=>?_,λb u e=>?_,I.len⟩
 ·exact keep' b o (neL b o e) hb (neC b o e) (I.base.keep b o e n hb hx)
 ·obtain⟨sl,e1⟩:=I.base.slot b o e n hb hx;obtain⟨sl',e2⟩:=slot b _ (.inr (.inr hb)) e1;exact⟨sl',e2⟩
 ·obtain⟨o',e1⟩:=I.base.there b o e hx;exact there b o' (neC b o e) e1
 ·obtain⟨m,hn,hl⟩:=I.loc;obtain⟨oL,es,ep,hoL,hdL,r⟩:=id hn;obtain⟨sl,eL⟩:=slot _ _ (.inr (.inl rfl)) hoL;refine⟨m,⟨_,es,ep,eL,hdL,r⟩,λi x v e1 e2 e3=>?_⟩;obtain⟨u,ru,l⟩:=hl i x v e1 e2 e3;refine⟨u,ru,?_⟩;rcases l with l|⟨k,c,e,z⟩
  ·exact .inl l
  ·exact .inr ⟨k,c,e,cellK x c e _ z⟩
 ·obtain⟨v,z⟩:=I.cell x c e;exact⟨v,cellK x c e v z⟩
 ·obtain⟨e,n,ne,nf,d⟩:=I.pin p hp;exact⟨keep' p.1 p.2 ne nf (λz=>(hch p.1 z).1.pin p hp rfl) e,n,ne,nf,d⟩
 ·have nfr:∀b,(∃u,H b=some u)->b≠X.env.locals/\b∉X.fs/\b∉ch:=λb ⟨u,e⟩=>by
   refine⟨λz=>?_,λz=>?_,λz=>?_⟩
   ·rw[z,I.free]at e;cases e
   ·obtain⟨_,o,ho,_⟩:=I.ok.funs.mem z;have:=I.base.free b o ho (I.ok.frf b z) (nex b);rw[e]at this;cases this
   ·have:=(hch b z).1.free;rw[e]at this;cases this
  refine(I.hok b u e).stay (λc v hc q=>?_) (λ_ q=>q) λ_ _ q=>q
  have hc':∃u,H c=some u:=by
   rcases hc with z|z
   ·exact⟨u,by rw[z];exact e⟩
   ·exact⟨_,z⟩
  obtain⟨n1,n2,n3⟩:=nfr c hc';exact keep' c v n1 n2 n3 q
theorem Inv.rec_ne(I:Inv X pins σ H s){b:Addr}{o:Obj}{vs:Array ae}(e:s.heap.get? b=some o)(d:o.data=.fields vs):b≠X.env.locals/\(∀x c,X.env.cells.lookup x=some c->c≠b)/\b∉X.fs/\b∉frs X.stack:=by
 have h1:b≠X.env.locals:=λz=>by
  obtain⟨m,⟨o',es,ep,ho,hd,_⟩,_⟩:=I.loc;rw[<-z,e]at ho;cases ho;rw[d]at hd;cases hd
 have h3:b∉X.fs:=λz=>by
  obtain⟨_,o',ho,hn⟩:=I.funs.mem z;rw[e]at ho;cases ho;exact hn vs d
 refine⟨h1,λx c ec z=>?_,h3,λz=>(aL.mp (I.stkSub b z)).elim h1 h3⟩;obtain⟨v,o',ho,hd⟩:=I.cell x c ec;rw[z,e]at ho;cases ho;rw[d]at hd;cases hd
theorem cF.flying(I:Inv X pins σ H s)(F:cF X pins H s.heap x cls):∃T oT ts a0,Heap.FlyingW (PySem.W.hideAll s.heap (x::T::frs X.stack)) X.stack x cls a0 s.heap/\s.heap.get? T=some oT/\oT.data=.fields ts/\Apart X pins H T:=by
 obtain⟨oe,vs,T,oT,ts,a0,e1,e2,e3,e4,e5,e6,e7,e8,e9,e10⟩:=F.tr;refine⟨T,oT,ts,a0,⟨λb o q=>PySem.W.of_hideAll _ q,PySem.W.hideAll_none _ aP,?_,oe,vs,T,oT,ts,e1,⟨e2,e3⟩,e4,e5,PySem.W.hideAll_none _ (aO _ aP),e6,e7,e8,e9⟩,e7,e8,e10⟩;exact PySem.W.funFrames_hide I.stack λenv he a ha=>aO _ (aO _ (List.mem_filterMap.mpr ⟨env,he,ha⟩))
theorem cF.back(I:Inv X pins σ H s)(hex:X.ex=[])(me:Apart X pins H x){ox:Obj}{vs:Array ae}(hx:s.heap.get? x=some ox)(hxd:ox.data=.fields vs){oT:Obj}{ts:Array ae}(hT:s.heap.get? T=some oT)(hTd:oT.data=.fields ts)(aT:Apart X pins H T)
  {l:List Env}{a0:ae}{h':Heap} (W:Heap.FlyingW (PySem.W.hideAll s.heap (x::T::frs X.stack)) l x cls a0 h') (u:s.heap.UpToSlots h') :
  Inv X pins σ H {s with heap:=h'}/\cF X pins H h' x cls:=by
 obtain⟨w1,w2,w3,oe',vs',T',oT',ts',f1,⟨f2,f3⟩,f4,f5,f6,f7,f8,f9,f10⟩:=W;obtain⟨nx1,nx2,nx3,nx4⟩:=I.rec_ne hx hxd;obtain⟨nt1,nt2,nt3,nt4⟩:=I.rec_ne hT hTd;have frd:∀b o,(b∈frs X.stack\/b=X.env.locals\/b∈X.fs)->s.heap.get? b=some o->∀ws,o.data≠.fields ws:=λb o hb e ws d=>by
  obtain⟨n1,n2,n3,n4⟩:=I.rec_ne e d;rcases hb with z|z|z
  ·exact n4 z
  ·exact n1 z
  ·exact n3 z
 have nch:∀b,b∉[x,T]->b∉frs X.stack->b∉(x::T::frs X.stack):=λb h1 h2 h3=>by
  rcases aL.mp h3 with z|h3
  ·exact h1 (by simp[z])
  ·rcases aL.mp h3 with z|h3
   ·exact h1 (by simp[z])
   ·exact h2 h3
 refine⟨?_,me,oe',vs',T',oT',ts',a0,f1,f2,f3,f4,f5,f7,f8,f9,f10,?_⟩
 ·refine I.stepN (t':=s.toks) (ch:=[x,T]) hex (λb hb=>?_) (λb o h1 h2 h3 h4 e=>w1 b o (PySem.W.hideAll_get _ e (nch b h4 h1))) (λb o hb e=>u b o e (frd b o hb e)) λb o h4 e=>?_
  ·rcases aL.mp hb with z|hb
   ·subst z;exact⟨me,nx1,nx2,nx3⟩
   ·have z:b=T:=by simpa using hb
    subst z;exact⟨aT,nt1,nt2,nt3⟩
  ·by_cases hb:b∈frs X.stack
   ·obtain⟨sl,q⟩:=u b o e (frd b o (.inl hb) e);exact⟨_,q⟩
   ·exact⟨o,w1 b o (PySem.W.hideAll_get _ e (nch b h4 hb))⟩
 ·by_cases hTT:T'=T
  ·rw[hTT];exact aT
  ·by_cases hTf:T'∈frs X.stack
   ·obtain⟨_,o,ho,hn⟩:=I.stack.mem hTf;obtain⟨sl,q⟩:=u T' o ho hn;rw[q]at f8;have z:({o with slots:=sl}:Obj)=oT':=bq f8;subst z;exact absurd f9 (hn ts')
   ·have hnone:s.heap.get? T'=none:=by
     cases q:s.heap.get? T' with
     |none=>rfl
     |some o=>
      have:(PySem.W.hideAll s.heap (x::T::frs X.stack)).get? T'=some o:=PySem.W.hideAll_get _ q (nch T' (by simp[f7,hTT]) hTf);rw[f6]at this;cases this
    refine⟨?_,I.hok.free_of hnone,λp hp z=>?_⟩
    ·cases q:X.s₀.heap.get? T' with
     |none=>rfl
     |some o=>
      obtain⟨o',e'⟩:=I.base.there T' o q (by rw[hex];simp);rw[hnone]at e';cases e'
    ·have:=(I.pin p hp).1;rw[z,hnone]at this;cases this
theorem oF{P:aq}{w:aj}(hP:X.prog=P)(hw:X.w=w)(I:Inv X pins σ H s)(hex:X.ex=[]){E:XK}{e:ae}{s':af}(h:CX1 P w X.stack H s E e s') :
  ∃x cls H',e=.ref x/\Inv X pins σ H' s'/\cF X pins H' s'.heap x cls/\E cls none H':=by
 subst hP hw;obtain⟨x,cls,H',rfl,os,bare,un,hok,F,q⟩:=h;have ap:∀b,s.heap.get? b=none->H' b=none->Apart X pins H' b:=λb h1 h2=>by
  refine⟨?_,h2,λp hp z=>?_⟩
  ·cases q:X.s₀.heap.get? b with
   |none=>rfl
   |some o=>
    obtain⟨o',e'⟩:=I.base.there b o q (by rw[hex];simp);rw[h1]at e';cases e'
  ·have:=(I.pin p hp).1;rw[z,h1]at this;cases this
 obtain⟨oe,vs,T,oT,ts,a0,e1,e2,e3,e4,e5,e6,e7,e8,e9,e10,e11⟩:=F.tr;exact⟨x,cls,H',rfl,I.call' (ch:=[]) os un hok bare (λb z=>absurd z (by simp)),⟨ap x F.new F.free,oe,vs,T,oT,ts,a0,e1,e2,e3,e4,e5,e6,e7,e8,e9,ap T e10 e11⟩,q⟩
theorem cF.leaves(I:Inv X pins σ H s)(hex:X.ex=[]){env:Env}{outer:List Env}(hst:X.stack=X.env::X.outer)(hfr:X.env.frame=some X.env.locals)(F:cF X pins H s.heap x cls){E:XK}(q:E cls none H)
  {EE:ae->af->Prop}:ag (ai X.prog X.w) X.A (leaving X.env (.ref x)) (λ_ s''=>CX1 X.prog X.w X.outer X.H₀ X.s₀ E (.ref x) s'') EE s:=by
 obtain⟨oe,vs,_,_,_,_,e1,_,_,e4,_⟩:=id F.tr;obtain⟨T,oT,ts,a0,W,hT,hTd,aT⟩:=cF.flying I F;have hfrm:=I.ok.frames;rw[hst]at hfrm W;refine wpAny_leaves_onW hfrm hfr W λh' W' u=>?_
 rw[<-hst]at W';obtain⟨I',F'⟩:=cF.back I hex F.me e1 e4 hT hTd aT W' u;obtain⟨oe',vs',T',oT',ts',a0',f1,f2,f3,f4,f5,f6,f7,f8,f9,f10⟩:=F'.tr;have hb:=I'.base;rw[hex]at hb;exact⟨x,cls,H,rfl,I'.os,I'.bare,hb,I'.hok,⟨F'.me.new,F'.me.free,oe',vs',T',oT',ts',a0',f1,f2,f3,f4,f5,f6,f7,f8,f9,f10.new,f10.free⟩,q⟩
end
section
variable{P:aq}{w:aj}{K:ao}{mg:Str->Option ae}{base:Heap}{N:List Str}{qual:Str}{scope:aI}{f:Addr}{cd:ae}{A:ar}{outer:List Env}{s₀:af}{H₀:Hp}{E:XK}
theorem sU:Passes (CX1 P w) (cX (CX1 P w) P w K mg base N qual scope f cd A outer s₀ H₀ E) E:=by
 intro pins σ H s e s' I h;obtain⟨x,cls,H',rfl,I',F,q⟩:=oF rfl rfl I rfl h;exact cF.leaves (env:=(cX (CX1 P w) P w K mg base N qual scope f cd A outer s₀ H₀ E).env) (outer:=outer) I' rfl rfl rfl F q
theorem ml{X:Cx}(hP:X.prog=P)(hw:X.w=w):Passes (CX1 P w) X E0:=by
 intro pins σ H s e s' I h;obtain⟨x,cls,H',rfl,_,_,_,_,_,q⟩:=h;exact q.elim
noncomputable def Throws(X:Cx)(E:XK):Prop:=∀(pins:List (Addr×Obj)) (σ:St) (H:Hp) (s:af) (h':Heap) (e:Addr) (cls:ae) (args:List ae),Inv X pins σ H s->Heap.MadeExcOf s.heap h' e cls args->E cls none H->X.xe (.ref e) {s with heap:=h'}
end
abbrev gq:List Value:=[.type "ValueError",.type "Exception",.type "BaseException",.type "object"]
noncomputable def kB(K:ao)(C:Addr):Prop:=PySem.W.excIn K C gq "ValueError.__new__" = true
section
variable{X:Cx}{C:Addr}{x:Str}{E:XK}{t:TA}{e:Expr}{es:List Expr}{np cpos pos:Pos}
end
structure eV(k:Nat)(A:ar):Prop where
 dp:A.depth+3 * k+5<recursionLimit
 un:A.units+16 * k+200<cLine
theorem bQ.u{k:Nat}{A:ar}(r:bQ k A):eV k A:=⟨r.dp,r.un⟩
structure je(P:aq)(w:aj)(K:ao)(mg:Str->Option ae)(base:Heap)(CX:CXT)(k:Nat)(f:Addr)(fd:FuncData)(ps:List Str)(sp:Sp):Prop where
 len:∀vs H Q E,sp vs H Q E->vs.length=ps.length
 run:∀(A:ar) (outer:List Env) (s:af) (H:Hp) (args:Args) (us:List ae) (vs:List V) (Q:VK) (E:XK),eV k A->ff P w K mg base A outer s H->BindsTo s fd args (ps.zip us)->Vals vs us->sp vs H Q E ->
  codeAny (ai P w) A (.call (.ref f) args) (CR CX outer P w H s Q E) s
section
variable{CX:CXT}{P:aq}{w:aj}{K:ao}{mg:Str->Option ae}{base:Heap}{k:Nat}{f:Addr}{fd:FuncData}{ps:List Str}{sp:Sp}
end
section
variable{X:Cx}{CX:CXT}{k:Nat}{f:Addr}{fd:FuncData}{ps:List Str}{sp:Sp}{dvs:List V}{ds:List ae}{E:XK}{x:Str}{p pos:Pos}{e:Expr}{es:List Expr}{t:TA}
theorem uw{pins:List (Addr×Obj)}{σ:St}{H:Hp}{s:af}{Q:VK}{us:List ae}{vs:List V}(F:je X.prog X.w X.K X.mg X.base CX k f fd ps sp)(hr:eV k X.A)(hb:Binds X.K fd ps ds)(hd:Vals dvs ds)(hx:Passes CX X E)
  (I:Inv X pins σ H s) (r:Vals vs us) (h:sp (vs++dvs) H Q E):ag (ai X.prog X.w) X.A (call (.ref f) us) (EP X pins σ Q) X.xe s:=by
 have r2:Vals (vs++dvs) (us++ds):=r.append hd;have hl:(us++ds).length=ps.length:=by rw[<-r2.length];exact F.len _ _ _ _ h
 refine wpAny_call (codeAny_mono (F.run X.A X.stack s H ⟨us,[]⟩ (us++ds) (vs++dvs) Q E hr I.env0 (hb s us I.kIn hl) r2 h) λr s' hq=>?_);cases r with
 |error e=>exact hx pins σ H s e s' I hq
 |ok fl=>
  cases fl with
  |ret u=>exact I.after hq
  |next=>exact aM hq
  |brk=>exact aM hq
  |cont=>exact aM hq
theorem om(F:je X.prog X.w X.K X.mg X.base CX k f fd ps sp)(hr:eV k X.A)(hg:Gl X x)(hm:X.mg x=some (.ref f))(hk:bT X.K (.ref f)=true)(hb:Binds X.K fd ps ds)(hd:Vals dvs ds)(hx:Passes CX X E)
  (ha:PA X (e::es) t) (hdb:(x==("__debug__" : Str))=false:=by decide) (he:aH (e::es) X.env=(false,eval e X.env)::aH es X.env:=by rfl) (hpl:(backTo pos (aH es X.env)).any (·.1)=false:=by rfl) :
  PE X (.Call (.Name x p) (e::es) [] pos) (iQ sp dvs E t):=by
 intro pins s σ H Q I h;refine wpAny_Call_Name_kw (jf I hg hm ?_ hdb);refine PySem.W.callWith_K (h₀:=X.base) I.ok.mod.kin hk (thn (ha pos pins s σ H _ I h) λus s1 ⟨vs,H1,I1,r,q⟩=>⟨I1.kIn,?_⟩) he hpl;exact uw F hr hb hd hx I1 r q
end
noncomputable def gZ(x:Addr)(cls:ae):HO:=.ext λh=>∃o vs,h.get? x=some o/\o.cls=cls/\o.data=.fields vs
section
variable{X:Cx}{pins:List (Addr×Obj)}{σ:St}{H:Hp}{s:af}
end
end L2
namespace L2
open PySem PySem.Spec PyProof.Rows PySem.W PySem.Calls Builtin Builtin.ObjectAttr Builtin.Getset_descriptor
structure cB(K:Frag)(C:Addr):Prop where
 ga:findIn K (.ref C) "__getattribute__" = some (some (.builtin "BaseException.__getattribute__"))
 gt:findIn K (.ref C) "__getattr__" = some none
 gc:findIn K (.ref C) "__class__" = some (some (.builtin "object.__class__"))
 mb:mroIn K C (.type "BaseException")=some true
 mo:mroIn K C (.type "object")=some true
 cl:∃c dd cd sl,K.lookup C=some ⟨c,dd,.cls cd,sl⟩
section
variable{prog:aq}{w:aj}{A:ar}{E:ae->af->Prop}{h:Heap}{g:Array GenState}{d:Drawn}{t:Nat}{os:OsState}{x C:Addr}{K:Frag}
theorem tW{R:Result->af->Prop}{tp:ae}(Z:K.In h)(S:cB K C)(L0:Looks (ai prog w) h (typeOf (.ref x)) (.ref C))(hx:∃o,h.get? x=some o/\o.cls=.ref C)(hq:R (.ok (.ret (.ref C))) ⟨h,g,d,t,os⟩) :
  codeAny (ai prog w) A (.call (.builtin "getset_descriptor.__get__") ⟨[.builtin "object.__class__",.ref x,tp],[]⟩) R ⟨h,g,d,t,os⟩:=by
 have L1:=looks_mroIn (M:=ai prog w) Z S.mo;obtain⟨o,ho,hc⟩:=hx;refine codeAny_call_builtin KF.slot_gs.plain KF.entry_gs (KF.slot_gs.check _ _ _ _ _ _ _ _ KF.type_class (KF.args_gs _ _ _) ?_);unfold Builtin.«getset_descriptor.__get__» descrGet;rw[dga_obj];refine ah (av ?_);unfold descrGetter descrCheckInstance descrNameAndClass isInstance;simp only[KF.owner_class]
 repeat lk
 refine⟨Code.quiet_builtin _ (by decide +kernel),codeAny_builtin KF.entry_class ?_⟩;unfold Builtin.«object.__class__» shownTypeOf
 repeat lk
 exact hq
theorem yA{M:Model}{nameV:ae}{Q:Unit->af->Prop}(Z:K.In h)(S:cB K C)(L0:Looks M h (typeOf (.ref x)) (.ref C))(hq:Q () ⟨h,g,d,t,os⟩) :
  ag M A (checkBuiltinCall "BaseException.__getattribute__" ⟨[.ref x,nameV],[]⟩) Q E ⟨h,g,d,t,os⟩:=by
 have hk:builtinKind "BaseException.__getattribute__" = some .slot:=by decide +kernel
 have hsplit:splitId "BaseException.__getattribute__" = some ("BaseException","__getattribute__"):=by decide +kernel
 have L1:=looks_mroIn (M:=M) Z S.mb;have ha:=F.args_bexc_ga (.ref x) nameV;simp only[checkBuiltinCall,hk,hsplit];refine ah ?_;unfold isInstance
 repeat (first|assumption|lk|wp_step)
theorem vY{tk:Tok}{Q:Fin->af->Prop}(Z:K.In h)(S:cB K C)(L0:Looks (ai prog w) h (typeOf (.ref x)) (.ref C))(hx:∃o,h.get? x=some o/\o.cls=.ref C)(hq:Q (.done (.ret (.ref C))) ⟨h,g,d,t,os⟩) :
  ag (ai prog w) A (Builtin.«object.__getattribute__» ⟨[.ref x,.str "__class__" tk],[]⟩) Q E ⟨h,g,d,t,os⟩:=by
 have hT5:(⟨h,g,d,t,os⟩:af).TypeIs (.builtin "object.__class__") "getset_descriptor":=F.typeOf_object_class;have L2:=looks_findIn (M:=ai prog w) Z S.gc;have f5:=F.typeOf_object_class;have f6:=F.slot_gs_get.lookup;have f7:=F.slot_gs_set.lookup
 repeat (any_goals (first|assumption|with_reducible refine L0.at ?_|with_reducible refine ah (L0.at ?_)|with_reducible refine L2.at ?_|with_reducible refine ah (L2.at ?_)|wp_step))
 refine tW Z S L0 hx ?_
 repeat (any_goals (first|assumption|wp_step))
theorem sA{tk:Tok}{Q:ae->af->Prop}(Z:K.In h)(S:cB K C)(L0:Looks (ai prog w) h (typeOf (.ref x)) (.ref C))(hx:∃o,h.get? x=some o/\o.cls=.ref C)(hq:Q (.ref C) ⟨h,g,d,t,os⟩) :
  ag (ai prog w) A (getAttrBy (.ref x) (.str "__class__" tk) false) Q E ⟨h,g,d,t,os⟩:=by
 have f3:=F.attr_ValueError.ga.bind (.ref x);have hx2:(ae.builtin "BaseException.__getattribute__" == ae.builtin "object.__getattribute__")=false:=by decide +kernel
 have hx1:(onTheHeap (aG C)&&ae.builtin "BaseException.__getattribute__" == ae.builtin "object.__getattribute__")=false:=by rw[hx2];rfl
 have L2:=looks_findIn (M:=ai prog w) Z S.ga;have L3:=looks_findIn (M:=ai prog w) Z S.gt
 repeat (any_goals (first|assumption|with_reducible refine L0.at ?_|with_reducible refine ah (L0.at ?_)|with_reducible refine L2.at ?_|with_reducible refine ah (L2.at ?_)|with_reducible refine L3.at ?_|with_reducible refine ah (L3.at ?_)|wp_step))
 refine codeAny_call_builtin F.attr_ValueError.ga.plain F.entry_bexc_ga (yA Z S L0 (vY Z S L0 hx ?_))
 repeat (any_goals (first|assumption|wp_step))
theorem sX{Q:Option ae->af->Prop}(Z:K.In h)(S:cB K C)(L0:Looks (ai prog w) h (typeOf (.ref x)) (.ref C))(hx:∃o,h.get? x=some o/\o.cls=.ref C)(hq:Q (some (.ref C)) ⟨h,g,d,t+1,os⟩) :
  ag (ai prog w) A (getAttr? (.ref x) "__class__") Q E ⟨h,g,d,t,os⟩:=by
 unfold getAttr? getAttrBy?
 repeat (any_goals (first|assumption|with_reducible apply sA Z S L0 hx|wp_step))
end
end L2
namespace L2
open PySem PySem.Spec PyProof.Rows
structure Ai(prog:aq)(w:aj)(xs:Array ae)(i l:Addr)(P:Nat->Heap->Prop):Prop where
 fr:∀k h h',P k h->(∀o,h.get? i=some o->h'.get? i=some o)->(∀o,h.get? l=some o->h'.get? l=some o)->P k h'
 nx:∀{A:ar} (k:Nat) (x:ae) (s:af) (Q:ae->af->Prop) (E:ae->af->Prop),P k s.heap->xs[k]? = some x->(∀h',P (k+1) h'->Heap.SameBut i s.heap h'->Q x {s with heap:=h'})->ag (ai prog w) A (Builtin.SmallTypes.nextOf (.ref i)) Q E s
 en:∀{A:ar} (k:Nat) (s:af) (Q:ae->af->Prop) (E:ae->af->Prop),A.handled=none->P k s.heap->xs[k]? = none ->
  (∀h' e,Heap.ExtBut i s.heap h'->(∃o,h'.get? e=some o/\o.cls=.type "StopIteration")->E (.ref e) {s with heap:=h'})->ag (ai prog w) A (Builtin.SmallTypes.nextOf (.ref i)) Q E s
 at_:∀k h,P k h->∃o,h.get? i=some o/\∃vs,o.data=.fields vs
section
variable{prog:aq}{w:aj}{A:ar}{E:ae->af->Prop}{s:af}
end
section
variable{prog:aq}{w:aj}{A:ar}{E:ae->af->Prop}{s:af}{z TI TO i1 i2 l1 l2:Addr}{k:Nat}{xs ys:Array ae}{P1 P2:Nat->Heap->Prop}
structure Ah(z TI TO i1 i2 l1 l2:Addr):Prop where
 d:ZipApart z TI TO i1 i2 l1 l2
end
section
variable{X:Cx}{pins:List (Addr×Obj)}{σ:St}{H:Hp}{s:af}{h':Heap}{tk:Nat}
theorem Inv.turnNew{ch:List Addr}{p:Addr}{vs:List V}{its:List ae}(I:Inv X pins σ H s)(hf:∀b∈ch,cc X pins H b)(k:∀b o,b∉ch->s.heap.get? b=some o->h'.get? b=some o)
  (hp:s.heap.objs.size<=p) (ht:IsTup h' p its.toArray) (r:Vals vs its) (hz:vs.length<=az):Inv X pins σ (upd H p (.tup vs)) {s with heap:=h',toks:=tk}:=by
 have hpn:H p=none:=I.hok.fresh hp;have nch:∀b u,H b=some u->b∉ch:=λb u e z=>by have:=(hf b z).1;rw[e]at this;cases this
 have np:∀b u,H b=some u->b≠p:=λb u e z=>by rw[z,hpn]at e;cases e
 refine I.step (g':=s.gens) (d':=s.drawn) (ch:=ch) (λb hb=>?_) (λb o _ _ hc e _=>k b o hc e) (λb o _ _ hc e _=>⟨o.slots,k b o hc e⟩) (λb o hc e n=>?_) (λb o hc e=>⟨o,k b o hc e⟩)
  (λb xs e=>by rw[qg (np b _ e)];exact e) (λb o u e=>by rw[qg (np b _ e)];exact e) (λb ps e=>⟨#[],by rw[qg (np b _ e),e];simp⟩) (λm hm=>?_) (λb u e=>?_) I.bare
 ·obtain⟨f0,f1,f2,f3,f4,f5⟩:=hf b hb;exact⟨f3,f1,f4,f5⟩
 ·rw[qg (aS (aZ (aE e) hp))];exact n
 ·obtain⟨o,es,ep,ho,r⟩:=hm;exact⟨o,es,ep,k _ o (λz=>(hf _ z).2.1 rfl) ho,r⟩
 ·by_cases hb:b=p
  ·subst hb;rw[zi]at e;cases e;exact⟨hz,its,r,ht⟩
  ·rw[qg hb]at e;refine(I.hok b u e).stay (λc v hc q=>k c v ?_ q) (λc q=>by rw[qg (np c _ q)];exact q) λc xs q=>by rw[qg (np c _ q)];exact q
   rcases hc with z|z
   ·rw[z];exact nch b u e
   ·exact nch c _ z
theorem Inv.turnAll{ch:List Addr}(I:Inv X pins σ H s)(hf:∀b∈ch,cc X pins H b)(k:∀b o,b∉ch->s.heap.get? b=some o->h'.get? b=some o):Inv X pins σ H {s with heap:=h',toks:=tk}:=by
 have nch:∀b u,H b=some u->b∉ch:=λb u e z=>by have:=(hf b z).1;rw[e]at this;cases this
 refine I.step (g':=s.gens) (d':=s.drawn) (ch:=ch) (λb hb=>?_) (λb o _ _ hc e _=>k b o hc e) (λb o _ _ hc e _=>⟨o.slots,k b o hc e⟩) (λb o hc e n=>n) (λb o hc e=>⟨o,k b o hc e⟩)
  (λb xs e=>e) (λb o u e=>e) (λb ps e=>⟨#[],by rw[e];simp⟩) (λm hm=>?_) (λb u e=>?_) I.bare
 ·obtain⟨f0,f1,f2,f3,f4,f5⟩:=hf b hb;exact⟨f3,f1,f4,f5⟩
 ·obtain⟨o,es,ep,ho,r⟩:=hm;exact⟨o,es,ep,k _ o (λz=>(hf _ z).2.1 rfl) ho,r⟩
 ·refine(I.hok b u e).stay (λc v hc q=>k c v ?_ q) (λc q=>q) λc xs q=>q
  rcases hc with z|z
  ·rw[z];exact nch b u e
  ·exact nch c _ z
end
section
variable{prog:aq}{w:aj}{A:ar}{E:ae->af->Prop}{s:af}
end
theorem sJ{K:ao}{x C:Addr}(S:cB K C):PySem.W.KitX K (.ref x) (.ref C) (λh=>∃o,h.get? x=some o/\o.cls=.ref C) where
 ty:=λM h _ ⟨o,e,c⟩=>c▸(PySem.W.Looks.ld e).andThen .now
 it:=λ_ _ Z _=>by
  obtain⟨c,dd,cd,sl,e⟩:=S.cl;intro A' Q' E' s' k q;unfold isType loadHead;exact ah (wpAny_loadPart (k _ _ (Z _ _ e)) (av q))
 ne:=λh tp dd its n sl Z htp=>by
  obtain⟨c,dd',cd,sl',e⟩:=S.cl;refine Bool.eq_false_iff.mpr λq=>?_
  have e1:C=tp:=aG.inj (beq_iff_eq.mp q);subst e1;have z:=(Z _ _ e).symm.trans htp;cases z
 ca:=λ{prog w A E Q s} Z ⟨o,e,c⟩ k=>by
  obtain⟨hh,g,d,t,os⟩:=s;exact sX Z S (c▸(PySem.W.Looks.ld e).andThen .now) ⟨o,e,c⟩ k
noncomputable def jb:V->Option ae
 | .ty n=>some (.type n)
 | .ref a=>some (.ref a)
 |_=>none
noncomputable def TyX(K:ao)(H:Hp)(x:V)(t:ae):Prop:=b_ K H x t\/∃a C,x=.ref a/\t=.ref C/\H a=some (gZ a (.ref C))/\cB K C
theorem yS{X:Cx}:zm X (.builtin "isinstance") (λxs H Q=>∃x c cv t b,xs=[x,c]/\jb c=some cv/\TyX X.K H x t/\bh X.K t cv=some b/\Q (.bl b) H):=by
 intro pins s σ H xs us Q I r h;obtain⟨x,c,cv,t,b,rfl,hc,ty,hk,q⟩:=h;obtain⟨u,cu,rfl,rx,rc⟩:=r.two;have e:cu=cv:=by
  cases c with
  |ty n=>cases hc;exact rc
  |ref a=>cases hc;exact rc
  |_=>cases hc
 subst e;rcases ty with ty|⟨a,C,rfl,rfl,ha,S⟩
 ·exact eN I rx ty hk λtk=>⟨.bl b,H,I.tok tk,rfl,q⟩
 ·cases rx;obtain⟨⟨o,vs,e1,e2,e3⟩,_⟩:=(show zx X.prog X.w H s.heap a (gZ a (.ref C))from I.hok a _ ha)
  exact a_ (sJ S) I.kIn ⟨o,e1,e2⟩ hk (λz=>nomatch z) λtk=>⟨.bl b,H,I.tok tk,rfl,q⟩
theorem sD{K:ao}{T:String}:bh K (.type T) (.type T)=some true:=by unfold bh;rw[if_pos (by simp)]
theorem rC{K:ao}{a T:String}{b:Bool}(hne:(ae.type a==ae.type T)=false)(hm:PySem.W.kitMeta T=true)(hf:(fastBuiltinMro a).map (·.contains (.type T))=some b):bh K (.type a) (.type T)=some b:=by
 unfold bh PySem.W.kitCls PySem.W.subIn;rw[if_neg (by rw[hne];exact bZ)];dsimp only;rw[if_pos hm];exact hf
noncomputable def dP(a T:String):Bool:=a==T||(a == "bool" && T == "int")
theorem rB{K:ao}{a T:String}(ha:a∈["NoneType","bool","int","str","list","tuple","dict"])(hT:T∈["int","bool","str","list","tuple"]):bh K (.type a) (.type T)=some (dP a T):=by
 simp only[aL,cf,or_false]at ha hT;rcases ha with rfl|rfl|rfl|rfl|rfl|rfl|rfl<;>rcases hT with rfl|rfl|rfl|rfl|rfl<;>first|exact sD|exact rC (by decide +kernel) (by decide +kernel) (by decide +kernel)
noncomputable def ltP(p q:Int×Int):Bool:=if p.1=q.1 then decide (p.2<q.2)else decide (p.1<q.1)
section
variable{prog:aq}{w:aj}{A:ar}{E:ae->af->Prop}{s:af}
end
theorem wg{h:Heap}{a:Addr}{m m':Str->Option ae}(x:h.Ns a m)(y:h.Ns a m'):m=m':=by
 obtain⟨o,es,ep,e1,e2,_,e4⟩:=x;obtain⟨o',es',ep',f1,f2,_,f4⟩:=y;rw[e1]at f1;cases f1;rw[e2]at f2;cases f2;funext n;rw[<-e4,<-f4]
theorem Inv.newList{X:Cx}{pins:List (Addr×Obj)}{σ:St}{H:Hp}{s s':af}{D:Addr}{out:List V}{its:List ae}{c:Nat}(I:Inv X pins σ H s)(hos:s'.os=s.os)(hg:s'.gens=s.gens)
  (k:∀b o,b≠X.env.locals->s.heap.get? b=some o->s'.heap.get? b=some o) (ns:∀m,s.heap.Ns X.env.locals m->s'.heap.Ns X.env.locals m) (hD:s.heap.get? D=none) (hDL:D≠X.env.locals)
  (hl:s'.heap.get? D=some {cls:=.type "list",data:=.seq its.toArray c}) (r:Vals out its) (hz:out.length<=az):Inv X pins σ (upd H D (.lst out)) s':=by
 obtain⟨h',g',d',t',o'⟩:=s';have eo:o'=s.os:=hos;have eg:g'=s.gens:=hg;subst eo eg;have hpn:H D=none:=I.hok.free_of hD;have np:∀b u,H b=some u->b≠D:=λb u e z=>by rw[z,hpn]at e;cases e
 obtain⟨m0,n0,_⟩:=id I.loc;obtain⟨oL,es,ep,hoL,_⟩:=id n0;obtain⟨oL',es',ep',hoL',_⟩:=ns _ n0;refine I.step (g':=s.gens) (d':=d') (ch:=[]) (λb hb=>absurd hb (by simp)) (λb o hL _ _ e _=>k b o hL e) (λb o hL _ _ e _=>⟨o.slots,k b o hL e⟩) (λb o _ e n=>?_) (λb o _ e=>?_)
  (λb xs e=>by rw[qg (np b _ e)];exact e) (λb o u e=>by rw[qg (np b _ e)];exact e) (λb ps e=>⟨#[],by rw[qg (np b _ e),e];simp⟩) ns (λb u e=>?_) I.bare
 ·rw[qg (λz=>by rw[z,hD]at e;cases e)];exact n
 ·by_cases hL:b=X.env.locals
  ·exact⟨oL',by rw[hL];exact hoL'⟩
  ·exact⟨o,k b o hL e⟩
 ·by_cases hb:b=D
  ·subst hb;rw[zi]at e;cases e;exact⟨hz,its,c,r,hl⟩
  ·rw[qg hb]at e;have nl:∀c,(∃u,H c=some u)->c≠X.env.locals:=λc ⟨u,e⟩ z=>by rw[z,I.free]at e;cases e
   refine(I.hok b u e).stay (λc v hc q=>k c v (nl c ?_) q) (λc q=>by rw[qg (np c _ q)];exact q) λc xs q=>by rw[qg (np c _ q)];exact q
   rcases hc with z|z
   ·exact⟨u,by rw[z];exact e⟩
   ·exact⟨_,z⟩
section
variable{prog:aq}{w:aj}{A:ar}{E:ae->af->Prop}{s:af}
end
section
variable{X:Cx}{pins:List (Addr×Obj)}{σ:St}{H:Hp}{s:af}
theorem uG{A:ar}{bs:List Bool}{us:List ae}(r:Vals (bs.map V.bl) us):us=bs.map ae.bool:=by
 induction bs generalizing us with
 |nil=>cases r;rfl
 |cons b bs ih=>cases r with
  |cons h t=>rw[ih t,show _=ae.bool b from h];rfl
end
section
variable{X:Cx}
noncomputable def lZ(r r' r'':R2)(ta tb tc td:TE):TE:=λσ H Q=>ta σ H λx H1=>tb σ H1 λy H2=>r x y H2 λz H3=>∃k,z=.bl k /\
 (if k=true then tc σ H3 λw' H4=>r' y w' H4 λz H5=>∃k,z=.bl k/\(if k=true then td σ H5 λw'' H6=>r'' w' w'' H6 Q else Q (.bl false) H5)else Q (.bl false) H3)
theorem oB{a b c d:Expr}{ta tb tc td:TE}{pos:Pos}{op op' op'':CmpOp}{r r' r'':R2}(ho:OpR X (aF op) r)(ho':OpR X (aF op') r')(ho'':OpR X (aF op'') r'')(ha:PE X a ta)(hb:PE X b tb)(hc:PE X c tc)(hd:PE X d td)
  (hm:lastMarks [op,op',op''] [b,c,d]=false:=by with_unfolding_all rfl):PE X (.Compare a [op,op',op''] [b,c,d] pos) (lZ r r' r'' ta tb tc td):=by
 intro pins s σ H Q I h;refine Compare_chain (thn (ha pins s σ H _ I h) λv s1 ⟨x,H1,I1,r1,q1⟩=>chain_link (thn (hb pins s1 σ H1 _ I1 q1) λu s2 ⟨y,H2,I2,r2,q2⟩=>
  thn (ho pins s2 σ H2 x y v u _ I2 r1 r2 q2) λd s3 ⟨z,H3,I3,r3,k,e,q3⟩=>?_)) hm
 subst e;cases r3;refine a8 ?_;cases k with
 |false=>exact ite_ff ⟨.bl false,H3,I3,rfl,q3⟩
 |true=>
  refine ite_tt (chain_link (thn (hc pins s3 σ H3 _ I3 q3) λw' s4 ⟨z',H4,I4,r4,q4⟩=>thn (ho' pins s4 σ H4 y z' u w' _ I4 r2 r4 q4) λd' s5 ⟨z2,H5,I5,r5,k2,e2,q5⟩=>?_));subst e2;cases r5;refine a8 ?_;cases k2 with
  |false=>exact ite_ff ⟨.bl false,H5,I5,rfl,q5⟩
  |true=>exact ite_tt (chain_last (thn (hd pins s5 σ H5 _ I5 q5) λw'' s6 ⟨z3,H6,I6,r6,q6⟩=>ho'' pins s6 σ H6 z' z3 w' w'' Q I6 r4 r6 q6))
noncomputable def u9(K:ao):R2:=λx y H Q=>∃a b xs ys,x=.ref a/\y=.ref b/\SqT K H a xs/\SqT K H b ys/\xs.length+ys.length<=az /\
 (xs=[]->Q (.ref b) H)/\(xs≠[]->ys=[]->Q (.ref a) H)/\(xs≠[]->ys≠[]->∀p,H p=none->Q (.ref p) (upd H p (.tup (xs++ys))))
theorem mT:OpR X (binaryOp .Add) (u9 X.K):=by
 intro pins s σ H x y v u Q I rx ry h;obtain⟨a,b,xs,ys,rfl,rfl,ha,hb,hz,q0,q1,q2⟩:=h;by_cases hx:xs=[]
 ·subst hx;cases rx;cases ry;obtain⟨its,r1,p1,_⟩:=I.tuple ha;obtain⟨its2,r2,p2,_⟩:=I.tuple hb;cases r1;obtain⟨⟨cls,dd,data,sl⟩,ho,hc,n,hd⟩:=id p1;obtain⟨⟨cls2,dd2,data2,sl2⟩,ho2,hc2,n2,hd2⟩:=id p2;simp only at hc hd hc2 hd2;subst hc hd hc2 hd2;exact concat_meets ⟨_,ho,rfl⟩ ⟨_,ho2,rfl⟩ noFill_tuple_add seq_tuple_add PySem.F.slot_tuple_add PySem.F.entry_tuple_add (PySem.F.args_tuple_add_2 _ _)
   (tuple_addW0 a b _ its2.toArray n n2 dd dd2 sl sl2 (by simp)) ⟨ho,ho2,⟨.ref b,H,I,rfl,q0 rfl⟩⟩
 ·exact rG pins s σ H (.ref a) (.ref b) v u Q I rx ry ⟨a,b,xs,ys,rfl,rfl,ha,hb,hx,hz,q1 hx,q2 hx⟩
theorem mN{vs:List ae}{ns:List Int}(h:IntsAre vs ns):Vals (ns.map V.int) vs:=by
 induction h with
 |nil=>exact .nil
 |cons n t _ ih=>exact .cons ⟨t,rfl⟩ ih
noncomputable def yZ(K:ao):List V->Hp->VK->Prop:=λvs H Q=>∃(l:Addr) (ns:List Int),vs=[.ref l]/\SqL K H l (ns.map V.int)/\ns.length<64/\∀(D:Addr) (ms:List Int),H D=none->ms.Perm ns->ms.Pairwise (·<=·)->Q (.ref D) (upd H D (.lst (ms.map V.int)))
theorem tX:zm X (.builtin "sorted") (yZ X.K):=by
 intro pins s σ H xs us Q I r h;obtain⟨l,ns,rfl,hl,h64,q⟩:=h;obtain⟨u,rfl,ru⟩:=r.one;cases ru;obtain⟨its,rv,pl,hz⟩:=I.list hl;obtain⟨m,F⟩:=I.fr;refine PySem.W.kso_sorted F (nS (g:=X.base) (h:=s.heap) (L:=X.env.locals)) pl.isList (intsAre_of rv) h64 λD vs' ns' c h' F' N' hlt hi he hp ho _=>?_
 have keep:∀b o,b≠X.env.locals->s.heap.get? b=some o->h'.get? b=some o:=λb o hb e=>by
  cases qb:X.base.get? b with
  |some ob=>have:=I.bk b ob qb;rw[e]at this;cases this;exact F'.keep b _ qb
  |none=>exact(N' (b,o) (aO _ (kh hb qb e))).1
 have hDn:=N' (D,_) aP;have hD0:s.heap.get? D=none:=by
  cases qd:s.heap.get? D with
  |none=>rfl
  |some o=>exact absurd (hlt (D,o) (kh hDn.2.1 hDn.2.2 qd)) (bj _)
 refine⟨.ref D,_,I.newList (s':={s with heap:=h'}) (c:=c) rfl rfl keep (λm' hm'=>?_) hD0 hDn.2.1 hDn.1 (mN hi) (by rw[a6,he,bp];lia),rfl,q D ns' (I.hok.free_of hD0) hp ho⟩;rw[wg hm' F.ns];exact F'.ns
end
noncomputable def Ite(K:ao)(l:Addr):It:=
 ⟨λi H=>∃xs x,SqL K H l xs/\xs[i]? = some x,
  λi H v H'=>∃p x,H p=none/\v=.ref p/\H'=upd H p (.tup [.int i,x])/\∀xs,SqL K H l xs->xs[i]? = some x,
  λi H=>∃xs,SqL K H l xs/\xs.length<=i⟩
theorem vK{P:aq}{w:aj}{K:ao}{es:List Expr}{ek:Nat}{epos:Pos}{e it l:Addr}(n1:e≠it)(n2:l≠e)(n3:l≠it) :
  Turn P w K (.Tuple es ek epos) (Ite K l) [e,it] e (λi h=>(∃old,IsEnum h e it ((i:Nat):Int) old)/\h.IsListIter it l i) where
 mem:=by simp
 obj:=λi h st b hb=>by
  obtain⟨⟨old,hz⟩,o1,e1,_,d1⟩:=st;have hb':b=e\/b=it:=by simpa using hb
  rcases hb' with q|q
  ·subst q;exact⟨_,hz,λv q=>by cases q⟩
  ·subst q;exact⟨o1,e1,λv q=>by rw[d1]at q;cases q⟩
 keep:=λi h h' st k=>by
  obtain⟨⟨old,hz⟩,h1⟩:=st;exact⟨⟨old,k e (by simp) _ hz⟩,h1.at λo q=>k it (by simp) o q⟩
 item:=by
  intro X hP hw hK hc i pins s σ H E I hf st hg;subst hP hw hK;obtain⟨⟨old,hz⟩,h1⟩:=st;obtain⟨xs,x,q1,hx⟩:=hg;obtain⟨its,r1,p1,z1⟩:=I.list q1;obtain⟨u1,hu1,ru1⟩:=r1.get hx;refine wpAny_pyNext_enum_item hz h1 p1.isList (x:=u1) (by simpa using hu1) n1 λh' a1 a2 a3 a4 hk=>?_
  have hkc:∀b o,b∉[e,it]->s.heap.get? b=some o->h'.get? b=some o:=λb o hb q=>hk b o (λz=>hb (by simp[z])) (λz=>hb (by simp[z])) q
  have I1:Inv X pins σ (upd H s.heap.objs.size (.tup [.int i,x])) {s with heap:=h',toks:=s.toks+1}:=I.turnNew (tk:=s.toks+1) (its:=[.int i s.toks,u1]) hf hkc (aA _) ⟨_,a3,rfl,_,rfl⟩ (.cons ⟨_,rfl⟩ (.cons ru1 .nil)) (by show 2<=az;decide);have hpn:H s.heap.objs.size=none:=I.hok.fresh (aA _);have hfp:∀b∈[e,it],b≠s.heap.objs.size:=λb hb q=>by
   have hb':b=e\/b=it:=by simpa using hb
   obtain⟨o1,e1,_,d1⟩:=h1;have:b<s.heap.objs.size:=by
    rcases hb' with q|q
    ·subst q;exact aE hz
    ·subst q;exact aE e1
   rw[q]at this;exact bj _ this
  have hnone:∀b∈[e,it],(upd H s.heap.objs.size (.tup [.int i,x])) b=none:=λb hb=>by rw[qg (hfp b hb)];exact(hf b hb).1
  refine⟨_,rfl,?_⟩;refine wpAny_letOwnedTupleGo_enum (s:={s with heap:=h',toks:=s.toks+1}) a1 λh2' hz' hs'=>?_
  obtain⟨f0,f1,f2,f3,f4,f5⟩:=hf e (by simp);refine⟨.ref s.heap.objs.size,_,I1.turned (t':=s.toks+1) (it:=e) (λb o hb q=>(hs'.2 b hb).trans q) (hnone e (by simp)) f1 f3 f4 f5,rfl,⟨_,x,hpn,rfl,rfl,λzs hq=>by rw[I.list_inj hq q1];exact hx⟩,⟨⟨u1,?_⟩,a2.at λo q=>(hs'.2 it (Ne.symm n1)).trans q⟩,hnone⟩
  ·have:((i+1:Nat):Int)=(i:Int)+1:=by push_cast;rfl
   rw[this];exact hz'
 done:=by
  intro X hP hw hK hc i pins s σ H E I hf st hg;subst hP hw hK;obtain⟨⟨old,hz⟩,h1⟩:=st;obtain⟨xs,q1,hx⟩:=hg;obtain⟨its,r1,p1,z1⟩:=I.list q1;have hl:=r1.length;exact wpAny_pyNext_enum_end (I.ok.hd hc) hz h1 p1.isList (by simp;lia) λh' eb=>⟨rfl,I.turnAll (tk:=s.toks) hf λb o hb q=>eb b o (λz=>hb (by simp[z])) q⟩
 self:=λ_ _ _ _ _ st h=>by
  obtain⟨⟨old,hz⟩,_⟩:=st;exact wpAny_pyIter_enum hz h
noncomputable def pT(K:ao)(ta:TA):TI:=λσ H R=>ta σ H λvs H1=>∃(l:Addr),vs=[.ref l]/\(∃xs,SqL K H1 l xs)/\R (Ite K l) H1
theorem sO{X:Cx}{es:List Expr}{ek:Nat}{epos p pos:Pos}{a:Expr}{ta:TA}(hg:Gl X "enumerate")(hm:X.mg "enumerate" = none)(hv:bc "enumerate" = some (.type "enumerate"))(ha:PA X [a] ta)
  (hs:aH [a] X.env=[(false,eval a X.env)]:=by rfl):PI X (.Tuple es ek epos) (.Call (.Name "enumerate" p) [a] [] pos) (pT X.K ta):=by
 intro pins s σ H R I h;refine Call_ (eG I hg hm hv (PyProof.Rows.callWith_type1 (thn (ha pos pins s σ H _ I h) λus s1 ⟨vs,H1,I1,r1,q1⟩=>?_) (by rw[hs];rfl) (by rfl)));obtain⟨l,e,⟨xs,q2⟩,q⟩:=q1;subst e;cases r1 with
 |cons r rr=>
  cases rr;cases r;obtain⟨its1,v1,p1,_⟩:=I1.list q2;have lt1:l<s1.heap.objs.size:=by obtain⟨_,e,_⟩:=p1.isList;exact aE e
  refine call_enumerate_list p1.isList λh' hE hI hsz k=>?_
  have I2:Inv X pins σ H1 {s1 with heap:=h'}:=I1.kept (t':=s1.toks) k;refine wpAny_pyIter_enum hE ?_;refine⟨_,_,_,_,H1,rfl,I2,vK (P:=X.prog) (w:=X.w) (K:=X.K) (e:=s1.heap.objs.size+1) (it:=s1.heap.objs.size) (l:=l) (Nat.succ_ne_self _) (aS (Nat.lt_succ_of_lt lt1)) (aS lt1),⟨⟨_,hE⟩,hI⟩,λb hb=>?_,q⟩;have hb':b=s1.heap.objs.size+1\/b=s1.heap.objs.size:=by simpa using hb
  have:s1.heap.objs.size<=b:=by
   rcases hb' with q|q
   ·rw[q];exact Nat.le_succ _
   ·rw[q];exact aA _
  exact I1.fpOk this (I1.hok.fresh this)
end L2
namespace L2
open PySem PySem.Spec PyProof.Rows PySem.SeqAt
mutual
inductive cD(K:ao)(H:Hp):V->PyData->Prop
 |non:cD K H .non .none
 |bl (b:Bool):cD K H (.bl b) (.bool b)
 |int (i:Int):cD K H (.int i) (.int i)
 |str (x:Str):cD K H (.str x) (.str x)
 |lst {a:Addr}{xs:List V}{ds:List PyData}:SqL K H a xs->et K H xs ds->cD K H (.ref a) (.list ds)
 |tup {a:Addr}{xs:List V}{ds:List PyData}:SqT K H a xs->et K H xs ds->cD K H (.ref a) (.tuple ds)
inductive et(K:ao)(H:Hp):List V->List PyData->Prop
 |nil:et K H [] []
 |cons {x:V}{xs:List V}{d:PyData}{ds:List PyData}:cD K H x d->et K H xs ds->et K H (x::xs) (d::ds)
end
section
variable{X:Cx}{pins:List (Addr×Obj)}{σ:St}{H:Hp}{s:af}
theorem Inv.reads(I:Inv X pins σ H s){x:V}{d:PyData}(h:cD X.K H x d):∀{u:ae},RelV x u->∃as,Reads s.heap u d as:=
 h.rec (motive_1:=λx d _=>∀{u:ae},RelV x u->∃as,Reads s.heap u d as) (motive_2:=λxs ds _=>∀{us:List ae},Vals xs us->∃as,ReadsAll s.heap us ds as) (λr=>by cases r;exact⟨_,.none⟩) (λb _ r=>by cases r;exact⟨_,.bool b⟩) (λi _ r=>by obtain⟨t,rfl⟩:=r;exact⟨_,.int i t⟩) (λx _ r=>by obtain⟨t,rfl⟩:=r;exact⟨_,.str x t⟩)
  (λh _ g _ r=>by
   cases r;obtain⟨its,rv,pl,_⟩:=I.list h;obtain⟨as,ra⟩:=g rv;obtain⟨o,ho,hc,n,hd⟩:=pl.isList;exact⟨_,Reads.list ho hc hd (by simpa using ra)⟩)
  (λh _ g _ r=>by
   cases r;obtain⟨its,rv,pl,_⟩:=I.tuple h;obtain⟨as,ra⟩:=g rv;obtain⟨o,ho,hc,n,hd⟩:=pl;exact⟨_,Reads.tuple ho hc hd (by simpa using ra)⟩)
  (λr=>by cases r;exact⟨_,.nil⟩) (λ_ _ a b _ r=>by
   cases r with
   |cons r1 r2=>
    obtain⟨as,ra⟩:=a r1;obtain⟨bs,rb⟩:=b r2;exact⟨_,.cons ra rb⟩)
end
section
variable{X:Cx}
end
end L2
namespace L2
open PySem PySem.Spec PyProof.Rows
section
variable{lt:Nat->Nat->Bool}
noncomputable def Asc(lt:Nat->Nat->Bool)(p:Array Nat)(m:Nat):Prop:=∀i j,i<j->j<m->lt (p.getD j 0) (p.getD i 0)=false
end
section
variable{lt:Nat->Nat->Bool}
structure Part(lt:Nat->Nat->Bool)(p:Array Nat)(r:Nat×Array Nat):Prop where
 perm:r.2.Perm p
 size:r.2.size=p.size
 lo:1<=r.1
 hi:r.1<=p.size
 asc:Asc lt r.2 r.1
end
section
variable{X:Cx}
end
end L2
namespace HT
open PySem PySem.Spec PyProof.Rows L2
section
variable{prog:aq}{w:aj}{A:ar}{E:ae->af->Prop}{s:af}
theorem xG{t sl:Addr}{items:Array ae}{vl vu:ae}{lo hi:Option Int}{Q:ae->af->Prop}(ht:IsTup s.heap t items)(hs:s.heap.IsSliceOf sl vl vu .none)(pl:IsPart vl lo)(pu:IsPart vu hi)
  (h0:sIx items.size 0 lo=0) (h1:sIx items.size items.size hi=items.size) (h:Q (.ref t) s):ag (ai prog w) A (getItem (.ref t) (.ref sl)) Q E s:=by
 have sk:s.TypeIs (.ref sl) "slice":=by obtain⟨o,a,b,_⟩:=id hs;exact⟨o,a,b⟩
 unfold getItem
 try with_reducible refine wpAny_holding ?_
 first|refine ah (av ?_)|skip
 have ty:=ht.typeIs;apply ah;apply wpAny_sequenceKey ty (by decide);apply ah;apply wpAny_callSpecial?_slot (name:=aU "__getitem__") ty slot_tuple_getitem;refine wpAny_call_entry slot_tuple_getitem ty entry_tuple_getitem ?_ (args_tuple_getitem _ _);show ag _ _ (Builtin.Tuple.tupleItemsOf (.ref t)>>=_) _ _ s;apply ah;apply tupleItemsOf_ ht;apply ah;apply wpAny_typeOf sk;rw[if_pos (by decide)];apply ah;apply j4 hs pl pu;have yes:(((sIx items.size 0 lo:Nat):Int)==0&&(1:Int)==1&&(sIx items.size items.size hi-sIx items.size 0 lo)==items.size)=true:=by
  rw[h0,h1];simp
 show ag _ _ (if (((sIx items.size 0 lo:Nat):Int)==0&&(1:Int)==1&&(sIx items.size items.size hi-sIx items.size 0 lo)==items.size)=true then _ else _) _ _ s;rw[if_pos yes];apply ah;unfold Builtin.Tuple.tupleIsExact;refine ah (wpAny_typeOf ty (av ?_));rw[if_pos (by rfl)];exact ah (wpAny_rule (av ⟨_,rfl,av h⟩))
end
end HT
namespace L2
open PySem PySem.Spec PyProof.Rows
noncomputable def oK(K:ao):V->Option Int->Option Int->Hp->VK->Prop:=λx lo hi H Q=>∃a xs,x=.ref a/\SqT K H a xs/\HT.sIx xs.length 0 lo=0/\HT.sIx xs.length xs.length hi=xs.length/\Q x H
theorem xN{X:Cx}:SlR X (oK X.K):=by
 intro pins s σ H x v vl vu lo hi sl Q I rx hs pl pu ⟨a,xs,e,hx,h0,h1,q⟩;subst e;have rx':=rx;cases rx;obtain⟨its,r,ht,hz⟩:=I.tuple hx;have hl:its.toArray.size=xs.length:=by rw[aJ];exact r.length.symm
 exact⟨"tuple",_,slot_tuple_getitem.lookup,ht.typeIs,HT.xG ht hs pl pu (by rw[hl];exact h0) (by rw[hl];exact h1) ⟨.ref a,H,I,rx',q⟩⟩
section
variable{X:Cx}{tg:Expr}
noncomputable def y7(i j k:Nat)(ta:TA):TS:=λD σ H=>ta σ H λvs H1=>∃v w z,vs=[v,w,z]/\D.nx (((σ.set i (some v)).set j (some w)).set k (some z)) H1
theorem tQ{pos:Pos}{i j k:Nat}{x y z:Str}{a b c:Expr}{ta:TA}{px py pz pt:Pos}{kt k2 pt2}(hc:X.calm=true)(hN:X.N.Nodup)(hi:X.N[i]? = some x)(hj:X.N[j]? = some y)(hk:X.N[k]? = some z)(hij:i≠j)(hik:i≠k)(hjk:j≠k)
  (hx:X.env.scope.names.lookup x=some .local) (hy:X.env.scope.names.lookup y=some .local) (hz:X.env.scope.names.lookup z=some .local) (ha:PA X [a,b,c] ta)
  (hw:bt [.Tuple [.Name x px,.Name y py,.Name z pz] kt pt] (.Tuple [a,b,c] k2 pt2) X.env=pure (some [x,y,z]))
  (hs:swapsWithSole [.Tuple [.Name x px,.Name y py,.Name z pz] kt pt] (.Tuple [a,b,c] k2 pt2) pos.line X.env=pure false:=by rfl) :
  PS X (.Assign [.Tuple [.Name x px,.Name y py,.Name z pz] kt pt] (.Tuple [a,b,c] k2 pt2) pos) (y7 i j k ta):=by
 intro pins s σ H D I h;rw[exec_Assign_arm];refine ah (wpAny_standAt ?_);rw[hs];refine ah (av ?_);rw[if_neg (by decide)];refine ah (Tuple_ (thn (ha _ pins s σ H _ I h) λus s1 ⟨vs,H1,I1,r1,q1⟩=>?_));obtain⟨v,w,y',e1,q1⟩:=q1;subst e1;obtain⟨u1,u2,u3,rfl,rv,rw',rz⟩:∃u1 u2 u3,us=[u1,u2,u3]/\RelV v u1/\RelV w u2/\RelV y' u3:=by
  cases r1 with
  |cons p q=>
   cases q with
   |cons p' q'=>
    cases q' with
    |cons p'' q''=>
     cases q'';exact⟨_,_,_,rfl,p,p',p''⟩
 refine bS ?_ (by show 3<=az;decide);have I2:Inv X pins σ H1 {s1 with heap:=s1.heap.push {cls:=.type "tuple",data:=.seq [u1,u2,u3].toArray}}:=I1.kept (t':=s1.toks) λb o e=>Heap.get?_push_of_some _ e
 rw[hw];refine ah (av ?_);show ag (ai X.prog X.w) X.A (do rule "assign.swapped-stores";let items <-unpackItems (.ref s1.heap.objs.size) 3 none;assignInOrder [λv=>bindName X.env z v,λv=>bindName X.env y v,λv=>bindName X.env x v] items.reverse;pure Flow.next) _ _ _;refine ah (wpAny_rule (ah (unpackItems_tuple (items:=#[u1,u2,u3]) (I.ok.hd hc) (IsTup.new s1.heap _) λh' hx'=>?_)));have I3:=I2.kept (h':=h') (t':=s1.toks) λb o e=>hx' b o (aS (aE e)) e
 show ag _ _ (assignInOrder [λv=>bindName X.env z v,λv=>bindName X.env y v,λv=>bindName X.env x v] [u3,u2,u1]>>=λ_=>pure Flow.next) _ _ _;refine ah (assignInOrder_cons (wpAny_bindName (fh I3 hN hk (.inl hz) rz (λs2 I4=>?_) (.inr hz))));refine assignInOrder_cons (wpAny_bindName (fh I4 hN hj (.inl hy) rw' (λs3 I5=>?_) (.inr hy)));refine assignInOrder_cons (wpAny_bindName (fh I5 hN hi (.inl hx) rv (λs4 I6=>assignInOrder_nil (av ?_)) (.inr hx)));rw[List.set_comm _ _ (Ne.symm hjk),List.set_comm _ _ (Ne.symm hik),List.set_comm _ _ (Ne.symm hij)]at I6;exact⟨_,H1,I6,q1⟩
end
section
variable{κ:Type} [DecidableEq κ]
noncomputable def bU(kvs:List (κ×V))(k:κ):Option V:=(kvs.find? λkv=>decide (kv.1=k)).map (·.2)
noncomputable def putK(kvs:List (κ×V))(k:κ)(v:V):List (κ×V):=
 if (kvs.any λkv=>decide (kv.1=k))=true then kvs.map (λkv=>if kv.1=k then (kv.1,v)else kv)else kvs++[(k,v)]
theorem dN{p:κ×V}{r:List (κ×V)}{k:κ}(e:p.1=k):bU (p::r) k=some p.2:=by simp[bU,List.find?_cons,e]
theorem dX{p:κ×V}{r:List (κ×V)}{k:κ}(e:¬ p.1=k):bU (p::r) k=bU r k:=by simp[bU,List.find?_cons,e]
theorem gO(k:κ):∀kvs:List (κ×V),(kvs.any λkv=>decide (kv.1=k))=(bU kvs k).isSome
 | []=>rfl
 |p::r=>by
  rw[List.any_cons];by_cases e:p.1=k
  ·simp only[dN e,decide_eq_true e,Bool.true_or,Option.isSome_some]
  ·rw[dX e,decide_eq_false e,Bool.false_or];exact gO k r
theorem rE(k j:κ)(y:V):∀kvs:List (κ×V),bU (kvs.map λkv=>if kv.1=k then (kv.1,y)else kv) j=(bU kvs j).map λx=>if j=k then y else x
 | []=>rfl
 |p::r=>by
  have ih:=rE k j y r;rw[aK];by_cases h:p.1=k
  ·rw[if_pos h];by_cases e:p.1=j
   ·rw[dN (p:=(p.1,y)) e,dN e,Option.map_some,if_pos (e.symm.trans h)]
   ·rw[dX (p:=(p.1,y)) e,dX e,ih]
  ·rw[if_neg h];by_cases e:p.1=j
   ·rw[dN (p:=p) e,dN e,Option.map_some,if_neg (λz=>h (e.trans z))]
   ·rw[dX (p:=p) e,dX e,ih]
theorem iD(kvs:List (κ×V))(k:κ)(v:V):(putK kvs k v).length<=kvs.length+1:=by
 unfold putK;split
 ·rw[a6];lia
 ·rw[List.length_append,cg,List.length_nil];lia
theorem bY.isSome_eq{o:Option V}{u:Option ae}(r:bY o u):o.isSome=u.isSome:=by
 cases o with
 |none=>cases u with
  |none=>rfl
  |some _=>exact(show False from r).elim
 |some _=>cases u with
  |none=>exact(show False from r).elim
  |some _=>rfl
theorem bY.getD{o:Option V}{u:Option ae}{d:V}{d':ae}(r:bY o u)(rd:RelV d d'):RelV (o.getD d) (u.getD d'):=by
 cases o with
 |none=>cases u with
  |none=>exact rd
  |some _=>exact(show False from r).elim
 |some _=>cases u with
  |none=>exact(show False from r).elim
  |some _=>exact r
theorem KV.val{kvs:List (κ×V)}{vs:List (κ×ae)}(r:KV kvs vs)(k:κ):bY (bU kvs k) (valueAt vs k):=by
 unfold KV at r
 induction r with
 |nil=>exact True.intro
 | @cons p q ps qs h t ih=>
  obtain⟨h1,h2⟩:=h;by_cases e:p.1=k
  ·have e':q.1=k:=h1.symm.trans e;have b:valueAt (q::qs) k=some q.2:=by simp[valueAt,List.find?_cons,e']
   rw[dN e,b];exact h2
  ·have e':¬ q.1=k:=λz=>e (h1.trans z)
   have b:valueAt (q::qs) k=valueAt qs k:=by simp[valueAt,List.find?_cons,e']
   rw[dX e,b];exact ih
theorem KV.any{kvs:List (κ×V)}{vs:List (κ×ae)}(r:KV kvs vs)(k:κ):(kvs.any λkv=>decide (kv.1=k))=vs.any λkv=>decide (kv.1=k):=by
 unfold KV at r
 induction r with
 |nil=>rfl
 |cons h t ih=>rw[List.any_cons,List.any_cons,ih,h.1]
theorem KV.repl{kvs:List (κ×V)}{vs:List (κ×ae)}(r:KV kvs vs)(k:κ){y:V}{u:ae}(ry:RelV y u) :
  KV (kvs.map λkv=>if kv.1=k then (kv.1,y)else kv) (vs.map λkv=>if kv.1=k then (kv.1,u)else kv):=by
 unfold KV at r ⊢
 induction r with
 |nil=>exact .nil
 | @cons p q ps qs h t ih=>
  rw[aK,aK];refine .cons ?_ ih;obtain⟨h1,h2⟩:=h;by_cases e:p.1=k
  ·rw[if_pos e,if_pos (h1.symm.trans e)];exact⟨h1,ry⟩
  ·rw[if_neg e,if_neg (λz=>e (h1.trans z))];exact⟨h1,h2⟩
theorem KV.put{kvs:List (κ×V)}{vs:List (κ×ae)}(r:KV kvs vs)(k:κ){y:V}{u:ae}(ry:RelV y u):KV (putK kvs k y) (stored vs k u):=by
 unfold putK stored;rw[r.any k];by_cases e:(vs.any λkv=>decide (kv.1=k))=true
 ·rw[if_pos e,if_pos e];exact r.repl k ry
 ·rw[if_neg e,if_neg e];exact Paired.snoc r ⟨rfl,ry⟩
theorem KV.length{kvs:List (κ×V)}{vs:List (κ×ae)}(r:KV kvs vs):kvs.length=vs.length:=Paired.length r
end
theorem dC{P:aq}{w:aj}{k:Key}{u:ae}(r:RelV (kV k) u):(zp P w).is k u=true:=by
 cases k with
 |inl i=>obtain⟨t,e⟩:=(show ∃t,u=ae.int i t from r);subst e;exact o8 P w i t
 |inr x=>obtain⟨t,e⟩:=(show ∃t,u=ae.str x t from r);subst e;exact pI P w x t
theorem l7{P:aq}{w:aj}:∀{ks:List Key}{us:List ae},Vals (ks.map kV) us->ItemsAre (zp P w) ks us
 | [],_,r=>by rw[List.map_nil]at r;cases r;exact .nil
 |k::ks,_,r=>by
  rw[aK]at r;cases r with
  |cons h t=>exact .cons (dC h) (l7 t)
abbrev KT(H:Hp):List (List Key×V)->List (List Key×Addr×ae)->Prop:=Paired λp q=>p.1=q.1/\H q.2.1=some (.tup (p.1.map kV))/\RelV p.2 q.2.2
theorem KT.val{H:Hp}{kvs:List (List Key×V)}{xs:List (List Key×Addr×ae)}(r:KT H kvs xs)(k:List Key):bY (bU kvs k) ((atKey xs k).map (·.2)):=by
 induction r with
 |nil=>exact True.intro
 | @cons p q ps qs h t ih=>
  obtain⟨h1,_,h2⟩:=h;by_cases e:p.1=k
  ·have e':q.1=k:=h1.symm.trans e;have b:atKey (q::qs) k=some q.2:=by simp[atKey,List.find?_cons,e']
   rw[dN e,b];exact h2
  ·have e':¬ q.1=k:=λz=>e (h1.trans z)
   have b:atKey (q::qs) k=atKey qs k:=by simp[atKey,List.find?_cons,e']
   rw[dX e,b];exact ih
theorem KT.repl{H:Hp}{kvs:List (List Key×V)}{xs:List (List Key×Addr×ae)}(r:KT H kvs xs)(k:List Key){y:V}{u:ae}(ry:RelV y u) :
  KT H (kvs.map λkv=>if kv.1=k then (kv.1,y)else kv) (xs.map (putAt k u)):=by
 induction r with
 |nil=>exact .nil
 | @cons p q ps qs h t ih=>
  rw[aK,aK];refine .cons ?_ ih;obtain⟨h1,h2,h3⟩:=h;unfold putAt;by_cases e:p.1=k
  ·rw[if_pos e,if_pos (h1.symm.trans e)];exact⟨h1,h2,ry⟩
  ·rw[if_neg e,if_neg (λz=>e (h1.trans z))];exact⟨h1,h2,h3⟩
theorem KT.put{H:Hp}{kvs:List (List Key×V)}{xs:List (List Key×Addr×ae)}(r:KT H kvs xs)(k:List Key){b:Addr}{y:V}{u:ae}(hb:H b=some (.tup (k.map kV)))(ry:RelV y u) :
  KT H (putK kvs k y) (storedH xs k b u):=by
 have e:(kvs.any λkv=>decide (kv.1=k))=(atKey xs k).isSome:=by
  rw[gO,(r.val k).isSome_eq,Option.isSome_map]
 unfold putK storedH;rw[e];by_cases q:(atKey xs k).isSome=true
 ·rw[if_pos q,if_pos q];exact r.repl k ry
 ·rw[if_neg q,if_neg q];exact Paired.snoc r ⟨rfl,hb,ry⟩
theorem KT.keeps{H H':Hp}{kvs:List (List Key×V)}{xs:List (List Key×Addr×ae)}(r:KT H kvs xs)(ht:∀b ys,H b=some (.tup ys)->H' b=some (.tup ys)):KT H' kvs xs:=
 Paired.mapP r λ_ _ z=>⟨z.1,ht _ _ z.2.1,z.2.2⟩
section
variable{P:aq}{w:aj}{H:Hp}{h:Heap}{a:Addr}
theorem l9{u:HO}(ok:HOk P w H h)(e:Rd H a u):zx P w H h a u:=e.ok ok
theorem dt{kvs:List (Key×V)}(ok:HOk P w H h)(e:Rd H a (.dK kvs)):kvs.length<=az/\(a==sysModules)=false/\∃vs,KV kvs vs/\h.DictOf (zp P w) a vs:=
 show zx P w H h a (.dK kvs)from l9 ok e
theorem dU{kvs:List (Key×V)}(ok:HOk P w H h)(e:H a=some (.dK kvs)):kvs.length<=az/\(a==sysModules)=false/\∃vs,KV kvs vs/\h.DictOf (zp P w) a vs:=dt ok (.inl e)
theorem dZ{ks:List Key}(ok:HOk P w H h)(e:H a=some (.tup (ks.map kV))):(tupleKind (zp P w)).is h ks a:=by
 obtain⟨_,its,r,o,h1,h2,n,h3⟩:=(show zx P w H h a (.tup (ks.map kV))from ok a _ e)
 exact⟨o,its.toArray,n,h1,h2,h3,by simpa using l7 r⟩
theorem dJ{kvs:List (List Key×V)}(ok:HOk P w H h)(e:Rd H a (.dT kvs)):kvs.length<=az/\(a==sysModules)=false /\
  ∃xs,KT H kvs xs/\h.DictOfH (tupleKind (zp P w)) a xs:=by
 obtain⟨z,y,xs,r,o,es,ep,h1,h2,h3,h4,h5⟩:=(show zx P w H h a (.dT kvs)from l9 ok e)
 refine⟨z,y,xs,r,o,es,ep,h1,h2,h3,h4,λx hx=>?_,h5⟩;have all:∀{l:List (List Key×V)}{m:List (List Key×Addr×ae)},KT H l m->∀x∈m,(tupleKind (zp P w)).is h x.1 x.2.1:=by
  intro l m q
  induction q with
  |nil=>intro x hx;exact nomatch hx
  | @cons p q ps qs hq t ih=>
   intro x hx;rcases aL.mp hx with e|hx
   ·subst e;exact dZ ok (by rw[<-hq.1];exact hq.2.1)
   ·exact ih x hx
 exact all r x hx
theorem vG{kvs:List (List Key×V)}(ok:HOk P w H h)(e:H a=some (.dT kvs)):kvs.length<=az/\(a==sysModules)=false /\
  ∃xs,KT H kvs xs/\h.DictOfH (tupleKind (zp P w)) a xs:=dJ ok (.inl e)
end
noncomputable def bX(H:Hp)(a:Addr)(y:V)(r:Option V):Prop:=
 (∃kvs k,Rd H a (.dK kvs)/\y=kV k/\r=bU kvs k)\/∃kvs k b,Rd H a (.dT kvs)/\y=.ref b/\H b=some (.tup (k.map kV))/\r=bU kvs k
noncomputable def gL(H:Hp)(a:Addr)(y v:V)(H':Hp):Prop:=
 (∃kvs k,H a=some (.dK kvs)/\y=kV k/\kvs.length<az/\H'=upd H a (.dK (putK kvs k v))) \/
 ∃kvs k b,H a=some (.dT kvs)/\y=.ref b/\H b=some (.tup (k.map kV))/\kvs.length<az/\H'=upd H a (.dT (putK kvs k v))
theorem bX.k{H:Hp}{a:Addr}{kvs:List (Key×V)}{k:Key}(e:H a=some (.dK kvs)):bX H a (kV k) (bU kvs k):=.inl ⟨kvs,k,.inl e,rfl,rfl⟩
theorem gL.k{H:Hp}{a:Addr}{kvs:List (Key×V)}{k:Key}{v:V}(e:H a=some (.dK kvs))(hl:kvs.length<az):gL H a (kV k) v (upd H a (.dK (putK kvs k v))):=.inl ⟨kvs,k,e,rfl,hl,rfl⟩
section
variable{X:Cx}{pins:List (Addr×Obj)}{σ:St}{H:Hp}{s:af}{a:Addr}{y v:V}{u r:ae}{o:Option V}{A:ar}{E:ae->af->Prop}
theorem Inv.big(I:Inv X pins σ H s):sysModules<s.heap.objs.size:=by
 have h:ay<s.heap.objs.size:=(I.mod.glob.keeps I.bk).lt;exact Nat.lt_trans (by decide) h
theorem wY{Q:ae->af->Prop}(hu:A.units+1<cLine)(I:Inv X pins σ H s)(g:bX H a y (some v))(ry:RelV y u)(h:∀w' s',Inv X pins σ H s'->RelV v w'->Q w' s') :
  ag (ai X.prog X.w) A (getItem (.ref a) u) Q E s:=by
 rcases g with ⟨kvs,k,e,ey,l⟩|⟨kvs,k,b,e,ey,eb,l⟩
 ·subst ey;obtain⟨z,hd,vs,rel,dd⟩:=dt I.hok e;obtain⟨w',hw,rw'⟩:=bY.some_of (v:=v) (o:=valueAt vs k) (by rw[l];exact rel.val k);exact wpAny_getItem_of (dC ry) dd.mapOf hw (h w' _ (I.tok _) rw')
 ·subst ey;cases (show u=aG b from ry);obtain⟨z,hd,xs,rel,dd⟩:=dJ I.hok e;obtain⟨w',hw,rw'⟩:=bY.some_of (v:=v) (o:=(atKey xs k).map (·.2)) (by rw[l];exact rel.val k);obtain⟨p,hp,hp2⟩:=aX.mp hw;refine wpAny_getItem_heap (tupleKind_room_in1 hu) (dZ I.hok eb) dd hp ?_;rw[hp2];exact h w' _ (I.tok _) rw'
theorem rn{Q:ae->af->Prop}(hu:A.units+1<cLine)(I:Inv X pins σ H s)(g:bX H a y o)(ry:RelV y u)(h:∀s',Inv X pins σ H s'->Q (.bool o.isSome) s') :
  ag (ai X.prog X.w) A (aF .In u (.ref a)) Q E s:=by
 rcases g with ⟨kvs,k,e,ey,l⟩|⟨kvs,k,b,e,ey,eb,l⟩
 ·subst ey;obtain⟨z,hd,vs,rel,dd⟩:=dt I.hok e;refine wpAny_in_of (dC ry) hd dd.mapOf ?_;rw[<-(rel.val k).isSome_eq,<-l];exact h _ (I.tok _)
 ·subst ey;cases (show u=aG b from ry);obtain⟨z,hd,xs,rel,dd⟩:=dJ I.hok e;refine wpAny_in_heap (tupleKind_room_in1 hu) (dZ I.hok eb) hd dd ?_;have q:=(rel.val k).isSome_eq;rw[Option.isSome_map]at q;rw[<-q,<-l];exact h _ (I.tok _)
theorem uF{Q:ae->af->Prop}(hu:A.units+1<cLine)(I:Inv X pins σ H s)(g:bX H a y o)(ry:RelV y u)(h:∀s',Inv X pins σ H s'->Q (.bool (!o.isSome)) s') :
  ag (ai X.prog X.w) A (aF .NotIn u (.ref a)) Q E s:=by
 rcases g with ⟨kvs,k,e,ey,l⟩|⟨kvs,k,b,e,ey,eb,l⟩
 ·subst ey;obtain⟨z,hd,vs,rel,dd⟩:=dt I.hok e;refine wpAny_notIn_of (dC ry) hd dd.mapOf ?_;rw[<-(rel.val k).isSome_eq,<-l];exact h _ (I.tok _)
 ·subst ey;cases (show u=aG b from ry);obtain⟨z,hd,xs,rel,dd⟩:=dJ I.hok e;refine wpAny_notIn_heap (tupleKind_room_in1 hu) (dZ I.hok eb) hd dd ?_;have q:=(rel.val k).isSome_eq;rw[Option.isSome_map]at q;rw[<-q,<-l];exact h _ (I.tok _)
theorem ez{h':Heap}{t':Nat}{ob:HO}(I:Inv X pins σ H s)(mu:Mut (H a))(hs:Heap.SameBut a s.heap h')(he:∃q,h'.get? a=some q)(new:zx X.prog X.w (upd H a ob) h' a ob) :
  Inv X pins σ (upd H a ob) {s with heap:=h',toks:=t'}:=
 I.write (x:=a) (e:=a) mu (.inl rfl) (λb q hb z=>(hs.2 b hb).trans z) he new
theorem iJ{P:aq}{w:aj}{H':Hp}{h':Heap}{kvs:List (Key×V)}{vs:List (Key×ae)}(z:kvs.length<=az)(hd:(a==sysModules)=false)(rel:KV kvs vs)(dd:h'.DictOf (zp P w) a vs) :
  zx P w H' h' a (.dK kvs):=⟨z,hd,vs,rel,dd⟩
theorem yz{H':Hp}{Q:Unit->af->Prop}(hu:A.units+1<cLine)(I:Inv X pins σ H s)(g:gL H a y v H')(ry:RelV y u)(rv:RelV v r)(h:∀s',Inv X pins σ H' s'->Q () s') :
  ag (ai X.prog X.w) A (setItem (.ref a) u r) Q E s:=by
 rcases g with ⟨kvs,k,e,ey,l,eH⟩|⟨kvs,k,b,e,ey,eb,l,eH⟩
 ·subst ey eH;obtain⟨z,hd,vs,rel,dd⟩:=dU I.hok e;have hz:vs.length<=sizeLine:=by rw[<-rel.length];exact z
  have hl:(putK kvs k v).length<=sizeLine:=by have:=iD kvs k v;lia
  refine wpAny_setItem_pairs (hsz:=hz) (dC ry) dd λh' dd' hs=>h _ ?_
  have he:∃q,h'.get? a=some q:=let ⟨q,_,_,hq,_⟩:=dd';⟨q,hq⟩
  exact ez I (by rw[e];exact True.intro) hs he (iJ hl hd (rel.put k rv) dd')
 ·subst ey eH;cases (show u=aG b from ry);obtain⟨z,hd,xs,rel,dd⟩:=vG I.hok e;have hz:xs.length<=sizeLine:=by rw[<-Paired.length rel];exact z
  have hl:(putK kvs k v).length<=sizeLine:=by have:=iD kvs k v;lia
  refine wpAny_setItem_heap (hsz:=hz) (tupleKind_room_in1 hu) (dZ I.hok eb) dd λh' dd' hs=>h _ ?_
  obtain⟨q,es,ep,hq,h2,h3,h4,_,h5⟩:=dd';refine ez I (by rw[e];exact True.intro) hs ⟨q,hq⟩ ⟨hl,hd,_,(rel.put k eb rv).keeps λc ys ec=>?_,q,es,ep,hq,h2,h3,h4,h5⟩;rw[qg (nJ ec e (λz=>nomatch z))];exact ec
end
section
variable{X:Cx}{pins:List (Addr×Obj)}{σ:St}{H:Hp}{s:af}{a:Addr}{kvs:List (Key×V)}{k:Key}{u:ae}{A:ar}{E:ae->af->Prop}
end
theorem xS{X:Cx}{pins:List (Addr×Obj)}{σ:St}{H:Hp}{s:af}{a:Addr}{y:V}{o:Option V}(I:Inv X pins σ H s)(g:bX H a y o):s.TypeIs (.ref a) "dict":=by
 rcases g with ⟨kvs,k,e,_,_⟩|⟨kvs,k,b,e,_,_,_⟩
 ·obtain⟨_,_,vs,_,dd⟩:=dt I.hok e;exact dd.typeIs
 ·obtain⟨_,_,xs,_,dd⟩:=dJ I.hok e;exact dd.typeIs
section
variable{X:Cx}{o i e value:Expr}{pos pos' tpos:Pos}{td ty tv:TE}
end
theorem mP{P:aq}{w:aj}{H:Hp}(h:Heap)(hb:sysModules<h.objs.size):zx P w H (h.push {cls:=.type "dict",data:=.dict #[]}) h.objs.size (.dK []):=
 ⟨Nat.zero_le _,beq_eq_false_iff_ne.mpr (Ne.symm (aS hb)),[],.nil,Heap.DictOf.new h⟩
noncomputable def n6:TE:=λ_ H Q=>∀p,H p=none->Q (.ref p) (upd H p (.dK []))
section
variable{X:Cx}{pos:Pos}
theorem yl:PE X (.Dict [] [] pos) n6:=λpins s σ H Q I h=>
 wpAny_Dict_empty ⟨.ref s.heap.objs.size,_,I.laid (a:=s.heap.objs.size) (o:=.dK []) (t':=s.toks) (λ_ _ q=>Heap.get?_push_of_some _ q) (aA _) (mP s.heap I.big),rfl,h _ (I.hok.fresh (aA _))⟩
end
noncomputable def gB:List (TE×TE)->St->Hp->(List (V×V)->Hp->Prop)->Prop
 | [],_,H,Q=>Q [] H
 | (tk,tv)::r,σ,H,Q=>tk σ H λx H1=>tv σ H1 λy H2=>gB r σ H2 λps H3=>Q ((x,y)::ps) H3
abbrev VV:List (V×V)->List (ae×ae)->Prop:=Paired λp q=>RelV p.1 q.1/\RelV p.2 q.2
noncomputable def PPs(X:Cx)(pos:Pos)(keys:List (Option Expr))(values:List Expr)(trs:List (TE×TE)):Prop:=
 ∀(pins:List (Addr×Obj)) (s:af) (σ:St) (H:Hp) (Q:List (V×V)->Hp->Prop),Inv X pins σ H s->gB trs σ H Q ->
  ag (ai X.prog X.w) X.A (evalPairs (pairTrees keys values X.env pos)) (λvs s'=>∃ps H',Inv X pins σ H' s'/\VV ps vs/\Q ps H') X.xe s
theorem jm{X:Cx}{pos:Pos}:PPs X pos [] [] []:=λpins s σ H Q I h=>pairTrees_nil_walk ⟨[],H,I,.nil,h⟩
theorem gy{X:Cx}{pos:Pos}{k v:Expr}{ks:List (Option Expr)}{vs:List Expr}{tk tv:TE}{trs:List (TE×TE)}(hk:PE X k tk)(hv:PE X v tv)(hr:PPs X pos ks vs trs) :
  PPs X pos (some k::ks) (v::vs) ((tk,tv)::trs):=λpins s σ H Q I h=>
 pairTrees_cons_walk (thn (hk pins s σ H _ I h) λu s1 ⟨x,H1,I1,rx,q1⟩=>thn (hv pins s1 σ H1 _ I1 q1) λw2 s2 ⟨y,H2,I2,ry,q2⟩=>
  thn (hr pins s2 σ H2 _ I2 q2) λws s3 ⟨ps,H3,I3,rel,q3⟩=>⟨(x,y)::ps,H3,I3,.cons ⟨rx,ry⟩ rel,q3⟩)
noncomputable def dg(kvs more:List (Key×V)):List (Key×V):=more.foldl (λacc kv=>putK acc kv.1 kv.2) kvs
theorem KV.merge:∀{more:List (Key×V)}{rs:List (Key×ae)}{kvs:List (Key×V)}{vs:List (Key×ae)},KV more rs->KV kvs vs->KV (dg kvs more) (merged vs rs):=by
 intro more rs kvs vs r;unfold KV at r
 induction r generalizing kvs vs with
 |nil=>intro q;exact q
 | @cons p q ps qs h t ih=>
  intro r0;have e:KV (putK kvs p.1 p.2) (stored vs q.1 q.2):=by
   have:=r0.put p.1 h.2;rw[<-h.1];exact this
  exact ih e
theorem ij:∀(more kvs:List (Key×V)),(dg kvs more).length<=kvs.length+more.length
 | [],kvs=>by show kvs.length<=kvs.length+0;lia
 |p::r,kvs=>by
  have h1:=ij r (putK kvs p.1 p.2);have h2:=iD kvs p.1 p.2;show (dg (putK kvs p.1 p.2) r).length<=_;rw[cg];lia
theorem jO{P:aq}{w:aj}:∀{kvs:List (Key×V)}{ws:List (ae×ae)},VV (kvs.map λkv=>(kV kv.1,kv.2)) ws->∃rs,Carries (zp P w) ws rs/\KV kvs rs
 | [],_,r=>by rw[List.map_nil]at r;cases r;exact⟨[],True.intro,.nil⟩
 |p::kvs,_,r=>by
  rw[aK]at r;cases r with
  | @cons a b as bs h t=>
   obtain⟨rs,c,q⟩:=jO (P:=P) (w:=w) t;obtain⟨b1,b2⟩:=b;exact⟨(p.1,b2)::rs,⟨dC h.1,rfl,c⟩,.cons ⟨rfl,h.2⟩ q⟩
noncomputable def vy(trs:List (TE×TE)):TE:=λσ H Q=>∀p,H p=none->gB trs σ (upd H p (.dK [])) λps H2=>H2 p=some (.dK [])/\∃kvs:List (Key×V),ps=kvs.map (λkv=>(kV kv.1,kv.2))/\kvs.length<=15/\Q (.ref p) (upd H2 p (.dK (dg [] kvs)))
theorem xn{X:Cx}{pos:Pos}{keys:List (Option Expr)}{values:List Expr}{trs:List (TE×TE)}(h:PPs X pos keys values trs)(hall:keys.all (·.isSome)=true)(hl:keys.length=values.length)(h0:keys≠[])
  (h15:keys.length<=15):PE X (.Dict keys values pos) (vy trs):=by
 intro pins s σ H Q I q;have hn:=I.hok.fresh (aA s.heap.objs.size);have I1:=I.laid (a:=s.heap.objs.size) (o:=.dK []) (h':=s.heap.push {cls:=.type "dict",data:=.dict #[]}) (t':=s.toks) (λ_ _ q=>Heap.get?_push_of_some _ q) (aA _) (mP s.heap I.big);refine wpAny_Dict_walk (knd:=zp X.prog X.w) hall hl h0 h15 (thn (h pins _ σ _ _ I1 (q _ hn)) λws s2 ⟨ps,H2,I2,rel,e,kvs,ep,lk,q2⟩=>?_);subst ep;obtain⟨rs,c,rk⟩:=jO (P:=X.prog) (w:=X.w) rel;obtain⟨z,hd,vs0,r0,dd⟩:=dU I2.hok e;cases r0;refine⟨rs,c,dd,λh' dd' hs=>⟨.ref s.heap.objs.size,_,?_,rfl,q2⟩⟩;have hz:(dg [] kvs).length<=sizeLine:=by
  have h1:=ij kvs [];rw[List.length_nil]at h1;rw[bp];lia
 have he:∃q,h'.get? s.heap.objs.size=some q:=let ⟨q,_,_,hq,_⟩:=dd';⟨q,hq⟩
 exact ez I2 (by rw[e];exact True.intro) hs he (iJ hz hd (rk.merge .nil) dd')
structure M1(X:Cx)(o:Expr)(m:Str)(apos:Pos)(e:Expr)(cpos:Pos):Prop where
 base:attributeBase o m X.env (eval o X.env)=eval o X.env
 few:((backTo cpos (aH [e] X.env)).all (λx=>!x.1)&&(backToKw cpos (keywordEach [] X.env)).all (λx=>x.1.isSome)
  && decide (([e]:List Expr).length+([]:List Keyword).length+(if ([]:List Keyword).isEmpty then 0 else 1)<30))=true
 line:(apos.endLine==cpos.line)=true
 trees:backTo cpos (aH [e] X.env)=[(false,eval e X.env)]
structure M2(X:Cx)(o:Expr)(m:Str)(apos:Pos)(e f:Expr)(cpos:Pos):Prop where
 base:attributeBase o m X.env (eval o X.env)=eval o X.env
 few:((backTo cpos (aH [e,f] X.env)).all (λx=>!x.1)&&(backToKw cpos (keywordEach [] X.env)).all (λx=>x.1.isSome)
  && decide (([e,f]:List Expr).length+([]:List Keyword).length+(if ([]:List Keyword).isEmpty then 0 else 1)<30))=true
 line:(apos.endLine==cpos.line)=true
 trees:backTo cpos (aH [e,f] X.env)=[(false,eval e X.env),(false,eval f X.env)]
noncomputable def IsD(H:Hp)(a:Addr):Prop:=(∃kvs,Rd H a (.dK kvs))\/∃kvs,Rd H a (.dT kvs)
theorem pK{X:Cx}{pins:List (Addr×Obj)}{σ:St}{H:Hp}{s:af}{a:Addr}(I:Inv X pins σ H s)(d:IsD H a) :
  s.TypeIs (.ref a) "dict"/\(∀b,aG a=.ref b->∃ob,s.heap.get? b=some ob/\ob.dict=none)/\(a==sysModules)=false:=by
 rcases d with ⟨kvs,e⟩|⟨kvs,e⟩
 ·obtain⟨_,hd,vs,_,dd⟩:=dt I.hok e;refine⟨dd.typeIs,λb q=>?_,hd⟩;cases q;obtain⟨ob,_,_,h1,h2,_⟩:=dd;exact⟨ob,h1,h2.2.1⟩
 ·obtain⟨_,hd,xs,_,dd⟩:=dJ I.hok e;refine⟨dd.typeIs,λb q=>?_,hd⟩;cases q;obtain⟨ob,_,_,h1,h2,_⟩:=dd;exact⟨ob,h1,h2.2.1⟩
section
variable{X:Cx}{pins:List (Addr×Obj)}{σ:St}{H:Hp}{s:af}{a:Addr}{y d:V}{u r:ae}{o:Option V}{A:ar}{E:ae->af->Prop}
theorem tD{Q:ae->af->Prop}(hu:A.units+1<cLine)(I:Inv X pins σ H s)(g:bX H a y o)(ry:RelV y u)(h:∀w' s',Inv X pins σ H s'->RelV (o.getD .non) w'->Q w' s') :
  ag (ai X.prog X.w) A (call (.builtin "dict.get") [.ref a,u]) Q E s:=by
 rcases g with ⟨kvs,k,e,ey,l⟩|⟨kvs,k,b,e,ey,eb,l⟩
 ·subst ey;obtain⟨z,hd,vs,rel,dd⟩:=dt I.hok e;refine call_meetsIn PySem.F.slot_dict_get dd.typeIs PySem.F.entry_dict_get (PySem.F.args_dict_get_2 _ _) (meets_dict_get (zp X.prog X.w) a (dC ry) hd) ⟨_,dd.mapOf,h _ _ (I.tok _) ?_⟩;rw[l];exact(rel.val k).getD rfl
 ·subst ey;cases (show u=aG b from ry);obtain⟨z,hd,xs,rel,dd⟩:=dJ I.hok e;refine call_meetsIn PySem.F.slot_dict_get dd.typeIs PySem.F.entry_dict_get (PySem.F.args_dict_get_2 _ _) (meetsH_dict_get (tupleKind (zp X.prog X.w)) a b hd) ⟨tupleKind_room_in1 hu,k,xs,dZ I.hok eb,dd,h _ _ (I.tok _) ?_⟩;rw[l];exact(rel.val k).getD rfl
theorem wF{Q:ae->af->Prop}(hu:A.units+1<cLine)(I:Inv X pins σ H s)(g:bX H a y o)(ry:RelV y u)(rd:RelV d r)(h:∀w' s',Inv X pins σ H s'->RelV (o.getD d) w'->Q w' s') :
  ag (ai X.prog X.w) A (call (.builtin "dict.get") [.ref a,u,r]) Q E s:=by
 rcases g with ⟨kvs,k,e,ey,l⟩|⟨kvs,k,b,e,ey,eb,l⟩
 ·subst ey;obtain⟨z,hd,vs,rel,dd⟩:=dt I.hok e;refine call_meetsIn PySem.F.slot_dict_get dd.typeIs PySem.F.entry_dict_get (PySem.F.args_dict_get_3 _ _ _) (meets_dict_get_default (zp X.prog X.w) a (dC ry) hd r) ⟨_,dd.mapOf,h _ _ (I.tok _) ?_⟩;rw[l];exact(rel.val k).getD rd
 ·subst ey;cases (show u=aG b from ry);obtain⟨z,hd,xs,rel,dd⟩:=dJ I.hok e;refine call_meetsIn PySem.F.slot_dict_get dd.typeIs PySem.F.entry_dict_get (PySem.F.args_dict_get_3 _ _ _) (meetsH_dict_get_default (tupleKind (zp X.prog X.w)) a b hd r) ⟨tupleKind_room_in1 hu,k,xs,dZ I.hok eb,dd,h _ _ (I.tok _) ?_⟩;rw[l];exact(rel.val k).getD rd
end
section
variable{X:Cx}{o e f:Expr}{apos cpos:Pos}{td ty tx:TE}
end
section
variable{X:Cx}{pins:List (Addr×Obj)}{σ:St}{H:Hp}{s:af}{a:Addr}{kvs:List (Key×V)}{A:ar}{E:ae->af->Prop}
end
section
variable{X:Cx}{pins:List (Addr×Obj)}{σ:St}{H:Hp}{s:af}{a:Addr}{y:V}{u:ae}{A:ar}{E:ae->af->Prop}
end
section
variable{X:Cx}
end
end L2
namespace HT
open PySem PySem.Spec PyProof.Rows L2
section
variable{prog:aq}{w:aj}{A:ar}{E:ae->af->Prop}{s:af}
end
end HT
namespace L2
open PySem PySem.Spec PyProof.Rows
variable{X:Cx}
noncomputable def aY(kvs:List (Int×Int)):List (Key×V):=kvs.map λp=>(Sum.inl p.1,V.int p.2)
noncomputable def atK(kvs:List (Int×Int))(i:Int):Option Int:=(kvs.find? λp=>decide (p.1=i)).map (·.2)
noncomputable def dA(kvs:List (Int×Int))(i v:Int):List (Int×Int):=if (kvs.any λp=>decide (p.1=i))=true then kvs.map (λp=>if p.1=i then (p.1,v)else p)else kvs++[(i,v)]
noncomputable def fz(kvs more:List (Int×Int)):List (Int×Int):=more.foldl (λacc p=>dA acc p.1 p.2) kvs
theorem kN(a i:Int):decide ((Sum.inl a:Key)=Sum.inl i)=decide (a=i):=decide_eq_decide.mpr ⟨λh=>Sum.inl.inj h,λh=>by rw[h]⟩
theorem iu(kvs:List (Int×Int))(i:Int):bU (aY kvs) (Sum.inl i)=(atK kvs i).map V.int:=by
 rw[bU,atK,aY]
 induction kvs with
 |nil=>rfl
 |cons p r ih=>
  rw[aK,List.find?_cons,List.find?_cons];rw[show decide ((Sum.inl p.1,V.int p.2).fst=(Sum.inl i:Key))=decide (p.1=i)from kN p.1 i];cases decide (p.1=i)with
  |true=>rfl
  |false=>exact ih
theorem lC(kvs:List (Int×Int))(i:Int):((aY kvs).any λkv=>decide (kv.1=Sum.inl i))=kvs.any λp=>decide (p.1=i):=by
 rw[aY,List.any_map]
 congr 1
 funext p;exact kN p.1 i
theorem k8(kvs:List (Int×Int))(i:Int):(bU (aY kvs) (Sum.inl i)).isSome=kvs.any λp=>decide (p.1=i):=by
 rw[<-gO,lC]
theorem lV(kvs:List (Int×Int))(i v:Int):putK (aY kvs) (Sum.inl i) (V.int v)=aY (dA kvs i v):=by
 rw[putK,dA,lC];by_cases h:(kvs.any λp=>decide (p.1=i))=true
 ·rw[if_pos h,if_pos h,aY,aY,List.map_map,List.map_map];refine List.map_congr_left λp _=>?_
  show (if (Sum.inl p.1:Key)=Sum.inl i then ((Sum.inl p.1:Key),V.int v)else (Sum.inl p.1,V.int p.2))=_;by_cases e:p.1=i
  ·rw[if_pos (by rw[e])];show _=((Sum.inl (if p.1=i then (p.1,v)else p).1:Key),V.int (if p.1=i then (p.1,v)else p).2)
   rw[if_pos e]
  ·rw[if_neg (λz=>e (Sum.inl.inj z))];show _=((Sum.inl (if p.1=i then (p.1,v)else p).1:Key),V.int (if p.1=i then (p.1,v)else p).2)
   rw[if_neg e]
 ·rw[if_neg h,if_neg h,aY,aY,List.map_append];rfl
theorem jK:∀(ms kvs:List (Int×Int)),dg (aY kvs) (aY ms)=aY (fz kvs ms)
 | [],kvs=>rfl
 |p::r,kvs=>by
  show dg (putK (aY kvs) (Sum.inl p.1) (V.int p.2)) (aY r)=_;rw[lV,jK r];rfl
theorem gR(kvs:List (Int×Int)):(aY kvs).length=kvs.length:=a6 ..
section
variable{X:Cx}
noncomputable def xV:V->List V->Hp->VK->Prop:=λx vs H Q=>∃a b ks ms,x=.ref a/\vs=[.ref b]/\a≠b/\H a=some (.dK ks)/\H b=some (.dK ms)/\ks.length+ms.length<=az/\Q .non (upd H a (.dK (dg ks ms)))
theorem vQ:MtM X "dict.update" xV:=by
 intro pins s σ H x vs v us Q I rx rv h;obtain⟨a,b,ks,ms,rfl,rfl,hab,ha,hb,hz,q⟩:=h;cases rx;obtain⟨u,rfl,ru⟩:=rv.one;cases ru;obtain⟨z,hd,vs,rel,dd⟩:=dU I.hok ha;obtain⟨z2,hd2,vs2,rel2,dd2⟩:=dU I.hok hb;refine call_meetsIn PySem.F.slot_dict_update dd.typeIs PySem.F.entry_dict_update (PySem.F.args_dict_update_2 _ _) (meets_dict_update (zp X.prog X.w) a b hab hd2)
  ⟨vs,vs2,dd,dd2,by rw[<-rel.length,<-rel2.length];exact hz,λh' dd' _ hs=>?_⟩
 have he:∃q,h'.get? a=some q:=let ⟨q,_,_,hq,_⟩:=dd';⟨q,hq⟩
 have hl:(dg ks ms).length<=sizeLine:=a5 (ij ms ks) hz;exact⟨.non,_,ez (t':=s.toks) I (by rw[ha];exact True.intro) hs he (iJ hl hd (rel2.merge rel) dd'),rfl,q⟩
theorem mJ{P:aq}{w:aj}:∀{ks:List (Int×Int)}{vs:List (Key×ae)}{xs:List ae},KV (aY ks) vs->xs.length=vs.length->(∀(j:Nat) (v:ae),xs[j]? = some v->∃k x,vs[j]? = some (k,x)/\(zp P w).is k v=true)->IntsAre xs (ks.map (·.1))
 | [],vs,xs,r,hl,h=>by
  cases r;cases xs with
  |nil=>exact .nil
  |cons _ _=>cases hl
 |p::ks,vs,xs,r,hl,h=>by
  cases r with
  | @cons a b as bs h1 t=>
   cases xs with
   |nil=>cases hl
   |cons x xs=>
    obtain⟨k,y,e1,e2⟩:=h 0 x rfl;cases e1;obtain⟨z1,_⟩:=h1;have z1:Sum.inl p.1=k:=z1;subst z1;obtain⟨tk,rfl⟩:∃t,x=ae.int p.1 t:=ae.isInt_shape (k:=p.1) (v:=x) e2;exact .cons _ _ (mJ t (by simpa using hl) λj v e=>h (j+1) v e)
theorem su(hu:X.A.units+64<cLine):OpR X (aF .In) (λx y H Q=>∃a kvs i,y=.ref a/\x=.int i/\H a=some (.dK (aY kvs))/\Q (.bl (kvs.any λp=>decide (p.1=i))) H):=by
 intro pins s σ H x y v u Q I rx ry ⟨a,kvs,i,e1,e2,ha,q⟩;subst e1 e2;obtain rfl:u=aG a:=ry;refine rn (by lia) I (bX.k (k:=Sum.inl i) ha) rx λs' I'=>⟨.bl _,H,I',rfl,?_⟩
 rw[k8];exact q
theorem vM(hu:X.A.units+64<cLine):OpR X (aF .NotIn) (λx y H Q=>∃a kvs i,y=.ref a/\x=.int i/\H a=some (.dK (aY kvs))/\Q (.bl (!kvs.any λp=>decide (p.1=i))) H):=by
 intro pins s σ H x y v u Q I rx ry ⟨a,kvs,i,e1,e2,ha,q⟩;subst e1 e2;obtain rfl:u=aG a:=ry;refine uF (by lia) I (bX.k (k:=Sum.inl i) ha) rx λs' I'=>⟨.bl _,H,I',rfl,?_⟩
 rw[k8];exact q
theorem kU{prog:aq}{w:aj}{A:ar}{E:ae->af->Prop}{s:af}{e b:Expr}{o i:ae}{T id:String}{Q:ae->af->Prop}(hT:s.TypeIs o T)(hl:typeLookup (.type T) "__getitem__" = pure (some (.builtin id)))
  (h:ag (ai prog w) A (getItem o i) Q E s) (hs:subscripted b false o i=operate [o,i] (getItem o i)):ag (ai prog w) A (subscriptTail e b o i) Q E s:=by
 unfold subscriptTail;refine ah ?_;rw[getitemInPython_of_ne hT.not_modules];refine ah (wpAny_specialOf hT hl ?_);have fin:ag (ai prog w) A (subscripted b false o i) (λr s'=>ag (ai prog w) A (letTemporaryGo e o r>>=λ_=>pure r) Q E s') E s:=by
  rw[hs];exact wpAny_operating (wpAny_mono h (λr s' z=>ah (wpAny_letTemporaryGo (av z))) λ_ _ x=>x)
 first
  |exact av (ah fin)
  |exact ah (av (ah fin))
  |exact ah fin
noncomputable def ue:R2:=λx y H Q=>∃a kvs i v,x=.ref a/\y=.int i/\H a=some (.dK (aY kvs))/\atK kvs i=some v/\Q (.int v) H
theorem rA(hu:X.A.units+64<cLine):IxR X ue:=by
 intro value slice pins s σ H x y v u Q I rx ry ⟨a,kvs,i,z,e1,e2,ha,he,q⟩ hs;subst e1 e2;obtain rfl:v=aG a:=rx;have g:bX H a (.int i) (some (.int z)):=by
  have:=bX.k (k:=Sum.inl i) ha;rw[iu,he]at this;exact this
 exact kU (xS I g) PySem.F.slot_dict_getitem.lookup (wY (by lia) I g ry λw' s' I' rw'=>⟨_,H,I',rw',q⟩) hs
theorem dG.or{r r':V->V->V->Hp->(Hp->Prop)->Prop}(h:dG X r)(h':dG X r'):dG X (λx y v H Q=>r x y v H Q\/r' x y v H Q):=by
 intro pins s σ H o i v ov iv u Q I ro ri rv q;rcases q with q|q
 ·exact h pins s σ H o i v ov iv u Q I ro ri rv q
 ·exact h' pins s σ H o i v ov iv u Q I ro ri rv q
noncomputable def pJ:V->V->V->Hp->(Hp->Prop)->Prop:=λo i v H Q=>∃a kvs k z,o=.ref a/\i=.int k/\v=.int z/\H a=some (.dK (aY kvs))/\kvs.length<az/\Q (upd H a (.dK (aY (dA kvs k z))))
theorem yE(hu:X.A.units+64<cLine):dG X pJ:=by
 intro pins s σ H o i v ov iv u Q I ro ri rv ⟨a,kvs,k,z,e1,e2,e3,ha,hz,q⟩;subst e1 e2 e3;obtain rfl:ov=aG a:=ro;refine yz (by lia) I (gL.k (k:=Sum.inl k) (v:=.int z) ha (by rw[gR];exact hz)) ri rv λs' I'=>⟨_,I',?_⟩
 rw[lV];exact q
noncomputable def nP:List V->Hp->VK->Prop:=λvs H Q=>∃(l:Addr) (kvs:List (Int×Int)),vs=[.ref l]/\H l=some (.dK (aY kvs))/\∀D,H D=none->Q (.ref D) (upd H D (.lst (kvs.map λp=>V.int p.1)))
theorem oY(hc:X.calm=true):zm X (.type "list") nP:=by
 intro pins s σ H xs us Q I r ⟨l,kvs,e,hl,q⟩;subst e;obtain⟨u,rfl,ru⟩:=r.one;cases ru;obtain⟨z,hd,vs,rel,dd⟩:=dU I.hok hl;obtain⟨ep,hat⟩:=dd.dictAt;have hlen:vs.length=kvs.length:=by rw[<-rel.length];exact a6 ..
 have hn:vs.length<=sizeLine:=by rw[<-rel.length];exact z
 refine PySem.W.kdl_call (PySem.W.kdl_dict (knd:=zp X.prog X.w) (kvs:=vs) (ep:=ep) hd) (I.ok.hd hc) hat hn λh' tk acc c k1 k2 k3=>?_
 have hla:acc.toList.length=vs.length:=by rw[Array.length_toList];exact k3.1
 have hI:IntsAre acc.toList (kvs.map (·.1)):=mJ (P:=X.prog) (w:=X.w) rel hla λj v e=>k3.2 j v (by rw[<-Array.getElem?_toList];exact e)
 have hn':H s.heap.objs.size=none:=I.hok.fresh (aA _);have e:(kvs.map λp=>V.int p.1)=(kvs.map (·.1)).map V.int:=by rw[List.map_map];rfl
 refine⟨.ref s.heap.objs.size,_,I.laid (t':=tk) (o:=.lst ((kvs.map (·.1)).map V.int)) k1 (aA _) ⟨by rw[a6,a6,<-hlen];exact hn,acc.toList,c,mN hI,by rw[Array.toArray_toList];exact k2⟩,rfl,?_⟩;rw[<-e];exact q _ hn'
end
end L2
namespace WD
open PySem PySem.Spec PyProof.Rows
noncomputable def Raw(h:Heap)(d:Addr)(es:Array DictEntry)(ep:Nat):Prop:=∃o,h.get? d=some o/\o.ExactDict/\o.data=.dict es ep
noncomputable def itO(d:Addr)(i n ep:Nat):Obj:={cls:=.type "dict_keyiterator",data:=.fields #[.ref d,.int i 0,.int n 0,.int ep 0]}
section
variable{prog:aq}{w:aj}{A:ar}{E:ae->af->Prop}{s:af}{d I:Addr}{es:Array DictEntry}{ep:Nat}
theorem Raw.typeIs(r:Raw s.heap d es ep):s.TypeIs (.ref d) "dict":=by
 obtain⟨o,h1,h2,h3⟩:=r;exact⟨o,h1,h2.1⟩
theorem n8{Q:ae->af->Prop}(hd:(d==sysModules)=false)(r:Raw s.heap d es ep)
  (h:Q (.ref s.heap.objs.size) {s with heap:=s.heap.push (itO d 0 es.size ep)}):ag (ai prog w) A (pyIter (.ref d)) Q E s:=by
 have hT:=r.typeIs;obtain⟨o,h1,h2,h3⟩:=r;refine wpAny_pyIter_slot hT PySem.F.slot_dict_iter (wpAny_call_entry PySem.F.slot_dict_iter hT PySem.F.entry_dict_iter ?_ (PySem.F.args_dict_iter_1 _));unfold Builtin.«dict.__iter__» Builtin.Dict.dictSlotNone;refine ah (ah (wpAny_notOrdered_dict hT ?_));unfold slotArgs;simp only[List.isEmpty_nil,Bool.not_true,a7,↓reduceIte,List.length_nil,bne_self_eq_false];refine ah (av (av ?_));unfold Builtin.Dict.addrOf Builtin.Dict.showsAll;refine ah (av ?_);rw[hd];simp only[a7,↓reduceIte];refine ah (av ?_);refine ah (wpAny_dictEntries h1 h3 ?_);refine ah (wpAny_dictEpoch h1 h3 ?_);unfold newFields;refine ah (bS (av ⟨_,rfl,"dict_keyiterator",_,⟨_,Heap.get?_push_size _ rfl,rfl⟩,PySem.F.slot_dict_keyiterator_next.lookup,?_⟩));exact h
noncomputable def StD(I d:Addr)(es:Array DictEntry)(ep i:Nat)(h:Heap):Prop:=h.get? I=some (itO d i es.size ep)/\Raw h d es ep
theorem next_item(hne:d≠I){i:Nat}{e:DictEntry}(st:StD I d es ep i s.heap)(he:es[i]? = some e){Q:Option ae->af->Prop}
  (hQ:∀h',StD I d es ep (i+1) h'->Heap.SameBut I s.heap h'->Q (some e.key) {s with heap:=h'}):ag (ai prog w) A (pyNext (.ref I)) Q E s:=by
 obtain⟨hI,r⟩:=st;have hT:s.TypeIs (.ref I) "dict_keyiterator":=⟨_,hI,rfl⟩
 obtain⟨o,h1,h2,h3⟩:=r;unfold pyNext;refine ah (wpAny_attempt (wpAny_callSpecial?_slot (name:=aU "__next__") hT PySem.F.slot_dict_keyiterator_next (wpAny_call_entry PySem.F.slot_dict_keyiterator_next hT PySem.F.entry_dict_keyiterator_next ?_ (PySem.F.args_dict_keyiterator_next_1 _))));show ag _ _ (((typeNameOfWhole (.ref I)>>=_)>>=_)>>=_) _ _ s;refine ah (ah (ah (wpAny_typeNameOfWhole_keyiter hT (av ?_))));show ag _ _ (fieldsOf (.ref I)>>=_) _ _ s;refine ah (wpAny_fieldsOf hI rfl ?_);show ag _ _ (dictEntries d>>=_) _ _ s;refine ah (wpAny_dictEntries h1 h3 ?_);rw[show (((es.size:Nat):Int) != ((es.size:Nat):Int))=false by simp];simp only[a7,if_false];show ag _ _ (dictEpoch d>>=_) _ _ s;refine ah (wpAny_dictEpoch h1 h3 ?_);rw[show (((ep:Nat):Int) != ((ep:Nat):Int))=false by simp];simp only[a7,if_false];refine av ?_;have hi:(if ((i:Nat):Int)<0 then none else es[((i:Nat):Int).toNat]?)=some e:=by rw[if_neg (by lia),Int.toNat_natCast];exact he
 dsimp only;rw[hi];dsimp only;show ag _ _ ((typeNameOfWhole (.ref I)>>=_)>>=_) _ _ s;refine ah (ah (wpAny_typeNameOfWhole_keyiter hT (av ?_)));refine ah (wpAny_isOneOf_keyiter hT ?_);show ag _ _ (setField (.ref I) 1 (rawInt ((i:Int)+1))>>=_) _ _ s;refine ah (wpAny_setField hI rfl (by simp) ?_);have hI2:(s.heap.update I (Obj.mapFields (·.setIfInBounds 1 (rawInt ((i:Int)+1))))).get? I=some (itO d (i+1) es.size ep):=by
  rw[Heap.get?_update_self _ hI (Obj.isFreed_of_fields (Obj.data_mapFields (by rfl) _))];rfl
 have hT2:({s with heap:=s.heap.update I (Obj.mapFields (·.setIfInBounds 1 (rawInt ((i:Int)+1))))}:af).TypeIs (.ref I) "dict_keyiterator":=⟨_,hI2,rfl⟩
 refine ah (wpAny_holding ?_);show ag _ _ (Builtin.Dict_items.isOneOf (.ref I) _>>=_) _ _ _;refine ah (wpAny_isOneOf_keyiter hT2 ?_);refine av (av ⟨e.key,rfl,av (hQ _ ⟨hI2,o,?_,h2,h3⟩ (Heap.SameBut.update ..))⟩);rw[Heap.get?_update_other _ _ (Ne.symm hne)];exact h1
theorem next_end(hh:A.handled=none){i:Nat}(hi0:es.size<=i)(st:StD I d es ep i s.heap){Q:Option ae->af->Prop}
  (hQ:∀h',Heap.ExtBut I s.heap h'->Q none {s with heap:=h'}):ag (ai prog w) A (pyNext (.ref I)) Q E s:=by
 obtain⟨hI,r⟩:=st;have hT:s.TypeIs (.ref I) "dict_keyiterator":=⟨_,hI,rfl⟩
 obtain⟨o,h1,h2,h3⟩:=r;unfold pyNext;refine ah (wpAny_attempt (wpAny_callSpecial?_slot (name:=aU "__next__") hT PySem.F.slot_dict_keyiterator_next (wpAny_call_entry PySem.F.slot_dict_keyiterator_next hT PySem.F.entry_dict_keyiterator_next ?_ (PySem.F.args_dict_keyiterator_next_1 _))));show ag _ _ (((typeNameOfWhole (.ref I)>>=_)>>=_)>>=_) _ _ s;refine ah (ah (ah (wpAny_typeNameOfWhole_keyiter hT (av ?_))));show ag _ _ (fieldsOf (.ref I)>>=_) _ _ s;refine ah (wpAny_fieldsOf hI rfl ?_);show ag _ _ (dictEntries d>>=_) _ _ s;refine ah (wpAny_dictEntries h1 h3 ?_);rw[show (((es.size:Nat):Int) != ((es.size:Nat):Int))=false by simp];simp only[a7,if_false];show ag _ _ (dictEpoch d>>=_) _ _ s;refine ah (wpAny_dictEpoch h1 h3 ?_);rw[show (((ep:Nat):Int) != ((ep:Nat):Int))=false by simp];simp only[a7,if_false];refine av ?_;have hi:(if ((i:Nat):Int)<0 then none else es[((i:Nat):Int).toNat]?)=none:=by rw[if_neg (by lia),Int.toNat_natCast];simpa using hi0
 dsimp only;rw[hi];dsimp only;show ag _ _ ((typeNameOfWhole (.ref I)>>=_)>>=_) _ _ s;refine ah (ah (wpAny_typeNameOfWhole_keyiter hT (av ?_)));show ag _ _ (setField (.ref I) 0 .none>>=_) _ _ s;refine ah (wpAny_setField hI rfl (by simp) ?_);show ag _ _ (newExc (.type "StopIteration") []>>=_) _ _ _;refine ah ?_;simp only[newExc,newTuple];refine ah (bS ?_ (by size_fits));refine ah (m:=firstArgMember _ _) (wpAny_of_eq (a:=ae.none) (by first|rfl|(simp only[firstArgMember];rfl)) ?_);refine bS ?_ (by size_fits);simp only[raiseNew];refine ah (wpAny_handled ?_)
 first|rw[show A.in1.handled=none from hh]|rw[hh]
 refine ah (av (wpAny_throw ?_));refine ah (wpAny_isInstance (T:="StopIteration") (b:=true) ⟨_,Heap.get?_push_size _ rfl,rfl⟩ isSubtype_stop ?_);exact av (hQ _ (((Heap.SameBut.update ..).extBut.push _).push _))
end
end WD
namespace WD
open PySem PySem.Spec PyProof.Rows L2
abbrev E3:=List Int×Addr×ae
noncomputable def ent(x:E3):DictEntry:=⟨reduceHash (Builtin.Tuple.tupleHashOf (x.1.map hashInt)),.ref x.2.1,x.2.2⟩
noncomputable def zv(a:Addr)(xs:List E3)(ep:Nat):HO:=.ext λh=>Raw h a (xs.map ent).toArray ep/\xs.length<=az/\(a==sysModules)=false/\(xs.map (·.1)).Nodup
inductive zu(K:ao)(H:Hp):List (List Int)->List V->List E3->Prop
 |nil:zu K H [] [] []
 |cons {k:List Int}{v:V}{b:Addr}{u:ae}{ks:List (List Int)}{vs:List V}{xs:List E3}:SqT K H b (k.map V.int)->RelV v u->zu K H ks vs xs->zu K H (k::ks) (v::vs) ((k,b,u)::xs)
noncomputable def atT{α:Type}:List (List Int)->List α->List Int->Option α
 |k::ks,d::ds,q=>if k=q then some d else atT ks ds q
 |_,_,_=>none
noncomputable def cw{α:Type}:List (List Int)->List α->List Int->α->List α
 |k::ks,d::ds,q,y=>(if k=q then y else d)::cw ks ds q y
 |_,ds,_,_=>ds
noncomputable def cy(ks:List (List Int))(k:List Int):List (List Int):=if ks.any (λx=>decide (x=k))=true then ks else ks++[k]
noncomputable def cb{α:Type}(ks:List (List Int))(ds:List α)(k:List Int)(y:α):List α:=if ks.any (λx=>decide (x=k))=true then cw ks ds k y else ds++[y]
section
variable{K:ao}{H H':Hp}{ks:List (List Int)}{vs:List V}{xs:List E3}
theorem zu.len(r:zu K H ks vs xs):ks.length=vs.length/\xs.length=ks.length:=by
 induction r with
 |nil=>exact⟨rfl,rfl⟩
 |cons _ _ _ ih=>simp[ih.1,ih.2]
theorem jj{a:Addr}{ys:List V}(e:∀b o,H b=some o->H' b=some o)(h:SqT K H a ys):SqT K H' a ys:=by
 rcases h with (h|⟨o,h⟩)|h
 ·exact .inl (.inl (e _ _ h))
 ·exact .inl (.inr ⟨o,e _ _ h⟩)
 ·exact .inr h
theorem zu.up(e:∀b o,H b=some o->H' b=some o)(r:zu K H ks vs xs):zu K H' ks vs xs:=by
 induction r with
 |nil=>exact .nil
 |cons a b _ ih=>exact .cons (jj e a) b ih
theorem zu.at(r:zu K H ks vs xs)(k:List Int):bY (atT ks vs k) ((atKey xs k).map (·.2)):=by
 induction r with
 |nil=>exact True.intro
 | @cons k' v b u ks vs xs h1 h2 t ih=>
  by_cases e:k'=k
  ·have e2:atKey ((k',b,u)::xs) k=some (b,u):=by simp[atKey,List.find?_cons,e]
   rw[atT,if_pos e,e2];exact h2
  ·have e2:atKey ((k',b,u)::xs) k=atKey xs k:=by simp[atKey,List.find?_cons,e]
   rw[atT,if_neg e,e2];exact ih
theorem zu.any(r:zu K H ks vs xs)(k:List Int):(atKey xs k).isSome=ks.any (λx=>decide (x=k)):=by
 induction r with
 |nil=>rfl
 | @cons k' v b u ks vs xs h1 h2 t ih=>
  rw[List.any_cons,<-ih];by_cases e:k'=k
  ·have e2:atKey ((k',b,u)::xs) k=some (b,u):=by simp[atKey,List.find?_cons,e]
   rw[e2];simp[e]
  ·have e2:atKey ((k',b,u)::xs) k=atKey xs k:=by simp[atKey,List.find?_cons,e]
   rw[e2];simp[e]
theorem zu.repl(r:zu K H ks vs xs)(k:List Int){y:V}{u:ae}(ry:RelV y u):zu K H ks (cw ks vs k y) (xs.map (putAt k u)):=by
 induction r with
 |nil=>exact .nil
 | @cons k' v b u' ks vs xs h1 h2 t ih=>
  rw[aK,cw];unfold putAt;by_cases e:k'=k
  ·rw[if_pos e];show zu K H _ _ ((if k'=k then (k',b,u)else (k',b,u'))::_);rw[if_pos e];exact .cons h1 ry ih
  ·rw[if_neg e];show zu K H _ _ ((if k'=k then (k',b,u)else (k',b,u'))::_);rw[if_neg e];exact .cons h1 h2 ih
theorem zu.snoc(r:zu K H ks vs xs){k:List Int}{y:V}{b:Addr}{u:ae}(h:SqT K H b (k.map V.int))(ry:RelV y u):zu K H (ks++[k]) (vs++[y]) (xs++[(k,b,u)]):=by
 induction r with
 |nil=>exact .cons h ry .nil
 |cons h1 h2 _ ih=>exact .cons h1 h2 ih
theorem zu.put(r:zu K H ks vs xs){k:List Int}{y:V}{b:Addr}{u:ae}(h:SqT K H b (k.map V.int))(ry:RelV y u):zu K H (cy ks k) (cb ks vs k y) (storedH xs k b u):=by
 have e:=r.any k;unfold storedH cy cb;rw[e];by_cases q:(ks.any λx=>decide (x=k))=true
 ·rw[if_pos q,if_pos q,if_pos q];exact r.repl k ry
 ·rw[if_neg q,if_neg q,if_neg q];exact r.snoc h ry
end
section
variable{X:Cx}{pins:List (Addr×Obj)}{σ:L2.St}{H:Hp}{s:af}{a b:Addr}{y v:V}{u r:ae}{ks:List (List Int)}{vs:List V}{xs:List E3}{ep:Nat}{k:List Int}{A:ar}{E:ae->af->Prop}
theorem items_int:∀{P:aq}{w:aj}{ks:List Int}{us:List ae},Vals (ks.map V.int) us->ItemsAre (intKind P w) ks us
 |_,_,[],_,r=>by rw[List.map_nil]at r;cases r;exact .nil
 |_,_,k::ks,_,r=>by
  rw[aK]at r;cases r with
  |cons h t=>
   obtain⟨tk,e⟩:=h;subst e;exact .cons (by show ae.isInt k (.int k tk)=true;simp[ae.isInt]) (items_int t)
theorem key_is(I:Inv X pins σ H s)(e:SqT X.K H b (k.map V.int)):(tupleKind (intKind X.prog X.w)).is s.heap k b:=by
 obtain⟨its,rv,p,hz⟩:=I.tuple e;obtain⟨o,h1,h2,n,h3⟩:=p;exact⟨o,its.toArray,n,h1,h2,h3,by simpa using items_int rv⟩
theorem ee(I:Inv X pins σ H s)(e:H a=some (zv a xs ep)):Raw s.heap a (xs.map ent).toArray ep/\xs.length<=az/\(a==sysModules)=false/\(xs.map (·.1)).Nodup:=(I.hok a _ e).1
theorem vi(I:Inv X pins σ H s)(e:H a=some (zv a xs ep))(r:zu X.K H ks vs xs):s.heap.DictOfH (tupleKind (intKind X.prog X.w)) a xs:=by
 obtain⟨⟨o,h1,h2,h3⟩,hl,hd,hn⟩:=ee I e;refine⟨o,_,ep,h1,h2,h3,by simp;exact λ_ _ _ _=>rfl,λx hx=>?_,hn⟩;clear h3 hl hn e
 induction r with
 |nil=>cases hx
 |cons q1 q2 _ ih=>
  rcases aL.mp hx with rfl|hx
  ·exact key_is I q1
  ·exact ih hx
noncomputable def TD(H:Hp)(a:Addr)(xs:List E3):Prop:=(∃ep,H a=some (zv a xs ep))\/(xs=[]/\H a=some (.dK []))
theorem TD.mut(t:TD H a xs):Mut (H a):=by
 rcases t with ⟨ep,e⟩|⟨_,e⟩<;>rw[e]<;>exact True.intro
theorem ua(I:Inv X pins σ H s)(e:H a=some (.dK [])):Raw s.heap a #[] 0\/∃ep,Raw s.heap a #[] ep:=by
 obtain⟨z,hd,vs,rel,dd⟩:=dU I.hok e;cases rel;obtain⟨o,es,ep,h1,h2,h3,h4,h5,h6⟩:=dd;have:es = #[]:=by
  rw[<-Array.toList_inj];generalize es.toList=l at *;cases h5
  rfl
 subst this;exact .inr ⟨ep,o,h1,h2,h3⟩
theorem c0(I:Inv X pins σ H s)(t:TD H a xs):(∃ep,Raw s.heap a (xs.map ent).toArray ep)/\xs.length<=az/\(a==sysModules)=false/\(xs.map (·.1)).Nodup:=by
 rcases t with ⟨ep,e⟩|⟨rfl,e⟩
 ·obtain⟨h1,h2⟩:=ee I e;exact⟨⟨ep,h1⟩,h2⟩
 ·refine⟨?_,by simp,(dU I.hok e).2.1,by simp⟩;rcases ua I e with h|h
  ·exact⟨_,h⟩
  ·exact h
theorem eE(I:Inv X pins σ H s)(t:TD H a xs)(r:zu X.K H ks vs xs):s.heap.DictOfH (tupleKind (intKind X.prog X.w)) a xs:=by
 obtain⟨⟨ep,o,h1,h2,h3⟩,hl,hd,hn⟩:=c0 I t;refine⟨o,_,ep,h1,h2,h3,by simp;exact λ_ _ _ _=>rfl,λx hx=>?_,hn⟩;clear h3 hl hn t
 induction r with
 |nil=>cases hx
 |cons q1 q2 _ ih=>
  rcases aL.mp hx with rfl|hx
  ·exact key_is I q1
  ·exact ih hx
theorem og{Q:ae->af->Prop}(hu:A.units+1<cLine)(I:Inv X pins σ H s)(e:TD H a xs)(rel:zu X.K H ks vs xs)(eb:SqT X.K H b (k.map V.int))(l:atT ks vs k=some v)(h:∀w' s',Inv X pins σ H s'->RelV v w'->Q w' s') :
  ag (ai X.prog X.w) A (getItem (.ref a) (.ref b)) Q E s:=by
 obtain⟨w',hw,rw'⟩:=bY.some_of (v:=v) (o:=(atKey xs k).map (·.2)) (by rw[<-l];exact rel.at k);obtain⟨p,hp,hp2⟩:=aX.mp hw;refine wpAny_getItem_heap (tupleKind_room_in1 hu) (key_is I eb) (eE I e rel) hp ?_;rw[hp2];exact h w' _ (I.tok _) rw'
theorem wX{Q:ae->af->Prop}(hu:A.units+1<cLine)(I:Inv X pins σ H s)(e:TD H a xs)(rel:zu X.K H ks vs xs)(eb:SqT X.K H b (k.map V.int))(h:∀s',Inv X pins σ H s'->Q (.bool (ks.any λx=>decide (x=k))) s') :
  ag (ai X.prog X.w) A (aF .In (.ref b) (.ref a)) Q E s:=by
 refine wpAny_in_heap (tupleKind_room_in1 hu) (key_is I eb) (c0 I e).2.2.1 (eE I e rel) ?_;rw[rel.any k];exact h _ (I.tok _)
theorem oD{Q:ae->af->Prop}(hu:A.units+1<cLine)(I:Inv X pins σ H s)(e:TD H a xs)(rel:zu X.K H ks vs xs)(eb:SqT X.K H b (k.map V.int))(h:∀s',Inv X pins σ H s'->Q (.bool (!ks.any λx=>decide (x=k))) s') :
  ag (ai X.prog X.w) A (aF .NotIn (.ref b) (.ref a)) Q E s:=by
 refine wpAny_notIn_heap (tupleKind_room_in1 hu) (key_is I eb) (c0 I e).2.2.1 (eE I e rel) ?_;rw[rel.any k];exact h _ (I.tok _)
theorem rW{Q:ae->af->Prop}(hu:A.units+1<cLine)(I:Inv X pins σ H s)(e:TD H a xs)(rel:zu X.K H ks vs xs)(eb:SqT X.K H b (k.map V.int))(h:∀w' s',Inv X pins σ H s'->RelV ((atT ks vs k).getD .non) w'->Q w' s') :
  ag (ai X.prog X.w) A (call (.builtin "dict.get") [.ref a,.ref b]) Q E s:=by
 refine call_meetsIn PySem.F.slot_dict_get (c0 I e).1.choose_spec.typeIs PySem.F.entry_dict_get (PySem.F.args_dict_get_2 _ _) (meetsH_dict_get (tupleKind (intKind X.prog X.w)) a b (c0 I e).2.2.1) ⟨tupleKind_room_in1 hu,k,xs,key_is I eb,eE I e rel,h _ _ (I.tok _) ?_⟩;exact(rel.at k).getD rfl
theorem t5{d:V}{Q:ae->af->Prop}(hu:A.units+1<cLine)(I:Inv X pins σ H s)(e:TD H a xs)(rel:zu X.K H ks vs xs)(eb:SqT X.K H b (k.map V.int))(rd:RelV d r)(h:∀w' s',Inv X pins σ H s'->RelV ((atT ks vs k).getD d) w'->Q w' s') :
  ag (ai X.prog X.w) A (call (.builtin "dict.get") [.ref a,.ref b,r]) Q E s:=by
 refine call_meetsIn PySem.F.slot_dict_get (c0 I e).1.choose_spec.typeIs PySem.F.entry_dict_get (PySem.F.args_dict_get_3 _ _ _) (meetsH_dict_get_default (tupleKind (intKind X.prog X.w)) a b (c0 I e).2.2.1 r) ⟨tupleKind_room_in1 hu,k,xs,key_is I eb,eE I e rel,h _ _ (I.tok _) ?_⟩;exact(rel.at k).getD rd
theorem eJ{P:aq}{w:aj}{H':Hp}{h':Heap}(z:xs.length<=az)(hd:(a==sysModules)=false)(hn:(xs.map (·.1)).Nodup)(r:Raw h' a (xs.map ent).toArray ep):zx P w H' h' a (zv a xs ep):=
 ⟨⟨r,z,hd,hn⟩,let ⟨o,e,_⟩:=r;⟨o,e⟩,λh1 h2 ⟨⟨o,q1,q2⟩,q3⟩ kk=>⟨⟨o,kk o q1,q2⟩,q3⟩⟩
theorem ou{Q:Unit->af->Prop}(hu:A.units+1<cLine)(I:Inv X pins σ H s)(e:TD H a xs)(rel:zu X.K H ks vs xs)(eb:SqT X.K H b (k.map V.int))(hz:xs.length<az)
  (h:∀ep' s',Inv X pins σ (upd H a (zv a (storedH xs k b r) ep')) s'->Q () s'):ag (ai X.prog X.w) A (setItem (.ref a) (.ref b) r) Q E s:=by
 have hz':xs.length<=sizeLine:=by lia
 refine wpAny_setItem_heap (hsz:=hz') (tupleKind_room_in1 hu) (key_is I eb) (eE I e rel) λh' dd' hs=>?_
 obtain⟨q,es,ep',hq,h2,h3,h4,_,h5⟩:=dd';have hl:(storedH xs k b r).length<=sizeLine:=by
  unfold storedH;split<;>simp<;>lia
 refine h ep' _ (ez I e.mut hs ⟨q,hq⟩ (eJ hl (c0 I e).2.2.1 h5 ⟨q,hq,h2,?_⟩));rw[h3]
 congr 1
 rw[<-Array.toList_inj,h4,List.toList_toArray]
 rfl
theorem yK{P:aq}{w:aj}{H:Hp}(h:Heap)(hb:sysModules<h.objs.size):zx P w H (h.push {cls:=.type "dict",data:=.dict #[]}) h.objs.size (zv h.objs.size [] 0):=by
 refine eJ (by simp) (by simpa using Nat.ne_of_gt hb) (by simp) ⟨_,Heap.get?_push_size _ rfl,⟨rfl,rfl,rfl⟩,rfl⟩
end
section
variable{K:ao}{H:Hp}{p:Addr}{xs:List E3}{ep:Nat}{o:HO}
inductive PK(K:ao)(H:Hp):List (V×V)->List (List Int×V)->Prop
 |nil:PK K H [] []
 |cons {k:List Int}{v:V}{b:Addr}{ps:List (V×V)}{ls:List (List Int×V)}:SqT K H b (k.map V.int)->PK K H ps ls->PK K H ((.ref b,v)::ps) ((k,v)::ls)
noncomputable def fm{α:Type}(ks:List (List Int)):List (List Int×α)->List (List Int)
 | []=>ks
 |x::r=>fm (cy ks x.1) r
noncomputable def dr{α:Type}(ks:List (List Int))(ds:List α):List (List Int×α)->List α
 | []=>ds
 |x::r=>dr (cy ks x.1) (cb ks ds x.1 x.2) r
end
section
variable{X:Cx}{pins:List (Addr×Obj)}{σ:L2.St}{A:ar}{E:ae->af->Prop}
theorem ng(p:Addr)(x:ae×ae)(r:List (ae×ae)):storeAll p (x::r)=(do dictSet p x.1 x.2;storeAll p r):=by
 unfold storeAll;simp only[List.forIn_cons,bind_assoc,pure_bind]
theorem yL{p:Addr}{Hs:Hp}(hp0:Hs p=none)(hu:A.units<cLine){ps:List (V×V)}:∀{ws:List (ae×ae)}{ls:List (List Int×V)}{H:Hp}{s:af}{ks:List (List Int)}{vs:List V}{xs:List E3}{ep:Nat}{Q:PUnit->af->Prop},VV ps ws->PK X.K Hs ps ls->(∀b o,Hs b=some o->H b=some o)->Inv X pins σ H s->H p=some (zv p xs ep)->zu X.K Hs ks vs xs->xs.length+ps.length<=az ->
  (∀xs' ep' s',Inv X pins σ (upd H p (zv p xs' ep')) s'->zu X.K Hs (fm ks ls) (dr ks vs ls) xs'->Q PUnit.unit s')->ag (ai X.prog X.w) A (storeAll p ws) Q E s:=by
 induction ps with
 |nil=>
  intro ws ls H s ks vs xs ep Q hv hp le I e r hl h;cases hv;cases hp;unfold storeAll;refine av (h xs ep s ?_ r);rw[show upd H p (zv p xs ep)=H from by funext b;unfold upd;split<;>simp_all];exact I
 |cons pp ps ih=>
  intro ws ls H s ks vs xs ep Q hv hp le I e r hl h;cases hv with
  | @cons _ q _ qs hr t=>
  cases hp with
  | @cons k v b _ ls hk tk=>
  obtain⟨h1,h2⟩:=hr;obtain⟨q1,q2⟩:=q;obtain rfl:q1=aG b:=h1;have hz:xs.length<=sizeLine:=by simp at hl;lia
  rw[ng];refine ah (wpAny_dictSet_heap (hsz:=hz) (knd:=tupleKind (intKind X.prog X.w)) hu (key_is I (jj le hk)) (vi I e (r.up le)) λh' dd' hs=>?_);obtain⟨o,es,ep',hq,g2,g3,g4,_,g5⟩:=dd';have hl2:(storedH xs k b q2).length<=xs.length+1:=by unfold storedH;split<;>simp
  have raw:Raw h' p ((storedH xs k b q2).map ent).toArray ep':=by
   refine⟨o,hq,g2,?_⟩;rw[g3]
   congr 1
   rw[<-Array.toList_inj,g4,List.toList_toArray]
   rfl
  have I2:Inv X pins σ (upd H p (zv p (storedH xs k b q2) ep')) {s with heap:=h',toks:=_}:=ez (t':=s.toks+(tupleKind (intKind X.prog X.w)).draws k) I (by rw[e];exact True.intro) hs ⟨o,hq⟩ (eJ (by simp at hl;lia) (ee I e).2.2.1 g5 raw);refine ih t tk (λc o hc=>by rw[qg (λz=>by rw[z,hp0]at hc;cases hc)];exact le c o hc) I2 zi (r.put hk h2) (by simp at hl;lia) λxs' ep2 s' I' r'=>?_
  rw[q_]at I';exact h xs' ep2 s' I' r'
noncomputable def oR(K:ao)(trs:List (TE×TE)):TE:=λσ H Q=>∀p,H p=none->gB trs σ (upd H p (zv p [] 0)) λps H2=>H2 p=some (zv p [] 0)/\ps.length<=15/\∃ls Hs,(∀b o,Hs b=some o->H2 b=some o)/\Hs p=none/\PK K Hs ps ls /\
 ∀xs ep,zu K Hs (fm [] ls) (dr [] [] ls) xs->Q (.ref p) (upd H2 p (zv p xs ep))
theorem lu{pos:Pos}{keys:List (Option Expr)}{values:List Expr}{trs:List (TE×TE)}(hu:X.A.units<cLine)(h:PPs X pos keys values trs)(hall:keys.all (·.isSome)=true)(hl:keys.length=values.length)(h0:keys≠[])
  (h15:keys.length<=15):PE X (.Dict keys values pos) (oR X.K trs):=by
 intro pins s σ H Q I q;have hn:=I.hok.fresh (aA s.heap.objs.size);have I1:=I.laid (a:=s.heap.objs.size) (o:=zv s.heap.objs.size [] 0) (h':=s.heap.push {cls:=.type "dict",data:=.dict #[]}) (t':=s.toks) (λ_ _ q=>Heap.get?_push_of_some _ q) (aA _) (yK s.heap I.big);refine wpAny_Dict_any hall hl h0 h15 (thn (h pins _ σ _ _ I1 (q _ hn)) λws s2 ⟨ps,H2,I2,rel,e,hz,ls,Hs,le,hp0,lk,q2⟩=>?_);refine yL hp0 hu rel lk le I2 e .nil (by rw[bp];simp;lia) λxs' ep' s' I' r'=>?_
 exact⟨.ref s.heap.objs.size,_,I',rfl,q2 xs' ep' r'⟩
end
noncomputable def Itd(a:Addr)(xs:List E3)(ep:Nat):It:=
 ⟨λi H=>H a=some (zv a xs ep)/\i<xs.length,λi H x H'=>H'=H/\∃e,xs[i]? = some e/\x=.ref e.2.1,λi H=>H a=some (zv a xs ep)/\xs.length<=i⟩
theorem vZ{P:aq}{w:aj}{K:ao}{tg:Expr}(a it:Addr)(hne:a≠it)(xs:List E3)(ep:Nat):Turn P w K tg (Itd a xs ep) [it] it (λi h=>h.get? it=some (itO a i xs.length ep)) where
 mem:=by simp
 obj:=λi h st b hb=>by
  have e:b=it:=by simpa using hb
  subst e;exact⟨_,st,λv z=>by cases z⟩
 keep:=λi h h' st k=>k it (by simp) _ st
 item:=by
  intro X hP hw hK hc i pins s σ H E I hf st hg;subst hP hw hK;obtain⟨hg,hi⟩:=hg;obtain⟨f0,f1,f2,f3,f4,f5⟩:=hf it (by simp);have raw:=(ee I hg).1;have e0:(xs.map ent).toArray.size=xs.length:=by simp
  have e1:(xs.map ent).toArray[i]? = some (ent xs[i]):=by simp[hi]
  refine next_item hne (es:=(xs.map ent).toArray) (ep:=ep) ⟨by rw[e0];exact st,raw⟩ e1 λh' st' sb=>?_
  have I1:Inv X pins σ H {s with heap:=h'}:=I.turned (t':=s.toks) (λb o hb e=>(sb.2 b hb).trans e) f0 f1 f3 f4 f5;have st2:h'.get? it=some (itO a (i+1) xs.length ep):=by have:=st'.1;rw[e0]at this;exact this
  exact⟨_,rfl,fU (s:={s with heap:=h'}) st2 rfl rfl (by decide) ⟨.ref xs[i].2.1,H,I1,rfl,⟨rfl,_,List.getElem?_eq_getElem hi,rfl⟩,st2,λb hb=>(hf b hb).1⟩⟩
 done:=by
  intro X hP hw hK hc i pins s σ H E I hf st hg;subst hP hw hK;obtain⟨hg,hi⟩:=hg;obtain⟨f0,f1,f2,f3,f4,f5⟩:=hf it (by simp);have raw:=(ee I hg).1;have e0:(xs.map ent).toArray.size=xs.length:=by simp
  exact next_end (I.ok.hd hc) (es:=(xs.map ent).toArray) (ep:=ep) (i:=i) (by rw[e0];exact hi) ⟨by rw[e0];exact st,raw⟩ λh' eb=>⟨rfl,I.turned (t':=s.toks) (λb o hb e=>eb b o hb e) f0 f1 f3 f4 f5⟩
 self:=λA i s Q E st h=>by
  have hT:s.TypeIs (.ref it) "dict_keyiterator":=⟨_,st,rfl⟩
  refine wpAny_pyIter_slot hT PySem.F.slot_dict_keyiterator_iter (wpAny_call_entry PySem.F.slot_dict_keyiterator_iter hT PySem.F.entry_dict_keyiterator_iter ?_ (PySem.F.args_dict_keyiterator_iter_1 _));show ag _ _ (ret (.ref it)) _ _ s;exact av ⟨_,rfl,"dict_keyiterator",_,hT,PySem.F.slot_dict_keyiterator_next.lookup,h⟩
section
variable{X:Cx}{tg:Expr}
noncomputable def vw(tl:TE):TI:=λσ H R=>tl σ H λx H1=>∃a xs ep,x=.ref a/\H1 a=some (zv a xs ep)/\R (Itd a xs ep) H1
theorem xZ{l:Expr}{tl:TE}(hl:PE X l tl):PI X tg l (vw tl):=by
 intro pins s σ H R I h;refine thn (hl pins s σ H _ I h) λv s1 ⟨x,H1,I1,r1,q1⟩=>?_
 obtain⟨a,xs,ep,e,hq,q⟩:=q1;subst e;cases r1;obtain⟨raw,_,hd,_⟩:=ee I1 hq;have e0:(xs.map ent).toArray.size=xs.length:=by simp
 have hlt:a<s1.heap.objs.size:=by obtain⟨o,h1,_⟩:=raw;exact aE h1
 refine n8 hd raw ?_;refine⟨s1.heap.objs.size,[s1.heap.objs.size],_,_,H1,rfl,I1.kept (t':=s1.toks) λb o e=>Heap.get?_push_of_some _ e,vZ a _ (aS hlt) xs ep,?_,λb hb=>?_,q⟩
 ·rw[e0];exact Heap.get?_push_size _ rfl
 ·have e:b=s1.heap.objs.size:=by simpa using hb
  subst e;exact I1.fpOk (aA _) (I1.hok.fresh (aA _))
end
section
variable{X:Cx}
theorem vP(hu:X.A.units+64<cLine):OpR X (aF .In) (λx y H Q=>∃a b xs ks vs k,y=.ref a/\x=.ref b/\TD H a xs/\zu X.K H ks vs xs/\SqT X.K H b (List.map V.int k)/\Q (.bl (ks.any λx=>decide (x=k))) H):=by
 intro pins s σ H x y v u Q I rx ry ⟨a,b,xs,ks,vs,k,e1,e2,t,r,eb,q⟩;subst e1 e2;obtain rfl:u=aG a:=ry;obtain rfl:v=aG b:=rx;exact wX (by lia) I t r eb λs' I'=>⟨.bl _,H,I',rfl,q⟩
theorem Aa(hu:X.A.units+64<cLine):OpR X (aF .NotIn) (λx y H Q=>∃a b xs ks vs k,y=.ref a/\x=.ref b/\TD H a xs/\zu X.K H ks vs xs/\SqT X.K H b (List.map V.int k)/\Q (.bl (!ks.any λx=>decide (x=k))) H):=by
 intro pins s σ H x y v u Q I rx ry ⟨a,b,xs,ks,vs,k,e1,e2,t,r,eb,q⟩;subst e1 e2;obtain rfl:u=aG a:=ry;obtain rfl:v=aG b:=rx;exact oD (by lia) I t r eb λs' I'=>⟨.bl _,H,I',rfl,q⟩
theorem vv(hu:X.A.units+64<cLine):IxR X (λx y H Q=>∃a b xs ks vs k v,x=.ref a/\y=.ref b/\TD H a xs/\zu X.K H ks vs xs/\SqT X.K H b (List.map V.int k)/\atT ks vs k=some v/\Q v H):=by
 intro value slice pins s σ H x y v u Q I rx ry ⟨a,b,xs,ks,vs,k,z,e1,e2,t,r,eb,he,q⟩ hs;subst e1 e2;obtain rfl:v=aG a:=rx;obtain rfl:u=aG b:=ry;exact kU (c0 I t).1.choose_spec.typeIs PySem.F.slot_dict_getitem.lookup (og (by lia) I t r eb he λw' s' I' rw'=>⟨_,H,I',rw',q⟩) hs
theorem uW(hu:X.A.units+64<cLine):dG X (λo i v H Q=>∃a b xs ks vs k Hs,o=.ref a/\i=.ref b/\TD H a xs/\(∀b o,Hs b=some o->H b=some o)/\zu X.K Hs ks vs xs/\SqT X.K Hs b (List.map V.int k)/\xs.length<az/\∀xs' ep,zu X.K Hs (cy ks k) (cb ks vs k v) xs'->Q (upd H a (zv a xs' ep))):=by
 intro pins s σ H o i v ov iv u Q I ro ri rv ⟨a,b,xs,ks,vs,k,Hs,e1,e2,t,le,r,eb,hz,q⟩;subst e1 e2;obtain rfl:ov=aG a:=ro;obtain rfl:iv=aG b:=ri;exact ou (by lia) I t (r.up le) (jj le eb) hz λep' s' I'=>⟨_,I',q _ ep' (r.put eb rv)⟩
end
noncomputable def iO(H:Hp)(a:Addr):Prop:=IsD H a\/∃xs ep,H a=some (zv a xs ep)
theorem mD{X:Cx}{pins:List (Addr×Obj)}{σ:L2.St}{H:Hp}{s:af}{a:Addr}(I:Inv X pins σ H s)(d:iO H a) :
  s.TypeIs (.ref a) "dict"/\(∀b,aG a=.ref b->∃ob,s.heap.get? b=some ob/\ob.dict=none):=by
 rcases d with d|⟨xs,ep,e⟩
 ·obtain⟨t1,t2,_⟩:=pK I d;exact⟨t1,t2⟩
 ·obtain⟨raw,_⟩:=ee I e;refine⟨raw.typeIs,λb q=>?_⟩;cases q;obtain⟨o,h1,h2,h3⟩:=raw;exact⟨o,h1,h2.2.1⟩
noncomputable def l6(K:ao)(H:Hp)(a:Addr)(y z:V)(Q:VK):Prop:=(∃o,bX H a y o/\Q (o.getD z) H)\/∃b xs ks vs k,y=.ref b/\TD H a xs/\zu K H ks vs xs/\SqT K H b (List.map V.int k)/\Q ((atT ks vs k).getD z) H
noncomputable def u7(K:ao)(td ty:TE):TE:=λσ H Q=>td σ H λx H1=>∃a,x=.ref a/\iO H1 a/\ty σ H1 λy H2=>l6 K H2 a y .non Q
noncomputable def wG(K:ao)(td ty tx:TE):TE:=λσ H Q=>td σ H λx H1=>∃a,x=.ref a/\iO H1 a/\ty σ H1 λy H2=>tx σ H2 λz H3=>l6 K H3 a y z Q
section
variable{X:Cx}{o e f:Expr}{apos cpos:Pos}{td ty tx:TE}
theorem nC(hu:X.A.units+1<cLine)(ho:PE X o td)(he:PE X e ty)(m:M1 X o "get" apos e cpos):PE X (.Call (.Attribute o "get" apos) [e] [] cpos) (u7 X.K td ty):=by
 intro pins s σ H Q I h;refine wpAny_Call_method m.base m.few m.line PySem.F.plainAttrs_dict PySem.F.slot_dict_get PySem.F.type_dict_get (thn (ho pins s σ H _ I h) λu s1 ⟨x,H1,I1,rx,a,ex,d,q1⟩=>?_);subst ex;obtain rfl:u=aG a:=rx;obtain⟨t1,t2⟩:=mD I1 d;refine⟨t1,t2,?_⟩;rw[m.trees];refine Calls.callWith_builtin rfl (Calls.evalArgs_plain (Calls.spliced_cons (thn (he pins s1 σ H1 _ I1 q1) λiv s2 ⟨y,H2,I2,ry,g⟩=>Calls.spliced_nil ?_)));rcases g with ⟨ov,g,q2⟩|⟨b,xs,ks,vs,k,ey,t,r,eb,q2⟩
 ·exact tD hu I2 g ry λw' s3 I3 rw'=>⟨_,H2,I3,rw',q2⟩
 ·subst ey;obtain rfl:iv=aG b:=ry;exact rW hu I2 t r eb λw' s3 I3 rw'=>⟨_,H2,I3,rw',q2⟩
theorem rj(hu:X.A.units+1<cLine)(ho:PE X o td)(he:PE X e ty)(hf:PE X f tx)(m:M2 X o "get" apos e f cpos):PE X (.Call (.Attribute o "get" apos) [e,f] [] cpos) (wG X.K td ty tx):=by
 intro pins s σ H Q I h;refine wpAny_Call_method m.base m.few m.line PySem.F.plainAttrs_dict PySem.F.slot_dict_get PySem.F.type_dict_get (thn (ho pins s σ H _ I h) λu s1 ⟨x,H1,I1,rx,a,ex,d,q1⟩=>?_);subst ex;obtain rfl:u=aG a:=rx;obtain⟨t1,t2⟩:=mD I1 d;refine⟨t1,t2,?_⟩;rw[m.trees];refine Calls.callWith_builtin rfl (Calls.evalArgs_plain (Calls.spliced_cons (thn (he pins s1 σ H1 _ I1 q1) λiv s2 ⟨y,H2,I2,ry,q2⟩=>
  Calls.spliced_cons (thn (hf pins s2 σ H2 _ I2 q2) λfv s3 ⟨z,H3,I3,rz,g⟩=>Calls.spliced_nil ?_))))
 rcases g with ⟨ov,g,q3⟩|⟨b,xs,ks,vs,k,ey,t,r,eb,q3⟩
 ·exact wF hu I3 g ry rz λw' s4 I4 rw'=>⟨_,H3,I4,rw',q3⟩
 ·subst ey;obtain rfl:iv=aG b:=ry;exact t5 hu I3 t r eb rz λw' s4 I4 rw'=>⟨_,H3,I4,rw',q3⟩
end
end WD
namespace L2
open PySem PySem.Spec PyProof.Rows
noncomputable def ft(kX:Str->Option aD)(NX NY:List Str)(cap:List (Option Nat))(scope:aI):Bool:=
 (scope.kind==.function)&&(scope.names.all λy=>(y.2 != .cell||scope.names.lookup y.1==some .cell)&&(y.2 != .local||scope.names.lookup y.1==some .local)&&(y.2 != .free||kX y.1==some .cell||kX y.1==some .free)) &&
 (cap.length==NY.length)&&(List.range cap.length).all λi=>match cap[i]? with
  |some (some j)=>(match NY[i]?,NX[j]? with
   |some x,some y=>x==y&&scope.names.lookup x==some .free&&(kX x==some .cell||kX x==some .free)
   |_,_=>false)
  |_=>true
theorem cm.of{X:Cx}{NY:List Str}{cap:List (Option Nat)}{scope:aI}(h:ft X.env.kindOf X.N NY cap scope=true):cm X NY cap scope:=by
 unfold ft at h;simp only[ax,List.all_eq_true,beq_iff_eq]at h;obtain⟨⟨⟨h1,h2⟩,h3⟩,h4⟩:=h;refine⟨h1,λy hy e=>?_,λy hy e=>?_,λy hy e=>?_,h3,λi j hc=>?_⟩
 ·have:=(h2 y hy).1.1;rw[e]at this
  simpa using this
 ·have:=(h2 y hy).1.2;rw[e]at this
  simpa using this
 ·have:=(h2 y hy).2;rw[e]at this
  simpa using this
 ·have hi:i<cap.length:=(List.getElem?_eq_some_iff.mp hc).1;have:=h4 i (List.mem_range.mpr hi);rw[hc]at this;dsimp only at this;split at this
  ·rename_i x y e1 e2
   simp only[ax,beq_iff_eq,a9]at this;obtain⟨⟨e3,e4⟩,e5⟩:=this;subst e3;exact⟨x,e1,e2,e4,e5⟩
  ·cases this
end L2
namespace WB
open PySem PySem.Spec PyProof.Rows L2
section
variable{P:aq}{w:aj}{K:ao}{mg:Str->Option ae}{base:Heap}{f g:Addr}{fd gd:FuncData}
theorem _root_.L2.Fun.ok1{x qual:Str}{st:Stmt}{f:Addr}{fd:FuncData}{N ps:List Str}{k:Nat}{sp:Sp}(F:Fun K x qual st f fd)(S:eX N ps (zl st))(len:∀vs H Q E,sp vs H Q E->vs.length=ps.length)
  (hbody:∀(cdv:ae) (A:ar) (outer:List Env) (s:af) (H:Hp) (vs:List V) (Q:VK) (E:XK),bQ k (A.deeper (envOfC qual (zl st) s.heap.objs.size f cdv))->sp vs H Q E ->
   ∃t,PSs (cX (CX1 P w) P w K mg base N qual (zl st) f cdv A outer s H E) (cA st) t/\t {nx:=λ_ H'=>Q .non H',rt:=Q} (start N vs) H):du P w K mg base (CX1 P w) (k+1) f fd ps sp:=by
 obtain⟨oc,od,kV,doc,pm,an,cdv,ct,osl,rfl,lk,hcd⟩:=F.ex;exact xp lk hcd S len λA outer s H vs Q E hr hsp=>hbody cdv A outer s H vs Q E hr hsp
end
noncomputable def pL(H:Hp)(ps:List Addr)(ks:List (Int×Int)):Prop:=ps.length=ks.length/\∀(i:Nat) p k,ps[i]? = some p->ks[i]? = some k->H p=some (.tup [.int k.1,.int k.2])
structure Built(H0:Hp)(acc:Addr)(ks:List (Int×Int))(H:Hp):Prop where
 ex:∃ps:List Addr,H acc=some (.lst (ps.map V.ref))/\pL H ps ks
 same:∀b o,b≠acc->H0 b=some o->H b=some o
end WB
set_option genSizeOf false
set_option genSizeOfSpec false
namespace EV
open PySem L2
inductive D where
 |non|bl (b:Bool)|int (i:Int)|str (x:Str)|tup (xs:List D)|lst (xs:List D)|fn (x:Str)|exn (c:Str)|dic (kvs:List (Int×Int))|dct (ks:List (List Int)) (ds:List D)
inductive R(α:Type) where
 |ok (a:α)|ex (c:Str)|no
noncomputable def R.bind{α β:Type}:R α->(α->R β)->R β
 | .ok a,f=>f a
 | .ex c,_=>.ex c
 | .no,_=>.no
@[simp] theorem R.bind_ok{α β:Type}(a:α)(f:α->R β):(R.ok a).bind f=f a:=rfl
@[simp] theorem R.bind_ex{α β:Type}(c:Str)(f:α->R β):(R.ex c:R α).bind f=.ex c:=rfl
@[simp] theorem R.bind_no{α β:Type}(f:α->R β):(R.no:R α).bind f=.no:=rfl
inductive O2 where
 |add|sub|mul|fdiv|mod|pow|shl|shr|band|bor|bxor
 deriving DecidableEq
inductive C2 where
 |eq|ne|lt|le|gt|ge|isin|notin|is|isnot
 deriving DecidableEq
inductive B1 where
 |len|tuple|list|sorted|all|any|sum|min|max|abs|int|bool
 deriving DecidableEq
inductive Cl where
 |ty (n:String)|ex (x:Str)
 deriving DecidableEq
inductive Tg where
 |nm (i:Nat)|tp (is:List Nat)
mutual
inductive E where
 |var (i:Nat)|own (i:Nat)|con (d:D)|glb (x:Str)|fnv (x:Str)
 |op (o:O2) (a b:E)|neg (a:E)|inv (a:E)|not (a:E)|and (a b:E)|or (a b:E)
 |cmp (c:C2) (a b:E)|cmp2 (c c':C2) (a b d:E)|cmp3 (c c' c'':C2) (a b d e:E)
 |ite (t:T) (a b:E)
 |tup (es:Es)|lst (es:Es)
 |ix (a b:E)|sl (a:E) (lo hi:OE)
 |call (f:Str) (es:Es)|callE (f:E) (es:Es)
 |bi (b:B1) (es:Es)
 |rtup (a:It)|rlst (a:It)
 |isi (a:E) (c:Cl)
 |comp (it:It) (cap:List (Option Nat)) (tg:Tg) (t:T) (elt:E)
 |mth (ix:Bool) (a:E)
 |cnt (a b:E)
 |mxk (mx:Bool) (a:E)
 |dic
 |callo (f:Str) (es:Es)
 |comp2 (it:It) (cap:List (Option Nat)) (tg:Tg) (it2:It) (tg2:Tg) (t:T) (elt:E)
 |fst2 (t0:Str) (a:E) (t1:Str) (b:E) (t2:Str)
 |sset (ln:Bool) (a:E)
 |rev (a:E)
 |dic1 (a b:E)
 |dget (a b:E)
 |dget2 (a b d:E)
 |lsd (a:E)
 |dct1 (a b:E)
 |dct2 (a b d e:E)
 |lstc (f:Str) (es:Es)
inductive OE where
 |none|some (e:E)
inductive Es where
 |nil|cons (e:E) (es:Es)
inductive It where
 |seq (e:E)|rng (a:E)|rng2 (a b:E)|enum (e:E)|zip (a b:E)|rng3 (a b k:E)|rrev (a:E)
inductive T where
 |yes|val (e:E)|cmp (c:C2) (a b:E)|cmp2 (c c':C2) (a b d:E)|and (a b:T)|or (a b:T)|not (a:T)
end
noncomputable def SZ:Nat:=1000000
noncomputable def small(j:Int):Bool:=decide (-(2^64)<j)&&decide (j<2^64)
noncomputable def opI:O2->Int->Int->R D
 | .add,i,j=>.ok (.int (i+j))
 | .sub,i,j=>.ok (.int (i-j))
 | .mul,i,j=>if small i||small j then .ok (.int (i * j))else .no
 | .fdiv,i,j=>if 0<j/\j<1000000000000000000000000000000 then .ok (.int (i/j))else .no
 | .mod,i,j=>if 0<j then .ok (.int (i%j))else .no
 | .pow,i,j=>if 0<=j/\j<=1000000/\i.natAbs<2^64 then .ok (.int (i^j.toNat))else .no
 | .shl,i,j=>if 0<=j/\j<=1000000/\i.natAbs<2^64 then .ok (.int (i * 2^j.toNat))else .no
 | .shr,i,j=>if 0<=j then .ok (.int (i/2^j.toNat))else .no
 | .band,i,j=>.ok (.int (Builtin.bitAnd i j))
 | .bor,i,j=>.ok (.int (Builtin.bitOr i j))
 | .bxor,i,j=>.ok (.int (Builtin.bitXor i j))
noncomputable def zo:D->Bool
 | .lst _=>true
 | .dic _=>true
 | .dct _ _=>true
 |_=>false
noncomputable def hZ:D->Bool
 | .lst _=>true
 |_=>false
noncomputable def op2(o:O2):D->D->R D
 | .int i,.int j=>opI o i j
 | .tup xs,.tup ys=>if o=.add/\xs.length+ys.length<=SZ then .ok (.tup (xs++ys))else .no
 | .lst xs,.lst ys=>if o=.add/\xs.length+ys.length<=SZ then .ok (.lst (xs++ys))else .no
 |_,_=>.no
mutual
noncomputable def D.plain:D->Bool
 | .non=>true
 | .bl _=>true
 | .int _=>true
 | .str x=>PyData.strOk x
 | .tup xs=>plainAll xs
 | .lst xs=>plainAll xs
 | .fn _=>false
 | .exn _=>false
 | .dic _=>false
 | .dct _ _=>false
noncomputable def plainAll:List D->Bool
 | []=>true
 |x::xs=>x.plain&&plainAll xs
end
mutual
noncomputable def D.deep:D->Nat
 | .tup xs=>er xs+1
 | .lst xs=>er xs+1
 |_=>0
noncomputable def er:List D->Nat
 | []=>0
 |x::xs=>max x.deep (er xs)
end
mutual
noncomputable def D.eqv:D->D->Bool
 | .non,.non=>true
 | .bl a,.bl b=>a==b
 | .bl a,.int j=>(if a then 1 else 0)==j
 | .int i,.bl b=>i==(if b then 1 else 0)
 | .int i,.int j=>i==j
 | .str x,.str y=>x==y
 | .tup xs,.tup ys=>eqvAll xs ys
 | .lst xs,.lst ys=>eqvAll xs ys
 |_,_=>false
noncomputable def eqvAll:List D->List D->Bool
 | [],[]=>true
 |x::xs,y::ys=>x.eqv y&&eqvAll xs ys
 |_,_=>false
end
noncomputable def D.asks(d:D):Bool:=d.plain&&decide (d.deep<=20)
mutual
noncomputable def D.noL:D->Bool
 | .non=>true
 | .bl _=>true
 | .int _=>true
 | .str _=>true
 | .tup xs=>ji xs
 |_=>false
noncomputable def ji:List D->Bool
 | []=>true
 |x::xs=>x.noL&&ji xs
end
noncomputable def ints?:List D->Option (List Int)
 | []=>some []
 | .int i::r=>(ints? r).map (i :: ·)
 |_=>none
noncomputable def bools?:List D->Option (List Bool)
 | []=>some []
 | .bl i::r=>(bools? r).map (i :: ·)
 |_=>none
noncomputable def seq?:D->Option (List D)
 | .tup xs=>some xs
 | .lst xs=>some xs
 |_=>none
noncomputable def dh:List Int->List Int->Bool
 | [],[]=>false
 | [],_::_=>true
 |_::_,[]=>false
 |a::r,b::t=>if a=b then dh r t else decide (a<b)
noncomputable def fk(c:C2)(i j:Int):Option Bool:=
 match c with
 | .lt=>some (decide (i<j))
 | .le=>some (decide (i<=j))
 | .gt=>some (decide (j<i))
 | .ge=>some (decide (j<=i))
 | .eq=>some (decide (i=j))
 | .ne=>some (!decide (i=j))
 |_=>none
noncomputable def inD(x:D)(xs:List D):Bool:=xs.any λy=>y.eqv x
noncomputable def fK:D->Bool
 | .non=>true
 |_=>false
noncomputable def isB(n:Bool):D->D->R Bool
 | .bl a,.bl b=>.ok (n != (a==b))
 |_,_=>.no
noncomputable def eu(a:D)(ks:List (List Int)):R Bool:=match a with
 | .tup xs=>(match ints? xs with|some k=>.ok (ks.any λx=>decide (x=k))|none=>.no)
 |_=>.no
noncomputable def c_(a b:D):R Bool:=match b with
 | .dic kvs=>(match a with
  | .int i=>.ok (kvs.any λp=>decide (p.1=i))
  |a=>if kvs.isEmpty=true then eu a []else .no)
 | .dct ks _=>eu a ks
 |_=>.no
noncomputable def zh:C2->D->D->R Bool
 | .is,a,b=>if fK b then .ok (fK a)else isB false a b
 | .isnot,a,b=>if fK b then .ok (!fK a)else isB true a b
 | .isin,a,b=>match seq? b with
  |some xs=>if a.asks&&xs.all D.asks then .ok (inD a xs)else .no
  |none=>c_ a b
 | .notin,a,b=>match seq? b with
  |some xs=>if a.asks&&xs.all D.asks then .ok (!inD a xs)else .no
  |none=>(c_ a b).bind λr=>.ok (!r)
 | .eq,a,b=>if a.asks&&b.asks then .ok (a.eqv b)else .no
 | .ne,a,b=>if a.asks&&b.asks then .ok (!a.eqv b)else .no
 | .lt,.tup xs,.tup ys=>match ints? xs,ints? ys with
  |some ns,some ms=>.ok (dh ns ms)
  |_,_=>.no
 |c,.int i,.int j=>match fk c i j with
  |some b=>.ok b
  |none=>.no
 |_,_,_=>.no
noncomputable def truth:D->R Bool
 | .non=>.ok false
 | .bl b=>.ok b
 | .int i=>.ok (i != 0)
 | .tup xs=>.ok (!xs.isEmpty)
 | .lst xs=>.ok (!xs.isEmpty)
 |_=>.no
noncomputable def ixD:D->D->R D
 | .tup xs,.int i=>match atI xs i with|some d=>.ok d|none=>.no
 | .lst xs,.int i=>match atI xs i with|some d=>.ok d|none=>.no
 | .dic kvs,.int i=>match atK kvs i with|some v=>.ok (.int v)|none=>.no
 | .dct ks ds,.tup xs=>(match ints? xs with
  |some k=>(match WD.atT ks ds k with|some d=>.ok d|none=>.no)
  |none=>.no)
 |_,_=>.no
noncomputable def cutD(xs:List D)(lo hi:Option Int):List D:=(xs.drop (HT.sIx xs.length 0 lo)).take (HT.sIx xs.length xs.length hi-HT.sIx xs.length 0 lo)
noncomputable def slD:D->Option Int->Option Int->R D
 | .tup xs,lo,hi=>.ok (.tup (cutD xs lo hi))
 | .lst xs,lo,hi=>.ok (.lst (cutD xs lo hi))
 |_,_,_=>.no
noncomputable def pairD(p:Int×Int):D:=.tup [.int p.1,.int p.2]
noncomputable def di(d:D)(k:List D->R D):R D:=match d with | .lst xs=>k xs|_=>.no
noncomputable def ibR(d:D)(f:Int->R D)(q:Bool->R D):R D:=match d with | .int i=>f i | .bl b=>q b|_=>.no
noncomputable def iiR(d e:D)(k:Int->Int->R D):R D:=match d,e with | .int i,.int j=>k i j|_,_=>.no
noncomputable def cN{α β:Type}(o:Option α)(k:α->R β):R β:=match o with|some a=>k a|none=>.no
noncomputable def fF(x:D)(f:D->R D):R D:=match x with
 | .dic kvs=>f (.dic kvs)
 | .dct ks ds=>f (.dct ks ds)
 |_=>.no
noncomputable def dw(ks:List (List Int))(ds:List D)(y z:D):R D:=match y with
 | .tup xs=>(match ints? xs with|some k=>.ok ((WD.atT ks ds k).getD z)|none=>.no)
 |_=>.no
noncomputable def b7(x y z:D):R D:=match x with
 | .dic kvs=>(match y with
  | .int i=>.ok (match atK kvs i with|some v=>.int v|none=>z)
  |y=>if kvs.isEmpty=true then dw [] [] y z else .no)
 | .dct ks ds=>dw ks ds y z
 |_=>.no
noncomputable def dY(x y:D):R D:=b7 x y .non
noncomputable def dI(xs:List (D×D)):R D:=match xs with
 | [(.tup a,x)]=>(match ints? a with|some k=>.ok (.dct (WD.fm [] [(k,x)]) (WD.dr [] [] [(k,x)]))|none=>.no)
 | [(.tup a,x),(.tup b,y)]=>(match ints? a with
  |some k=>(match ints? b with|some l=>.ok (.dct (WD.fm [] [(k,x),(l,y)]) (WD.dr [] [] [(k,x),(l,y)]))|none=>.no)
  |none=>.no)
 |_=>.no
noncomputable def itr?:D->Option (List D)
 | .dct ks _=>some (ks.map λk=>.tup (k.map D.int))
 |d=>seq? d
noncomputable def jw(x:D):R D:=match x with
 | .lst xs=>.ok (.lst xs)
 | .dic kvs=>.ok (.lst (kvs.map λp=>.int p.1))
 |_=>.no
noncomputable def b11(b:B1)(d:D):R D:=match b with
 | .len=>cN (seq? d) λxs=>.ok (.int xs.length)
 | .tuple=>cN (seq? d) λxs=>.ok (.tup xs)
 | .list=>.no
 | .all=>di d λxs=>cN (bools? xs) λbs=>.ok (.bl (bs.all id))
 | .any=>di d λxs=>cN (bools? xs) λbs=>.ok (.bl (bs.any id))
 | .sorted=>.no
 | .abs=>.no
 | .int=>ibR d (λi=>.ok (.int i)) λb=>.ok (.int (if b then 1 else 0))
 | .bool=>.no
 | .min=>.no
 | .max=>.no
 | .sum=>di d λxs=>cN (ints? xs) λns=>.ok (.int ns.sum)
noncomputable def b12(b:B1)(d e:D):R D:=match b with
 | .min=>iiR d e λi j=>.ok (.int (if j<i then j else i))
 | .max=>iiR d e λi j=>.ok (.int (if j>i then j else i))
 |_=>.no
noncomputable def b1(b:B1):List D->R D
 | [d]=>b11 b d
 | [d,e]=>b12 b d e
 |_=>.no
noncomputable def tyD:D->Option String
 | .non=>some "NoneType"
 | .bl _=>some "bool"
 | .int _=>some "int"
 | .str _=>some "str"
 | .tup _=>some "tuple"
 | .lst _=>some "list"
 | .dic _=>some "dict"
 |_=>none
noncomputable def b6(lo:Int)(n:Nat):List D:=(List.range n).map λ(i:Nat)=>.int (lo+(i:Int))
noncomputable def cj:Nat->List D->List D
 |_,[]=>[]
 |k,x::r=>.tup [.int k,x]::cj (k+1) r
noncomputable def zr(j:Int):Bool:=decide (-1000000<=j)&&decide (j<=1000000)
abbrev Env:=List (Option D)
structure W where
 call:Str->List D->R D
 glb:Str->Option D
 sub:Str->Cl->Option Bool
 cat:Str->Str->Bool
noncomputable def b5(w:W)(x:D)(c:Cl):R D:=match tyD x,c with
 |some t,.ty n=>if n = "ValueError" then .no else .ok (.bl (dP t n))
 |none,c=>match x with
  | .exn k=>match w.sub k c with|some b=>.ok (.bl b)|none=>.no
  |_=>.no
 |_,_=>.no
noncomputable def zE(τ:Env)(i:Nat):R D:=match τ[i]? with
 |some (some d)=>.ok d
 |_=>.no
noncomputable def setAll:List Nat->List D->Env->R Env
 | [],[],τ=>.ok τ
 |i::is,d::ds,τ=>setAll is ds (τ.set i (some d))
 |_,_,_=>.no
noncomputable def store:Tg->D->Env->R Env
 | .nm i,d,τ=>.ok (τ.set i (some d))
 | .tp is,.tup ds,τ=>if ds.length=is.length then setAll is ds τ else .no
 |_,_,_=>.no
noncomputable def cU(cap:List (Option Nat))(τ:Env):Env:=cap.map λo=>o.bind λj=>(τ[j]?).join
noncomputable def noEx{α:Type}:R α->R α
 | .ok a=>.ok a
 |_=>.no
noncomputable def bR(body:D->Env->R (Env×List D)):List D->Env->List D->R (List D)
 | [],_,acc=>.ok acc
 |x::r,τ,acc=>(body x τ).bind λp=>bR body r p.1 (acc++p.2)
mutual
noncomputable def evE(w:W):E->Env->R D
 | .var i,τ=>zE τ i
 | .own i,τ=>zE τ i
 | .con d,_=>.ok d
 | .glb x,_=>match w.glb x with|some d=>.ok d|none=>.no
 | .fnv x,_=>.no
 | .op o a b,τ=>(evE w a τ).bind λx=>(evE w b τ).bind λy=>op2 o x y
 | .neg a,τ=>(evE w a τ).bind λx=>match x with | .int i=>.ok (.int (-i))|_=>.no
 | .inv a,_=>.no
 | .not a,τ=>(evE w a τ).bind λx=>match x with | .bl b=>.ok (.bl (!b))|_=>.no
 | .and a b,τ=>(evE w a τ).bind λx=>match x with | .bl true=>evE w b τ | .bl false=>.ok (.bl false)|_=>.no
 | .or a b,τ=>(evE w a τ).bind λx=>match x with | .bl true=>.ok (.bl true) | .bl false=>evE w b τ|_=>.no
 | .cmp c a b,τ=>(evE w a τ).bind λx=>(evE w b τ).bind λy=>(zh c x y).bind λr=>.ok (.bl r)
 | .cmp2 c c' a b d,τ=>(evE w a τ).bind λx=>(evE w b τ).bind λy=>(zh c x y).bind λr=>if r then (evE w d τ).bind λz=>(zh c' y z).bind λr'=>.ok (.bl r')else .ok (.bl false)
 | .cmp3 c c' c'' a b d e,τ=>(evE w a τ).bind λx=>(evE w b τ).bind λy=>(zh c x y).bind λr=>if r then (evE w d τ).bind λz=>(zh c' y z).bind λr'=>if r' then (evE w e τ).bind λu=>(zh c'' z u).bind λr''=>.ok (.bl r'')else .ok (.bl false)else .ok (.bl false)
 | .ite t a b,τ=>(evT w t τ).bind λr=>if r then evE w a τ else evE w b τ
 | .tup es,τ=>(zG w es τ).bind λds=>.ok (.tup ds)
 | .lst es,τ=>(zG w es τ).bind λds=>.ok (.lst ds)
 | .ix a b,τ=>(evE w a τ).bind λx=>(evE w b τ).bind λy=>ixD x y
 | .sl a lo hi,τ=>(evE w a τ).bind λx=>(evO w lo τ).bind λl=>(evO w hi τ).bind λh=>slD x l h
 | .call f es,τ=>(zG w es τ).bind λds=>w.call f ds
 | .callE f es,_=>.no
 | .bi b es,τ=>(zG w es τ).bind λds=>b1 b ds
 | .rtup a,_=>.no
 | .rlst a,_=>.no
 | .isi a c,τ=>(evE w a τ).bind λx=>b5 w x c
 | .comp it cap tg t elt,τ=>(evI w it τ).bind λds=>if SZ<ds.length then .no else (bR (λx σ=>noEx ((store tg x σ).bind λσ'=>(evT w t σ').bind λr=>if r then (evE w elt σ').bind λd=>.ok (σ',[d])else .ok (σ',[]))) ds (cU cap τ) []).bind λout=>.ok (.lst out)
 | .mth ix a,_=>.no
 | .cnt a b,_=>.no
 | .mxk mx a,_=>.no
 | .dic,_=>.ok (.dic [])
 | .callo f es,τ=>(zG w es τ).bind λds=>(w.call f ds).bind λd=>if d.noL then .ok d else .no
 | .comp2 it cap tg it2 tg2 t elt,_=>.no
 | .fst2 t0 a t1 b t2,_=>.no
 | .sset ln a,_=>.no
 | .rev a,_=>.no
 | .dic1 a b,τ=>(evE w a τ).bind λx=>(evE w b τ).bind λy=>iiR x y λi j=>.ok (.dic [(i,j)])
 | .dget a b,τ=>(evE w a τ).bind λx=>fF x λx=>(evE w b τ).bind λy=>dY x y
 | .dget2 a b d,τ=>(evE w a τ).bind λx=>fF x λx=>(evE w b τ).bind λy=>(evE w d τ).bind λz=>b7 x y z
 | .dct1 a b,τ=>(evE w a τ).bind λx=>(evE w b τ).bind λy=>dI [(x,y)]
 | .dct2 a b d e,τ=>(evE w a τ).bind λx=>(evE w b τ).bind λy=>(evE w d τ).bind λz=>(evE w e τ).bind λu=>dI [(x,y),(z,u)]
 | .lsd a,τ=>(evE w a τ).bind jw
 | .lstc f es,τ=>(zG w es τ).bind λds=>(w.call f ds).bind λd=>if zo d then .ok d else .no
noncomputable def evO(w:W):OE->Env->R (Option Int)
 | .none,_=>.ok none
 | .some e,τ=>(evE w e τ).bind λx=>match x with | .int i=>.ok (some i)|_=>.no
noncomputable def zG(w:W):Es->Env->R (List D)
 | .nil,_=>.ok []
 | .cons e es,τ=>(evE w e τ).bind λd=>(zG w es τ).bind λds=>.ok (d::ds)
noncomputable def evI(w:W):It->Env->R (List D)
 | .seq e,τ=>(evE w e τ).bind λx=>match itr? x with|some xs=>.ok xs|none=>.no
 | .rng a,τ=>(evE w a τ).bind λx=>match x with | .int j=>if zr j then .ok (b6 0 j.toNat)else .no|_=>.no
 | .rng2 a b,τ=>(evE w a τ).bind λx=>(evE w b τ).bind λy=>match x,y with | .int i,.int j=>if zr i&&zr j then .ok (b6 i (j-i).toNat)else .no|_,_=>.no
 | .enum e,τ=>(evE w e τ).bind λx=>match x with | .lst xs=>.ok (cj 0 xs)|_=>.no
 | .zip a b,_=>.no
 | .rng3 a b k,_=>.no
 | .rrev a,_=>.no
noncomputable def evT(w:W):T->Env->R Bool
 | .yes,_=>.ok true
 | .val e,τ=>(evE w e τ).bind λx=>truth x
 | .cmp c a b,τ=>(evE w a τ).bind λx=>(evE w b τ).bind λy=>zh c x y
 | .cmp2 c c' a b d,τ=>(evE w a τ).bind λx=>(evE w b τ).bind λy=>(zh c x y).bind λr=>if r then (evE w d τ).bind λz=>zh c' y z else .ok false
 | .and a b,τ=>(evT w a τ).bind λr=>if r then evT w b τ else .ok false
 | .or a b,τ=>(evT w a τ).bind λr=>if r then .ok true else evT w b τ
 | .not a,τ=>(evT w a τ).bind λr=>.ok (!r)
end
theorem qY:∀{w i τ},@Eq (R D) (evE w (.var i) τ) (zE τ i):=rfl
theorem qW:∀{w i τ},@Eq (R D) (evE w (.own i) τ) (zE τ i):=rfl
theorem za:∀{w d τ},@Eq (R D) (evE w (.con d) τ) (.ok d):=rfl
theorem zb:∀{w x τ},@Eq (R D) (evE w (.glb x) τ) (match w.glb x with|some d=>.ok d|none=>.no):=rfl
theorem qX:∀{w x τ},@Eq (R D) (evE w (.fnv x) τ) (.no):=rfl
theorem qZ:∀{w o a b τ},@Eq (R D) (evE w (.op o a b) τ) ((evE w a τ).bind λx=>(evE w b τ).bind λy=>op2 o x y):=rfl
theorem zf:∀{w a τ},@Eq (R D) (evE w (.neg a) τ) ((evE w a τ).bind λx=>match x with | .int i=>.ok (.int (-i))|_=>.no):=rfl
theorem ze:∀{w a τ},@Eq (R D) (evE w (.inv a) τ) (.no):=rfl
theorem zc:∀{w a τ},@Eq (R D) (evE w (.not a) τ) ((evE w a τ).bind λx=>match x with | .bl b=>.ok (.bl (!b))|_=>.no):=rfl
theorem qo:∀{w a b τ},@Eq (R D) (evE w (.and a b) τ) ((evE w a τ).bind λx=>match x with | .bl true=>evE w b τ | .bl false=>.ok (.bl false)|_=>.no):=rfl
theorem qx:∀{w a b τ},@Eq (R D) (evE w (.or a b) τ) ((evE w a τ).bind λx=>match x with | .bl true=>.ok (.bl true) | .bl false=>evE w b τ|_=>.no):=rfl
theorem qq:∀{w c a b τ},@Eq (R D) (evE w (.cmp c a b) τ) ((evE w a τ).bind λx=>(evE w b τ).bind λy=>(zh c x y).bind λr=>.ok (.bl r)):=rfl
theorem qt:∀{w c c' a b d τ},@Eq (R D) (evE w (.cmp2 c c' a b d) τ) ((evE w a τ).bind λx=>(evE w b τ).bind λy=>(zh c x y).bind λr=>if r then (evE w d τ).bind λz=>(zh c' y z).bind λr'=>.ok (.bl r')else .ok (.bl false)):=rfl
theorem qE:∀{w c c' c'' a b d e τ},@Eq (R D) (evE w (.cmp3 c c' c'' a b d e) τ) ((evE w a τ).bind λx=>(evE w b τ).bind λy=>(zh c x y).bind λr=>if r then (evE w d τ).bind λz=>(zh c' y z).bind λr'=>if r' then (evE w e τ).bind λu=>(zh c'' z u).bind λr''=>.ok (.bl r'')else .ok (.bl false)else .ok (.bl false)):=rfl
theorem qJ:∀{w t a b τ},@Eq (R D) (evE w (.ite t a b) τ) ((evT w t τ).bind λr=>if r then evE w a τ else evE w b τ):=rfl
theorem qC:∀{w es τ},@Eq (R D) (evE w (.tup es) τ) ((zG w es τ).bind λds=>.ok (.tup ds)):=rfl
theorem qy:∀{w es τ},@Eq (R D) (evE w (.lst es) τ) ((zG w es τ).bind λds=>.ok (.lst ds)):=rfl
theorem qz:∀{w a b τ},@Eq (R D) (evE w (.ix a b) τ) ((evE w a τ).bind λx=>(evE w b τ).bind λy=>ixD x y):=rfl
theorem qr:∀{w a lo hi τ},@Eq (R D) (evE w (.sl a lo hi) τ) ((evE w a τ).bind λx=>(evO w lo τ).bind λl=>(evO w hi τ).bind λh=>slD x l h):=rfl
theorem qA:∀{w f es τ},@Eq (R D) (evE w (.call f es) τ) ((zG w es τ).bind λds=>w.call f ds):=rfl
theorem qK:∀{w f es τ},@Eq (R D) (evE w (.callE f es) τ) (.no):=rfl
theorem qh:∀{w b es τ},@Eq (R D) (evE w (.bi b es) τ) ((zG w es τ).bind λds=>b1 b ds):=rfl
theorem qB:∀{w a τ},@Eq (R D) (evE w (.rtup a) τ) (.no):=rfl
theorem qH:∀{w a τ},@Eq (R D) (evE w (.rlst a) τ) (.no):=rfl
theorem ql:∀{w a c τ},@Eq (R D) (evE w (.isi a c) τ) ((evE w a τ).bind λx=>b5 w x c):=rfl
theorem qk:∀{w it cap tg t elt τ},@Eq (R D) (evE w (.comp it cap tg t elt) τ) ((evI w it τ).bind λds=>if SZ<ds.length then .no else (bR (λx σ=>noEx ((store tg x σ).bind λσ'=>(evT w t σ').bind λr=>if r then (evE w elt σ').bind λd=>.ok (σ',[d])else .ok (σ',[]))) ds (cU cap τ) []).bind λout=>.ok (.lst out)):=rfl
theorem qO:∀{w ix a τ},@Eq (R D) (evE w (.mth ix a) τ) (.no):=rfl
theorem qI:∀{w a b τ},@Eq (R D) (evE w (.cnt a b) τ) (.no):=rfl
theorem qP:∀{w mx a τ},@Eq (R D) (evE w (.mxk mx a) τ) (.no):=rfl
theorem qG:∀{w τ},@Eq (R D) (evE w (.dic) τ) (.ok (.dic [])):=rfl
theorem qF:∀{w f es τ},@Eq (R D) (evE w (.callo f es) τ) ((zG w es τ).bind λds=>(w.call f ds).bind λd=>if d.noL then .ok d else .no):=rfl
theorem qQ:∀{w it cap tg it2 tg2 t elt τ},@Eq (R D) (evE w (.comp2 it cap tg it2 tg2 t elt) τ) (.no):=rfl
theorem qT:∀{w t0 a t1 b t2 τ},@Eq (R D) (evE w (.fst2 t0 a t1 b t2) τ) (.no):=rfl
theorem qp:∀{w ln a τ},@Eq (R D) (evE w (.sset ln a) τ) (.no):=rfl
theorem qN:∀{w a τ},@Eq (R D) (evE w (.rev a) τ) (.no):=rfl
theorem qS:∀{w a b τ},@Eq (R D) (evE w (.dic1 a b) τ) ((evE w a τ).bind λx=>(evE w b τ).bind λy=>iiR x y λi j=>.ok (.dic [(i,j)])):=rfl
theorem qM:∀{w a b τ},@Eq (R D) (evE w (.dget a b) τ) ((evE w a τ).bind λx=>fF x λx=>(evE w b τ).bind λy=>dY x y):=rfl
theorem qD:∀{w a b d τ},@Eq (R D) (evE w (.dget2 a b d) τ) ((evE w a τ).bind λx=>fF x λx=>(evE w b τ).bind λy=>(evE w d τ).bind λz=>b7 x y z):=rfl
theorem qm:∀{w a b τ},@Eq (R D) (evE w (.dct1 a b) τ) ((evE w a τ).bind λx=>(evE w b τ).bind λy=>dI [(x,y)]):=rfl
theorem qu:∀{w a b d e τ},@Eq (R D) (evE w (.dct2 a b d e) τ) ((evE w a τ).bind λx=>(evE w b τ).bind λy=>(evE w d τ).bind λz=>(evE w e τ).bind λu=>dI [(x,y),(z,u)]):=rfl
theorem qL:∀{w a τ},@Eq (R D) (evE w (.lsd a) τ) ((evE w a τ).bind jw):=rfl
theorem qR:∀{w f es τ},@Eq (R D) (evE w (.lstc f es) τ) ((zG w es τ).bind λds=>(w.call f ds).bind λd=>if zo d then .ok d else .no):=rfl
theorem dH:∀{w τ},@Eq (R Bool) (evT w (.yes) τ) (.ok true):=rfl
theorem dk:∀{w e τ},@Eq (R Bool) (evT w (.val e) τ) ((evE w e τ).bind λx=>truth x):=rfl
theorem dF:∀{w c a b τ},@Eq (R Bool) (evT w (.cmp c a b) τ) ((evE w a τ).bind λx=>(evE w b τ).bind λy=>zh c x y):=rfl
theorem dM:∀{w c c' a b d τ},@Eq (R Bool) (evT w (.cmp2 c c' a b d) τ) ((evE w a τ).bind λx=>(evE w b τ).bind λy=>(zh c x y).bind λr=>if r then (evE w d τ).bind λz=>zh c' y z else .ok false):=rfl
theorem dD:∀{w a b τ},@Eq (R Bool) (evT w (.and a b) τ) ((evT w a τ).bind λr=>if r then evT w b τ else .ok false):=rfl
theorem dE:∀{w a b τ},@Eq (R Bool) (evT w (.or a b) τ) ((evT w a τ).bind λr=>if r then .ok true else evT w b τ):=rfl
theorem dv:∀{w a τ},@Eq (R Bool) (evT w (.not a) τ) ((evT w a τ).bind λr=>.ok (!r)):=rfl
mutual
inductive S where
 |set (tg:Tg) (e:E)
 |app (i:Nat) (e:E)
 |seti (i:Nat) (k e:E)
 |exp (e:E)
 |ret (e:E)|retN
 |ite (t:T) (a b:Ss)
 |for (tg:Tg) (it:It) (b:Ss)
 |while (t:T) (b:Ss)
 |raise (c:Str) (es:Es)
 |try (b:Ss) (c:Str) (i:Option Nat) (h:Ss)
 |ins (i:Nat) (k e:E)
 |pass|brk|cnt|unk
 |par (i j:Nat) (a b:E)
 |par3 (i j k:Nat) (a b c:E)
 |dupd (i:Nat) (e:E)
 |pop0 (j i:Nat)
 |give (i j:Nat)
 |seti2 (i:Nat) (k l e:E)
 |ext (i:Nat) (e:E)
 |retn (e:E)
 |try2 (b:Ss) (c:Str) (i:Nat) (h:Ss) (c2:Str) (h2:Ss)
inductive Ss where
 |nil|cons (s:S) (r:Ss)
end
inductive O where
 |nx (τ:Env)|rt (d:D)|bk (τ:Env)|ct (τ:Env)|ex (c:Str)|no
noncomputable def R.out{α:Type}:R α->(α->O)->O
 | .ok a,f=>f a
 | .ex c,_=>.ex c
 | .no,_=>.no
@[simp] theorem R.out_ok{α:Type}(a:α)(f:α->O):(R.ok a).out f=f a:=rfl
@[simp] theorem R.out_ex{α:Type}(c:Str)(f:α->O):(R.ex c:R α).out f=.ex c:=rfl
@[simp] theorem R.out_no{α:Type}(f:α->O):(R.no:R α).out f=.no:=rfl
noncomputable def bA(tg:Tg)(body:Env->O):List D->Env->O
 | [],τ=>.nx τ
 |x::r,τ=>(store tg x τ).out λτ'=>match body τ' with
  | .nx σ=>bA tg body r σ
  | .ct σ=>bA tg body r σ
  | .bk σ=>.nx σ
  |o=>o
noncomputable def O.noEx:O->O
 | .ex _=>.no
 |o=>o
noncomputable def O.rtOnly:O->O
 | .rt d=>.rt d
 |_=>.no
noncomputable def gp(τ:Env)(i:Option Nat)(k:Str):Env:=match i with
 |none=>τ.map λ_=>none
 |some i=>(τ.map λ_=>none).set i (some (.exn k))
noncomputable def eB(w:W)(i:Nat)(k:E)(d:D)(τ:Env)(f:Env->O):O:=(zE τ i).out λx=>(evE w k τ).out λn=>match x with
 | .lst xs=>(match n with
  | .int j=>(match ixN xs.length j with|some m=>f (τ.set i (some (.lst (xs.set m d))))|none=>.no)
  |_=>.no)
 |_=>.no
noncomputable def gD(d:D)(f:D->D->O):O:=match d with
 | .tup ds=>(match ds with
  |a::r=>(match r with
   |b::q=>(match q with | []=>f a b|_::_=>.no)
   | []=>.no)
  | []=>.no)
 |_=>.no
noncomputable def cJ(ks:List (List Int))(ds:List D)(xs:List D)(d:D)(i:Nat)(τ:Env):O:=match ints? xs with
 |some k=>if ks.length<SZ then .nx (τ.set i (some (.dct (WD.cy ks k) (WD.cb ks ds k d))))else .no
 |none=>.no
mutual
noncomputable def evS(w:W):S->Env->O
 | .set tg e,τ=>(evE w e τ).out λd=>(store tg d τ).out .nx
 | .app i e,τ=>(zE τ i).out λx=>match x with
  | .lst xs=>(evE w e τ).out λd=>if xs.length<SZ then .nx (τ.set i (some (.lst (xs++[d]))))else .no
  |_=>.no
 | .seti i k e,τ=>(evE w e τ).out λd=>(zE τ i).out λx=>(evE w k τ).out λn=>match x,n with
  | .lst xs,.int j=>match ixN xs.length j with
   |some m=>.nx (τ.set i (some (.lst (xs.set m d))))
   |none=>.no
  | .dic kvs,.int j=>(match d with
   | .int v=>if kvs.length<SZ then .nx (τ.set i (some (.dic (dA kvs j v))))else .no
   |_=>.no)
  | .dic kvs,.tup xs=>if kvs.isEmpty=true then cJ [] [] xs d i τ else .no
  | .dct ks ds,.tup xs=>cJ ks ds xs d i τ
  |_,_=>.no
 | .exp e,τ=>(evE w e τ).out λ_=>.nx τ
 | .ret e,τ=>(evE w e τ).out .rt
 | .retN,_=>.rt .non
 | .ite t a b,τ=>(evT w t τ).out λr=>if r then qi w a τ else qi w b τ
 | .for tg it b,τ=>((evI w it τ).out λds=>bA tg (λσ=>qi w b σ) ds τ).noEx
 | .while t b,_=>.no
 | .raise c es,_=>.no
 | .try b c i h,_=>.no
 | .ins i k e,_=>.no
 | .unk,_=>.no
 | .pass,τ=>.nx τ
 | .brk,τ=>.bk τ
 | .cnt,τ=>.ct τ
 | .par i j a b,_=>.no
 | .par3 i j k a b c,τ=>(evE w a τ).out λx=>(evE w b τ).out λy=>(evE w c τ).out λz=>.nx (((τ.set i (some x)).set j (some y)).set k (some z))
 | .dupd i e,τ=>(zE τ i).out λx=>match x with
  | .dic kvs=>(evE w e τ).out λd=>(match d with
   | .dic ms=>if kvs.length+ms.length<SZ then .nx (τ.set i (some (.dic (fz kvs ms))))else .no
   |_=>.no)
  |_=>.no
 | .pop0 j i,τ=>(zE τ i).out λx=>match x with
  | .lst xs=>(match xs with
   |y::r=>.nx ((τ.set i (some (.lst r))).set j (some y))
   | []=>.no)
  |_=>.no
 | .ext i e,_=>.no
 | .retn e,τ=>(evE w e τ).out λd=>if zo d then .no else .rt d
 | .seti2 i k l e,τ=>(evE w e τ).out λd=>gD d λa b=>eB w i k a τ λσ=>eB w i l b σ .nx
 | .give i j,τ=>(zE τ j).out λd=>.nx ((τ.set j none).set i (some d))
 | .try2 b c i h c2 h2,τ=>match qi w b τ with
  | .ex k=>if w.cat k c=true then (qi w h (gp τ (some i) k)).rtOnly else if w.cat c c=true/\w.sub k (.ex c)=some false/\w.cat k c2=true then (qi w h2 (gp τ none k)).rtOnly else .no
  |o=>o
noncomputable def qi(w:W):Ss->Env->O
 | .nil,τ=>.nx τ
 | .cons s r,τ=>match evS w s τ with
  | .nx σ=>qi w r σ
  |o=>o
end
theorem bD:∀{w tg e τ},@Eq (O) (evS w (.set tg e) τ) ((evE w e τ).out λd=>(store tg d τ).out .nx):=rfl
theorem bF:∀{w i e τ},@Eq (O) (evS w (.app i e) τ) ((zE τ i).out λx=>match x with
  | .lst xs=>(evE w e τ).out λd=>if xs.length<SZ then .nx (τ.set i (some (.lst (xs++[d]))))else .no
  |_=>.no):=rfl
theorem bB:∀{w i k e τ},@Eq (O) (evS w (.seti i k e) τ) ((evE w e τ).out λd=>(zE τ i).out λx=>(evE w k τ).out λn=>match x,n with
  | .lst xs,.int j=>match ixN xs.length j with
   |some m=>.nx (τ.set i (some (.lst (xs.set m d))))
   |none=>.no
  | .dic kvs,.int j=>(match d with
   | .int v=>if kvs.length<SZ then .nx (τ.set i (some (.dic (dA kvs j v))))else .no
   |_=>.no)
  | .dic kvs,.tup xs=>if kvs.isEmpty=true then cJ [] [] xs d i τ else .no
  | .dct ks ds,.tup xs=>cJ ks ds xs d i τ
  |_,_=>.no):=rfl
theorem bC:∀{w e τ},@Eq (O) (evS w (.exp e) τ) ((evE w e τ).out λ_=>.nx τ):=rfl
theorem bu:∀{w e τ},@Eq (O) (evS w (.ret e) τ) ((evE w e τ).out .rt):=rfl
theorem bE:∀{w τ},@Eq (O) (evS w (.retN) τ) (.rt .non):=rfl
theorem bw:∀{w t a b τ},@Eq (O) (evS w (.ite t a b) τ) ((evT w t τ).out λr=>if r then qi w a τ else qi w b τ):=rfl
theorem zK:∀{w tg it b τ},@Eq (O) (evS w (.for tg it b) τ) (((evI w it τ).out λds=>bA tg (λσ=>qi w b σ) ds τ).noEx):=rfl
theorem bI:∀{w t b τ},@Eq (O) (evS w (.while t b) τ) (.no):=rfl
theorem zI:∀{w c es τ},@Eq (O) (evS w (.raise c es) τ) (.no):=rfl
theorem bG:∀{w b c i h τ},@Eq (O) (evS w (.try b c i h) τ) (.no):=rfl
theorem zO:∀{w i k e τ},@Eq (O) (evS w (.ins i k e) τ) (.no):=rfl
theorem zU:∀{w τ},@Eq (O) (evS w (.unk) τ) (.no):=rfl
theorem zX:∀{w τ},@Eq (O) (evS w (.pass) τ) (.nx τ):=rfl
theorem zM:∀{w τ},@Eq (O) (evS w (.brk) τ) (.bk τ):=rfl
theorem zN:∀{w τ},@Eq (O) (evS w (.cnt) τ) (.ct τ):=rfl
theorem zQ:∀{w i j a b τ},@Eq (O) (evS w (.par i j a b) τ) (.no):=rfl
theorem zP:∀{w i j k a b c τ},@Eq (O) (evS w (.par3 i j k a b c) τ) ((evE w a τ).out λx=>(evE w b τ).out λy=>(evE w c τ).out λz=>.nx (((τ.set i (some x)).set j (some y)).set k (some z))):=rfl
theorem zY:∀{w i e τ},@Eq (O) (evS w (.dupd i e) τ) ((zE τ i).out λx=>match x with
  | .dic kvs=>(evE w e τ).out λd=>(match d with
   | .dic ms=>if kvs.length+ms.length<SZ then .nx (τ.set i (some (.dic (fz kvs ms))))else .no
   |_=>.no)
  |_=>.no):=rfl
theorem zV:∀{w j i τ},@Eq (O) (evS w (.pop0 j i) τ) ((zE τ i).out λx=>match x with
  | .lst xs=>(match xs with
   |y::r=>.nx ((τ.set i (some (.lst r))).set j (some y))
   | []=>.no)
  |_=>.no):=rfl
theorem zS:∀{w i e τ},@Eq (O) (evS w (.ext i e) τ) (.no):=rfl
theorem zZ:∀{w e τ},@Eq (O) (evS w (.retn e) τ) ((evE w e τ).out λd=>if zo d then .no else .rt d):=rfl
theorem zT:∀{w i k l e τ},@Eq (O) (evS w (.seti2 i k l e) τ) ((evE w e τ).out λd=>gD d λa b=>eB w i k a τ λσ=>eB w i l b σ .nx):=rfl
theorem zH:∀{w i j τ},@Eq (O) (evS w (.give i j) τ) ((zE τ j).out λd=>.nx ((τ.set j none).set i (some d))):=rfl
theorem zR:∀{w b c i h c2 h2 τ},@Eq (O) (evS w (.try2 b c i h c2 h2) τ) (match qi w b τ with
  | .ex k=>if w.cat k c=true then (qi w h (gp τ (some i) k)).rtOnly else if w.cat c c=true/\w.sub k (.ex c)=some false/\w.cat k c2=true then (qi w h2 (gp τ none k)).rtOnly else .no
  |o=>o):=rfl
structure Fn where
 ps:Nat
 N:Nat
 fr:Bool
 body:Ss
noncomputable def ck(w:W)(f:Fn)(ds:List D):R D:=if ds.length=f.ps then (match qi w f.body (ds.map some++bM (f.N-f.ps) none)with
  | .nx _=>if f.fr then .no else .ok .non
  | .rt d=>.ok d
  | .ex c=>.ex c
  |_=>.no)else .no
structure Pr where
 fns:Str->Option Fn
 glb:Str->Option D
 sub:Str->Cl->Option Bool
 cat:Str->Str->Bool
noncomputable def qf(p:Pr):Nat->Str->List D->R D
 | 0,_,_=>.no
 |k+1,x,ds=>match p.fns x with
  |some f=>ck ⟨qf p k,p.glb,p.sub,p.cat⟩ f ds
  |none=>.no
inductive GK where
  |fn (fresh:Bool)|val|bi (b:B1)|rng|enum|zip|isi|ty (n:String) (b:Option B1)|exc|exk|set|rvd
  deriving DecidableEq
structure Cc where
  nm:List (Str×aD)
  N:List Str
  own:List Str
  G:List (Str×GK)
  calm:Bool
  fnc:Bool
  thr:Bool
  GH:List (Str×GK)
  oc:List Str
  frz:Bool
noncomputable def loc(c:Cc)(x:Str):Option Nat:=
  if x == "__debug__" ||x == "__classdict__" then none else
  match c.nm.lookup x with
  |some .local|some .cell|some .free=>let i:=c.N.findIdx (· == x);if c.N[i]? = some x then some i else none
  |_=>none
noncomputable def bf(c:Cc)(x:Str):Option Nat:=
  match c.nm.lookup x with
  |some .local=>loc c x
  |some .cell=>if c.fnc||c.oc.contains x then loc c x else none
  |_=>none
noncomputable def glob(c:Cc)(x:Str):Option GK:=
  if x == "__debug__" ||x == "__name__" then none else
  match c.nm.lookup x with
  |some .globalImplicit=>c.G.lookup x
  |_=>none
noncomputable def esc:E->Bool
  | .own _=>false
  |_=>true
noncomputable def cL:Es->Bool
  | .nil=>true
  | .cons e es=>esc e&&cL es
noncomputable def isL:E->Bool
  | .lst _=>true
  | .rlst _=>true
  | .comp .. => true
  |_=>false
noncomputable def sQ:O2->Bool
  | .add=>true
  | .mul=>true
  |_=>false
noncomputable def fresh(c:Cc):E->Bool
  | .op o a b=>sQ o&&isL a||o==.add&&isL b
  | .lst _=>true
  | .rlst _=>true
  | .comp .. => true
  | .comp2 .. => true
  | .dic=>true
  | .dic1 .. => true
  | .dct1 .. => true
  | .dct2 .. => true
  | .lsd _=>true
  | .bi .list _=>true
  | .bi .sorted _=>true
  | .lstc f _=>c.G.lookup f==some (.fn true)
  |_=>false
noncomputable def bV(c:Cc):E->Bool
  | .call f _=>c.G.lookup f==some (.fn true)
  | .ite _ a b=>bV c a&&bV c b
  |e=>fresh c e
noncomputable def fR(c:Cc):E->E
  | .call f es=>if c.G.lookup f==some (.fn true)then .lstc f es else .call f es
  |e=>e
noncomputable def o2:Operator->Option O2
  | .Add=>some .add
  | .Sub=>some .sub
  | .Mult=>some .mul
  | .FloorDiv=>some .fdiv
  | .Mod=>some .mod
  | .LShift=>some .shl
  | .RShift=>some .shr
  | .BitAnd=>some .band
  | .BitOr=>some .bor
  |_=>none
noncomputable def c2:CmpOp->C2
  | .Eq=>.eq
  | .NotEq=>.ne
  | .Lt=>.lt
  | .LtE=>.le
  | .Gt=>.gt
  | .GtE=>.ge
  | .Is=>.is
  | .IsNot=>.isnot
  | .In=>.isin
  | .NotIn=>.notin
noncomputable def cz:Expr->Bool
  | .ListComp .. => true
  | .SetComp .. => true
  | .DictComp .. => true
  |_=>false
noncomputable def zz:Expr->Bool
  | .Set .. => false
  |_=>true
noncomputable def fP(names nm:List (Str×aD)):List (Str×aD):=names.map λ(n,k)=>if k==br&&(nm.lookup n==some .cell)then (n,aD.cell)else (n,k)
noncomputable def bx(names:List (Str×aD)):List Str:=(names.filter λp=>p.2==.local||p.2==.free||p.2==.cell).map (·.1)
noncomputable def eD(c:Cc)(names:List (Str×aD)):List (Option Nat):=(bx names).map λx=>if names.lookup x==some .free then loc c x else none
noncomputable def eM:List Expr->Option (List Str)
  | []=>some []
  | .Name x _::r=>(eM r).map (x :: ·)
  |_=>none
noncomputable def cTg(c:Cc):Expr->Option Tg
  | .Name x _=>if c.own.contains x then none else (bf c x).map .nm
  | .Tuple es _ _=>if c.calm then do
      let xs <-eM es
      if xs.any c.own.contains then none else
      let is <-xs.mapM (bf c)
      if is.Nodup then some (.tp is)else none
    else none
  |_=>none
noncomputable def isStar:Expr->Bool
  | .Starred .. => true
  |_=>false
noncomputable def isSlice:Expr->Bool
  | .Slice .. => true
  |_=>false
noncomputable def isTup:Expr->Bool
  | .Tuple .. => true
  |_=>false
noncomputable def eK(it:It)(tg:Expr):Bool:=match it with
  | .enum _=>isTup tg
  | .zip .. => isTup tg
  |_=>true
noncomputable def gv(c:Cc):Expr->Option Cl
  | .Name x _=>match glob c x with
    |some (.ty n _)=>some (.ty n)
    |some .exc=>some (.ex x)
    |some .exk=>some (.ex x)
    |_=>none
  |_=>none
noncomputable def vr(c:Cc)(x:Str)(i:Nat):E:=if c.own.contains x then .own i else .var i
noncomputable def cMt(c:Cc)(o:Expr)(m:Str)(ap:Pos)(as:List Expr)(cp:Pos):Option E:=none
noncomputable def baseOk:Expr->Bool
  | .Call (.Name _ _) (_::_) _ _=>true
  | .Name .. => true
  |_=>false
noncomputable def owned:It->Bool
  | .seq (.own _)=>true
  | .enum (.own _)=>true
  | .zip (.own _) _=>true
  | .zip _ (.own _)=>true
  |_=>false
noncomputable def fN:Expr->Option Str
  | .Constant k _ _=>match k with
    | .str t=>some t
    |_=>none
  |_=>none
noncomputable def gA:Expr->Option Expr
  | .FormattedValue a k f _=>match f with
    |none=>if k = -1 then some a else none
    |_=>none
  |_=>none
noncomputable def gX:List Expr->Option (Str×Expr×Str×Expr×Str)
  | [x0,x1,x2,x3,x4]=>do
    let t0 <-fN x0
    let a <-gA x1
    let t1 <-fN x2
    let b <-gA x3
    let t2 <-fN x4
    if (Str.empty++t0).length<=1000 then some (t0,a,t1,b,t2)else none
  |_=>none
noncomputable def jU:Expr->Bool
  | .UnaryOp .USub (.Constant (.int i) _ _) _=>decide (i=1)
  |_=>false
noncomputable def g_(c:Cc)(b:B1):List Expr->Option Expr
  | [.Call (.Name g _) [a] [] _]=>if (b==.sorted)&&loc c g==none&&glob c g==some .set && !isStar a&&c.calm then some a else none
  |_=>none
noncomputable def iy(c:Cc)(t:String):List Expr->Option Expr
  | [a]=>match a with
    | .Name x _=>if t == "list" && c.calm&&c.own.contains x then some a else none
    |_=>none
  |_=>none
noncomputable def gx:Expr->Bool
  | .ListComp _ gs _ _=>gs.length==2
  |_=>false
mutual
noncomputable def cE:Nat->Cc->Expr->Option E
  | 0,_,_=>none
  |n+1,c,e=>match e with
    | .Name x _=>match loc c x with
      |some i=>if c.own.contains x then some (.own i)else some (.var i)
      |none=>match glob c x with
        |some .val=>some (.glb x)
        |some (.fn _)=>some (.fnv x)
        |_=>none
    | .Constant k _ _=>match k with
      | .int i=>some (.con (.int i))
      | .bool i=>some (.con (.bl i))
      | .none=>some (.con .non)
      | .str x=>some (.con (.str x))
      |_=>none
    | .BinOp a op b _=>do
      let o <-o2 op
      let a <-cE n c a
      let b <-cE n c b
      some (.op o a b)
    | .UnaryOp op a _=>do
      let a <-cE n c a
      match op with
      | .USub=>some (.neg a)
      | .Invert=>some (.inv a)
      | .Not=>some (.not a)
      |_=>none
    | .BoolOp op vs _=>cBo n c op vs
    | .Compare a ops bs _=>match ops,bs with
      | [o],[b]=>do
        let a <-cE n c a
        let b' <-cE n c b
        if zz b then some (.cmp (c2 o) a b')else none
      | [o,o'],[b,d]=>do
        let a <-cE n c a
        let b' <-cE n c b
        let d' <-cE n c d
        if zz b&&zz d then some (.cmp2 (c2 o) (c2 o') a b' d')else none
      | [o,o',o''],[b,d,f]=>do
        let a <-cE n c a
        let b' <-cE n c b
        let d' <-cE n c d
        let f' <-cE n c f
        if zz b&&zz d&&zz f then some (.cmp3 (c2 o) (c2 o') (c2 o'') a b' d' f')else none
      |_,_=>none
    | .Dict ks vs _=>match ks with
      | []=>if vs.isEmpty then some .dic else none
      |k::r=>match k with
        |some k=>match vs with
          |v::q=>if isTup k then (do
              let k <-cE n c k
              let v <-cE n c v
              if !esc v then none else
              match r with
              | []=>if q.isEmpty then some (.dct1 k v)else none
              |k2::r2=>match k2 with
                |some k2=>match q with
                  |v2::q2=>if isTup k2&&r2.isEmpty&&q2.isEmpty then (do
                      let k2 <-cE n c k2
                      let v2 <-cE n c v2
                      if !esc v2 then none else some (.dct2 k v k2 v2))else none
                  | []=>none
                |none=>none)
            else if r.isEmpty&&q.isEmpty then (do
              let k <-cE n c k
              let v <-cE n c v
              some (.dic1 k v))else none
          | []=>none
        |none=>none
    | .JoinedStr vs _=>match gX vs with
      |some (t0,a,t1,b,t2)=>do
        let a <-cE n c a
        let b <-cE n c b
        some (.fst2 t0 a t1 b t2)
      |none=>none
    | .IfExp t a b _=>do
      let t <-cT n c t
      let a <-cE n c a
      let b <-cE n c b
      if esc a&&esc b then some (.ite t a b)else none
    | .Tuple es _ _=>do
      let es <-cEs n c es
      if cL es then some (.tup es)else none
    | .List es _=>do
      let es <-cEs n c es
      if cL es then some (.lst es)else none
    | .Subscript a b _=>match b with
      | .Slice lo hi st _=>match st with
        |some s=>if lo.isNone&&hi.isNone&&jU s then (cE n c a).map .rev else none
        |none=>do
          let a <-cE n c a
          let lo <-cO n c lo
          let hi <-cO n c hi
          some (.sl a lo hi)
      |b=>do
        if isSlice b then none else
        let a <-cE n c a
        let b <-cE n c b
        some (.ix a b)
    | .ListComp elt gs sc _=>match gs with
     | [⟨tgt,it,ifs,asy⟩]=>do
      if !(asy==0) || !c.calm || !zz it then none else
      let c':Cc:={c with nm:=fP sc.names c.nm,N:=bx sc.names,fnc:=false,oc:=fD sc.names}
      let cap:=eD c sc.names
      if !ft (λx=>c.nm.lookup x) c.N (bx sc.names) cap sc || !decide (bx sc.names).Nodup then none else
      let it <-cI n c it
      let tg <-cTg c' tgt
      let t <-dj n c' ifs
      let elt <-cE n c' elt
      if esc elt&&eK it tgt then some (.comp it cap tg t elt)else none
     |_=>none
    | .Call fe as ks cp=>match ks with
     | []=>match fe with
      | .Name f _=>match loc c f with
        |some _=>none
        |none=>match glob c f with
          |some (.fn _)=>do
            let es <-cEs n c as
            if cL es && !as.isEmpty then some (.call f es)else if !as.isEmpty then some (.callo f es)else none
          |some (.bi b)=>match g_ c b as with
            |some a=>(cE n c a).map (.sset (b==.len))
            |none=>do
              let es <-cEs n c as
              if !as.isEmpty&&(c.calm||b==.len||b==.abs)then some (.bi b es)else none
          |some (.ty t (some b))=>match as with
            | [.Call (.Name g p) as' [] q]=>if loc c g==none&&glob c g==some .rng then (if c.calm&&(t == "tuple" ||t == "list")then (match as' with
                | [a]=>if isStar a then none else do
                  let a <-cE n c a
                  some (if t = "tuple" then .rtup (.rng a)else .rlst (.rng a))
                | [a,d]=>if isStar a||isStar d then none else do
                  let a <-cE n c a
                  let d <-cE n c d
                  some (if t = "tuple" then .rtup (.rng2 a d)else .rlst (.rng2 a d))
                | [a,d,k]=>if isStar a||isStar d||isStar k then none else do
                  let a <-cE n c a
                  let d <-cE n c d
                  let k <-cE n c k
                  if t == "tuple" then some (.rtup (.rng3 a d k))else none
                |_=>none)
                else none)
              else do
                let es <-cEs n c as
                some (.bi b es)
            |_=>match iy c t as with
             |some a=>(cE n c a).map .lsd
             |none=>do
              let es <-cEs n c as
              if !as.isEmpty then some (.bi b es)else none
          |some .isi=>match as with
            | [a,k]=>do
              if isStar a then none else
              let a <-cE n c a
              let k <-gv c k
              some (.isi a k)
            |_=>none
          |_=>none
      | .Attribute o m ap=>match cMt c o m ap as cp with
        |some e=>some e
        |none=>match as with
          | [a]=>do
            if !baseOk o||isStar a || !(m == "count" ||m == "get") || !(ap.endLine==cp.line)then none else
            let o' <-cE n c o
            let a' <-cE n c a
            if m == "get" then some (.dget o' a')else if esc a' then some (.cnt o' a')else none
          | [a,d]=>do
            if !baseOk o||isStar a||isStar d || !(m == "get") || !(ap.endLine==cp.line)then none else
            let o' <-cE n c o
            let a' <-cE n c a
            let d' <-cE n c d
            if esc d' then some (.dget2 o' a' d')else none
          |_=>none
      |_=>none
     |_=>none
    |_=>none
noncomputable def dj:Nat->Cc->List Expr->Option T
  | 0,_,_=>none
  |n+1,c,ifs=>match ifs with
    | []=>some .yes
    | [t]=>cT n c t
    |_=>none
noncomputable def cBo:Nat->Cc->BoolOp->List Expr->Option E
  | 0,_,_,_=>none
  |n+1,c,op,vs=>match vs with
    | []=>none
    | [a]=>do
      let a <-cE n c a
      if esc a then some a else none
    |a::b::r=>do
      let a <-cE n c a
      let r <-cBo n c op (b::r)
      match op with
      | .And=>some (.and a r)
      | .Or=>some (.or a r)
noncomputable def cO:Nat->Cc->Option Expr->Option OE
  | 0,_,_=>none
  |n+1,c,o=>match o with
    |none=>some .none
    |some e=>(cE n c e).map .some
noncomputable def cEs:Nat->Cc->List Expr->Option Es
  | 0,_,_=>none
  |n+1,c,es=>match es with
    | []=>some .nil
    |e::r=>do
      if isStar e then none else
      let e <-cE n c e
      let r <-cEs n c r
      some (.cons e r)
noncomputable def cI:Nat->Cc->Expr->Option It
  | 0,_,_=>none
  |n+1,c,e=>match e with
    | .Call (.Name f p) as [] q=>match loc c f with
      |some _=>(cE n c (.Call (.Name f p) as [] q)).map .seq
      |none=>match glob c f with
        |some .rng=>(match as with
          | [a]=>if isStar a then none else (cE n c a).map .rng
          | [a,b]=>if isStar a||isStar b then none else do
            let a <-cE n c a
            let b <-cE n c b
            some (.rng2 a b)
          |_=>none)
        |some .enum=>(match as with
          | [a]=>if isStar a then none else (cE n c a).map .enum
          |_=>none)
        |some .zip=>(match as with
          | [a,b]=>if isStar a||isStar b then none else do
            let a <-cE n c a
            let b <-cE n c b
            some (.zip a b)
          |_=>none)
        |some .rvd=>(match as with
          | [.Call (.Name g _) [a] [] _]=>if loc c g==none&&glob c g==some .rng && !isStar a then (cE n c a).map .rrev else none
          |_=>none)
        |_=>(cE n c (.Call (.Name f p) as [] q)).map .seq
    |e=>(cE n c e).map .seq
noncomputable def cT:Nat->Cc->Expr->Option T
  | 0,_,_=>none
  |n+1,c,e=>match e with
    | .UnaryOp .Not a _=>(cT n c a).map .not
    | .BoolOp op vs _=>cTs n c op vs
    | .IfExp .. => none
    | .Compare a ops bs _=>match ops,bs with
      | [o],[b]=>do
        let a <-cE n c a
        let b' <-cE n c b
        if zz b then some (.cmp (c2 o) a b')else none
      | [o,o'],[b,d]=>do
        let a <-cE n c a
        let b' <-cE n c b
        let d' <-cE n c d
        if zz b&&zz d then some (.cmp2 (c2 o) (c2 o') a b' d')else none
      | [o,o',o''],[b,d,f]=>do
        let a <-cE n c a
        let b' <-cE n c b
        let d' <-cE n c d
        let f' <-cE n c f
        if zz b&&zz d&&zz f then some (.val (.cmp3 (c2 o) (c2 o') (c2 o'') a b' d' f'))else none
      |_,_=>none
    |e=>(cE n c e).map .val
noncomputable def cTs:Nat->Cc->BoolOp->List Expr->Option T
  | 0,_,_,_=>none
  |n+1,c,op,vs=>match vs with
    | []=>none
    | [a]=>cT n c a
    |a::b::r=>do
      let a <-cT n c a
      let r <-cTs n c op (b::r)
      match op with
      | .And=>some (.and a r)
      | .Or=>some (.or a r)
end

noncomputable def iL:Expr->Option (Str×Str×Pos×Expr×Pos)
  | .Call f as ks cp=>match f with
    | .Attribute o m ap=>match o with
      | .Name x _=>match as with
        | [a]=>if ks.isEmpty then some (x,m,ap,a,cp)else none
        |_=>none
      |_=>none
    |_=>none
  |_=>none
noncomputable def jI(_:Expr):Option (Str×Pos×Expr×Expr×Pos):=none
noncomputable def iI:Expr->Option (Str×Pos×Pos)
  | .Call f as ks cp=>match f with
    | .Attribute o m ap=>match o with
      | .Name x _=>match as with
        | [a]=>match a with
          | .Constant k _ _=>match k with
            | .int i=>if ks.isEmpty&&m == "pop" && decide (i=0)then some (x,ap,cp)else none
            |_=>none
          |_=>none
        |_=>none
      |_=>none
    |_=>none
  |_=>none
noncomputable def i6:List Expr->Option (Str×Expr×Expr)
  | [.Subscript (.Name x _) k _,.Subscript (.Name y _) l _]=>if x==y && !isSlice k && !isSlice l then some (x,k,l)else none
  |_=>none
noncomputable def ip(c:Cc)(x:Str):Expr->Option Str
  | .Name y _=>if c.own.contains y && !c.own.contains x && !c.frz then some y else none
  |_=>none
noncomputable def iz:Expr->Bool
  | .Tuple es _ _=>es.all (foldedForSure 8)
  |_=>false
noncomputable def jF(ts:List Expr)(e:Expr):Option (Str×Str×Expr×Expr):=none
noncomputable def iA(ts:List Expr)(e:Expr):Option (Str×Str×Str×Expr×Expr×Expr):=match ts with
  | [.Name x px,.Name y py,.Name z pz]=>match e with
    | .Tuple [a,b,d] _ _=>if !isStar a && !isStar b && !isStar d && !([a,b,d].all (foldedForSure 8)) && !([a,b,d].all (constantsAlone 8))&&(px.line==py.line)&&(px.line==pz.line)then some (x,y,z,a,b,d)else none
    |_=>none
  |_=>none
mutual
noncomputable def cS:Nat->Cc->Bool->Stmt->Option S
  | 0,_,_,_=>none
  |n+1,c,fr,s=>match s with
    | .Assign ts e _=>match ts with
      | [t]=>match t with
        | .Name x _=>match iI e with
         |some (y,ap,cp)=>do
          let i <-bf c x
          let j <-loc c y
          if c.own.contains y && !c.own.contains x&&ap.endLine==cp.line && !c.frz then some (.pop0 i j)else none
         |none=>match ip c x e with
          |some y=>do
           let i <-bf c x
           let j <-loc c y
           some (.give i j)
          |none=>do
          if gx e then none else
          let i <-bf c x
          let e' <-cE n c e
          if c.own.contains x then (if bV c e' && !c.frz then some (.set (.nm i) e')else none)else if esc e' then some (.set (.nm i) e')else none
        | .Tuple ts k p=>match i6 ts with
         |some (x,k1,k2)=>do
          let i <-loc c x
          let k1' <-cE n c k1
          let k2' <-cE n c k2
          let e' <-cE n c e
          if c.calm&&c.own.contains x && !c.frz&&esc e' && !cz e then some (.seti2 i k1' k2' e')else none
         |none=>match jF ts e with
          |some (x,y,a,b)=>if !(c.nm.lookup x==some .local)then (do
              let tg <-cTg c (.Tuple ts k p)
              let e' <-cE n c e
              if !esc e' then none else some (.set tg e'))else do
            let i <-bf c x
            let j <-bf c y
            let a' <-cE n c a
            let b' <-cE n c b
            if !c.calm || !(c.nm.lookup x==some .local) || !(c.nm.lookup y==some .local)||(i==j)||c.own.contains x || !esc a'||isStar a||isStar b then none else
            if c.own.contains y then (if fresh c b' && !c.frz then some (.par i j a' b')else none)else if esc b' then some (.par i j a' b')else none
          |none=>match iA ts e with
            |some (x,y,z,a,b,d)=>do
              let i <-bf c x
              let j <-bf c y
              let l <-bf c z
              let a' <-cE n c a
              let b' <-cE n c b
              let d' <-cE n c d
              if !c.calm || !(c.nm.lookup x==some .local) || !(c.nm.lookup y==some .local) || !(c.nm.lookup z==some .local)||(i==j)||(i==l)||(j==l)||c.own.contains x||c.own.contains y||c.own.contains z || !esc a' || !esc b' || !esc d' then none else some (.par3 i j l a' b' d')
            |none=>do
              let tg <-cTg c (.Tuple ts k p)
              let e' <-cE n c e
              if (isTup e && !iz e)||cz e || !esc e' then none else some (.set tg e')
        | .Subscript a k _=>match a with
          | .Name x _=>do
            let i <-bf c x
            let e' <-cE n c e
            let k' <-cE n c k
            if c.own.contains x&&esc e' && !isSlice k && !cz e && !c.frz then some (.seti i k' e')else none
          |_=>none
        |_=>none
      |_=>none
    | .Expr e _=>match jI e with
      |some (x,ap,k,a,cp)=>do
        let i <-bf c x
        let k' <-cE n c k
        let a' <-cE n c a
        if c.own.contains x&&esc a' && !isStar k && !isStar a&&ap.endLine==cp.line && !c.frz then some (.ins i k' a')else none
      |none=>match iL e with
      |some (x,m,ap,a,cp)=>do
        let i <-bf c x
        let a' <-cE n c a
        if m == "update" then (if c.own.contains x&&esc a' && !isStar a&&ap.endLine==cp.line && !c.frz then some (.dupd i a')else none)else
        if m == "extend" then (if c.own.contains x&&esc a' && !isStar a&&ap.endLine==cp.line && !c.frz then some (.ext i a')else none)else
        if m == "append" && c.own.contains x&&esc a' && !isStar a&&ap.endLine==cp.line && !c.frz then some (.app i a')else none
      |none=>do
        if cz e then none else
        let e' <-cE n c e
        some (.exp e')
    | .Return o _=>match o with
      |some e=>do
        let e' <-cE n c e
        if fr then (match e with
          | .Name y _=>if c.own.contains y then (loc c y).map (λi=>.ret (.own i))else none
          |_=>if bV c e' then some (.ret e')else some (.retn e'))
        else some (.ret e')
      |none=>if fr then none else some .retN
    | .If t a b _=>do
      let t <-cT n c t
      let a <-cSs n c fr a
      let b <-cSs n c fr b
      some (.ite t a b)
    | .For tg it b els _=>do
      if !els.isEmpty || !c.calm || !zz it then none else
      let tg' <-cTg c tg
      let it <-cI n c it
      if !eK it tg then none else
      let b <-cSs n {c with frz:=c.frz||owned it} fr b
      some (.for tg' it b)
    | .Pass _=>some .pass
    | .Break _=>some .brk
    | .Continue _=>some .cnt
    |_=>none
noncomputable def cSs:Nat->Cc->Bool->List Stmt->Option Ss
  | 0,_,_,_=>none
  |n+1,c,fr,ss=>match ss with
    | []=>some .nil
    |s::r=>do
      let r <-cSs n c fr r
      some (.cons ((cS n c fr s).getD .unk) r)
end
noncomputable def noOwn(c:Cc):Cc:={c with own:=[],frz:=false}
noncomputable def gH(n:Nat)(c:Cc)(fr:Bool)(b:List Stmt):Option Ss:=cSs n c fr b
noncomputable def argNames(a:Arguments):List Str:=a.args.map (·.arg)
noncomputable def eW(a:Arguments)(sc:aI):List Str:=argNames a++((sc.names.filter λp=>p.2==.local||p.2==.cell).map (·.1)).filter λx=>!(argNames a).contains x
noncomputable def fX(N ps:List Str)(sc:aI):Bool:=
  sc.kind==.function && !sc.isCoroutine && !sc.isGenerator&&decide N.Nodup&&decide (N.take ps.length=ps)&&ps.all (λx=>sc.names.lookup x==some .local||sc.names.lookup x==some .cell)&&sc.names.all λy=>y.2 != .free
noncomputable def iP:Nat:=60
noncomputable def cFn(G GH:List (Str×GK))(own:List Str)(fr:Bool)(st:Stmt):Option Fn:=do
  let a:=zt st
  let sc:=zl st
  let N:=eW a sc
  if !fX N (argNames a) sc||(argNames a).any own.contains then none else
  let b <-gH iP ⟨sc.names,N,own,G,true,true,false,GH,[],false⟩ fr (cA st)
  some ⟨(argNames a).length,N.length,fr,b⟩
noncomputable def j1(GU:List (Str×GK))(own:List Str)(fr:Bool)(st:Stmt):Option Fn:=none
end EV

namespace EV
open PySem PySem.Spec PyProof.Rows L2
structure Gc where
 K:ao
 fnA:Str->Option Addr
 clA:Str->Option Addr
mutual
inductive Rep(g:Gc)(H:Hp):D->V->Prop
 |non:Rep g H .non .non
 |bl (b:Bool):Rep g H (.bl b) (.bl b)
 |int (i:Int):Rep g H (.int i) (.int i)
 |str (x:Str):Rep g H (.str x) (.str x)
 |tup {a:Addr}{xs:List V}{ds:List D}:SqT g.K H a xs->qU g H ds xs->Rep g H (.tup ds) (.ref a)
 |lst {a:Addr}{xs:List V}{ds:List D}:SqL g.K H a xs->qU g H ds xs->Rep g H (.lst ds) (.ref a)
 |fn {x:Str}{a:Addr}:g.fnA x=some a->Rep g H (.fn x) (.ref a)
 |exn {c:Str}{a C:Addr}:g.clA c=some C->H a=some (gZ a (.ref C))->Rep g H (.exn c) (.ref a)
 |dic {a:Addr}{kvs:List (Int×Int)}:H a=some (.dK (aY kvs))->Rep g H (.dic kvs) (.ref a)
 |dct {a:Addr}{ks:List (List Int)}{ds:List D}{vs:List V}{xs:List WD.E3}{ep:Nat}:H a=some (WD.zv a xs ep)->WD.zu g.K H ks vs xs->qU g H ds vs->Rep g H (.dct ks ds) (.ref a)
inductive qU(g:Gc)(H:Hp):List D->List V->Prop
 |nil:qU g H [] []
 |cons {d:D}{ds:List D}{x:V}{xs:List V}:Rep g H d x->qU g H ds xs->qU g H (d::ds) (x::xs)
end
theorem zW{K:ao}{H H':Hp}{a:Addr}{xs:List V}(e:qa H H')(h:SqT K H a xs):SqT K H' a xs:=by
 rcases h with (h|⟨o,h⟩)|h
 ·exact .inl (.inl (e _ _ h))
 ·exact .inl (.inr ⟨o,e _ _ h⟩)
 ·exact .inr h
section
variable{g:Gc}{H H':Hp}
theorem eF{a b:Bool}(h:(a&&b)=true):a=true/\b=true:=by rw[ax]at h;exact h
theorem Rep.mono(e:qa H H'){d:D}{v:V}(h:Rep g H d v):Rep g H' d v:=
 h.rec (motive_1:=λd v _=>Rep g H' d v) (motive_2:=λd v _=>qU g H' d v) .non .bl .int .str (λq _ r=>.tup (zW e q) r) (λq _ r=>.lst (e.seq q) r) .fn (λq r=>.exn q (e _ _ r)) (λq=>.dic (e _ _ q)) (λq r _ t=>.dct (e _ _ q) (r.up e) t) .nil (λ_ _ a b=>.cons a b)
theorem qU.mono(e:qa H H'){d:List D}{v:List V}(h:qU g H d v):qU g H' d v:=
 h.rec (motive_1:=λd v _=>Rep g H' d v) (motive_2:=λd v _=>qU g H' d v) .non .bl .int .str (λq _ r=>.tup (zW e q) r) (λq _ r=>.lst (e.seq q) r) .fn (λq r=>.exn q (e _ _ r)) (λq=>.dic (e _ _ q)) (λq r _ t=>.dct (e _ _ q) (r.up e) t) .nil (λ_ _ a b=>.cons a b)
theorem qU.length{ds:List D}:∀{vs:List V},qU g H ds vs->ds.length=vs.length:=by
 induction ds with
 |nil=>intro vs h;cases h;rfl
 |cons d ds ih=>intro vs h;cases h with|cons _ r=>exact congrArg (· + 1) (ih r)
theorem qU.get{ds:List D}:∀{vs:List V}{i:Nat}{d:D},qU g H ds vs->ds[i]? = some d->∃v,vs[i]? = some v/\Rep g H d v:=by
 induction ds with
 |nil=>intro vs i d h e;cases e
 |cons d ds ih=>
  intro vs i d' h e;cases h with
  |cons h t=>cases i with
   |zero=>cases e;exact⟨_,rfl,h⟩
   |succ i=>exact ih (i:=i) t e
theorem qU.append{ds:List D}:∀{es:List D}{vs us:List V},qU g H ds vs->qU g H es us->qU g H (ds++es) (vs++us):=by
 induction ds with
 |nil=>intro es vs us h s;cases h;exact s
 |cons d ds ih=>intro es vs us h s;cases h with|cons r t=>exact .cons r (ih t s)
theorem qU.take{ds:List D}:∀{vs:List V} (n:Nat),qU g H ds vs->qU g H (ds.take n) (vs.take n):=by
 induction ds with
 |nil=>intro vs n h;cases h;cases n<;>exact .nil
 |cons d ds ih=>intro vs n h;cases h with|cons r t=>cases n with
  |zero=>exact .nil
  |succ n=>exact .cons r (ih n t)
theorem qU.drop{ds:List D}:∀{vs:List V} (n:Nat),qU g H ds vs->qU g H (ds.drop n) (vs.drop n):=by
 induction ds with
 |nil=>intro vs n h;cases h;cases n<;>exact .nil
 |cons d ds ih=>intro vs n h;cases n with
  |zero=>exact h
  |succ n=>cases h with|cons r t=>exact ih n t
theorem qU.set{d:D}{v:V}(r:Rep g H d v){ds:List D}:∀{vs:List V} (i:Nat),qU g H ds vs->qU g H (ds.set i d) (vs.set i v):=by
 induction ds with
 |nil=>intro vs i h;cases h;exact .nil
 |cons d' ds ih=>intro vs i h;cases h with|cons q t=>cases i with
  |zero=>exact .cons r t
  |succ i=>exact .cons q (ih i t)
theorem qU.ints{ds:List D}:∀{vs:List V}{ns:List Int},qU g H ds vs->ints? ds=some ns->vs=ns.map V.int/\ds=ns.map D.int:=by
 induction ds with
 |nil=>intro vs ns h e;cases h;cases e;exact⟨rfl,rfl⟩
 |cons d ds ih=>
  intro vs ns h e;cases h with
  |cons h t=>cases d with
   |int i=>
    obtain⟨ms,e1,rfl⟩:=aX.mp (show (ints? ds).map (i :: ·)=some ns from e);obtain⟨h1,h2⟩:=ih t e1;cases h;exact⟨by rw[h1];rfl,by rw[h2];rfl⟩
   |_=>cases (show none=some ns from e)
theorem qU.bools{ds:List D}:∀{vs:List V}{ns:List Bool},qU g H ds vs->bools? ds=some ns->vs=ns.map V.bl:=by
 induction ds with
 |nil=>intro vs ns h e;cases h;cases e;rfl
 |cons d ds ih=>
  intro vs ns h e;cases h with
  |cons h t=>cases d with
   |bl i=>
    obtain⟨ms,e1,rfl⟩:=aX.mp (show (bools? ds).map (i :: ·)=some ns from e);have h1:=ih t e1;cases h;rw[h1];rfl
   |_=>cases (show none=some ns from e)
theorem qU.ofInts:∀(ns:List Int),qU g H (ns.map D.int) (ns.map V.int)
 | []=>.nil
 |i::r=>.cons (.int i) (qU.ofInts r)
end
structure Sh where
 o:Addr->Bool
 h:Addr->Bool
 z:L2.St
 y:Hp
noncomputable def hid(H:Hp)(S:Sh):Hp:=λb=>if S.h b=true then none else H b
noncomputable def zB(S:Sh)(a:Addr):Sh:=⟨S.o,λb=>S.h b||b==a,S.z,S.y⟩
theorem aV{H:Hp}{S:Sh}{b:Addr}{o:HO}:hid H S b=some o↔S.h b=false/\H b=some o:=by
 unfold hid;cases h:S.h b<;>simp
theorem zy{H:Hp}{S:Sh}:qa (hid H S) H:=λ_ _ h=>(aV.mp h).2
theorem qc{H H':Hp}{S:Sh}(e:qa H H'):qa (hid H S) (hid H' S):=λb o h=>aV.mpr ⟨(aV.mp h).1,e _ _ (aV.mp h).2⟩
noncomputable def Sub(S:Sh)(H:Hp):Prop:=∀a,(S.h a=true\/S.o a=true)->H a≠none
theorem Sub.same{S:Sh}{H H':Hp}(h:Sub S H)(e:qa H H'):Sub S H':=λa s n=>by
 cases q:H a with
 |none=>exact h a s q
 |some o=>rw[e _ _ q]at n;cases n
theorem Sub.free{S:Sh}{H:Hp}(h:Sub S H){p:Addr}(n:H p=none):S.h p=false:=by
 cases q:S.h p with
 |false=>rfl
 |true=>exact absurd n (h p (.inl q))
theorem Sub.freeO{S:Sh}{H:Hp}(h:Sub S H){p:Addr}(n:H p=none):S.o p=false:=by
 cases q:S.o p with
 |false=>rfl
 |true=>exact absurd n (h p (.inr q))
theorem zq{H:Hp}{p:Addr}{o:HO}(n:H p=none):qa H (upd H p o):=λb u h=>by
 rw[qg (λz=>by rw[z,n]at h;cases h)];exact h
theorem iN{H:Hp}{S:Sh}{p:Addr}{o:HO}(hs:Sub S H)(n:H p=none):hid (upd H p o) S p=some o:=aV.mpr ⟨hs.free n,zi⟩
theorem dS{H:Hp}{S:Sh}{p:Addr}{o:HO}(n:H p=none):qa (hid H S) (hid (upd H p o) (zB S p)):=λb u h=>by
 obtain⟨h1,h2⟩:=aV.mp h;have hb:b≠p:=λz=>by rw[z,n]at h2;cases h2
 refine aV.mpr ⟨?_,by rw[qg hb];exact h2⟩;show (S.h b||b==p)=false;rw[h1]
 simpa using hb
theorem kg{H:Hp}{S:Sh}{p:Addr}:qa (hid H (zB S p)) (hid H S):=λb u h=>by
 obtain⟨h1,h2⟩:=aV.mp h;refine aV.mpr ⟨?_,h2⟩;have h1:(S.h b||b==p)=false:=h1;simp at h1;exact h1.1
inductive bH(g:Gc)(H:Hp)(a:Addr):D->HO->Prop
 |lst {ds:List D}{vs:List V}:qU g H ds vs->bH g H a (.lst ds) (.lst vs)
 |dic (kvs:List (Int×Int)):bH g H a (.dic kvs) (.dK (aY kvs))
 |dct {ks:List (List Int)}{ds:List D}{vs:List V}{xs:List WD.E3}{ep:Nat}:WD.zu g.K H ks vs xs->qU g H ds vs->bH g H a (.dct ks ds) (WD.zv a xs ep)
theorem bH.mono{g:Gc}{H H':Hp}{a:Addr}{d:D}{o:HO}(e:qa H H')(h:bH g H a d o):bH g H' a d o:=by
 cases h with
 |lst r=>exact .lst (r.mono e)
 |dic k=>exact .dic k
 |dct q r=>exact .dct (q.up e) (r.mono e)
theorem bH.rep{g:Gc}{H H':Hp}{d:D}{o:HO}{a:Addr}(h:bH g H a d o)(e:qa H H')(ha:H' a=some o):Rep g H' d (.ref a):=by
 cases h with
 |lst r=>exact .lst (SqL.of ha) (r.mono e)
 |dic k=>exact .dic ha
 |dct q r=>exact .dct ha (q.up e) (r.mono e)
noncomputable def zw(g:Gc)(H:Hp)(S:Sh)(d:D)(v:V):Prop:=
 Rep g (hid H S) d v\/∃a o,S.o a=true/\v=.ref a/\H a=some o/\bH g (hid H S) a d o
noncomputable def Fr(g:Gc)(H0:Hp)(S:Sh)(H:Hp)(d:D)(v:V):Prop:=
 ∃a o,v=.ref a/\H0 a=none/\H a=some o/\bH g (hid H (zB S a)) a d o
section
variable{g:Gc}{H H' H0:Hp}{S:Sh}{d:D}{v:V}
theorem zw.mono(e:qa H H')(h:zw g H S d v):zw g H' S d v:=by
 rcases h with h|⟨a,o,h1,h2,h3,h4⟩
 ·exact .inl (h.mono (qc e))
 ·exact .inr ⟨a,o,h1,h2,e _ _ h3,h4.mono (qc e)⟩
theorem zw.rep(h:zw g H S d v):Rep g H d v:=by
 rcases h with h|⟨a,o,h1,rfl,h3,h4⟩
 ·exact h.mono zy
 ·exact h4.rep zy h3
theorem zw.lst{ds:List D}(h:zw g H S (.lst ds) v):∃a vs,v=.ref a/\SqL g.K H a vs/\qU g (hid H S) ds vs:=by
 rcases h with h|⟨a,o,h1,rfl,h3,h4⟩
 ·cases h with
  |lst h r=>exact⟨_,_,rfl,zy.seq h,r⟩
 ·cases h4 with
  |lst r=>exact⟨a,_,rfl,SqL.of h3,r⟩
theorem zw.dic{kvs:List (Int×Int)}(h:zw g H S (.dic kvs) v):∃a,v=.ref a/\H a=some (.dK (aY kvs)):=by
 rcases h with h|⟨a,o,h1,rfl,h3,h4⟩
 ·cases h with
  |dic h=>exact⟨_,rfl,zy _ _ h⟩
 ·cases h4 with
  |dic k=>exact⟨a,rfl,h3⟩
theorem zw.dct{ks:List (List Int)}{ds:List D}(h:zw g H S (.dct ks ds) v):∃a vs xs ep,v=.ref a/\H a=some (WD.zv a xs ep)/\WD.zu g.K (hid H S) ks vs xs/\qU g (hid H S) ds vs:=by
 rcases h with h|⟨a,o,h1,rfl,h3,h4⟩
 ·cases h with
  |dct h q r=>exact⟨_,_,_,_,rfl,zy _ _ h,q,r⟩
 ·cases h4 with
  |dct q r=>exact⟨a,_,_,_,rfl,h3,q,r⟩
theorem zw.strong(h:zw g H S d v)(n:∀ds,d≠.lst ds)(n2:∀k,d≠.dic k:=by intro _ z;cases z)(n3:∀k ds,d≠.dct k ds:=by intro _ _ z;cases z):Rep g (hid H S) d v:=by
 rcases h with h|⟨a,o,h1,rfl,h3,h4⟩
 ·exact h
 ·cases h4 with
  |lst r=>exact absurd rfl (n _)
  |dic k=>exact absurd rfl (n2 _)
  |dct q r=>exact absurd rfl (n3 _ _)
theorem zw.tup{ds:List D}(h:zw g H S (.tup ds) v):∃a vs,v=.ref a/\SqT g.K H a vs/\qU g (hid H S) ds vs:=by
 cases h.strong (by intro _ z;cases z)with
 |tup h2 r=>exact⟨_,_,rfl,zW zy h2,r⟩
theorem zw.seq{ds:List D}(h:zw g H S d v)(e:seq? d=some ds):∃a vs,v=.ref a/\(SqL g.K H a vs\/SqT g.K H a vs)/\qU g (hid H S) ds vs:=by
 cases d with
 |tup xs=>cases e;obtain⟨a,vs,h1,h2,h3⟩:=h.tup;exact⟨a,vs,h1,.inr h2,h3⟩
 |lst xs=>cases e;obtain⟨a,vs,h1,h2,h3⟩:=h.lst;exact⟨a,vs,h1,.inl h2,h3⟩
 |_=>cases e
theorem zw.int{i:Int}(h:zw g H S (.int i) v):v=.int i:=by cases h.strong (by intro _ z;cases z);rfl
theorem zw.bl{b:Bool}(h:zw g H S (.bl b) v):v=.bl b:=by cases h.strong (by intro _ z;cases z);rfl
theorem fH{ds:List D}{vs:List V}{p:Addr}(hs:Sub S H)(n:H p=none)(r:qU g (hid H S) ds vs):Rep g (hid (upd H p (.tup vs)) S) (.tup ds) (.ref p):=
 .tup (SqT.of (iN hs n)) (r.mono (qc (zq n)))
theorem e_{ds:List D}{vs:List V}{p:Addr}(hs:Sub S H)(n:H p=none)(r:qU g (hid H S) ds vs):Rep g (hid (upd H p (.lst vs)) S) (.lst ds) (.ref p):=
 .lst (SqL.of (iN hs n)) (r.mono (qc (zq n)))
theorem gw{ds:List D}{vs:List V}{p:Addr}(e:qa H0 H)(n:H p=none)(r:qU g (hid H S) ds vs):Fr g H0 S (upd H p (.lst vs)) (.lst ds) (.ref p):=
 ⟨p,_,rfl,e.free n,zi,.lst (r.mono (dS n))⟩
theorem z9{kvs:List (Int×Int)}{p:Addr}(hs:Sub S H)(n:H p=none):Rep g (hid (upd H p (.dK (aY kvs))) S) (.dic kvs) (.ref p):=.dic (iN hs n)
theorem pv{kvs:List (Int×Int)}{p:Addr}(e:qa H0 H)(n:H p=none):Fr g H0 S (upd H p (.dK (aY kvs))) (.dic kvs) (.ref p):=⟨p,_,rfl,e.free n,zi,.dic kvs⟩
end
end EV
namespace L2
open PySem PySem.Spec PyProof.Rows
section
variable{X:Cx}
end
end L2
namespace EV
open PySem PySem.Spec PySem.P PyProof.Rows L2
mutual
noncomputable def D.py:D->PyData
 | .non=>.none
 | .bl b=>.bool b
 | .int i=>.int i
 | .str x=>.str x
 | .tup xs=>.tuple (pys xs)
 | .lst xs=>.list (pys xs)
 | .fn _=>.none
 | .exn _=>.none
 | .dic _=>.none
 | .dct _ _=>.none
noncomputable def pys:List D->List PyData
 | []=>[]
 |x::xs=>x.py::pys xs
end
mutual
theorem jC:∀{d:D},d.plain=true->d.py.canLay0=true
 | .non,_ | .bl _,_ | .int _,_=>by simp[D.py,PyData.canLay0]
 | .str x,h=>by simpa[D.py,PyData.canLay0,D.plain]using h
 | .tup xs,h=>by simp only[D.py,PyData.canLay0];exact iW (by simpa[D.plain]using h)
 | .lst xs,h=>by simp only[D.py,PyData.canLay0];exact iW (by simpa[D.plain]using h)
 | .fn _,h | .exn _,h | .dic _,h | .dct _ _,h=>by simp[D.plain]at h
theorem iW:∀{ds:List D},plainAll ds=true->PyData.canLayAll0 (pys ds)=true
 | [],_=>by simp[pys,PyData.canLayAll0]
 |x::xs,h=>by
  simp only[plainAll,ax]at h;simp only[pys,PyData.canLayAll0,ax];exact⟨jC h.1,iW h.2⟩
end
mutual
theorem mO:∀(d:D),d.py.depth=d.deep
 | .non | .bl _ | .int _ | .str _ | .fn _ | .exn _ | .dic _ | .dct _ _=>by simp[D.py,PyData.depth,D.deep]
 | .tup xs=>by simp only[D.py,PyData.depth,D.deep];rw[iC xs]
 | .lst xs=>by simp only[D.py,PyData.depth,D.deep];rw[iC xs]
theorem iC:∀(ds:List D),PyData.depthAll (pys ds)=er ds
 | []=>by simp[pys,PyData.depthAll,er]
 |x::xs=>by simp only[pys,PyData.depthAll,er];rw[mO x,iC xs]
end
mutual
theorem iF:∀(a b:D),a.plain=true->b.plain=true->PyData.eqv a.py b.py=a.eqv b
 | .tup xs,.tup ys,h,h'=>by simp only[D.py,PyData.eqv,D.eqv];exact iT xs ys (by simpa[D.plain]using h) (by simpa[D.plain]using h')
 | .lst xs,.lst ys,h,h'=>by simp only[D.py,PyData.eqv,D.eqv];exact iT xs ys (by simpa[D.plain]using h) (by simpa[D.plain]using h')
 | .fn _,_,h,_=>by simp[D.plain]at h
 | .exn _,_,h,_=>by simp[D.plain]at h
 | .dic _,_,h,_ | .dct _ _,_,h,_=>by simp[D.plain]at h
 | .non,b,_,h' | .bl _,b,_,h' | .int _,b,_,h' | .str _,b,_,h'=>by cases b<;>simp[D.py,PyData.eqv,D.eqv,D.plain]at h' ⊢
 | .tup _,.non,_,_ | .tup _,.bl _,_,_ | .tup _,.int _,_,_ | .tup _,.str _,_,_ | .tup _,.lst _,_,_=>by simp[D.py,PyData.eqv,D.eqv]
 | .lst _,.non,_,_ | .lst _,.bl _,_,_ | .lst _,.int _,_,_ | .lst _,.str _,_,_ | .lst _,.tup _,_,_=>by simp[D.py,PyData.eqv,D.eqv]
 | .tup _,.fn _,_,h' | .tup _,.exn _,_,h' | .lst _,.fn _,_,h' | .lst _,.exn _,_,h' | .tup _,.dic _,_,h' | .lst _,.dic _,_,h' | .tup _,.dct _ _,_,h' | .lst _,.dct _ _,_,h'=>by simp[D.plain]at h'
theorem iT:∀(xs ys:List D),plainAll xs=true->plainAll ys=true->PyData.eqvAll (pys xs) (pys ys)=eqvAll xs ys
 | [],[],_,_=>by simp[pys,PyData.eqvAll,eqvAll]
 |x::xs,y::ys,h,h'=>by
  simp only[plainAll,ax]at h h';simp only[pys,PyData.eqvAll,eqvAll];rw[iF x y h.1 h'.1,iT xs ys h.2 h'.2]
 | [],_::_,_,_=>by simp[pys,PyData.eqvAll,eqvAll]
 |_::_,[],_,_=>by simp[pys,PyData.eqvAll,eqvAll]
end
theorem Rep.data{g:Gc}{H:Hp}{d:D}{v:V}(h:Rep g H d v):d.plain=true->cD g.K H v d.py:=
 h.rec (motive_1:=λd v _=>d.plain=true->cD g.K H v d.py) (motive_2:=λds vs _=>plainAll ds=true->et g.K H vs (pys ds)) (λ_=>.non) (λb _=>.bl b) (λb _=>.int b) (λb _=>.str b) (λq _ r p=>.tup q (r p)) (λq _ r p=>.lst q (r p)) (λ_ p=>nomatch p) (λ_ _ p=>nomatch p) (λ_ p=>nomatch p) (λ_ _ _ _ p=>nomatch p) (λ_=>.nil) (λ_ _ a b p=>.cons (a (eF p).1) (b (eF p).2))
theorem fG{d:D}:d.asks=true↔d.plain=true/\d.deep<=20:=by simp[D.asks]
section
variable{X:Cx}{g:Gc}
theorem OpR.imp{f:ae->ae->Sem ae}{r r':R2}(h:OpR X f r)(i:∀x y H Q,r' x y H Q->r x y H Q):OpR X f r':=
 λpins s σ H x y v u Q I rx ry q=>h pins s σ H x y v u Q I rx ry (i _ _ _ _ q)
noncomputable def oW(K:ao):R2:=λx y H Q=>∃l b xs zs,x=.ref l/\y=.ref b/\SqL K H l xs/\SqL K H b zs/\xs.length+zs.length<=az/\∀p,H p=none->Q (.ref p) (upd H p (.lst (xs++zs)))
theorem tL:OpR X (binaryOp .Add) (oW X.K):=by
 intro pins s σ H x y v u Q I rx ry h;obtain⟨l,b,xs,zs,rfl,rfl,hH,hB,hz,q⟩:=h;cases rx;cases ry;obtain⟨its,r,pl,z⟩:=I.list hH;obtain⟨its2,r2,pl2,z2⟩:=I.list hB;have l1:=r.length;have l2:=r2.length;obtain⟨⟨cls,dd,data,sl⟩,ho,hc,n,hd⟩:=pl.isList;obtain⟨⟨cls2,dd2,data2,sl2⟩,ho2,hc2,n2,hd2⟩:=pl2.isList;simp only at hc hd hc2 hd2;subst hc hd hc2 hd2;refine concat_meets ⟨_,ho,rfl⟩ ⟨_,ho2,rfl⟩ noFill_list_add seq_list_add PySem.F.slot_list_add PySem.F.entry_list_add (PySem.F.args_list_add_2 _ _) (list_addW l b its.toArray its2.toArray n n2 dd dd2 sl sl2 (by rw[aJ,aJ];lia)) ⟨ho,ho2,?_⟩;have ea:its.toArray++its2.toArray=(its++its2).toArray:=by simp
 rw[ea];exact⟨.ref _,_,I.lnew (t':=s.toks) (r.append r2) (by rw[List.length_append];lia),rfl,q _ I.fresh⟩
noncomputable def rOp(g:Gc)(o:O2):R2:=λx y H Q=>∃S da db,Sub S H/\zw g H S da x/\zw g H S db y /\
 match op2 o da db with
 | .ok d=>∀v H',qa H H'->Rep g (hid H' S) d v->(hZ da=true->Fr g H S H' d v)->Q v H'
 |_=>False
theorem dO{o:O2}(ho:o≠.add)(hm:o≠.mul){da db d:D}(h:op2 o da db=.ok d):∃i j,da=.int i/\db=.int j/\opI o i j=.ok d:=by
 unfold op2 at h;split at h
 ·exact⟨_,_,rfl,rfl,h⟩
 ·rw[if_neg (λz=>ho z.1)]at h;cases h
 ·rw[if_neg (λz=>ho z.1)]at h;cases h
 ·cases h
theorem jD{j:Int}(h:small j=true):-(2^64)<j/\j<2^64:=by simpa[small]using h
theorem l8{n:Nat}(h:n<=SZ):n<=sizeLine:=a5 h (by rw[bp];decide)
theorem log2_small{j:Int}(h1:0<j)(h2:j<1000000000000000000000000000000):j.natAbs.log2<9000:=by
 have h3:j.natAbs<2^100:=by
  have:(2:Nat)^100=1267650600228229401496703205376:=by decide +kernel
  rw[this];lia
 have:=(Nat.log2_lt (n:=j.natAbs) (k:=100) (by lia)).mpr h3;lia
theorem yi:OpR X (binaryOp .FloorDiv) (rI (λ_ j=>0<j/\j<1000000000000000000000000000000) λi j=>.int (i/j)):=L2.opI λi j _ _ _ _ _ hc q=>by
 have h1:(0:Int)<j:=hc.1;exact floordiv_int (by lia) (by rw[Int.fdiv_eq_ediv_of_nonneg i (by lia)];exact q) (.inl (PyProof.noPylong_of_log2 (log2_small hc.1 hc.2)))
theorem nG(hK:X.K=g.K){op:Operator}{o:O2}(h:o2 op=some o):OpR X (binaryOp op) (rOp g o):=by
 have two:∀{f:ae->ae->Sem ae}{C:Int->Int->Prop}{q:Int->Int->Int} (o:O2),OpR X f (rI C λi j=>.int (q i j))->(∀da db d,op2 o da db=.ok d->∃i j,da=.int i/\db=.int j/\C i j/\d=.int (q i j))->OpR X f (rOp g o):=λo k e=>by
  refine OpR.imp k λx y H Q ⟨S,da,db,hs,ra,rb,m⟩=>?_
  cases e1:op2 o da db with
  |ok d=>
   rw[e1]at m;obtain⟨i,j,rfl,rfl,c,rfl⟩:=e da db d e1;exact⟨i,j,ra.int,rb.int,c,m _ _ (qa.refl _) (.int _) (λz=>nomatch z)⟩
  |ex c=>rw[e1]at m;exact m.elim
  |no=>rw[e1]at m;exact m.elim
 have two0:∀{f:ae->ae->Sem ae}{q:Int->Int->Int} (o:O2),OpR X f (rI0 λi j=>.int (q i j))->(∀da db d,op2 o da db=.ok d->∃i j,da=.int i/\db=.int j/\d=.int (q i j))->OpR X f (rOp g o):=λ{f q} o k e=>
  two (C:=λ_ _=>True) (q:=q) o (OpR.imp k λx y H Q ⟨i,j,h1,h2,_,h3⟩=>⟨i,j,h1,h2,h3⟩) λda db d h=>by
   obtain⟨i,j,h1,h2,h3⟩:=e da db d h;exact⟨i,j,h1,h2,trivial,h3⟩
 cases op<;>simp only[o2,bL]at h<;>first|subst h|cases h
 ·-- Add
  refine OpR.imp (uZ.or (mT.or tL)) λx y H Q ⟨S,da,db,hs,ra,rb,m⟩=>?_
  cases da with
  |int i=>
   cases db with
   |int j=>exact .inl ⟨i,j,ra.int,rb.int,m _ _ (qa.refl _) (.int _) (λz=>nomatch z)⟩
   |_=>exact m.elim
  |tup xs=>
   cases db with
   |tup ys=>
    simp only[op2,true_and]at m;split at m
    ·rename_i e
     split at e<;>cases e
     rename_i hz
     obtain⟨a,vs,rfl,h1,r1⟩:=ra.tup;obtain⟨b,us,rfl,h2,r2⟩:=rb.tup;refine .inr (.inl ⟨a,b,vs,us,rfl,rfl,by rw[hK];exact h1,by rw[hK];exact h2,by rw[<-r1.length,<-r2.length];exact l8 hz,λe=>?_,λ_ e=>?_,λ_ _ p hp=>?_⟩)
     ·subst e;cases r1;exact m _ _ (qa.refl _) (rb.strong (by intro _ z;cases z)) (λz=>nomatch z)
     ·subst e;cases r2;rw[List.append_nil]at m;exact m _ _ (qa.refl _) (ra.strong (by intro _ z;cases z)) (λz=>nomatch z)
     ·exact m _ _ (zq hp) (fH hs hp (r1.append r2)) (λz=>nomatch z)
    ·exact m.elim
   |_=>exact m.elim
  |lst xs=>
   cases db with
   |lst ys=>
    simp only[op2,true_and]at m;split at m
    ·rename_i e
     split at e<;>cases e
     rename_i hz
     obtain⟨a,vs,rfl,h1,r1⟩:=ra.lst;obtain⟨b,us,rfl,h2,r2⟩:=rb.lst;refine .inr (.inr ⟨a,b,vs,us,rfl,rfl,by rw[hK];exact h1,by rw[hK];exact h2,by rw[<-r1.length,<-r2.length];exact l8 hz,λp hp=>?_⟩);exact m _ _ (zq hp) (e_ hs hp (r1.append r2)) (λ_=>gw (qa.refl _) hp (r1.append r2))
    ·exact m.elim
   |_=>exact m.elim
  |_=>exact m.elim
 ·exact two0 .sub sd λda db d h=>by obtain⟨i,j,rfl,rfl,h'⟩:=dO (by decide) (by decide) h;clear h;rename _=>h;cases h;exact⟨_,_,rfl,rfl,rfl⟩
 ·refine OpR.imp yu λx y H Q ⟨S,da,db,hs,ra,rb,m⟩=>?_
  cases e1:op2 .mul da db with
  |ok d=>
   rw[e1]at m;unfold op2 at e1;split at e1
   ·simp only[opI]at e1;split at e1
    ·rename_i i j hc
     cases e1;refine⟨i,j,ra.int,rb.int,?_,m _ _ (qa.refl _) (.int _) (λz=>nomatch z)⟩;rcases(by simpa using hc)with z|z
     ·exact .inl (jD z)
     ·exact .inr (jD z)
    ·cases e1
   ·rw[if_neg (λz=>nomatch z.1)]at e1;cases e1
   ·rw[if_neg (λz=>nomatch z.1)]at e1;cases e1
   ·cases e1
  |ex c=>rw[e1]at m;exact m.elim
  |no=>rw[e1]at m;exact m.elim
 ·exact two .mod w6 λda db d h=>by obtain⟨i,j,rfl,rfl,h'⟩:=dO (by decide) (by decide) h;clear h;rename _=>h;simp only[opI]at h;split at h<;>cases h;rename_i hc;exact⟨_,_,rfl,rfl,hc,rfl⟩
 ·exact two .shl oN λda db d h=>by obtain⟨i,j,rfl,rfl,h'⟩:=dO (by decide) (by decide) h;clear h;rename _=>h;simp only[opI]at h;split at h<;>cases h;rename_i hc;exact⟨_,_,rfl,rfl,hc,rfl⟩
 ·exact two .shr nU λda db d h=>by obtain⟨i,j,rfl,rfl,h'⟩:=dO (by decide) (by decide) h;clear h;rename _=>h;simp only[opI]at h;split at h<;>cases h;rename_i hc;exact⟨_,_,rfl,rfl,hc,rfl⟩
 ·exact two0 .bor uu λda db d h=>by obtain⟨i,j,rfl,rfl,h'⟩:=dO (by decide) (by decide) h;clear h;rename _=>h;cases h;exact⟨_,_,rfl,rfl,rfl⟩
 ·exact two0 .band wL λda db d h=>by obtain⟨i,j,rfl,rfl,h'⟩:=dO (by decide) (by decide) h;clear h;rename _=>h;cases h;exact⟨_,_,rfl,rfl,rfl⟩
 ·exact two .fdiv yi λda db d h=>by obtain⟨i,j,rfl,rfl,h'⟩:=dO (by decide) (by decide) h;clear h;rename _=>h;simp only[opI]at h;split at h<;>cases h;rename_i hc;exact⟨_,_,rfl,rfl,hc,rfl⟩
theorem gk(hK:X.K=g.K){pins:List (Addr×Obj)}{σ:L2.St}{H:Hp}{s:af}(I:Inv X pins σ H s){d:D}{v:V}{u:ae}(r:Rep g H d v)(a:d.asks=true)(ru:RelV v u):∃as,Reads s.heap u d.py as/\d.py.canLay0=true/\d.py.depth<=20:=by
 obtain⟨h1,h2⟩:=fG.mp a;have h:=r.data h1;rw[<-hK]at h;obtain⟨as,q⟩:=I.reads h ru;exact⟨as,q,jC h1,by rw[mO];exact h2⟩
theorem l_:∀(a b:List Int),dh a b=HT.lexLt a b
 | [],[]=>by simp[dh,HT.lexLt]
 | [],_::_=>by simp[dh,HT.lexLt]
 |_::_,[]=>by simp[dh,HT.lexLt]
 |a::r,b::t=>by
  simp only[dh,HT.lexLt];rw[l_ r t]
  try (by_cases h:a=b<;>simp[h])
noncomputable def rCm(g:Gc)(c:C2):R2:=λx y H Q=>∃S da db,zw g H S da x/\zw g H S db y /\
 match zh c da db with
 | .ok b=>Q (.bl b) H
 |_=>False
open Classical in
noncomputable def cH(h:Heap)(q:PyData)(u:ae):Bool:=if e:∃d as,Reads h u d as then PyData.eqv e.choose q else false
theorem kZ{h:Heap}{q d:PyData}{u:ae}{as:List Addr}(r:Reads h u d as):cH h q u=PyData.eqv d q:=by
 have e:∃d as,Reads h u d as:=⟨d,as,r⟩
 unfold cH;rw[dif_pos e];obtain⟨bs,r'⟩:=e.choose_spec;rw[(PySem.Reads.unique r' d as r).1]
theorem any_eq(hK:X.K=g.K){pins:List (Addr×Obj)}{σ:L2.St}{H:Hp}{s:af}(I:Inv X pins σ H s){da:D}(ha:da.asks=true){ds:List D}:∀{vs:List V}{us:List ae},qU g H ds vs->Vals vs us->ds.all D.asks=true ->
  us.any (cH s.heap da.py)=inD da ds/\∀u∈us,∃d as,Reads s.heap u d as/\d.canLay0=true/\d.depth<=20:=by
 induction ds with
 |nil=>intro vs us h r _;cases h;cases r;exact⟨rfl,λu h=>nomatch h⟩
 |cons d ds ih=>
  intro vs us h q e;cases h with
  |cons h r=>cases q with
   |cons q t=>
    rw[List.all_cons,ax]at e;obtain⟨as,h1,h2,h3⟩:=gk hK I h e.1 q;obtain⟨i1,i2⟩:=ih r t e.2;refine⟨?_,λu hu=>?_⟩
    ·rw[List.any_cons,i1,kZ h1,iF _ _ (fG.mp e.1).1 (fG.mp ha).1]
     rfl
    ·rcases aL.mp hu with rfl|hu
     ·exact⟨_,as,h1,h2,h3⟩
     ·exact i2 u hu
theorem so{A:ar}{s:af}{u v:ae}{d:PyData}{as:List Addr}{q:PyData}{bs:List Addr}(hu:A.units+60<cLine)(r:Reads s.heap u d as)(r':Reads s.heap v q bs)(h1:d.canLay0=true)(h2:q.canLay0=true)(h3:d.depth<=20):SeqAt.EqAt A.in1 s u v (cH s.heap q u):=by
 rw[kZ r];refine SeqAt.eqAt_reads d q A.in1 s u v as bs r r' h1 h2 ?_;have:min d.depth q.depth<=d.depth:=Nat.min_le_left _ _;show A.units+1+_<_;lia
theorem lE(hK:X.K=g.K)(hu:X.A.units+64<cLine)(neg:Bool):OpR X (aF (if neg then .NotIn else .In)) (λx y H Q=>∃S da db ds,zw g H S da x/\zw g H S db y/\seq? db=some ds/\da.asks=true/\ds.all D.asks=true/\Q (.bl (if neg then !inD da ds else inD da ds)) H):=by
 intro pins s σ H x y v u Q I rx ry h;obtain⟨S,da,db,ds,ra,rb,es,aa,ad,q⟩:=h;obtain⟨as,h1,h2,h3⟩:=gk hK I ra.rep aa rx;obtain⟨a,vs,rfl,hsq,rr⟩:=rb.seq es;cases ry;have go:∀{its:List ae},Vals vs its->(∀w∈its.toArray,SeqAt.EqAt X.A.in1 s w v (cH s.heap da.py w))/\its.toArray.any (cH s.heap da.py)=inD da ds:=λ{its} rv=>by
  obtain⟨i1,i2⟩:=any_eq hK I aa (rr.mono zy) rv ad;refine⟨λw hw=>?_,by simpa using i1⟩;obtain⟨d,bs,r1,r2,r3⟩:=i2 w (by simpa using hw);exact so (Nat.lt_of_le_of_lt (Nat.add_le_add_left (by decide) _) hu) r1 h1 r2 h2 r3
 rcases hsq with hsq|hsq
 ·obtain⟨its,rv,pl,_⟩:=I.list (by rw[hK];exact hsq);obtain⟨g1,g2⟩:=go rv;cases neg with
  |false=>exact SeqAt.in_listAt (cH s.heap da.py) pl.isList g1 ⟨.bl _,H,I,rfl,by rw[g2];exact q⟩
  |true=>exact SeqAt.notIn_listAt (cH s.heap da.py) pl.isList g1 ⟨.bl _,H,I,rfl,by rw[g2];exact q⟩
 ·obtain⟨its,rv,pl,_⟩:=I.tuple (by rw[hK];exact hsq);obtain⟨g1,g2⟩:=go rv;cases neg with
  |false=>exact SeqAt.in_tupleAt (cH s.heap da.py) pl g1 ⟨.bl _,H,I,rfl,by rw[g2];exact q⟩
  |true=>exact SeqAt.notIn_tupleAt (cH s.heap da.py) pl g1 ⟨.bl _,H,I,rfl,by rw[g2];exact q⟩
theorem k5(hK:X.K=g.K)(hu:X.A.units+64<cLine)(neg:Bool):OpR X (aF (if neg then .NotEq else .Eq)) (λx y H Q=>∃S da db,zw g H S da x/\zw g H S db y/\da.asks=true/\db.asks=true/\Q (.bl (if neg then !da.eqv db else da.eqv db)) H):=by
 intro pins s σ H x y v u Q I rx ry h;obtain⟨S,da,db,ra,rb,aa,ab,q⟩:=h;obtain⟨as,h1,h2,h3⟩:=gk hK I ra.rep aa rx;obtain⟨bs,k1,k2,k3⟩:=gk hK I rb.rep ab ry;have e:=iF da db (fG.mp aa).1 (fG.mp ab).1;have room:X.A.units+min da.py.depth db.py.depth<cLine:=by
  have:min da.py.depth db.py.depth<=da.py.depth:=Nat.min_le_left _ _;lia
 cases neg with
 |false=>exact SeqAt.compareEq_reads h1 k1 h2 k2 room ⟨.bl _,H,I,by rw[e];rfl,q⟩
 |true=>exact SeqAt.compareNe_reads h1 k1 h2 k2 room ⟨.bl _,H,I,by rw[e];rfl,q⟩
theorem zw.non_iff{S:Sh}{H:Hp}{d:D}{v:V}(r:zw g H S d v):decide (v=.non)=fK d:=by
 cases r.rep<;>rfl
theorem cG{op:CmpOp}{c:C2}{r:R2}(h:OpR X (aF op) r)(k:∀S da db b x y H Q,zw g H S da x->zw g H S db y->zh c da db=.ok b->Q (.bl b) H->r x y H Q):OpR X (aF op) (rCm g c):=by
 refine OpR.imp h λx y H Q ⟨S,da,db,ra,rb,m⟩=>?_
 cases e:zh c da db with
 |ok b=>rw[e]at m;exact k S da db b x y H Q ra rb e m
 |ex c'=>rw[e]at m;exact m.elim
 |no=>rw[e]at m;exact m.elim
theorem nZ:OpR X (aF .Is) (λx y H Q=>∃a b,x=.bl a/\y=.bl b/\Q (.bl (a==b)) H):=by
 intro pins s σ H x y v u Q I rx ry h;obtain⟨a,b,rfl,rfl,q⟩:=h;cases rx;cases ry;exact is_bool (gr I q rfl)
theorem uD:OpR X (aF .IsNot) (λx y H Q=>∃a b,x=.bl a/\y=.bl b/\Q (.bl (!(a==b))) H):=by
 intro pins s σ H x y v u Q I rx ry h;obtain⟨a,b,rfl,rfl,q⟩:=h;cases rx;cases ry;exact isnot_bool (gr I q rfl)
theorem k7{n:Bool}{a b:EV.D}{c:Bool}(h:isB n a b=.ok c):∃x y,a=.bl x/\b=.bl y/\c=(n != (x==y)):=by
 unfold isB at h;split at h
 ·cases h;exact⟨_,_,rfl,rfl,rfl⟩
 ·cases h
theorem d_{g:Gc}{H:Hp}{S:Sh}{xs:List D}{x:V}{k:List Int}(h:zw g H S (.tup xs) x)(e:ints? xs=some k):∃b,x=.ref b/\SqT g.K H b (k.map V.int):=by
 obtain⟨b,vs,rfl,h1,r1⟩:=h.tup;obtain⟨rfl,rfl⟩:=r1.ints e;exact⟨b,rfl,h1⟩
noncomputable def l4(d:D)(ks:List (List Int))(ds:List D):Prop:=d=.dct ks ds\/(d=.dic []/\ks=[]/\ds=[])
theorem gN{g:Gc}{H:Hp}{S:Sh}{d:D}{ks:List (List Int)}{ds:List D}{y:V}(h:zw g H S d y)(e:l4 d ks ds):∃a vs xs,y=.ref a/\WD.TD H a xs/\WD.zu g.K H ks vs xs/\qU g (hid H S) ds vs:=by
 rcases e with rfl|⟨rfl,rfl,rfl⟩
 ·obtain⟨a,vs,xs,ep,h1,h2,h3,h4⟩:=h.dct;exact⟨a,vs,xs,h1,.inl ⟨ep,h2⟩,h3.up zy,h4⟩
 ·obtain⟨a,h1,h2⟩:=h.dic;exact⟨a,[],[],h1,.inr ⟨rfl,h2⟩,.nil,.nil⟩
theorem lI{da:D}{ks:List (List Int)}{b:Bool}(h:eu da ks=.ok b):∃xs k,da=.tup xs/\ints? xs=some k/\b=ks.any λx=>decide (x=k):=by
 unfold eu at h;split at h
 ·split at h
  ·rename_i e;cases h;exact⟨_,_,rfl,e,rfl⟩
  ·cases h
 ·cases h
theorem kF{da db:D}{b:Bool}(h:c_ da db=.ok b):(∃kvs i,db=.dic kvs/\da=.int i/\b=kvs.any λp=>decide (p.1=i))\/∃ks ds xs k,l4 db ks ds/\da=.tup xs/\ints? xs=some k/\b=ks.any λx=>decide (x=k):=by
 unfold c_ at h;split at h
 ·split at h
  ·cases h;exact .inl ⟨_,_,rfl,rfl,rfl⟩
  ·split at h
   ·rename_i q
    obtain⟨xs,k,e1,e2,e3⟩:=lI h;exact .inr ⟨[],[],xs,k,.inr ⟨by rw[List.isEmpty_iff.mp q],rfl,rfl⟩,e1,e2,e3⟩
   ·cases h
 ·obtain⟨xs,k,e1,e2,e3⟩:=lI h;exact .inr ⟨_,_,xs,k,.inl rfl,e1,e2,e3⟩
 ·cases h
theorem cq(hK:X.K=g.K)(hu:X.A.units+64<cLine)(op:CmpOp):OpR X (aF op) (rCm g (c2 op)):=by
 cases op
 ·exact cG (k5 hK hu false) λS da db b x y H Q ra rb e q=>by
   simp only[c2,zh]at e;split at e<;>cases e
   rename_i a
   simp only[ax]at a;exact⟨S,da,db,ra,rb,a.1,a.2,q⟩
 ·exact cG (k5 hK hu true) λS da db b x y H Q ra rb e q=>by
   simp only[c2,zh]at e;split at e<;>cases e
   rename_i a
   simp only[ax]at a;exact⟨S,da,db,ra,rb,a.1,a.2,q⟩
 ·exact cG (yX.or (vE (by lia))) λS da db b x y H Q ra rb e q=>by
   simp only[c2]at e;cases da with
   |int i=>
    cases db with
    |int j=>cases e;exact .inl ⟨i,j,ra.int,rb.int,q⟩
    |_=>cases e
   |tup xs=>
    cases db with
    |tup ys=>
     simp only[zh]at e;split at e
     ·rename_i ns ms e1 e2
      cases e;obtain⟨a,vs,rfl,h1,r1⟩:=ra.tup;obtain⟨b,us,rfl,h2,r2⟩:=rb.tup;obtain⟨rfl,_⟩:=r1.ints e1;obtain⟨rfl,_⟩:=r2.ints e2;exact .inr ⟨a,b,ns,ms,rfl,rfl,by rw[hK];exact h1,by rw[hK];exact h2,l_ ns ms▸q⟩
     ·cases e
    |_=>cases e
   |_=>cases db<;>cases e
 ·exact cG tZ λS da db b x y H Q ra rb e q=>by
   cases da with
   |int i=>
    cases db with
    |int j=>cases e;exact⟨_,_,ra.int,rb.int,q⟩
    |_=>cases e
   |_=>cases e
 ·exact cG rO λS da db b x y H Q ra rb e q=>by
   cases da with
   |int i=>
    cases db with
    |int j=>cases e;exact⟨_,_,ra.int,rb.int,q⟩
    |_=>cases e
   |_=>cases e
 ·exact cG sF λS da db b x y H Q ra rb e q=>by
   cases da with
   |int i=>
    cases db with
    |int j=>cases e;exact⟨_,_,ra.int,rb.int,q⟩
    |_=>cases e
   |_=>cases e
 ·exact cG (nW.or nZ) λS da db b x y H Q ra rb e q=>by
   simp only[c2,zh]at e;split at e
   ·rename_i hd
    cases e;have hd:db=.non:=by cases db<;>first|rfl|cases hd
    subst hd;cases rb.rep;exact .inl ⟨rfl,by rw[ra.non_iff];exact q⟩
   ·obtain⟨a,c,rfl,rfl,rfl⟩:=k7 e;cases ra.rep;cases rb.rep;exact .inr ⟨a,c,rfl,rfl,by cases a<;>cases c<;>exact q⟩
 ·exact cG (sZ.or uD) λS da db b x y H Q ra rb e q=>by
   simp only[c2,zh]at e;split at e
   ·rename_i hd
    cases e;have hd:db=.non:=by cases db<;>first|rfl|cases hd
    subst hd;cases rb.rep;exact .inl ⟨rfl,by rw[ra.non_iff];exact q⟩
   ·obtain⟨a,c,rfl,rfl,rfl⟩:=k7 e;cases ra.rep;cases rb.rep;exact .inr ⟨a,c,rfl,rfl,by cases a<;>cases c<;>exact q⟩
 ·exact cG (((lE hK hu false).or (su hu)).or (WD.vP hu)) λS da db b x y H Q ra rb e q=>by
   simp only[c2,zh]at e;split at e
   ·rename_i xs es
    split at e<;>cases e
    rename_i a
    simp only[ax]at a;exact .inl (.inl ⟨S,da,db,xs,ra,rb,es,a.1,a.2,q⟩)
   ·rcases kF e with ⟨kvs,i,rfl,rfl,rfl⟩|⟨ks,ds,xs,k,t,rfl,ek,rfl⟩
    ·obtain⟨l,rfl,hl⟩:=rb.dic;exact .inl (.inr ⟨l,kvs,i,rfl,ra.int,hl,q⟩)
    ·obtain⟨l,vs,ys,rfl,t1,t2,_⟩:=gN rb t;obtain⟨b,rfl,hb⟩:=d_ ra ek;exact .inr ⟨l,b,ys,ks,vs,k,rfl,rfl,t1,hK▸t2,hK▸hb,q⟩
 ·exact cG (((lE hK hu true).or (vM hu)).or (WD.Aa hu)) λS da db b x y H Q ra rb e q=>by
   simp only[c2,zh]at e;split at e
   ·rename_i xs es
    split at e<;>cases e
    rename_i a
    simp only[ax]at a;exact .inl (.inl ⟨S,da,db,xs,ra,rb,es,a.1,a.2,q⟩)
   ·cases ed:c_ da db with
    |ok r=>
     rw[ed]at e;cases e;rcases kF ed with ⟨kvs,i,rfl,rfl,rfl⟩|⟨ks,ds,xs,k,t,rfl,ek,rfl⟩
     ·obtain⟨l,rfl,hl⟩:=rb.dic;exact .inl (.inr ⟨l,kvs,i,rfl,ra.int,hl,q⟩)
     ·obtain⟨l,vs,ys,rfl,t1,t2,_⟩:=gN rb t;obtain⟨b,rfl,hb⟩:=d_ ra ek;exact .inr ⟨l,b,ys,ks,vs,k,rfl,rfl,t1,hK▸t2,hK▸hb,q⟩
    |ex z=>rw[ed]at e;cases e
    |no=>rw[ed]at e;cases e
end
abbrev cZ(g:Gc)(H:Hp)(S:Sh):List D->List V->Prop:=Paired (zw g H S)
section
variable{X:Cx}{g:Gc}
theorem j8{H:Hp}{ds:List D}{vs:List V}{i:Int}{d:D}(r:qU g H ds vs)(e:atI ds i=some d):∃v,atI vs i=some v/\Rep g H d v:=by
 unfold atI at e ⊢;rw[<-r.length];cases q:ixN ds.length i with
 |none=>rw[q]at e;cases e
 |some j=>rw[q]at e;exact r.get e
noncomputable def uN(g:Gc):R2:=λx y H Q=>∃S da db,zw g H S da x/\zw g H S db y /\
 match ixD da db with
 | .ok d=>∀v,Rep g (hid H S) d v->Q v H
 |_=>False
theorem fQ{g:Gc}{H:Hp}{k:List Int}{d:D}:∀{ks:List (List Int)}{ds:List D}{vs:List V},ks.length=vs.length->qU g H ds vs->WD.atT ks ds k=some d->∃v,WD.atT ks vs k=some v/\Rep g H d v
 | [],_,_,_,_,e=>by cases e
 |_::_,_,[],h,_,_=>by cases h
 |k'::ks,_,v::vs,h,.cons r rs,e=>by
  rw[WD.atT]at e ⊢;by_cases q:k'=k
  ·rw[if_pos q]at e ⊢;cases e;exact⟨v,rfl,r⟩
  ·rw[if_neg q]at e ⊢;exact fQ (by simpa using h) rs e
theorem i'{g:Gc}{H:Hp}{k:List Int}:∀{ks:List (List Int)}{ds:List D}{vs:List V},ks.length=vs.length->qU g H ds vs->WD.atT ks ds k=none->WD.atT ks vs k=none
 | [],_,_,_,_,_=>by rw[WD.atT];intros;simp_all
 |_::_,_,[],h,_,_=>by cases h
 |k'::ks,_,v::vs,h,.cons r rs,e=>by
  rw[WD.atT]at e ⊢;by_cases q:k'=k
  ·rw[if_pos q]at e;cases e
  ·rw[if_neg q]at e ⊢;exact i' (by simpa using h) rs e
theorem rl(hK:X.K=g.K)(hu:X.A.units+64<cLine):IxR X (uN g):=by
 have k:=((tK (X:=X)).or wq).or ((rA hu).or (WD.vv hu));intro value slice pins s σ H x y v u Q I rx ry h hs;refine k value slice pins s σ H x y v u Q I rx ry ?_ hs;obtain⟨S,da,db,ra,rb,m⟩:=h;cases da with
 |tup xs=>
  cases db with
  |int i=>
   simp only[ixD]at m;cases e:atI xs i with
   |none=>rw[e]at m;exact m.elim
   |some d=>
    rw[e]at m;obtain⟨a,vs,rfl,h1,r1⟩:=ra.tup;obtain⟨w,h2,h3⟩:=j8 r1 e;exact .inl (.inr ⟨a,vs,i,w,rfl,rb.int,by rw[hK];exact h1,h2,m w h3⟩)
  |_=>exact m.elim
 |lst xs=>
  cases db with
  |int i=>
   simp only[ixD]at m;cases e:atI xs i with
   |none=>rw[e]at m;exact m.elim
   |some d=>
    rw[e]at m;obtain⟨a,vs,rfl,h1,r1⟩:=ra.lst;obtain⟨w,h2,h3⟩:=j8 r1 e;exact .inl (.inl ⟨a,vs,i,w,rfl,rb.int,by rw[hK];exact h1,h2,m w h3⟩)
  |_=>exact m.elim
 |dic kvs=>
  cases db with
  |int i=>
   simp only[ixD]at m;cases e:atK kvs i with
   |none=>rw[e]at m;exact m.elim
   |some v=>
    rw[e]at m;obtain⟨a,rfl,h1⟩:=ra.dic;exact .inr (.inl ⟨a,kvs,i,v,rfl,rb.int,h1,e,m _ (.int v)⟩)
  |_=>exact m.elim
 |dct ks ds=>
  cases db with
  |tup xs=>
   simp only[ixD]at m;cases ek:ints? xs with
   |none=>rw[ek]at m;exact m.elim
   |some k=>
    rw[ek]at m;simp only at m;cases ea:WD.atT ks ds k with
    |none=>rw[ea]at m;exact m.elim
    |some d=>
     rw[ea]at m;obtain⟨a,vs,ys,rfl,t1,t2,t3⟩:=gN ra (.inl rfl);obtain⟨b,rfl,hb⟩:=d_ rb ek;obtain⟨v,hv,rv⟩:=fQ t2.len.1 t3 ea;exact .inr (.inr ⟨a,b,ys,ks,vs,k,v,rfl,rfl,t1,by rw[hK];exact t2,by rw[hK];exact hb,hv,m _ rv⟩)
  |_=>exact m.elim
 |_=>exact m.elim
noncomputable def y6(g:Gc):V->Option Int->Option Int->Hp->VK->Prop:=λx lo hi H Q=>∃S da,Sub S H/\zw g H S da x /\
 match slD da lo hi with
 | .ok d=>∀v H',qa H H'->Rep g (hid H' S) d v->Q v H'
 |_=>False
theorem j6{H:Hp}{ds:List D}{vs:List V}(r:qU g H ds vs)(lo hi:Option Int):qU g H (cutD ds lo hi) (dm vs lo hi):=by
 unfold cutD dm;rw[r.length];exact(r.drop _).take _
theorem yJ(hK:X.K=g.K):SlR X (y6 g):=by
 intro pins s σ H x v vl vu lo hi sl Q I rx hs pl pu h;obtain⟨S,da,hS,ra,m⟩:=h;cases da with
 |lst xs=>
  obtain⟨a,vs,rfl,h1,r1⟩:=ra.lst;exact wd pins s σ H _ v vl vu lo hi sl Q I rx hs pl pu ⟨a,vs,rfl,by rw[hK];exact h1,λp hp=>m _ _ (zq hp) (e_ hS hp (j6 r1 lo hi))⟩
 |tup xs=>
  obtain⟨a,vs,rfl,h1,r1⟩:=ra.tup;simp only[slD]at m;by_cases hw:HT.sIx xs.length 0 lo=0/\HT.sIx xs.length xs.length hi=xs.length
  ·have e:cutD xs lo hi=xs:=by unfold cutD;rw[hw.1,hw.2];simp
   rw[e]at m;rw[r1.length]at hw;exact xN pins s σ H _ v vl vu lo hi sl Q I rx hs pl pu ⟨a,vs,rfl,by rw[hK];exact h1,hw.1,hw.2,m _ _ (qa.refl _) (ra.strong (by intro _ z;cases z))⟩
  ·rw[r1.length]at hw;exact nB pins s σ H _ v vl vu lo hi sl Q I rx hs pl pu ⟨a,vs,rfl,by rw[hK];exact h1,hw,λp hp=>m _ _ (zq hp) (fH hS hp (j6 r1 lo hi))⟩
 |_=>exact m.elim
noncomputable def b1V:B1->ae
 | .len=>.builtin "len"
 | .tuple=>.type "tuple"
 | .list=>.type "list"
 | .sorted=>.builtin "sorted"
 | .all=>.builtin "all"
 | .any=>.builtin "any"
 | .sum=>.builtin "sum"
 | .min=>.builtin "min"
 | .max=>.builtin "max"
 | .abs=>.builtin "abs"
 | .int=>.type "int"
 | .bool=>.type "bool"
noncomputable def rB1(g:Gc)(b:B1):List V->Hp->VK->Prop:=λvs H Q=>∃S ds,Sub S H/\cZ g H S ds vs /\
 match b1 b ds with
 | .ok d=>∀v H',qa H H'->Rep g (hid H' S) d v->(b=.list\/b=.sorted->Fr g H S H' d v)->Q v H'
 |_=>False
theorem zm.imp{f:ae}{r r':List V->Hp->VK->Prop}(h:zm X f r)(i:∀xs H Q,r' xs H Q->r xs H Q):zm X f r':=
 λpins s σ H xs us Q I rv q=>h pins s σ H xs us Q I rv (i _ _ _ q)
theorem dy{f:ae}{b:B1}{r:List V->Hp->VK->Prop}(h:zm X f r)
  (k:∀S ds d vs H Q,Sub S H->cZ g H S ds vs->b1 b ds=.ok d->(∀v H',qa H H'->Rep g (hid H' S) d v->(b=.list\/b=.sorted->Fr g H S H' d v)->Q v H')->r vs H Q):zm X f (rB1 g b):=by
 refine zm.imp h λvs H Q ⟨S,ds,hs,rs,m⟩=>?_
 cases e:b1 b ds with
 |ok d=>rw[e]at m;exact k S ds d vs H Q hs rs e m
 |ex c=>rw[e]at m;exact m.elim
 |no=>rw[e]at m;exact m.elim
theorem iX{f:ae}{b:B1}(h1:∀d,b11 b d=.no)(h2:∀d e,b12 b d e=.no):zm X f (rB1 g b):=λpins s σ H xs us Q I rv ⟨S,ds,hs,rs,m⟩=>by
 have e:b1 b ds=.no:=by
  unfold b1;split
  ·exact h1 _
  ·exact h2 _ _
  ·rfl
 rw[e]at m;exact m.elim
theorem fi{b:B1}(hb:∀x y,b12 b x y=.no){ds:List D}{d:D}(h:b1 b ds=.ok d):∃x,ds=[x]/\b11 b x=.ok d:=by
 match ds,h with
 | [x],h=>exact⟨x,rfl,h⟩
 | [x,y],h=>have h:b12 b x y=.ok d:=h;rw[hb]at h;cases h
 | [],h=>cases h
 |_::_::_::_,h=>cases h
theorem hV{x r:D}{k:List D->R D}(h:di x k=.ok r):∃xs,x=.lst xs/\k xs=.ok r:=by
 cases x with
 |lst xs=>exact⟨xs,rfl,h⟩
 |_=>cases h
theorem nr{x r:D}{f:Int->R D}{q:Bool->R D}(h:ibR x f q=.ok r):(∃i,x=.int i/\f i=.ok r)\/(∃b,x=.bl b/\q b=.ok r):=by
 cases x with
 |int i=>exact .inl ⟨i,rfl,h⟩
 |bl i=>exact .inr ⟨i,rfl,h⟩
 |_=>cases h
theorem lM{x y r:D}{k:Int->Int->R D}(h:iiR x y k=.ok r):∃i j,x=.int i/\y=.int j/\k i j=.ok r:=by
 cases x with
 |int i=>
  cases y with
  |int j=>exact⟨i,j,rfl,rfl,h⟩
  |_=>cases h
 |_=>cases h
theorem g6{α β:Type}{o:Option α}{k:α->R β}{r:β}(h:cN o k=.ok r):∃a,o=some a/\k a=.ok r:=by
 cases o with
 |some a=>exact⟨a,rfl,h⟩
 |none=>cases h
theorem jx{b:B1}{ds:List D}{d:D}{q:List D->R D}(h:b1 b ds=.ok d)(e:∀x,b1 b [x]=cN (seq? x) q)(n:ds.length≠1->b1 b ds=.no):∃x xs,ds=[x]/\seq? x=some xs/\q xs=.ok d:=by
 match ds with
 | []=>rw[n (by simp)]at h;cases h
 | [x]=>
  rw[e]at h;cases z:seq? x with
  |none=>rw[z]at h;cases h
  |some xs=>rw[z]at h;exact⟨x,xs,rfl,z,h⟩
 |x::y::r=>rw[n (by simp)]at h;cases h
theorem q9(hK:X.K=g.K):zm X (.builtin "len") (rB1 g .len):=dy sW λS ds d vs H Q hs rs h q=>by
 obtain⟨x,xs,rfl,e,h⟩:=jx (q:=λxs=>.ok (.int xs.length)) h (λ_=>rfl) (λn=>by match ds,n with | [],_=>rfl | [_,_],_=>rfl|_::_::_::_,_=>rfl);cases h;cases rs with
 |cons r rs=>
  cases rs;obtain⟨a,us,rfl,h1,r1⟩:=r.seq e;exact⟨a,us,rfl,by rw[hK];exact h1,by rw[<-r1.length];exact q _ _ (qa.refl _) (.int _) (by simp)⟩
theorem yT(hK:X.K=g.K):zm X (.type "tuple") (rB1 g .tuple):=dy r9 λS ds d vs H Q hs rs h q=>by
 obtain⟨x,xs,rfl,e,h⟩:=jx (q:=λxs=>.ok (.tup xs)) h (λ_=>rfl) (λn=>by match ds,n with | [],_=>rfl | [_,_],_=>rfl|_::_::_::_,_=>rfl);cases h;cases rs with
 |cons r rs=>
  cases rs;cases x with
  |lst ys=>
   cases e;obtain⟨a,us,rfl,h1,r1⟩:=r.lst;exact⟨a,us,rfl,.inl ⟨by rw[hK];exact h1,λp hp=>q _ _ (zq hp) (fH hs hp r1) (by simp)⟩⟩
  |tup ys=>
   cases e;have z:=r.strong (by intro _ z;cases z);obtain⟨a,us,rfl,h1,r1⟩:=r.tup;exact⟨a,us,rfl,.inr ⟨by rw[hK];exact h1,q _ _ (qa.refl _) z (by simp)⟩⟩
  |_=>cases e
theorem si(hK:X.K=g.K):zm X (.type "list") (rB1 g .list):=iX (λ_=>rfl) λ_ _=>rfl
theorem xY(hc:X.calm=true)(al:Bool):zm X (.builtin (if al then "all" else "any")) (λxs H Q=>∃(l:Addr) (bs:List Bool),xs=[.ref l]/\SqL X.K H l (bs.map V.bl)/\Q (.bl (if al then bs.all id else bs.any id)) H):=by
 intro pins s σ H xs us Q I r h;obtain⟨l,bs,rfl,hl,q⟩:=h;obtain⟨u,rfl,ru⟩:=r.one;cases ru;obtain⟨its,rv,pl,hz⟩:=I.list hl;have e:=uG (A:=X.A) rv;subst e;have hlt:l<s.heap.objs.size:=by obtain⟨_,e,_⟩:=pl.isList;exact aE e
 have tr:TruthOf X.prog X.w X.A.in1 (λi v=>(bs.map ae.bool).toArray[i]? = some v) (λi=>(bs[i]?).getD al):=λi v s' Q' E' hP hQ=>by
  have hv:(bs.map ae.bool)[i]? = some v:=by simpa using hP
  rw[List.getElem?_map]at hv;cases e:bs[i]? with
  |none=>rw[e]at hv;cases hv
  |some b=>
   rw[e]at hv;cases hv;simp only[e,Option.getD_some]at hQ;exact a8 hQ
 have wk:=Walks.list (prog:=X.prog) (w:=X.w) (A:=X.A.in1) (I.ok.hd hc) s.heap.objs.size l (aS hlt) (bs.map ae.bool).toArray;cases al with
 |true=>
  refine call_all_walk (wpAny_pyIter_list pl.isList ?_);refine⟨s.heap.objs.size,[s.heap.objs.size,l],[s.heap.objs.size],_,_,_,_,rfl,wk,⟨⟨_,Heap.get?_push_size _ rfl,rfl,rfl⟩,pl.isList.push _⟩,tr,λh' tk hk=>?_⟩;have e:((List.range (bs.map ae.bool).toArray.size).all λi=>(bs[i]?).getD true)=bs.all id:=by
   rw[aJ,a6];exact LSm.range_all bs
  rw[e];exact⟨.bl _,H,I.kept (LSm.kept_iter hk),rfl,q⟩
 |false=>
  refine call_any_walk (wpAny_pyIter_list pl.isList ?_);refine⟨s.heap.objs.size,[s.heap.objs.size,l],[s.heap.objs.size],_,_,_,_,rfl,wk,⟨⟨_,Heap.get?_push_size _ rfl,rfl,rfl⟩,pl.isList.push _⟩,tr,λh' tk hk=>?_⟩;have e:((List.range (bs.map ae.bool).toArray.size).any λi=>(bs[i]?).getD false)=bs.any id:=by
   rw[aJ,a6,Bool.eq_iff_iff];simp only[List.any_eq_true,List.mem_range,id];constructor
   ·rintro⟨i,hi,e⟩;rw[List.getElem?_eq_getElem hi]at e;exact⟨_,List.getElem_mem hi,e⟩
   ·rintro⟨b,hb,e⟩;obtain⟨i,hi,rfl⟩:=List.getElem_of_mem hb;exact⟨i,hi,by rw[List.getElem?_eq_getElem hi];exact e⟩
  rw[e];exact⟨.bl _,H,I.kept (LSm.kept_iter hk),rfl,q⟩
theorem lX(hK:X.K=g.K)(hc:X.calm=true)(al:Bool):zm X (.builtin (if al then "all" else "any")) (rB1 g (if al then .all else .any)):=dy (xY hc al) λS ds d vs H Q hs rs h q=>by
 obtain⟨xs,bs,rfl,e,rfl⟩:∃xs bs,ds=[.lst xs]/\bools? xs=some bs/\d=.bl (if al then bs.all id else bs.any id):=by
  cases al
  ·obtain⟨x,rfl,h'⟩:=fi (λ_ _=>rfl) h;obtain⟨xs,rfl,h'⟩:=hV h';obtain⟨bs,e,h'⟩:=g6 h';cases h';exact⟨xs,bs,rfl,e,rfl⟩
  ·obtain⟨x,rfl,h'⟩:=fi (λ_ _=>rfl) h;obtain⟨xs,rfl,h'⟩:=hV h';obtain⟨bs,e,h'⟩:=g6 h';cases h';exact⟨xs,bs,rfl,e,rfl⟩
 cases rs with
 |cons r rs=>
  cases rs;obtain⟨a,us,rfl,h1,r1⟩:=r.lst;have e2:=r1.bools e;subst e2;exact⟨a,bs,rfl,by rw[hK];exact h1,q _ _ (qa.refl _) (.bl _) (by cases al<;>simp)⟩
end
end EV
namespace TS
open PySem PyProof.Rows
structure Cmp(prog:aq)(w:aj)(A:ar)(s:af)(κ:SortKind)(D:aB->Prop)(LT:aB->aB->Bool):Prop where
 lt:∀x y,D x->D y->∀Q:Bool->af->Prop,Q (LT x y) s->ag (ai prog w) A (keyLt' κ x.1 y.1) Q (λ_ _=>False) s
 asym:∀x y,LT x y=true->LT y x=false
 neg:∀x y z,LT y x=false->LT z y=false->LT z x=false
section
variable{prog:aq}{w:aj}{A:ar}{E:ae->af->Prop}{s:af}{κ:SortKind}{D:aB->Prop}{LT:aB->aB->Bool}
end
section
variable{LT:aB->aB->Bool}
abbrev df:Keyed:=(ae.none,ae.none)
noncomputable def at'(a:Array aB)(i:Nat):Keyed:=a.getD i df
variable{a b out:Array aB}{ia ib:Nat}
end
section
variable{prog:aq}{w:aj}{A:ar}{E:ae->af->Prop}{s:af}{κ:SortKind}{D:aB->Prop}{LT:aB->aB->Bool}
end
section
variable{LT:aB->aB->Bool}
variable{a b out:Array aB}{na nb:Nat}
end
section
variable{prog:aq}{w:aj}{A:ar}{E:ae->af->Prop}{s:af}{κ:SortKind}{D:aB->Prop}{LT:aB->aB->Bool}
end
structure SB(κ:SortKind)(p:Array (Nat×Nat×Nat))(a₁:Array aB)(lo:Nat)(st:SortSt):Prop where
 kd:kindOf st=κ
 fl:failedOf st=none
 pn:pendingOf st=p
 pm:(arrOf st).Perm a₁
 lw:∀i,i<lo->at' (arrOf st) i=at' a₁ i
noncomputable def Kr(R:aB->Int)(xs:Array aB)(i:Nat):Int:=R (at' xs i)
noncomputable def Seg(R:aB->Int)(xs:Array aB)(lo n:Nat):Prop:=∀i j,i<=j->j<n->Kr R xs (lo+i)<=Kr R xs (lo+j)
noncomputable def Dsc(R:aB->Int)(xs:Array aB)(lo n:Nat):Prop:=∀i j,i<=j->j<n->Kr R xs (lo+j)<=Kr R xs (lo+i)
section
variable{prog:aq}{w:aj}{A:ar}{E:ae->af->Prop}{s:af}{κ:SortKind}{D:aB->Prop}{LT:aB->aB->Bool}{R:aB->Int}{p:Array (Nat×Nat×Nat)}{a₁:Array aB}{lo:Nat}
theorem SB.size{st:SortSt}(h:SB κ p a₁ lo st):(arrOf st).size=a₁.size:=h.pm.size_eq
end
section
variable{prog:aq}{w:aj}{A:ar}{E:ae->af->Prop}{s:af}{κ:SortKind}{D:aB->Prop}{LT:aB->aB->Bool}{R:aB->Int}{p:Array (Nat×Nat×Nat)}{a₁:Array aB}{lo:Nat}{xs:Array aB}
theorem Seg.one:Seg R xs lo 1:=λi j a b=>by rw[show i=j by lia];exact Int.le_refl _
theorem Dsc.one:Dsc R xs lo 1:=λi j a b=>by rw[show i=j by lia];exact Int.le_refl _
noncomputable def Flat(R:aB->Int)(xs:Array aB)(lo m neq:Nat):Prop:=∀i,lo+m-(neq+1)<=i->i<lo+m->Kr R xs i=Kr R xs (lo+m-1)
theorem Flat.zero{m:Nat}:Flat R xs lo m 0:=λi a b=>by rw[show i=lo+m-1 by lia]
end
section
variable{prog:aq}{w:aj}{A:ar}{E:ae->af->Prop}{s:af}{κ:SortKind}{D:aB->Prop}{LT:aB->aB->Bool}{R:aB->Int}{a₁:Array aB}
end
section
variable{prog:aq}{w:aj}{A:ar}{E:ae->af->Prop}{s:af}
end
end TS
namespace TS
open PySem PySem.W PyProof.Rows
section
variable{M:Model}{A:ar}{E:ae->af->Prop}{s:af}
end
section
variable{M:Model}{A:ar}{E:ae->af->Prop}{s:af}
end
section
variable{prog:aq}{w:aj}{A:ar}{E:ae->af->Prop}{s:af}
end
end TS
namespace L2
open PySem PySem.Spec PyProof.Rows TS
end L2
namespace L2
open PySem PySem.Spec PyProof.Rows
section
variable{X:Cx}
end
theorem tj{its:List ae}{ns:List Int}(hi:IntsAre its ns):∃ps:Array (Int×Tok),its.toArray=intItems ps/\ns=ps.toList.map Prod.fst:=by
 rcases hi.allInts.items with ⟨ps,hx⟩
 refine⟨ps,hx,?_⟩;have z:numsOf its.toArray.toList=ns:=hi.numsOf;rw[hx,nums_intItems]at z;exact z.symm
section
variable{X:Cx}
theorem s9(hc:X.calm=true):zm X (.builtin "sum") (λxs H Q=>∃(l:Addr) (ns:List Int),xs=[.ref l]/\SqL X.K H l (ns.map V.int)/\Q (.int ns.sum) H):=by
 intro pins s σ H xs us Q I r h;obtain⟨l,ns,rfl,hl,q⟩:=h;obtain⟨u,rfl,ru⟩:=r.one;cases ru;obtain⟨its,rv,pl,hz⟩:=I.list hl;obtain⟨ps,hx,e1⟩:=tj (intsAre_of rv);refine sum_intListG (I.ok.hd hc) (hx▸pl.isList) λh' tk t' hk=>?_
 have e2:preSum (numAt ps) ps.size=ns.sum:=by
  rw[preSum_eq,e1];exact congrArg List.sum (List.take_of_length_le (by simp))
 rw[e2];exact⟨.int _,H,I.kept hk,⟨_,rfl⟩,q⟩
end
end L2
namespace EV
open PySem PySem.Spec PySem.P PyProof.Rows L2
section
variable{X:Cx}{g:Gc}
theorem yo(hK:X.K=g.K)(hu:X.A.units+64<cLine)(hc:X.calm=true):zm X (.builtin "sorted") (rB1 g .sorted):=dy tX λS ds d vs H Q hs rs h q=>by
 obtain⟨x,rfl,h'⟩:=fi (λ_ _=>rfl) h;cases h'
theorem kq(hK:X.K=g.K)(hc:X.calm=true)(mx:Bool):zm X (.builtin (if mx then "max" else "min")) (rB1 g (if mx then .max else .min)):=by
 have two:∀{S:Sh}{H:Hp}{x y:D}{vs:List V}{i j:Int},x=.int i->y=.int j->cZ g H S [x,y] vs->vs=[.int i,.int j]:=by
  intro S H x y vs i j hx hy rs;subst hx hy;cases rs with
  |cons r1 rs=>
   cases rs with
   |cons r2 rs=>cases rs;rw[r1.int,r2.int]
 have inv:∀{b:B1}{ds:List D}{d:D},b1 b ds=.ok d->(∃x,ds=[x]/\b11 b x=.ok d)\/∃x y,ds=[x,y]/\b12 b x y=.ok d:=by
  intro b ds d h
  match ds,h with
  | [x],h=>exact .inl ⟨x,rfl,h⟩
  | [x,y],h=>exact .inr ⟨x,y,rfl,h⟩
  | [],h=>cases h
  |_::_::_::_,h=>cases h
 cases mx
 ·exact dy (oQ hc) λS ds d vs H Q hs rs h q=>by
   rcases inv h with ⟨x,rfl,h'⟩|⟨x,y,rfl,h'⟩
   ·cases h'
   ·obtain⟨i,j,hx,hy,h'⟩:=lM h';cases h';exact⟨i,j,two hx hy rs,q _ _ (qa.refl _) (.int _) (by simp)⟩
 ·exact dy (rT hc) λS ds d vs H Q hs rs h q=>by
   rcases inv h with ⟨x,rfl,h'⟩|⟨x,y,rfl,h'⟩
   ·cases h'
   ·obtain⟨i,j,hx,hy,h'⟩:=lM h';cases h';exact⟨i,j,two hx hy rs,q _ _ (qa.refl _) (.int _) (by simp)⟩
theorem yC{S:Sh}{H:Hp}{vs:List V}{i:Int}(rs:cZ g H S [.int i] vs):vs=[.int i]:=by
 cases rs with
 |cons r1 rs=>cases rs;rw[r1.int]
theorem yP{S:Sh}{H:Hp}{vs:List V}{i:Bool}(rs:cZ g H S [.bl i] vs):vs=[.bl i]:=by
 cases rs with
 |cons r1 rs=>cases rs;rw[r1.bl]
theorem p5:zm X (.builtin "abs") (rB1 g .abs):=iX (λ_=>rfl) λ_ _=>rfl
theorem uA:zm X (.type "int") (rB1 g .int):=dy pR λS ds d vs H Q hs rs h q=>by
 obtain⟨x,rfl,h'⟩:=fi (λ_ _=>rfl) h;rcases nr h' with ⟨i,rfl,h'⟩|⟨i,rfl,h'⟩
 ·cases h';exact .inl ⟨i,yC rs,q _ _ (qa.refl _) (.int _) (by simp)⟩
 ·cases h';exact .inr ⟨i,yP rs,q _ _ (qa.refl _) (.int _) (by simp)⟩
theorem xX:zm X (.type "bool") (rB1 g .bool):=iX (λ_=>rfl) λ_ _=>rfl
theorem mU(hK:X.K=g.K)(hc:X.calm=true):zm X (.builtin "sum") (rB1 g .sum):=dy (s9 hc) λS ds d vs H Q hs rs h q=>by
 obtain⟨x,rfl,h'⟩:=fi (λ_ _=>rfl) h;obtain⟨xs,rfl,h'⟩:=hV h';obtain⟨ns,e,h'⟩:=g6 h';cases h';cases rs with
 |cons r rs=>
  cases rs;obtain⟨a,us,rfl,h1,r1⟩:=r.lst;obtain⟨rfl,rfl⟩:=r1.ints e;exact⟨a,ns,rfl,by rw[hK];exact h1,q _ _ (qa.refl _) (.int _) (by simp)⟩
theorem kD(hK:X.K=g.K)(hu:X.A.units+64<cLine):∀b,(X.calm=true\/b=.len\/b=.abs\/b=.tuple\/b=.list\/b=.int\/b=.bool)->zm X (b1V b) (rB1 g b)
 | .len,_=>q9 hK
 | .tuple,_=>yT hK
 | .list,_=>si hK
 | .sorted,h=>yo hK hu (by simpa using h)
 | .all,h=>lX hK (by simpa using h) true
 | .any,h=>lX hK (by simpa using h) false
 | .sum,h=>mU hK (by simpa using h)
 | .min,h=>kq hK (by simpa using h) false
 | .max,h=>kq hK (by simpa using h) true
 | .abs,_=>p5
 | .int,_=>uA
 | .bool,_=>xX
theorem md{H:Hp}{ds:List D}{vs:List V}(r:qU g H ds vs):ds.isEmpty=vs.isEmpty:=by cases r<;>rfl
theorem p9(hK:X.K=g.K){S:Sh}{H:Hp}{d:D}{v:V}{b:Bool}(r:zw g H S d v)(e:truth d=.ok b):iM X.K v H b:=by
 cases d with
 |non=>cases r.rep;cases e;exact rfl
 |bl c=>cases r.rep;cases e;exact rfl
 |int i=>cases r.rep;cases e;exact rfl
 |tup xs=>
  cases e;obtain⟨a,vs,rfl,h1,r1⟩:=r.tup;exact .inr (.inl ⟨vs,by rw[hK];exact h1,by rw[md r1]⟩)
 |lst xs=>
  cases e;obtain⟨a,vs,rfl,h1,r1⟩:=r.lst;exact .inl ⟨vs,by rw[hK];exact h1,by rw[md r1]⟩
 |_=>cases e
theorem rf(hK:X.K=g.K):zm X (.builtin "isinstance") (λxs H Q=>∃S d v n t,xs=[v,.ty n]/\zw g H S d v/\tyD d=some t/\n∈["int","bool","str","list","tuple"]/\Q (.bl (dP t n)) H):=by
 intro pins s σ H xs us Q I r h;obtain⟨S,d,v,n,t,rfl,rd,ht,hn,q⟩:=h;obtain⟨u,cu,rfl,rx,rc⟩:=r.two;cases rc;have fin:∀tk,EP X pins σ Q (.bool (dP t n)) {s with toks:=tk}:=λtk=>⟨.bl _,H,I.tok tk,rfl,q⟩
 have kb:t∈["NoneType","bool","int","str","list","tuple","dict"]->bh X.K (.type t) (.type n)=some (dP t n):=λh=>rB h hn
 cases d with
 |non=>cases ht;cases rd.rep;exact eN I rx .non (kb (by simp)) fin
 |bl c=>cases ht;cases rd.rep;exact eN I rx (.bl c) (kb (by simp)) fin
 |int i=>cases ht;cases rd.rep;exact eN I rx (.int i) (kb (by simp)) fin
 |str i=>cases ht;cases rd.rep;exact eN I rx (.str i) (kb (by simp)) fin
 |tup xs=>
  cases ht;obtain⟨a,vs,rfl,h1,_⟩:=rd.tup;cases rx;obtain⟨its,_,⟨o,e1,e2,_⟩,_⟩:=I.tuple (by rw[hK];exact h1);exact a_ PySem.W.kitx_tuple I.kIn ⟨o,e1,e2⟩ (kb (by simp)) (λz=>nomatch z) fin
 |lst xs=>
  cases ht;obtain⟨a,vs,rfl,h1,_⟩:=rd.lst;cases rx;obtain⟨its,_,pl,_⟩:=I.list (by rw[hK];exact h1);obtain⟨o,e1,e2,_⟩:=pl.isList;exact a_ PySem.W.kitx_list I.kIn ⟨o,e1,e2⟩ (kb (by simp)) (λz=>nomatch z) fin
 |dic=>
  cases ht;cases rd.rep with
  |dic h1=>exact eN I rx (.dK h1) (kb (by simp)) fin
 |_=>cases ht
end
theorem uL{o:O2}{a b:Int}{c:Str}:opI o a b≠.ex c:=by
 cases o<;>simp only[opI]<;>(try split)<;>intro h<;>cases h
theorem x8{o:O2}{a b:D}{c:Str}:op2 o a b≠.ex c:=by
 unfold op2;split
 ·exact uL
 all_goals ((try split)<;>intro h<;>cases h)
theorem t8{n:Bool}{a b:D}{c:Str}:isB n a b≠.ex c:=by
 unfold isB;split<;>intro h<;>cases h
theorem sN{a:D}{ks:List (List Int)}{c:Str}:eu a ks≠.ex c:=by
 unfold eu;split<;>(try split)<;>intro h<;>cases h
theorem lY{a b:D}{c:Str}:c_ a b≠.ex c:=by
 unfold c_;split<;>(try split)<;>(try split)<;>intro h<;>first|(cases h;done)|exact sN h
theorem uR{a b:D}{c:Str}:((c_ a b).bind λr=>R.ok !r)≠.ex c:=by
 intro h;cases e:c_ a b with
 |ok r=>rw[e]at h;cases h
 |ex z=>exact lY e
 |no=>rw[e]at h;cases h
theorem uI{o:C2}{a b:D}{c:Str}:zh o a b≠.ex c:=by
 unfold zh;split<;>(try split)<;>(try split)<;>intro h<;>first|(cases h;done)|exact t8 h|exact lY h|exact uR h
theorem uE{a:D}{c:Str}:truth a≠.ex c:=by
 unfold truth;split<;>intro h<;>cases h
theorem ot{a b:D}{c:Str}:ixD a b≠.ex c:=by
 unfold ixD;split<;>(try split)<;>(try split)<;>intro h<;>cases h
theorem yg{a:D}{l h:Option Int}{c:Str}:slD a l h≠.ex c:=by
 unfold slD;split<;>(try split)<;>intro h<;>cases h
theorem i0{x:D}{k:List D->R D}{c:Str}(h:∀xs,k xs≠.ex c):di x k≠.ex c:=by
 cases x with
 |lst xs=>exact h xs
 |_=>intro z;cases z
theorem uj{x:D}{f:Int->R D}{q:Bool->R D}{c:Str}(h:∀i,f i≠.ex c)(h':∀i,q i≠.ex c):ibR x f q≠.ex c:=by
 cases x with
 |int i=>exact h i
 |bl i=>exact h' i
 |_=>intro z;cases z
theorem jV{x y:D}{k:Int->Int->R D}{c:Str}(h:∀i j,k i j≠.ex c):iiR x y k≠.ex c:=by
 cases x with
 |int i=>
  cases y with
  |int j=>exact h i j
  |_=>intro z;cases z
 |_=>intro z;cases z
theorem eS{α β:Type}{o:Option α}{k:α->R β}{c:Str}(h:∀a,k a≠.ex c):cN o k≠.ex c:=by
 cases o with
 |some a=>exact h a
 |none=>intro z;cases z
theorem cP{α:Type}{a:α}{c:Str}:R.ok a≠.ex c:=by intro z;cases z
theorem cY{α:Type}{c:Str}:(R.no:R α)≠.ex c:=by intro z;cases z
theorem tB{b:B1}{d:D}{c:Str}:b11 b d≠.ex c:=by
 cases b with
 |len=>exact eS λ_=>cP
 |tuple=>exact eS λ_=>cP
 |list=>exact cY
 |all=>exact i0 λ_=>eS λ_=>cP
 |any=>exact i0 λ_=>eS λ_=>cP
 |sorted=>exact cY
 |abs=>exact cY
 |int=>exact uj (λ_=>cP) λ_=>cP
 |bool=>exact cY
 |sum=>exact i0 λ_=>eS λ_=>cP
 |min=>exact cY
 |max=>exact cY
theorem yb{b:B1}{ds:List D}{c:Str}:b1 b ds≠.ex c:=by
 match ds with
 | []=>exact cY
 | [_]=>exact tB
 | [x,y]=>
  cases b with
  |min=>exact jV λ_ _=>cP
  |max=>exact jV λ_ _=>cP
  |_=>exact cY
 |_::_::_::_=>exact cY
structure aN(g:Gc)(c:Cc)(e:E)(S:Sh)(H:Hp)(d:D)(v:V)(H':Hp):Prop where
 same:qa H H'
 rb:zw g H' S d v
 st:esc e=true->Rep g (hid H' S) d v
 fr:fresh c e=true->Fr g H S H' d v
 frc:bV c e=true->zo d=true->Fr g H S H' d v
structure SE(g:Gc)(c:Cc)(τ:Env)(σ:L2.St)(H:Hp)(S:Sh):Prop where
 len:τ.length=σ.length
 val:∀(i:Nat) (d:D),τ[i]? = some (some d)->∃v,σ[i]? = some (some v)/\zw g H S d v/\∀x,c.N[i]? = some x->c.own.contains x=false->Rep g (hid H S) d v
 sub:Sub S H
theorem SE.up{g:Gc}{c:Cc}{τ:Env}{σ:L2.St}{H H':Hp}{S:Sh}(s:SE g c τ σ H S)(e:qa H H'):SE g c τ σ H' S:=
 ⟨s.len,λi d h=>let ⟨v,h1,h2,h3⟩:=s.val i d h;⟨v,h1,h2.mono e,λx a b=>(h3 x a b).mono (qc e)⟩,s.sub.same e⟩
noncomputable def tR{α:Type}(g:Gc)(E:XK)(H:Hp)(r:R α)(k:α->Prop):Prop:=match r with
 | .ok a=>k a
 | .ex c=>∀H' C,qa H H'->g.clA c=some C->E (.ref C) none H'
 | .no=>False
theorem tR.up{α:Type}{g:Gc}{E:XK}{H H':Hp}{r:R α}{k:α->Prop}(h:tR g E H r k)(e:qa H H'):tR g E H' r k:=by
 cases r with
 |ok a=>exact h
 |ex c=>exact λH2 C e2 hc=>h H2 C (e.trans e2) hc
 |no=>exact h
theorem tR.imp{α:Type}{g:Gc}{E:XK}{H:Hp}{r:R α}{k k':α->Prop}(h:tR g E H r k)(i:∀a,k a->k' a):tR g E H r k':=by
 cases r with
 |ok a=>exact i a h
 |ex c=>exact h
 |no=>exact h
section
variable(w:W)(g:Gc)(c:Cc)(E:XK)
noncomputable def tE(e:EV.E):TE:=λσ H Q=>∃τ S,SE g c τ σ H S/\tR g E H (evE w e τ) λd=>∀v H',aN g c e S H d v H'->Q v H'
noncomputable def tT(t:T):TT:=λσ H Q=>∃τ S,SE g c τ σ H S/\tR g E H (evT w t τ) λb=>∀H',qa H H'->Q b H'
noncomputable def tA(es:Es):TA:=λσ H Q=>∃τ S,SE g c τ σ H S/\tR g E H (zG w es τ) λds=>∀vs H',qa H H'->cZ g H' S ds vs->(cL es=true->qU g (hid H' S) ds vs)->Q vs H'
noncomputable def tOe(o:OE):TO:=λσ H Q=>∃τ S,SE g c τ σ H S/\tR g E H (evO w o τ) λi=>∀H',qa H H'->Q i H'
noncomputable def Goes(g:Gc)(J:L2.It)(ds:List D)(H:Hp)(S:Sh):Prop:=
 (∀i,ds.length<=i->J.stop i H)/\∀i d,ds[i]? = some d->J.go i H/\∀x H',J.yld i H x H'->qa H H'/\Rep g (hid H' S) d x
noncomputable def tIt(it:It):TI:=λσ H R=>∃τ S,SE g c τ σ H S/\tR g E H (evI w it τ) λds=>∀J H',qa H H' ->
 (∀H2 S2,qa H' H2->qa (hid H' S) (hid H2 S2)->Sub S2 H2->Goes g J ds H2 S2)->(owned it=false->∀H2 S2,qa (hid H' S) (hid H2 S2)->Sub S2 H2->Goes g J ds H2 S2)->R J H'
end
theorem PE.imp{X:Cx}{e:Expr}{t t':TE}(h:PE X e t)(i:∀σ H Q,t' σ H Q->t σ H Q):PE X e t':=λpins s σ H Q I q=>h pins s σ H Q I (i _ _ _ q)
theorem PT.imp{X:Cx}{e:Expr}{t t':TT}(h:PT X e t)(i:∀σ H Q,t' σ H Q->t σ H Q):PT X e t':=λpins s σ H Q I q=>h pins s σ H Q I (i _ _ _ q)
theorem PW.imp{X:Cx}{e:Expr}{t t':TT}(h:PW X e t)(i:∀σ H Q,t' σ H Q->t σ H Q):PW X e t':=λwh pins s σ H Q I q=>h wh pins s σ H Q I (i _ _ _ q)
theorem PA.imp{X:Cx}{e:List Expr}{t t':TA}(h:PA X e t)(i:∀σ H Q,t' σ H Q->t σ H Q):PA X e t':=λpos pins s σ H Q I q=>h pos pins s σ H Q I (i _ _ _ q)
theorem PO.imp{X:Cx}{e:Option Expr}{t t':TO}(h:PO X e t)(i:∀σ H Q,t' σ H Q->t σ H Q):PO X e t':=λpins s σ H Q I q=>h pins s σ H Q I (i _ _ _ q)
theorem PI.imp{X:Cx}{tg e:Expr}{t t':TI}(h:PI X tg e t)(i:∀σ H Q,t' σ H Q->t σ H Q):PI X tg e t':=λpins s σ H Q I q=>h pins s σ H Q I (i _ _ _ q)
theorem PS.imp{X:Cx}{e:Stmt}{t t':TS}(h:PS X e t)(i:∀D σ H,t' D σ H->t D σ H):PS X e t':=λpins s σ H Q I q=>h pins s σ H Q I (i _ _ _ q)
theorem PSs.imp{X:Cx}{e:List Stmt}{t t':TS}(h:PSs X e t)(i:∀D σ H,t' D σ H->t D σ H):PSs X e t':=λpins s σ H Q I q=>h pins s σ H Q I (i _ _ _ q)
section
variable{w:W}{g:Gc}{c:Cc}{E:XK}{τ:Env}{σ:L2.St}{H H0:Hp}{S:Sh}
theorem qV{α:Type}{e:EV.E}{f:D->R α}{P:α->Prop}{Q:VK}(se:SE g c τ σ H S)(h:tR g E H ((evE w e τ).bind f) P)(k:∀d v H',evE w e τ=.ok d->aN g c e S H d v H'->tR g E H' (f d) P->Q v H'):tE w g c E e σ H Q:=by
 refine⟨τ,S,se,?_⟩;cases q:evE w e τ with
 |ok d=>rw[q]at h;exact λv H' p=>k d v H' q p (tR.up h p.same)
 |ex x=>rw[q]at h;exact h
 |no=>rw[q]at h;exact h
theorem gz{α:Type}{t:T}{f:Bool->R α}{P:α->Prop}{Q:Bool->Hp->Prop}(se:SE g c τ σ H S)(h:tR g E H ((evT w t τ).bind f) P)(k:∀b H',evT w t τ=.ok b->qa H H'->tR g E H' (f b) P->Q b H'):tT w g c E t σ H Q:=by
 refine⟨τ,S,se,?_⟩;cases q:evT w t τ with
 |ok d=>rw[q]at h;exact λH' p=>k d H' q p (tR.up h p)
 |ex x=>rw[q]at h;exact h
 |no=>rw[q]at h;exact h
theorem dQ{α:Type}{es:Es}{f:List D->R α}{P:α->Prop}{Q:List V->Hp->Prop}(se:SE g c τ σ H S)(h:tR g E H ((zG w es τ).bind f) P)
  (k:∀ds vs H',zG w es τ=.ok ds->qa H H'->cZ g H' S ds vs->(cL es=true->qU g (hid H' S) ds vs)->tR g E H' (f ds) P->Q vs H'):tA w g c E es σ H Q:=by
 refine⟨τ,S,se,?_⟩;cases q:zG w es τ with
 |ok d=>rw[q]at h;exact λvs H' p r r'=>k d vs H' q p r r' (tR.up h p)
 |ex x=>rw[q]at h;exact h
 |no=>rw[q]at h;exact h
theorem lP{α:Type}{o:OE}{f:Option Int->R α}{P:α->Prop}{Q:Option Int->Hp->Prop}(se:SE g c τ σ H S)(h:tR g E H ((evO w o τ).bind f) P)(k:∀b H',evO w o τ=.ok b->qa H H'->tR g E H' (f b) P->Q b H'):tOe w g c E o σ H Q:=by
 refine⟨τ,S,se,?_⟩;cases q:evO w o τ with
 |ok d=>rw[q]at h;exact λH' p=>k d H' q p (tR.up h p)
 |ex x=>rw[q]at h;exact h
 |no=>rw[q]at h;exact h
theorem mj{e:EV.E}(h:fresh c e=true):bV c e=true:=by
 cases e<;>first|exact h|cases h
theorem aN.of{e:EV.E}{d:D}{v:V}{H':Hp}(s:qa H H')(r:Rep g (hid H' S) d v)(f:bV c e=false):aN g c e S H d v H':=⟨s,.inl r,λ_=>r,(λz=>by rw[mj z]at f;cases f),λz=>by rw[f]at z;cases z⟩
theorem aN.new{e:EV.E}{d:D}{v:V}{H':Hp}(s:qa H H')(r:Rep g (hid H' S) d v)(f:Fr g H S H' d v):aN g c e S H d v H':=⟨s,.inl r,λ_=>r,λ_=>f,λ_ _=>f⟩
theorem Fr.low{d:D}{v:V}{H1 H':Hp}(f:Fr g H1 S H' d v)(e:qa H H1):Fr g H S H' d v:=by
 obtain⟨a,o,h1,h3,h4,h5⟩:=f;exact⟨a,o,h1,e.free h3,h4,h5⟩
end
noncomputable def b1N:B1->Str
 | .len=>"len"
 | .tuple=>"tuple"
 | .list=>"list"
 | .sorted=>"sorted"
 | .all=>"all"
 | .any=>"any"
 | .sum=>"sum"
 | .min=>"min"
 | .max=>"max"
 | .abs=>"abs"
 | .int=>"int"
 | .bool=>"bool"
theorem mY:∀b,bc (b1N b)=some (b1V b)
 | .len | .tuple | .list | .sorted | .all | .any | .sum | .min | .max | .abs | .int | .bool=>by decide +kernel
noncomputable def spF(w:W)(g:Gc)(x:Str)(fr:Bool):Sp:=λvs H Q E=>∃S ds,Sub S H/\qU g (hid H S) ds vs /\
 tR g E H (w.call x ds) λd=>∀v H',qa H H'->Rep g (hid H' S) d v->(fr=true->zo d=true->Fr g H S H' d v)->Q v H'
structure fT(w:W)(g:Gc)(P:aq)(wl:aj)(mg:Str->Option ae)(base:Heap)(A:ar)(calm:Bool)(x:Str)(f:Addr)(fr:Bool):Prop where
 at_:mg x=some (.ref f)
 kp:bT g.K (.ref f)=true
 fn:∃k fd ps,Binds g.K fd ps []/\((calm=true/\du P wl g.K mg base (CX1 P wl) k f fd ps (spF w g x fr)/\bQ k A)\/(calm=false/\je P wl g.K mg base (CX1 P wl) k f fd ps (spF w g x fr)/\eV k A))
noncomputable def GM(w:W)(g:Gc)(P:aq)(wl:aj)(mg:Str->Option ae)(base:Heap)(A:ar)(calm:Bool)(x:Str):GK->Prop
 | .fn fr=>∃f,g.fnA x=some f/\fT w g P wl mg base A calm x f fr
 | .val=>∃u v d,mg x=some u/\RelV v u/\w.glb x=some d/\∀H,Rep g H d v
 | .bi b=>mg x=none/\x=b1N b/\∃id,b1V b=.builtin id
 | .rng=>mg x=none/\x = "range"
 | .enum=>mg x=none/\x = "enumerate"
 | .zip=>mg x=none/\x = "zip"
 | .isi=>mg x=none/\x = "isinstance"
 | .ty n b=>mg x=none/\bc x=some (.type n)/\(n∈["int","bool","str","list","tuple"]\/n = "ValueError")/\∀b',b=some b'->x=b1N b'/\b1V b'=.type n
 | .exc=>∃C,mg x=some (.ref C)/\g.clA x=some C
 | .exk=>∃C,mg x=some (.ref C)/\g.clA x=some C
 | .set=>mg x=none/\bc x=some (.type "set")
 | .rvd=>mg x=none/\x = "reversed"
structure XO(w:W)(g:Gc)(c:Cc)(E:XK)(X:Cx):Prop where
 K:X.K=g.K
 nm:X.env.scope.names=c.nm
 N:X.N=c.N
 nd:c.N.Nodup
 calm:c.calm=true->X.calm=true
 units:X.A.units+64<cLine
 fn:∀x,(c.fnc=true\/c.oc.contains x=true)->X.fn x=true
 kind:X.env.scope.kind=.function
 pass:Passes (CX1 X.prog X.w) X E
 gok:∀x k,c.G.lookup x=some k->GM w g X.prog X.w X.mg X.base X.A X.calm x k
 fns:X.calm=true->∀x f,g.fnA x=some f->∃fr,fT w g X.prog X.w X.mg X.base X.A X.calm x f fr
 -- what isinstance says of a caught error
 sub:∀k cl b,w.sub k cl=some b->∃C cv,g.clA k=some C/\cB g.K C/\bh g.K (.ref C) cv=some b/\match cl with
  | .ty n=>n = "ValueError"/\cv=.type n
  | .ex x=>∃D,g.clA x=some D/\cv=.ref D
section
variable{w:W}{g:Gc}{c:Cc}{E:XK}{X:Cx}
theorem zj{x:Str}{i:Nat}(h:loc c x=some i):c.N[i]? = some x/\(c.nm.lookup x=some .local\/c.nm.lookup x=some .cell\/c.nm.lookup x=some .free)/\(x==("__debug__" : Str))=false/\(x==("__classdict__" : Str))=false:=by
 unfold loc at h;split at h
 ·cases h
 ·rename_i hd
  have hd':(x==("__debug__" : Str))=false/\(x==("__classdict__" : Str))=false:=by simpa using hd
  have fin:∀{j},(if c.N[j]? = some x then some j else none)=some i->c.N[i]? = some x:=λ{j} z=>by
   split at z
   ·cases z;assumption
   ·cases z
  split at h
  ·rename_i q;exact⟨fin h,.inl q,hd'⟩
  ·rename_i q;exact⟨fin h,.inr (.inl q),hd'⟩
  ·rename_i q;exact⟨fin h,.inr (.inr q),hd'⟩
  ·cases h
theorem zF{x:Str}{k:GK}(h:glob c x=some k):c.nm.lookup x=some .globalImplicit/\c.G.lookup x=some k/\(x==("__debug__" : Str))=false/\x≠"__name__":=by
 unfold glob at h;split at h
 ·cases h
 ·rename_i hd
  have hd':(x==("__debug__" : Str))=false/\(x==("__name__" : Str))=false:=by simpa using hd
  split at h
  ·rename_i q;exact⟨q,h,hd'.1,by simpa using hd'.2⟩
  ·cases h
theorem XO.gl(O:XO w g c E X){x:Str}{k:GK}(h:glob c x=some k):Gl X x:=by
 show X.env.scope.names.lookup x=_;rw[O.nm];exact(zF h).1
theorem XO.gm(O:XO w g c E X){x:Str}{k:GK}(h:glob c x=some k):GM w g X.prog X.w X.mg X.base X.A X.calm x k:=O.gok x k (zF h).2.1
theorem qw{e:Expr}{es:List Expr}{env:PySem.Env}(h:isStar e=false):aH (e::es) env=(false,eval e env)::aH es env:=by
 cases e<;>first|rfl|(simp[isStar]at h)
theorem gP{es:List Expr}{env:PySem.Env}{pos:Pos}:(∀e∈es,isStar e=false)->(backTo pos (aH es env)).any (·.1)=false:=by
 induction es with
 |nil=>intro _;rfl
 |cons e es ih=>
  intro h;rw[qw (h e aP)];show (false||(backTo pos (aH es env)).any (·.1))=false;rw[ih λe he=>h e (aO _ he)]
  rfl
theorem dW:∀{n:Nat}{es:List Expr}{ir:Es},cEs n c es=some ir->∀e∈es,isStar e=false
 | 0,_,_,h=>by simp[cEs]at h
 |n+1,[],_,_=>by simp
 |n+1,e::es,ir,h=>by
  simp only[cEs]at h;cases hs:isStar e with
  |true=>simp[hs]at h
  |false=>
   simp only[hs,a7,if_false,aw,au]at h;obtain⟨_,_,r,hr,_⟩:=h;intro x hx;rcases aL.mp hx with rfl|hx
   ·exact hs
   ·exact dW hr x hx
theorem mm{x:Str}{f:Addr}{fr:Bool}{e:Expr}{es:List Expr}{p pos:Pos}{t:TA}(O:XO w g c E X)(C:fT w g X.prog X.w X.mg X.base X.A X.calm x f fr)(hg:Gl X x)(hd:(x==("__debug__" : Str))=false)(ha:PA X (e::es) t)
  (hs:∀z∈e::es,isStar z=false):PE X (.Call (.Name x p) (e::es) [] pos) (iQ (spF w g x fr) [] E t):=by
 obtain⟨k,fd,ps,hb,h⟩:=C.fn;have he:=qw (es:=es) (env:=X.env) (hs e aP);have hp:=gP (env:=X.env) (pos:=pos) λz hz=>hs z (aO _ hz)
 rw[<-O.K]at hb h;rcases h with ⟨_,F,r⟩|⟨_,F,r⟩
 ·exact rV F r hg C.at_ (by rw[O.K];exact C.kp) hb .nil O.pass ha hd he hp
 ·exact om F r hg C.at_ (by rw[O.K];exact C.kp) hb .nil O.pass ha hd he hp
end
end EV
namespace L2
open PySem PySem.Spec PyProof.Rows
section
variable{X:Cx}
end
end L2
namespace EV
open PySem PySem.Spec PySem.P PyProof.Rows L2
section
variable{w:W}{g:Gc}{c:Cc}{E:XK}{X:Cx}{a b d f:Expr}{ia ib id' if':EV.E}{pos p2:Pos}{ta tb:T}
theorem gK{e:Expr}{v:V}{dd:D}(h:PE X e (tC v))(r:∀H,Rep g H dd v):PE X e (tE w g c E (.con dd)):=PE.imp h λσ H Q ⟨τ,S,se,k⟩=>k v H (aN.of (qa.refl _) (r _) rfl)
theorem wm{x:Str}{i:Nat}(O:XO w g c E X)(h:loc c x=some i):PE X (.Name x pos) (tE w g c E (if c.own.contains x then .own i else .var i)):=by
 obtain⟨h1,h2,h3,h4⟩:=zj h;refine PE.imp (dn (i:=i) (by rw[O.N];exact h1) (by unfold cC;rw[O.nm];exact h2) h3 h4) λσ H Q ⟨τ,S,se,k⟩=>?_
 have key:∀e,evE w e τ=zE τ i->bV c e=false->(esc e=true->c.own.contains x=false)->tR g E H (evE w e τ) (λd=>∀v H',aN g c e S H d v H'->Q v H')->cQ i σ H Q:=λe e1 e2 e3 k=>by
  rw[e1]at k;unfold zE at k;cases q:τ[i]? with
  |none=>rw[q]at k;exact k.elim
  |some o=>
   cases o with
   |none=>rw[q]at k;exact k.elim
   |some d=>
    rw[q]at k;obtain⟨v,z1,z2,z3⟩:=se.val i d q;exact⟨v,z1,k v H ⟨qa.refl _,z2,λz=>z3 x h1 (e3 z),(λz=>by rw[mj z]at e2;cases e2),λz=>by rw[e2]at z;cases z⟩⟩
 cases ho:c.own.contains x with
 |true=>rw[ho]at k;exact key (.own i) (by simp[qY,qW,za,zb,qX,qZ,zf,ze,zc,qo,qx,qq,qt,qE,qJ,qC,qy,qz,qr,qA,qK,qh,qB,qH,ql,qk,qO,qI,qP,qG,qF,qQ,qT,qp,qN,qS,qM,qD,qm,qu,qL,qR]) rfl (by intro z;cases z) k
 |false=>rw[ho]at k;exact key (.var i) (by simp[qY,qW,za,zb,qX,qZ,zf,ze,zc,qo,qx,qq,qt,qE,qJ,qC,qy,qz,qr,qA,qK,qh,qB,qH,ql,qk,qO,qI,qP,qG,qF,qQ,qT,qp,qN,qS,qM,qD,qm,qu,qL,qR]) rfl (λ_=>ho) k
theorem yQ{x:Str}(O:XO w g c E X)(h:glob c x=some .val):PE X (.Name x pos) (tE w g c E (.glb x)):=by
 obtain⟨u,v,d,h1,h2,h3,h4⟩:=O.gm h;refine PE.imp (iS (O.gl h) h1 h2 (zF h).2.2.1) λσ H Q ⟨τ,S,se,k⟩=>?_
 simp only[qY,qW,za,zb,qX,qZ,zf,ze,zc,qo,qx,qq,qt,qE,qJ,qC,qy,qz,qr,qA,qK,qh,qB,qH,ql,qk,qO,qI,qP,qG,qF,qQ,qT,qp,qN,qS,qM,qD,qm,qu,qL,qR,h3]at k;exact k v H (aN.of (qa.refl _) (h4 _) rfl)
theorem rq{x:Str}{fr:Bool}(O:XO w g c E X)(h:glob c x=some (.fn fr)):PE X (.Name x pos) (tE w g c E (.fnv x)):=λpins s σ H Q I ⟨τ,S,se,kk⟩=>by
 simp only[qY,qW,za,zb,qX,qZ,zf,ze,zc,qo,qx,qq,qt,qE,qJ,qC,qy,qz,qr,qA,qK,qh,qB,qH,ql,qk,qO,qI,qP,qG,qF,qQ,qT,qp,qN,qS,qM,qD,qm,qu,qL,qR]at kk;exact aM kk
theorem kG{τ:EV.Env}{e:EV.E}{d:D}(h:isL e=true)(he:evE w e τ=.ok d):hZ d=true:=by
 cases e<;>first|(cases h;done)|skip
 ·simp only[qY,qW,za,zb,qX,qZ,zf,ze,zc,qo,qx,qq,qt,qE,qJ,qC,qy,qz,qr,qA,qK,qh,qB,qH,ql,qk,qO,qI,qP,qG,qF,qQ,qT,qp,qN,qS,qM,qD,qm,qu,qL,qR]at he;cases q:zG w ‹_› τ with
  |ok ds=>rw[q]at he;cases he;rfl
  |ex z=>rw[q]at he;cases he
  |no=>rw[q]at he;cases he
 ·simp only[qY,qW,za,zb,qX,qZ,zf,ze,zc,qo,qx,qq,qt,qE,qJ,qC,qy,qz,qr,qA,qK,qh,qB,qH,ql,qk,qO,qI,qP,qG,qF,qQ,qT,qp,qN,qS,qM,qD,qm,qu,qL,qR]at he;cases he
 ·simp only[qY,qW,za,zb,qX,qZ,zf,ze,zc,qo,qx,qq,qt,qE,qJ,qC,qy,qz,qr,qA,qK,qh,qB,qH,ql,qk,qO,qI,qP,qG,qF,qQ,qT,qp,qN,qS,qM,qD,qm,qu,qL,qR]at he;cases q:evI w ‹_› τ with
  |ok ds=>
   rw[q]at he;simp only[R.bind_ok]at he;split at he
   ·cases he
   ·generalize bR _ _ _ _=r at he;cases r with
    |ok o=>cases he;rfl
    |ex z=>cases he
    |no=>cases he
  |ex z=>rw[q]at he;cases he
  |no=>rw[q]at he;cases he
theorem xW(O:XO w g c E X){op:Operator}{o:O2}(ho:o2 op=some o)(ha:PE X a (tE w g c E ia))(hb:PE X b (tE w g c E ib)):PE X (.BinOp a op b pos) (tE w g c E (.op o ia ib)):=
 PE.imp (rp (nG O.K ho) ha hb) λσ H Q ⟨τ,S,se,k⟩=>by
  simp only[qY,qW,za,zb,qX,qZ,zf,ze,zc,qo,qx,qq,qt,qE,qJ,qC,qy,qz,qr,qA,qK,qh,qB,qH,ql,qk,qO,qI,qP,qG,qF,qQ,qT,qp,qN,qS,qM,qD,qm,qu,qL,qR]at k;refine qV se k λda va H1 e1 p1 k1=>qV (se.up p1.same) k1 λdb vb H2 e2 p2 k2=>⟨S,da,db,(se.up (p1.same.trans p2.same)).sub,p1.rb.mono p2.same,p2.rb,?_⟩
  cases q:op2 o da db with
  |ok r=>
   rw[q]at k2;have fw:fresh c (.op o ia ib)=true->∀{v H'},(hZ da=true->Fr g H2 S H' r v)->Fr g H S H' r v:=λz {v H'} f=>by
    simp only[fresh,a9,ax,beq_iff_eq]at z;refine(f ?_).low (p1.same.trans p2.same);rcases z with z|⟨rfl,z⟩
    ·exact kG z.2 e1
    ·have:=kG z e2;cases db<;>first|(cases this;done)|skip
     cases da<;>first|rfl|(cases q;done)
   exact λv H' s r f=>k2 v H' ⟨(p1.same.trans p2.same).trans s,.inl r,λ_=>r,λz=>fw z f,λz _=>fw z f⟩
  |ex z=>exact x8 q
  |no=>rw[q]at k2;exact k2
theorem p_(ha:PE X a (tE w g c E ia)):PE X (.UnaryOp .USub a pos) (tE w g c E (.neg ia)):=
 PE.imp (sG mV ha) λσ H Q ⟨τ,S,se,k⟩=>by
  simp only[qY,qW,za,zb,qX,qZ,zf,ze,zc,qo,qx,qq,qt,qE,qJ,qC,qy,qz,qr,qA,qK,qh,qB,qH,ql,qk,qO,qI,qP,qG,qF,qQ,qT,qp,qN,qS,qM,qD,qm,qu,qL,qR]at k;refine qV se k λda va H1 e1 p1 k1=>?_
  cases da with
  |int i=>exact⟨i,p1.rb.int,k1 _ _ (aN.of p1.same (.int _) rfl)⟩
  |_=>exact k1.elim
theorem uh(O:XO w g c E X){o:Expr}{m:Str}{ap cp:Pos}{as:List Expr}{e:EV.E}(h:cMt c o m ap as cp=some e):PE X (.Call (.Attribute o m ap) as [] cp) (tE w g c E e):=by cases h
theorem jX{o:Expr}{m:Str}(h:baseOk o=true):attributeBase o m X.env (eval o X.env)=eval o X.env:=by
 unfold baseOk at h;split at h
 ·rfl
 ·rfl
 ·cases h
theorem sI(O:XO w g c E X){o:Expr}{ap cp:Pos}(hb:baseOk o=true)(ho:PE X o (tE w g c E ia))(ha:PE X a (tE w g c E ib))(hs:isStar a=false)(hl:(ap.endLine==cp.line)=true) :
  PE X (.Call (.Attribute o "count" ap) [a] [] cp) (tE w g c E (.cnt ia ib)):=λpins s σ H Q I ⟨τ,S,se,kk⟩=>by
 simp only[qY,qW,za,zb,qX,qZ,zf,ze,zc,qo,qx,qq,qt,qE,qJ,qC,qy,qz,qr,qA,qK,qh,qB,qH,ql,qk,qO,qI,qP,qG,qF,qQ,qT,qp,qN,qS,qM,qD,qm,qu,qL,qR]at kk;exact aM kk
theorem rF(ha:PE X a (tE w g c E ia)):PE X (.UnaryOp .Invert a pos) (tE w g c E (.inv ia)):=λpins s σ H Q I ⟨τ,S,se,kk⟩=>by
 simp only[qY,qW,za,zb,qX,qZ,zf,ze,zc,qo,qx,qq,qt,qE,qJ,qC,qy,qz,qr,qA,qK,qh,qB,qH,ql,qk,qO,qI,qP,qG,qF,qQ,qT,qp,qN,qS,qM,qD,qm,qu,qL,qR]at kk;exact aM kk
theorem yM(ha:PE X a (tE w g c E ia)):PE X (.UnaryOp .Not a pos) (tE w g c E (.not ia)):=
 PE.imp (v_ ha) λσ H Q ⟨τ,S,se,k⟩=>by
  simp only[qY,qW,za,zb,qX,qZ,zf,ze,zc,qo,qx,qq,qt,qE,qJ,qC,qy,qz,qr,qA,qK,qh,qB,qH,ql,qk,qO,qI,qP,qG,qF,qQ,qT,qp,qN,qS,qM,qD,qm,qu,qL,qR]at k;refine qV se k λda va H1 e1 p1 k1=>?_
  cases da with
  |bl i=>exact⟨i,p1.rb.bl,k1 _ _ (aN.of p1.same (.bl _) rfl)⟩
  |_=>exact k1.elim
theorem aN.pass{e e':EV.E}{S:Sh}{H H1 H':Hp}{dd:D}{v:V}(s:qa H H1)(p:aN g c e S H1 dd v H')(h:esc e=true)(f:bV c e'=false):aN g c e' S H dd v H':=aN.of (s.trans p.same) (p.st h) f
theorem aN.passC{e e':EV.E}{S:Sh}{H H1 H':Hp}{dd:D}{v:V}(s:qa H H1)(p:aN g c e S H1 dd v H')(h:esc e=true)(f:fresh c e'=false)(fc:bV c e'=true->bV c e=true):aN g c e' S H dd v H':=⟨s.trans p.same,.inl (p.st h),λ_=>p.st h,(λz=>by rw[f]at z;cases z),λz l=>(p.frc (fc z) l).low s⟩
theorem wD{rest:List Expr}{ir:EV.E}(ha:PE X a (tE w g c E ia))(hb:PE X (.BoolOp .And (b::rest) pos) (tE w g c E ir))(he:esc ir=true):PE X (.BoolOp .And (a::b::rest) pos) (tE w g c E (.and ia ir)):=
 PE.imp (o9 ha hb) λσ H Q ⟨τ,S,se,k⟩=>by
  simp only[qY,qW,za,zb,qX,qZ,zf,ze,zc,qo,qx,qq,qt,qE,qJ,qC,qy,qz,qr,qA,qK,qh,qB,qH,ql,qk,qO,qI,qP,qG,qF,qQ,qT,qp,qN,qS,qM,qD,qm,qu,qL,qR]at k;refine qV se k λda va H1 e1 p1 k1=>?_
  cases da with
  |bl i=>
   refine⟨i,p1.rb.bl,?_⟩;cases i with
   |true=>
    refine⟨τ,S,se.up p1.same,tR.imp k1 λd hk v H' p=>hk v H' (p.pass p1.same he rfl)⟩
   |false=>exact k1 _ _ (aN.of p1.same (.bl _) rfl)
  |_=>exact k1.elim
theorem z8{rest:List Expr}{ir:EV.E}(ha:PE X a (tE w g c E ia))(hb:PE X (.BoolOp .Or (b::rest) pos) (tE w g c E ir))(he:esc ir=true):PE X (.BoolOp .Or (a::b::rest) pos) (tE w g c E (.or ia ir)):=
 PE.imp (pQ ha hb) λσ H Q ⟨τ,S,se,k⟩=>by
  simp only[qY,qW,za,zb,qX,qZ,zf,ze,zc,qo,qx,qq,qt,qE,qJ,qC,qy,qz,qr,qA,qK,qh,qB,qH,ql,qk,qO,qI,qP,qG,qF,qQ,qT,qp,qN,qS,qM,qD,qm,qu,qL,qR]at k;refine qV se k λda va H1 e1 p1 k1=>?_
  cases da with
  |bl i=>
   refine⟨i,p1.rb.bl,?_⟩;cases i with
   |false=>
    refine⟨τ,S,se.up p1.same,tR.imp k1 λd hk v H' p=>hk v H' (p.pass p1.same he rfl)⟩
   |true=>exact k1 _ _ (aN.of p1.same (.bl _) rfl)
  |_=>exact k1.elim
theorem eI{op:CmpOp}{b:Expr}(h:zz b=true):behindInMarks op b=false:=by cases b<;>first|rfl|(simp[zz]at h)
theorem cn{o:C2}{S:Sh}{H:Hp}{da db:D}{va vb:V}{r:R Bool}{P:Bool->Prop}{Q:VK}(ra:zw g H S da va)(rb:zw g H S db vb)(q:tR g E H (zh o da db) P)(k:∀z,zh o da db=.ok z->P z->Q (.bl z) H):rCm g o va vb H Q:=by
 refine⟨S,da,db,ra,rb,?_⟩;cases e:zh o da db with
 |ok z=>rw[e]at q;exact k z e q
 |ex z=>exact uI e
 |no=>rw[e]at q;exact q
theorem tR.bnd{α β:Type}{H:Hp}{r:R α}{f:α->R β}{P:β->Prop}(h:tR g E H (r.bind f) P):tR g E H r λa=>tR g E H (f a) P:=by
 cases r with
 |ok a=>exact h
 |ex z=>exact h
 |no=>exact h
theorem yp(O:XO w g c E X){op:CmpOp}(ha:PE X a (tE w g c E ia))(hb:PE X b (tE w g c E ib))(hs:zz b=true):PE X (.Compare a [op] [b] pos) (tE w g c E (.cmp (c2 op) ia ib)):=
 PE.imp (yr (cq O.K O.units op) ha hb (eI hs)) λσ H Q ⟨τ,S,se,k⟩=>by
  simp only[qY,qW,za,zb,qX,qZ,zf,ze,zc,qo,qx,qq,qt,qE,qJ,qC,qy,qz,qr,qA,qK,qh,qB,qH,ql,qk,qO,qI,qP,qG,qF,qQ,qT,qp,qN,qS,qM,qD,qm,qu,qL,qR]at k;refine qV se k λda va H1 e1 p1 k1=>qV (se.up p1.same) k1 λdb vb H2 e2 p2 k2=>?_
  exact cn (r:=.no) (p1.rb.mono p2.same) p2.rb (tR.bnd k2) λz _ q=>q _ _ (aN.of (p1.same.trans p2.same) (.bl _) rfl)
theorem rg(O:XO w g c E X){op:CmpOp}(ha:PE X a (tE w g c E ia))(hb:PE X b (tE w g c E ib))(hs:zz b=true):PT X (.Compare a [op] [b] pos) (tT w g c E (.cmp (c2 op) ia ib)):=
 PT.imp (tO (cq O.K O.units op) ha hb (eI hs)) λσ H Q ⟨τ,S,se,k⟩=>by
  simp only[dH,dk,dF,dM,dD,dE,dv]at k;refine qV se k λda va H1 e1 p1 k1=>qV (se.up p1.same) k1 λdb vb H2 e2 p2 k2=>?_
  exact cn (r:=.no) (p1.rb.mono p2.same) p2.rb k2 λz _ q=>⟨z,rfl,q _ (p1.same.trans p2.same)⟩
theorem x6(O:XO w g c E X){op op':CmpOp}(ha:PE X a (tE w g c E ia))(hb:PE X b (tE w g c E ib))(hd:PE X d (tE w g c E id'))(hs':zz d=true):PE X (.Compare a [op,op'] [b,d] pos) (tE w g c E (.cmp2 (c2 op) (c2 op') ia ib id')):=
 PE.imp (xE (cq O.K O.units op) (cq O.K O.units op') ha hb hd (eI hs')) λσ H Q ⟨τ,S,se,k⟩=>by
  simp only[qY,qW,za,zb,qX,qZ,zf,ze,zc,qo,qx,qq,qt,qE,qJ,qC,qy,qz,qr,qA,qK,qh,qB,qH,ql,qk,qO,qI,qP,qG,qF,qQ,qT,qp,qN,qS,qM,qD,qm,qu,qL,qR]at k;refine qV se k λda va H1 e1 p1 k1=>qV (se.up p1.same) k1 λdb vb H2 e2 p2 k2=>?_
  have s2:=p1.same.trans p2.same;refine cn (r:=.no) (p1.rb.mono p2.same) p2.rb (tR.bnd k2) λz _ q=>⟨z,rfl,?_⟩
  cases z with
  |true=>
   exact qV (se.up s2) q λdd vd H3 e3 p3 k3=>cn (r:=.no) (p2.rb.mono p3.same) p3.rb (tR.bnd k3) λz _ q=>q _ _ (aN.of (s2.trans p3.same) (.bl _) rfl)
  |false=>exact q _ _ (aN.of s2 (.bl _) rfl)
theorem n5(O:XO w g c E X){op op':CmpOp}(ha:PE X a (tE w g c E ia))(hb:PE X b (tE w g c E ib))(hd:PE X d (tE w g c E id'))(hs':zz d=true):PT X (.Compare a [op,op'] [b,d] pos) (tT w g c E (.cmp2 (c2 op) (c2 op') ia ib id')):=
 PT.imp (Af (cq O.K O.units op) (cq O.K O.units op') ha hb hd (eI hs')) λσ H Q ⟨τ,S,se,k⟩=>by
  simp only[dH,dk,dF,dM,dD,dE,dv]at k;refine qV se k λda va H1 e1 p1 k1=>qV (se.up p1.same) k1 λdb vb H2 e2 p2 k2=>?_
  have s2:=p1.same.trans p2.same;refine cn (r:=.no) (p1.rb.mono p2.same) p2.rb (tR.bnd k2) λz _ q=>⟨z,rfl,?_⟩
  cases z with
  |true=>
   exact qV (se.up s2) q λdd vd H3 e3 p3 k3=>cn (r:=.no) (p2.rb.mono p3.same) p3.rb k3 λz _ q=>⟨z,rfl,q _ (s2.trans p3.same)⟩
  |false=>exact⟨false,rfl,q _ s2⟩
theorem yH(O:XO w g c E X){op op' op'':CmpOp}(ha:PE X a (tE w g c E ia))(hb:PE X b (tE w g c E ib))(hd:PE X d (tE w g c E id'))(hf:PE X f (tE w g c E if'))(hs':zz f=true):PE X (.Compare a [op,op',op''] [b,d,f] pos) (tE w g c E (.cmp3 (c2 op) (c2 op') (c2 op'') ia ib id' if')):=
 PE.imp (oB (cq O.K O.units op) (cq O.K O.units op') (cq O.K O.units op'') ha hb hd hf (eI hs')) λσ H Q ⟨τ,S,se,k⟩=>by
  simp only[qY,qW,za,zb,qX,qZ,zf,ze,zc,qo,qx,qq,qt,qE,qJ,qC,qy,qz,qr,qA,qK,qh,qB,qH,ql,qk,qO,qI,qP,qG,qF,qQ,qT,qp,qN,qS,qM,qD,qm,qu,qL,qR]at k;refine qV se k λda va H1 e1 p1 k1=>qV (se.up p1.same) k1 λdb vb H2 e2 p2 k2=>?_
  have s2:=p1.same.trans p2.same;refine cn (r:=.no) (p1.rb.mono p2.same) p2.rb (tR.bnd k2) λz _ q=>⟨z,rfl,?_⟩
  cases z with
  |true=>
   refine qV (se.up s2) q λdd vd H3 e3 p3 k3=>cn (r:=.no) (p2.rb.mono p3.same) p3.rb (tR.bnd k3) λz _ q=>⟨z,rfl,?_⟩
   have s3:=s2.trans p3.same;cases z with
   |true=>exact qV (se.up s3) q λdf vf H4 e4 p4 k4=>cn (r:=.no) (p3.rb.mono p4.same) p4.rb (tR.bnd k4) λz _ q=>q _ _ (aN.of (s3.trans p4.same) (.bl _) rfl)
   |false=>exact q _ _ (aN.of s3 (.bl _) rfl)
  |false=>exact q _ _ (aN.of s2 (.bl _) rfl)
theorem m9{a b c d:Expr}{ta tb tc td:TE}{pos:Pos}{op op' op'':CmpOp}{r r' r'':R2}(ho:OpR X (aF op) r)(ho':OpR X (aF op') r')(ho'':OpR X (aF op'') r'')(ha:PE X a ta)(hb:PE X b tb)(hc:PE X c tc)(hd:PE X d td)
  (hm:lastMarks [op,op',op''] [b,c,d]=false):PT X (.Compare a [op,op',op''] [b,c,d] pos) (hW (lZ r r' r'' ta tb tc td)):=by
 intro pins s σ H Q I h;refine isTrue_chain (thn (ha pins s σ H _ I h) λv s1 ⟨x,H1,I1,r1,q1⟩=>test_link (thn (hb pins s1 σ H1 _ I1 q1) λu s2 ⟨y,H2,I2,r2,q2⟩=>
  thn (ho pins s2 σ H2 x y v u _ I2 r1 r2 q2) λd s3 ⟨z,H3,I3,r3,k,e,q3⟩=>?_)) hm
 subst e;cases r3;refine a8 ?_;cases k with
 |false=>
  obtain⟨k',e',q'⟩:=q3;cases e';exact ite_ff ⟨H3,I3,q'⟩
 |true=>
  refine ite_tt (test_link (thn (hc pins s3 σ H3 _ I3 q3) λw' s4 ⟨z',H4,I4,r4,q4⟩=>thn (ho' pins s4 σ H4 y z' u w' _ I4 r2 r4 q4) λd' s5 ⟨z2,H5,I5,r5,k2,e2,q5⟩=>?_));subst e2;cases r5;refine a8 ?_;cases k2 with
  |false=>
   obtain⟨k',e',q'⟩:=q5;cases e';exact ite_ff ⟨H5,I5,q'⟩
  |true=>
   refine ite_tt (test_last (thn (hd pins s5 σ H5 _ I5 q5) λw'' s6 ⟨z3,H6,I6,r6,q6⟩=>thn (ho'' pins s6 σ H6 z' z3 w' w'' _ I6 r4 r6 q6) λd'' s7 ⟨z4,H7,I7,r7,k4,e4,q7⟩=>?_));subst e4;cases r7;exact a8 ⟨H7,I7,q7⟩
theorem R.bind_assoc{α β γ:Type}(r:R α)(f:α->R β)(h:β->R γ):(r.bind f).bind h=r.bind λa=>(f a).bind h:=by cases r<;>rfl
theorem tq(O:XO w g c E X){op op' op'':CmpOp}(ha:PE X a (tE w g c E ia))(hb:PE X b (tE w g c E ib))(hd:PE X d (tE w g c E id'))(hf:PE X f (tE w g c E if'))(hs':zz f=true):PT X (.Compare a [op,op',op''] [b,d,f] pos) (tT w g c E (.val (.cmp3 (c2 op) (c2 op') (c2 op'') ia ib id' if'))):=
 PT.imp (m9 (cq O.K O.units op) (cq O.K O.units op') (cq O.K O.units op'') ha hb hd hf (eI hs')) λσ H Q ⟨τ,S,se,k⟩=>by
  simp only[dH,dk,dF,dM,dD,dE,dv,qY,qW,za,zb,qX,qZ,zf,ze,zc,qo,qx,qq,qt,qE,qJ,qC,qy,qz,qr,qA,qK,qh,qB,qH,ql,qk,qO,qI,qP,qG,qF,qQ,qT,qp,qN,qS,qM,qD,qm,qu,qL,qR,R.bind_assoc]at k;refine qV se k λda va H1 e1 p1 k1=>qV (se.up p1.same) k1 λdb vb H2 e2 p2 k2=>?_
  have s2:=p1.same.trans p2.same;refine cn (r:=.no) (p1.rb.mono p2.same) p2.rb (tR.bnd k2) λz _ q=>⟨z,rfl,?_⟩
  cases z with
  |true=>
   simp only[if_true,R.bind_assoc]at q;refine qV (se.up s2) q λdd vd H3 e3 p3 k3=>cn (r:=.no) (p2.rb.mono p3.same) p3.rb (tR.bnd k3) λz _ q=>⟨z,rfl,?_⟩
   have s3:=s2.trans p3.same;cases z with
   |true=>
    simp only[if_true,R.bind_assoc]at q;exact qV (se.up s3) q λdf vf H4 e4 p4 k4=>cn (r:=.no) (p3.rb.mono p4.same) p4.rb (tR.bnd k4) λz _ q=>⟨z,rfl,q _ (s3.trans p4.same)⟩
   |false=>exact⟨false,rfl,q _ s3⟩
  |false=>exact⟨false,rfl,q _ s2⟩
theorem yY(ht:PT X d (tT w g c E ta))(ha:PE X a (tE w g c E ia))(hb:PE X b (tE w g c E ib))(h1:esc ia=true)(h2:esc ib=true):PE X (.IfExp d a b pos) (tE w g c E (.ite ta ia ib)):=
 PE.imp (uU ht ha hb) λσ H Q ⟨τ,S,se,k⟩=>by
  simp only[qY,qW,za,zb,qX,qZ,zf,ze,zc,qo,qx,qq,qt,qE,qJ,qC,qy,qz,qr,qA,qK,qh,qB,qH,ql,qk,qO,qI,qP,qG,qF,qQ,qT,qp,qN,qS,qM,qD,qm,qu,qL,qR]at k;refine gz se k λz H1 e1 s1 k1=>?_
  cases z with
  |true=>exact⟨τ,S,se.up s1,tR.imp k1 λdd hk v H' p=>hk v H' (p.passC s1 h1 rfl λz=>(eF z).1)⟩
  |false=>exact⟨τ,S,se.up s1,tR.imp k1 λdd hk v H' p=>hk v H' (p.passC s1 h2 rfl λz=>(eF z).2)⟩
theorem s_{e:Expr}{ie:EV.E}(h:PE X e (tE w g c E ie)):PE X e (tE w g c E (fR c ie)):=by
 unfold fR;split
 ·rename_i f es
  split
  ·rename_i hg
   refine PE.imp h λσ H Q ⟨τ,S,se,k⟩=>⟨τ,S,se,?_⟩
   have e1:evE w (.lstc f es) τ=(evE w (.call f es) τ).bind λd=>if zo d then .ok d else .no:=by
    simp only[qY,qW,za,zb,qX,qZ,zf,ze,zc,qo,qx,qq,qt,qE,qJ,qC,qy,qz,qr,qA,qK,qh,qB,qH,ql,qk,qO,qI,qP,qG,qF,qQ,qT,qp,qN,qS,qM,qD,qm,qu,qL,qR];cases zG w es τ<;>rfl
   rw[e1]at k;cases q:evE w (.call f es) τ with
   |ok d=>
    rw[q]at k;simp only[R.bind_ok]at k;cases hl:zo d with
    |true=>
     rw[hl,if_pos rfl]at k;exact λv H' p=>k v H' ⟨p.same,p.rb,λ_=>p.st rfl,λz=>p.frc z hl,λz _=>p.frc z hl⟩
    |false=>rw[hl]at k;exact k.elim
   |ex z=>rw[q]at k;exact k
   |no=>rw[q]at k;exact k
  ·exact h
 ·exact h
theorem wu:PA X [] (tA w g c E .nil):=PA.imp cx λσ H Q ⟨τ,S,se,k⟩=>k [] H (qa.refl _) .nil λ_=>.nil
theorem yN{es:List Expr}{ies:Es}(ha:PE X a (tE w g c E ia))(hr:PA X es (tA w g c E ies))(hs:isStar a=false):PA X (a::es) (tA w g c E (.cons ia ies)):=
 PA.imp (zJ ha hr (qw hs)) λσ H Q ⟨τ,S,se,k⟩=>by
  simp only[zG]at k;refine qV se k λda va H1 e1 p1 k1=>dQ (se.up p1.same) k1 λds vs H2 e2 s2 r2 r2' k2=>k2 _ _ (p1.same.trans s2) (.cons (p1.rb.mono s2) r2) λz=>?_
  simp only[cL,ax]at z;exact .cons ((p1.st z.1).mono (qc s2)) (r2' z.2)
theorem iE:∀{es:Es}{τ:Env}{ds:List D}{l:List Expr}{n:Nat},cEs n c l=some es->zG w es τ=.ok ds->ds.length=l.length
 |_,_,_,l,0,h,_=>by simp[cEs]at h
 |es,τ,ds,[],n+1,h,e=>by
  simp only[cEs,bL]at h;subst h;simp only[zG,R.ok.injEq]at e;subst e;rfl
 |es,τ,ds,x::l,n+1,h,e=>by
  simp only[cEs]at h;cases hs:isStar x with
  |true=>simp[hs]at h
  |false=>
   simp only[hs,a7,if_false,aw,au]at h;obtain⟨i1,_,r,hr,h⟩:=h;cases h;simp only[zG]at e;cases q:evE w i1 τ with
   |ok z=>
    rw[q]at e;simp only[R.bind_ok]at e;cases q2:zG w r τ with
    |ok zs=>
     rw[q2]at e;cases e;simp[iE hr q2]
    |ex z=>rw[q2]at e;cases e
    |no=>rw[q2]at e;cases e
   |ex z=>rw[q]at e;cases e
   |no=>rw[q]at e;cases e
theorem mF{n:Nat}(h:n<=100000):n<=sizeLine:=a5 h (by rw[bp];decide)
theorem xu{es:List Expr}{ies:Es}{k:Nat}(ha:PA X es (tA w g c E ies))(he:cL ies=true)(hl:∀τ ds,zG w ies τ=.ok ds->ds.length<=100000):PE X (.Tuple es k pos) (tE w g c E (.tup ies)):=
 PE.imp (wQ ha) λσ H Q ⟨τ,S,se,k⟩=>by
  simp only[qY,qW,za,zb,qX,qZ,zf,ze,zc,qo,qx,qq,qt,qE,qJ,qC,qy,qz,qr,qA,qK,qh,qB,qH,ql,qk,qO,qI,qP,qG,qF,qQ,qT,qp,qN,qS,qM,qD,qm,qu,qL,qR]at k;refine dQ se k λds vs H1 e1 s1 r1 r1' k1=>?_
  have r:=r1' he;exact⟨by rw[<-r.length];exact mF (hl _ _ e1),λp hp=>k1 _ _ (aN.of (s1.trans (zq hp)) (fH (se.sub.same s1) hp r) rfl)⟩
theorem sR{es:List Expr}{ies:Es}(ha:PA X es (tA w g c E ies))(he:cL ies=true)(hl:∀τ ds,zG w ies τ=.ok ds->ds.length<=100000):PE X (.List es pos) (tE w g c E (.lst ies)):=
 PE.imp (oA ha) λσ H Q ⟨τ,S,se,k⟩=>by
  simp only[qY,qW,za,zb,qX,qZ,zf,ze,zc,qo,qx,qq,qt,qE,qJ,qC,qy,qz,qr,qA,qK,qh,qB,qH,ql,qk,qO,qI,qP,qG,qF,qQ,qT,qp,qN,qS,qM,qD,qm,qu,qL,qR]at k;refine dQ se k λds vs H1 e1 s1 r1 r1' k1=>?_
  have r:=r1' he;exact⟨by rw[<-r.length];exact mF (hl _ _ e1),λp hp=>k1 _ _ (aN.new (s1.trans (zq hp)) (e_ (se.sub.same s1) hp r) (gw s1 hp r))⟩
theorem uK{b:Expr}(h:isSlice b=false):lW b:=λo i=>by cases b<;>first|rfl|(simp[isSlice]at h)
theorem oU(O:XO w g c E X)(ha:PE X a (tE w g c E ia))(hb:PE X b (tE w g c E ib))(hs:isSlice b=false):PE X (.Subscript a b pos) (tE w g c E (.ix ia ib)):=
 PE.imp (nE (rl O.K O.units) ha hb (uK hs)) λσ H Q ⟨τ,S,se,k⟩=>by
  simp only[qY,qW,za,zb,qX,qZ,zf,ze,zc,qo,qx,qq,qt,qE,qJ,qC,qy,qz,qr,qA,qK,qh,qB,qH,ql,qk,qO,qI,qP,qG,qF,qQ,qT,qp,qN,qS,qM,qD,qm,qu,qL,qR]at k;refine qV se k λda va H1 e1 p1 k1=>qV (se.up p1.same) k1 λdb vb H2 e2 p2 k2=>⟨S,da,db,p1.rb.mono p2.same,p2.rb,?_⟩
  cases q:ixD da db with
  |ok r=>rw[q]at k2;exact λv r=>k2 v H2 (aN.of (p1.same.trans p2.same) r rfl)
  |ex z=>exact ot q
  |no=>rw[q]at k2;exact k2
theorem sf(O:XO w g c E X){lo hi:Option Expr}{il ih:OE}(ha:PE X a (tE w g c E ia))(hl:PO X lo (tOe w g c E il))(hh:PO X hi (tOe w g c E ih)):PE X (.Subscript a (.Slice lo hi none p2) pos) (tE w g c E (.sl ia il ih)):=
 PE.imp (mW (yJ O.K) ha hl hh) λσ H Q ⟨τ,S,se,k⟩=>by
  simp only[qY,qW,za,zb,qX,qZ,zf,ze,zc,qo,qx,qq,qt,qE,qJ,qC,qy,qz,qr,qA,qK,qh,qB,qH,ql,qk,qO,qI,qP,qG,qF,qQ,qT,qp,qN,qS,qM,qD,qm,qu,qL,qR]at k;refine qV se k λda va H1 e1 p1 k1=>lP (se.up p1.same) k1 λl H2 e2 s2 k2=>lP (se.up (p1.same.trans s2)) k2 λh H3 e3 s3 k3=>?_
  have s:=(p1.same.trans s2).trans s3;refine⟨S,da,se.sub.same s,p1.rb.mono (s2.trans s3),?_⟩;cases q:slD da l h with
  |ok r=>rw[q]at k3;exact λv H' s' r=>k3 v H' (aN.of (s.trans s') r rfl)
  |ex z=>exact yg q
  |no=>rw[q]at k3;exact k3
theorem xi:PO X none (tOe w g c E .none):=PO.imp uC λσ H Q ⟨τ,S,se,k⟩=>k H (qa.refl _)
theorem vp(ha:PE X a (tE w g c E ia)):PO X (some a) (tOe w g c E (.some ia)):=PO.imp (oy ha) λσ H Q ⟨τ,S,se,k⟩=>by
 simp only[evO]at k;refine qV se k λda va H1 e1 p1 k1=>?_
 cases da with
 |int i=>exact⟨i,p1.rb.int,k1 _ p1.same⟩
 |_=>exact k1.elim
theorem nk(O:XO w g c E X){x:Str}{fr:Bool}{e:Expr}{es:List Expr}{ies:Es}(h:glob c x=some (.fn fr))(ha:PA X (e::es) (tA w g c E ies))(he:cL ies=true)(hs:∀z∈e::es,isStar z=false):PE X (.Call (.Name x p2) (e::es) [] pos) (tE w g c E (.call x ies)):=by
 obtain⟨f,h1,h2⟩:=O.gm h;refine PE.imp (mm O h2 (O.gl h) (zF h).2.2.1 ha hs) λσ H Q ⟨τ,S,se,k⟩=>?_
 simp only[qY,qW,za,zb,qX,qZ,zf,ze,zc,qo,qx,qq,qt,qE,qJ,qC,qy,qz,qr,qA,qK,qh,qB,qH,ql,qk,qO,qI,qP,qG,qF,qQ,qT,qp,qN,qS,qM,qD,qm,qu,qL,qR]at k;refine dQ se k λds vs H1 e1 s1 r1 r1' k1=>⟨S,ds,se.sub.same s1,by rw[List.append_nil];exact r1' he,tR.imp k1 λdd hk v H' s' r f=>hk v H' ⟨s1.trans s',.inl r,λ_=>r,(λz=>by cases z),λz l=>?_⟩⟩
 simp only[bV,(zF h).2.1,beq_iff_eq,bL,GK.fn.injEq]at z;exact(f z l).low s1
noncomputable def LD(o:HO):Prop:=((∃vs,o=.lst vs)\/∃m,o=.dK m)\/∃φ,o=.ext φ
theorem bH.ld{H:Hp}{a:Addr}{d:D}{o:HO}(h:bH g H a d o):LD o:=by
 cases h with
 |lst r=>exact .inl (.inl ⟨_,rfl⟩)
 |dic k=>exact .inl (.inr ⟨_,rfl⟩)
 |dct q r=>exact .inr ⟨_,rfl⟩
theorem nH{H:Hp}{S S':Sh}(hL:∀a,S'.h a=false->S.h a=true->∃o,H a=some o/\LD o){K:ao}{a:Addr}{xs:List V}(q:SqT K (hid H S') a xs):SqT K (hid H S) a xs:=by
 have key:∀o:HO,¬ LD o->hid H S' a=some o->hid H S a=some o:=λo ho z=>by
  obtain⟨z1,z2⟩:=aV.mp z;refine aV.mpr ⟨?_,z2⟩;cases y:S.h a with
  |false=>rfl
  |true=>
   obtain⟨o',e,ld⟩:=hL a z1 y;rw[z2]at e;cases e;exact absurd ld ho
 rcases q with (q|⟨o,q⟩)|q
 ·exact .inl (.inl (key _ (by rintro((⟨_,z⟩|⟨_,z⟩)|⟨_,z⟩)<;>cases z) q))
 ·exact .inl (.inr ⟨o,key _ (by rintro((⟨_,z⟩|⟨_,z⟩)|⟨_,z⟩)<;>cases z) q⟩)
 ·exact .inr q
theorem uP{H:Hp}{S S':Sh}(hL:∀a,S'.h a=false->S.h a=true->∃o,H a=some o/\LD o){d:D}{v:V}(hn:d.noL=true)(h:Rep g (hid H S') d v):Rep g (hid H S) d v:=
 h.rec (motive_1:=λd v _=>d.noL=true->Rep g (hid H S) d v) (motive_2:=λd v _=>ji d=true->qU g (hid H S) d v) (λ_=>.non) (λb _=>.bl b) (λb _=>.int b) (λb _=>.str b) (λq _ r p=>.tup (nH hL q) (r p)) (λ_ _ _ p=>nomatch p) (λ_ p=>nomatch p) (λ_ _ p=>nomatch p) (λ_ p=>nomatch p) (λ_ _ _ _ p=>nomatch p) (λ_=>.nil) (λ_ _ a b p=>.cons (a (eF p).1) (b (eF p).2)) hn
noncomputable def fE(S:Sh)(L:List Addr):Sh:=⟨λ_=>false,λb=>S.h b && !L.contains b,S.z,S.y⟩
theorem ka{H:Hp}{S:Sh}{L:List Addr}:qa (hid H S) (hid H (fE S L)):=λb o h=>by
 obtain⟨h1,h2⟩:=aV.mp h;exact aV.mpr ⟨by show (S.h b&&_)=false;rw[h1];rfl,h2⟩
theorem nt{H:Hp}{S:Sh}{L:List Addr}{a:Addr}:qa (hid H (fE S L)) (hid H (fE S (a::L))):=λb o h=>by
 obtain⟨h1,h2⟩:=aV.mp h;refine aV.mpr ⟨?_,h2⟩;have h1:(S.h b && !L.contains b)=false:=h1;show (S.h b && !(a::L).contains b)=false;cases q:S.h b with
 |false=>rfl
 |true=>
  rw[q]at h1;have h1:L.contains b=true:=by simpa using h1
  simp only[List.contains_cons,h1,Bool.or_true];rfl
theorem seen{H:Hp}{S:Sh}:∀{ds:List D}{vs:List V},cZ g H S ds vs->∃L:List Addr,(∀a∈L,∃o,H a=some o/\LD o)/\qU g (hid H (fE S L)) ds vs
 |_,_,.nil=>⟨[],by simp,.nil⟩
 |_,_,.cons r t=>by
  obtain⟨L,h1,h2⟩:=seen t;rcases r with r|⟨a,o,z1,rfl,z4,z5⟩
  ·exact⟨L,h1,.cons (r.mono ka) h2⟩
  ·refine⟨a::L,λb hb=>?_,.cons (z5.rep ka (aV.mpr ⟨?_,z4⟩)) (h2.mono nt)⟩
   ·rcases aL.mp hb with rfl|hb
    ·exact⟨o,z4,z5.ld⟩
    ·exact h1 b hb
   ·show (S.h a && !(a::L).contains a)=false;simp
theorem uV(O:XO w g c E X){x:Str}{fr:Bool}{e:Expr}{es:List Expr}{ies:Es}(h:glob c x=some (.fn fr))(ha:PA X (e::es) (tA w g c E ies))(hs:∀z∈e::es,isStar z=false):PE X (.Call (.Name x p2) (e::es) [] pos) (tE w g c E (.callo x ies)):=by
 obtain⟨f,h1,h2⟩:=O.gm h;refine PE.imp (mm O h2 (O.gl h) (zF h).2.2.1 ha hs) λσ H Q ⟨τ,S,se,k⟩=>?_
 simp only[qY,qW,za,zb,qX,qZ,zf,ze,zc,qo,qx,qq,qt,qE,qJ,qC,qy,qz,qr,qA,qK,qh,qB,qH,ql,qk,qO,qI,qP,qG,qF,qQ,qT,qp,qN,qS,qM,qD,qm,qu,qL,qR]at k;refine dQ se k λds vs H1 e1 s1 r1 r1' k1=>?_
 obtain⟨L,hL,rr⟩:=seen r1;refine⟨fE S L,ds,λa ha=>?_,by rw[List.append_nil];exact rr,?_⟩
 ·refine se.sub.same s1 a ?_;rcases ha with ha|ha
  ·have ha:(S.h a && !L.contains a)=true:=ha;exact .inl (ax _ _▸ha).1
  ·cases ha
 ·cases q:w.call x ds with
  |ok d=>
   rw[q]at k1;simp only[R.bind_ok]at k1;split at k1
   ·rename_i hd
    intro v H' s' r _;refine k1 v H' (aN.of (s1.trans s') (uP (λa z1 z2=>?_) hd r) rfl);have z1:(S.h a && !L.contains a)=false:=z1;rw[z2]at z1;obtain⟨us,e,ld⟩:=hL a (by simpa using z1);exact⟨us,s' _ _ e,ld⟩
   ·exact k1.elim
  |ex z=>rw[q]at k1;exact λH' C sm hc=>k1 H' C sm hc
  |no=>rw[q]at k1;exact k1.elim
theorem vN{a b:Expr}{ia ib:EV.E}{t0 t1 t2:Str}{k0 k1 k2}{p0 p1 p2 p3 p4 pos:Pos}(h0:(Str.empty++t0).length<=1000)(ha:PE X a (tE w g c E ia))(hb:PE X b (tE w g c E ib)) :
  PE X (.JoinedStr [.Constant (.str t0) k0 p0,.FormattedValue a (-1) none p1,.Constant (.str t1) k1 p2,.FormattedValue b (-1) none p3,.Constant (.str t2) k2 p4] pos) (tE w g c E (.fst2 t0 ia t1 ib t2)):=λpins s σ H Q I ⟨τ,S,se,kk⟩=>by
 simp only[qY,qW,za,zb,qX,qZ,zf,ze,zc,qo,qx,qq,qt,qE,qJ,qC,qy,qz,qr,qA,qK,qh,qB,qH,ql,qk,qO,qI,qP,qG,qF,qQ,qT,qp,qN,qS,qM,qD,qm,qu,qL,qR]at kk;exact aM kk
theorem xA(ha:PE X a (tE w g c E ia))(hb:PE X b (tE w g c E ib)):PE X (.Dict [some a] [b] pos) (tE w g c E (.dic1 ia ib)):=by
 refine PE.imp (xn (gy ha hb jm) rfl rfl (by simp) (by simp)) λσ H Q ⟨τ,S,se,k⟩ p hp=>?_
 simp only[qY,qW,za,zb,qX,qZ,zf,ze,zc,qo,qx,qq,qt,qE,qJ,qC,qy,qz,qr,qA,qK,qh,qB,qH,ql,qk,qO,qI,qP,qG,qF,qQ,qT,qp,qN,qS,qM,qD,qm,qu,qL,qR]at k;have s0:qa H (upd H p (.dK [])):=zq hp;show tE w g c E ia σ (upd H p (.dK [])) λx H1=>tE w g c E ib σ H1 λy H2=>_
 refine qV (se.up s0) (tR.up k s0) λda va H1 e1 p1 k1=>?_
 refine qV ((se.up s0).up p1.same) k1 λdb vb H2 e2 p2 k2=>?_
 cases da with
 |int i=>cases db with
  |int j=>
   have h1:=p1.rb.int;have h2:=p2.rb.int;subst h1 h2;refine⟨p2.same _ _ (p1.same _ _ zi),[(Sum.inl i,.int j)],rfl,by simp,k2 _ _ ?_⟩;have sm:qa H (upd H2 p (.dK (aY [(i,j)]))):=λb o hb=>by
    rw[qg (λz=>by rw[z,hp]at hb;cases hb)];exact p2.same _ _ (p1.same _ _ (s0 _ _ hb))
   exact aN.new (d:=.dic [(i,j)]) sm (.dic (aV.mpr ⟨se.sub.free hp,zi⟩)) ⟨p,_,rfl,hp,zi,.dic [(i,j)]⟩
  |_=>exact k2.elim
 |_=>exact k2.elim
theorem eJ{τ:Env}{σ:L2.St}{H:Hp}{S:Sh}{p:Addr}{H1:Hp}{ks:List (List Int)}{ds:List EV.D}{vs:List V}{xs:List WD.E3}{ep:Nat}{e:EV.E}(se:SE g c τ σ H S)(hp:H p=none)(sm1:qa (upd H p (WD.zv p [] 0)) H1)
  (r:WD.zu g.K (hid H1 (zB S p)) ks vs xs) (r2:qU g (hid H1 (zB S p)) ds vs):aN g c e S H (.dct ks ds) (.ref p) (upd H1 p (WD.zv p xs ep)):=by
 have sm:qa H (upd H1 p (WD.zv p xs ep)):=λb o hb=>by
  rw[qg (λz=>by rw[z,hp]at hb;cases hb)];exact sm1 _ _ (zq hp _ _ hb)
 have up:qa (hid H1 (zB S p)) (hid (upd H1 p (WD.zv p xs ep)) (zB S p)):=λb o hb=>by
  obtain⟨z1,z2⟩:=aV.mp hb;refine aV.mpr ⟨z1,?_⟩;have:b≠p:=λz=>by
   have z1:(S.h b||b==p)=false:=z1;rw[z]at z1;simp at z1
  rw[qg this];exact z2
 have low:qa (hid (upd H1 p (WD.zv p xs ep)) (zB S p)) (hid (upd H1 p (WD.zv p xs ep)) S):=λb o hb=>by
  obtain⟨z1,z2⟩:=aV.mp hb;have z1:(S.h b||b==p)=false:=z1;simp only[Bool.or_eq_false_iff]at z1;exact aV.mpr ⟨z1.1,z2⟩
 exact aN.new sm (.dct (aV.mpr ⟨se.sub.free hp,zi⟩) ((r.up up).up low) ((r2.mono up).mono low)) ⟨p,_,rfl,hp,zi,.dct (r.up up) (r2.mono up)⟩
theorem SE.plus{τ:Env}{σ:L2.St}{H:Hp}{S:Sh}{p:Addr}{o:HO}(se:SE g c τ σ H S)(n:H p=none):SE g c τ σ (upd H p o) (zB S p):=by
 refine⟨se.len,λi d h=>?_,λa ha hn=>?_⟩
 ·obtain⟨v,h1,h2,h3⟩:=se.val i d h;refine⟨v,h1,?_,λx q1 q2=>(h3 x q1 q2).mono (dS n)⟩;rcases h2 with h2|⟨a,o',z1,z2,z3,z4⟩
  ·exact .inl (h2.mono (dS n))
  ·exact .inr ⟨a,o',z1,z2,zq n _ _ z3,z4.mono (dS n)⟩
 ·by_cases q:a=p
  ·rw[q,zi]at hn;cases hn
  ·rw[qg q]at hn;refine se.sub a ?_ hn;rcases ha with ha|ha
   ·have ha:(S.h a||a==p)=true:=ha;exact .inl (by simpa[q]using ha)
   ·exact .inr ha
theorem fA{H:Hp}{S:Sh}{xs:List EV.D}{x:V}{k:List Int}(h:zw g H S (.tup xs) x)(e:ints? xs=some k):∃b,x=.ref b/\SqT g.K (hid H S) b (k.map V.int):=by
 cases h.strong (by intro _ z;cases z)with
 |tup h2 r=>
  obtain⟨rfl,rfl⟩:=r.ints e;exact⟨_,rfl,h2⟩
theorem kc{S:Sh}{p:Addr}{H:Hp}:hid H (zB S p) p=none:=by
 unfold hid;rw[show (zB S p).h p=true from by show (S.h p||p==p)=true;simp]
 rfl
theorem o7(O:XO w g c E X)(ha:PE X a (tE w g c E ia))(hb:PE X b (tE w g c E ib))(hes:esc ib=true):PE X (.Dict [some a] [b] pos) (tE w g c E (.dct1 ia ib)):=by
 have hu:=O.units;refine PE.imp (WD.lu (by lia) (gy ha hb jm) rfl rfl (by simp) (by simp)) λσ H Q ⟨τ,S,se,k⟩ p hp=>?_
 simp only[qY,qW,za,zb,qX,qZ,zf,ze,zc,qo,qx,qq,qt,qE,qJ,qC,qy,qz,qr,qA,qK,qh,qB,qH,ql,qk,qO,qI,qP,qG,qF,qQ,qT,qp,qN,qS,qM,qD,qm,qu,qL,qR]at k;have s0:qa H (upd H p (WD.zv p [] 0)):=zq hp;have se0:SE g c τ σ (upd H p (WD.zv p [] 0)) (zB S p):=se.plus hp;show tE w g c E ia σ (upd H p (WD.zv p [] 0)) λx H1=>tE w g c E ib σ H1 λy H2=>_
 refine qV se0 (tR.up k s0) λda va H1 e1 p1 k1=>?_
 refine qV (se0.up p1.same) k1 λdb vb H2 e2 p2 k2=>?_
 cases da with
 |tup xs=>
  simp only[dI]at k2;cases ek:ints? xs with
  |none=>rw[ek]at k2;exact k2.elim
  |some kk=>
   rw[ek]at k2;obtain⟨b',rfl,hb'⟩:=fA p1.rb ek;refine⟨p2.same _ _ (p1.same _ _ zi),by simp,[(kk,vb)],hid H2 (zB S p),zy,kc,.cons (by rw[O.K];exact zW (qc p2.same) hb') .nil,λxs' ep' r=>k2 _ _ ?_⟩;rw[O.K]at r;exact eJ se hp (p1.same.trans p2.same) r (.cons (p2.st hes) .nil)
 |_=>exact k2.elim
theorem pB(O:XO w g c E X){a2 b2:Expr}{ia2 ib2:EV.E}(ha:PE X a (tE w g c E ia))(hb:PE X b (tE w g c E ib))(hes:esc ib=true)(ha2:PE X a2 (tE w g c E ia2))(hb2:PE X b2 (tE w g c E ib2))(hes2:esc ib2=true):PE X (.Dict [some a,some a2] [b,b2] pos) (tE w g c E (.dct2 ia ib ia2 ib2)):=by
 have hu:=O.units;refine PE.imp (WD.lu (by lia) (gy ha hb (gy ha2 hb2 jm)) rfl rfl (by simp) (by simp)) λσ H Q ⟨τ,S,se,k⟩ p hp=>?_
 simp only[qY,qW,za,zb,qX,qZ,zf,ze,zc,qo,qx,qq,qt,qE,qJ,qC,qy,qz,qr,qA,qK,qh,qB,qH,ql,qk,qO,qI,qP,qG,qF,qQ,qT,qp,qN,qS,qM,qD,qm,qu,qL,qR]at k;have s0:qa H (upd H p (WD.zv p [] 0)):=zq hp;have se0:SE g c τ σ (upd H p (WD.zv p [] 0)) (zB S p):=se.plus hp;show tE w g c E ia σ (upd H p (WD.zv p [] 0)) λx H1=>tE w g c E ib σ H1 λy H2=>tE w g c E ia2 σ H2 λx H3=>tE w g c E ib2 σ H3 λy H4=>_
 refine qV se0 (tR.up k s0) λda va H1 e1 p1 k1=>?_
 refine qV (se0.up p1.same) k1 λdb vb H2 e2 p2 k2=>?_
 refine qV ((se0.up p1.same).up p2.same) k2 λda2 va2 H3 e3 p3 k3=>?_
 refine qV (((se0.up p1.same).up p2.same).up p3.same) k3 λdb2 vb2 H4 e4 p4 k4=>?_
 cases da with
 |tup xs=>
  cases da2 with
  |tup ys=>
   simp only[dI]at k4;cases ek:ints? xs with
   |none=>rw[ek]at k4;exact k4.elim
   |some kk=>
    cases el:ints? ys with
    |none=>rw[ek,el]at k4;exact k4.elim
    |some ll=>
     rw[ek,el]at k4;obtain⟨b',rfl,hb'⟩:=fA p1.rb ek;obtain⟨b'',rfl,hb''⟩:=fA p3.rb el;have s24:=(p2.same.trans p3.same).trans p4.same;refine⟨p4.same _ _ (p3.same _ _ (p2.same _ _ (p1.same _ _ zi))),by simp,[(kk,vb),(ll,vb2)],hid H4 (zB S p),zy,kc,.cons (by rw[O.K];exact zW (qc s24) hb') (.cons (by rw[O.K];exact zW (qc p4.same) hb'') .nil),λxs' ep' r=>k4 _ _ ?_⟩;rw[O.K]at r;have r1:=(p2.st hes).mono (qc (p3.same.trans p4.same));have r2:=p4.st hes2;refine eJ se hp (p1.same.trans s24) r ?_;show qU g _ (WD.dr [] [] [(kk,db),(ll,db2)]) (WD.dr [] [] [(kk,vb),(ll,vb2)]);simp only[WD.dr,WD.cy,WD.cb,List.any_nil,a7,if_false,List.nil_append];by_cases q:kk=ll
     ·subst q;simp[WD.cw];exact .cons r2 .nil
     ·simp[q,WD.cw];exact .cons r1 (.cons r2 .nil)
  |_=>exact k4.elim
 |_=>cases da2<;>exact k4.elim
theorem ux(O:XO w g c E X){o:Expr}{ap cp:Pos}(hb:baseOk o=true)(ho:PE X o (tE w g c E ia))(ha:PE X a (tE w g c E ib))(hs:isStar a=false)(hl:(ap.endLine==cp.line)=true) :
  PE X (.Call (.Attribute o "get" ap) [a] [] cp) (tE w g c E (.dget ia ib)):=by
 have hst:=qw (es:=[]) (env:=X.env) hs;have hu:=O.units;have hK:=O.K;refine PE.imp (WD.nC (by lia) ho ha ⟨jX hb,by rw[hst];rfl,hl,by rw[hst];rfl⟩) λσ H Q ⟨τ,S,se,k⟩=>?_
 simp only[qY,qW,za,zb,qX,qZ,zf,ze,zc,qo,qx,qq,qt,qE,qJ,qC,qy,qz,qr,qA,qK,qh,qB,qH,ql,qk,qO,qI,qP,qG,qF,qQ,qT,qp,qN,qS,qM,qD,qm,qu,qL,qR]at k;refine qV se k λda va H1 e1 p1 k1=>?_
 cases da with
 |dic kvs=>
  obtain⟨l,rfl,h1⟩:=p1.rb.dic;refine⟨l,rfl,.inl (.inl ⟨_,.inl h1⟩),qV (se.up p1.same) k1 λdb vb H2 e2 p2 k2=>?_⟩;cases db with
  |int i=>
   have h2:=p2.rb.int;subst h2;refine .inl ⟨_,bX.k (k:=Sum.inl i) (p2.same _ _ h1),?_⟩;rw[iu];cases e:atK kvs i with
   |none=>simp only[dY,b7,e]at k2;exact k2 _ _ (aN.of (p1.same.trans p2.same) .non rfl)
   |some v=>simp only[dY,b7,e]at k2;exact k2 _ _ (aN.of (p1.same.trans p2.same) (.int v) rfl)
  |tup xs=>
   simp only[dY,b7]at k2;split at k2
   ·rename_i q
    cases List.isEmpty_iff.mp q;simp only[dw]at k2;cases ek:ints? xs with
    |none=>rw[ek]at k2;exact k2.elim
    |some kk=>
     rw[ek]at k2;obtain⟨b',rfl,hb'⟩:=d_ p2.rb ek;exact .inr ⟨b',[],[],[],kk,rfl,.inr ⟨rfl,p2.same _ _ h1⟩,.nil,by rw[hK];exact hb',k2 _ _ (aN.of (p1.same.trans p2.same) .non rfl)⟩
   ·exact k2.elim
  |_=>simp only[dY,b7,dw]at k2;split at k2<;>exact k2.elim
 |dct ks ds=>
  obtain⟨l,vs,ys,ep,rfl,h1,r1,r2⟩:=p1.rb.dct;refine⟨l,rfl,.inr ⟨_,_,h1⟩,qV (se.up p1.same) k1 λdb vb H2 e2 p2 k2=>?_⟩;cases db with
  |tup xs=>
   simp only[dY,b7,dw]at k2;cases ek:ints? xs with
   |none=>rw[ek]at k2;exact k2.elim
   |some kk=>
    rw[ek]at k2;dsimp only at k2;obtain⟨b',rfl,hb'⟩:=d_ p2.rb ek;refine .inr ⟨b',ys,ks,vs,kk,rfl,.inl ⟨ep,p2.same _ _ h1⟩,by rw[hK];exact(r1.up zy).up p2.same,by rw[hK];exact hb',?_⟩;cases ea:WD.atT ks ds kk with
    |none=>rw[ea]at k2;rw[i' r1.len.1 r2 ea];exact k2 _ _ (aN.of (p1.same.trans p2.same) .non rfl)
    |some d=>
     rw[ea]at k2;obtain⟨v,hv,rv⟩:=fQ r1.len.1 r2 ea;rw[hv];exact k2 _ _ (aN.of (p1.same.trans p2.same) (rv.mono (qc p2.same)) rfl)
  |_=>exact k2.elim
 |_=>exact k1.elim
theorem uz(O:XO w g c E X){o d:Expr}{id:EV.E}{ap cp:Pos}(hb:baseOk o=true)(ho:PE X o (tE w g c E ia))(ha:PE X a (tE w g c E ib))(hd:PE X d (tE w g c E id))(hs:isStar a=false)(hsd:isStar d=false)(hes:esc id=true)(hl:(ap.endLine==cp.line)=true) :
  PE X (.Call (.Attribute o "get" ap) [a,d] [] cp) (tE w g c E (.dget2 ia ib id)):=by
 have hst:=qw (es:=[]) (env:=X.env) hsd;have hst2:=qw (es:=[d]) (env:=X.env) hs;have hu:=O.units;have hK:=O.K;refine PE.imp (WD.rj (by lia) ho ha hd ⟨jX hb,by rw[hst2,hst];rfl,hl,by rw[hst2,hst];rfl⟩) λσ H Q ⟨τ,S,se,k⟩=>?_
 simp only[qY,qW,za,zb,qX,qZ,zf,ze,zc,qo,qx,qq,qt,qE,qJ,qC,qy,qz,qr,qA,qK,qh,qB,qH,ql,qk,qO,qI,qP,qG,qF,qQ,qT,qp,qN,qS,qM,qD,qm,qu,qL,qR]at k;refine qV se k λda va H1 e1 p1 k1=>?_
 cases da with
 |dic kvs=>
  obtain⟨l,rfl,h1⟩:=p1.rb.dic;refine⟨l,rfl,.inl (.inl ⟨_,.inl h1⟩),qV (se.up p1.same) k1 λdb vb H2 e2 p2 k2=>qV ((se.up p1.same).up p2.same) k2 λdz vz H3 e3 p3 k3=>?_⟩;have s23:=p2.same.trans p3.same;cases db with
  |int i=>
   have h2:=p2.rb.int;subst h2;refine .inl ⟨_,bX.k (k:=Sum.inl i) (p3.same _ _ (p2.same _ _ h1)),?_⟩;rw[iu];cases e:atK kvs i with
   |none=>simp only[b7,e]at k3;exact k3 _ _ (aN.of ((p1.same.trans p2.same).trans p3.same) (p3.st hes) rfl)
   |some v=>simp only[b7,e]at k3;exact k3 _ _ (aN.of ((p1.same.trans p2.same).trans p3.same) (.int v) rfl)
  |tup xs=>
   simp only[b7]at k3;split at k3
   ·rename_i q
    cases List.isEmpty_iff.mp q;simp only[dw]at k3;cases ek:ints? xs with
    |none=>rw[ek]at k3;exact k3.elim
    |some kk=>
     rw[ek]at k3;obtain⟨b',rfl,hb'⟩:=d_ p2.rb ek;exact .inr ⟨b',[],[],[],kk,rfl,.inr ⟨rfl,s23 _ _ h1⟩,.nil,by rw[hK];exact zW p3.same hb',k3 _ _ (aN.of (p1.same.trans s23) (p3.st hes) rfl)⟩
   ·exact k3.elim
  |_=>simp only[b7,dw]at k3;split at k3<;>exact k3.elim
 |dct ks ds=>
  obtain⟨l,vs,ys,ep,rfl,h1,r1,r2⟩:=p1.rb.dct;refine⟨l,rfl,.inr ⟨_,_,h1⟩,qV (se.up p1.same) k1 λdb vb H2 e2 p2 k2=>qV ((se.up p1.same).up p2.same) k2 λdz vz H3 e3 p3 k3=>?_⟩;have s23:=p2.same.trans p3.same;cases db with
  |tup xs=>
   simp only[b7,dw]at k3;cases ek:ints? xs with
   |none=>rw[ek]at k3;exact k3.elim
   |some kk=>
    rw[ek]at k3;dsimp only at k3;obtain⟨b',rfl,hb'⟩:=d_ p2.rb ek;refine .inr ⟨b',ys,ks,vs,kk,rfl,.inl ⟨ep,s23 _ _ h1⟩,by rw[hK];exact(r1.up zy).up s23,by rw[hK];exact zW p3.same hb',?_⟩;cases ea:WD.atT ks ds kk with
    |none=>rw[ea]at k3;rw[i' r1.len.1 r2 ea];exact k3 _ _ (aN.of (p1.same.trans s23) (p3.st hes) rfl)
    |some d=>
     rw[ea]at k3;obtain⟨v,hv,rv⟩:=fQ r1.len.1 r2 ea;rw[hv];exact k3 _ _ (aN.of (p1.same.trans s23) (rv.mono (qc s23)) rfl)
  |_=>exact k3.elim
 |_=>exact k1.elim
theorem yI(O:XO w g c E X)(hc:X.calm=true){x:Str}{bb:Option B1}(h:glob c x=some (.ty "list" bb))(ha:PE X a (tE w g c E ia))(hs:isStar a=false):PE X (.Call (.Name x p2) [a] [] pos) (tE w g c E (.lsd ia)):=by
 obtain⟨h1,h2,_,h3⟩:=O.gm h;have hK:=O.K;refine PE.imp (mi (yR.or (oY hc)) (O.gl h) h1 h2 (zJ ha cx (qw hs)) (zF h).2.2.2 (zF h).2.2.1 (qw hs)) λσ H Q ⟨τ,S,se,k⟩=>?_
 simp only[qY,qW,za,zb,qX,qZ,zf,ze,zc,qo,qx,qq,qt,qE,qJ,qC,qy,qz,qr,qA,qK,qh,qB,qH,ql,qk,qO,qI,qP,qG,qF,qQ,qT,qp,qN,qS,qM,qD,qm,qu,qL,qR]at k;refine qV se k λda va H1 e1 p1 k1=>?_
 cases da with
 |lst xs=>
  obtain⟨l,vs,rfl,q1,q2⟩:=p1.rb.lst;refine .inl ⟨l,vs,rfl,.inl (by rw[hK];exact q1),λp hp=>?_⟩;exact k1 _ _ (aN.new (p1.same.trans (zq hp)) (e_ (se.sub.same p1.same) hp q2) ((gw (qa.refl _) hp q2).low p1.same))
 |dic kvs=>
  obtain⟨l,rfl,q1⟩:=p1.rb.dic;refine .inr ⟨l,kvs,rfl,q1,λp hp=>?_⟩;have r:qU g (hid H1 S) (kvs.map λp=>D.int p.1) (kvs.map λp=>V.int p.1):=by
   have:=qU.ofInts (g:=g) (H:=hid H1 S) (kvs.map (·.1));rw[List.map_map,List.map_map]at this;exact this
  exact k1 _ _ (aN.new (p1.same.trans (zq hp)) (e_ (se.sub.same p1.same) hp r) ((gw (qa.refl _) hp r).low p1.same))
 |_=>exact k1.elim
theorem wt:PE X (.Dict [] [] pos) (tE w g c E .dic):=PE.imp yl λσ H Q ⟨τ,S,se,k⟩ p hp=>by
 simp only[qY,qW,za,zb,qX,qZ,zf,ze,zc,qo,qx,qq,qt,qE,qJ,qC,qy,qz,qr,qA,qK,qh,qB,qH,ql,qk,qO,qI,qP,qG,qF,qQ,qT,qp,qN,qS,qM,qD,qm,qu,qL,qR]at k;exact k _ _ (aN.new (zq hp) (z9 (kvs:=[]) se.sub hp) (pv (kvs:=[]) (qa.refl _) hp))
theorem mH{b:B1}{S:Sh}{H0 H:Hp}{ds:List D}{vs:List V}{Q:VK}{ies:Es}(s:qa H0 H)(hS:Sub S H)(r:cZ g H S ds vs)(k:tR g E H (b1 b ds) λd=>∀v H',aN g c (.bi b ies) S H0 d v H'->Q v H'):rB1 g b vs H Q:=by
 refine⟨S,ds,hS,r,?_⟩;cases q:b1 b ds with
 |ok d=>
  rw[q]at k;have fw:fresh c (.bi b ies)=true->b=.list\/b=.sorted:=λz=>by cases b<;>simp[fresh]at z ⊢
  exact λv H' s' r' f=>k v H' ⟨s.trans s',.inl r',λ_=>r',λz=>(f (fw z)).low s,λz _=>(f (fw z)).low s⟩
 |ex z=>exact yb q
 |no=>rw[q]at k;exact k
theorem yf(O:XO w g c E X){x:Str}{b:B1}{e:Expr}{es:List Expr}{ies:Es}(h:glob c x=some (.bi b))(hc:X.calm=true\/b=.len\/b=.abs)(ha:PA X (e::es) (tA w g c E ies))(hs:∀z∈e::es,isStar z=false):PE X (.Call (.Name x p2) (e::es) [] pos) (tE w g c E (.bi b ies)):=by
 obtain⟨h1,h2,id,h3⟩:=O.gm h;have hb:=mY b;rw[<-h2,h3]at hb;have hcall:=kD (X:=X) (g:=g) O.K O.units b (by rcases hc with z|z|z;exact .inl z;exact .inr (.inl z);exact .inr (.inr (.inl z)));rw[h3]at hcall;refine PE.imp (j0 hcall (O.gl h) h1 hb ha (zF h).2.2.2 (zF h).2.2.1 (qw (hs e aP)) (gP λz hz=>hs z (aO _ hz))) λσ H Q ⟨τ,S,se,k⟩=>?_
 simp only[qY,qW,za,zb,qX,qZ,zf,ze,zc,qo,qx,qq,qt,qE,qJ,qC,qy,qz,qr,qA,qK,qh,qB,qH,ql,qk,qO,qI,qP,qG,qF,qQ,qT,qp,qN,qS,qM,qD,qm,qu,qL,qR]at k;exact dQ se k λds vs H1 e1 s1 r1 r1' k1=>mH (ies:=ies) s1 (se.sub.same s1) r1 k1
theorem p7(O:XO w g c E X){x:Str}{n:String}{b:B1}{e:Expr}{es:List Expr}{ies:Es}(h:glob c x=some (.ty n (some b)))(ha:PA X (e::es) (tA w g c E ies))(hs:∀z∈e::es,isStar z=false):PE X (.Call (.Name x p2) (e::es) [] pos) (tE w g c E (.bi b ies)):=by
 obtain⟨h1,h2,_,h3⟩:=O.gm h;obtain⟨_,h4⟩:=h3 b rfl;have hcall:=kD (X:=X) (g:=g) O.K O.units b (by cases b<;>simp[b1V]at h4 ⊢);rw[h4]at hcall;refine PE.imp (mi hcall (O.gl h) h1 h2 ha (zF h).2.2.2 (zF h).2.2.1 (qw (hs e aP)) (gP λz hz=>hs z (aO _ hz))) λσ H Q ⟨τ,S,se,k⟩=>?_
 simp only[qY,qW,za,zb,qX,qZ,zf,ze,zc,qo,qx,qq,qt,qE,qJ,qC,qy,qz,qr,qA,qK,qh,qB,qH,ql,qk,qO,qI,qP,qG,qF,qQ,qT,qp,qN,qS,qM,qD,qm,qu,qL,qR]at k;exact dQ se k λds vs H1 e1 s1 r1 r1' k1=>mH (ies:=ies) s1 (se.sub.same s1) r1 k1
end
section
variable{w:W}{g:Gc}{c:Cc}{E:XK}{X:Cx}{a b d f:Expr}{ia ib id' if':EV.E}{pos p2:Pos}{ta tb:T}
noncomputable def wO(w:W)(g:Gc)(d:D)(vc:V)(bb:Bool):Cl->Prop
 | .ty n=>vc=.ty n/\((n∈["int","bool","str","list","tuple"]/\∃t,tyD d=some t/\bb=dP t n)\/∃k,d=.exn k/\w.sub k (.ty n)=some bb)
 | .ex x=>∃D k,g.clA x=some D/\vc=.ref D/\d=.exn k/\w.sub k (.ex x)=some bb
noncomputable def clV(g:Gc)(vc:V):Cl->Prop
 | .ty n=>vc=.ty n/\(n∈["int","bool","str","list","tuple"]\/n = "ValueError")
 | .ex x=>∃D,g.clA x=some D/\vc=.ref D
theorem pE(O:XO w g c E X):zm X (.builtin "isinstance") (λxs H Q=>∃(S:Sh) (d:D) (v:V) (cl:Cl) (vc:V) (bb:Bool),xs=[v,vc]/\zw g H S d v/\wO w g d vc bb cl/\Q (.bl bb) H):=by
 have k:=(rf (X:=X) (g:=g) O.K).or (yS (X:=X));refine zm.imp k λxs H Q ⟨S,d,v,cl,vc,bb,e,rd,h,q⟩=>?_
 have exn:∀(kk:Str) (cv:ae),d=.exn kk->jb vc=some cv->(∃C,g.clA kk=some C/\cB g.K C/\bh g.K (.ref C) cv=some bb)->∃x c cv t b,xs=[x,c]/\jb c=some cv/\TyX X.K H x t/\bh X.K t cv=some b/\Q (.bl b) H:=λkk cv ed hv ⟨C,h1,h2,h3⟩=>by
  subst ed;cases rd.rep with
  | @exn _ a C' z1 z2=>
   rw[h1]at z1;cases z1;exact⟨_,vc,cv,.ref C,bb,e,hv,.inr ⟨a,C,rfl,rfl,z2,by rw[O.K];exact h2⟩,by rw[O.K];exact h3,q⟩
 cases cl with
 |ty n=>
  obtain⟨rfl,⟨hn,t,ht,rfl⟩|⟨kk,rfl,hk⟩⟩:=h
  ·exact .inl ⟨S,d,v,n,t,e,rd,ht,hn,q⟩
  ·obtain⟨C,cv,z1,z2,z3,z4,z5⟩:=O.sub kk (.ty n) bb hk;exact .inr (exn kk (.type n) rfl rfl ⟨C,z1,z2,z5▸z3⟩)
 |ex x=>
  obtain⟨D,kk,h1,rfl,rfl,hk⟩:=h;obtain⟨C,cv,z1,z2,z3,D',z4,z5⟩:=O.sub kk (.ex x) bb hk;rw[h1]at z4;cases z4;exact .inr (exn kk (.ref D) rfl rfl ⟨C,z1,z2,z5▸z3⟩)
theorem pG{x:D}{cl:Cl}:(∃t n,tyD x=some t/\cl=.ty n/\n≠"ValueError"/\b5 w x cl=.ok (.bl (dP t n)))\/(∃k b,x=.exn k/\w.sub k cl=some b/\b5 w x cl=.ok (.bl b))\/b5 w x cl=.no:=by
 unfold b5;cases e:tyD x with
 |some t=>
  cases cl with
  |ty n=>
   by_cases hn:n = "ValueError"
   ·exact .inr (.inr (by simp[hn]))
   ·exact .inl ⟨t,n,rfl,rfl,hn,by simp[hn]⟩
  |ex y=>exact .inr (.inr rfl)
 |none=>
  cases x with
  |exn k=>
   cases q:w.sub k cl with
   |none=>exact .inr (.inr (by simp[q]))
   |some b=>exact .inr (.inl ⟨k,b,rfl,q,by simp[q]⟩)
  |fn y=>exact .inr (.inr (by cases cl<;>rfl))
  |dct _ _=>exact .inr (.inr (by cases cl<;>rfl))
  |_=>cases e
theorem sT(O:XO w g c E X){x:Str}{k:Expr}{cl:Cl}(h:glob c x=some .isi)(ha:PE X a (tE w g c E ia))(hk:gv c k=some cl)(hs:isStar a=false):PE X (.Call (.Name x p2) [a,k] [] pos) (tE w g c E (.isi ia cl)):=by
 obtain⟨h1,rfl⟩:=O.gm h;obtain⟨y,q,rfl⟩:∃y q,k=.Name y q:=by
  cases k<;>first|exact⟨_,_,rfl⟩|(simp[gv]at hk)
 obtain⟨vc,hv,hc⟩:∃vc,PE X (.Name y q) (tC vc)/\clV g vc cl:=by
  simp only[gv]at hk;split at hk
  ·rename_i n b e
   cases hk;obtain⟨z1,z2,z3,_⟩:=O.gm e;exact⟨.ty n,yt (O.gl e) z1 z2 rfl (zF e).2.2.2 (zF e).2.2.1,rfl,z3⟩
  ·rename_i e
   cases hk;obtain⟨C,z1,z2⟩:=O.gm e;exact⟨.ref C,iS (O.gl e) z1 rfl (zF e).2.2.1,C,z2,rfl⟩
  ·rename_i e
   cases hk;obtain⟨C,z1,z2⟩:=O.gm e;exact⟨.ref C,iS (O.gl e) z1 rfl (zF e).2.2.1,C,z2,rfl⟩
  ·cases hk
 refine PE.imp (j0 (pE O) (O.gl h) h1 (by decide +kernel) (zJ ha (zJ hv cx) (qw hs)) (by decide) (by decide) (qw hs) rfl) λσ H Q ⟨τ,S,se,k⟩=>?_
 simp only[qY,qW,za,zb,qX,qZ,zf,ze,zc,qo,qx,qq,qt,qE,qJ,qC,qy,qz,qr,qA,qK,qh,qB,qH,ql,qk,qO,qI,qP,qG,qF,qQ,qT,qp,qN,qS,qM,qD,qm,qu,qL,qR]at k;refine qV se k λda va H1 e1 p1 k1=>?_
 rcases pG (w:=w) (x:=da) (cl:=cl)with ⟨t,n,z1,rfl,z2,z3⟩|⟨kk,bb,rfl,z2,z3⟩|z3
 ·rw[z3]at k1;obtain⟨rfl,hc|hc⟩:=hc
  ·exact⟨S,da,va,.ty n,.ty n,_,rfl,p1.rb,⟨rfl,.inl ⟨hc,t,z1,rfl⟩⟩,k1 _ _ (aN.of p1.same (.bl _) rfl)⟩
  ·exact absurd hc z2
 ·rw[z3]at k1;refine⟨S,.exn kk,va,cl,vc,bb,rfl,p1.rb,?_,k1 _ _ (aN.of p1.same (.bl _) rfl)⟩;cases cl with
  |ty n=>exact⟨hc.1,.inr ⟨kk,rfl,z2⟩⟩
  |ex x=>obtain⟨D,z4,z5⟩:=hc;exact⟨D,kk,z4,z5,rfl,z2⟩
 ·rw[z3]at k1;exact k1.elim
theorem xh(O:XO w g c E X)(ha:PE X a (tE w g c E ia))(he:∀whole,isTrue a X.env whole=(do let v <-whole;standAt a.pos;holding [v] (truthy v))):PT X a (tT w g c E (.val ia)):=
 PT.imp (vj ha he) λσ H Q ⟨τ,S,se,k⟩=>by
  simp only[dH,dk,dF,dM,dD,dE,dv]at k;refine qV se k λda va H1 e1 p1 k1=>?_
  cases q:truth da with
  |ok z=>rw[q]at k1;exact⟨z,p9 O.K p1.rb q,k1 _ p1.same⟩
  |ex z=>exact absurd q uE
  |no=>rw[q]at k1;exact k1.elim
theorem sH(ha:PT X a (tT w g c E ta)):PT X (.UnaryOp .Not a pos) (tT w g c E (.not ta)):=
 PT.imp (rK ha) λσ H Q ⟨τ,S,se,k⟩=>by
  simp only[dH,dk,dF,dM,dD,dE,dv]at k;exact gz se k λz H1 e1 s1 k1=>k1 _ s1
theorem tG{rest:List Expr}(ha:PT X a (tT w g c E ta))(hb:PW X (.BoolOp .And (b::rest) pos) (tT w g c E tb)):PW X (.BoolOp .And (a::b::rest) pos) (tT w g c E (.and ta tb)):=
 PW.imp (n9 ha hb) λσ H Q ⟨τ,S,se,k⟩=>by
  simp only[dH,dk,dF,dM,dD,dE,dv]at k;refine gz se k λz H1 e1 s1 k1=>?_
  cases z with
  |true=>exact⟨τ,S,se.up s1,tR.imp k1 λb hk H' s=>hk H' (s1.trans s)⟩
  |false=>exact k1 _ s1
theorem pM{rest:List Expr}(ha:PT X a (tT w g c E ta))(hb:PW X (.BoolOp .Or (b::rest) pos) (tT w g c E tb)):PW X (.BoolOp .Or (a::b::rest) pos) (tT w g c E (.or ta tb)):=
 PW.imp (tF ha hb) λσ H Q ⟨τ,S,se,k⟩=>by
  simp only[dH,dk,dF,dM,dD,dE,dv]at k;refine gz se k λz H1 e1 s1 k1=>?_
  cases z with
  |false=>exact⟨τ,S,se.up s1,tR.imp k1 λb hk H' s=>hk H' (s1.trans s)⟩
  |true=>exact k1 _ s1
theorem PI.or{tg e:Expr}{t t':TI}(h:PI X tg e t)(h':PI X tg e t'):PI X tg e (λσ H R=>t σ H R\/t' σ H R):=λpins s σ H R I q=>by
 rcases q with q|q
 ·exact h pins s σ H R I q
 ·exact h' pins s σ H R I q
theorem kY{K:ao}{a:Addr}{vs:List V}{ds:List D}{H:Hp}{S:Sh}(hl:SqL K H a vs)(r:qU g (hid H S) ds vs):Goes g (Itl K a) ds H S:=by
 refine⟨λi hi=>⟨vs,hl,by rw[<-r.length];exact hi⟩,λi d hd=>?_⟩;obtain⟨v,h1,h2⟩:=r.get hd;refine⟨⟨vs,v,hl,h1⟩,λx H' ⟨e,hx⟩=>?_⟩;subst e;have:=hx vs hl;rw[h1]at this;cases this;exact⟨qa.refl _,h2⟩
theorem kC{K:ao}{a:Addr}{vs:List V}{ds:List D}{H:Hp}{S:Sh}(hl:SqT K H a vs)(r:qU g (hid H S) ds vs):Goes g (Itt K a) ds H S:=by
 refine⟨λi hi=>⟨vs,hl,by rw[<-r.length];exact hi⟩,λi d hd=>?_⟩;obtain⟨v,h1,h2⟩:=r.get hd;refine⟨⟨vs,v,hl,h1⟩,λx H' ⟨e,hx⟩=>?_⟩;subst e;have:=hx vs hl;rw[h1]at this;cases this;exact⟨qa.refl _,h2⟩
theorem mr:∀{xs:List D}{k i:Nat}{d:D},(cj k xs)[i]? = some d->∃x,xs[i]? = some x/\d=.tup [.int ((k+i:Nat):Int),x]
 | [],_,_,_,h=>by simp[cj]at h
 |x::r,k,0,d,h=>by simp[cj]at h;exact⟨x,rfl,by rw[<-h];rfl⟩
 |x::r,k,i+1,d,h=>by
  simp only[cj,List.getElem?_cons_succ]at h;obtain⟨y,h1,h2⟩:=mr h;exact⟨y,by simpa using h1,by rw[h2,show k+1+i=k+(i+1)by lia]⟩
theorem kM:∀(xs:List D) (k:Nat),(cj k xs).length=xs.length
 | [],_=>rfl
 |x::r,k=>by simp[cj,kM r]
theorem ku{K:ao}{a:Addr}{vs:List V}{ds:List D}{H:Hp}{S:Sh}(hl:SqL K H a vs)(r:qU g (hid H S) ds vs)(hS:Sub S H):Goes g (Ite K a) (cj 0 ds) H S:=by
 refine⟨λi hi=>⟨vs,hl,by rw[<-r.length,<-kM ds 0];exact hi⟩,λi d hd=>?_⟩;obtain⟨y,h0,rfl⟩:=mr hd;obtain⟨v,h1,h2⟩:=r.get h0;refine⟨⟨vs,v,hl,h1⟩,λx H' ⟨p,z,hp,e1,e2,hx⟩=>?_⟩;subst e1 e2;have:=hx vs hl;rw[h1]at this;cases this;refine⟨zq hp,?_⟩;rw[Nat.zero_add];exact fH hS hp (.cons (.int _) (.cons h2 .nil))
theorem f_{lo:Int}{n:Nat}{H:Hp}{S:Sh}:Goes g (Itr lo n) (b6 lo n) H S:=by
 refine⟨λi hi=>by show n<=i;simpa[b6]using hi,λi d hd=>?_⟩;unfold b6 at hd;rw[List.getElem?_map]at hd;cases q:(List.range n)[i]? with
 |none=>rw[q]at hd;cases hd
 |some j=>
  rw[q]at hd;cases hd;have hi:=(List.getElem?_eq_some_iff.mp q)
  obtain⟨h1,h2⟩:=hi;simp at h1 h2;subst h2;exact⟨h1,λx H' ⟨e1,e2⟩=>by subst e1 e2;exact⟨qa.refl _,.int _⟩⟩
theorem jY{K:ao}{H:Hp}{i:Nat}{k:List Int}:∀{ks:List (List Int)}{vs:List V}{xs:List WD.E3},WD.zu K H ks vs xs->ks[i]? = some k->∃e,xs[i]? = some e/\SqT K H e.2.1 (k.map V.int)
 | [],_,_,_,h=>by cases h
 |k'::ks,_,_,.cons h1 h2 r,h=>by
  cases i with
  |zero=>cases h;exact⟨_,rfl,h1⟩
  |succ i=>exact jY (i:=i) r h
theorem iG{a:Addr}{xs:List WD.E3}{ep:Nat}{ks:List (List Int)}{vs:List V}{H:Hp}{S:Sh}(h:H a=some (WD.zv a xs ep))(r:WD.zu g.K (hid H S) ks vs xs):Goes g (WD.Itd a xs ep) (ks.map λk=>EV.D.tup (k.map EV.D.int)) H S:=by
 refine⟨λi hi=>⟨h,by rw[a6]at hi;rw[r.len.2];exact hi⟩,λi d hd=>?_⟩;rw[List.getElem?_map]at hd;cases q:ks[i]? with
 |none=>rw[q]at hd;cases hd
 |some k=>
  rw[q]at hd;cases hd;obtain⟨e,he,hs⟩:=jY r q;have hi:i<xs.length:=(List.getElem?_eq_some_iff.mp he).1;refine⟨⟨h,hi⟩,λx H' ⟨e1,e',he',ex⟩=>?_⟩;subst e1 ex;rw[he]at he';cases he';exact⟨qa.refl _,.tup hs (qU.ofInts _)⟩
theorem x9(O:XO w g c E X){tg:Expr}(ha:PE X a (tE w g c E ia)):PI X tg a (tIt w g c E (.seq ia)):=
 PI.imp (PI.or (yO ha) (PI.or (pA ha) (WD.xZ ha))) λσ H R ⟨τ,S,se,k⟩=>by
  have k0:=k;simp only[evI]at k;cases q:evE w ia τ with
  |ex z=>exact .inl ⟨τ,S,se,by rw[q]at k ⊢;exact k⟩
  |no=>rw[q]at k;exact k.elim
  |ok dd=>
   cases dd with
   |lst ds=>
    refine .inl (qV se k λda va H1 e1 p1 k1=>?_);rw[q]at e1;cases e1;obtain⟨ad,vs,rfl,h1,r1⟩:=p1.rb.lst;rw[<-O.K]at h1;refine⟨ad,rfl,⟨vs,h1⟩,k1 _ H1 p1.same (λH2 S2 s1 s2 _=>kY (s1.seq h1) (r1.mono s2)) λho H2 S2 s2 _=>?_⟩;have he:esc ia=true:=by
     cases ia<;>first|rfl|(simp[owned]at ho)
    cases p1.st he with
    |lst h2 r2=>exact kY (by rw[O.K];exact(s2.trans zy).seq h2) (r2.mono s2)
   |tup ds=>
    refine .inr (.inl (qV se k λda va H1 e1 p1 k1=>?_));rw[q]at e1;cases e1;cases p1.rb.strong (by intro _ z;cases z)with
    |tup h2 r2=>
     refine⟨_,rfl,⟨_,by rw[O.K];exact zW zy h2⟩,k1 _ H1 p1.same (λH2 S2 s1 s2 _=>kC (by rw[O.K];exact zW (s2.trans zy) h2) (r2.mono s2)) λho H2 S2 s2 _=>kC (by rw[O.K];exact zW (s2.trans zy) h2) (r2.mono s2)⟩
   |dct ks ds=>
    refine .inr (.inr (qV se k λda va H1 e1 p1 k1=>?_));rw[q]at e1;cases e1;cases ho:owned (.seq ia)with
    |false=>
     have he:esc ia=true:=by
      cases ia<;>first|rfl|(simp[owned]at ho)
     cases p1.st he with
     |dct h2 r2 _=>
      exact⟨_,_,_,rfl,zy _ _ h2,k1 _ H1 p1.same (λH2 S2 s1 s2 _=>iG (s1 _ _ (zy _ _ h2)) (r2.up s2)) λ_ H2 S2 s2 _=>iG ((s2.trans zy) _ _ h2) (r2.up s2)⟩
    |true=>
     obtain⟨a',vs,xs,ep,rfl,h1,r1,_⟩:=p1.rb.dct;exact⟨_,_,_,rfl,h1,k1 _ H1 p1.same (λH2 S2 s1 s2 _=>iG (s1 _ _ h1) (r1.up s2)) λho'=>by rw[ho]at ho';cases ho'⟩
   |_=>rw[q]at k;exact k.elim
theorem i9{j:Int}(h:zr j=true):-1000000<=j/\j<=1000000:=by simpa[zr]using h
theorem uH(O:XO w g c E X){x:Str}{tg:Expr}(h:glob c x=some .rng)(ha:PE X a (tE w g c E ia))(hs:isStar a=false):PI X tg (.Call (.Name x p2) [a] [] pos) (tIt w g c E (.rng ia)):=by
 obtain⟨h1,rfl⟩:=O.gm h;refine PI.imp (ya (O.gl h) h1 (zJ ha cx (qw hs)) (qw hs)) λσ H R ⟨τ,S,se,k⟩=>?_
 simp only[evI]at k;refine qV se k λda va H1 e1 p1 k1=>?_
 cases da with
 |int j=>
  simp only at k1;cases q:zr j with
  |true=>
   rw[q,if_pos rfl]at k1;obtain⟨z1,z2⟩:=i9 q;exact⟨j,by rw[p1.rb.int],by lia,by lia,k1 _ H1 p1.same (λ_ _ _ _ _=>f_) λ_ _ _ _ _=>f_⟩
  |false=>rw[q]at k1;exact k1.elim
 |_=>exact k1.elim
theorem rJ(O:XO w g c E X){x:Str}{tg:Expr}(h:glob c x=some .rng)(ha:PE X a (tE w g c E ia))(hb:PE X b (tE w g c E ib))(hs:isStar a=false)(hs':isStar b=false):PI X tg (.Call (.Name x p2) [a,b] [] pos) (tIt w g c E (.rng2 ia ib)):=by
 obtain⟨h1,rfl⟩:=O.gm h;refine PI.imp (vH (O.gl h) h1 (zJ ha (zJ hb cx (qw hs')) (qw hs)) (by rw[qw hs,qw hs'];rfl) (qw hs')) λσ H R ⟨τ,S,se,k⟩=>?_
 simp only[evI]at k;refine qV se k λda va H1 e1 p1 k1=>qV (se.up p1.same) k1 λdb vb H2 e2 p2 k2=>?_
 cases da with
 |int i=>
  cases db with
  |int j=>
   simp only at k2;cases q:zr i&&zr j with
   |true=>
    rw[q,if_pos rfl]at k2;simp only[ax]at q;obtain⟨z1,z2⟩:=i9 q.1;obtain⟨z3,z4⟩:=i9 q.2;exact⟨i,j,by rw[p1.rb.int,p2.rb.int],⟨by lia,by lia,by lia,by lia⟩,k2 _ H2 (p1.same.trans p2.same) (λ_ _ _ _ _=>f_) λ_ _ _ _ _=>f_⟩
   |false=>rw[q]at k2;exact k2.elim
  |_=>exact k2.elim
 |_=>exact k2.elim
theorem wM(O:XO w g c E X){x:Str}{es:List Expr}{ek:Nat}{epos:Pos}(h:glob c x=some .enum)(ha:PE X a (tE w g c E ia))(hs:isStar a=false):PI X (.Tuple es ek epos) (.Call (.Name x p2) [a] [] pos) (tIt w g c E (.enum ia)):=by
 obtain⟨h1,rfl⟩:=O.gm h;refine PI.imp (sO (O.gl h) h1 (by decide +kernel) (zJ ha cx (qw hs)) (qw hs)) λσ H R ⟨τ,S,se,k⟩=>?_
 simp only[evI]at k;refine qV se k λda va H1 e1 p1 k1=>?_
 cases da with
 |lst ds=>
  obtain⟨ad,vs,rfl,h1,r1⟩:=p1.rb.lst;rw[<-O.K]at h1;refine⟨ad,rfl,⟨vs,h1⟩,k1 _ H1 p1.same (λH2 S2 s1 s2 s3=>ku (s1.seq h1) (r1.mono s2) s3) λho H2 S2 s2 s3=>?_⟩;have he:esc ia=true:=by
   cases ia<;>first|rfl|(simp[owned]at ho)
  cases p1.st he with
  |lst h2 r2=>exact ku (by rw[O.K];exact(s2.trans zy).seq h2) (r2.mono s2) s3
 |_=>exact k1.elim
theorem o_(O:XO w g c E X){x:Str}{es:List Expr}{ek:Nat}{epos:Pos}(h:glob c x=some .zip)(ha:PE X a (tE w g c E ia))(hb:PE X b (tE w g c E ib))(hs:isStar a=false)(hs':isStar b=false):PI X (.Tuple es ek epos) (.Call (.Name x p2) [a,b] [] pos) (tIt w g c E (.zip ia ib)):=λpins s σ H R I ⟨τ,S,se,kk⟩=>by
 simp only[evI]at kk;exact aM kk
end
noncomputable def fg:List Nat->TGs
 | []=>mv
 |i::is=>jz (dq i) (fg is)
noncomputable def gT(K:ao):Tg->TG
 | .nm i=>dq i
 | .tp is=>lb K is.length (fg is)
section
variable{w:W}{g:Gc}{c:Cc}{E:XK}{X:Cx}
theorem zk{x:Str}{i:Nat}(h:bf c x=some i):loc c x=some i/\(c.nm.lookup x=some .local\/(c.nm.lookup x=some .cell/\(c.fnc=true\/c.oc.contains x=true))):=by
 unfold bf at h;split at h
 ·rename_i q;exact⟨h,.inl q⟩
 ·rename_i q
  split at h
  ·rename_i z;exact⟨h,.inr ⟨q,by simpa using z⟩⟩
  ·cases h
 ·cases h
theorem mB(O:XO w g c E X){x:Str}{i:Nat}{pos:Pos}(h:bf c x=some i):PG X (.Name x pos) (dq i):=by
 obtain⟨h1,h2⟩:=zk h;obtain⟨h3,_⟩:=zj h1;refine nO (by rw[O.N];exact O.nd) (by rw[O.N];exact h3) (by unfold L2.Loc;rw[O.nm];rcases h2 with z|z;exact .inl z;exact .inr z.1) ?_;rcases h2 with z|z
 ·exact .inr (by rw[O.nm];exact z)
 ·exact .inl (O.fn x z.2)
theorem jT:∀{es:List Expr}{xs:List Str},eM es=some xs->∃ps:List Pos,es=(xs.zip ps).map (λp=>Expr.Name p.1 p.2)/\ps.length=xs.length
 | [],xs,h=>by simp[eM]at h;subst h;exact⟨[],rfl,rfl⟩
 |e::es,xs,h=>by
  cases e with
  |Name y p=>
   simp only[eM,aX]at h;obtain⟨ys,h1,rfl⟩:=h;obtain⟨ps,h2,h3⟩:=jT h1;exact⟨p::ps,by rw[h2];rfl,by simp[h3]⟩
  |_=>simp[eM]at h
theorem lO(O:XO w g c E X):∀{xs:List Str}{ps:List Pos}{is:List Nat},ps.length=xs.length->xs.mapM (bf c)=some is ->
  PGs X ((xs.zip ps).map λp=>Expr.Name p.1 p.2) (fg is)/\(assignEach ((xs.zip ps).map λp=>Expr.Name p.1 p.2) X.env).length=is.length/\(assignEach ((xs.zip ps).map λp=>Expr.Name p.1 p.2) X.env).findIdx? (·.1)=none
 | [],ps,is,_,h=>by
  simp at h;subst h;exact⟨jP,rfl,rfl⟩
 |x::xs,[],_,h,_=>by simp at h
 |x::xs,p::ps,is,hl,h=>by
  simp only[List.mapM_cons,aw,au]at h;obtain⟨i,h1,js,h2,h3⟩:=h;cases h3;obtain⟨r1,r2,r3⟩:=lO O (xs:=xs) (ps:=ps) (by simpa using hl) h2;refine⟨gS (mB O h1) r1 rfl,?_,?_⟩
  ·show (assignEach ((xs.zip ps).map λp=>Expr.Name p.1 p.2) X.env).length+1=js.length+1;rw[r2]
  ·show List.findIdx? (·.1) ((false,_)::assignEach ((xs.zip ps).map λp=>Expr.Name p.1 p.2) X.env)=none;rw[List.findIdx?_cons];simp only[a7,if_false];rw[r3];rfl
theorem fJ(O:XO w g c E X){e:Expr}{tg:Tg}(h:cTg c e=some tg):PG X e (gT X.K tg):=by
 cases e with
 |Name x p=>
  simp only[cTg]at h;split at h
  ·cases h
  ·simp only[aX]at h;obtain⟨i,h1,rfl⟩:=h;exact mB O h1
 |Tuple es k p=>
  simp only[cTg]at h;split at h
  ·rename_i hc
   simp only[aw,au]at h;obtain⟨xs,h1,h⟩:=h;split at h
   ·cases h
   ·simp only[au]at h;obtain⟨is,h2,h⟩:=h;split at h
    ·cases h;obtain⟨ps,rfl,hl⟩:=jT h1;obtain⟨r1,r2,r3⟩:=lO O hl h2;exact j3 (O.calm hc) r1 r2 r3
    ·cases h
  ·cases h
 |_=>simp[cTg]at h
noncomputable def eZ(c:Cc):Tg->Prop
 | .nm i=>∀x,c.N[i]? = some x->c.own.contains x=false
 | .tp is=>∀i∈is,∀x,c.N[i]? = some x->c.own.contains x=false
theorem lq{α β:Type}{f:α->Option β}:∀{xs:List α}{ys:List β},xs.mapM f=some ys->∀y∈ys,∃x∈xs,f x=some y
 | [],ys,h,y,hy=>by simp at h;subst h;simp at hy
 |x::xs,ys,h,y,hy=>by
  simp only[List.mapM_cons,aw,au]at h;obtain⟨z,h1,zs,h2,h3⟩:=h;cases h3;rcases aL.mp hy with rfl|hy
  ·exact⟨x,aP,h1⟩
  ·obtain⟨x',h4,h5⟩:=lq h2 y hy;exact⟨x',aO _ h4,h5⟩
theorem hX{e:Expr}{tg:Tg}(h:cTg c e=some tg):eZ c tg:=by
 have one:∀{x:Str}{i:Nat},c.own.contains x=false->bf c x=some i->∀y,c.N[i]? = some y->c.own.contains y=false:=λ{x i} ho hl y hy=>by
  obtain⟨h3,_⟩:=zj (zk hl).1;rw[h3]at hy;cases hy;exact ho
 cases e with
 |Name x p=>
  simp only[cTg]at h;split at h
  ·cases h
  ·rename_i ho
   simp only[aX]at h;obtain⟨i,h1,rfl⟩:=h;exact one (by simpa using ho) h1
 |Tuple es k p=>
  simp only[cTg]at h;split at h
  ·simp only[aw,au]at h;obtain⟨xs,h1,h⟩:=h;split at h
   ·cases h
   ·rename_i ho
    simp only[au]at h;obtain⟨is,h2,h⟩:=h;split at h
    ·cases h;intro i hi;obtain⟨x,hx,hl⟩:=lq h2 i hi;refine one ?_ hl;cases q:c.own.contains x with
     |false=>rfl
     |true=>exact absurd (List.any_eq_true.mpr ⟨x,hx,q⟩) ho
    ·cases h
  ·cases h
 |_=>simp[cTg]at h
section
variable{τ τ':Env}{σ:L2.St}{H:Hp}{S:Sh}
theorem SE.set{i:Nat}{d:D}{v:V}(se:SE g c τ σ H S)(r:Rep g (hid H S) d v):SE g c (τ.set i (some d)) (σ.set i (some v)) H S:=by
 refine⟨by simp[se.len],λj e h=>?_,se.sub⟩;by_cases hij:i=j
 ·subst hij;by_cases hi:i<τ.length
  ·simp[hi]at h;subst h;have hi':i<σ.length:=by rw[<-se.len];exact hi
   exact⟨v,by simp[hi'],.inl r,λ_ _ _=>r⟩
  ·rw[List.set_eq_of_length_le (by lia)]at h;rw[List.getElem?_eq_none (by lia)]at h;cases h
 ·rw[List.getElem?_set_ne hij]at h ⊢;exact se.val j e h
theorem SE.setAll{is:List Nat}:∀{ds:List D}{vs:List V}{τ:Env}{σ:L2.St}{Q:L2.St->Hp->Prop},SE g c τ σ H S->qU g (hid H S) ds vs->setAll is ds τ=.ok τ'->(∀σ',SE g c τ' σ' H S->Q σ' H)->fg is vs σ H Q:=by
 induction is with
 |nil=>
  intro ds vs τ σ Q se r h k;cases r with
  |nil=>cases (show R.ok τ=R.ok τ' from h);exact⟨rfl,k σ se⟩
  |cons _ _=>cases (show R.no=R.ok τ' from h)
 |cons i is ih=>
  intro ds vs τ σ Q se r h k;cases r with
  |nil=>cases (show R.no=R.ok τ' from h)
  |cons r rs=>exact⟨_,_,rfl,ih (se.set r) rs h k⟩
theorem uT(O:X.K=g.K){tg:Tg}{d:D}{v:V}{Q:L2.St->Hp->Prop}(se:SE g c τ σ H S)(r:Rep g (hid H S) d v)(h:store tg d τ=.ok τ')(k:∀σ',SE g c τ' σ' H S->Q σ' H):gT X.K tg v σ H Q:=by
 cases tg with
 |nm i=>
  simp only[store,R.ok.injEq]at h;subst h;exact k _ (se.set r)
 |tp is=>
  cases d with
  |tup ds=>
   simp only[store]at h;split at h
   ·rename_i hl
    cases r with
    |tup h1 r1=>exact⟨_,_,rfl,by rw[O];exact zW zy h1,by rw[<-r1.length];exact hl,se.setAll r1 h k⟩
   ·cases h
  |_=>simp[store]at h
end
end
abbrev b9(c:Cc)(sc:aI):Cc:={c with nm:=fP sc.names c.nm,N:=bx sc.names,fnc:=false,oc:=fD sc.names}
section
variable{w:W}{g:Gc}{c:Cc}{E:XK}{X:Cx}
theorem XO.comp(O:XO w g c E X){sc:aI}(hk:sc.kind=.function)(hnd:(bx sc.names).Nodup)(cl:List (Str×Addr))(C:Addr)(s₀:af)(H₀:Hp)(fp:List Addr):XO w g (b9 c sc) E0 (zL X (bx sc.names) sc cl C s₀ H₀ fp) where
 K:=O.K
 nm:=by
  show (relabel sc X.env).names=fP sc.names c.nm;unfold relabel fP;simp only
  congr 1
  funext p;have h1:(X.env.scope.kind==ScopeKind.function)=true:=by rw[O.kind];rfl
  have h2:X.env.kindOf p.1=c.nm.lookup p.1:=by show X.env.scope.names.lookup p.1=_;rw[O.nm]
  obtain⟨n,k⟩:=p;simp only at h2;simp only[h1,h2,Bool.and_true]
 N:=rfl
 nd:=hnd
 calm:=O.calm
 units:=O.units
 fn:=λx z=>z.elim (λz=>by cases z) λz=>z
 kind:=hk
 pass:=ml rfl rfl
 gok:=O.gok
 fns:=O.fns
 sub:=O.sub
theorem pD{α:Type}{τ:Env}{σ:L2.St}{H:Hp}{S:Sh}{it:It}{f:List D->R α}{P:α->Prop}{R':L2.It->Hp->Prop}(se:SE g c τ σ H S)(h:tR g E H ((evI w it τ).bind f) P)
  (k:∀ds J H',evI w it τ=.ok ds->qa H H'->(∀H2 S2,qa H' H2->qa (hid H' S) (hid H2 S2)->Sub S2 H2->Goes g J ds H2 S2)->(owned it=false->∀H2 S2,qa (hid H' S) (hid H2 S2)->Sub S2 H2->Goes g J ds H2 S2)->tR g E H' (f ds) P->R' J H'):tIt w g c E it σ H R':=by
 refine⟨τ,S,se,?_⟩;cases q:evI w it τ with
 |ok d=>rw[q]at h;exact λJ H' s k1 k2=>k d J H' q s k1 k2 (tR.up h s)
 |ex x=>rw[q]at h;exact h
 |no=>rw[q]at h;exact h
theorem oV{α:Type}{r:R α}{x:Str}:noEx r≠.ex x:=by cases r<;>intro h<;>cases h
theorem oP{α:Type}{r:R α}{a:α}(h:noEx r=.ok a):r=.ok a:=by cases r<;>first|exact h|cases h
theorem kj{body:D->Env->R (Env×List D)}(hb:∀d τ x,body d τ≠.ex x):∀{ds:List D}{τ:Env}{acc:List D}{x:Str},bR body ds τ acc≠.ex x
 | [],_,_,_,h=>by cases h
 |d::r,τ,acc,x,h=>by
  simp only[bR]at h;cases q:body d τ with
  |ok p=>rw[q]at h;exact kj hb h
  |ex y=>exact hb _ _ _ q
  |no=>rw[q]at h;cases h
theorem SE.caps{sc:aI}{cap:List (Option Nat)}{τ:Env}{σ:L2.St}{H:Hp}{S:Sh}(O:XO w g c E X)(hc:km X (bx sc.names) cap sc)(se:SE g c τ σ H S):SE g (b9 c sc) (cU cap τ) (L2.caps cap σ) H S:=by
 refine⟨by simp[cU,L2.caps],λi d h=>?_,se.sub⟩;unfold cU at h;rw[List.getElem?_map]at h;cases q:cap[i]? with
 |none=>rw[q]at h;cases h
 |some o=>
  cases o with
  |none=>rw[q]at h;cases h
  |some j=>
   rw[q]at h;simp only[Option.map_some,Option.bind_some,bL]at h;cases q2:τ[j]? with
   |none=>rw[q2]at h;cases h
   |some z=>
    rw[q2]at h;cases z with
    |none=>cases h
    |some d'=>
     have:d'=d:=by simpa using h
     subst this;obtain⟨v,h1,h2,h3⟩:=se.val j d' q2;refine⟨v,?_,h2,λx hx ho=>?_⟩
     ·unfold L2.caps;rw[List.getElem?_map,q];simp[h1]
     ·obtain⟨y,e1,e2,_⟩:=hc.2 i j q;have hx':(bx sc.names)[i]? = some x:=hx;rw[e1]at hx';cases hx';exact h3 _ (by rw[<-O.N];exact e2) ho
theorem eU{H:Hp}{S:Sh}{p:Addr}{o:HO}(h:S.h p=true):hid (upd H p o) S=hid H S:=by
 funext b;unfold hid;by_cases hb:b=p
 ·subst hb;rw[if_pos h,if_pos h]
 ·rw[qg hb]
theorem SE.grow{c:Cc}{τ:Env}{σ:L2.St}{H:Hp}{S:Sh}{p:Addr}{o:HO}(se:SE g c τ σ H S)(h:S.h p=true)(ho:S.o p=false):SE g c τ σ (upd H p o) S:=by
 refine⟨se.len,λi d e=>?_,λa ha n=>?_⟩
 ·obtain⟨v,h1,h2,h3⟩:=se.val i d e;refine⟨v,h1,?_,λx hx hy=>by rw[eU h];exact h3 x hx hy⟩;rcases h2 with h2|⟨a,o',z1,z2,z4,z5⟩
  ·exact .inl (by rw[eU h];exact h2)
  ·refine .inr ⟨a,o',z1,z2,?_,by rw[eU h];exact z5⟩;rw[qg (λz=>by rw[z,ho]at z1;cases z1)];exact z4
 ·by_cases hb:a=p
  ·subst hb;rw[zi]at n;cases n
  ·rw[qg hb]at n;exact se.sub a ha n
theorem SE.hide{c:Cc}{τ:Env}{σ:L2.St}{H:Hp}{S:Sh}{p:Addr}{vs:List V}(se:SE g c τ σ H S)(hp:H p=none):SE g c τ σ (upd H p (.lst vs)) (zB S p):=by
 refine⟨se.len,λi d e=>?_,λa ha n=>?_⟩
 ·obtain⟨v,h1,h2,h3⟩:=se.val i d e;refine⟨v,h1,?_,λx hx hy=>(h3 x hx hy).mono (dS hp)⟩;rcases h2 with h2|⟨a,o',z1,z2,z4,z5⟩
  ·exact .inl (h2.mono (dS hp))
  ·exact .inr ⟨a,o',z1,z2,zq hp _ _ z4,z5.mono (dS hp)⟩
 ·by_cases hb:a=p
  ·subst hb;rw[zi]at n;cases n
  ·rw[qg hb]at n;refine se.sub a ?_ n;rcases ha with ha|ha
   ·refine .inl ?_;have ha:(S.h a||a==p)=true:=ha
    simpa[hb]using ha
   ·exact .inr ha
theorem jE(O:XO w g c E X){sc:aI}{cap:List (Option Nat)}{iit:It}{itg:Tg}{tt:T}{ielt:EV.E}(hS:cm X (bx sc.names) cap sc)(he:esc ielt=true){σ:L2.St}{H:Hp}{Q:VK}(hq:tE w g c E (.comp iit cap itg tt ielt) σ H Q) :
  g7 cap (tIt w g c E iit) (gT X.K itg) (tT w g (b9 c sc) E0 tt) (λacc=>fZ acc (tE w g (b9 c sc) E0 ielt)) σ H Q:=by
 obtain⟨τ,S,se,k⟩:=hq;simp only[qY,qW,za,zb,qX,qZ,zf,ze,zc,qo,qx,qq,qt,qE,qJ,qC,qy,qz,qr,qA,qK,qh,qB,qH,ql,qk,qO,qI,qP,qG,qF,qQ,qT,qp,qN,qS,qM,qD,qm,qu,qL,qR]at k;refine pD se k λds J H1 e1 s1 kW _ k1 acc hacc=>?_
 by_cases hz:SZ<ds.length
 ·rw[if_pos hz]at k1;exact k1.elim
 rw[if_neg hz]at k1;generalize hbody:(λx σ=>noEx ((store itg x σ).bind λσ'=>(evT w tt σ').bind λr=>if r=true then (evE w ielt σ').bind λd=>R.ok (σ',[d])else R.ok (σ',[])))=body at k1;have bex:∀d τ x,body d τ≠.ex x:=λd τ x=>by rw[<-hbody];exact oV
 cases hl:bR body ds (cU cap τ) []with
 |ex z=>exact absurd hl (kj bex)
 |no=>rw[hl]at k1;exact k1.elim
 |ok out=>
  rw[hl]at k1;simp only[R.bind_ok]at k1;have k1:∀v H',aN g c (.comp iit cap itg tt ielt) S H (.lst out) v H'->Q v H':=k1;have sub1:=se.sub.same s1;have hoacc:S.o acc=false:=sub1.freeO hacc;have hhacc:(zB S acc).h acc=true:=by show (S.h acc||acc==acc)=true;simp
  -- what holds between two turns
  refine⟨λi m σ' H'=>m=ds.length-i/\i<=ds.length/\∃τ' o,bR body (ds.drop i) τ' o=.ok out/\SE g (b9 c sc) τ' σ' H' (zB S acc)/\o.length<=i/\qa H1 H'/\∃vs,H' acc=some (.lst vs)/\qU g (hid H' (zB S acc)) o vs,
   ⟨ds.length,rfl,Nat.zero_le _,cU cap τ,[],hl,(se.up s1).caps O hS.cap |>.hide hacc,aA _,zq hacc,[],zi,.nil⟩,?_⟩
  rintro i m σ' H' ⟨rfl,hi',τ',o,hlo,se',hol,s1',vs,hv,hr⟩;have keep:qa (hid H1 S) (hid H' (zB S acc)):=λb u hb=>by
   obtain⟨z1,z2⟩:=aV.mp hb;refine aV.mpr ⟨?_,s1' _ _ z2⟩;show (S.h b||b==acc)=false;rw[z1]
   simpa using λz:b=acc=>by rw[z,hacc]at z2;cases z2
  obtain⟨g1,g2⟩:=kW H' (zB S acc) s1' keep se'.sub;by_cases hlt:i<ds.length
  ·have hd:ds[i]? = some ds[i]:=List.getElem?_eq_getElem hlt;obtain⟨go1,go2⟩:=g2 i ds[i] hd;refine .inr ⟨go1,λσ'' H''=>∃τ' o,bR body (ds.drop (i+1)) τ' o=.ok out/\SE g (b9 c sc) τ' σ'' H'' (zB S acc)/\o.length<=i+1/\qa H1 H''/\∃vs,H'' acc=some (.lst vs)/\qU g (hid H'' (zB S acc)) o vs,
    λσ'' H'' z=>⟨ds.length-(i+1),by lia,rfl,hlt,z⟩,λx H2 hy=>?_⟩
   obtain⟨s2,rx⟩:=go2 x H2 hy;rw[List.drop_eq_getElem_cons hlt]at hlo;simp only[bR]at hlo;cases q:body ds[i] τ' with
   |ex z=>exact absurd q (bex _ _ _)
   |no=>rw[q]at hlo;cases hlo
   |ok p=>
    rw[q]at hlo;simp only[R.bind_ok]at hlo;rw[<-hbody]at q;have q:=oP q;cases q1:store itg ds[i] τ' with
    |ex z=>rw[q1]at q;cases q
    |no=>rw[q1]at q;cases q
    |ok τ1=>
     rw[q1]at q;simp only[R.bind_ok]at q;refine uT O.K (se'.up s2) rx q1 λσ1 se1=>?_
     cases q2:evT w tt τ1 with
     |ex z=>rw[q2]at q;cases q
     |no=>rw[q2]at q;cases q
     |ok r=>
      rw[q2]at q;simp only[R.bind_ok]at q;refine⟨τ1,zB S acc,se1,?_⟩;rw[q2];intro H3 s3;have hv3:=s3 _ _ (s2 _ _ hv);have s13:=s1'.trans (s2.trans s3);cases r with
      |false=>
       simp only[a7,if_false,R.ok.injEq]at q;subst q;rw[if_neg bZ];exact⟨τ1,o++[],hlo,se1.up s3,by simp;lia,s13,vs,hv3,by rw[List.append_nil];exact hr.mono (qc (s2.trans s3))⟩
      |true=>
       simp only[if_true]at q;rw[if_pos rfl];cases q3:evE w ielt τ1 with
       |ex z=>rw[q3]at q;cases q
       |no=>rw[q3]at q;cases q
       |ok dd=>
        rw[q3]at q;simp only[R.bind_ok,R.ok.injEq]at q;subst q;refine⟨τ1,zB S acc,se1.up s3,?_⟩;rw[q3];intro v H4 p4;have hv4:=p4.same _ _ hv3;have hr4:=hr.mono (qc ((s2.trans s3).trans p4.same));have hz':vs.length<sizeLine:=by
         rw[<-hr.length,bp];have:ds.length<=SZ:=Nat.le_of_not_lt hz;unfold SZ at this;lia
        refine⟨vs,hv4,hz',τ1,o++[dd],hlo,(se1.up (s3.trans p4.same)).grow hhacc hoacc,by simp;lia,λb u hb=>?_,vs++[v],zi,?_⟩
        ·rw[qg (λz=>by rw[z,hacc]at hb;cases hb)];exact p4.same _ _ (s13 _ _ hb)
        ·rw[eU hhacc];exact hr4.append (.cons (p4.st he) .nil)
  ·have e:i=ds.length:=by lia
   subst e;refine .inl ⟨g1 ds.length (aA _),?_⟩;rw[List.drop_length]at hlo;simp only[bR,R.ok.injEq]at hlo;subst hlo;have rep:Rep g (hid H' S) (.lst o) (.ref acc):=.lst (SqL.of (aV.mpr ⟨sub1.free hacc,hv⟩)) (hr.mono kg);exact k1 _ _ (aN.new (s1.trans s1') rep ⟨acc,_,rfl,s1.free hacc,hv,.lst hr⟩)
theorem vJ(O:XO w g c E X)(hcalm:X.calm=true){sc:aI}{cap:List (Option Nat)}{tgt it elt:Expr}{ifs:List Expr}{pos:Pos}{iit:It}{itg:Tg}{tt:T}{ielt:EV.E}(hS:cm X (bx sc.names) cap sc)(hnd:(bx sc.names).Nodup)
  (hi:PI X tgt it (tIt w g c E iit)) (hb:∀cl C s₀ H₀ fp,PG (zL X (bx sc.names) sc cl C s₀ H₀ fp) tgt (gT X.K itg)/\PTs (zL X (bx sc.names) sc cl C s₀ H₀ fp) ifs (tT w g (b9 c sc) E0 tt)/\PE (zL X (bx sc.names) sc cl C s₀ H₀ fp) elt (tE w g (b9 c sc) E0 ielt))
  (he:esc ielt=true) (hs:zz it=true):PE X (.ListComp elt [⟨tgt,it,ifs,0⟩] sc pos) (tE w g c E (.comp iit cap itg tt ielt)):=by
 exact PE.imp (xO (tb:=λacc=>fZ acc (tE w g (b9 c sc) E0 ielt)) hcalm hS hi (λcl C s₀ H₀ fp=>⟨(hb cl C s₀ H₀ fp).1,(hb cl C s₀ H₀ fp).2.1,λacc=>lG rfl (hb cl C s₀ H₀ fp).2.2⟩) (by simp) (λx=>by cases it<;>first|rfl|(simp[zz]at hs))) λσ H Q q=>jE O hS he q
end
end EV
namespace L2
open PySem PySem.Spec PyProof.Rows
section
variable{prog:aq}{w:aj}{A:ar}{E:ae->af->Prop}{s:af}
end
section
variable{X:Cx}{tg:Expr}
end
end L2
namespace EV
open PySem PySem.Spec PySem.P PyProof.Rows L2
section
variable{prog:aq}{w:aj}{A:ar}{E:ae->af->Prop}{s:af}
end
section
variable{X:Cx}
end
section
variable{w:W}{g:Gc}{c:Cc}{E:XK}{X:Cx}{a b:Expr}{ia ib:EV.E}{pos p2 p3 pos3:Pos}
theorem rZ(O:XO w g c E X){x y:Str}{tg:Expr}(hx:glob c x=some .rvd)(hy:glob c y=some .rng)(ha:PE X a (tE w g c E ia))(hs:isStar a=false):PI X tg (.Call (.Name x p2) [.Call (.Name y p3) [a] [] pos3] [] pos) (tIt w g c E (.rrev ia)):=λpins s σ H R I ⟨τ,S,se,kk⟩=>by
 simp only[evI]at kk;exact aM kk
theorem l5(O:XO w g c E X)(hc:X.calm=true){x y:Str}{n:String}{bb:Option B1}{e:Expr}{es:List Expr}{it:It}{t:TA}(hT:glob c x=some (.ty n bb))(h:glob c y=some .rng)(ha:PA X (e::es) t)(hs:∀z∈e::es,isStar z=false)
  (hn:n = "tuple"\/n = "list")
  (k:∀σ H (Q:List V->Hp->Prop) τ S (P:List D->Prop),SE g c τ σ H S->tR g E H (evI w it τ) P->(∀lo hi vs H',qa H H'->(vs=[.int hi]/\lo=0\/vs=[.int lo,.int hi])->zr lo=true->zr hi=true->P (b6 lo (hi-lo).toNat)->Q vs H')->t σ H Q) :
  PE X (.Call (.Name x p2) [.Call (.Name y p3) (e::es) [] pos3] [] pos) (tE w g c E (if n = "tuple" then .rtup it else .rlst it)):=λpins s σ H Q I ⟨τ,S,se,kk⟩=>by
 rcases hn with rfl|rfl
 ·simp only[if_true,qY,qW,za,zb,qX,qZ,zf,ze,zc,qo,qx,qq,qt,qE,qJ,qC,qy,qz,qr,qA,qK,qh,qB,qH,ql,qk,qO,qI,qP,qG,qF,qQ,qT,qp,qN,qS,qM,qD,qm,qu,qL,qR]at kk;exact aM kk
 ·rw[if_neg (by decide)]at kk;simp only[qY,qW,za,zb,qX,qZ,zf,ze,zc,qo,qx,qq,qt,qE,qJ,qC,qy,qz,qr,qA,qK,qh,qB,qH,ql,qk,qO,qI,qP,qG,qF,qQ,qT,qp,qN,qS,qM,qD,qm,qu,qL,qR]at kk;exact aM kk
theorem rX(O:XO w g c E X)(hc:X.calm=true){x y:Str}{bb:Option B1}{d:Expr}{id:EV.E}(hT:glob c x=some (.ty "tuple" bb))(h:glob c y=some .rng)(ha:PE X a (tE w g c E ia))(hb:PE X b (tE w g c E ib))(hd:PE X d (tE w g c E id))(hs:isStar a=false)(hs':isStar b=false)(hs'':isStar d=false) :
  PE X (.Call (.Name x p2) [.Call (.Name y p3) [a,b,d] [] pos3] [] pos) (tE w g c E (.rtup (.rng3 ia ib id))):=λpins s σ H Q I ⟨τ,S,se,kk⟩=>by
 simp only[qY,qW,za,zb,qX,qZ,zf,ze,zc,qo,qx,qq,qt,qE,qJ,qC,qy,qz,qr,qA,qK,qh,qB,qH,ql,qk,qO,qI,qP,qG,qF,qQ,qT,qp,qN,qS,qM,qD,qm,qu,qL,qR]at kk;exact aM kk
theorem wZ(ha:PE X a (tE w g c E ia))(hs:isStar a=false):PA X [a] (fB (tE w g c E ia) fV):=zJ ha cx (qw hs)
theorem rQ:∀σ H (Q:List V->Hp->Prop) τ S (P:List D->Prop),SE g c τ σ H S->tR g E H (evI w (.rng ia) τ) P->(∀lo hi vs H',qa H H'->(vs=[.int hi]/\lo=0\/vs=[.int lo,.int hi])->zr lo=true->zr hi=true->P (b6 lo (hi-lo).toNat)->Q vs H')->fB (tE w g c E ia) fV σ H Q:=by
 intro σ H Q τ S P se q k;simp only[evI]at q;refine qV se q λda va H1 e1 p1 k1=>?_
 cases da with
 |int j=>
  simp only at k1;cases z:zr j with
  |true=>rw[z,if_pos rfl]at k1;exact k 0 j _ H1 p1.same (.inl ⟨by rw[p1.rb.int],rfl⟩) (by decide) z (by rw[Int.sub_zero];exact k1)
  |false=>rw[z]at k1;exact k1.elim
 |_=>exact k1.elim
theorem um:∀σ H (Q:List V->Hp->Prop) τ S (P:List D->Prop),SE g c τ σ H S->tR g E H (evI w (.rng2 ia ib) τ) P->(∀lo hi vs H',qa H H'->(vs=[.int hi]/\lo=0\/vs=[.int lo,.int hi])->zr lo=true->zr hi=true->P (b6 lo (hi-lo).toNat)->Q vs H')->fB (tE w g c E ia) (fB (tE w g c E ib) fV) σ H Q:=by
 intro σ H Q τ S P se q k;simp only[evI]at q;refine qV se q λda va H1 e1 p1 k1=>qV (se.up p1.same) k1 λdb vb H2 e2 p2 k2=>?_
 cases da with
 |int i=>
  cases db with
  |int j=>
   simp only at k2;cases z:zr i&&zr j with
   |true=>
    rw[z,if_pos rfl]at k2;simp only[ax]at z;exact k i j _ H2 (p1.same.trans p2.same) (.inr (by rw[p1.rb.int,p2.rb.int])) z.1 z.2 k2
   |false=>rw[z]at k2;exact k2.elim
  |_=>exact k2.elim
 |_=>exact k2.elim
end
structure Snd(w:W)(g:Gc)(n:Nat):Prop where
 e:∀{c:Cc}{E:XK}{X:Cx} (O:XO w g c E X) {x:Expr}{ir:EV.E},cE n c x=some ir->PE X x (tE w g c E ir)
 bo:∀{c:Cc}{E:XK}{X:Cx} (O:XO w g c E X) {op:PySem.BoolOp}{vs:List Expr}{pos:Pos}{ir:EV.E},cBo n c op vs=some ir->PE X (.BoolOp op vs pos) (tE w g c E ir)/\esc ir=true
 o:∀{c:Cc}{E:XK}{X:Cx} (O:XO w g c E X) {x:Option Expr}{ir:OE},cO n c x=some ir->PO X x (tOe w g c E ir)
 es:∀{c:Cc}{E:XK}{X:Cx} (O:XO w g c E X) {x:List Expr}{ir:Es},cEs n c x=some ir->PA X x (tA w g c E ir)
 i:∀{c:Cc}{E:XK}{X:Cx} (O:XO w g c E X) {tg x:Expr}{ir:It},cI n c x=some ir->eK ir tg=true->PI X tg x (tIt w g c E ir)
 t:∀{c:Cc}{E:XK}{X:Cx} (O:XO w g c E X) {x:Expr}{ir:T},cT n c x=some ir->PT X x (tT w g c E ir)
 ts:∀{c:Cc}{E:XK}{X:Cx} (O:XO w g c E X) {op:PySem.BoolOp}{vs:List Expr}{pos:Pos}{ir:T},cTs n c op vs=some ir->PW X (.BoolOp op vs pos) (tT w g c E ir)
 ifs:∀{c:Cc}{E:XK}{X:Cx} (O:XO w g c E X) {x:List Expr}{ir:T},dj n c x=some ir->PTs X x (tT w g c E ir)
section
variable{w:W}{g:Gc}{n:Nat}
theorem Snd.ifs_succ(ih:Snd w g n){c:Cc}{E:XK}{X:Cx}(O:XO w g c E X){x:List Expr}{ir:T}(h:dj (n+1) c x=some ir):PTs X x (tT w g c E ir):=by
 match x with
 | []=>
  simp only[dj,bL]at h;subst h;intro pins s σ H Q I ⟨τ,S,se,q⟩;exact oJ pins s σ H Q I (q H (qa.refl _))
 | [t]=>simp only[dj]at h;exact oH (ih.t O h)
 |_::_::_=>simp[dj]at h
theorem Snd.bo_succ(ih:Snd w g n){c:Cc}{E:XK}{X:Cx}(O:XO w g c E X){op:PySem.BoolOp}{vs:List Expr}{pos:Pos}{ir:EV.E}(h:cBo (n+1) c op vs=some ir):PE X (.BoolOp op vs pos) (tE w g c E ir)/\esc ir=true:=by
 match vs with
 | []=>simp[cBo]at h
 | [a]=>
  simp only[cBo,aw,au]at h;obtain⟨ia,h1,h⟩:=h;split at h
  ·rename_i he
   cases h;exact⟨rL (ih.e O h1),he⟩
  ·cases h
 |a::b::r=>
  simp only[cBo,aw,au]at h;obtain⟨ia,h1,ir',h2,h⟩:=h;obtain⟨r1,r2⟩:=ih.bo O (pos:=pos) h2;cases op with
  |And=>cases h;exact⟨wD (ih.e O h1) r1 r2,rfl⟩
  |Or=>cases h;exact⟨z8 (ih.e O h1) r1 r2,rfl⟩
theorem Snd.o_succ(ih:Snd w g n){c:Cc}{E:XK}{X:Cx}(O:XO w g c E X){x:Option Expr}{ir:OE}(h:cO (n+1) c x=some ir):PO X x (tOe w g c E ir):=by
 cases x with
 |none=>simp only[cO,bL]at h;subst h;exact xi
 |some e=>
  simp only[cO,aX]at h;obtain⟨ie,h1,rfl⟩:=h;exact vp (ih.e O h1)
theorem Snd.es_succ(ih:Snd w g n){c:Cc}{E:XK}{X:Cx}(O:XO w g c E X){x:List Expr}{ir:Es}(h:cEs (n+1) c x=some ir):PA X x (tA w g c E ir):=by
 match x with
 | []=>simp only[cEs,bL]at h;subst h;exact wu
 |e::r=>
  have hs:=dW h e aP;simp only[cEs,hs,a7,if_false,aw,au]at h;obtain⟨ie,h1,ir',h2,h⟩:=h;cases h;exact yN (ih.e O h1) (ih.es O h2) hs
theorem Snd.ts_succ(ih:Snd w g n){c:Cc}{E:XK}{X:Cx}(O:XO w g c E X){op:PySem.BoolOp}{vs:List Expr}{pos:Pos}{ir:T}(h:cTs (n+1) c op vs=some ir):PW X (.BoolOp op vs pos) (tT w g c E ir):=by
 match vs with
 | []=>simp[cTs]at h
 | [a]=>
  simp only[cTs]at h;cases op with
  |And=>exact oz (ih.t O h)
  |Or=>exact wx (ih.t O h)
 |a::b::r=>
  simp only[cTs,aw,au]at h;obtain⟨ia,h1,ir',h2,h⟩:=h;cases op with
  |And=>cases h;exact tG (ih.t O h1) (ih.ts O h2)
  |Or=>cases h;exact pM (ih.t O h1) (ih.ts O h2)
theorem Snd.t_succ(ih:Snd w g n){c:Cc}{E:XK}{X:Cx}(O:XO w g c E X){x:Expr}{ir:T}(h:cT (n+1) c x=some ir):PT X x (tT w g c E ir):=by
 unfold cT at h;split at h
 ·simp only[aX]at h;obtain⟨ia,h1,rfl⟩:=h;exact sH (ih.t O h1)
 ·exact(ih.ts O h).pt
 ·cases h
 ·split at h
  ·simp only[aw,au]at h;obtain⟨ia,h1,ib,h2,h⟩:=h;split at h
   ·rename_i hs;cases h;exact rg O (ih.e O h1) (ih.e O h2) hs
   ·cases h
  ·simp only[aw,au]at h;obtain⟨ia,h1,ib,h2,id',h3,h⟩:=h;split at h
   ·rename_i hs
    simp only[ax]at hs;cases h;exact n5 O (ih.e O h1) (ih.e O h2) (ih.e O h3) hs.2
   ·cases h
  ·simp only[aw,au]at h;obtain⟨ia,h1,ib,h2,id',h3,if',h4,h⟩:=h;split at h
   ·rename_i hs
    simp only[ax]at hs;cases h;exact tq O (ih.e O h1) (ih.e O h2) (ih.e O h3) (ih.e O h4) hs.2
   ·cases h
  ·cases h
 ·rename_i n1 n2 n3 n4
  simp only[aX]at h;obtain⟨ia,h1,rfl⟩:=h;refine xh O (ih.e O h1) λwhole=>?_
  cases x with
  |UnaryOp op a p=>cases op<;>first|rfl|exact(n1 _ _ rfl).elim
  |BoolOp op vs p=>exact(n2 _ _ _ rfl).elim
  |IfExp a b d p=>exact(n3 _ _ _ _ rfl).elim
  |Compare a ops bs p=>exact(n4 _ _ _ _ rfl).elim
  |_=>rfl
theorem Snd.i_succ(ih:Snd w g n){c:Cc}{E:XK}{X:Cx}(O:XO w g c E X){tg x:Expr}{ir:It}(h:cI (n+1) c x=some ir)(ht:eK ir tg=true):PI X tg x (tIt w g c E ir):=by
 have sq:∀{x:Expr}{ir:It},(cE n c x).map It.seq=some ir->PI X tg x (tIt w g c E ir):=λ{x ir} h=>by
  simp only[aX]at h;obtain⟨ia,h1,rfl⟩:=h;exact x9 O (ih.e O h1)
 have tup:isTup tg=true->∃es k p,tg=.Tuple es k p:=λh=>by cases tg<;>first|exact⟨_,_,_,rfl⟩|(simp[isTup]at h)
 unfold cI at h;split at h
 ·rename_i f p as q
  split at h
  ·exact sq h
  ·split at h
   ·rename_i hg
    split at h
    ·rename_i a
     split at h
     ·cases h
     ·rename_i hs
      simp only[aX]at h;obtain⟨ia,h1,rfl⟩:=h;exact uH O hg (ih.e O h1) (by simpa using hs)
    ·rename_i a b
     split at h
     ·cases h
     ·rename_i hs
      have hs:isStar a=false/\isStar b=false:=by simpa using hs
      simp only[aw,au]at h;obtain⟨ia,h1,ib,h2,h⟩:=h;cases h;exact rJ O hg (ih.e O h1) (ih.e O h2) hs.1 hs.2
    ·cases h
   ·rename_i hg
    split at h
    ·rename_i a
     split at h
     ·cases h
     ·rename_i hs
      simp only[aX]at h;obtain⟨ia,h1,rfl⟩:=h;obtain⟨es,k,p',rfl⟩:=tup ht;exact wM O hg (ih.e O h1) (by simpa using hs)
    ·cases h
   ·rename_i hg
    split at h
    ·rename_i a b
     split at h
     ·cases h
     ·rename_i hs
      have hs:isStar a=false/\isStar b=false:=by simpa using hs
      simp only[aw,au]at h;obtain⟨ia,h1,ib,h2,h⟩:=h;cases h;obtain⟨es,k,p',rfl⟩:=tup ht;exact o_ O hg (ih.e O h1) (ih.e O h2) hs.1 hs.2
    ·cases h
   ·rename_i hg
    split at h
    ·split at h
     ·rename_i hs
      simp only[ax,beq_iff_eq,aR]at hs;simp only[aX]at h;obtain⟨ia,h1,rfl⟩:=h;exact rZ O hg hs.1.2 (ih.e O h1) hs.2
     ·cases h
    ·cases h
   ·exact sq h
 ·exact sq h
end
end EV
namespace ST
open PySem PySem.SetTable
noncomputable def adv(mask:Nat)(p:Probe):Probe:=
 if p.more>0 then {p with j:=p.j+1,more:=p.more-1}else
 {p with j:=(leap mask p.i p.perturb).1,more:=runEnd mask (leap mask p.i p.perturb).1-(leap mask p.i p.perturb).1,i:=(leap mask p.i p.perturb).1,perturb:=(leap mask p.i p.perturb).2}
noncomputable def RS(mask:Nat)(x:Nat×Nat):Probe:=⟨x.1,runEnd mask x.1-x.1,x.1,x.2,none⟩
noncomputable def pr(mask:Nat)(h:Int):Nat->Probe
 | 0=>RS mask (bits h%(mask+1),bits h)
 |n+1=>adv mask (pr mask h n)
noncomputable def it(mask:Nat):Nat->Probe->Probe
 | 0,p=>p
 |d+1,p=>it mask d (adv mask p)
noncomputable def Mk(mask:Nat):Prop:=mask=7\/mask=31\/mask=127
noncomputable def Reach(mask:Nat)(P:Nat->Prop)(h:Int)(j:Nat):Prop:=∃n,(pr mask h n).j=j/\∀m,m<n->P (pr mask h m).j
structure Good(t:SetTable)(hs:List Int):Prop where
 ma:Mk t.mask
 dum:t.dummies = #[]
 len:t.place.size=hs.length
 ri:t.place.toList.Pairwise (· < ·)
 le:∀j∈t.place.toList,j<=t.mask
 re:∀jh∈t.place.toList.zip hs,Reach t.mask (·∈t.place.toList) jh.2 jh.1
section
variable{t:SetTable}{hs:List Int}(G:Good t hs)
include G
end
structure Lay(mask:Nat)(hs:List Int)(ow:Array (Option Nat))(k:Nat):Prop where
 sz:ow.size=mask+1
 lo:∀(j i:Nat),ow[j]? = some (some i)->i<k
 one:∀(j j' i:Nat),ow[j]? = some (some i)->ow[j']? = some (some i)->j=j'
 all:∀i h,i<k->hs[i]? = some h->∃j:Nat,ow[j]? = some (some i)/\Reach mask (λj=>∃i,ow[j]? = some (some i)) h j
end ST
namespace ST
open PySem PySem.Spec PySem.SetTable
section
variable{K:Type} [DecidableEq K]
noncomputable def ent(hash:K->Int)(x:K×ae):Int×Value:=(hash x.1,x.2)
noncomputable def pP(es:List (Int×ae))(ep:Nat)(t:SetTable):Obj:={cls:=.type "set",dict:=none,data:=.set es.toArray ep t,slots:=#[]}
structure Tb(w:aj)(hash:K->Int)(xs:List (K×ae))(t:SetTable):Prop where
 good:Good t (xs.map λx=>hash x.1)
 few:xs.length * 5<t.mask * 3
 led:t.led = !w.params.followText "set-order"
 plain:t.plain=true
 nd:(xs.map (·.1)).Nodup
noncomputable def mQ(w:aj)(hash:K->Int)(xs:List (K×ae))(o:Obj):Prop:=∃ep t,o=pP (xs.map (ent hash)) ep t/\Tb w hash xs t
variable{w:aj}{hash:K->Int}{xs:List (K×ae)}{t:SetTable}
end
section
variable{prog:aq}{w:aj}{A:ar}{E:ae->af->Prop}{s:af}{K:Type} [DecidableEq K]{hash:K->Int}
end
section
variable{prog:aq}{w:aj}{A:ar}{E:ae->af->Prop}{s:af}
end
section
variable{prog:aq}{w:aj}{A:ar}{E:ae->af->Prop}{s:af}
end
section
variable{prog:aq}{w:aj}{A:ar}{E:ae->af->Prop}{s:af}
noncomputable def More{K:Type} [DecidableEq K](xs:List (K×ae))(k:K)(v:ae):List (K×ae):=if k∈xs.map (·.1)then xs else xs++[(k,v)]
end
structure Kd(prog:aq)(w:aj)(K:Type) [DecidableEq K] where
 hash:K->Int
 el:Heap->K->ae->Prop
 grow:∀{h h':Heap}{k:K}{v:ae},el h k v->(∀b o,h.get? b=some o->h'.get? b=some o)->el h' k v
 room:ar->Prop
 pyHash:∀{A:ar}{E:ae->af->Prop}{s:af}{k:K}{v:ae}{Q:Int->af->Prop},room A->el s.heap k v->(∀tk,s.toks<=tk->Q (hash k) {s with toks:=tk})->ag (ai prog w) A (pyHash v) Q E s
 add:∀{A:ar}{E:ae->af->Prop}{s:af}{a:Addr}{xs:List (K×ae)}{k:K}{v:ae}{o:Obj}{Q:Bool->af->Prop},room A->s.heap.get? a=some o->mQ w hash xs o ->
  (∀x∈xs,el s.heap x.1 x.2)->el s.heap k v->xs.length+1<64 ->
  (∀b h' ys,Heap.SameBut a s.heap h'->(∃o,h'.get? a=some o/\mQ w hash ys o)->ys.Perm (More xs k v)->Q b {s with heap:=h'})->ag (ai prog w) A (setAddHashed a v (hash k)) Q E s
section
variable{prog:aq}{w:aj}{K:Type} [DecidableEq K](D:Kd prog w K)
variable{D}
variable{A:ar}{R:Result->af->Prop}{I:Addr}{fp wr:List Addr}{G:Array GenState->Array GenState->Prop}{n:Nat}{P:Nat->ae->Prop}{St:Nat->af->Prop}
end
section
variable{prog:aq}{w:aj}{A:ar}{E:ae->af->Prop}{s:af}{K:Type} [DecidableEq K]{D:Kd prog w K}
end
section
variable{prog:aq}{w:aj}{A:ar}{E:ae->af->Prop}{s:af}{K:Type} [DecidableEq K]{hash:K->Int}
end
section
variable{prog:aq}{w:aj}{A:ar}{E:ae->af->Prop}{s:af}{K:Type} [DecidableEq K]{hash:K->Int}
end
section
variable{prog:aq}{w:aj}{A:ar}{E:ae->af->Prop}{s:af}{K:Type} [DecidableEq K]{hash:K->Int}
end
end ST
namespace ST
open PySem PySem.Spec PySem.SetTable PyProof.Rows
section
variable{prog:aq}{w:aj}{A:ar}{E:ae->af->Prop}{s:af}
end
end ST
namespace L2
open PySem PySem.Spec PyProof.Rows
variable{X:Cx}
end L2
namespace ST
open PySem PySem.Spec PySem.SetTable PyProof.Rows TS L2
section
variable{prog:aq}{w:aj}{A:ar}{E:ae->af->Prop}{s:af}
end
end ST
namespace L2
open PySem PySem.Spec PyProof.Rows TS
variable{X:Cx}
end L2
namespace EV
open PySem PySem.Spec PySem.P PyProof.Rows L2
theorem oX{c:Cc}{b:B1}{as:List Expr}{a:Expr}(h:g_ c b as=some a):∃y p3 pos3,as=[.Call (.Name y p3) [a] [] pos3]/\b=.sorted/\glob c y=some .set/\isStar a=false/\c.calm=true:=by
 unfold g_ at h;split at h
 ·split at h
  ·rename_i hq
   cases h;simp only[ax,a9,beq_iff_eq,aR]at hq;exact⟨_,_,_,rfl,hq.1.1.1.1,hq.1.1.2,hq.1.2,hq.2⟩
  ·cases h
 ·cases h
section
variable{w:W}{g:Gc}{c:Cc}{E:XK}{X:Cx}{a:Expr}{ia:EV.E}{pos p2 p3 pos3:Pos}
theorem vC(O:XO w g c E X){st:Expr}(ha:PE X a (tE w g c E ia))(hs:jU st=true):PE X (.Subscript a (.Slice none none (some st) p2) pos) (tE w g c E (.rev ia)):=λpins s σ H Q I ⟨τ,S,se,kk⟩=>by
 simp only[qY,qW,za,zb,qX,qZ,zf,ze,zc,qo,qx,qq,qt,qE,qJ,qC,qy,qz,qr,qA,qK,qh,qB,qH,ql,qk,qO,qI,qP,qG,qF,qQ,qT,qp,qN,qS,qM,qD,qm,qu,qL,qR]at kk;exact aM kk
theorem vo(O:XO w g c E X)(hc:X.calm=true){x y:Str}{b:B1}(hb:b=.sorted)(hx:glob c x=some (.bi b))(hy:glob c y=some .set)(ha:PE X a (tE w g c E ia))(hs:isStar a=false) :
  PE X (.Call (.Name x p2) [.Call (.Name y p3) [a] [] pos3] [] pos) (tE w g c E (.sset (b==.len) ia)):=λpins s σ H Q I ⟨τ,S,se,kk⟩=>by
 simp only[qp]at kk;exact aM kk
end
section
variable{w:W}{g:Gc}{n:Nat}
theorem uk{c:Cc}{t:String}{as:List Expr}{a:Expr}(h:iy c t as=some a):∃x p,as=[.Name x p]/\a=.Name x p/\t = "list"/\c.calm=true:=by
 unfold iy at h;split at h
 ·split at h
  ·split at h
   ·rename_i hc
    simp only[ax,beq_iff_eq]at hc;cases h;exact⟨_,_,rfl,rfl,hc.1.1,hc.1.2⟩
   ·cases h
  ·cases h
 ·cases h
theorem Snd.call_name(ih:Snd w g n){c:Cc}{E:XK}{X:Cx}(O:XO w g c E X){f:Str}{p pos:Pos}{as:List Expr}{ir:EV.E}(h:cE (n+1) c (.Call (.Name f p) as [] pos)=some ir):PE X (.Call (.Name f p) as [] pos) (tE w g c E ir):=by
 unfold cE at h;dsimp only at h;split at h
 ·cases h
 ·split at h
  ·rename_i fr hg
   simp only[aw,au]at h;obtain⟨ies,h1,h⟩:=h;split at h
   ·rename_i hc
    simp only[ax,aR]at hc;cases h
    match as with
    | []=>simp at hc
    |e::es=>exact nk O hg (ih.es O h1) hc.1 (dW h1)
   ·split at h
    ·rename_i hc
     simp only[aR]at hc;cases h
     match as with
     | []=>simp at hc
     |e::es=>exact uV O hg (ih.es O h1) (dW h1)
    ·cases h
  ·rename_i b hg
   split at h
   ·rename_i a hs
    obtain⟨y,p3,pos3,rfl,hb,hy,hst,hc⟩:=oX hs;rw[aX]at h;obtain⟨ia,h1,rfl⟩:=h;exact vo O (O.calm hc) hb hg hy (ih.e O h1) hst
   simp only[aw,au]at h;obtain⟨ies,h1,h⟩:=h;split at h
   ·rename_i hc
    simp only[ax,aR,a9,beq_iff_eq]at hc;cases h
    match as with
    | []=>simp at hc
    |e::es=>exact yf O hg (by rcases hc.2 with (z|z)|z;exact .inl (O.calm z);exact .inr (.inl z);exact .inr (.inr z)) (ih.es O h1) (dW h1)
   ·cases h
  ·rename_i t b hg
   have plain:∀{ies:Es},cEs n c as=some ies->as.isEmpty=false->PE X (.Call (.Name f p) as [] pos) (tE w g c E (.bi b ies)):=λ{ies} h1 he=>by
    match as with
    | []=>simp at he
    |e::es=>exact p7 O hg (ih.es O h1) (dW h1)
   split at h
   ·rename_i y p' as' q
    split at h
    ·rename_i hr
     simp only[ax,beq_iff_eq]at hr;split at h
     ·rename_i hc
      simp only[ax,a9,beq_iff_eq]at hc;split at h
      ·rename_i a
       split at h
       ·cases h
       ·rename_i hs
        have hs:isStar a=false:=by simpa using hs
        simp only[aw,au]at h;obtain⟨ia,h1,h⟩:=h;cases h;exact l5 O (O.calm hc.1) hg hr.2 (wZ (ih.e O h1) hs) (by intro z hz;simp at hz;rw[hz];exact hs) hc.2 rQ
      ·rename_i a d
       split at h
       ·cases h
       ·rename_i hs
        have hs:isStar a=false/\isStar d=false:=by simpa using hs
        simp only[aw,au]at h;obtain⟨ia,h1,ib,h2,h⟩:=h;cases h;exact l5 O (O.calm hc.1) hg hr.2 (zJ (ih.e O h1) (zJ (ih.e O h2) cx (qw hs.2)) (qw hs.1)) (by intro z hz;simp at hz;rcases hz with rfl|rfl;exact hs.1;exact hs.2) hc.2 um
      ·rename_i a d k
       split at h
       ·cases h
       ·rename_i hs
        have hs:(isStar a=false/\isStar d=false)/\isStar k=false:=by simpa[and_assoc]using hs
        simp only[aw,au]at h;obtain⟨ia,h1,ib,h2,id,h3,h⟩:=h;split at h
        ·rename_i ht
         have ht:=eq_of_beq ht;subst ht;cases h;exact rX O (O.calm hc.1) hg hr.2 (ih.e O h1) (ih.e O h2) (ih.e O h3) hs.1.1 hs.1.2 hs.2
        ·cases h
      ·cases h
     ·cases h
    ·simp only[aw,au]at h;obtain⟨ies,h1,h⟩:=h;cases h;exact plain h1 rfl
   ·split at h
    ·rename_i a hs
     obtain⟨x,px,rfl,rfl,rfl,hc⟩:=uk hs;obtain⟨ia,h1,rfl⟩:=aX.mp h;exact yI O (O.calm hc) hg (ih.e O h1) rfl
    simp only[aw,au]at h;obtain⟨ies,h1,h⟩:=h;split at h
    ·rename_i hc
     cases h;exact plain h1 (by simpa using hc)
    ·cases h
  ·rename_i hg
   split at h
   ·rename_i a k
    split at h
    ·cases h
    ·rename_i hs
     simp only[aw,au]at h;obtain⟨ia,h1,cl,h2,h⟩:=h;cases h;exact sT O hg (ih.e O h1) h2 (by simpa using hs)
   ·cases h
  ·cases h
theorem hJ:∀{n:Nat}{c:Cc}{l:List Expr}{es:Es},cEs n c l=some es->l.length<=n
 | 0,_,_,_,h=>by simp[cEs]at h
 |n+1,_,[],_,_=>by simp
 |n+1,c,x::l,es,h=>by
  have hs:=dW h x aP;simp only[cEs,hs,a7,if_false,aw,au]at h;obtain⟨_,_,r,hr,_⟩:=h;have:=hJ hr
  simpa using this
theorem gQ{c:Cc}{elt:Expr}{gs:List bz}{sc:aI}{p:Pos}{ir:EV.E}(h:cE (n+1) c (.ListComp elt gs sc p)=some ir) :
  ∃tgt it ifs iit itg it' ie,gs=[⟨tgt,it,ifs,0⟩]/\(c.calm=true/\zz it=true)/\(ft (λx=>c.nm.lookup x) c.N (bx sc.names) (eD c sc.names) sc=true/\(bx sc.names).Nodup)/\cI n c it=some iit/\cTg (b9 c sc) tgt=some itg/\dj n (b9 c sc) ifs=some it'/\cE n (b9 c sc) elt=some ie/\(esc ie=true/\eK iit tgt=true)/\ir=.comp iit (eD c sc.names) itg it' ie:=by
 unfold cE at h;dsimp only at h;split at h
 ·rename_i tgt it ifs asy
  split at h
  ·cases h
  ·rename_i hs
   have hs:(asy=0/\c.calm=true)/\zz it=true:=by simpa using hs
   obtain⟨⟨rfl,hs1⟩,hs2⟩:=hs;split at h
   ·cases h
   ·rename_i hk
    have hk:ft (λx=>c.nm.lookup x) c.N (bx sc.names) (eD c sc.names) sc=true/\(bx sc.names).Nodup:=by simpa using hk
    simp only[aw,au]at h;obtain⟨iit,h1,itg,h2,it',h3,ie,h4,h⟩:=h;split at h
    ·rename_i he
     simp only[ax]at he;cases h;exact⟨tgt,it,ifs,iit,itg,it',ie,rfl,⟨hs1,hs2⟩,hk,h1,h2,h3,h4,he,rfl⟩
    ·cases h
 ·cases h
theorem jq{x:Expr}{t:Str}(h:fN x=some t):∃k p,x=.Constant (.str t) k p:=by
 unfold fN at h;split at h
 ·split at h
  ·cases h;exact⟨_,_,rfl⟩
  ·cases h
 ·cases h
theorem kP{x a:Expr}(h:gA x=some a):∃p,x=.FormattedValue a (-1) none p:=by
 unfold gA at h;split at h
 ·split at h
  ·split at h
   ·rename_i e;cases h;subst e;exact⟨_,rfl⟩
   ·cases h
  ·cases h
 ·cases h
theorem vB{vs:List Expr}{t0 t1 t2:Str}{a b:Expr}(h:gX vs=some (t0,a,t1,b,t2)):∃k0 k1 k2 p0 p1 p2 p3 p4,vs=[.Constant (.str t0) k0 p0,.FormattedValue a (-1) none p1,.Constant (.str t1) k1 p2,.FormattedValue b (-1) none p3,.Constant (.str t2) k2 p4]/\(Str.empty++t0).length<=1000:=by
 unfold gX at h;split at h
 ·simp only[aw,au]at h;obtain⟨u0,h0,u1,h1,u2,h2,u3,h3,u4,h4,h⟩:=h;split at h
  ·rename_i hz
   cases h;obtain⟨k0,p0,rfl⟩:=jq h0;obtain⟨p1,rfl⟩:=kP h1;obtain⟨k1,p2,rfl⟩:=jq h2;obtain⟨p3,rfl⟩:=kP h3;obtain⟨k2,p4,rfl⟩:=jq h4;exact⟨_,_,_,_,_,_,_,_,rfl,hz⟩
  ·cases h
 ·cases h
theorem Snd.e_succ(ih:Snd w g n)(hn:n<=100000){c:Cc}{E:XK}{X:Cx}(O:XO w g c E X){x:Expr}{ir:EV.E}(h:cE (n+1) c x=some ir):PE X x (tE w g c E ir):=by
 have h0:=h;unfold cE at h;split at h
 ·-- Name
  rename_i y p
  split at h
  ·rename_i i hl
   have:=wm (w:=w) (E:=E) (pos:=p) O hl;cases ho:c.own.contains y with
   |true=>rw[ho]at h this;cases h;exact this
   |false=>rw[ho]at h this;cases h;exact this
  ·split at h
   ·rename_i hg;cases h;exact yQ O hg
   ·rename_i fr hg;cases h;exact rq O hg
   ·cases h
 ·split at h
  ·cases h;exact gK mM λ_=>.int _
  ·cases h;exact gK tH λ_=>.bl _
  ·cases h;exact gK xQ λ_=>.non
  ·cases h;exact gK pZ λ_=>.str _
  ·cases h
 ·simp only[aw,au]at h;obtain⟨o,ho,ia,h1,ib,h2,h⟩:=h;cases h;exact xW O ho (ih.e O h1) (ih.e O h2)
 ·rename_i op a p
  simp only[aw,au]at h;obtain⟨ia,h1,h⟩:=h;cases op with
  |USub=>cases h;exact p_ (ih.e O h1)
  |Invert=>cases h;exact rF (ih.e O h1)
  |Not=>cases h;exact yM (ih.e O h1)
  |UAdd=>cases h
 ·exact(ih.bo O h).1
 ·split at h
  ·simp only[aw,au]at h;obtain⟨ia,h1,ib,h2,h⟩:=h;split at h
   ·rename_i hs;cases h;exact yp O (ih.e O h1) (ih.e O h2) hs
   ·cases h
  ·simp only[aw,au]at h;obtain⟨ia,h1,ib,h2,id',h3,h⟩:=h;split at h
   ·rename_i hs
    simp only[ax]at hs;cases h;exact x6 O (ih.e O h1) (ih.e O h2) (ih.e O h3) hs.2
   ·cases h
  ·simp only[aw,au]at h;obtain⟨ia,h1,ib,h2,id',h3,if',h4,h⟩:=h;split at h
   ·rename_i hs
    simp only[ax]at hs;cases h;exact yH O (ih.e O h1) (ih.e O h2) (ih.e O h3) (ih.e O h4) hs.2
   ·cases h
  ·cases h
 ·split at h
  ·split at h
   ·rename_i hk
    rw[List.isEmpty_iff]at hk;subst hk;cases h;exact wt
   ·cases h
  ·split at h
   ·split at h
    ·split at h
     ·simp only[aw,au]at h;obtain⟨ik,h1,iv,h2,h⟩:=h;split at h
      ·cases h
      ·rename_i hes
       have hes:esc iv=true:=by simpa using hes
       split at h
       ·split at h
        ·rename_i hk
         rw[List.isEmpty_iff]at hk;subst hk;cases h;exact o7 O (ih.e O h1) (ih.e O h2) hes
        ·cases h
       ·split at h
        ·split at h
         ·split at h
          ·rename_i hk
           simp only[ax,List.isEmpty_iff]at hk;obtain⟨⟨_,rfl⟩,rfl⟩:=hk;simp only[aw,au]at h;obtain⟨ik2,h3,iv2,h4,h⟩:=h;split at h
           ·cases h
           ·rename_i hes2
            cases h;exact pB O (ih.e O h1) (ih.e O h2) hes (ih.e O h3) (ih.e O h4) (by simpa using hes2)
          ·cases h
         ·cases h
        ·cases h
     ·split at h
      ·rename_i hk
       simp only[ax,List.isEmpty_iff]at hk;obtain⟨rfl,rfl⟩:=hk;simp only[aw,au]at h;obtain⟨ik,h1,iv,h2,h⟩:=h;cases h;exact xA (ih.e O h1) (ih.e O h2)
      ·cases h
    ·cases h
   ·cases h
 ·split at h
  ·rename_i hf
   simp only[aw,au]at h;obtain⟨ia,h1,ib,h2,h⟩:=h;cases h;obtain⟨k0,k1,k2,p0,p1,p2,p3,p4,rfl,hz⟩:=vB hf;exact vN hz (ih.e O h1) (ih.e O h2)
  ·cases h
 ·simp only[aw,au]at h;obtain⟨it,h1,ia,h2,ib,h3,h⟩:=h;split at h
  ·rename_i hs
   simp only[ax]at hs;cases h;exact yY (ih.t O h1) (ih.e O h2) (ih.e O h3) hs.1 hs.2
  ·cases h
 ·simp only[aw,au]at h;obtain⟨ies,h1,h⟩:=h;split at h
  ·rename_i hs;cases h
   exact xu (ih.es O h1) hs λτ ds e=>by rw[iE h1 e];exact a5 (hJ h1) hn
  ·cases h
 ·simp only[aw,au]at h;obtain⟨ies,h1,h⟩:=h;split at h
  ·rename_i hs;cases h
   exact sR (ih.es O h1) hs λτ ds e=>by rw[iE h1 e];exact a5 (hJ h1) hn
  ·cases h
 ·split at h
  ·rename_i lo hi st' sp
   split at h
   ·split at h
    ·rename_i hq
     simp only[ax,Option.isNone_iff_eq_none]at hq;obtain⟨⟨rfl,rfl⟩,hq⟩:=hq;rw[aX]at h;obtain⟨ia,h1,rfl⟩:=h;exact vC O (ih.e O h1) hq
    ·cases h
   ·simp only[aw,au]at h;obtain⟨ia,h1,il,h2,ih',h3,h⟩:=h;cases h;exact sf O (ih.e O h1) (ih.o O h2) (ih.o O h3)
  ·split at h
   ·cases h
   ·rename_i hs
    simp only[aw,au]at h;obtain⟨ia,h1,ib,h2,h⟩:=h;cases h;exact oU O (ih.e O h1) (ih.e O h2) (by simpa using hs)
 ·-- ListComp
  rename_i elt gs sc p
  obtain⟨tgt,it,ifs,iit,itg,it',ie,rfl,hs,hk,h1,h2,h3,h4,he,rfl⟩:=gQ h0;have hS:cm X (bx sc.names) (eD c sc.names) sc:=cm.of (by
   have e1:(λx=>c.nm.lookup x)=X.env.kindOf:=by funext x;show _=X.env.scope.names.lookup x;rw[O.nm]
   rw[<-e1,O.N];exact hk.1)
  refine vJ O (O.calm hs.1) hS hk.2 (ih.i O h1 he.2) (λcl C s₀ H₀ fp=>?_) he.1 hs.2;have OY:=O.comp hS.kind hk.2 cl C s₀ H₀ fp;exact⟨fJ OY h2,ih.ifs OY h3,ih.e OY h4⟩
 ·split at h
  ·split at h
   ·exact ih.call_name O h0
   ·split at h
    ·rename_i hm
     cases h;exact uh O hm
    ·split at h
     ·split at h
      ·cases h
      ·rename_i hc
       simp only[a9,aR,not_or,Bool.not_eq_true,Bool.not_eq_false]at hc;simp only[aw,au]at h;obtain⟨io,h1,ia,h2,h⟩:=h;obtain⟨⟨⟨c1,c2⟩,c3⟩,c4⟩:=hc;split at h
       ·rename_i hg
        cases h;have hg:=eq_of_beq hg;subst hg;exact ux O c1 (ih.e O h1) (ih.e O h2) c2 c4
       ·rename_i hg
        split at h
        ·cases h;have c3:=eq_of_beq (c3.resolve_right hg);subst c3;exact sI O c1 (ih.e O h1) (ih.e O h2) c2 c4
        ·cases h
     ·split at h
      ·cases h
      ·rename_i hc
       simp only[a9,aR,not_or,Bool.not_eq_true,Bool.not_eq_false]at hc;simp only[aw,au]at h;obtain⟨io,h1,ia,h2,id,h3,h⟩:=h;obtain⟨⟨⟨⟨c1,c2⟩,c3⟩,c4⟩,c5⟩:=hc;have c4:=eq_of_beq c4;subst c4;split at h
       ·rename_i hes
        cases h;exact uz O c1 (ih.e O h1) (ih.e O h2) (ih.e O h3) c2 c3 hes c5
       ·cases h
     ·cases h
   ·cases h
  ·cases h
 ·cases h
theorem wc:Snd w g 0:=⟨λ_ _ _ h=>(by cases h),λ_ _ _ _ _ h=>by simp[cBo]at h,λ_ _ _ h=>by simp[cO]at h,λ_ _ _ h=>by simp[cEs]at h,λ_ _ _ _ h=>by simp[cI]at h,λ_ _ _ h=>by simp[cT]at h,λ_ _ _ _ _ h=>by simp[cTs]at h,λ_ _ _ h=>by simp[dj]at h⟩
theorem snd:∀n,n<=100000->Snd w g n
 | 0,_=>wc
 |n+1,h=>
  have ih:=snd n (Nat.le_of_succ_le h)
  ⟨λO _ _ q=>ih.e_succ (Nat.le_of_succ_le h) O q,λO _ _ _ _ q=>ih.bo_succ O q,λO _ _ q=>ih.o_succ O q,λO _ _ q=>ih.es_succ O q,λO _ _ _ q t=>ih.i_succ O q t,λO _ _ q=>ih.t_succ O q,λO _ _ _ _ q=>ih.ts_succ O q,λO _ _ q=>ih.ifs_succ O q⟩
end
noncomputable def zg(c:Cc)(i:Nat):Prop:=∃x,c.N[i]? = some x/\c.own.contains x=true
structure SS(g:Gc)(c:Cc)(H0:Hp)(B:Sh)(τ:Env)(σ:L2.St)(H:Hp)(S:Sh):Prop where
 se:SE g c τ σ H S
 lenN:τ.length=c.N.length
 same:qa H0 H
 sub0:Sub B H0
 hd:∀a,S.h a=(B.h a||S.o a)
 new:∀a,S.o a=true->H0 a=none
 own:∀i d,zg c i->τ[i]? = some (some d)->zo d=true->∃a o,σ[i]? = some (some (.ref a))/\S.o a=true/\H a=some o/\bH g (hid H S) a d o
 inj:∀i j d e a,zg c i->zg c j->τ[i]? = some (some d)->τ[j]? = some (some e)->zo d=true->zo e=true->σ[i]? = some (some (.ref a))->σ[j]? = some (some (.ref a))->i=j
 frz:c.frz=true->(∀i,zg c i->σ[i]? = B.z[i]?)/\qa B.y H
section
variable{g:Gc}{c:Cc}{H0:Hp}{B:Sh}{τ:Env}{σ:L2.St}{H H':Hp}{S:Sh}
theorem SS.up(s:SS g c H0 B τ σ H S)(e:qa H H'):SS g c H0 B τ σ H' S:=
 ⟨s.se.up e,s.lenN,s.same.trans e,s.sub0,s.hd,s.new,λi d hi h l=>let ⟨a,o,h1,h2,h4,h5⟩:=s.own i d hi h l;⟨a,o,h1,h2,e _ _ h4,h5.mono (qc e)⟩,s.inj,λz=>⟨(s.frz z).1,(s.frz z).2.trans e⟩⟩
theorem SS.set{i:Nat}{d:D}{v:V}(s:SS g c H0 B τ σ H S)(hi:¬ zg c i)(r:Rep g (hid H S) d v):SS g c H0 B (τ.set i (some d)) (σ.set i (some v)) H S:=by
 refine⟨s.se.set r,by simp[s.lenN],s.same,s.sub0,s.hd,s.new,λj e hj h l=>?_,λj k e f a hj hk h1 h2 l1 l2 h3 h4=>?_,λz=>⟨λj hj=>?_,(s.frz z).2⟩⟩
 ·have hij:i≠j:=λz=>hi (z▸hj)
  rw[List.getElem?_set_ne hij]at h ⊢;exact s.own j e hj h l
 ·have hij:i≠j:=λz=>hi (z▸hj)
  have hik:i≠k:=λz=>hi (z▸hk)
  rw[List.getElem?_set_ne hij]at h1 h3;rw[List.getElem?_set_ne hik]at h2 h4;exact s.inj j k e f a hj hk h1 h2 l1 l2 h3 h4
 ·rw[List.getElem?_set_ne (λz:i=j=>hi (z▸hj))];exact(s.frz z).1 j hj
theorem bH.isld{H:Hp}{a:Addr}{d:D}{o:HO}(h:bH g H a d o):zo d=true:=by cases h<;>rfl
theorem zw.nold{H:Hp}{d:D}{v:V}(h:zw g H S d v)(l:zo d=false):Rep g (hid H S) d v:=by
 rcases h with h|⟨_,_,_,_,_,h⟩
 ·exact h
 ·rw[h.isld]at l;cases l
theorem SS.setN{i:Nat}{d:D}{v:V}(s:SS g c H0 B τ σ H S)(hz:c.frz=false)(hlt:i<τ.length)(l:zo d=false)(r:Rep g (hid H S) d v):SS g c H0 B (τ.set i (some d)) (σ.set i (some v)) H S:=by
 have no:∀j e,(τ.set i (some d))[j]? = some (some e)->zo e=true->i≠j:=λj e h q z=>by
  subst z;simp[hlt]at h;subst h;rw[l]at q;cases q
 refine⟨s.se.set r,by simp[s.lenN],s.same,s.sub0,s.hd,s.new,λj e hj h q=>?_,λj k e f a hj hk h1 h2 l1 l2 h3 h4=>?_,λz=>by rw[hz]at z;cases z⟩
 ·have hij:=no j e h q;rw[List.getElem?_set_ne hij]at h ⊢;exact s.own j e hj h q
 ·have hij:=no j e h1 l1;have hik:=no k f h2 l2;rw[List.getElem?_set_ne hij]at h1 h3;rw[List.getElem?_set_ne hik]at h2 h4;exact s.inj j k e f a hj hk h1 h2 l1 l2 h3 h4
theorem SS.setAll{is:List Nat}:∀{ds:List D}{vs:List V}{τ τ':Env}{σ:L2.St}{Q:L2.St->Hp->Prop},SS g c H0 B τ σ H S->(∀i∈is,¬ zg c i)->qU g (hid H S) ds vs->EV.setAll is ds τ=.ok τ'->(∀σ',SS g c H0 B τ' σ' H S->Q σ' H)->fg is vs σ H Q:=by
 induction is with
 |nil=>
  intro ds vs τ τ' σ Q se _ r h k;cases r with
  |nil=>cases (show R.ok τ=R.ok τ' from h);exact⟨rfl,k σ se⟩
  |cons _ _=>cases (show R.no=R.ok τ' from h)
 |cons i is ih=>
  intro ds vs τ τ' σ Q se ho r h k;cases r with
  |nil=>cases (show R.no=R.ok τ' from h)
  |cons r rs=>exact⟨_,_,rfl,ih (se.set (ho i aP) r) (λj hj=>ho j (aO _ hj)) rs h k⟩
theorem sj{tg:Tg}(h:eZ c tg):match tg with | .nm i=>¬ zg c i | .tp is=>∀i∈is,¬ zg c i:=by
 cases tg with
 |nm i=>rintro⟨x,h1,h2⟩;rw[h x h1]at h2;cases h2
 |tp is=>rintro i hi ⟨x,h1,h2⟩;rw[h i hi x h1]at h2;cases h2
theorem SS.store{X:Cx}(O:X.K=g.K){tg:Tg}{d:D}{v:V}{τ':Env}{Q:L2.St->Hp->Prop}(s:SS g c H0 B τ σ H S)(hf:eZ c tg)(r:Rep g (hid H S) d v)(h:EV.store tg d τ=.ok τ')(k:∀σ',SS g c H0 B τ' σ' H S->Q σ' H):gT X.K tg v σ H Q:=by
 have ho:=sj hf;cases tg with
 |nm i=>
  simp only[EV.store,R.ok.injEq]at h;subst h;exact k _ (s.set ho r)
 |tp is=>
  cases d with
  |tup ds=>
   simp only[EV.store]at h;split at h
   ·rename_i hl
    cases r with
    |tup h1 r1=>exact⟨_,_,rfl,by rw[O];exact zW zy h1,by rw[<-r1.length];exact hl,s.setAll ho r1 h k⟩
   ·cases h
  |_=>simp[EV.store]at h
noncomputable def lS(S:Sh)(a:Addr):Sh:=⟨λb=>S.o b||b==a,λb=>S.h b||b==a,S.z,S.y⟩
theorem SS.setOwn{i:Nat}{d:D}{v:V}(s:SS g c H0 B τ σ H S)(hz:c.frz=false)(hi:zg c i)(hlt:i<τ.length)(e:qa H H')(f:Fr g H S H' d v):∃S',SS g c H0 B (τ.set i (some d)) (σ.set i (some v)) H' S'/\qa (hid H S) (hid H' S'):=by
 obtain⟨a,oo,rfl,h1,h2,h3⟩:=f;have up:qa (hid H S) (hid H' (lS S a)):=λb o hb=>by
  obtain⟨z1,z2⟩:=aV.mp hb;refine aV.mpr ⟨?_,e _ _ z2⟩;show (S.h b||b==a)=false;rw[z1]
  simpa using λz:b=a=>by rw[z,h1]at z2;cases z2
 have hlt':i<σ.length:=by rw[<-s.se.len];exact hlt
 refine⟨lS S a,⟨⟨by simp[s.se.len],λj e' hj=>?_,λb hb n=>?_⟩,by simp[s.lenN],s.same.trans e,s.sub0,λb=>?_,λb hb=>?_,λj e' hj h l=>?_,λj k e1 e2 b hj hk q1 q2 l1 l2 q3 q4=>?_,λz=>by rw[hz]at z;cases z⟩,up⟩
 ·by_cases hij:i=j
  ·subst hij;simp[hlt]at hj;subst hj;refine⟨.ref a,by simp[hlt'],.inr ⟨a,oo,by show (S.o a||a==a)=true;simp,rfl,h2,h3⟩,λx hx hn=>?_⟩;obtain⟨y,hy1,hy2⟩:=hi;rw[hy1]at hx;cases hx;rw[hn]at hy2;cases hy2
  ·rw[List.getElem?_set_ne hij]at hj ⊢;obtain⟨u,z1,z2,z3⟩:=s.se.val j e' hj;refine⟨u,z1,?_,λx hx hn=>(z3 x hx hn).mono up⟩;rcases z2 with z2|⟨a',o',y1,y2,y4,y5⟩
   ·exact .inl (z2.mono up)
   ·exact .inr ⟨a',o',by show (S.o a'||a'==a)=true;rw[y1];rfl,y2,e _ _ y4,y5.mono up⟩
 ·have hb:(S.h b||b==a)=true\/(S.o b||b==a)=true:=hb;by_cases hba:b=a
  ·rw[hba,h2]at n;cases n
  ·have:S.h b=true\/S.o b=true:=by
    rcases hb with z|z
    ·exact .inl (by simpa[hba]using z)
    ·exact .inr (by simpa[hba]using z)
   exact(s.se.sub.same e) b this n
 ·show (S.h b||b==a)=(B.h b||(S.o b||b==a))
  rw[s.hd b,Bool.or_assoc]
 ·have hb:(S.o b||b==a)=true:=hb;by_cases hba:b=a
  ·rw[hba];exact s.same.free h1
  ·exact s.new b (by simpa[hba]using hb)
 ·by_cases hij:i=j
  ·subst hij;simp[hlt]at h;subst h;exact⟨a,oo,by simp[hlt'],by show (S.o a||a==a)=true;simp,h2,h3⟩
  ·rw[List.getElem?_set_ne hij]at h ⊢;obtain⟨a',o',y1,y2,y4,y5⟩:=s.own j e' hj h l;exact⟨a',o',y1,by show (S.o a'||a'==a)=true;rw[y2];rfl,e _ _ y4,y5.mono up⟩
 ·have other:∀j e1 b,i≠j->zg c j->τ[j]? = some (some e1)->zo e1=true->σ[j]? = some (some (.ref b))->b≠a:=λj e1 b hij hj q1 l q3 z=>by
   obtain⟨a',o',y1,y2,y4,y5⟩:=s.own j e1 hj q1 l;rw[q3]at y1;cases y1;rw[z,h1]at y4;cases y4
  by_cases hij:i=j
  ·by_cases hik:i=k
   ·rw[<-hij,<-hik]
   ·subst hij;rw[List.getElem?_set_ne hik]at q2 q4;have q3':b=a:=by
     have:(σ.set i (some (.ref a)))[i]? = some (some (.ref a)):=by simp[hlt']
     rw[this]at q3;cases q3;rfl
    exact absurd q3' (other k e2 b hik hk q2 l2 q4)
  ·by_cases hik:i=k
   ·subst hik;rw[List.getElem?_set_ne hij]at q1 q3;have q4':b=a:=by
     have:(σ.set i (some (.ref a)))[i]? = some (some (.ref a)):=by simp[hlt']
     rw[this]at q4;cases q4;rfl
    exact absurd q4' (other j e1 b hij hj q1 l1 q3)
   ·rw[List.getElem?_set_ne hij]at q1 q3;rw[List.getElem?_set_ne hik]at q2 q4;exact s.inj j k e1 e2 b hj hk q1 q2 l1 l2 q3 q4
theorem SS.changeO{i:Nat}{a:Addr}{d0 d1:D}{o1:HO}(s:SS g c H0 B τ σ H S)(hz:c.frz=false)(hi:zg c i)(h0:τ[i]? = some (some d0))(ha:σ[i]? = some (some (.ref a)))(r:bH g (hid H S) a d1 o1)(l0:zo d0=true:=by rfl):SS g c H0 B (τ.set i (some d1)) σ (upd H a o1) S/\qa (hid H S) (hid (upd H a o1) S):=by
 have hlt:i<τ.length:=(List.getElem?_eq_some_iff.mp h0).1;obtain⟨a',o0,y1,y2,y4,y5⟩:=s.own i d0 hi h0 l0;rw[ha]at y1;cases y1;have hh:S.h a=true:=by rw[s.hd,y2,Bool.or_true]
 have he:hid (upd H a o1) S=hid H S:=eU hh;have other:∀j e,i≠j->zg c j->τ[j]? = some (some e)->zo e=true->∀b,σ[j]? = some (some (.ref b))->b≠a:=λj e hij hj h l b hb z=>by
  subst z;exact hij (s.inj i j d0 e b hi hj h0 h l0 l ha hb)
 refine⟨⟨⟨by simp[s.se.len],λj e hj=>?_,λb hb n=>?_⟩,by simp[s.lenN],λb o hb=>?_,s.sub0,s.hd,s.new,λj e hj h l=>?_,λj k e1 e2 b hj hk q1 q2 l1 l2 q3 q4=>?_,λz=>by rw[hz]at z;cases z⟩,by rw[he];exact qa.refl _⟩
 ·by_cases hij:i=j
  ·subst hij;simp[hlt]at hj;subst hj;refine⟨.ref a,ha,.inr ⟨a,o1,y2,rfl,zi,by rw[he];exact r⟩,λx hx hn=>?_⟩;obtain⟨y,hy1,hy2⟩:=hi;rw[hy1]at hx;cases hx;rw[hn]at hy2;cases hy2
  ·rw[List.getElem?_set_ne hij]at hj;obtain⟨u,z1,z2,z3⟩:=s.se.val j e hj;by_cases ho:zg c j/\zo e=true
   ·obtain⟨b,ob,w1,w2,w4,w5⟩:=s.own j e ho.1 hj ho.2;rw[z1]at w1;cases w1;refine⟨_,z1,.inr ⟨b,ob,w2,rfl,by rw[qg (other j e hij ho.1 hj ho.2 b z1)];exact w4,by rw[he];exact w5⟩,λx hx hn=>?_⟩;obtain⟨y,hy1,hy2⟩:=ho.1;rw[hy1]at hx;cases hx;rw[hn]at hy2;cases hy2
   ·have st:Rep g (hid H S) e u:=by
     cases q:c.N[j]? with
     |some x=>
      cases q2:c.own.contains x with
      |false=>exact z3 x q q2
      |true=>exact z2.nold (by cases q3:zo e with|false=>rfl|true=>exact absurd ⟨⟨x,q,q2⟩,q3⟩ ho)
     |none=>
      have h1:=(List.getElem?_eq_some_iff.mp hj).1;have h2:=List.getElem?_eq_none_iff.mp q;have h3:=s.lenN;lia
    exact⟨u,z1,.inl (by rw[he];exact st),λ_ _ _=>by rw[he];exact st⟩
 ·by_cases hba:b=a
  ·subst hba;rw[zi]at n;cases n
  ·rw[qg hba]at n;exact s.se.sub b hb n
 ·by_cases hba:b=a
  ·subst hba;rw[s.new b y2]at hb;cases hb
  ·rw[qg hba];exact s.same _ _ hb
 ·by_cases hij:i=j
  ·subst hij;simp[hlt]at h;subst h;exact⟨a,o1,ha,y2,zi,by rw[he];exact r⟩
  ·rw[List.getElem?_set_ne hij]at h;obtain⟨b,ob,w1,w2,w4,w5⟩:=s.own j e hj h l;exact⟨b,ob,w1,w2,by rw[qg (other j e hij hj h l b w1)];exact w4,by rw[he];exact w5⟩
 ·have f:∀k e,(τ.set i (some d1))[k]? = some (some e)->zo e=true->∃e',τ[k]? = some (some e')/\zo e'=true:=λk e h l=>by
   by_cases hik:i=k
   ·subst hik;exact⟨d0,h0,l0⟩
   ·rw[List.getElem?_set_ne hik]at h;exact⟨e,h,l⟩
  obtain⟨e1',q1',l1'⟩:=f j e1 q1 l1;obtain⟨e2',q2',l2'⟩:=f k e2 q2 l2;exact s.inj j k e1' e2' b hj hk q1' q2' l1' l2' q3 q4
theorem SS.change{i:Nat}{a:Addr}{d0:D}{vs:List V}{ds:List D}(s:SS g c H0 B τ σ H S)(hz:c.frz=false)(hi:zg c i)(h0:τ[i]? = some (some d0))(ha:σ[i]? = some (some (.ref a)))(r:qU g (hid H S) ds vs)(l0:zo d0=true:=by rfl):SS g c H0 B (τ.set i (some (.lst ds))) σ (upd H a (.lst vs)) S/\qa (hid H S) (hid (upd H a (.lst vs)) S):=s.changeO hz hi h0 ha (.lst r) l0
theorem SS.drop{j:Nat}(s:SS g c H0 B τ σ H S)(hz:c.frz=false):SS g c H0 B (τ.set j none) σ H S:=by
 have f:∀k e,(τ.set j none)[k]? = some (some e)->τ[k]? = some (some e):=λk e h=>by
  by_cases q:j=k
  ·subst q;rw[List.getElem?_set]at h;simp at h
  ·rwa[List.getElem?_set_ne q]at h
 exact⟨⟨by simp[s.se.len],λk e h=>s.se.val k e (f k e h),s.se.sub⟩,by simp[s.lenN],s.same,s.sub0,s.hd,s.new,λk e hk h l=>s.own k e hk (f k e h) l,λk l e e' b hk hl h1 h2 l1 l2 h3 h4=>s.inj k l e e' b hk hl (f k e h1) (f l e' h2) l1 l2 h3 h4,λz=>by rw[hz]at z;cases z⟩
theorem SS.give{i j:Nat}{d:D}(s:SS g c H0 B τ σ H S)(hz:c.frz=false)(hi:¬ zg c i)(hlt:i<τ.length)(hj:zg c j)(h:τ[j]? = some (some d)) :
  ∃v S',σ[j]? = some (some v)/\SS g c H0 B ((τ.set j none).set i (some d)) (σ.set i (some v)) H S'/\qa (hid H S) (hid H S'):=by
 have hij:i≠j:=λz=>hi (z▸hj)
 cases l:zo d with
 |false=>
  obtain⟨v,z1,z2,_⟩:=s.se.val j d h;exact⟨v,S,z1,(s.drop hz).set hi (z2.nold l),qa.refl _⟩
 |true=>
  obtain⟨a,o,z1,y1,y2,y3⟩:=s.own j d hj h l;have ba:B.h a=false:=by
   cases q:B.h a with
   |false=>rfl
   |true=>exact absurd (s.new a y1) (s.sub0 a (.inl q))
  let S':Sh:=⟨λb=>S.o b && !(b==a),λb=>B.h b||(S.o b && !(b==a)),S.z,S.y⟩
  have le:qa (hid H S) (hid H S'):=λb u hb=>by
   obtain⟨q1,q2⟩:=aV.mp hb;rw[s.hd,Bool.or_eq_false_iff]at q1;refine aV.mpr ⟨?_,q2⟩;show (B.h b||(S.o b && !(b==a)))=false;rw[q1.1,q1.2];rfl
  have ha:hid H S' a=some o:=aV.mpr ⟨by show (B.h a||(S.o a && !(a==a)))=false;rw[ba];simp,y2⟩;have rd:Rep g (hid H S') d (.ref a):=y3.rep le ha;have other:∀k e b,k≠j->zg c k->τ[k]? = some (some e)->zo e=true->σ[k]? = some (some (.ref b))->b≠a:=λk e b hkj hk q1 q2 q3 z=>by
   rw[z]at q3;exact hkj (s.inj k j e d a hk hj q1 h q2 l q3 z1)
  have f:∀k e,i≠k->((τ.set j none).set i (some d))[k]? = some (some e)->k≠j/\τ[k]? = some (some e):=λk e hik q=>by
   rw[List.getElem?_set_ne hik]at q;by_cases z:j=k
   ·subst z;rw[List.getElem?_set]at q;simp at q
   ·rw[List.getElem?_set_ne z]at q;exact⟨λy=>z y.symm,q⟩
  have hls:i<σ.length:=by rw[<-s.se.len];exact hlt
  refine⟨.ref a,S',z1,⟨⟨by simp[s.se.len],λk e q=>?_,λb q n=>?_⟩,by simp[s.lenN],s.same,s.sub0,λb=>rfl,λb q=>?_,λk e hk q l2=>?_,λk m e1 e2 b hk hm q1 q2 l1 l2 q3 q4=>?_,λz=>by rw[hz]at z;cases z⟩,le⟩
  ·by_cases hik:i=k
   ·subst hik;rw[List.getElem?_set_self (by simp[hlt])]at q;cases q;exact⟨.ref a,by simp[hls],.inl rd,λ_ _ _=>rd⟩
   ·obtain⟨hkj,q⟩:=f k e hik q;rw[List.getElem?_set_ne hik];obtain⟨u,w1,w2,w3⟩:=s.se.val k e q;by_cases ho:zg c k/\zo e=true
    ·obtain⟨b,ob,v1,v2,v4,v5⟩:=s.own k e ho.1 q ho.2;rw[w1]at v1;cases v1;have nb:=other k e b hkj ho.1 q ho.2 w1;refine⟨_,w1,.inr ⟨b,ob,by show (S.o b && !(b==a))=true;rw[v2];simpa using nb,rfl,v4,v5.mono le⟩,λx hx hn=>?_⟩;obtain⟨y,hy1,hy2⟩:=ho.1;rw[hy1]at hx;cases hx;rw[hn]at hy2;cases hy2
    ·have st:Rep g (hid H S) e u:=by
      cases q1:c.N[k]? with
      |some x=>
       cases q2:c.own.contains x with
       |false=>exact w3 x q1 q2
       |true=>exact w2.nold (by cases q3:zo e with|false=>rfl|true=>exact absurd ⟨⟨x,q1,q2⟩,q3⟩ ho)
      |none=>
       have h1:=(List.getElem?_eq_some_iff.mp q).1;have h2:=List.getElem?_eq_none_iff.mp q1;have h3:=s.lenN;lia
     exact⟨u,w1,.inl (st.mono le),λ_ _ _=>st.mono le⟩
  ·refine s.se.sub b ?_ n;have q:(B.h b||(S.o b && !(b==a)))=true\/(S.o b && !(b==a))=true:=q;simp only[a9,ax]at q;rcases q with (q|q)|q
   ·exact .inl (by rw[s.hd,q];rfl)
   ·exact .inr q.1
   ·exact .inr q.1
  ·have q:(S.o b && !(b==a))=true:=q;simp only[ax]at q;exact s.new b q.1
  ·have hik:i≠k:=λz=>hi (z▸hk)
   obtain⟨hkj,q⟩:=f k e hik q;rw[List.getElem?_set_ne hik];obtain⟨b,ob,v1,v2,v4,v5⟩:=s.own k e hk q l2;have nb:=other k e b hkj hk q l2 v1;exact⟨b,ob,v1,by show (S.o b && !(b==a))=true;rw[v2];simpa using nb,v4,v5.mono le⟩
  ·have hik:i≠k:=λz=>hi (z▸hk)
   have him:i≠m:=λz=>hi (z▸hm)
   rw[List.getElem?_set_ne hik]at q3;rw[List.getElem?_set_ne him]at q4;exact s.inj k m e1 e2 b hk hm (f k e1 hik q1).2 (f m e2 him q2).2 l1 l2 q3 q4
end
noncomputable def bg(g:Gc)(c:Cc)(E:XK)(fr:Bool)(H0:Hp)(B:Sh)(H:Hp)(S:Sh)(D:Ends):O->Prop
 | .nx τ'=>∀σ' H' S',SS g c H0 B τ' σ' H' S'->qa (hid H S) (hid H' S')->D.nx σ' H'
 | .bk τ'=>∀σ' H' S',SS g c H0 B τ' σ' H' S'->qa (hid H S) (hid H' S')->D.bk σ' H'
 | .ct τ'=>∀σ' H' S',SS g c H0 B τ' σ' H' S'->qa (hid H S) (hid H' S')->D.ct σ' H'
 | .rt d=>∀v H',qa H0 H'->Rep g (hid H' B) d v->(fr=true->zo d=true->Fr g H0 B H' d v)->D.rt v H'
 | .ex k=>∀H' C,qa H0 H'->g.clA k=some C->E (.ref C) none H'
 | .no=>False
section
variable(w:W)(g:Gc)(c:Cc)(E:XK)(fr:Bool)
noncomputable def tS(s:EV.S):TS:=λD σ H=>∃H0 B τ S,SS g c H0 B τ σ H S/\bg g c E fr H0 B H S D (evS w s τ)
noncomputable def tSs(s:Ss):TS:=λD σ H=>∃H0 B τ S,SS g c H0 B τ σ H S/\bg g c E fr H0 B H S D (qi w s τ)
end
structure XS(w:W)(g:Gc)(c:Cc)(E:XK)(X:Cx):Prop extends XO w g c E X where
 thr:c.thr=true->Throws X E
 exc:∀x C,c.G.lookup x=some .exc->g.clA x=some C->kB g.K C
 cat:∀k x,w.cat k x=true->∀C D,g.clA k=some C->g.clA x=some D->PySem.W.exmOne g.K (.ref C) (.ref D)=some true
 frm:X.ex=[]/\X.stack=X.env::X.outer/\X.env.frame=some X.env.locals
 gh:∀x k,c.GH.lookup x=some k->k≠.exc/\∀v,GM w g X.prog X.w X.mg X.base (X.A.mark v) false x k
section
variable{w:W}{g:Gc}{c:Cc}{E:XK}{fr:Bool}{X:Cx}{H0:Hp}{B:Sh}{τ:Env}{σ:L2.St}{H H':Hp}{S:Sh}{Ed:Ends}
theorem bg.up{o:O}{S':Sh}(h:bg g c E fr H0 B H S Ed o)(e:qa (hid H S) (hid H' S')):bg g c E fr H0 B H' S' Ed o:=by
 cases o with
 |nx t=>exact λσ' H2 S2 s e2=>h σ' H2 S2 s (e.trans e2)
 |bk t=>exact λσ' H2 S2 s e2=>h σ' H2 S2 s (e.trans e2)
 |ct t=>exact λσ' H2 S2 s e2=>h σ' H2 S2 s (e.trans e2)
 |rt d=>exact h
 |ex k=>exact h
 |no=>exact h
theorem s_e{e:EV.E}{f:D->O}{Q:VK}(ss:SS g c H0 B τ σ H S)(h:bg g c E fr H0 B H S Ed ((evE w e τ).out f))(k:∀d v H',evE w e τ=.ok d->aN g c e S H d v H'->bg g c E fr H0 B H S Ed (f d)->Q v H'):tE w g c E e σ H Q:=by
 refine⟨τ,S,ss.se,?_⟩;cases q:evE w e τ with
 |ok d=>rw[q]at h;exact λv H' p=>k d v H' q p h
 |ex x=>rw[q]at h;exact λH' C s hc=>h H' C (ss.same.trans s) hc
 |no=>rw[q]at h;exact h
theorem s_t{t:T}{f:Bool->O}{Q:Bool->Hp->Prop}(ss:SS g c H0 B τ σ H S)(h:bg g c E fr H0 B H S Ed ((evT w t τ).out f))(k:∀b H',evT w t τ=.ok b->qa H H'->bg g c E fr H0 B H S Ed (f b)->Q b H'):tT w g c E t σ H Q:=by
 refine⟨τ,S,ss.se,?_⟩;cases q:evT w t τ with
 |ok d=>rw[q]at h;exact λH' p=>k d H' q p h
 |ex x=>rw[q]at h;exact λH' C s hc=>h H' C (ss.same.trans s) hc
 |no=>rw[q]at h;exact h
theorem k_(ss:SS g c H0 B τ σ H S){b:Addr}(h:S.h b=false):B.h b=false:=by
 have:=ss.hd b;rw[h]at this;cases q:B.h b with
 |false=>rfl
 |true=>rw[q]at this;cases this
theorem iY(ss:SS g c H0 B τ σ H S):qa (hid H' S) (hid H' B):=λb o h=>by
 obtain⟨z1,z2⟩:=aV.mp h;exact aV.mpr ⟨k_ ss z1,z2⟩
theorem mK:∀{is:List Nat}{ds:List EV.D}{τ:Env}{x:Str},setAll is ds τ≠.ex x
 | [],[],_,_,h=>by cases h
 | [],_::_,_,_,h=>by cases h
 |_::_,[],_,_,h=>by cases h
 |i::is,d::ds,τ,x,h=>by simp only[setAll]at h;exact mK h
theorem Ac{pos:Pos}:PS X (.Pass pos) (tS w g c E fr .pass):=PS.imp m8 λD σ H ⟨H0,B,τ,S,ss,h⟩=>h σ H S ss (qa.refl _)
theorem yn{pos:Pos}:PS X (.Break pos) (tS w g c E fr .brk):=PS.imp uf λD σ H ⟨H0,B,τ,S,ss,h⟩=>h σ H S ss (qa.refl _)
theorem ug{pos:Pos}:PS X (.Continue pos) (tS w g c E fr .cnt):=PS.imp xb λD σ H ⟨H0,B,τ,S,ss,h⟩=>h σ H S ss (qa.refl _)
theorem ef{e:Expr}{t:Option Expr}{l:Nat}{env:PySem.Env}(h:cz e=false):swapsWith e t l env=pure false:=by
 cases e<;>first|rfl|(simp[cz]at h)
theorem m7{e:Expr}{ie:EV.E}{pos:Pos}(he:PE X e (tE w g c E ie))(hc:cz e=false):PS X (.Expr e pos) (tS w g c E fr (.exp ie)):=
 PS.imp (hU he (ef hc)) λD σ H ⟨H0,B,τ,S,ss,h⟩=>by
  simp only[bD,bF,bB,bC,bu,bE,bw,zK,bI,zI,bG,zO,zU,zX,zM,zN,zQ,zP,zY,zV,zS,zZ,zT,zH,zR]at h;exact s_e ss h λd v H' _ p k=>k σ H' S (ss.up p.same) (qc p.same)
theorem sv{pos:Pos}(hf:fr=false):PS X (.Return none pos) (tS w g c E fr .retN):=PS.imp wH λD σ H ⟨H0,B,τ,S,ss,h⟩=>h _ _ ss.same .non (by rw[hf];intro z;cases z)
theorem i8(ss:SS g c H0 B τ σ H S){a:Addr}{d:EV.D}{o:HO}(h1:H0 a=none)(h2:H' a=some o)(h3:bH g (hid H' (zB S a)) a d o):Rep g (hid H' B) d (.ref a)/\Fr g H0 B H' d (.ref a):=by
 have up:qa (hid H' (zB S a)) (hid H' (zB B a)):=λb o hb=>by
  obtain⟨z1,z2⟩:=aV.mp hb;refine aV.mpr ⟨?_,z2⟩;have z1:(S.h b||b==a)=false:=z1;simp only[Bool.or_eq_false_iff]at z1;show (B.h b||b==a)=false;rw[k_ ss z1.1,z1.2];rfl
 exact⟨h3.rep (up.trans kg) (aV.mpr ⟨ss.sub0.free h1,h2⟩),⟨a,o,rfl,h1,h2,h3.mono up⟩⟩
theorem jW(ss:SS g c H0 B τ σ H S){a:Addr}{d:EV.D}{o1:HO}(y1:S.o a=true)(y3:bH g (hid H' S) a d o1):bH g (hid H' (zB S a)) a d o1:=y3.mono λb o hb=>by
 have hh:S.h a=true:=by rw[ss.hd,y1,Bool.or_true]
 obtain⟨z1,z2⟩:=aV.mp hb;refine aV.mpr ⟨?_,z2⟩;show (S.h b||b==a)=false;rw[z1]
 simpa using λz:b=a=>by rw[z,hh]at z1;cases z1
theorem kf{e:Expr}{ie:EV.E}{pos:Pos}(he:PE X e (tE w g c E ie))(hf:fr=true->bV c ie=true):PS X (.Return (some e) pos) (tS w g c E fr (.ret ie)):=
 PS.imp (i3 he) λD σ H ⟨H0,B,τ,S,ss,h⟩=>by
  simp only[bD,bF,bB,bC,bu,bE,bw,zK,bI,zI,bG,zO,zU,zX,zM,zN,zQ,zP,zY,zV,zS,zZ,zT,zH,zR]at h;refine s_e ss h λd v H' _ p k=>?_
  have k:∀v H',qa H0 H'->Rep g (hid H' B) d v->(fr=true->zo d=true->Fr g H0 B H' d v)->D.rt v H':=k;have s1:=ss.up p.same;by_cases hz:fr=true/\zo d=true
  ·obtain⟨a,o,rfl,h1,h2,h3⟩:=p.frc (hf hz.1) hz.2;obtain⟨r1,r2⟩:=i8 (H':=H') ss (ss.same.free h1) h2 h3;exact k _ H' s1.same r1 λ_ _=>r2
  ·rcases p.rb with r|⟨a,o,y1,rfl,y2,y3⟩
   ·exact k v H' s1.same (r.mono (iY ss)) λz l=>absurd ⟨z,l⟩ hz
   ·obtain⟨r1,r2⟩:=i8 (H':=H') ss (ss.new a y1) y2 (jW ss y1 y3);exact k _ H' s1.same r1 λ_ _=>r2
theorem pY{e:Expr}{ie:EV.E}{pos:Pos}(he:PE X e (tE w g c E ie)):PS X (.Return (some e) pos) (tS w g c E fr (.retn ie)):=
 PS.imp (i3 he) λD σ H ⟨H0,B,τ,S,ss,h⟩=>by
  simp only[bD,bF,bB,bC,bu,bE,bw,zK,bI,zI,bG,zO,zU,zX,zM,zN,zQ,zP,zY,zV,zS,zZ,zT,zH,zR]at h;refine s_e ss h λd v H' _ p k=>?_
  have s1:=ss.up p.same;cases hl:zo d with
  |true=>rw[hl]at k;exact k.elim
  |false=>
   rw[hl]at k;have k:∀v H',qa H0 H'->Rep g (hid H' B) d v->(fr=true->zo d=true->Fr g H0 B H' d v)->D.rt v H':=k;rcases p.rb with r|⟨a,o,y1,rfl,y2,y3⟩
   ·exact k v H' s1.same (r.mono (iY ss)) λ_ l=>by rw[hl]at l;cases l
   ·cases y3<;>cases hl
theorem uX(O:XO w g c E X){x:Str}{i:Nat}{p pos:Pos}(h:loc c x=some i)(ho:c.own.contains x=true):PS X (.Return (some (.Name x p)) pos) (tS w g c E fr (.ret (.own i))):=by
 obtain⟨h1,h2,h3,h4⟩:=zj h;refine PS.imp (i3 (dn (i:=i) (by rw[O.N];exact h1) (by unfold cC;rw[O.nm];exact h2) h3 h4)) λD σ H ⟨H0,B,τ,S,ss,h⟩=>?_
 simp only[bD,bF,bB,bC,bu,bE,bw,zK,bI,zI,bG,zO,zU,zX,zM,zN,zQ,zP,zY,zV,zS,zZ,zT,zH,zR,qY,qW,za,zb,qX,qZ,zf,ze,zc,qo,qx,qq,qt,qE,qJ,qC,qy,qz,qr,qA,qK,qh,qB,qH,ql,qk,qO,qI,qP,qG,qF,qQ,qT,qp,qN,qS,qM,qD,qm,qu,qL,qR,zE]at h;cases q:τ[i]? with
 |none=>rw[q]at h;exact h.elim
 |some o=>
  cases o with
  |none=>rw[q]at h;exact h.elim
  |some d=>
   rw[q]at h;cases hl:zo d with
   |false=>
    obtain⟨v,z1,z2,_⟩:=ss.se.val i d q;exact⟨_,z1,h v H ss.same ((z2.nold hl).mono (iY ss)) λ_ l=>by rw[hl]at l;cases l⟩
   |true=>
   obtain⟨a,o,z1,y1,y2,y3⟩:=ss.own i d ⟨x,h1,ho⟩ q hl;obtain⟨r1,r2⟩:=i8 (H':=H) ss (ss.new a y1) y2 (jW ss y1 y3);exact⟨_,z1,h _ H ss.same r1 λ_ _=>r2⟩
theorem iZ{e:Expr}{ie:EV.E}{i:Nat}{st:Stmt}{te:TE}(hp:PS X st (gf te (dq i)))(hr:∀σ H Q,tE w g c E ie σ H Q->te σ H Q)(hlt:i<c.N.length)(hk:(zg c i/\bV c ie=true/\c.frz=false)\/(¬ zg c i/\esc ie=true)):PS X st (tS w g c E fr (.set (.nm i) ie)):=
 PS.imp hp λD σ H ⟨H0,B,τ,S,ss,h⟩=>by
  simp only[bD,bF,bB,bC,bu,bE,bw,zK,bI,zI,bG,zO,zU,zX,zM,zN,zQ,zP,zY,zV,zS,zZ,zT,zH,zR,store]at h;refine hr σ H _ (s_e ss h λd v H' _ p k=>?_);have k:∀σ' H2 S2,SS g c H0 B (τ.set i (some d)) σ' H2 S2->qa (hid H S) (hid H2 S2)->D.nx σ' H2:=k;rcases hk with ⟨ho,hf,hfz⟩|⟨ho,he⟩
  ·cases hl:zo d with
   |true=>
    obtain⟨S',s1,s2⟩:=ss.setOwn hfz ho (by rw[ss.lenN];exact hlt) p.same (p.frc hf hl);exact k _ _ S' s1 s2
   |false=>exact k _ _ S ((ss.up p.same).setN hfz (by rw[ss.lenN];exact hlt) hl (p.rb.nold hl)) (qc p.same)
  ·exact k _ _ S ((ss.up p.same).set ho (p.st he)) (qc p.same)
theorem j2(O:XO w g c E X){tg e:Expr}{itg:Tg}{ie:EV.E}{pos:Pos}(he:PE X e (tE w g c E ie))(hg:PG X tg (gT X.K itg))(hf:eZ c itg)(hes:esc ie=true)(hs:swapsWithSole [tg] e pos.line X.env=pure false)(hw:bt [tg] e X.env=pure none)(h1:(assignEach [tg] X.env).map (·.2)=[assign tg X.env]) :
  PS X (.Assign [tg] e pos) (tS w g c E fr (.set itg ie)):=
 PS.imp (g9 he hg hs hw h1) λD σ H ⟨H0,B,τ,S,ss,h⟩=>by
  simp only[bD,bF,bB,bC,bu,bE,bw,zK,bI,zI,bG,zO,zU,zX,zM,zN,zQ,zP,zY,zV,zS,zZ,zT,zH,zR]at h;refine s_e ss h λd v H' _ p k=>?_
  cases q:store itg d τ with
  |ok τ'=>
   rw[q]at k;exact(ss.up p.same).store O.K hf (p.st hes) q λσ' s1=>k σ' H' S s1 (qc p.same)
  |ex z=>cases itg<;>simp only[store]at q<;>first|cases q|(split at q<;>first|cases q|(split at q<;>first|(exact absurd q (mK))|cases q))
  |no=>rw[q]at k;exact k.elim
theorem oq(O:XO w g c E X)(hc:X.calm=true){x y:Str}{i j:Nat}{a b:Expr}{ia ib:EV.E}{px py pt pos:Pos}{kt k2 pt2}(hx:bf c x=some i)(hy:bf c y=some j)(lx:c.nm.lookup x=some .local)(ly:c.nm.lookup y=some .local)(hij:i≠j)
  (ha:PE X a (tE w g c E ia)) (hb:PE X b (tE w g c E ib)) (hsa:isStar a=false) (hsb:isStar b=false) (hfa:[a,b].all (foldedForSure 8)=false) (hca:[a,b].all (constantsAlone 8)=false) (hl:(px.line==py.line)=true) (hi:¬ zg c i) (hea:esc ia=true) (hk:(zg c j/\fresh c ib=true/\c.frz=false)\/(¬ zg c j/\esc ib=true)) :
  PS X (.Assign [.Tuple [.Name x px,.Name y py] kt pt] (.Tuple [a,b] k2 pt2) pos) (tS w g c E fr (.par i j ia ib)):=λpins s σ H D I ⟨H0,B,τ,S,ss,h⟩=>by
 simp only[bD,bF,bB,bC,bu,bE,bw,zK,bI,zI,bG,zO,zU,zX,zM,zN,zQ,zP,zY,zV,zS,zZ,zT,zH,zR]at h;exact aM h
theorem sh{env:PySem.Env}{x y z:Str}{px py pz pt pt2:Pos}{kt k2:Nat}{a b d:Expr}(bk:env.blockKind=.function)(kx:env.kindOf x=some .local)(ky:env.kindOf y=some .local)(kz:env.kindOf z=some .local)(hl:px.line=py.line)(hl':px.line=pz.line)(hxy:x≠y)(hxz:x≠z)(hyz:y≠z)(ha:isStar a=false)(hb:isStar b=false)(hd:isStar d=false)(h1:[a,b,d].all (foldedForSure 8)=false)(h2:[a,b,d].all (constantsAlone 8)=false) :
  bt [.Tuple [.Name x px,.Name y py,.Name z pz] kt pt] (.Tuple [a,b,d] k2 pt2) env=pure (some [x,y,z]):=by
 have ed:[x,y,z].eraseDups=[x,y,z]:=by
  have e1:(y==x)=false:=by simpa using λz:y=x=>hxy z.symm
  have e2:(z==x)=false:=by simpa using λw:z=x=>hxz w.symm
  have e3:(z==y)=false:=by simpa using λw:z=y=>hyz w.symm
  simp[List.eraseDups_cons,e1,e2,e3]
 have b1:(env.blockKind != .function)=false:=by rw[bk];rfl
 have hp:(Expr.Name x px).pos=px:=rfl;unfold bt;simp only[b1,List.filterMap_cons,List.filterMap_nil,List.head?_cons,Option.map_some,Option.getD_some,hp,kx,ky,kz,<-hl,<-hl',beq_self_eq_true,Bool.and_self,if_true,ed,h1,h2];rw[if_neg (by simp),if_neg,if_neg (by simp),if_neg bZ,if_neg bZ];simp only[List.any_cons,List.any_nil,Bool.or_false,a9];rintro(h|h|h)
 ·split at h
  ·cases ha
  ·cases h
 ·split at h
  ·cases hb
  ·cases h
 ·split at h
  ·cases hd
  ·cases h
theorem wB(O:XO w g c E X)(hc:X.calm=true){x y z:Str}{i j l:Nat}{a b d:Expr}{ia ib id:EV.E}{px py pz pt pos:Pos}{kt k2 pt2}(hx:bf c x=some i)(hy:bf c y=some j)(hz:bf c z=some l)(lx:c.nm.lookup x=some .local)(ly:c.nm.lookup y=some .local)(lz:c.nm.lookup z=some .local)(hij:i≠j)(hil:i≠l)(hjl:j≠l)
  (ha:PE X a (tE w g c E ia)) (hb:PE X b (tE w g c E ib)) (hd:PE X d (tE w g c E id)) (hsa:isStar a=false) (hsb:isStar b=false) (hsd:isStar d=false) (hfa:[a,b,d].all (foldedForSure 8)=false) (hca:[a,b,d].all (constantsAlone 8)=false) (hl:(px.line==py.line)=true) (hl':(px.line==pz.line)=true) (hi:¬ zg c i) (hj:¬ zg c j) (hk:¬ zg c l) (hea:esc ia=true) (heb:esc ib=true) (hed:esc id=true) :
  PS X (.Assign [.Tuple [.Name x px,.Name y py,.Name z pz] kt pt] (.Tuple [a,b,d] k2 pt2) pos) (tS w g c E fr (.par3 i j l ia ib id)):=by
 obtain⟨l1,_⟩:=zk hx;obtain⟨l3,_⟩:=zj l1;obtain⟨m1,_⟩:=zk hy;obtain⟨m3,_⟩:=zj m1;obtain⟨n1,_⟩:=zk hz;obtain⟨n3,_⟩:=zj n1;have hst:=qw (es:=[]) (env:=X.env) hsd;have hst2:=qw (es:=[d]) (env:=X.env) hsb;have hst3:=qw (es:=[b,d]) (env:=X.env) hsa;have hxy:x≠y:=λq=>by subst q;rw[hx]at hy;cases hy;exact hij rfl
 have hxz:x≠z:=λq=>by subst q;rw[hx]at hz;cases hz;exact hil rfl
 have hyz:y≠z:=λq=>by subst q;rw[hy]at hz;cases hz;exact hjl rfl
 have hw:bt [.Tuple [.Name x px,.Name y py,.Name z pz] kt pt] (.Tuple [a,b,d] k2 pt2) X.env=pure (some [x,y,z]):=by
  refine sh ?_ ?_ ?_ ?_ (eq_of_beq hl) (eq_of_beq hl') hxy hxz hyz hsa hsb hsd hfa hca
  ·unfold Env.blockKind;rw[O.kind];rfl
  ·show X.env.scope.names.lookup x=_;rw[O.nm,lx]
  ·show X.env.scope.names.lookup y=_;rw[O.nm,ly]
  ·show X.env.scope.names.lookup z=_;rw[O.nm,lz]
 refine PS.imp (tQ (i:=i) (j:=j) (k:=l) hc (by rw[O.N];exact O.nd) (by rw[O.N];exact l3) (by rw[O.N];exact m3) (by rw[O.N];exact n3) hij hil hjl (by rw[O.nm];exact lx) (by rw[O.nm];exact ly) (by rw[O.nm];exact lz) (zJ ha (zJ hb (zJ hd cx hst) hst2) hst3) hw rfl) λD σ H ⟨H0,B,τ,S,ss,h⟩=>?_
 simp only[bD,bF,bB,bC,bu,bE,bw,zK,bI,zI,bG,zO,zU,zX,zM,zN,zQ,zP,zY,zV,zS,zZ,zT,zH,zR]at h;refine s_e ss h λd1 v H1 _ p1 k1=>?_
 refine s_e (ss.up p1.same) (bg.up k1 (qc p1.same)) λd2 v2 H2 _ p2 k2=>?_
 have ss2:=(ss.up p1.same).up p2.same;refine s_e ss2 (bg.up k2 (qc p2.same)) λd3 v3 H3 _ p3 k3=>?_
 refine⟨v,v2,v3,rfl,?_⟩;have k3:∀σ' H' S',SS g c H0 B (((τ.set i (some d1)).set j (some d2)).set l (some d3)) σ' H' S'->qa (hid H2 S) (hid H' S')->D.nx σ' H':=k3;have s1:=(ss.up p1.same).set hi (p1.st hea);have s2:=(s1.up p2.same).set hj (p2.st heb);exact k3 _ _ S ((s2.up p3.same).set hk (p3.st hed)) (qc p3.same)
end
section
variable{w:W}{g:Gc}{c:Cc}{E:XK}{fr:Bool}{X:Cx}{H0:Hp}{B:Sh}{τ:Env}{σ:L2.St}{H H':Hp}{S:Sh}{Ed:Ends}
theorem eO{i:Nat}{d:EV.D}(h:zE τ i=.ok d):τ[i]? = some (some d):=by
 unfold zE at h;split at h
 ·rename_i q;cases h;exact q
 ·cases h
theorem rP(O:XO w g c E X)(hfz:c.frz=false){x:Str}{i:Nat}{a:Expr}{ia:EV.E}{p ap cp pos:Pos}(h:loc c x=some i)(ho:c.own.contains x=true)(ha:PE X a (tE w g c E ia))(hes:esc ia=true)(hs:isStar a=false)(hl:(ap.endLine==cp.line)=true) :
  PS X (.Expr (.Call (.Attribute (.Name x p) "append" ap) [a] [] cp) pos) (tS w g c E fr (.app i ia)):=by
 obtain⟨h1,h2,h3,h4⟩:=zj h;have hv:PE X (.Name x p) (cQ i):=dn (i:=i) (by rw[O.N];exact h1) (by unfold cC;rw[O.nm];exact h2) h3 h4;have hst:=qw (es:=[]) (env:=X.env) hs;have hb:=iw (X:=X) (apos:=ap) (cpos:=cp) PySem.F.plainAttrs_list PySem.F.slot_list_append PySem.F.type_list_append jN hv (zJ ha cx hst) rfl (by rw[hst];rfl) hl hst rfl;refine PS.imp (hU hb rfl) λD σ H ⟨H0,B,τ,S,ss,k⟩=>?_
 simp only[bD,bF,bB,bC,bu,bE,bw,zK,bI,zI,bG,zO,zU,zX,zM,zN,zQ,zP,zY,zV,zS,zZ,zT,zH,zR]at k;cases q:zE τ i with
 |ex z=>unfold zE at q;split at q<;>cases q
 |no=>rw[q]at k;exact k.elim
 |ok d0=>
  rw[q]at k;have q':=eO q;have hi:zg c i:=⟨x,h1,ho⟩
  have ld:zo d0=true:=by cases d0<;>first|rfl|exact k.elim
  obtain⟨ad,oo,z1,y1,y2,y3⟩:=ss.own i d0 hi q' ld;cases y3 with
  |dic kvs=>exact k.elim
  |dct _ _=>exact k.elim
  | @lst ds vs y3=>
  refine⟨_,z1,.inl ⟨rfl,vs,SqL.of y2⟩,s_e ss k λd v H1 _ p1 k1=>?_⟩
  try simp only at k1
  by_cases hz:ds.length<SZ
  ·rw[if_pos hz]at k1;have s1:=ss.up p1.same;have y2':=p1.same _ _ y2;obtain⟨s2,s3⟩:=s1.change (vs:=vs++[v]) (ds:=ds++[d]) hfz hi q' z1 ((y3.mono (qc p1.same)).append (.cons (p1.st hes) .nil));exact⟨ad,vs,v,rfl,rfl,y2',by rw[<-y3.length,bp];unfold SZ at hz;lia,k1 _ _ S s2 ((qc p1.same).trans s3)⟩
  ·rw[if_neg hz]at k1;exact k1.elim
theorem t_(O:XO w g c E X)(hfz:c.frz=false){x:Str}{i:Nat}{a:Expr}{ia:EV.E}{p ap cp pos:Pos}(h:loc c x=some i)(ho:c.own.contains x=true)(ha:PE X a (tE w g c E ia))(hes:esc ia=true)(hs:isStar a=false)(hl:(ap.endLine==cp.line)=true) :
  PS X (.Expr (.Call (.Attribute (.Name x p) "update" ap) [a] [] cp) pos) (tS w g c E fr (.dupd i ia)):=by
 obtain⟨h1,h2,h3,h4⟩:=zj h;have hv:PE X (.Name x p) (cQ i):=dn (i:=i) (by rw[O.N];exact h1) (by unfold cC;rw[O.nm];exact h2) h3 h4;have hst:=qw (es:=[]) (env:=X.env) hs;have hb:=iw (X:=X) (apos:=ap) (cpos:=cp) PySem.F.plainAttrs_dict PySem.F.slot_dict_update PySem.F.type_dict_update vQ hv (zJ ha cx hst) rfl (by rw[hst];rfl) hl hst rfl;refine PS.imp (hU hb rfl) λD σ H ⟨H0,B,τ,S,ss,k⟩=>?_
 simp only[bD,bF,bB,bC,bu,bE,bw,zK,bI,zI,bG,zO,zU,zX,zM,zN,zQ,zP,zY,zV,zS,zZ,zT,zH,zR]at k;cases q:zE τ i with
 |ex z=>unfold zE at q;split at q<;>cases q
 |no=>rw[q]at k;exact k.elim
 |ok d0=>
  rw[q]at k;have q':=eO q;have hi:zg c i:=⟨x,h1,ho⟩
  have ld:zo d0=true:=by cases d0<;>first|rfl|exact k.elim
  obtain⟨ad,oo,z1,y1,y2,y3⟩:=ss.own i d0 hi q' ld;cases y3 with
  |lst r=>exact k.elim
  |dct _ _=>exact k.elim
  |dic kvs=>
   refine⟨_,z1,.inr (.inr (.inl ⟨rfl,.inl ⟨_,y2⟩⟩)),s_e ss k λd v H1 _ p1 k1=>?_⟩;cases d with
   |dic ms=>
    simp only at k1;by_cases hz:kvs.length+ms.length<SZ
    ·rw[if_pos hz]at k1;have s1:=ss.up p1.same;have y2':=p1.same _ _ y2;have hr:=p1.st hes;cases hr with
     | @dic b _ hb'=>
      obtain⟨b1,b2⟩:=aV.mp hb';obtain⟨s2,s3⟩:=s1.changeO (d1:=.dic (fz kvs ms)) (o1:=.dK (aY (fz kvs ms))) hfz hi q' z1 (.dic _);have hab:ad≠b:=λz=>by
       have:S.h ad=true:=by rw[ss.hd,y1,Bool.or_true]
       rw[z,b1]at this;cases this
      refine⟨ad,b,aY kvs,aY ms,rfl,rfl,hab,y2',b2,?_,?_⟩
      ·rw[gR,gR,bp];unfold SZ at hz;lia
      ·rw[jK];exact k1 _ _ S s2 ((qc p1.same).trans s3)
    ·rw[if_neg hz]at k1;exact k1.elim
   |_=>exact k1.elim
theorem tU(O:XO w g c E X)(hfz:c.frz=false){x:Str}{i:Nat}{a:Expr}{ia:EV.E}{p ap cp pos:Pos}(h:loc c x=some i)(ho:c.own.contains x=true)(ha:PE X a (tE w g c E ia))(hes:esc ia=true)(hs:isStar a=false)(hl:(ap.endLine==cp.line)=true) :
  PS X (.Expr (.Call (.Attribute (.Name x p) "extend" ap) [a] [] cp) pos) (tS w g c E fr (.ext i ia)):=λpins s σ H D I ⟨H0,B,τ,S,ss,h⟩=>by
 simp only[bD,bF,bB,bC,bu,bE,bw,zK,bI,zI,bG,zO,zU,zX,zM,zN,zQ,zP,zY,zV,zS,zZ,zT,zH,zR]at h;exact aM h
theorem oC(O:XO w g c E X)(hfz:c.frz=false){x y:Str}{i j:Nat}{p ap cp px q1 pos:Pos}{k0}(hx:bf c x=some i)(hy:loc c y=some j)(hox:c.own.contains x=false)(hoy:c.own.contains y=true)(hl:(ap.endLine==cp.line)=true) :
  PS X (.Assign [.Name x px] (.Call (.Attribute (.Name y p) "pop" ap) [.Constant (.int 0) k0 q1] [] cp) pos) (tS w g c E fr (.pop0 i j)):=by
 obtain⟨h1,h2,h3,h4⟩:=zj hy;obtain⟨l1,l2⟩:=zk hx;obtain⟨l3,_⟩:=zj l1;have hv:PE X (.Name y p) (cQ j):=dn (i:=j) (by rw[O.N];exact h1) (by unfold cC;rw[O.nm];exact h2) h3 h4;have hst:aH [Expr.Constant (.int 0) k0 q1] X.env=(false,eval (Expr.Constant (.int 0) k0 q1) X.env)::aH [] X.env:=rfl;have hb:=iw (X:=X) (apos:=ap) (cpos:=cp) PySem.F.plainAttrs_list PySem.F.slot_list_pop PySem.F.type_list_pop wC hv (zJ mM cx hst) rfl rfl hl hst rfl;refine PS.imp (gF (i:=i) (by rw[O.N];exact O.nd) (by rw[O.N];exact l3) (by unfold L2.Loc;rw[O.nm];rcases l2 with z|z;exact .inl z;exact .inr z.1) hb (ef rfl) (by
  rcases l2 with z|z
  ·exact .inr (by rw[O.nm];exact z)
  ·exact .inl (O.fn x z.2))) λD σ H ⟨H0,B,τ,S,ss,k⟩=>?_
 simp only[bD,bF,bB,bC,bu,bE,bw,zK,bI,zI,bG,zO,zU,zX,zM,zN,zQ,zP,zY,zV,zS,zZ,zT,zH,zR]at k;cases q:zE τ j with
 |ex z=>unfold zE at q;split at q<;>cases q
 |no=>rw[q]at k;exact k.elim
 |ok d0=>
  rw[q]at k;have q':=eO q;have hi:zg c j:=⟨y,h1,hoy⟩
  have ld:zo d0=true:=by cases d0<;>first|rfl|exact k.elim
  obtain⟨ad,oo,z1,y1,y2,y3⟩:=ss.own j d0 hi q' ld;cases y3 with
  |dic kvs=>exact k.elim
  |dct _ _=>exact k.elim
  | @lst ds vs y3=>
   cases ds with
   |nil=>exact k.elim
   |cons d ds=>
    cases y3 with
    | @cons _ _ v vs r rs=>
     obtain⟨s2,s3⟩:=ss.change (vs:=vs) (ds:=ds) hfz hi q' z1 rs;have hni:¬ zg c i:=λ⟨z,z1,z2⟩=>by rw[l3]at z1;cases z1;rw[hox]at z2;cases z2
     have s4:=s2.set hni (r.mono s3);exact⟨_,z1,.inl ⟨rfl,_,SqL.of y2⟩,ad,v::vs,0,0,v,rfl,rfl,y2,by decide,by decide,by simp[seqIndex?],rfl,k _ _ S s4 s3⟩
theorem jo{H:Hp}{k:List Int}{d:EV.D}{v:V}(rv:Rep g H d v):∀{ks:List (List Int)}{ds:List EV.D}{vs:List V},qU g H ds vs->qU g H (WD.cw ks ds k d) (WD.cw ks vs k v)
 | [],_,_,r=>by
  simp only[WD.cw];exact r
 |_::_,[],_,.nil=>.nil
 |k'::ks,_::_,_::_,.cons a r=>by
  simp only[WD.cw];by_cases q:k'=k
  ·rw[if_pos q,if_pos q];exact .cons rv (jo rv r)
  ·rw[if_neg q,if_neg q];exact .cons a (jo rv r)
theorem mL{H:Hp}{k:List Int}{d:EV.D}{v:V}{ks:List (List Int)}{ds:List EV.D}{vs:List V}(_:ks.length=vs.length)(r:qU g H ds vs)(rv:Rep g H d v):qU g H (WD.cb ks ds k d) (WD.cb ks vs k v):=by
 unfold WD.cb;by_cases q:(ks.any λx=>decide (x=k))=true
 ·rw[if_pos q,if_pos q];exact jo rv r
 ·rw[if_neg q,if_neg q];exact r.append (.cons rv .nil)
theorem nA{x y:Str}{p1 p2 q1 q2 pt:Pos}{kt:Nat}{k l e:Expr}{env:PySem.Env}:bt [.Tuple [.Subscript (.Name x p1) k q1,.Subscript (.Name y p2) l q2] kt pt] e env=pure none:=by
 unfold bt;cases e<;>first|rfl|skip
 simp only;split
 ·rfl
 ·split
  ·rfl
  ·split
   ·rfl
   ·rename_i hq
    exfalso;refine hq ?_;rw[List.filterMap_cons_none rfl,List.filterMap_cons_none rfl,List.filterMap_nil]
    rfl
theorem vV{H:Hp}{d1 d2:EV.D}{v:V}(h:Rep g H (.tup [d1,d2]) v):∃a v1 v2,v=.ref a/\SqT g.K H a [v1,v2]/\Rep g H d1 v1/\Rep g H d2 v2:=by
 cases h with
 |tup q1 q2=>
  cases q2 with
  |cons r1 q2=>
   cases q2 with
   |cons r2 q2=>cases q2;exact⟨_,_,_,rfl,q1,r1,r2⟩
theorem xP{Ed:Ends}{H0 H:Hp}{B S:Sh}{d:EV.D}{f:EV.D->EV.D->EV.O}(h:bg g c E fr H0 B H S Ed (gD d f)):∃a b,d=.tup [a,b]/\bg g c E fr H0 B H S Ed (f a b):=by
 unfold gD at h;split at h
 ·split at h
  ·split at h
   ·split at h
    ·exact⟨_,_,rfl,h⟩
    ·exact h.elim
   ·exact h.elim
  ·exact h.elim
 ·exact h.elim
theorem mC{Ed:Ends}{H0 H:Hp}{B S:Sh}{τ:Env}{σ:L2.St}{i:Nat}{ik:EV.E}{d:EV.D}{v:V}{f:Env->EV.O}{Q:L2.St->Hp->Prop}(hfz:c.frz=false)(hi:zg c i)(ss:SS g c H0 B τ σ H S)(r:Rep g (hid H S) d v)(k:bg g c E fr H0 B H S Ed (eB w i ik d τ f))
  (kk:∀τ' H',SS g c H0 B τ' σ H' S->qa (hid H S) (hid H' S)->bg g c E fr H0 B H' S Ed (f τ')->Q σ H'):kH (cQ i) (tE w g c E ik) mI v σ H Q:=by
 unfold eB at k;cases q:zE τ i with
 |ex z=>unfold zE at q;split at q<;>cases q
 |no=>rw[q]at k;exact k.elim
 |ok d0=>
  rw[q]at k;have q':=eO q;cases ld:zo d0 with
  |false=>
   obtain⟨v0,z1,_⟩:=ss.se.val i d0 q';refine⟨_,z1,s_e ss k λn vn H2 _ p2 k2=>?_⟩;cases d0<;>first|exact k2.elim|cases ld
  |true=>
   obtain⟨ad,oo,z1,y1,y2,y3⟩:=ss.own i d0 hi q' ld;refine⟨_,z1,s_e ss k λn vn H2 _ p2 k2=>?_⟩;cases y3 with
   |dic kvs=>exact k2.elim
   |dct _ _=>exact k2.elim
   | @lst ds vs y3=>
    cases n with
    |int j=>
     simp only at k2;cases qj:ixN ds.length j with
     |none=>rw[qj]at k2;exact k2.elim
     |some m=>
      rw[qj]at k2;obtain⟨s3,s4⟩:=(ss.up p2.same).change (vs:=vs.set m v) (ds:=ds.set m d) hfz hi q' z1 ((y3.mono (qc p2.same)).set (r.mono (qc p2.same)) m);exact⟨ad,vs,j,m,rfl,p2.rb.int,p2.same _ _ y2,by rw[<-y3.length];exact qj,kk _ _ s3 ((qc p2.same).trans s4) (bg.up k2 ((qc p2.same).trans s4))⟩
    |_=>exact k2.elim
theorem Ab(O:XO w g c E X)(hc:X.calm=true)(hfz:c.frz=false){x:Str}{i:Nat}{k l e:Expr}{ik il ie:EV.E}{p p' sp sp' pt pos:Pos}{kt:Nat}(h:loc c x=some i)(ho:c.own.contains x=true)(hk:PE X k (tE w g c E ik))(hl:PE X l (tE w g c E il))(he:PE X e (tE w g c E ie))(hes:esc ie=true)(hsl:isSlice k=false)(hsl2:isSlice l=false)(hcm:cz e=false) :
  PS X (.Assign [.Tuple [.Subscript (.Name x p) k sp,.Subscript (.Name x p') l sp'] kt pt] e pos) (tS w g c E fr (.seti2 i ik il ie)):=by
 obtain⟨h1,h2,h3,h4⟩:=zj h;have hv:∀p,PE X (.Name x p) (cQ i):=λp=>dn (i:=i) (by rw[O.N];exact h1) (by unfold cC;rw[O.nm];exact h2) h3 h4
 have hg:=j3 (pos:=pt) (k:=kt) (n:=2) hc (gS (jd (pos:=sp) (hv p) hk (set_list (X:=X)) (by intro v;cases k<;>first|rfl|(simp[isSlice]at hsl))) (gS (jd (pos:=sp') (hv p') hl (set_list (X:=X)) (by intro v;cases l<;>first|rfl|(simp[isSlice]at hsl2))) jP));refine PS.imp (g9 he hg (by simp only[swapsWithSole];exact ef hcm) nA rfl) λD σ H ⟨H0,B,τ,S,ss,kk⟩=>?_
 simp only[bD,bF,bB,bC,bu,bE,bw,zK,bI,zI,bG,zO,zU,zX,zM,zN,zQ,zP,zY,zV,zS,zZ,zT,zH,zR]at kk;refine s_e ss kk λd v H1 _ p1 k1=>?_
 obtain⟨d1,d2,rfl,k1⟩:=xP k1;obtain⟨a,v1,v2,rfl,q1,r1,r2⟩:=vV (p1.st hes);have hi:zg c i:=⟨x,h1,ho⟩
 exact⟨a,[v1,v2],rfl,by rw[O.K];exact zW zy q1,rfl,v1,[v2],rfl,mC hfz hi (ss.up p1.same) r1 (bg.up k1 (qc p1.same)) λτ1 H2 s2 sm k2=>
  ⟨v2,[],rfl,mC hfz hi s2 (r2.mono sm) k2 λτ2 H3 s3 sm2 k3=>⟨rfl,k3 σ H3 S s3 (qa.refl _)⟩⟩⟩
theorem rY(O:XO w g c E X)(hfz:c.frz=false){x y:Str}{i j:Nat}{px py pos:Pos}(hx:bf c x=some i)(hy:loc c y=some j)(hox:c.own.contains x=false)(hoy:c.own.contains y=true) :
  PS X (.Assign [.Name x px] (.Name y py) pos) (tS w g c E fr (.give i j)):=by
 obtain⟨h1,h2,h3,h4⟩:=zj hy;obtain⟨l1,l2⟩:=zk hx;obtain⟨l3,_⟩:=zj l1;have hv:PE X (.Name y py) (cQ j):=dn (i:=j) (by rw[O.N];exact h1) (by unfold cC;rw[O.nm];exact h2) h3 h4;refine PS.imp (gF (i:=i) (by rw[O.N];exact O.nd) (by rw[O.N];exact l3) (by unfold L2.Loc;rw[O.nm];rcases l2 with z|z;exact .inl z;exact .inr z.1) hv (ef rfl) (by
  rcases l2 with z|z
  ·exact .inr (by rw[O.nm];exact z)
  ·exact .inl (O.fn x z.2))) λD σ H ⟨H0,B,τ,S,ss,k⟩=>?_
 simp only[bD,bF,bB,bC,bu,bE,bw,zK,bI,zI,bG,zO,zU,zX,zM,zN,zQ,zP,zY,zV,zS,zZ,zT,zH,zR]at k;cases q:zE τ j with
 |ex z=>unfold zE at q;split at q<;>cases q
 |no=>rw[q]at k;exact k.elim
 |ok d0=>
  rw[q]at k;have q':=eO q;have hj:zg c j:=⟨y,h1,hoy⟩
  have hni:¬ zg c i:=λ⟨z,z1,z2⟩=>by rw[l3]at z1;cases z1;rw[hox]at z2;cases z2
  obtain⟨v,S',z1,s2,sm⟩:=ss.give hfz hni (by rw[ss.lenN];exact(List.getElem?_eq_some_iff.mp l3).1) hj q';exact⟨v,z1,k _ _ S' s2 sm⟩
theorem wK(O:XO w g c E X)(hfz:c.frz=false){x:Str}{i:Nat}{k e:Expr}{ik ie:EV.E}{p sp pos:Pos}(h:loc c x=some i)(ho:c.own.contains x=true)(hk:PE X k (tE w g c E ik))(he:PE X e (tE w g c E ie))(hes:esc ie=true)(hsl:isSlice k=false)(hc:cz e=false) :
  PS X (.Assign [.Subscript (.Name x p) k sp] e pos) (tS w g c E fr (.seti i ik ie)):=by
 obtain⟨h1,h2,h3,h4⟩:=zj h;have hv:PE X (.Name x p) (cQ i):=dn (i:=i) (by rw[O.N];exact h1) (by unfold cC;rw[O.nm];exact h2) h3 h4;have hg:=jd (pos:=sp) hv hk (((set_list (X:=X)).or (yE O.units)).or (WD.uW O.units)) (by intro v;cases k<;>first|rfl|(simp[isSlice]at hsl));refine PS.imp (g9 he hg (by simp only[swapsWithSole];exact ef hc) rfl rfl) λD σ H ⟨H0,B,τ,S,ss,k⟩=>?_
 simp only[bD,bF,bB,bC,bu,bE,bw,zK,bI,zI,bG,zO,zU,zX,zM,zN,zQ,zP,zY,zV,zS,zZ,zT,zH,zR]at k;refine s_e ss k λd v H1 _ p1 k1=>?_
 cases q:zE τ i with
 |ex z=>unfold zE at q;split at q<;>cases q
 |no=>rw[q]at k1;exact k1.elim
 |ok d0=>
  rw[q]at k1;have q':=eO q;have hi:zg c i:=⟨x,h1,ho⟩
  have s1:=ss.up p1.same;cases ld:zo d0 with
  |false=>
   obtain⟨v0,z1,_⟩:=s1.se.val i d0 q';refine⟨_,z1,s_e s1 (bg.up k1 (qc p1.same)) λn vn H2 _ p2 k2=>?_⟩;cases d0<;>first|exact k2.elim|cases ld
  |true=>
  obtain⟨ad,oo,z1,y1,y2,y3⟩:=s1.own i d0 hi q' ld;refine⟨_,z1,s_e s1 (bg.up k1 (qc p1.same)) λn vn H2 _ p2 k2=>?_⟩;cases y3 with
  | @lst ds vs y3=>
   cases n with
   |int j=>
    simp only at k2;cases qj:ixN ds.length j with
    |none=>rw[qj]at k2;exact k2.elim
    |some m=>
     rw[qj]at k2;have s2:=s1.up p2.same;have y2':=p2.same _ _ y2;obtain⟨s3,s4⟩:=s2.change (vs:=vs.set m v) (ds:=ds.set m d) hfz hi q' z1 ((y3.mono (qc p2.same)).set ((p1.st hes).mono (qc p2.same)) m);exact .inl (.inl ⟨ad,vs,j,m,rfl,p2.rb.int,y2',by rw[<-y3.length];exact qj,k2 _ _ S s3 ((qc p2.same).trans s4)⟩)
   |_=>exact k2.elim
  |dic kvs=>
   cases n with
   |int j=>
    cases d with
    |int z=>
     simp only at k2;by_cases hz:kvs.length<SZ
     ·rw[if_pos hz]at k2;have s2:=s1.up p2.same;have y2':=p2.same _ _ y2;obtain⟨s3,s4⟩:=s2.changeO (d1:=.dic (dA kvs j z)) (o1:=.dK (aY (dA kvs j z))) hfz hi q' z1 (.dic _);have hv:=p1.rb.int;subst hv;refine .inl (.inr ⟨ad,kvs,j,z,rfl,p2.rb.int,rfl,y2',?_,k2 _ _ S s3 ((qc p2.same).trans s4)⟩);rw[bp];unfold SZ at hz;lia
     ·rw[if_neg hz]at k2;exact k2.elim
    |_=>exact k2.elim
   |tup xs=>
    simp only at k2;by_cases qe:kvs.isEmpty=true
    ·rw[if_pos qe]at k2;cases List.isEmpty_iff.mp qe;simp only[cJ]at k2;cases ek:ints? xs with
     |none=>rw[ek]at k2;exact k2.elim
     |some kk=>
      rw[ek]at k2;dsimp only at k2;rw[if_pos (by decide)]at k2;have s2:=s1.up p2.same;have y2':=p2.same _ _ y2;obtain⟨b',rfl,hb'⟩:=fA p2.rb ek;refine .inr ⟨ad,b',[],[],[],kk,hid H2 S,rfl,rfl,.inr ⟨rfl,y2'⟩,zy,.nil,by rw[O.K];exact hb',by rw[bp];simp,λxs' ep r=>?_⟩;rw[O.K]at r;obtain⟨s3,s4⟩:=s2.changeO (d1:=.dct (WD.cy [] kk) (WD.cb [] [] kk d)) (o1:=WD.zv ad xs' ep) hfz hi q' z1 (.dct r (mL rfl .nil ((p1.st hes).mono (qc p2.same))));exact k2 _ _ S s3 ((qc p2.same).trans s4)
    ·rw[if_neg qe]at k2;exact k2.elim
   |_=>exact k2.elim
  | @dct ks ds vs xs ep r0 rr=>
   cases n with
   |tup ys=>
    simp only[cJ]at k2;cases ek:ints? ys with
    |none=>rw[ek]at k2;exact k2.elim
    |some kk=>
     rw[ek]at k2;dsimp only at k2;by_cases hz:ks.length<SZ
     ·rw[if_pos hz]at k2;have s2:=s1.up p2.same;have y2':=p2.same _ _ y2;obtain⟨b',rfl,hb'⟩:=fA p2.rb ek;have r0':=r0.up (qc p2.same);refine .inr ⟨ad,b',xs,ks,vs,kk,hid H2 S,rfl,rfl,.inl ⟨ep,y2'⟩,zy,by rw[O.K];exact r0',by rw[O.K];exact hb',by rw[r0.len.2,bp];unfold SZ at hz;lia,λxs' ep' r=>?_⟩;rw[O.K]at r;obtain⟨s3,s4⟩:=s2.changeO (d1:=.dct (WD.cy ks kk) (WD.cb ks ds kk d)) (o1:=WD.zv ad xs' ep') hfz hi q' z1 (.dct r (mL r0.len.1 (rr.mono (qc p2.same)) ((p1.st hes).mono (qc p2.same))));exact k2 _ _ S s3 ((qc p2.same).trans s4)
     ·rw[if_neg hz]at k2;exact k2.elim
   |_=>exact k2.elim
theorem ve:PSs X [] (tSs w g c E fr .nil):=PSs.imp t9 λD σ H ⟨H0,B,τ,S,ss,h⟩=>by
 simp only[qi]at h;exact h σ H S ss (qa.refl _)
theorem kO{s:Stmt}{r:List Stmt}{is:EV.S}{ir:Ss}(h1:PS X s (tS w g c E fr is))(h2:PSs X r (tSs w g c E fr ir)):PSs X (s::r) (tSs w g c E fr (.cons is ir)):=
 PSs.imp (tw h1 h2) λD σ H ⟨H0,B,τ,S,ss,h⟩=>by
  simp only[qi]at h;refine⟨H0,B,τ,S,ss,?_⟩;cases q:evS w is τ with
  |nx τ'=>rw[q]at h;exact λσ' H' S' s' e=>⟨H0,B,τ',S',s',bg.up h e⟩
  |bk τ'=>rw[q]at h;exact h
  |ct τ'=>rw[q]at h;exact h
  |rt d=>rw[q]at h;exact h
  |ex k=>rw[q]at h;exact h
  |no=>rw[q]at h;exact h
theorem yF{t:Expr}{a b:List Stmt}{it:T}{ia ib:Ss}{pos:Pos}(ht:PT X t (tT w g c E it))(ha:PSs X a (tSs w g c E fr ia))(hb:PSs X b (tSs w g c E fr ib)):PS X (.If t a b pos) (tS w g c E fr (.ite it ia ib)):=
 PS.imp (wI ht ha hb) λD σ H ⟨H0,B,τ,S,ss,h⟩=>by
  simp only[bD,bF,bB,bC,bu,bE,bw,zK,bI,zI,bG,zO,zU,zX,zM,zN,zQ,zP,zY,zV,zS,zZ,zT,zH,zR]at h;refine s_t ss h λz H1 _ s1 k1=>?_
  cases z with
  |true=>exact⟨H0,B,τ,S,ss.up s1,bg.up k1 (qc s1)⟩
  |false=>exact⟨H0,B,τ,S,ss.up s1,bg.up k1 (qc s1)⟩
theorem PS.nox'{st:Stmt}{t:TS}(h:PS X.nox st t):PS X st t:=λpins s σ H D I hw=>
 wpAny_mono (h pins s σ H D (I.wish _) hw) (λ_ _ q=>q.unwish) λ_ _ z=>aM z
theorem XO.nox(O:XO w g c E X):XO w g c E0 X.nox:=⟨O.K,O.nm,O.N,O.nd,O.calm,O.units,O.fn,O.kind,ml rfl rfl,O.gok,O.fns,O.sub⟩
theorem XS.nox(O:XS w g c E X):XS w g c E0 X.nox:=⟨O.toXO.nox,λ_ _ _ _ _ _ _ _ _ _ _ z=>aM z,O.exc,O.cat,O.frm,O.gh⟩
theorem m4{o:O}(h:bg g c E fr H0 B H S Ed o.noEx):bg g c E0 fr H0 B H S Ed o/\(∀k,o≠.ex k)/\o≠.no:=by
 cases o with
 |ex k=>exact h.elim
 |no=>exact h.elim
 |nx t=>exact⟨h,(λ_ z=>by cases z),(λz=>by cases z)⟩
 |bk t=>exact⟨h,(λ_ z=>by cases z),(λz=>by cases z)⟩
 |ct t=>exact⟨h,(λ_ z=>by cases z),(λz=>by cases z)⟩
 |rt t=>exact⟨h,(λ_ z=>by cases z),(λz=>by cases z)⟩
noncomputable def frozen(c:Cc)(b:Bool):Cc:={c with frz:=c.frz||b}
theorem XS.froze(O:XS w g c E X){b:Bool}:XS w g (frozen c b) E X:=
 ⟨⟨O.K,O.nm,O.N,O.nd,O.calm,O.units,O.fn,O.kind,O.pass,O.gok,O.fns,O.sub⟩,O.thr,O.exc,O.cat,O.frm,O.gh⟩
noncomputable def cK(B:Sh)(b:Bool)(σ:L2.St)(H:Hp):Sh:=if b=true then ⟨B.o,B.h,σ,H⟩else B
theorem g8{b:Bool}:(cK B b σ H).h=B.h:=by unfold cK;split<;>rfl
theorem m6{b:Bool}{H1:Hp}:hid H1 (cK B b σ H)=hid H1 B:=by funext a;unfold hid;rw[g8]
theorem SS.froze(b:Bool)(ss:SS g c H0 B τ σ H S):SS g (frozen c b) H0 (cK B b σ H) τ σ H S:=by
 refine⟨⟨ss.se.len,ss.se.val,ss.se.sub⟩,ss.lenN,ss.same,?_,?_,ss.new,ss.own,ss.inj,λz=>?_⟩
 ·unfold cK;split
  ·exact ss.sub0
  ·exact ss.sub0
 ·rw[g8];exact ss.hd
 ·cases b with
  |true=>exact⟨λi _=>rfl,qa.refl _⟩
  |false=>
   have z:(c.frz||false)=true:=z;rw[Bool.or_false]at z;exact ss.frz z
theorem SS.thaw{b:Bool}{σ1:L2.St}{H1:Hp}{τ1:Env}{S1:Sh}(s0:SS g c H0 B τ1 σ1 H1 S1)(ss:SS g (frozen c b) H0 (cK B b σ1 H1) τ σ H S):SS g c H0 B τ σ H S:=by
 refine⟨⟨ss.se.len,ss.se.val,ss.se.sub⟩,ss.lenN,ss.same,s0.sub0,?_,ss.new,ss.own,ss.inj,λz=>?_⟩
 ·have:=ss.hd;rw[g8]at this;exact this
 ·have f:=ss.frz (by show (c.frz||b)=true;rw[z];rfl);cases b with
  |true=>exact⟨λi hi=>(f.1 i hi).trans ((s0.frz z).1 i hi),(s0.frz z).2.trans f.2⟩
  |false=>exact f
theorem SS.iced{b:Bool}{σ1:L2.St}{H1:Hp}(hb:b=true)(ss:SS g (frozen c b) H0 (cK B b σ1 H1) τ σ H S):qa H1 H:=by
 subst hb;exact(ss.frz (by show (c.frz||true)=true;rw[Bool.or_true])).2
theorem vL(O:XO w g c E X)(hc:X.calm=true){tg it:Expr}{b:List Stmt}{itg:Tg}{iit:It}{ib:Ss}{pos:Pos}(hi:PI X.nox tg it (tIt w g c E0 iit))(hg:PG X.nox tg (gT X.K itg))(hf:eZ c itg)(hb:PSs X.nox b (tSs w g (frozen c (owned iit)) E0 fr ib))(hs:zz it=true) :
  PS X (.For tg it b [] pos) (tS w g c E fr (.for itg iit ib)):=by
 refine PS.nox' (PS.imp (vR (X:=X.nox) PassesOwn.never hc hi hg hb (λx=>by cases it<;>first|rfl|(simp[zz]at hs))) λD σ H ⟨H0,B,τ,S,ss,h⟩=>?_);simp only[bD,bF,bB,bC,bu,bE,bw,zK,bI,zI,bG,zO,zU,zX,zM,zN,zQ,zP,zY,zV,zS,zZ,zT,zH,zR]at h;obtain⟨h,nex,nno⟩:=m4 h;cases q:evI w iit τ with
 |ex z=>rw[q]at nex;exact absurd rfl (nex z)
 |no=>rw[q]at nno;exact absurd rfl nno
 |ok ds=>
  rw[q]at h nex nno;simp only[R.out_ok]at h nex nno;refine⟨τ,S,ss.se,?_⟩;rw[q];intro J H1 s1 kW kS;generalize hr:bA itg (λσ=>qi w ib σ) ds τ=r at h nex nno;refine⟨λi m σ' H'=>m=ds.length-i/\i<=ds.length/\∃τ' S',SS g (frozen c (owned iit)) H0 (cK B (owned iit) σ H1) τ' σ' H' S'/\qa (hid H1 S) (hid H' S')/\bA itg (λσ=>qi w ib σ) (ds.drop i) τ'=r,⟨ds.length,rfl,Nat.zero_le _,τ,S,(ss.up s1).froze _,qa.refl _,hr⟩,?_⟩;rintro i m σ' H' ⟨rfl,hi',τ',S',ss',e',hl⟩;have gg:Goes g J ds H' S':=by
   cases hw:owned iit with
   |false=>exact kS hw H' S' e' ss'.se.sub
   |true=>exact kW H' S' (ss'.iced hw) e' ss'.se.sub
  obtain⟨g1,g2⟩:=gg;have eH:qa (hid H S) (hid H' S'):=(qc s1).trans e';by_cases hlt:i<ds.length
  ·have hd:ds[i]? = some ds[i]:=List.getElem?_eq_getElem hlt;obtain⟨go1,go2⟩:=g2 i ds[i] hd;refine .inr ⟨go1,λσ2 H2=>∃τ' S',SS g (frozen c (owned iit)) H0 (cK B (owned iit) σ H1) τ' σ2 H2 S'/\qa (hid H1 S) (hid H2 S')/\bA itg (λσ=>qi w ib σ) (ds.drop (i+1)) τ'=r,λσ2 H2 z=>⟨ds.length-(i+1),by lia,rfl,hlt,z⟩,λx H2 hy=>?_⟩;obtain⟨s2,rx⟩:=go2 x H2 hy;rw[List.drop_eq_getElem_cons hlt]at hl;simp only[bA]at hl;cases q1:store itg ds[i] τ' with
   |ex z=>rw[q1]at hl;exact absurd hl.symm (nex z)
   |no=>rw[q1]at hl;exact absurd hl.symm nno
   |ok τ1=>
    rw[q1]at hl;simp only[R.out_ok]at hl;refine(ss'.up s2).store O.K hf rx q1 λσ1 ss1=>⟨H0,_,τ1,S',ss1,?_⟩
    cases q2:qi w ib τ1 with
    |nx τ2=>rw[q2]at hl;exact λσ2 H3 S3 s3 e3=>⟨τ2,S3,s3,(e'.trans (qc s2)).trans e3,hl⟩
    |ct τ2=>rw[q2]at hl;exact λσ2 H3 S3 s3 e3=>⟨τ2,S3,s3,(e'.trans (qc s2)).trans e3,hl⟩
    |bk τ2=>
     rw[q2]at hl;simp only at hl;rw[<-hl]at h;exact λσ2 H3 S3 s3 e3=>h σ2 H3 S3 ((ss.up s1).thaw s3) ((eH.trans (qc s2)).trans e3)
    |rt d=>
     rw[q2]at hl;simp only at hl;rw[<-hl]at h;refine λv H3 s3 r3 f3=>h v H3 s3 (by rw[m6]at r3;exact r3) λz=>?_
     have f3:=f3 z;unfold cK at f3;split at f3
     ·exact f3
     ·exact f3
    |ex z=>rw[q2]at hl;exact absurd hl.symm (nex z)
    |no=>rw[q2]at hl;exact absurd hl.symm nno
  ·have e:i=ds.length:=by lia
   subst e;rw[List.drop_length]at hl;simp only[bA]at hl;rw[<-hl]at h;exact .inl ⟨g1 ds.length (aA _),h σ' H' S' ((ss.up s1).thaw ss') eH⟩
end
section
variable{w:W}{g:Gc}{c:Cc}{E:XK}{fr:Bool}{X:Cx}{H0:Hp}{B:Sh}{τ:Env}{σ:L2.St}{H H':Hp}{S:Sh}{Ed:Ends}
theorem xa{s:Stmt}:PS X s (tS w g c E fr .unk):=λpins s σ H D I ⟨H0,B,τ,S,ss,h⟩=>by
 simp only[bD,bF,bB,bC,bu,bE,bw,zK,bI,zI,bG,zO,zU,zX,zM,zN,zQ,zP,zY,zV,zS,zZ,zT,zH,zR]at h;exact h.elim
theorem rM(O:XO w g c E X)(hfz:c.frz=false){x:Str}{i:Nat}{k a:Expr}{ik ia:EV.E}{p ap cp pos:Pos}(h:loc c x=some i)(ho:c.own.contains x=true)(hk:PE X k (tE w g c E ik))(ha:PE X a (tE w g c E ia))(hes:esc ia=true)(hsk:isStar k=false)(hs:isStar a=false)(hl:(ap.endLine==cp.line)=true) :
  PS X (.Expr (.Call (.Attribute (.Name x p) "insert" ap) [k,a] [] cp) pos) (tS w g c E fr (.ins i ik ia)):=λpins s σ H D I ⟨H0,B,τ,S,ss,h⟩=>by
 simp only[bD,bF,bB,bC,bu,bE,bw,zK,bI,zI,bG,zO,zU,zX,zM,zN,zQ,zP,zY,zV,zS,zZ,zT,zH,zR]at h;exact aM h
end
theorem ym{e:Expr}{x:Str}{ap cp:Pos}{k a:Expr}(h:jI e=some (x,ap,k,a,cp)):∃p,e=.Call (.Attribute (.Name x p) "insert" ap) [k,a] [] cp:=by cases h
theorem xm{x y:Str}{px py pt pt2:Pos}{kt k2:Nat}{a b:Expr}{env:PySem.Env}(h:env.kindOf x≠some .local):bt [.Tuple [.Name x px,.Name y py] kt pt] (.Tuple [a,b] k2 pt2) env=pure none:=by
 have hx:(env.kindOf x==some aD.local)=false:=by simpa using h
 unfold bt;simp only;split
 ·rfl
 ·split
  ·rfl
  ·split
   ·rfl
   ·rename_i hq
    exfalso;refine hq ?_;rw[List.filterMap_cons_none (by simp only[hx,Bool.false_and];rfl)];have:∀l:List Expr,∀f:Expr->Option Str,(l.filterMap f).length<=l.length:=λl f=>List.length_filterMap_le f l
    simp only[a9,bne_iff_ne,ne_eq];left;intro z;have q:([Expr.Name x px,Expr.Name y py]:List Expr).length<=([Expr.Name y py]:List Expr).length:=by rw[<-z];exact this _ _
    simp at q
theorem wz{ts:List Expr}{k:Nat}{p:Pos}{e:Expr}{env:PySem.Env}(h:isTup e=true->iz e=true):bt [.Tuple ts k p] e env=pure none:=by
 cases e<;>first|rfl|skip
 rename_i vs k2 p2
 have h:vs.all (foldedForSure 8)=true:=h rfl;unfold bt;simp only[h,if_true];split
 ·rfl
 ·split
  ·rfl
  ·split
   ·rfl
   ·rfl
theorem jS{ts:List Expr}{e:Expr}{x y:Str}{a b:Expr}(h:jF ts e=some (x,y,a,b)):∃px py k2 pt2,ts=[.Name x px,.Name y py]/\e=.Tuple [a,b] k2 pt2/\isStar a=false/\isStar b=false/\[a,b].all (foldedForSure 8)=false/\[a,b].all (constantsAlone 8)=false/\(px.line==py.line)=true:=by cases h
theorem vA{ts:List Expr}{e:Expr}{x y z:Str}{a b d:Expr}(h:iA ts e=some (x,y,z,a,b,d)):∃px py pz k2 pt2,ts=[.Name x px,.Name y py,.Name z pz]/\e=.Tuple [a,b,d] k2 pt2/\isStar a=false/\isStar b=false/\isStar d=false/\[a,b,d].all (foldedForSure 8)=false/\[a,b,d].all (constantsAlone 8)=false/\(px.line==py.line)=true/\(px.line==pz.line)=true:=by
 unfold iA at h;split at h
 ·split at h
  ·split at h
   ·rename_i hc
    simp only[ax,aR]at hc;cases h;exact⟨_,_,_,_,_,rfl,rfl,hc.1.1.1.1.1.1,hc.1.1.1.1.1.2,hc.1.1.1.1.2,hc.1.1.1.2,hc.1.1.2,hc.1.2,hc.2⟩
   ·cases h
  ·cases h
 ·cases h
section
variable{w:W}{g:Gc}{c:Cc}{E:XK}{fr:Bool}{X:Cx}
theorem vx{n:Nat}{c:Cc}{elt:Expr}{gs:List bz}{sc:aI}{p:Pos}{ie:EV.E}(h:cE n c (.ListComp elt gs sc p)=some ie)(htw:gx (.ListComp elt gs sc p)=false):fR c ie=ie:=by
 match n,h with
 | 0,h=>cases h
 |m+1,h=>
  obtain⟨tgt,it,ifs,iit,itg,it',ie',rfl,hs1,hk1,h1,h2,h3,h4,he,rfl⟩:=gQ h
  rfl
theorem ni(O:XO w g c E X){n:Nat}(hn:n<=100000){x:Str}{i:Nat}{elt:Expr}{gs:List bz}{sc:aI}{p p' pos:Pos}{ie:EV.E}(hl:bf c x=some i)(h:cE n c (.ListComp elt gs sc p)=some ie)(htw:gx (.ListComp elt gs sc p)=false)(hk:(zg c i/\bV c ie=true/\c.frz=false)\/(¬ zg c i/\esc ie=true)) :
  PS X (.Assign [.Name x p'] (.ListComp elt gs sc p) pos) (tS w g c E fr (.set (.nm i) ie)):=by
 obtain⟨l1,l2⟩:=zk hl;obtain⟨l3,_⟩:=zj l1;have hlt:i<c.N.length:=(List.getElem?_eq_some_iff.mp l3).1;have hN:X.N.Nodup:=by rw[O.N];exact O.nd
 have hix:X.N[i]? = some x:=by rw[O.N];exact l3
 have hx:L2.Loc X.env.scope x:=by unfold L2.Loc;rw[O.nm];rcases l2 with z|z;exact .inl z;exact .inr z.1
 have hf:X.fn x=true\/X.env.scope.names.lookup x=some .local:=by
  rcases l2 with z|z
  ·exact .inr (by rw[O.nm];exact z)
  ·exact .inl (O.fn x z.2)
 cases hb:(X.env.blockKind==.function&&X.env.kindOf x==some .local&&p'.line==p.line && !(sc.names.any λ(n,k)=>n==x&&(k==.local||k==.cell)))with
 |false=>
  have hs:swapsWith (.ListComp elt gs sc p) (some (.Name x p')) pos.line X.env=pure false:=by rw[<-hb];rfl
  exact iZ (e:=.ListComp elt gs sc p) (gF hN hix hx ((snd n hn).e O h) hs hf) (λ_ _ _ z=>z) hlt hk
 |true=>
  have hs:swapsWith (.ListComp elt gs sc p) (some (.Name x p')) pos.line X.env=pure true:=by rw[<-hb];rfl
  match n,h with
  | 0,h=>cases h
  |m+1,h=>
   have ih:=snd (w:=w) (g:=g) m (Nat.le_of_succ_le hn);obtain⟨tgt,it,ifs,iit,itg,it',ie',rfl,hs1,hk1,h1,h2,h3,h4,he,rfl⟩:=gQ h;have hS:cm X (bx sc.names) (eD c sc.names) sc:=cm.of (by
    have e1:(λx=>c.nm.lookup x)=X.env.kindOf:=by funext x;show _=X.env.scope.names.lookup x;rw[O.nm]
    rw[<-e1,O.N];exact hk1.1)
   refine iZ (e:=.ListComp elt [⟨tgt,it,ifs,0⟩] sc p) (m5 (tb:=λacc=>fZ acc (tE w g (b9 c sc) E0 ie')) hN hix hx (O.calm hs1.1) hS (ih.i O h1 he.2) (λcl C s₀ H₀ fp=>?_) (by simp) hs hf (λx=>by
    have q:=hs1.2;cases it<;>first|rfl|cases q)) (λσ H Q q=>jE O hS he.1 q) hlt hk
   have OY:=O.comp hS.kind hk1.2 cl C s₀ H₀ fp;exact⟨fJ OY h2,ih.ifs OY h3,λacc=>lG rfl (ih.e OY h4)⟩
end
structure fM(w:W)(g:Gc)(n:Nat):Prop where
 s:∀{c:Cc}{E:XK}{X:Cx} (O:XS w g c E X) {fr:Bool}{x:Stmt}{ir:EV.S},cS n c fr x=some ir->PS X x (tS w g c E fr ir)
 ss:∀{c:Cc}{E:XK}{X:Cx} (O:XS w g c E X) {fr:Bool}{x:List Stmt}{ir:Ss},cSs n c fr x=some ir->PSs X x (tSs w g c E fr ir)
section
variable{w:W}{g:Gc}{n:Nat}
theorem fM.ss_succ(ih:fM w g n){c:Cc}{E:XK}{X:Cx}(O:XS w g c E X){fr:Bool}{x:List Stmt}{ir:Ss}(h:cSs (n+1) c fr x=some ir):PSs X x (tSs w g c E fr ir):=by
 match x with
 | []=>simp only[cSs,bL]at h;subst h;exact ve
 |s::r=>
  simp only[cSs,aw,au]at h;obtain⟨ir',h2,h⟩:=h;cases h;cases h1:cS n c fr s with
  |none=>exact kO xa (ih.ss O h2)
  |some is=>exact kO (ih.s O h1) (ih.ss O h2)
theorem ej{c:Cc}{x:Str}{i:Nat}(h:c.N[i]? = some x):zg c i↔c.own.contains x=true:=⟨λ⟨y,h1,h2⟩=>by rw[h]at h1;cases h1;exact h2,λh2=>⟨x,h,h2⟩⟩
theorem w_{e:Expr}{x m:Str}{ap cp:Pos}{a:Expr}(h:iL e=some (x,m,ap,a,cp)):∃p,e=.Call (.Attribute (.Name x p) m ap) [a] [] cp:=by
 unfold iL at h;split at h
 ·split at h
  ·split at h
   ·split at h
    ·split at h
     ·rename_i hk;cases h;rw[List.isEmpty_iff]at hk;subst hk;exact⟨_,rfl⟩
     ·cases h
    ·cases h
   ·cases h
  ·cases h
 ·cases h
theorem uM{e:Expr}{x:Str}{ap cp:Pos}(h:iI e=some (x,ap,cp)):∃p k q,e=.Call (.Attribute (.Name x p) "pop" ap) [.Constant (.int 0) k q] [] cp:=by
 unfold iI at h;split at h
 ·split at h
  ·split at h
   ·split at h
    ·split at h
     ·split at h
      ·split at h
       ·rename_i hk
        simp only[ax,List.isEmpty_iff,beq_iff_eq,decide_eq_true_eq]at hk;obtain⟨⟨rfl,rfl⟩,rfl⟩:=hk;cases h;exact⟨_,_,_,rfl⟩
       ·cases h
      ·cases h
     ·cases h
    ·cases h
   ·cases h
  ·cases h
 ·cases h
theorem xk{ts:List Expr}{x:Str}{k l:Expr}(h:i6 ts=some (x,k,l)):∃q1 q2 r1 r2,ts=[.Subscript (.Name x q1) k r1,.Subscript (.Name x q2) l r2]/\isSlice k=false/\isSlice l=false:=by
 unfold i6 at h;split at h
 ·split at h
  ·rename_i hc
   simp only[ax,beq_iff_eq,aR]at hc;cases h;obtain⟨⟨rfl,a⟩,b⟩:=hc;exact⟨_,_,_,_,rfl,a,b⟩
  ·cases h
 ·cases h
theorem uv{c:Cc}{x y:Str}{e:Expr}(h:ip c x e=some y):∃p,e=.Name y p/\c.own.contains y=true/\c.own.contains x=false/\c.frz=false:=by
 unfold ip at h;split at h
 ·split at h
  ·rename_i hc
   simp only[ax,aR]at hc;cases h;exact⟨_,rfl,hc.1.1,hc.1.2,hc.2⟩
  ·cases h
 ·cases h
theorem fM.s_succ(ih:fM w g n)(hn:n<=100000){c:Cc}{E:XK}{X:Cx}(O:XS w g c E X){fr:Bool}{x:Stmt}{ir:EV.S}(h:cS (n+1) c fr x=some ir):PS X x (tS w g c E fr ir):=by
 have K:=snd (w:=w) (g:=g) n hn;unfold cS at h;split at h
 ·rename_i ts0 e pos
  split at h
  ·rename_i t0
   split at h
   ·-- x = e
    rename_i y p
    split at h
    ·rename_i hp
     obtain⟨p0,k0,q0,rfl⟩:=uM hp;simp only[aw,au]at h;obtain⟨i,hl,j,hj,h⟩:=h;split at h
     ·rename_i hc
      simp only[ax,aR]at hc;cases h;obtain⟨⟨⟨c1,c2⟩,c3⟩,c4⟩:=hc;exact oC O.toXO c4 hl hj c2 c1 (by simpa using c3)
     ·cases h
    split at h
    ·rename_i y' hg
     obtain⟨p0,rfl,hoy,hox,hfz⟩:=uv hg;simp only[aw,au]at h;obtain⟨i,hl,j,hj,h⟩:=h;cases h;exact rY O.toXO hfz hl hj hox hoy
    split at h
    ·cases h
    rename_i htw
    have htw:gx e=false:=by simpa using htw
    simp only[aw,au]at h;obtain⟨i,hl,ie,h1,h⟩:=h;obtain⟨l1,l2⟩:=zk hl;obtain⟨l3,_⟩:=zj l1;have ho:=ej l3;have hk:∃ig,((zg c i/\bV c ig=true/\c.frz=false)\/(¬ zg c i/\esc ig=true))/\ir=.set (.nm i) ig/\(ig=ie\/ig=fR c ie):=by
     split at h
     ·rename_i hy
      split at h
      ·rename_i hf;cases h;exact⟨_,.inl ⟨ho.mpr hy,by simpa using hf⟩,rfl,.inl rfl⟩
      ·cases h
     ·rename_i hy
      split at h
      ·rename_i hf;cases h;exact⟨_,.inr ⟨λz=>hy (ho.mp z),hf⟩,rfl,.inl rfl⟩
      ·cases h
    obtain⟨ig,hk,rfl,hig⟩:=hk;have hE:PE X e (tE w g c E ig):=by
     rcases hig with rfl|rfl
     ·exact K.e O.toXO h1
     ·exact s_ (K.e O.toXO h1)
    cases hc:cz e with
    |false=>
     refine iZ (e:=e) (gF (i:=i) (by rw[O.N];exact O.nd) (by rw[O.N];exact l3) (by unfold L2.Loc;rw[O.nm];rcases l2 with z|z;exact .inl z;exact .inr z.1) hE (ef hc) ?_) (λ_ _ _ z=>z) (List.getElem?_eq_some_iff.mp l3).1 hk;rcases l2 with z|z
     ·exact .inr (by rw[O.nm];exact z)
     ·exact .inl (O.fn y z.2)
    |true=>
     cases e with
     |ListComp elt gs sc p=>
      have eg:ig=ie:=by
       rcases hig with z|z
       ·exact z
       ·rw[z];exact vx h1 htw
      subst eg;exact ni O.toXO hn hl h1 htw hk
     |SetComp elt gs sc p=>match n,h1 with
      | 0,h1=>cases h1
      |m+1,h1=>cases h1
     |DictComp a b gs sc p=>match n,h1 with
      | 0,h1=>cases h1
      |m+1,h1=>cases h1
     |_=>cases hc
   ·-- (a, b) = e
    rename_i ts k p
    split at h
    ·rename_i x k1 k2 hp
     obtain⟨q1,q2,r1,r2,rfl,hs1,hs2⟩:=xk hp;simp only[aw,au]at h;obtain⟨i,hl,ik,h1,il,h2,ie,h3,h⟩:=h;split at h
     ·rename_i hc
      simp only[ax,aR]at hc;cases h;obtain⟨⟨⟨⟨c1,c2⟩,c3⟩,c4⟩,c5⟩:=hc;exact Ab O.toXO (by rw[O.calm];exact c1) c3 hl c2 (K.e O.toXO h1) (K.e O.toXO h2) (K.e O.toXO h3) c4 hs1 hs2 c5
     ·cases h
    split at h
    ·rename_i x y a b hp
     split at h
     ·rename_i hx
      simp only[aw,au]at h;obtain⟨tg,h1,ie,h2,h⟩:=h;split at h
      ·cases h
      ·rename_i hc
       cases h;obtain⟨px,py,k2,pt2,rfl,rfl,hsa,hsb,hfa,hca,hl⟩:=jS hp;refine j2 O.toXO (K.e O.toXO h2) (fJ O.toXO h1) (hX h1) (by simpa using hc) rfl ?_ rfl;refine xm (λz=>?_);rw[show X.env.kindOf x=X.env.scope.names.lookup x from rfl,O.nm]at z;rw[z]at hx;cases hx
     simp only[aw,au]at h;obtain⟨i,hx,j,hy,ia,h1,ib,h2,h⟩:=h;obtain⟨px,py,k2,pt2,rfl,rfl,hsa,hsb,hfa,hca,hl⟩:=jS hp;split at h
     ·cases h
     ·rename_i hc
      simp only[a9,aR,not_or,Bool.not_eq_true,Bool.not_eq_false]at hc;obtain⟨⟨⟨⟨⟨⟨⟨c1,c2⟩,c3⟩,c4⟩,c5⟩,c6⟩,c7⟩,c8⟩:=hc;obtain⟨l1,_⟩:=zk hx;obtain⟨l3,_⟩:=zj l1;obtain⟨m1,_⟩:=zk hy;obtain⟨m3,_⟩:=zj m1;have oi:=ej l3;have oj:=ej m3;have hk:((zg c j/\fresh c ib=true/\c.frz=false)\/(¬ zg c j/\esc ib=true))/\ir=.par i j ia ib:=by
       split at h
       ·rename_i hy'
        split at h
        ·rename_i hf;cases h;exact⟨.inl ⟨oj.mpr hy',by simpa using hf⟩,rfl⟩
        ·cases h
       ·rename_i hy'
        split at h
        ·rename_i hf;cases h;exact⟨.inr ⟨λz=>hy' (oj.mp z),hf⟩,rfl⟩
        ·cases h
      obtain⟨hk,rfl⟩:=hk;exact oq O.toXO (O.calm c1) hx hy (eq_of_beq c2) (eq_of_beq c3) (by simpa using c4) (K.e O.toXO h1) (K.e O.toXO h2) c7 c8 hfa hca hl (λz=>by have:=oi.mp z;rw[c5]at this;cases this) c6 hk
    split at h
    ·rename_i x y z a b d hp
     simp only[aw,au]at h;obtain⟨i,hx,j,hy,l,hz,ia,h1,ib,h2,id,h3,h⟩:=h;obtain⟨px,py,pz,k2,pt2,rfl,rfl,hsa,hsb,hsd,hfa,hca,hl,hl'⟩:=vA hp;split at h
     ·cases h
     ·rename_i hc
      simp only[a9,aR,not_or,Bool.not_eq_true,Bool.not_eq_false]at hc;obtain⟨⟨⟨⟨⟨⟨⟨⟨⟨⟨⟨⟨c1,c2⟩,c3⟩,c4⟩,c5⟩,c6⟩,c7⟩,c8⟩,c9⟩,c10⟩,c11⟩,c12⟩,c13⟩:=hc;cases h;have oi:=ej (zj (zk hx).1).1;have oj:=ej (zj (zk hy).1).1;have ol:=ej (zj (zk hz).1).1;exact wB O.toXO (O.calm c1) hx hy hz (eq_of_beq c2) (eq_of_beq c3) (eq_of_beq c4) (by simpa using c5) (by simpa using c6) (by simpa using c7) (K.e O.toXO h1) (K.e O.toXO h2) (K.e O.toXO h3) hsa hsb hsd hfa hca hl hl' (λq=>by have:=oi.mp q;rw[c8]at this;cases this) (λq=>by have:=oj.mp q;rw[c9]at this;cases this) (λq=>by have:=ol.mp q;rw[c10]at this;cases this) c11 c12 c13
    simp only[aw,au]at h;obtain⟨tg,h1,ie,h2,h⟩:=h;split at h
    ·cases h
    ·rename_i hc
     have hc:((isTup e=true->iz e=true)/\cz e=false)/\esc ie=true:=by simpa using hc
     cases h;refine j2 O.toXO (K.e O.toXO h2) (fJ O.toXO h1) (hX h1) hc.2 (by simp only[swapsWithSole];exact ef hc.1.2) ?_ rfl;exact wz hc.1.1
   ·-- x[k] = e
    split at h
    ·simp only[aw,au]at h;obtain⟨i,hl,ie,h1,ik,h2,h⟩:=h;split at h
     ·rename_i hc
      simp only[ax,aR]at hc;cases h;exact wK O.toXO hc.2 (zk hl).1 hc.1.1.1.1 (K.e O.toXO h2) (K.e O.toXO h1) hc.1.1.1.2 hc.1.1.2 hc.1.2
     ·cases h
    ·cases h
   ·cases h
  ·cases h
 ·split at h
  ·-- x.insert(k, a)
   rename_i he
   obtain⟨p,rfl⟩:=ym he;simp only[aw,au]at h;obtain⟨i,hl,ik,h0,ia,h1,h⟩:=h;split at h
   ·rename_i hc
    simp only[ax,aR,beq_iff_eq]at hc;cases h;obtain⟨⟨⟨⟨⟨c2,c3⟩,c4⟩,c5⟩,c6⟩,c7⟩:=hc;exact rM O.toXO c7 (zk hl).1 c2 (K.e O.toXO h0) (K.e O.toXO h1) c3 c4 c5 (by simpa using c6)
   ·cases h
  split at h
  ·-- x.append(a)
   rename_i he
   obtain⟨p,rfl⟩:=w_ he;simp only[aw,au]at h;obtain⟨i,hl,ia,h1,h⟩:=h;split at h
   ·rename_i hm
    have hm:=eq_of_beq hm;subst hm;split at h
    ·rename_i hc
     simp only[ax,aR]at hc;cases h;obtain⟨⟨⟨⟨c2,c3⟩,c4⟩,c5⟩,c6⟩:=hc;exact t_ O.toXO c6 (zk hl).1 c2 (K.e O.toXO h1) c3 c4 (by simpa using c5)
    ·cases h
   split at h
   ·rename_i hm
    have hm:=eq_of_beq hm;subst hm;split at h
    ·rename_i hc
     simp only[ax,aR]at hc;cases h;obtain⟨⟨⟨⟨c2,c3⟩,c4⟩,c5⟩,c6⟩:=hc;exact tU O.toXO c6 (zk hl).1 c2 (K.e O.toXO h1) c3 c4 (by simpa using c5)
    ·cases h
   split at h
   ·rename_i hc
    simp only[ax,aR,beq_iff_eq]at hc;cases h;obtain⟨⟨⟨⟨⟨rfl,c2⟩,c3⟩,c4⟩,c5⟩,c6⟩:=hc;exact rP O.toXO c6 (zk hl).1 c2 (K.e O.toXO h1) c3 c4 (by simpa using c5)
   ·cases h
  ·split at h
   ·cases h
   ·rename_i hc
    simp only[aw,au]at h;obtain⟨ie,h1,h⟩:=h;cases h;exact m7 (K.e O.toXO h1) (by simpa using hc)
 ·split at h
  ·-- return e
   rename_i e
   simp only[aw,au]at h;obtain⟨ie,h1,h⟩:=h;split at h
   ·rename_i hf
    split at h
    ·rename_i y p
     split at h
     ·rename_i ho
      simp only[aX]at h;obtain⟨i,hl,rfl⟩:=h;exact uX O.toXO hl ho
     ·cases h
    ·split at h
     ·rename_i hfr
      cases h;exact kf (K.e O.toXO h1) λ_=>hfr
     ·cases h;exact pY (K.e O.toXO h1)
   ·rename_i hf
    cases h;exact kf (K.e O.toXO h1) λz=>absurd z hf
  ·split at h
   ·cases h
   ·rename_i hf
    cases h;exact sv (by simpa using hf)
 ·simp only[aw,au]at h;obtain⟨it,h1,ia,h2,ib,h3,h⟩:=h;cases h;exact yF (K.t O.toXO h1) (ih.ss O h2) (ih.ss O h3)
 ·split at h
  ·cases h
  ·rename_i tg0 it0 b0 els0 pos0 hc
   have hc:(els0=[]/\c.calm=true)/\zz it0=true:=by simpa using hc
   obtain⟨⟨rfl,hc1⟩,hc2⟩:=hc;simp only[aw,au]at h;obtain⟨tg,h1,it,h2,h⟩:=h;split at h
   ·cases h
   ·rename_i ho
    have ho:eK it tg0=true:=by simpa using ho
    simp only[au]at h;obtain⟨ib,h3,h⟩:=h;cases h;exact vL O.toXO (O.calm hc1) (K.i O.toXO.nox h2 ho) (fJ O.toXO.nox h1) (hX h1) (ih.ss O.nox.froze h3) hc2
 ·cases h;exact Ac
 ·cases h;exact yn
 ·cases h;exact ug
 ·cases h
theorem lA:∀n,n<=100000->fM w g n
 | 0,_=>⟨λ_ _ _ _ h=>(by cases h),λ_ _ _ _ h=>by simp[cSs]at h⟩
 |n+1,h=>
  have ih:=lA n (Nat.le_of_succ_le h)
  ⟨λO _ _ _ q=>ih.s_succ (Nat.le_of_succ_le h) O q,λO _ _ _ q=>ih.ss_succ O q⟩
end
section
variable{w:W}{g:Gc}{c:Cc}{E:XK}{fr:Bool}{X:Cx}{H0:Hp}{B:Sh}{τ:Env}{σ:L2.St}{H H':Hp}{S:Sh}{n:Nat}
noncomputable def i5(g:Gc)(E:XK)(fr:Bool)(H0:Hp)(B:Sh)(D:Ends):O->Prop
 | .nx _=>∀σ' H',qa H0 H'->D.nx σ' H'
 | .rt d=>∀v H',qa H0 H'->Rep g (hid H' B) d v->(fr=true->zo d=true->Fr g H0 B H' d v)->D.rt v H'
 | .ex k=>∀H' C,qa H0 H'->g.clA k=some C->E (.ref C) none H'
 |_=>False
theorem i5.out{D:Ends}{o:O}(h:i5 g E fr H0 B D o):bg g c E fr H0 B H S D o:=by
 cases o with
 |nx t=>exact λσ' H' S' ss _=>h σ' H' ss.same
 |rt d=>exact h
 |ex k=>exact h
 |bk t=>exact h.elim
 |ct t=>exact h.elim
 |no=>exact h.elim
noncomputable def rh(w:W)(g:Gc)(c:Cc)(E:XK)(fr:Bool)(s:Ss):TS:=λD σ H=>∃H0 B τ S,SS g c H0 B τ σ H S/\i5 g E fr H0 B D (qi w s τ)
theorem vF(hn:n<=100000)(O:XS w g c E X){x:List Stmt}{ir:Ss}(h:gH n c fr x=some ir):PSs X x (rh w g c E fr ir):=
 PSs.imp ((lA n hn).ss O h) λD σ H ⟨H0,B,τ,S,ss,z⟩=>⟨H0,B,τ,S,ss,z.out⟩
end
noncomputable def GM0(p:Pr)(g:Gc)(mg:Str->Option ae)(x:Str):GK->Prop
 | .fn _=>∃f,g.fnA x=some f
 | .val=>∃u v d,mg x=some u/\RelV v u/\p.glb x=some d/\∀H,Rep g H d v
 | .bi b=>mg x=none/\x=b1N b/\∃id,b1V b=.builtin id
 | .rng=>mg x=none/\x = "range"
 | .enum=>mg x=none/\x = "enumerate"
 | .zip=>mg x=none/\x = "zip"
 | .isi=>mg x=none/\x = "isinstance"
 | .ty n b=>mg x=none/\bc x=some (.type n)/\(n∈["int","bool","str","list","tuple"]\/n = "ValueError")/\∀b',b=some b'->x=b1N b'/\b1V b'=.type n
 | .exc=>∃C,mg x=some (.ref C)/\g.clA x=some C/\kB g.K C
 | .exk=>∃C,mg x=some (.ref C)/\g.clA x=some C
 | .set=>mg x=none/\bc x=some (.type "set")
 | .rvd=>mg x=none/\x = "reversed"
structure Ground(p:Pr)(g:Gc)(G GH GU:List (Str×GK))(mg:Str->Option ae):Prop where
 fn:∀x f,g.fnA x=some f->∃st own fr fd fnn,p.fns x=some fnn/\cFn G GH own fr st=some fnn/\Fun g.K x x st f fd/\Binds g.K fd (argNames (zt st)) []/\bT g.K (.ref f)=true/\mg x=some (.ref f)/\G.lookup x=some (.fn fr)
 gl:∀x k,G.lookup x=some k->GM0 p g mg x k
 gu:∀x k,GU.lookup x=some k->(∀fr,k≠.fn fr)/\k≠.exc/\GM0 p g mg x k
 gh:∀x k,GH.lookup x=some k->GU.lookup x=some k
 sub:∀k cl b,p.sub k cl=some b->∃C cv,g.clA k=some C/\cB g.K C/\bh g.K (.ref C) cv=some b/\match cl with
  | .ty n=>n = "ValueError"/\cv=.type n
  | .ex x=>∃D,g.clA x=some D/\cv=.ref D
 cat:∀k x,p.cat k x=true->∀C D,g.clA k=some C->g.clA x=some D->PySem.W.exmOne g.K (.ref C) (.ref D)=some true
abbrev wAt(p:Pr)(k:Nat):W:=⟨qf p k,p.glb,p.sub,p.cat⟩
theorem nN{N ps:List Str}{sc:aI}(h:fX N ps sc=true):eX N ps sc:=by
 unfold fX at h;simp only[ax,beq_iff_eq,aR,decide_eq_true_eq,List.all_eq_true,a9,bne_iff_ne,ne_eq]at h;obtain⟨⟨⟨⟨⟨⟨h1,h2⟩,h3⟩,h4⟩,h5⟩,h6⟩,h7⟩:=h;exact⟨h1,h2,h3,h4,h5,h6,h7⟩
theorem tI{G GH:List (Str×GK)}{own:List Str}{fr:Bool}{st:Stmt}{fnn:Fn}(h:cFn G GH own fr st=some fnn):fX (eW (zt st) (zl st)) (argNames (zt st)) (zl st)=true/\(argNames (zt st)).any own.contains=false /\
  ∃b,gH iP ⟨(zl st).names,eW (zt st) (zl st),own,G,true,true,false,GH,[],false⟩ fr (cA st)=some b/\fnn=⟨(argNames (zt st)).length,(eW (zt st) (zl st)).length,fr,b⟩:=by
 unfold cFn at h;dsimp only at h;split at h
 ·cases h
 ·rename_i hc
  simp only[a9,aR,not_or,Bool.not_eq_false,Bool.not_eq_true]at hc;simp only[aw,au,bL]at h;obtain⟨b,h1,h2⟩:=h;exact⟨hc.1,hc.2,b,h1,h2.symm⟩
section
variable{P:aq}{w:aj}{K:ao}{mg:Str->Option ae}{base:Heap}{N:List Str}{qual:Str}{scope:aI}{f:Addr}{cd:ae}{A:ar}{outer:List PySem.Env}{s₀:af}{H₀:Hp}{E:XK}
end
theorem GM0.gm{p:Pr}{g:Gc}{mg:Str->Option ae}{x:Str}{k:GK}{P:aq}{wl:aj}{base:Heap}{A:ar}{calm:Bool}{n:Nat}(h:GM0 p g mg x k)(hf:∀fr,k≠.fn fr):GM (wAt p n) g P wl mg base A calm x k:=by
 cases k with
 |fn fr'=>exact absurd rfl (hf fr')
 |exc=>obtain⟨C,h1,h2,_⟩:=h;exact⟨C,h1,h2⟩
 |val=>exact h
 |bi b=>exact h
 |rng=>exact h
 |enum=>exact h
 |zip=>exact h
 |isi=>exact h
 |ty n b=>exact h
 |exk=>exact h
 |set=>exact h
 |rvd=>exact h
theorem r8{w:W}{g:Gc}{c:Cc}{E:XK}{X:Cx}{N ps own:List Str}{sc:aI}{fr:Bool}{body:List Stmt}{b:Ss}(hcN:c.N=N)(hco:c.own=own)(hcz:c.frz=false)(FS:eX N ps sc)(c2:ps.any own.contains=false)(c3:gH iP c fr body=some b)
  (O:XS w g c E X) {vs:List V}{ds:List D}{B:Sh}{H:Hp}{Q:VK} (hB:Sub B H) (rv:qU g (hid H B) ds vs) (hl:ds.length=ps.length)
  (h:tR g E H (match qi w b (ds.map some++bM (N.length-ps.length) none)with
   | .nx _=>if fr then .no else .ok .non
   | .rt d=>.ok d
   | .ex c=>.ex c
   |_=>.no) (λd=>∀v H',qa H H'->Rep g (hid H' B) d v->(fr=true->zo d=true->Fr g H B H' d v)->Q v H')) :
  ∃t,PSs X body t/\t {nx:=λ_ H'=>Q .non H',rt:=Q} (start N vs) H:=by
 have hNl:ps.length<=N.length:=by have:=congrArg List.length FS.pre;rw[List.length_take]at this;lia
 refine⟨_,vF (by decide) O c3,H,B,ds.map some++bM (N.length-ps.length) none,⟨λ_=>false,B.h,B.z,B.y⟩,?_,?_⟩
 ·-- at the start
  have hh:hid H ⟨λ_=>false,B.h,B.z,B.y⟩=hid H B:=rfl;have hvl:=rv.length;have par:∀i d,(ds.map some++bM (N.length-ps.length) none)[i]? = some (some d)->i<ps.length/\ds[i]? = some d:=λi d hi=>by
   by_cases hlt:i<ds.length
   ·rw[List.getElem?_append_left (by simpa using hlt),List.getElem?_map]at hi;refine⟨by lia,?_⟩;cases q:ds[i]? with
    |none=>rw[q]at hi;cases hi
    |some e=>rw[q]at hi;simpa using hi
   ·rw[List.getElem?_append_right (by simpa using hlt)]at hi;rw[List.getElem?_replicate]at hi;split at hi<;>cases hi
  have noOwn:∀i d,zg c i->(ds.map some++bM (N.length-ps.length) none)[i]? = some (some d)->False:=λi d ⟨y,h1,h2⟩ hi=>by
   obtain⟨hlt,_⟩:=par i d hi;rw[hcN]at h1;rw[hco]at h2;have:N.take ps.length=ps:=FS.pre;have hy:ps[i]? = some y:=by
    rw[<-this,List.getElem?_take,if_pos hlt];exact h1
   have:=List.any_eq_false.mp c2 y (List.mem_of_getElem? hy);exact this h2
  refine⟨⟨by simp[L2.start];lia,λi d hi=>?_,λa ha=>?_⟩,by simp[hcN];lia,qa.refl _,hB,(λa=>by simp),(λa ha=>by cases ha),(λi d ho hi=>(noOwn i d ho hi).elim),λi j d e a ho _ hi _ _ _=>(noOwn i d ho hi).elim,λz=>by rw[hcz]at z;cases z⟩
  ·obtain⟨hlt,hd⟩:=par i d hi;obtain⟨v,h1,h2⟩:=rv.get hd;have hlt':i<vs.length:=by lia
   refine⟨v,?_,.inl h2,λ_ _ _=>h2⟩;unfold L2.start;rw[List.getElem?_append_left (by simpa using hlt'),List.getElem?_map,h1]
   rfl
  ·refine hB a ?_;rcases ha with ha|ha
   ·exact .inl ha
   ·cases ha
 ·-- at the end
  cases q:qi w b (ds.map some++bM (N.length-ps.length) none)with
  |nx τ'=>
   rw[q]at h;simp only at h;cases fr with
   |true=>exact h.elim
   |false=>exact λσ' H' hs=>h .non H' hs .non (by intro z;cases z)
  |rt d=>rw[q]at h;exact h
  |ex z=>rw[q]at h;exact h
  |bk z=>rw[q]at h;exact h.elim
  |ct z=>rw[q]at h;exact h.elim
  |no=>rw[q]at h;exact h.elim
section
variable{p:Pr}{g:Gc}{G GH GU:List (Str×GK)}{mg:Str->Option ae}{P:aq}{wl:aj}{base:Heap}
theorem Ground.ok(T:Ground p g G GH GU mg):∀(k:Nat) (x:Str) (f:Addr) (st:Stmt) (own:List Str) (fr:Bool) (fd:FuncData) (fnn:Fn),p.fns x=some fnn->cFn G GH own fr st=some fnn->Fun g.K x x st f fd ->
  du P wl g.K mg base (CX1 P wl) k f fd (argNames (zt st)) (spF (wAt p k) g x fr)
 | 0,x,f,st,own,fr,fd,fnn,_,_,_=>⟨λvs H Q E ⟨S,ds,_,_,h⟩=>h.elim,λA outer s H args us vs Q E _ _ _ _ ⟨S,ds,_,_,h⟩=>h.elim⟩
 |k+1,x,f,st,own,fr,fd,fnn,hf,hc,F=>by
  obtain⟨c1,c2,b,c3,rfl⟩:=tI hc;have FS:=nN c1;generalize hN:eW (zt st) (zl st)=N at *;generalize hps:argNames (zt st)=ps at *;have call:∀ds,qf p (k+1) x ds=ck (wAt p k) ⟨ps.length,N.length,fr,b⟩ ds:=λds=>by simp only[qf,hf]
  have lenOf:∀vs H Q E,spF (wAt p (k+1)) g x fr vs H Q E->vs.length=ps.length:=λvs H Q E ⟨S,ds,_,r,h⟩=>by
   have h:tR g E H (qf p (k+1) x ds) _:=h;rw[call]at h;unfold ck at h;by_cases hl:ds.length=ps.length
   ·rw[<-r.length];exact hl
   ·rw[if_neg hl]at h;exact h.elim
  refine F.ok1 FS lenOf λcdv A outer s H vs Q E hr hsp=>?_
  obtain⟨B,ds,hB,rv,h⟩:=hsp;have h:tR g E H (qf p (k+1) x ds) (λd=>∀v H',qa H H'->Rep g (hid H' B) d v->(fr=true->zo d=true->Fr g H B H' d v)->Q v H'):=h;rw[call]at h;unfold ck at h;by_cases hl:ds.length=ps.length
  ·rw[if_pos hl]at h
   -- the ground of the body
   have calls:∀y fy,g.fnA y=some fy->∃fry,G.lookup y=some (.fn fry)/\fT (wAt p k) g P wl mg base (A.deeper (envOfC x (zl st) s.heap.objs.size f cdv)) true y fy fry:=λy fy hy=>by
    obtain⟨sty,owny,fry,fdy,fny,z1,z2,z3,z4,z5,z6,z7⟩:=T.fn y fy hy;exact⟨fry,z7,z6,z5,k,fdy,_,z4,.inl ⟨rfl,Ground.ok T k y fy sty owny fry fdy fny z1 z2 z3,hr⟩⟩
   have O:XS (wAt p k) g ⟨(zl st).names,N,own,G,true,true,false,GH,[],false⟩ E (cX (CX1 P wl) P wl g.K mg base N x (zl st) f cdv A outer s H E):=by
    refine⟨⟨rfl,rfl,rfl,FS.nd,λ_=>rfl,hr.units,λ_ _=>rfl,FS.kind,sU,λy ky hy=>?_,λ_ y fy hy=>?_,T.sub⟩,(λz=>by cases z),λy C hy hC=>?_,T.cat,⟨rfl,rfl,rfl⟩,λy ky hy=>?_⟩
    ·have:=T.gl y ky hy;by_cases hf:∃fr,ky=.fn fr
     ·obtain⟨fr',rfl⟩:=hf;obtain⟨fy,h1⟩:=this;obtain⟨fry,h2,h3⟩:=calls y fy h1;have hy:G.lookup y=some (.fn fr'):=hy;rw[hy]at h2;cases h2;exact⟨fy,h1,h3⟩
     ·exact this.gm λfr z=>hf ⟨fr,z⟩
    ·obtain⟨fry,_,h3⟩:=calls y fy hy;exact⟨fry,h3⟩
    ·obtain⟨C',_,h2,h3⟩:=T.gl y .exc hy;rw[h2]at hC;cases hC;exact h3
    ·obtain⟨u1,u2,u3⟩:=T.gu y ky (T.gh y ky hy);exact⟨u2,λv=>u3.gm u1⟩
   exact r8 rfl rfl rfl FS c2 c3 O hB rv hl h
  ·rw[if_neg hl]at h;exact h.elim
end
end EV
namespace WB
open PySem PySem.Spec PyProof.Rows L2
structure Dd(K:ao)(n:Str)(st:Stmt)(f:Addr):Prop where
 a:aC K ay n=some (some (.ref f))
 l:∃oc od an sl kV dc pm cd ct,K.lookup f=some ⟨oc,od,.func (bO n n (zt st) (cA st) (zl st) .none kV dc pm an cd ct),sl⟩/\PySem.W.codeIn K cd n=true
 k:bT K (.ref f)=true
theorem bP{K:ao}{n:Str}{st:Stmt}{f:Addr}{od an:Option Addr}{sl:Array (Option ae)}{oc kV dc pm cd ct:ae}(a:aC K ay n=some (some (.ref f)))
  (l:K.lookup f=some ⟨oc,od,.func (bO n n (zt st) (cA st) (zl st) .none kV dc pm an cd ct),sl⟩) (c:PySem.W.codeIn K cd n=true) (k:bT K (.ref f)=true):Dd K n st f:=
 ⟨a,⟨oc,od,an,sl,kV,dc,pm,cd,ct,l,c⟩,k⟩
theorem Dd.fn{K:ao}{n:Str}{st:Stmt}{f:Addr}(d:Dd K n st f):∃fd,Fun K n n st f fd:=by
 obtain⟨oc,od,an,sl,kV,dc,pm,cd,ct,l,c⟩:=d.l;exact⟨_,lj (st:=st) l c d.k⟩
theorem lN{us:List ae}(h:us.length=1):∃a,us=[a]:=List.length_eq_one_iff.mp h
theorem mz{n:Nat}{us:List ae}(h:us.length=n+1):∃a r,us=a::r/\r.length=n:=by
 cases us with
 |nil=>cases h
 |cons a r=>exact⟨a,r,rfl,Nat.succ.inj h⟩
theorem my{us:List ae}(h:us.length=2):∃a b,us=[a,b]:=by
 obtain⟨a,r,e,h⟩:=mz h;obtain⟨b,q⟩:=lN h;subst q;exact⟨a,b,e⟩
theorem uq{us:List ae}(h:us.length=3):∃a b c,us=[a,b,c]:=by
 obtain⟨a,r,e,h⟩:=mz h;obtain⟨b,c,q⟩:=my h;subst q;exact⟨a,b,c,e⟩
structure Dk(K:ao)(n:Str)(D:Addr):Prop where
 a:aC K ay n=some (some (.ref D))
 c:∃x,PySem.W.clsIn K D=some x
 t:PySem.W.typeIn K (.ref D)=some (.type "type")
end WB
namespace EV
open PySem PySem.Spec PySem.P PyProof.Rows L2
structure Ent where
 x:Str
 st:Stmt
 own:List Str
 fr:Bool
 fn:Fn
noncomputable def prT(tab:List Ent)(vals:List (Str×D))(bW:List (Str×Str))(subs:List ((Str×Cl)×Bool):=[]):Pr:=⟨λx=>(tab.find? (·.x==x)).map (·.fn),λx=>vals.lookup x,λk c=>subs.lookup (k,c),λk x=>bW.contains (k,x)⟩
noncomputable def unx:GK->GK
 | .exc=>.exk
 |k=>k
noncomputable def cV(oth:List (Str×GK)):List (Str×GK):=oth.map λy=>(y.1,unx y.2)
noncomputable def eh(us:List Ent)(oth:List (Str×GK)):List (Str×GK):=us.map (λe=>(e.x,GK.fn e.fr))++cV oth
theorem jG{x:Str}{k:GK}:∀{oth:List (Str×GK)},(cV oth).lookup x=some k->∃k0,oth.lookup x=some k0/\k=unx k0
 | [],h=>by cases h
 | (y,k1)::r,h=>by
  have h:List.lookup x ((y,unx k1)::cV r)=some k:=h;rw[aW]at h;split at h
  ·rename_i q;cases h;exact⟨k1,by rw[aW,q],rfl⟩
  ·rename_i q
   obtain⟨k0,h1,h2⟩:=jG h;exact⟨k0,by rw[aW,q];exact h1,h2⟩
theorem kr{x:Str}{k:GK}{oth:List (Str×GK)}:∀{us:List Ent},(eh us oth).lookup x=some k->(∃e∈us,e.x=x/\k=.fn e.fr)\/(cV oth).lookup x=some k
 | [],h=>.inr h
 |a::r,h=>by
  have h:List.lookup x ((a.x,GK.fn a.fr)::eh r oth)=some k:=h;rw[aW]at h;split at h
  ·rename_i q;cases h;exact .inl ⟨a,aP,(eq_of_beq q).symm,rfl⟩
  ·rcases kr h with ⟨e,h1,h2⟩|h1
   ·exact .inl ⟨e,aO _ h1,h2⟩
   ·exact .inr h1
noncomputable def cM(K:ao)(ns:List Str)(x:Str):Option Addr:=if ns.contains x then (match aC K ay x with
 |some (some (.ref f))=>some f
 |_=>none)else none
noncomputable def gOf(K:ao)(fns cls:List Str):Gc:=⟨K,cM K fns,cM K cls⟩
theorem eP{K:ao}{ns:List Str}{x:Str}{f:Addr}(h:aC K ay x=some (some (.ref f)))(hx:ns.contains x=true):cM K ns x=some f:=by
 unfold cM;rw[if_pos hx,h]
theorem jg{K:ao}{ns:List Str}{x:Str}{f:Addr}(h:cM K ns x=some f):ns.contains x=true/\aC K ay x=some (some (.ref f)):=by
 unfold cM at h;split at h
 ·rename_i hx
  split at h
  ·rename_i q;cases h;exact⟨hx,q⟩
  ·cases h
 ·cases h
noncomputable def Bnd(e:Ent):Prop:=∀(kV doc pm:ae) (an:Option Addr) (cdv ct:ae) (us:List ae),us.length=(argNames (zt e.st)).length->bindArgs (bO e.x e.x (zt e.st) (cA e.st) (zl e.st) .none kV doc pm an cdv ct) ⟨us,[]⟩=pure ((argNames (zt e.st)).zip us)
structure eR(K:ao)(G:List (Str×GK))(e:Ent):Prop where
 dd:∃f,WB.Dd K e.x e.st f
 bnd:Bnd e
noncomputable def lH(K:ao)(vals:List (Str×D))(x:Str):GK->Prop
 | .fn _=>True
 | .val=>∃u v d,aC K ay x=some (some u)/\RelV v u/\vals.lookup x=some d/\∀g H,g.K=K->Rep g H d v
 | .bi b=>aC K ay x=some none/\x=b1N b/\∃id,b1V b=.builtin id
 | .rng=>aC K ay x=some none/\x = "range"
 | .enum=>aC K ay x=some none/\x = "enumerate"
 | .zip=>aC K ay x=some none/\x = "zip"
 | .isi=>aC K ay x=some none/\x = "isinstance"
 | .ty n b=>aC K ay x=some none/\bc x=some (.type n)/\(n∈["int","bool","str","list","tuple"]\/n = "ValueError")/\∀b',b=some b'->x=b1N b'/\b1V b'=.type n
 | .exc=>∃C,aC K ay x=some (some (.ref C))/\PySem.W.excIn K C gq "ValueError.__new__" = true
 | .exk=>∃C,aC K ay x=some (some (.ref C))
 | .set=>aC K ay x=some none/\bc x=some (.type "set")
 | .rvd=>aC K ay x=some none/\x = "reversed"
noncomputable def jJ(K:ao)(cls:List Str)(y:(Str×Cl)×Bool):Prop:=∃C cv,cls.contains y.1.1=true/\aC K ay y.1.1=some (some (.ref C))/\cB K C/\bh K (.ref C) cv=some y.2/\match y.1.2 with
 | .ty n=>n = "ValueError"/\cv=.type n
 | .ex x=>∃D,cls.contains x=true/\aC K ay x=some (some (.ref D))/\cv=.ref D
theorem kK{α β:Type} [BEq α] [LawfulBEq α]{a:α}{b:β}:∀{l:List (α×β)},l.lookup a=some b->(a,b)∈l
 | (c,d)::r,h=>by
  rw[aW]at h;split at h
  ·rename_i q;cases h;rw[eq_of_beq q];exact aP
  ·exact aO _ (kK h)
theorem kE{tab:List Ent}{e:Ent}(hn:(tab.map (·.x)).Nodup)(he:e∈tab):tab.find? (·.x==e.x)=some e:=by
 induction tab with
 |nil=>simp at he
 |cons a r ih=>
  simp only[aK,List.nodup_cons]at hn;rw[List.find?_cons];rcases aL.mp he with rfl|h
  ·simp
  ·have:(a.x==e.x)=false:=by
    cases q:a.x==e.x with
    |false=>rfl
    |true=>
     have:=eq_of_beq q;exact absurd (this▸bN.mpr ⟨e,h,rfl⟩) hn.1
   rw[this];exact ih hn.2 h
theorem yh{K:ao}{h:Heap}{mg:Str->Option ae}(X:K.In h)(N:h.Ns ay mg){tab:List Ent}{oth G:List (Str×GK)}{vals:List (Str×D)}(hG:G=tab.map (λe=>(e.x,GK.fn e.fr))++oth)
  (hnd:(tab.map (·.x)).Nodup) (ho:∀x k,oth.lookup x=some k->lH K vals x k) (hof:∀x fr,oth.lookup x≠some (.fn fr)) {us:List Ent} (hus:∀e∈us,e∈tab) (hcu:∀e∈us,j1 (cV oth) e.own e.fr e.st=some e.fn) (hc:∀e∈tab,cFn G (eh us oth) e.own e.fr e.st=some e.fn) (he:∀e∈tab,eR K G e) (cls:List Str) {bW:List (Str×Str)} (hcat:∀y∈bW,∃C D,aC K ay y.1=some (some (.ref C))/\aC K ay y.2=some (some (.ref D))/\PySem.W.exmOne K (.ref C) (.ref D)=some true) (hcl:∀x,(oth.lookup x=some .exc\/oth.lookup x=some .exk)->cls.contains x=true)
  {subs:List ((Str×Cl)×Bool)} (hsub:∀y∈subs,jJ K cls y) :
  Ground (prT tab vals bW subs) (gOf K (tab.map (·.x)) cls) G (eh us oth) (cV oth) mg:=by
 have lk:∀x k,G.lookup x=some k->(∃e∈tab,e.x=x/\k=.fn e.fr)\/oth.lookup x=some k:=by
  subst hG;clear hnd hc he hus
  induction tab with
  |nil=>intro x k hx;exact .inr hx
  |cons a r ih=>
   intro x k hx;simp only[aK,List.cons_append,aW]at hx;split at hx
   ·rename_i q;cases hx;exact .inl ⟨a,aP,(eq_of_beq q).symm,rfl⟩
   ·rcases ih x k hx with ⟨e,h1,h2⟩|h1
    ·exact .inl ⟨e,aO _ h1,h2⟩
    ·exact .inr h1
 have lkE:∀e∈tab,G.lookup e.x=some (.fn e.fr):=by
  subst hG;clear hc he lk hus
  induction tab with
  |nil=>intro e h;simp at h
  |cons a r ih=>
   intro e hm;simp only[aK,List.nodup_cons]at hnd;simp only[aK,List.cons_append,aW];rcases aL.mp hm with rfl|hm
   ·rw[beq_self_eq_true]
   ·have:(e.x==a.x)=false:=by
     cases q:e.x==a.x with
     |false=>rfl
     |true=>exact absurd ((eq_of_beq q)▸bN.mpr ⟨e,hm,rfl⟩) hnd.1
    rw[this];exact ih hnd.2 e hm
 have hca:∀k x,bW.contains (k,x)=true->∀C D,cM K cls k=some C->cM K cls x=some D->PySem.W.exmOne K (.ref C) (.ref D)=some true:=λk x z C D h1 h2=>by
  obtain⟨C',D',e1,e2,e3⟩:=hcat (k,x) (by simpa using z);have a1:=(jg h1).2;have a2:=(jg h2).2;rw[e1]at a1;rw[e2]at a2;cases a1;cases a2;exact e3
 have fnd:∀e∈tab,∃f fd,cM K (tab.map (·.x)) e.x=some f/\Fun K e.x e.x e.st f fd/\Binds K fd (argNames (zt e.st)) []/\bT K (.ref f)=true/\mg e.x=some (.ref f):=λe hm=>by
  obtain⟨⟨f',d⟩,hb⟩:=he e hm;obtain⟨fd,F⟩:=d.fn;exact⟨f',fd,eP d.a (by simpa using bN.mpr ⟨e,hm,rfl⟩),F,F.binds hb,d.k,PySem.W.mg_of X N d.a⟩
 have fne:∀e∈tab,(prT tab vals bW subs).fns e.x=some e.fn:=λe hm=>by show (tab.find? (·.x==e.x)).map (·.fn)=_;rw[kE hnd hm];rfl
 have gl:∀x k,oth.lookup x=some k->GM0 (prT tab vals bW subs) (gOf K (tab.map (·.x)) cls) mg x k:=λx k hk=>by
  have:=ho x k hk;cases k with
  |fn fr=>exact absurd hk (hof x fr)
  |val=>obtain⟨u,v,d,h1,h2,h3,h4⟩:=this;exact⟨u,v,d,PySem.W.mg_of X N h1,h2,h3,λH=>h4 _ H rfl⟩
  |bi b=>exact⟨b3 X N this.1,this.2⟩
  |rng=>exact⟨b3 X N this.1,this.2⟩
  |enum=>exact⟨b3 X N this.1,this.2⟩
  |zip=>exact⟨b3 X N this.1,this.2⟩
  |isi=>exact⟨b3 X N this.1,this.2⟩
  |ty n b=>exact⟨b3 X N this.1,this.2⟩
  |exc=>obtain⟨C,h1,h2⟩:=this;exact⟨C,PySem.W.mg_of X N h1,eP h1 (hcl x (.inl hk)),h2⟩
  |exk=>obtain⟨C,h1⟩:=this;exact⟨C,PySem.W.mg_of X N h1,eP h1 (hcl x (.inr hk))⟩
  |set=>exact⟨b3 X N this.1,this.2⟩
  |rvd=>exact⟨b3 X N this.1,this.2⟩
 refine⟨λx f hf=>?_,λx k hx=>?_,λx k hx=>?_,λx k hx=>?_,λk cl b z=>?_,hca⟩
 ·obtain⟨h1,h2⟩:=jg hf;obtain⟨e,hm,rfl⟩:=bN.mp (by simpa using h1:x∈tab.map (·.x));obtain⟨f',fd,z1,z2,z3,z4,z5⟩:=fnd e hm;have hf:cM K (tab.map (·.x)) e.x=some f:=hf;rw[hf]at z1;cases z1;exact⟨e.st,e.own,e.fr,fd,e.fn,fne e hm,hc e hm,z2,z3,z4,z5,lkE e hm⟩
 ·rcases lk x k hx with ⟨e,hm,rfl,rfl⟩|hk
  ·obtain⟨f',fd,z1,_⟩:=fnd e hm;exact⟨f',z1⟩
  ·exact gl x k hk
 ·obtain⟨k0,h1,rfl⟩:=jG hx;have:=gl x k0 h1;cases k0 with
  |fn fr=>exact absurd h1 (hof x fr)
  |exc=>obtain⟨C,z1,z2,_⟩:=this;exact⟨by simp[unx],by simp[unx],⟨C,z1,z2⟩⟩
  |_=>exact⟨by simp[unx],by simp[unx],this⟩
 ·rcases kr hx with ⟨e,hm,rfl,rfl⟩|hk
  ·have:=hcu e hm;cases this
  ·exact hk
 ·have z:subs.lookup (k,cl)=some b:=z;obtain⟨C,cv,h0,h1,h2,h3,h4⟩:=hsub _ (kK z);refine⟨C,cv,eP h1 h0,h2,h3,?_⟩;cases cl with
  |ty n=>exact h4
  |ex x=>obtain⟨D,d0,d1,d2⟩:=h4;exact⟨D,eP d1 d0,d2⟩
theorem xU{l:PySem.W.OpenLaw}{q:aq}{loose:List Str}{XP:(Str->Option ae)->Heap->Prop}{YP:aj->Heap->Prop}{d:DefRec}{K:Params->ao}{tab:List Ent}{G:List (Str×GK)}{vals:List (Str×D)}{cls:List Str}{bW:List (Str×Str)}{subs:List ((Str×Cl)×Bool)}{GH GU:List (Str×GK)}{e:Ent}{k:Nat}
  (hn:l.most=some 63) (hdf:d.params.defaults=[]) (hd:d.name=e.x) (hr:bQ k callerA) (hY:∀(w:aj) (h:Heap),YP w h->(K w.params).In h) (hm:e∈tab) (hnd:(tab.map (·.x)).Nodup) (hx:e.x = "law") (hfr:e.fr=false) (hp:argNames (zt e.st)=[("_law_script" : Str)])
  (hG:∀(w:aj) (mg:Str->Option ae) (h:Heap),(K w.params).In h->h.Ns ay mg->Ground (prT tab vals bW subs) (gOf (K w.params) (tab.map (·.x)) cls) G GH GU mg/\eR (K w.params) G e) (hc:cFn G GH e.own e.fr e.st=some e.fn)
  (hlaw:∀ns:List Int,ns.length<=63->qf (prT tab vals bW subs) k "law" [.lst (ns.map D.int)]=.ok (.bl true)) :
  PySem.W.WalkO q loose XP YP l.row.toRowW d [] (λf vs=>PySem.call f vs):=by
 refine L2.xw (n:=63) (k:=k) (x:="_law_script") (CX:=λw=>CX1 l.prog w) (sp:=λw=>spF (wAt (prT tab vals bW subs) k) (gOf (K w.params) (tab.map (·.x)) cls) "law" false) hn (by decide) hdf hr hY (λw mg fa h KX N hfa=>?_) (λw H a ns hl _ hS=>?_) λw H s e s' z=>?_
 ·obtain⟨T,⟨f,dd⟩,hb⟩:=hG w mg h KX N;have e1:=hfa.symm.trans (hd▸PySem.W.mg_of KX N dd.a);cases e1;obtain⟨oc,od,an,sl,kV,dc,pm,cd,ct,lk,hcd⟩:=dd.l;refine⟨bO e.x e.x (zt e.st) (cA e.st) (zl e.st) .none kV dc pm an cd ct,λs u=>.of_eq ?_,λbase _ _=>?_⟩
  ·have:=hb kV dc pm an cd ct [u] (by rw[hp];rfl);rw[hp]at this;exact this
  ·have:=T.ok (P:=l.prog) (wl:=w) (base:=base) k e.x fa e.st e.own e.fr _ e.fn (by show (tab.find? (·.x==e.x)).map (·.fn)=_;rw[kE hnd hm];rfl) hc (lj (st:=e.st) lk hcd dd.k);rw[hp,hx,hfr]at this;rw[hx];exact this
 ·refine⟨⟨λ_=>false,λ_=>false,[],λ_=>none⟩,[.lst (ns.map D.int)],(λa z=>by rcases z with z|z<;>cases z),.cons (.lst (xs:=ns.map V.int) ?_ (qU.ofInts _)) .nil,?_⟩
  ·have:hid H ⟨λ_=>false,λ_=>false,[],λ_=>none⟩=H:=by funext b;unfold hid;rw[if_neg (by simp)]
   rw[this];exact hS
  ·show tR _ _ _ (qf (prT tab vals bW subs) k "law" [.lst (ns.map D.int)]) _;rw[hlaw ns hl];intro v H' _ r _;cases r;rfl
 ·obtain⟨_,_,_,_,_,_,_,_,_,z⟩:=z;exact z
end EV
namespace KG
open EV
open PySem (Str)
open L2 (atI ixN ltP)
abbrev prD:Int×Int->D:=EV.pairD
theorem zC{w:W}{f:Fn}{ds:List D}{d:D}{τ:Env}(hl:ds.length=f.ps)(hτ:ds.map some++bM (f.N-f.ps) none=τ)(h:qi w f.body τ=.rt d):ck w f ds=.ok d:=by
 rw[ck,if_pos hl,hτ,h]
theorem b8{w:W}{s:S}{r:Ss}{τ σ:Env}{o:O}(h:evS w s τ=.nx σ)(h':qi w r σ=o):qi w (.cons s r) τ=o:=by rw[qi,h];exact h'
theorem fL{w:W}{tg:Tg}{it:It}{b r:Ss}{τ:Env}{o:O}{ds:List D}(I:List D->Env->Prop)(h:evI w it τ=.ok ds)(h0:I ds τ)
  (hs:∀x t σ,I (x::t) σ->∃σ1 σ2,store tg x σ=.ok σ1/\qi w b σ1=.nx σ2/\I t σ2) (hn:∀σ,I [] σ->qi w r σ=o):qi w (.cons (.for tg it b) r) τ=o:=by
 have key:∀(l:List D) (σ:Env),I l σ->∃σ',bA tg (λσ=>qi w b σ) l σ=.nx σ'/\I [] σ':=by
  intro l
  induction l with
  |nil=>intro σ q;exact⟨σ,rfl,q⟩
  |cons x t ih=>
   intro σ q;obtain⟨σ1,σ2,a,b',c⟩:=hs x t σ q;obtain⟨σ',d,e⟩:=ih σ2 c;exact⟨σ',by rw[bA,a];simp only[R.out_ok];rw[b'];exact d,e⟩
 obtain⟨σ',a,b'⟩:=key ds τ h0;rw[qi,zK,h];simp only[R.out_ok];rw[a];exact hn σ' b'
theorem gE{w:W}{it:It}{cap:List (Option Nat)}{t:T}{elt:E}{τ c:Env}{ds:List D}{g:D->List D}(h:evI w it τ=.ok ds)(hz:ds.length<=SZ)(hc:cU cap τ=none::none::c)
  (hb:∀x∈ds,((evT w t (none::some x::c)).bind λr=>if r then (evE w elt (none::some x::c)).bind λd=>.ok [d]else .ok [])=.ok (g x)):evE w (.comp it cap (.nm 1) t elt) τ=.ok (.lst (ds.flatMap g)):=by
 have key:∀(l:List D) (v:Option D) (acc:List D),(∀x∈l,x∈ds)->bR (λx σ=>noEx ((store (.nm 1) x σ).bind λσ'=>(evT w t σ').bind λr=>if r then (evE w elt σ').bind λd=>.ok (σ',[d])else .ok (σ',[]))) l (none::v::c) acc=.ok (acc++l.flatMap g):=by
  intro l
  induction l with
  |nil=>intro v acc _;simp[bR]
  |cons x r ih=>
   intro v acc hm;have q:=hb x (hm x aP);rw[bR];have e:noEx ((store (.nm 1) x (none::v::c)).bind λσ'=>(evT w t σ').bind λr=>if r then (evE w elt σ').bind λd=>.ok (σ',[d])else .ok (σ',[]))=.ok (none::some x::c,g x):=by
    simp only[store,R.bind_ok,List.set_cons_succ,List.set_cons_zero];cases ht:evT w t (none::some x::c)with
    |ok b=>
     rw[ht]at q;simp only[R.bind_ok]at q ⊢;cases b
     ·simp at q ⊢;rw[<-q];rfl
     ·simp only[if_true]at q ⊢;cases he:evE w elt (none::some x::c)with
      |ok d=>rw[he]at q;simp only[R.bind_ok,R.ok.injEq]at q ⊢;rw[<-q];rfl
      |ex=>rw[he]at q;cases q
      |no=>rw[he]at q;cases q
    |ex=>rw[ht]at q;cases q
    |no=>rw[ht]at q;cases q
   rw[e];simp only[R.bind_ok];rw[ih (some x) _ λy hy=>hm y (aO _ hy),List.flatMap_cons,List.append_assoc]
 rw[qk,h];simp only[R.bind_ok];rw[if_neg (by lia),hc,key ds none [] λ_ h=>h]
 rfl
theorem xI{w:W}{i:Int}:b5 w (.int i) (.ty "int")=.ok (.bl true):=rfl
theorem xg{w:W}{i:Int}:b5 w (.int i) (.ty "bool")=.ok (.bl false):=rfl
theorem vO{w:W}{i:List D}:b5 w (.tup i) (.ty "tuple")=.ok (.bl true):=rfl
theorem p6{w:W}{i:List D}:b5 w (.tup i) (.ty "bool")=.ok (.bl false)/\b5 w (.tup i) (.ty "int")=.ok (.bl false)/\b5 w (.tup i) (.ty "str")=.ok (.bl false)/\b5 w (.tup i) (.ty "list")=.ok (.bl false):=⟨rfl,rfl,rfl,rfl⟩
theorem yw{w:W}{i:Bool}:b5 w (.bl i) (.ty "bool")=.ok (.bl true):=rfl
theorem y0(t:Int×Int):(prD t).asks=true:=rfl
noncomputable def mn(a b:Int):Int:=if b<a then b else a
noncomputable def mx(a b:Int):Int:=if a<b then b else a
noncomputable def eT(ts:List (Int×Int))(a b:Int):Bool:=ts.any λt=>t.1==mn a b&&t.2==mx a b
theorem vm(ts:List (Int×Int))(u v:Int):zh .isin (.tup [.int u,.int v]) (.tup (ts.map prD))=.ok (ts.any λt=>t.1==u&&t.2==v):=by
 rw[zh];simp only[seq?];rw[if_pos (by simp only[ax,List.all_eq_true,bN];exact⟨rfl,λx ⟨t,_,e⟩=>e▸y0 t⟩),inD,List.any_map]
 congr 2;funext t;show ((t.1==u)&&((t.2==v)&&true))=_;rw[Bool.and_true]
structure GW(m:Int)(ts:List (Int×Int)):Prop where
 lo:1<=m
 hi:m<=8
 lt:ts.Pairwise λs t=>ltP s t=true
 ok:∀t∈ts,0<=t.1/\t.1<t.2/\t.2<m
 len:ts.length<=28
structure GS(m:Int)(s:List Int):Prop where
 lt:s.Pairwise (· < ·)
 ok:∀i∈s,0<=i/\i<m
 len:s.length<=8
abbrev wb(m:Int)(ts:List (Int×Int)):D:=.tup [.int m,.tup (ts.map prD)]
abbrev tu(s:List Int):D:=.tup (s.map D.int)
theorem h_{xs:List D}{i:Nat}(h:i<xs.length):atI xs (i:Int)=some xs[i]:=by
 rw[atI,ixN,if_pos (by lia),if_pos (by lia)];simp[h]
theorem all_true(xs:List D):bools? (xs.flatMap λ_=>[.bl true])=some (bM xs.length true):=by
 induction xs with
 |nil=>rfl
 |cons x r ih=>show (bools? (r.flatMap λ_=>[.bl true])).map (true :: ·)=_;rw[ih];rfl
theorem vg(n:Nat):(bM n true).all id=true:=by simp
theorem pF{s t:Int×Int}(h:ltP s t=true):zh .lt (prD s) (prD t)=.ok true:=by
 show R.ok (dh [s.1,s.2] [t.1,t.2])=_;rw[ltP]at h;simp only[dh];by_cases e:s.1=t.1
 ·rw[if_pos e]at h ⊢;by_cases e2:s.2=t.2
  ·rw[e2]at h;simp at h
  ·rw[if_neg e2,h]
 ·rw[if_neg e]at h ⊢;rw[h]
noncomputable def rng(m:Int):List Int:=(List.range m.toNat).map λ(i:Nat)=>(i:Int)
theorem fb(m:Int):b6 0 m.toNat=(rng m).map D.int:=by
 rw[b6,rng,List.map_map];simp
theorem yd(c:Int->Bool)(ns:List Int):(ns.map D.int).flatMap (λx=>match x with | .int i=>if c i then [D.int i]else []|_=>[])=(ns.filter c).map D.int:=by
 induction ns with
 |nil=>rfl
 |cons a r ih=>
  rw[aK,List.flatMap_cons,ih,List.filter_cons];show (if c a=true then [D.int a]else [])++_=_;cases c a<;>rfl
theorem mX(x y:Int)(h:0<y)(h':y<=2^64):small (x%y)=true:=by
 have a:=Int.emod_nonneg x (show y≠0 by lia);have b:=Int.emod_lt_of_pos x h;simp only[small,ax,decide_eq_true_eq];lia
noncomputable def st(c j:Int):Int:=
 ((((c%2147483647+977 * j+1) * 48271%2147483647) * ((c%2147483647+977 * j+1) * 48271%2147483647)%2147483629+40692 * (j+3)) * 69621%2147483647)/8
theorem GW.sub{m:Int}{ts ps:List (Int×Int)}(h:GW m ps)(s:ts.Sublist ps):GW m ts:=
 ⟨h.lo,h.hi,h.lt.sublist s,λt ht=>h.ok t (s.subset ht),a5 s.length_le h.len⟩
theorem lt_int(a b:Int):zh .lt (.int a) (.int b)=.ok (decide (a<b)):=rfl
theorem ints_map(ns:List Int):ints? (ns.map D.int)=some ns:=by
 induction ns with
 |nil=>rfl
 |cons a r ih=>show (ints? (r.map D.int)).map (a :: ·)=_;rw[ih];rfl
noncomputable instance (m:Int) (ts:List (Int×Int)):Decidable (GW m ts):=
 decidable_of_iff (1<=m/\m<=8/\ts.Pairwise (λs t=>ltP s t=true)/\(∀t∈ts,0<=t.1/\t.1<t.2/\t.2<m)/\ts.length<=28) ⟨λ⟨a,b,c,d,e⟩=>⟨a,b,c,d,e⟩,λ⟨a,b,c,d,e⟩=>⟨a,b,c,d,e⟩⟩
noncomputable def Ends(J:Env->Prop)(Q:D->Prop):O->Prop
 | .nx σ=>J σ
 | .rt d=>Q d
 |_=>False
section
variable{w:W}{J K:Env->Prop}{Q:D->Prop}{s:S}{r:Ss}{τ σ:Env}
theorem jA(h:J τ):Ends J Q (qi w .nil τ):=by rw[qi];exact h
theorem iH(h:evS w s τ=.nx σ)(h':Ends J Q (qi w r σ)):Ends J Q (qi w (.cons s r) τ):=by rw[qi,h];exact h'
theorem ur(h:Ends K Q (evS w s τ))(h':∀σ,K σ->Ends J Q (qi w r σ)):Ends J Q (qi w (.cons s r) τ):=by
 rw[qi];cases q:evS w s τ with
 |nx σ=>rw[q]at h;exact h' σ h
 |rt d=>rw[q]at h;exact h
 |_=>rw[q]at h;exact h.elim
theorem kT{tg:Tg}{it:It}{b:Ss}{ds:List D}(I:List D->Env->Prop)(h:evI w it τ=.ok ds)(h0:I ds τ)(hs:∀x t σ,I (x::t) σ->∃σ1,store tg x σ=.ok σ1/\Ends (I t) Q (qi w b σ1))(hn:∀σ,I [] σ->Ends J Q (qi w r σ)):Ends J Q (qi w (.cons (.for tg it b) r) τ):=by
 have key:∀(l:List D) (σ:Env),I l σ->Ends (I []) Q (bA tg (λσ=>qi w b σ) l σ):=by
  intro l
  induction l with
  |nil=>intro σ q;exact q
  |cons x t ih=>
   intro σ q;obtain⟨σ1,a,b'⟩:=hs x t σ q;rw[bA,a];simp only[R.out_ok];cases z:qi w b σ1 with
   |nx σ2=>rw[z]at b';exact ih σ2 b'
   |rt d=>rw[z]at b';exact b'
   |_=>rw[z]at b';exact b'.elim
 have hk:=key ds τ h0;refine ur (K:=I []) ?_ hn;rw[zK,h];simp only[R.out_ok];cases z:bA tg (λσ=>qi w b σ) ds τ with
 |nx σ2=>rw[z]at hk;exact hk
 |rt d=>rw[z]at hk;exact hk
 |_=>rw[z]at hk;exact hk.elim
end
noncomputable def hd(m:Int)(ts:List (Int×Int))(a:Int):List Int:=(rng m).filter λb=>b==a||eT ts a b
end KG
noncomputable def KG.Z:=ak @EV.qi.eq_1 (ak @EV.qi.eq_2 (ak @EV.bD (ak @EV.bF (ak @EV.bC (ak @EV.bu (ak @EV.bE (ak @EV.bw (ak @EV.zI (ak @EV.qY (ak @EV.qW (ak @EV.itr?.eq_1 (ak @EV.itr?.eq_2 (ak @EV.za (ak @EV.zb (ak @EV.qX (ak @EV.qZ (ak @EV.zc (ak @EV.qo (ak @EV.qx (ak @EV.qq (ak @EV.qt (ak @EV.qE (ak @EV.qC (ak @EV.qy (ak @EV.qz (ak @EV.qr (ak @EV.qA (ak @EV.qh (ak @EV.qB (ak @EV.ql (ak @EV.zG.eq_1 (ak @EV.zG.eq_2 (ak @EV.dH (ak @EV.dk (ak @EV.dF (ak @EV.dM (ak @EV.dD (ak @EV.dE (ak @EV.dv (ak @EV.evI.eq_1 (ak @EV.evI.eq_2 (ak @EV.evI.eq_3 (ak @EV.evI.eq_4 (ak @EV.evI.eq_5 (ak @EV.evI.eq_6 (ak @EV.evI.eq_7 (ak @EV.evO.eq_1 (ak @EV.evO.eq_2 (ak @EV.opI.eq_1 (ak @EV.opI.eq_2 (ak @EV.opI.eq_3 (ak @EV.opI.eq_4 (ak @EV.opI.eq_5 (ak @EV.opI.eq_6 (ak @EV.opI.eq_7 (ak @EV.opI.eq_8 (ak @EV.opI.eq_9 (ak @EV.opI.eq_10 (ak @EV.opI.eq_11 (ak @EV.b11.eq_1 (ak @EV.b11.eq_2 (ak @EV.b11.eq_3 (ak @EV.b11.eq_4 (ak @EV.b11.eq_5 (ak @EV.b11.eq_6 (ak @EV.b11.eq_7 (ak @EV.b11.eq_8 (ak @EV.b11.eq_9 (ak @EV.b11.eq_10 (ak @EV.b11.eq_11 (ak @EV.b11.eq_12 (ak @EV.b12.eq_1 (ak @EV.b12.eq_2 (ak @EV.b12.eq_3 (ak @EV.cN.eq_1 (ak @EV.cN.eq_2 (ak @EV.di.eq_1 (ak @EV.di.eq_2 (ak @EV.iiR.eq_1 (ak @EV.iiR.eq_2 (ak @EV.zE.eq_1 (ak @EV.store.eq_1 (ak @EV.store.eq_2 (ak @EV.store.eq_3 (ak @EV.setAll.eq_1 (ak @EV.setAll.eq_2 (ak @EV.setAll.eq_3 (ak @EV.truth.eq_1 (ak @EV.truth.eq_2 (ak @EV.truth.eq_3 (ak @EV.truth.eq_4 (ak @EV.truth.eq_5 (ak @EV.truth.eq_6 (ak @KG.xI (ak @KG.xg (ak @KG.vO (ak @KG.p6 (@KG.yw))))))))))))))))))))))))))))))))))))))))))))))))))))))))))))))))))))))))))))))))))))))))))))))))))
namespace KG
open EV
open PySem (Str)
open L2 (atI ixN ltP)
noncomputable def fO:Fn:=⟨1,1,false,(.cons (.ret (.and (.isi (.var 0) (.ty "int")) (.not (.isi (.var 0) (.ty "bool"))))) .nil)⟩
noncomputable def dR:Fn:=⟨3,3,false,(.cons (.ret (.and (.call "is_whole" (.cons (.var 0) .nil)) (.cmp2 .le .le (.var 1) (.var 0) (.var 2)))) .nil)⟩
noncomputable def lL:Fn:=⟨1,1,false,(.cons (.ret (.and (.isi (.var 0) (.ty "tuple")) (.cmp .eq (.bi .len (.cons (.var 0) .nil)) (.con (.int 2))))) .nil)⟩
noncomputable def kJ:Fn:=⟨1,1,false,(.cons (.ret (.bi .all (.cons (.comp (.rng (.op .sub (.bi .len (.cons (.var 0) .nil)) (.con (.int 1)))) [none,none,some 0] (.nm 1) .yes (.cmp .lt (.ix (.var 2) (.var 1)) (.ix (.var 2) (.op .add (.var 1) (.con (.int 1)))))) .nil))) .nil)⟩
noncomputable def lK:Fn:=⟨1,3,false,(.cons (.ite (.not (.val (.call "is_pair" (.cons (.var 0) .nil)))) (.cons (.ret (.con (.bl false))) .nil) .nil) (.cons (.set (.tp [1,2]) (.var 0)) (.cons (.ite (.or (.not (.val (.call "is_between" (.cons (.var 1) (.cons (.con (.int 1)) (.cons (.glb "MOST") .nil)))))) (.not (.val (.isi (.var 2) (.ty "tuple"))))) (.cons (.ret (.con (.bl false))) .nil) .nil) (.cons (.ret (.and (.bi .all (.cons (.comp (.seq (.var 2)) [none,none,some 1] (.nm 1) .yes (.call "is_tie" (.cons (.var 1) (.cons (.var 2) .nil)))) .nil)) (.call "rises" (.cons (.var 2) .nil)))) .nil))))⟩
noncomputable def ko:Fn:=⟨2,4,false,(.cons (.ite (.not (.val (.call "is_pair" (.cons (.var 0) .nil)))) (.cons (.ret (.con (.bl false))) .nil) .nil) (.cons (.set (.tp [2,3]) (.var 0)) (.cons (.ret (.and (.call "is_whole" (.cons (.var 2) .nil)) (.and (.call "is_whole" (.cons (.var 3) .nil)) (.cmp3 .le .lt .lt (.con (.int 0)) (.var 2) (.var 3) (.var 1))))) .nil)))⟩
noncomputable def la:Fn:=⟨1,1,false,(.cons (.ite (.not (.val (.call "is_web" (.cons (.var 0) .nil)))) (.cons .unk .nil) .nil) .nil)⟩
noncomputable def mf:Fn:=⟨1,1,false,(.cons (.exp (.call "need_web" (.cons (.var 0) .nil))) (.cons (.ret (.bi .tuple (.cons (.comp (.rng (.ix (.var 0) (.con (.int 0)))) [none,none,some 0] (.nm 1) .yes (.call "hood_of" (.cons (.var 2) (.cons (.var 1) .nil)))) .nil))) .nil))⟩
noncomputable def gn:Fn:=⟨2,4,false,(.cons (.set (.tp [2,3]) (.var 0)) (.cons (.ret (.bi .tuple (.cons (.comp (.rng (.var 2)) [none,none,some 1,some 3] (.nm 1) (.or (.cmp .eq (.var 1) (.var 2)) (.val (.call "are_tied" (.cons (.var 3) (.cons (.var 2) (.cons (.var 1) .nil)))))) (.var 1)) .nil))) .nil))⟩
noncomputable def fC:Fn:=⟨3,3,false,(.cons (.ret (.cmp .isin (.tup (.cons (.bi .min (.cons (.var 1) (.cons (.var 2) .nil))) (.cons (.bi .max (.cons (.var 1) (.cons (.var 2) .nil))) .nil))) (.var 0))) .nil)⟩
noncomputable def vU:Fn:=⟨2,2,false,(.cons (.ret (.bi .tuple (.cons (.comp (.seq (.var 1)) [none,none,some 0] (.nm 1) (.cmp .isin (.var 1) (.var 2)) (.var 1)) .nil))) .nil)⟩
noncomputable def vS:Fn:=⟨2,2,false,(.cons (.ret (.comp (.seq (.var 0)) [none,none,some 1] (.nm 1) .yes (.call "mark_of" (.cons (.var 1) (.cons (.var 2) .nil))))) .nil)⟩
noncomputable def vX:Fn:=⟨1,3,false,(.cons (.set (.nm 1) (.lst (.cons (.tup .nil) .nil))) (.cons (.for (.nm 2) (.rng (.ix (.var 0) (.con (.int 0)))) (.cons (.set (.nm 1) (.op .add (.var 1) (.comp (.seq (.var 1)) [none,none,some 2] (.nm 1) .yes (.op .add (.var 1) (.tup (.cons (.var 2) .nil)))))) .nil)) (.cons (.ret (.bi .sorted (.cons (.var 1) .nil))) .nil)))⟩
noncomputable def zD:Fn:=⟨2,2,false,(.cons (.ite (.cmp .lt (.var 1) (.bi .len (.cons (.var 0) .nil))) (.cons (.ret (.ix (.var 0) (.var 1))) .nil) .nil) (.cons (.ret (.con (.int 0))) .nil))⟩
noncomputable def dB:Fn:=⟨2,3,false,(.cons (.set (.nm 2) (.op .mod (.op .mul (.op .add (.op .add (.op .mod (.var 0) (.con (.int 2147483647))) (.op .mul (.con (.int 977)) (.var 1))) (.con (.int 1))) (.con (.int 48271))) (.con (.int 2147483647)))) (.cons (.set (.nm 2) (.op .mod (.op .mul (.var 2) (.var 2)) (.con (.int 2147483629)))) (.cons (.set (.nm 2) (.op .mod (.op .mul (.op .add (.var 2) (.op .mul (.con (.int 40692)) (.op .add (.var 1) (.con (.int 3))))) (.con (.int 69621))) (.con (.int 2147483647)))) (.cons (.ret (.op .fdiv (.var 2) (.con (.int 8)))) .nil))))⟩
noncomputable def lB:Fn:=⟨2,10,false,(.cons (.set (.nm 2) (.op .add (.con (.int 1)) (.op .mod (.var 0) (.var 1)))) (.cons (.set (.nm 3) (.op .fdiv (.var 0) (.var 1))) (.cons (.set (.nm 4) (.op .mod (.var 3) (.con (.int 6)))) (.cons (.set (.nm 5) (.lst .nil)) (.cons (.for (.nm 6) (.rng2 (.con (.int 1)) (.var 2)) (.cons (.for (.nm 7) (.rng (.var 6)) (.cons (.set (.nm 8) (.op .band (.op .shr (.op .fdiv (.var 3) (.con (.int 6))) (.op .add (.op .fdiv (.op .mul (.var 6) (.op .sub (.var 6) (.con (.int 1)))) (.con (.int 2))) (.var 7))) (.con (.int 1)))) (.cons (.ite (.cmp .eq (.var 4) (.con (.int 3))) (.cons (.set (.nm 8) (.op .fdiv (.op .mod (.call "_law_stir" (.cons (.var 0) (.cons (.op .add (.op .mul (.con (.int 8)) (.var 7)) (.var 6)) .nil))) (.con (.int 3))) (.con (.int 2)))) .nil) .nil) (.cons (.ite (.cmp .eq (.var 4) (.con (.int 4))) (.cons (.set (.nm 8) (.op .fdiv (.op .add (.op .mod (.call "_law_stir" (.cons (.var 0) (.cons (.op .add (.op .mul (.con (.int 8)) (.var 7)) (.var 6)) .nil))) (.con (.int 4))) (.con (.int 2))) (.con (.int 3)))) .nil) .nil) (.cons (.ite (.cmp .eq (.var 4) (.con (.int 5))) (.cons (.set (.nm 9) (.lst (.cons (.cmp .eq (.var 6) (.op .add (.var 7) (.con (.int 1)))) (.cons (.or (.cmp .eq (.var 6) (.op .add (.var 7) (.con (.int 1)))) (.cmp .eq (.op .sub (.var 6) (.var 7)) (.op .sub (.var 2) (.con (.int 1))))) (.cons (.cmp .eq (.var 7) (.con (.int 0))) (.cons (.con (.bl true)) (.cons (.and (.cmp .eq (.var 6) (.op .add (.var 7) (.con (.int 1)))) (.cmp .lt (.op .mod (.var 7) (.con (.int 3))) (.con (.int 2)))) .nil))))))) (.cons (.set (.nm 8) (.bi .int (.cons (.ix (.var 9) (.op .mod (.op .fdiv (.var 3) (.con (.int 6))) (.con (.int 5)))) .nil))) .nil)) .nil) (.cons (.ite (.cmp .eq (.var 8) (.con (.int 1))) (.cons (.app 5 (.tup (.cons (.var 7) (.cons (.var 6) .nil)))) .nil) .nil) .nil)))))) .nil)) (.cons (.ret (.tup (.cons (.var 2) (.cons (.bi .tuple (.cons (.bi .sorted (.cons (.own 5) .nil)) .nil)) .nil)))) .nil))))))⟩
noncomputable def pO:Fn:=⟨1,4,false,(.cons (.set (.nm 1) (.comp (.rng (.ix (.var 0) (.con (.int 0)))) [none,none] (.nm 1) .yes (.op .shl (.con (.int 1)) (.var 1)))) (.cons (.for (.tp [2,3]) (.seq (.ix (.var 0) (.con (.int 1)))) (.cons (.seti 1 (.var 2) (.op .bor (.ix (.own 1) (.var 2)) (.op .shl (.con (.int 1)) (.var 3)))) (.cons (.seti 1 (.var 3) (.op .bor (.ix (.own 1) (.var 3)) (.op .shl (.con (.int 1)) (.var 2)))) .nil))) (.cons (.ret (.own 1)) .nil)))⟩
noncomputable def rN:Fn:=⟨2,2,false,(.cons (.ret (.bi .tuple (.cons (.comp (.rng (.var 0)) [none,none,some 1] (.nm 1) (.cmp .eq (.op .band (.op .shr (.var 2) (.var 1)) (.con (.int 1))) (.con (.int 1))) (.var 1)) .nil))) .nil)⟩
noncomputable def iK:Fn:=⟨2,2,false,(.cons (.ret (.call "is_between" (.cons (.var 1) (.cons (.con (.int 0)) (.cons (.op .sub (.ix (.var 0) (.con (.int 0))) (.con (.int 1))) .nil))))) .nil)⟩
noncomputable def iR:Fn:=⟨2,2,false,(.cons (.ite (.not (.val (.isi (.var 1) (.ty "tuple")))) (.cons (.ret (.con (.bl false))) .nil) .nil) (.cons (.ret (.and (.bi .all (.cons (.comp (.seq (.var 1)) [none,none,some 0] (.nm 1) .yes (.call "is_place" (.cons (.var 2) (.cons (.var 1) .nil)))) .nil)) (.call "rises" (.cons (.var 1) .nil)))) .nil))⟩
noncomputable def mR:Fn:=⟨2,2,false,(.cons (.ite (.not (.val (.call "is_some" (.cons (.var 0) (.cons (.var 1) .nil))))) (.cons .unk .nil) .nil) .nil)⟩
structure Web(p:Pr):Prop where
 is_whole:p.fns "is_whole" = some fO
 is_between:p.fns "is_between" = some dR
 is_pair:p.fns "is_pair" = some lL
 rises:p.fns "rises" = some kJ
 is_web:p.fns "is_web" = some lK
 is_tie:p.fns "is_tie" = some ko
 need_web:p.fns "need_web" = some la
 MOST:p.glb "MOST" = some (.int 8)
structure Base(p:Pr):Prop extends Web p where
 all_some:p.fns "all_some" = some vX
 _law_cell_at:p.fns "_law_cell_at" = some zD
 _law_stir:p.fns "_law_stir" = some dB
 _law_web:p.fns "_law_web" = some lB
 _law_some:p.fns "_law_some" = some rN
structure j_(p:Pr):Prop where
 _law_cell_at:p.fns "_law_cell_at" = some zD
 _law_stir:p.fns "_law_stir" = some dB
 _law_web:p.fns "_law_web" = some lB
theorem Base.draw{p:Pr}(B:Base p):j_ p:=⟨B._law_cell_at,B._law_stir,B._law_web⟩
structure Hds(p:Pr):Prop where
 hoods:p.fns "hoods" = some mf
 hood_of:p.fns "hood_of" = some gn
 are_tied:p.fns "are_tied" = some fC
structure Nbr(p:Pr):Prop where
 hoods:p.fns "hoods" = some mf
 hood_of:p.fns "hood_of" = some gn
 are_tied:p.fns "are_tied" = some fC
 mark_of:p.fns "mark_of" = some vU
 marks_of:p.fns "marks_of" = some vS
structure wU(p:Pr):Prop extends Nbr p where
 _law_masks:p.fns "_law_masks" = some pO
noncomputable instance {p:Pr}:CoeOut (Base p) (Web p):=⟨λb=>b.toWeb⟩
theorem Nbr.hds{p:Pr}(O:Nbr p):Hds p:=⟨O.hoods,O.hood_of,O.are_tied⟩
noncomputable instance {p:Pr}:CoeOut (Base p) (j_ p):=⟨λb=>b.draw⟩
noncomputable instance {p:Pr}:CoeOut (Nbr p) (Hds p):=⟨λb=>b.hds⟩
noncomputable instance {p:Pr}:CoeOut (wU p) (Nbr p):=⟨λb=>b.toNbr⟩
structure iV(p:Pr):Prop where
 is_place:p.fns "is_place" = some iK
 is_some:p.fns "is_some" = some iR
structure gG(p:Pr):Prop where
 is_place:p.fns "is_place" = some iK
 is_some:p.fns "is_some" = some iR
 need_some:p.fns "need_some" = some mR
theorem gG.a{p:Pr}(b:gG p):iV p:=⟨b.is_place,b.is_some⟩
noncomputable instance {p:Pr}:CoeOut (gG p) (iV p):=⟨λb=>b.a⟩
end KG
namespace K54
open PySem PySem.Spec PyProof.Rows L2 EV
noncomputable def top(i:Nat):Stmt:=PySem.Challenge.pw_holdplaces_k54_all_sets_of_rows_and_ring.main.body.getD i (.Pass ⟨0,0,0,0⟩)
abbrev fO:Fn:=KG.fO
abbrev dR:Fn:=KG.dR
noncomputable def h8:Fn:=⟨3,3,false,(.cons (.ite (.not (.val (.call "is_between" (.cons (.var 0) (.cons (.var 1) (.cons (.var 2) .nil)))))) (.cons .unk .nil) .nil) .nil)⟩
noncomputable def jk:Fn:=⟨1,1,false,(.cons (.exp (.call "need_between" (.cons (.var 0) (.cons (.con (.int 1)) (.cons (.glb "LONGEST") .nil))))) .nil)⟩
noncomputable def gY:Fn:=⟨1,1,false,(.cons (.exp (.call "need_between" (.cons (.var 0) (.cons (.con (.int 3)) (.cons (.glb "LONGEST") .nil))))) .nil)⟩
noncomputable def i4:Fn:=⟨1,1,false,(.cons (.exp (.call "need_row" (.cons (.var 0) .nil))) (.cons (.ret (.call "summed_on" (.cons (.tup (.cons (.con (.int 1)) (.cons (.con (.int 3)) (.cons (.con (.int 5)) .nil)))) (.cons (.op .sub (.var 0) (.con (.int 1))) .nil)))) .nil))⟩
noncomputable def ja:Fn:=⟨1,1,false,(.cons (.exp (.call "need_ring" (.cons (.var 0) .nil))) (.cons (.ret (.call "summed_on" (.cons (.tup (.cons (.con (.int 7)) (.cons (.con (.int 11)) (.cons (.con (.int 21)) .nil)))) (.cons (.op .sub (.var 0) (.con (.int 3))) .nil)))) .nil))⟩
noncomputable def lU:Fn:=⟨2,6,false,(.cons (.set (.tp [2,3,4]) (.var 0)) (.cons (.for (.nm 5) (.rng (.var 1)) (.cons (.par3 2 3 4 (.var 3) (.var 4) (.op .add (.op .add (.var 2) (.var 3)) (.var 4))) .nil)) (.cons (.ret (.var 2)) .nil)))⟩
abbrev zD:Fn:=KG.zD
abbrev dB:Fn:=KG.dB
noncomputable def mw:Fn:=⟨1,1,false,(.cons (.ret (.and (.isi (.var 0) (.ty "int")) (.not (.isi (.var 0) (.ty "bool"))))) .nil)⟩
noncomputable def jM:Fn:=⟨2,5,false,(.cons (.set (.nm 2) (.con (.int 0))) (.cons (.for (.tp [3,4]) (.enum (.var 0)) (.cons (.ite (.cmp .eq (.op .band (.op .shr (.var 1) (.var 3)) (.con (.int 1))) (.con (.int 1))) (.cons (.set (.nm 2) (.op .bor (.var 2) (.var 4))) .nil) .nil) .nil)) (.cons (.ret (.var 2)) .nil)))⟩
noncomputable def lT:Fn:=⟨2,7,false,(.cons (.set (.nm 2) (.var 0)) (.cons (.for (.nm 3) (.rng (.var 1)) (.cons (.set (.nm 4) .dic) (.cons (.for (.nm 5) (.seq (.var 2)) (.cons (.for (.nm 6) (.seq (.tup (.cons (.con (.int 0)) (.cons (.con (.int 1)) .nil)))) (.cons (.ite (.cmp .gt (.op .add (.op .add (.ix (.var 5) (.con (.int 0))) (.ix (.var 5) (.con (.int 1)))) (.var 6)) (.con (.int 0))) (.cons (.seti 4 (.tup (.cons (.ix (.var 5) (.con (.int 1))) (.cons (.var 6) .nil))) (.op .add (.dget2 (.own 4) (.tup (.cons (.ix (.var 5) (.con (.int 1))) (.cons (.var 6) .nil))) (.con (.int 0))) (.ix (.var 2) (.var 5)))) .nil) .nil) .nil)) .nil)) (.cons (.give 2 4) .nil)))) (.cons (.ret (.var 2)) .nil)))⟩
noncomputable def lg:Fn:=⟨1,2,false,(.cons (.set (.nm 1) (.call "_law_along" (.cons (.dct2 (.tup (.cons (.con (.int 0)) (.cons (.con (.int 0)) .nil))) (.con (.int 1)) (.tup (.cons (.con (.int 0)) (.cons (.con (.int 1)) .nil))) (.con (.int 1))) (.cons (.op .sub (.var 0) (.con (.int 1))) .nil)))) (.cons (.ret (.bi .sum (.cons (.comp (.seq (.var 1)) [none,none,some 1] (.nm 1) (.cmp .gt (.op .add (.ix (.var 1) (.con (.int 0))) (.ix (.var 1) (.con (.int 1)))) (.con (.int 0))) (.ix (.var 2) (.var 1))) .nil))) .nil))⟩
noncomputable def jZ:Fn:=⟨1,6,false,(.cons (.set (.nm 1) (.con (.int 0))) (.cons (.for (.nm 2) (.seq (.tup (.cons (.con (.int 0)) (.cons (.con (.int 1)) .nil)))) (.cons (.for (.nm 3) (.seq (.tup (.cons (.con (.int 0)) (.cons (.con (.int 1)) .nil)))) (.cons (.set (.nm 4) (.call "_law_along" (.cons (.dct1 (.tup (.cons (.var 2) (.cons (.var 3) .nil))) (.con (.int 1))) (.cons (.op .sub (.var 0) (.con (.int 2))) .nil)))) (.cons (.for (.nm 5) (.seq (.var 4)) (.cons (.ite (.and (.cmp .gt (.op .add (.op .add (.ix (.var 5) (.con (.int 0))) (.ix (.var 5) (.con (.int 1)))) (.var 2)) (.con (.int 0))) (.cmp .gt (.op .add (.op .add (.ix (.var 5) (.con (.int 1))) (.var 2)) (.var 3)) (.con (.int 0)))) (.cons (.set (.nm 1) (.op .add (.var 1) (.ix (.var 4) (.var 5)))) .nil) .nil) .nil)) .nil))) .nil)) (.cons (.ret (.var 1)) .nil)))⟩
noncomputable def lJ:Fn:=⟨2,4,false,(.cons (.set (.nm 2) (.comp (.rng (.var 0)) [none,none,some 0] (.nm 1) .yes (.bi .sum (.cons (.comp (.seq (.tup (.cons (.op .sub (.var 1) (.con (.int 1))) (.cons (.var 1) (.cons (.op .add (.var 1) (.con (.int 1))) .nil))))) [none,none,some 2] (.nm 1) (.cmp2 .le .lt (.con (.int 0)) (.var 1) (.var 2)) (.op .shl (.con (.int 1)) (.var 1))) .nil)))) (.cons (.ite (.val (.var 1)) (.cons (.seti2 2 (.con (.int 0)) (.op .sub (.var 0) (.con (.int 1))) (.tup (.cons (.op .bor (.ix (.own 2) (.con (.int 0))) (.op .shl (.con (.int 1)) (.op .sub (.var 0) (.con (.int 1))))) (.cons (.op .bor (.ix (.own 2) (.op .sub (.var 0) (.con (.int 1)))) (.con (.int 1))) .nil)))) .nil) .nil) (.cons (.set (.nm 3) (.op .sub (.op .shl (.con (.int 1)) (.var 0)) (.con (.int 1)))) (.cons (.ret (.bi .len (.cons (.comp (.rng (.op .add (.var 3) (.con (.int 1)))) [none,none,some 3,some 2] (.nm 1) (.cmp .eq (.callo "_law_held" (.cons (.own 3) (.cons (.var 1) .nil))) (.var 2)) (.var 1)) .nil))) .nil))))⟩
noncomputable def jQ:Fn:=⟨1,1,false,(.cons (.ite (.or (.not (.val (.call "_law_whole" (.cons (.call "row_holding" (.cons (.var 0) .nil)) .nil)))) (.cmp .ne (.call "row_holding" (.cons (.var 0) .nil)) (.call "_law_row" (.cons (.var 0) .nil)))) (.cons (.ret (.con (.bl false))) .nil) .nil) (.cons (.ite (.and (.cmp .lt (.var 0) (.con (.int 11))) (.cmp .ne (.call "row_holding" (.cons (.var 0) .nil)) (.call "_law_trial" (.cons (.var 0) (.cons (.con (.bl false)) .nil))))) (.cons (.ret (.con (.bl false))) .nil) .nil) (.cons (.ite (.cmp .lt (.var 0) (.con (.int 3))) (.cons (.ret (.con (.bl true))) .nil) .nil) (.cons (.ite (.or (.not (.val (.call "_law_whole" (.cons (.call "ring_holding" (.cons (.var 0) .nil)) .nil)))) (.cmp .ne (.call "ring_holding" (.cons (.var 0) .nil)) (.call "_law_ring" (.cons (.var 0) .nil)))) (.cons (.ret (.con (.bl false))) .nil) .nil) (.cons (.ret (.or (.cmp .gt (.var 0) (.con (.int 10))) (.cmp .eq (.call "ring_holding" (.cons (.var 0) .nil)) (.call "_law_trial" (.cons (.var 0) (.cons (.con (.bl true)) .nil)))))) .nil)))))⟩
noncomputable def lF:Fn:=⟨1,4,false,(.cons (.for (.nm 1) (.seq (.lst (.cons (.con (.int 1)) (.cons (.con (.int 2)) (.cons (.con (.int 3)) (.cons (.con (.int 4)) (.cons (.con (.int 5)) (.cons (.con (.int 300)) .nil)))))))) (.cons (.ite (.not (.val (.call "_law_right" (.cons (.var 1) .nil)))) (.cons (.ret (.con (.bl false))) .nil) .nil) .nil)) (.cons (.for (.nm 2) (.seq (.op .add (.lst (.cons (.call "_law_cell_at" (.cons (.var 0) (.cons (.con (.int 0)) .nil))) .nil)) (.sl (.var 0) (.some (.con (.int 1))) (.some (.con (.int 3)))))) (.cons (.set (.nm 3) (.call "_law_stir" (.cons (.var 2) (.cons (.con (.int 1)) .nil)))) (.cons (.ite (.or (.not (.val (.call "_law_right" (.cons (.op .add (.con (.int 1)) (.op .mod (.var 3) (.con (.int 300)))) .nil)))) (.not (.val (.call "_law_right" (.cons (.op .add (.con (.int 1)) (.op .mod (.op .fdiv (.var 3) (.con (.int 300))) (.con (.int 10)))) .nil))))) (.cons (.ret (.con (.bl false))) .nil) .nil) .nil))) (.cons (.ret (.con (.bl true))) .nil)))⟩
abbrev sx:Ent:=⟨"is_whole",top 4,[],false,fO⟩
abbrev t6:Ent:=⟨"is_between",top 5,[],false,dR⟩
abbrev wN:Ent:=⟨"need_between",top 6,[],false,h8⟩
abbrev tV:Ent:=⟨"need_row",top 9,[],false,jk⟩
abbrev pf:Ent:=⟨"need_ring",top 10,[],false,gY⟩
abbrev sE:Ent:=⟨"row_holding",top 11,[],false,i4⟩
abbrev oZ:Ent:=⟨"ring_holding",top 12,[],false,ja⟩
abbrev yj:Ent:=⟨"summed_on",top 13,[],false,lU⟩
abbrev xl:Ent:=⟨"_law_cell_at",top 15,[],false,zD⟩
abbrev xD:Ent:=⟨"_law_stir",top 16,[],false,dB⟩
abbrev y9:Ent:=⟨"_law_whole",top 17,[],false,mw⟩
abbrev p8:Ent:=⟨"_law_held",top 18,[],false,jM⟩
abbrev vt:Ent:=⟨"_law_along",top 19,[aU "_law_found"],false,lT⟩
abbrev wa:Ent:=⟨"_law_row",top 20,[],false,lg⟩
abbrev yv:Ent:=⟨"_law_ring",top 21,[],false,jZ⟩
abbrev yU:Ent:=⟨"_law_trial",top 22,[aU "_law_nears"],false,lJ⟩
abbrev nM:Ent:=⟨"_law_right",top 23,[],false,jQ⟩
abbrev eA:Ent:=⟨"law",top 24,[],false,lF⟩
abbrev tab:List Ent:=[sx,t6,wN,tV,pf,sE,oZ,yj,xl,xD,y9,p8,vt,wa,yv,yU,nM,eA]
abbrev oth:List (Str×GK):=[(aU "NoNumber",GK.exc),(aU "LONGEST",GK.val),(aU "len",GK.bi .len),(aU "int",GK.ty "int" (some .int)),(aU "bool",GK.ty "bool" (some .bool)),(aU "sum",GK.bi .sum),(aU "range",GK.rng),(aU "enumerate",GK.enum),(aU "isinstance",GK.isi)]
abbrev vals:List (Str×D):=[(aU "LONGEST",(.int 300))]
abbrev G:List (Str×GK):=tab.map (λe=>(e.x,GK.fn e.fr))++oth
abbrev bW:List (Str×Str):=[]
abbrev us:List Ent:=[]
abbrev subs:List ((Str×Cl)×Bool):=[]
abbrev p:Pr:=prT tab vals bW subs
theorem wR:p.fns "is_whole" = some fO:=by kernel_rfl
theorem xj:p.fns "is_between" = some dR:=by kernel_rfl
theorem rS:p.fns "need_between" = some h8:=by kernel_rfl
theorem v8:p.fns "need_row" = some jk:=by kernel_rfl
theorem wV:p.fns "need_ring" = some gY:=by kernel_rfl
theorem sS:p.fns "row_holding" = some i4:=by kernel_rfl
theorem xt:p.fns "ring_holding" = some ja:=by kernel_rfl
theorem u_:p.fns "summed_on" = some lU:=by kernel_rfl
theorem vk:p.fns "_law_cell_at" = some zD:=by kernel_rfl
theorem yB:p.fns "_law_stir" = some dB:=by kernel_rfl
theorem sr:p.fns "_law_whole" = some mw:=by kernel_rfl
theorem pq:p.fns "_law_held" = some jM:=by kernel_rfl
theorem sM:p.fns "_law_along" = some lT:=by kernel_rfl
theorem pW:p.fns "_law_row" = some lg:=by kernel_rfl
theorem ny:p.fns "_law_ring" = some jZ:=by kernel_rfl
theorem wo:p.fns "_law_trial" = some lJ:=by kernel_rfl
theorem oa:p.fns "_law_right" = some jQ:=by kernel_rfl
theorem sL:p.fns "law" = some lF:=by kernel_rfl
theorem mh:p.glb "LONGEST" = some (.int 300):=by kernel_rfl
end K54
namespace KG
open EV
open PySem (Str)
open L2 (atI ixN ltP)
section
variable{p:Pr}
theorem zd{k:Nat}{x:Str}{f:Fn}{ds:List D}(h:p.fns x=some f):qf p (k+1) x ds=ck ⟨qf p k,p.glb,p.sub,p.cat⟩ f ds:=by
 rw[qf,h]
section
variable(B:Web p)
include B
theorem is_whole{k:Nat}(i:Int):qf p (k+1) "is_whole" [.int i]=.ok (.bl true):=by rw[zd B.is_whole];rfl
theorem is_between{k:Nat}(i a b:Int)(h:a<=i/\i<=b):qf p (k+2) "is_between" [.int i,.int a,.int b]=.ok (.bl true):=by
 rw[zd B.is_between];refine zC rfl rfl ?_;simp[KG.Z,KG.dR,is_whole B,zh,fk,h.1,h.2]
theorem is_pair{k:Nat}(a b:D):qf p (k+1) "is_pair" [.tup [a,b]]=.ok (.bl true):=by
 rw[zd B.is_pair];refine zC rfl rfl ?_;simp[KG.Z,lL,b1,seq?,zh,D.asks,D.plain,D.deep,D.eqv]
theorem is_tie{k:Nat}(a b m:Int)(h:0<=a/\a<b/\b<m):qf p (k+2) "is_tie" [.tup [.int a,.int b],.int m]=.ok (.bl true):=by
 rw[zd B.is_tie];refine zC rfl rfl ?_;simp[KG.Z,ko,is_pair B,is_whole B,zh,fk,h.1,h.2.1,h.2.2]
theorem rises{k:Nat}(xs:List D)(hz:xs.length<=28)(h:∀(i:Nat) (q:i+1<xs.length),zh .lt xs[i] xs[i+1]=.ok true):qf p (k+1) "rises" [.tup xs]=.ok (.bl true):=by
 rw[zd B.rises];refine zC rfl rfl ?_;have hr:zr ((xs.length:Int)-1)=true:=by simp[zr];lia
 have hc:evE ⟨qf p k,p.glb,p.sub,p.cat⟩ (.comp (.rng (.op .sub (.bi .len (.cons (.var 0) .nil)) (.con (.int 1)))) [none,none,some 0] (.nm 1) .yes (.cmp .lt (.ix (.var 2) (.var 1)) (.ix (.var 2) (.op .add (.var 1) (.con (.int 1)))))) [some (.tup xs)]=.ok (.lst ((b6 0 ((xs.length:Int)-1).toNat).flatMap λ_=>[.bl true])):=by
  refine gE (c:=[some (.tup xs)]) ?_ ?_ rfl ?_
  ·simp[KG.Z,b1,seq?,op2,hr]
  ·simp[b6,SZ];lia
  ·intro x hx;simp only[b6,bN,List.mem_range]at hx;obtain⟨i,hi,rfl⟩:=hx;have e1:atI xs ((0:Int)+(i:Int))=some xs[i]:=by rw[Int.zero_add];exact h_ (by lia)
   have e2:atI xs ((0:Int)+(i:Int)+1)=some xs[i+1]:=by rw[Int.zero_add];exact h_ (i:=i+1) (by lia)
   have e3:=h i (by lia);simp only[Int.zero_add]at e1 e2;simp[KG.Z,ixD,op2,e1,e2,e3]
 simp[KG.Z,kJ,hc,b1,all_true,vg]
theorem is_web{k:Nat}{m:Int}{ts:List (Int×Int)}(h:GW m ts):qf p (k+3) "is_web" [wb m ts]=.ok (.bl true):=by
 rw[zd B.is_web];refine zC rfl rfl ?_;have hr:=rises B (k:=k+1) (ts.map prD) (by simpa using h.len) (λi q=>by
  rw[List.getElem_map,List.getElem_map];exact pF (List.pairwise_iff_getElem.mp h.lt i (i+1) (by simp at q;lia) (by simpa using q) (by lia)))
 have hc:evE ⟨qf p (k+2),p.glb,p.sub,p.cat⟩ (.comp (.seq (.var 2)) [none,none,some 1] (.nm 1) .yes (.call "is_tie" (.cons (.var 1) (.cons (.var 2) .nil)))) [some (wb m ts),some (.int m),some (.tup (ts.map prD))]=.ok (.lst ((ts.map prD).flatMap λ_=>[.bl true])):=by
  refine gE (c:=[some (.int m)]) ?_ ?_ rfl ?_
  ·simp[KG.Z,seq?]
  ·simp[SZ];have:=h.len;lia
  ·intro x hx;rw[bN]at hx;obtain⟨t,ht,rfl⟩:=hx;have e:=is_tie B (k:=k) t.1 t.2 m (h.ok t ht);have e':qf p (k+2) "is_tie" [prD t,.int m]=.ok (.bl true):=e;simp[KG.Z,e']
 simp[KG.Z,lK,is_pair B,is_between B m 1 8 ⟨h.lo,h.hi⟩,B.MOST,hc,b1,all_true,hr]
theorem need_web{k:Nat}{m:Int}{ts:List (Int×Int)}(h:GW m ts):qf p (k+4) "need_web" [wb m ts]=.ok .non:=by
 rw[zd B.need_web];simp only[ck];simp[KG.Z,la,is_web B h]
end
theorem t4(hf:p.fns "_law_stir" = some dB){k:Nat}(c j:Int):qf p (k+1) "_law_stir" [.int c,.int j]=.ok (.int (st c j)):=by
 have s1:small 977=true:=by decide
 have s2:small 48271=true:=by decide
 have s3:small 40692=true:=by decide
 have s4:small 69621=true:=by decide
 have s5:=mX ((c%2147483647+977 * j+1) * 48271) 2147483647 (by decide) (by decide);rw[zd hf];refine zC rfl rfl ?_;simp[KG.Z,KG.dB,op2,s1,s2,s3,s4,s5,st]
theorem wW(hf:p.fns "_law_cell_at" = some zD){k:Nat}(ns:List Int):∃x:Int,qf p (k+1) "_law_cell_at" [.lst (ns.map D.int),.int 0]=.ok (.int x):=by
 cases ns with
 |nil=>
  refine⟨0,?_⟩;have e1:b1 .len [.lst []]=.ok (.int 0):=rfl;have e3:zh .lt (.int 0) (.int 0)=.ok false:=rfl;rw[zd hf];refine zC rfl rfl ?_;simp[KG.Z,KG.zD,e1,e3]
 |cons x r=>
  refine⟨x,?_⟩;have e1:b1 .len [.lst ((x::r).map D.int)]=.ok (.int (r.length+1:Nat)):=by
   show R.ok (D.int ((x::r).map D.int).length)=_;simp
  have e2:ixD (.lst ((x::r).map D.int)) (.int 0)=.ok (.int x):=by
   have:=h_ (xs:=(x::r).map D.int) (i:=0) (by simp);simp only[ixD];rw[show (0:Int)=((0:Nat):Int)from rfl,this];rfl
  simp only[aK]at e1 e2;have h0:(0:Int)<((r.length+1:Nat):Int):=by lia
  have e3:zh .lt (.int 0) (.int ((r.length+1:Nat):Int))=.ok true:=by rw[lt_int,decide_eq_true h0]
  generalize ((r.length+1:Nat):Int)=N at *;rw[zd hf];refine zC rfl rfl ?_;simp[KG.Z,KG.zD,e1,e2,e3]
section
variable(B:Base p)
include B
end
section
variable(B:Web p)(S:iV p)
include B S
theorem is_place{k:Nat}(i m:Int)(t:D)(h:0<=i/\i<m):qf p (k+3) "is_place" [.tup [.int m,t],.int i]=.ok (.bl true):=by
 rw[zd S.is_place];refine zC rfl rfl ?_;simp[KG.Z,iK,ixD,atI,ixN,op2,is_between B i 0 (m-1) (by lia)]
theorem is_some{k:Nat}{m:Int}{t:D}{s:List Int}(h:GS m s):qf p (k+4) "is_some" [.tup [.int m,t],tu s]=.ok (.bl true):=by
 rw[zd S.is_some];refine zC rfl rfl ?_;have hr:=rises B (k:=k+2) (s.map D.int) (by simp;have:=h.len;lia) (λi q=>by
  rw[List.getElem_map,List.getElem_map];have:=List.pairwise_iff_getElem.mp h.lt i (i+1) (by simp at q;lia) (by simpa using q) (by lia);simp[zh,fk,this])
 have hc:evE ⟨qf p (k+3),p.glb,p.sub,p.cat⟩ (.comp (.seq (.var 1)) [none,none,some 0] (.nm 1) .yes (.call "is_place" (.cons (.var 2) (.cons (.var 1) .nil)))) [some (.tup [.int m,t]),some (tu s)]=.ok (.lst ((s.map D.int).flatMap λ_=>[.bl true])):=by
  refine gE (c:=[some (.tup [.int m,t])]) ?_ ?_ rfl ?_
  ·simp[KG.Z,seq?]
  ·simp[SZ];have:=h.len;lia
  ·intro x hx;rw[bN]at hx;obtain⟨i,hi,rfl⟩:=hx;simp[KG.Z,is_place B S i m t (h.ok i hi)]
 simp[KG.Z,iR,hc,b1,all_true,hr]
omit S in
theorem need_some(S:gG p){k:Nat}{m:Int}{t:D}{s:List Int}(h:GS m s):qf p (k+5) "need_some" [.tup [.int m,t],tu s]=.ok .non:=by
 rw[zd S.need_some];simp only[ck];simp[KG.Z,mR,is_some B S h]
end
theorem lR(hA:p.fns "are_tied" = some fC){k:Nat}(ts:List (Int×Int))(a b:Int):qf p (k+1) "are_tied" [.tup (ts.map prD),.int a,.int b]=.ok (.bl (eT ts a b)):=by
 rw[zd hA];refine zC rfl rfl ?_;simp[KG.Z,fC,b1,vm,eT,mn,mx]
theorem mZ(hH:p.fns "hood_of" = some gn)(hA:p.fns "are_tied" = some fC){k:Nat}{m:Int}{ts:List (Int×Int)}(h:GW m ts)(a:Int):qf p (k+2) "hood_of" [wb m ts,.int a]=.ok (tu (hd m ts a)):=by
 rw[zd hH];refine zC rfl rfl ?_;have h1:=h.lo;have h2:=h.hi;have hc:evE ⟨qf p (k+1),p.glb,p.sub,p.cat⟩ (.comp (.rng (.var 2)) [none,none,some 1,some 3] (.nm 1) (.or (.cmp .eq (.var 1) (.var 2)) (.val (.call "are_tied" (.cons (.var 3) (.cons (.var 2) (.cons (.var 1) .nil)))))) (.var 1)) [some (wb m ts),some (.int a),some (.int m),some (.tup (ts.map prD))]=.ok (.lst ((hd m ts a).map D.int)):=by
  rw[hd,<-yd,<-fb];refine gE (c:=[some (.int a),some (.tup (ts.map prD))]) ?_ ?_ rfl ?_
  ·have:zr m=true:=by simp[zr];lia
   simp[KG.Z,this]
  ·simp[b6,SZ];lia
  ·intro x hx;rw[fb,bN]at hx;obtain⟨b,hb,rfl⟩:=hx;have e:zh .eq (.int b) (.int a)=.ok (b==a):=rfl;simp[KG.Z,e,lR hA];by_cases q:b=a
   ·simp[q]
   ·simp[q];cases eT ts a b<;>simp
 simp[KG.Z,gn,hc,b1,seq?]
section
variable(B:Web p)(O:Hds p)
include O
theorem are_tied{k:Nat}(ts:List (Int×Int))(a b:Int):qf p (k+1) "are_tied" [.tup (ts.map prD),.int a,.int b]=.ok (.bl (eT ts a b)):=lR O.are_tied ts a b
theorem hood_of{k:Nat}{m:Int}{ts:List (Int×Int)}(h:GW m ts)(a:Int):qf p (k+2) "hood_of" [wb m ts,.int a]=.ok (tu (hd m ts a)):=mZ O.hood_of O.are_tied h a
include B
end
section
variable(O:Nbr p)
include O
end
end
theorem kA{α:Type}{w:W}{it:It}{cap:List (Option Nat)}{t:T}{elt:E}{τ c:Env}{l:List α}{f:α->D}(q:α->Bool)(g:α->D)(h:evI w it τ=.ok (l.map f))(hz:l.length<=SZ)(hc:cU cap τ=none::none::c)
  (hb:∀a∈l,evT w t (none::some (f a)::c)=.ok (q a)/\(q a=true->evE w elt (none::some (f a)::c)=.ok (g a))):evE w (.comp it cap (.nm 1) t elt) τ=.ok (.lst ((l.filter q).map g)):=by
 have key:∀(r:List α) (v:Option D) (acc:List D),(∀x∈r,x∈l)->bR (λx σ=>noEx ((store (.nm 1) x σ).bind λσ'=>(evT w t σ').bind λr=>if r then (evE w elt σ').bind λd=>.ok (σ',[d])else .ok (σ',[]))) (r.map f) (none::v::c) acc=.ok (acc++(r.filter q).map g):=by
  intro r
  induction r with
  |nil=>intro v acc _;simp[bR]
  |cons x r ih=>
   intro v acc hm;obtain⟨h1,h2⟩:=hb x (hm x aP);rw[aK,bR];have e:noEx ((store (.nm 1) (f x) (none::v::c)).bind λσ'=>(evT w t σ').bind λr=>if r then (evE w elt σ').bind λd=>.ok (σ',[d])else .ok (σ',[]))=.ok (none::some (f x)::c,if q x then [g x]else []):=by
    simp only[store,R.bind_ok,List.set_cons_succ,List.set_cons_zero,h1];cases hq:q x with
    |false=>rfl
    |true=>simp only[if_true,h2 hq,R.bind_ok];rfl
   rw[e];simp only[R.bind_ok];rw[ih (some (f x)) _ λy hy=>hm y (aO _ hy),List.filter_cons,List.append_assoc];cases q x<;>simp
 rw[qk,h];simp only[R.bind_ok];rw[if_neg (by simp;lia),hc,key l none [] λ_ h=>h]
 rfl
theorem rR{w:W}{e:E}{τ:Env}{xs:List D}(h:evE w e τ=.ok (.lst xs)):evI w (.seq e) τ=.ok xs:=by rw[evI.eq_1,h];rfl
theorem r_(xs:List D):b1 .len [.lst xs]=.ok (.int xs.length):=rfl
theorem sum_ints(ns:List Int):b1 .sum [.lst (ns.map D.int)]=.ok (.int ns.sum):=by
 rw[b1,b11];simp only[di];rw[ints_map];rfl
theorem nT(ns:List Int)(lo hi:Option Int):∃cs:List Int,cutD (ns.map D.int) lo hi=cs.map D.int/\cs.length<=ns.length:=by
 refine⟨(ns.drop _).take _,by rw[cutD,<-List.map_drop,<-List.map_take],by simp;lia⟩
theorem fx{α:Type}{f:α->D}{r:List D}{x:D}{l:List α}(e:x::r=l.map f):∃a l',l=a::l'/\x=f a/\r=l'.map f:=by
 cases l with
 |nil=>cases e
 |cons a l'=>rw[aK]at e;injection e with e1 e2;exact⟨a,l',rfl,e1,e2⟩
end KG
namespace K54
open EV KG
open PySem (Str)
noncomputable def depth:Nat:=9
abbrev T3:=Int×Int×Int
noncomputable def nx(t:T3):T3:=(t.2.1,t.2.2,t.1+t.2.1+t.2.2)
noncomputable def it{α:Type}(f:α->α):Nat->α->α
 | 0,a=>a
 |n+1,a=>it f n (f a)
theorem eqi(a b:Int):zh .eq (.int a) (.int b)=.ok (decide (a=b)):=by
 show (if D.asks (.int a)&&D.asks (.int b)then R.ok ((D.int a).eqv (.int b))else .no)=_;rw[show (D.asks (.int a)&&D.asks (.int b))=true from rfl,if_pos rfl];congr 1
theorem nei(a b:Int):zh .ne (.int a) (.int b)=.ok (!decide (a=b)):=by
 show (if D.asks (.int a)&&D.asks (.int b)then R.ok (!(D.int a).eqv (.int b))else .no)=_;rw[show (D.asks (.int a)&&D.asks (.int b))=true from rfl,if_pos rfl];congr 1
theorem lti(a b:Int):zh .lt (.int a) (.int b)=.ok (decide (a<b)):=rfl
theorem gti(a b:Int):zh .gt (.int a) (.int b)=.ok (decide (b<a)):=rfl
theorem whole{k:Nat}(i:Int):qf p (k+1) "is_whole" [.int i]=.ok (.bl true):=by rw[zd wR];rfl
theorem sy{k:Nat}(i:Int):qf p (k+1) "_law_whole" [.int i]=.ok (.bl true):=by rw[zd sr];rfl
theorem between{k:Nat}(i a b:Int)(h:a<=i/\i<=b):qf p (k+2) "is_between" [.int i,.int a,.int b]=.ok (.bl true):=by
 rw[zd xj];refine zC rfl rfl ?_;simp[KG.Z,KG.dR,whole,zh,fk,h.1,h.2]
theorem need{k:Nat}(i a b:Int)(h:a<=i/\i<=b):qf p (k+3) "need_between" [.int i,.int a,.int b]=.ok .non:=by
 rw[zd rS];simp only[ck];simp[KG.Z,h8,between i a b h]
theorem ph{k:Nat}(i:Int)(h:1<=i/\i<=300):qf p (k+4) "need_row" [.int i]=.ok .non:=by
 rw[zd v8];simp only[ck];simp[KG.Z,jk,need i 1 300 h,mh]
theorem rH{k:Nat}(i:Int)(h:3<=i/\i<=300):qf p (k+4) "need_ring" [.int i]=.ok .non:=by
 rw[zd wV];simp only[ck];simp[KG.Z,gY,need i 3 300 h,mh]
theorem gU(n:Nat):(rng (n:Int)).length=n:=by simp[rng]
theorem mE{k:Nat}(a b c:Int)(n:Nat)(hn:n<=300):qf p (k+1) "summed_on" [.tup [.int a,.int b,.int c],.int n]=.ok (.int (it nx n (a,b,c)).1):=by
 rw[zd u_];refine zC (τ:=[some (.tup [.int a,.int b,.int c]),some (.int n),none,none,none,none]) rfl rfl ?_;refine b8 (σ:=[some (.tup [.int a,.int b,.int c]),some (.int n),some (.int a),some (.int b),some (.int c),none]) rfl ?_;have sm:zr (n:Int)=true:=by simp[zr];lia
 refine fL (ds:=(rng (n:Int)).map D.int) (λl σ=>∃(is:List Int) (t:T3) (v:Option D),l=is.map D.int/\it nx is.length t=it nx n (a,b,c)/\σ=[some (.tup [.int a,.int b,.int c]),some (.int n),some (.int t.1),some (.int t.2.1),some (.int t.2.2),v]) ?_ ⟨rng (n:Int),(a,b,c),none,rfl,by rw[gU],rfl⟩ ?_ ?_
 ·rw[<-fb];simp[KG.Z,sm]
 ·rintro x l σ ⟨is,t,v,e,h,rfl⟩;obtain⟨i,is,rfl,rfl,rfl⟩:=fx e;refine⟨_,[some (.tup [.int a,.int b,.int c]),some (.int n),some (.int (nx t).1),some (.int (nx t).2.1),some (.int (nx t).2.2),some (.int i)],rfl,?_,is,nx t,some (.int i),rfl,h,rfl⟩
  rfl
 ·rintro σ ⟨is,t,v,e,h,rfl⟩;cases is with
  |cons _ _=>cases e
  |nil=>
   rw[<-show t=it nx n (a,b,c)from h]
   rfl
theorem Ae{k:Nat}(m:Nat)(h:m<300):qf p (k+5) "row_holding" [.int (m+1:Nat)]=.ok (.int (it nx m (1,3,5)).1):=by
 have e:op2 .sub (.int ((m+1:Nat):Int)) (.int 1)=.ok (.int (m:Nat)):=by show R.ok (D.int _)=_;congr 2;lia
 have r:=ph (k:=k) ((m+1:Nat):Int) (by lia);have s:=mE (k:=k+3) 1 3 5 m (by lia);generalize ((m+1:Nat):Int)=M at *;rw[zd sS];refine zC rfl rfl ?_;simp[KG.Z,i4,r,e,s]
theorem v7{k:Nat}(m:Nat)(h:m<298):qf p (k+5) "ring_holding" [.int (m+3:Nat)]=.ok (.int (it nx m (7,11,21)).1):=by
 have e:op2 .sub (.int ((m+3:Nat):Int)) (.int 3)=.ok (.int (m:Nat)):=by show R.ok (D.int _)=_;congr 2;lia
 have r:=rH (k:=k) ((m+3:Nat):Int) (by lia);have s:=mE (k:=k+3) 7 11 21 m (by lia);generalize ((m+3:Nat):Int)=M at *;rw[zd xt];refine zC rfl rfl ?_;simp[KG.Z,ja,r,e,s]
abbrev Kv:=List ((Int×Int)×Int)
abbrev kl(x:(Int×Int)×Int):List Int:=[x.1.1,x.1.2]
abbrev vl(x:(Int×Int)×Int):D:=.int x.2
noncomputable def DK(s:Kv):D:=.dct (s.map kl) (s.map vl)
noncomputable def gt?:Kv->Int×Int->Option Int
 | [],_=>none
 |x::r,k=>if x.1=k then some x.2 else gt? r k
noncomputable def gt(s:Kv)(k:Int×Int):Int:=(gt? s k).getD 0
noncomputable def pt(s:Kv)(k:Int×Int)(v:Int):Kv:=if (gt? s k).isSome=true then s.map λx=>if x.1=k then (k,v)else x else s++[(k,v)]
theorem ei(x:(Int×Int)×Int)(k:Int×Int):kl x=[k.1,k.2]↔x.1=k:=by
 obtain⟨⟨a,b⟩,v⟩:=x;obtain⟨c,d⟩:=k;simp[kl]
theorem kL(s:Kv)(k:Int×Int):WD.atT (s.map kl) (s.map vl) [k.1,k.2]=(gt? s k).map D.int:=by
 induction s with
 |nil=>rfl
 |cons x r ih=>
  rw[aK,aK,WD.atT,gt?];by_cases h:x.1=k
  ·rw[if_pos h,if_pos ((ei x k).mpr h)];rfl
  ·rw[if_neg h,if_neg λe=>h ((ei x k).mp e),ih]
theorem kn(s:Kv)(k:Int×Int):((s.map kl).any λx=>decide (x=[k.1,k.2]))=(gt? s k).isSome:=by
 induction s with
 |nil=>rfl
 |cons x r ih=>
  rw[aK,List.any_cons,gt?,ih];by_cases h:x.1=k
  ·rw[if_pos h,decide_eq_true ((ei x k).mpr h)];rfl
  ·rw[if_neg h,decide_eq_false λe=>h ((ei x k).mp e)];rfl
theorem xq(s:Kv)(k:Int×Int)(v:Int):WD.cy (s.map kl) [k.1,k.2]=(pt s k v).map kl:=by
 rw[WD.cy,kn,pt];cases (gt? s k).isSome with
 |false=>rw[if_neg (by simp),if_neg (by simp),List.map_append];rfl
 |true=>
  rw[if_pos rfl,if_pos rfl,List.map_map];refine List.map_congr_left λx _=>?_
  show kl x=kl (if x.1=k then (k,v)else x);by_cases h:x.1=k
  ·rw[if_pos h];exact(ei x k).mpr h
  ·rw[if_neg h]
theorem vh(s:Kv)(k:Int×Int)(v:Int):WD.cw (s.map kl) (s.map vl) [k.1,k.2] (.int v)=(s.map λx=>if x.1=k then (k,v)else x).map vl:=by
 induction s with
 |nil=>rfl
 |cons x r ih=>
  rw[aK,aK,aK,aK,WD.cw,ih];by_cases h:x.1=k
  ·rw[if_pos h,if_pos ((ei x k).mpr h)]
  ·rw[if_neg h,if_neg λe=>h ((ei x k).mp e)]
theorem yD(s:Kv)(k:Int×Int)(v:Int):WD.cb (s.map kl) (s.map vl) [k.1,k.2] (.int v)=(pt s k v).map vl:=by
 rw[WD.cb,kn,pt];cases (gt? s k).isSome with
 |false=>rw[if_neg (by simp),if_neg (by simp),List.map_append];rfl
 |true=>rw[if_pos rfl,if_pos rfl,vh]
theorem w8(s:Kv)(k:Int×Int)(v:Int):(pt s k v).length<=s.length+1:=by
 rw[pt];split<;>simp
noncomputable def FD:Kv->D
 | []=>.dic []
 |x::r=>DK (x::r)
theorem jR{s:Kv}(h:s≠[]):FD s=DK s:=by
 cases s with
 |nil=>exact(h rfl).elim
 |cons x r=>rfl
theorem uJ(s:Kv)(k:Int×Int)(v:Int):pt s k v≠[]:=by
 rw[pt];cases s with
 |nil=>simp[gt?]
 |cons x r=>split<;>simp
theorem oO(s:Kv)(y b:Int):b7 (FD s) (.tup [.int y,.int b]) (.int 0)=.ok (.int (gt s (y,b))):=by
 cases s with
 |nil=>rfl
 |cons x r=>
  show R.ok ((WD.atT ((x::r).map kl) ((x::r).map vl) [y,b]).getD (.int 0))=_;rw[show ([y,b]:List Int)=[((y,b):Int×Int).1,((y,b):Int×Int).2]from rfl,kL,gt];cases gt? (x::r) (y,b)<;>rfl
theorem sC(s:Kv)(f:D->R D):fF (FD s) f=f (FD s):=by cases s<;>rfl
theorem iB{s:Kv}{x y:Int}(h:(gt? s (x,y)).isSome=true):ixD (DK s) (.tup [.int x,.int y])=.ok (.int (gt s (x,y))):=by
 show (match WD.atT (s.map kl) (s.map vl) [((x,y):Int×Int).1,((x,y):Int×Int).2]with|some d=>R.ok d|none=>.no)=_;rw[kL,gt];obtain⟨v,e⟩:=Option.isSome_iff_exists.mp h;rw[e];rfl
theorem some_of{s:Kv}{x:(Int×Int)×Int}(h:x∈s):(gt? s x.1).isSome=true:=by
 induction s with
 |nil=>cases h
 |cons y r ih=>
  rw[gt?];by_cases q:y.1=x.1
  ·rw[if_pos q];rfl
  ·rw[if_neg q];rcases aL.mp h with rfl|h
   ·exact(q rfl).elim
   ·exact ih h
theorem h9{w:W}{e:E}{τ:Env}{s:Kv}(h:evE w e τ=.ok (DK s)):evI w (.seq e) τ=.ok (s.map λx=>.tup [.int x.1.1,.int x.1.2]):=by
 rw[evI,h];show R.ok ((s.map kl).map λk=>D.tup (k.map D.int))=_;rw[List.map_map];rfl
theorem xM{w:W}{f:Kv}{ke e:E}{τ:Env}{i:Nat}{y b v:Int}(hg:zE τ i=.ok (FD f))(hk:evE w ke τ=.ok (.tup [.int y,.int b]))(he:evE w e τ=.ok (.int v))(hl:f.length<SZ):evS w (.seti i ke e) τ=.nx (τ.set i (some (FD (pt f (y,b) v)))):=by
 rw[bB,he];simp only[R.out_ok];rw[hg];simp only[R.out_ok];rw[hk];simp only[R.out_ok];rw[jR (uJ _ _ _)];have q:=xq f (y,b) v;have q':=yD f (y,b) v;cases f with
 |nil=>
  show cJ [] [] [.int y,.int b] (.int v) i τ=_;rw[cJ];rfl
 |cons x r=>
  show cJ ((x::r).map kl) ((x::r).map vl) [.int y,.int b] (.int v) i τ=_;rw[cJ,show ints? [.int y,.int b]=some [y,b]from rfl];dsimp only;rw[if_pos (by rw[a6];exact hl),DK,<-q,<-q']
noncomputable def put(h f:Kv)(k:Int×Int)(b:Int):Kv:=if 0<k.1+k.2+b then pt f (k.2,b) (gt f (k.2,b)+gt h k)else f
theorem gM(h f:Kv)(k:Int×Int)(b:Int):(put h f k b).length<=f.length+1:=by
 rw[put];split
 ·exact w8 _ _ _
 ·lia
noncomputable def two(h f:Kv)(k:Int×Int):Kv:=put h (put h f k 0) k 1
noncomputable def turn(h:Kv):Kv:=(h.map (·.1)).foldl (two h) []
abbrev bdP:Ss:=(.cons (.ite (.cmp .gt (.op .add (.op .add (.ix (.var 5) (.con (.int 0))) (.ix (.var 5) (.con (.int 1)))) (.var 6)) (.con (.int 0))) (.cons (.seti 4 (.tup (.cons (.ix (.var 5) (.con (.int 1))) (.cons (.var 6) .nil))) (.op .add (.dget2 (.own 4) (.tup (.cons (.ix (.var 5) (.con (.int 1))) (.cons (.var 6) .nil))) (.con (.int 0))) (.ix (.var 2) (.var 5)))) .nil) .nil) .nil)
abbrev AE(a n:D)(h:Kv)(v3:Option D)(f:Kv)(v5 v6:Option D):Env:=[some a,some n,some (DK h),v3,some (FD f),v5,v6]
theorem ju{w:W}{a n:D}{h f:Kv}{v3:Option D}{k:Int×Int}{b:Int}(hs:(gt? h k).isSome=true)(hl:f.length<SZ):qi w bdP (AE a n h v3 f (some (.tup [.int k.1,.int k.2])) (some (.int b)))=.nx (AE a n h v3 (put h f k b) (some (.tup [.int k.1,.int k.2])) (some (.int b))):=by
 obtain⟨x,y⟩:=k;have e0:ixD (.tup [.int x,.int y]) (.int 0)=.ok (.int x):=rfl;have e1:ixD (.tup [.int x,.int y]) (.int 1)=.ok (.int y):=rfl;have e2:=oO f y b;have e3:=iB hs;have e4:=sC f;have hc:=gti (x+y+b) 0;dsimp only;have hE:evE w (.op .add (.dget2 (.own 4) (.tup (.cons (.ix (.var 5) (.con (.int 1))) (.cons (.var 6) .nil))) (.con (.int 0))) (.ix (.var 2) (.var 5))) (AE a n h v3 f (some (.tup [.int x,.int y])) (some (.int b)))=.ok (.int (gt f (y,b)+gt h (x,y))):=by
  dsimp only[AE];generalize DK h=HD at *;generalize FD f=FF at *;simp[KG.Z,qD,e0,e1,e2,e3,e4,op2]
 have hK:evE w (.tup (.cons (.ix (.var 5) (.con (.int 1))) (.cons (.var 6) .nil))) (AE a n h v3 f (some (.tup [.int x,.int y])) (some (.int b)))=.ok (.tup [.int y,.int b]):=by
  dsimp only[AE];generalize DK h=HD at *;generalize FD f=FF at *;simp[KG.Z,e1]
 have hT:evT w (.cmp .gt (.op .add (.op .add (.ix (.var 5) (.con (.int 0))) (.ix (.var 5) (.con (.int 1)))) (.var 6)) (.con (.int 0))) (AE a n h v3 f (some (.tup [.int x,.int y])) (some (.int b)))=.ok (decide (0<x+y+b)):=by
  dsimp only[AE];generalize DK h=HD at *;generalize FD f=FF at *;simp[KG.Z,e0,e1,op2,gti]
 have hS:=xM (i:=4) (τ:=AE a n h v3 f (some (.tup [.int x,.int y])) (some (.int b))) rfl hK hE hl;rw[qi,bw,hT];simp only[R.out_ok];rw[put];by_cases q:0<x+y+b
 ·rw[decide_eq_true q,if_pos rfl,if_pos q,qi,hS];rfl
 ·rw[decide_eq_false q,if_neg (by simp),if_neg q];rfl
theorem nD{w:W}{a n:D}{h f:Kv}{v3 v6:Option D}{k:Int×Int}(hs:(gt? h k).isSome=true)(hl:f.length+1<SZ):qi w (.cons (.for (.nm 6) (.seq (.tup (.cons (.con (.int 0)) (.cons (.con (.int 1)) .nil)))) bdP) .nil) (AE a n h v3 f (some (.tup [.int k.1,.int k.2])) v6)=.nx (AE a n h v3 (two h f k) (some (.tup [.int k.1,.int k.2])) (some (.int 1))):=by
 have b0:=ju (w:=w) (a:=a) (n:=n) (v3:=v3) (b:=0) (f:=f) hs (by lia);have b1:=ju (w:=w) (a:=a) (n:=n) (v3:=v3) (b:=1) (f:=put h f k 0) hs (by have:=gM h f k 0;lia);have hi:evI w (.seq (.tup (.cons (.con (.int 0)) (.cons (.con (.int 1)) .nil)))) (AE a n h v3 f (some (.tup [.int k.1,.int k.2])) v6)=.ok [.int 0,.int 1]:=rfl;rw[qi,zK,hi];simp only[R.out_ok];have s0:store (.nm 6) (.int 0) (AE a n h v3 f (some (.tup [.int k.1,.int k.2])) v6)=.ok (AE a n h v3 f (some (.tup [.int k.1,.int k.2])) (some (.int 0))):=rfl;have s1:store (.nm 6) (.int 1) (AE a n h v3 (put h f k 0) (some (.tup [.int k.1,.int k.2])) (some (.int 0)))=.ok (AE a n h v3 (put h f k 0) (some (.tup [.int k.1,.int k.2])) (some (.int 1))):=rfl;rw[bA,s0];simp only[R.out_ok];rw[b0];dsimp only;rw[bA,s1];simp only[R.out_ok];rw[b1]
 rfl
theorem pN(h f:Kv)(k:Int×Int):(two h f k).length<=f.length+2:=by
 have a:=gM h f k 0;have b:=gM h (put h f k 0) k 1;rw[two];lia
abbrev bdT:Ss:=(.cons (.set (.nm 4) .dic) (.cons (.for (.nm 5) (.seq (.var 2)) (.cons (.for (.nm 6) (.seq (.tup (.cons (.con (.int 0)) (.cons (.con (.int 1)) .nil)))) bdP) .nil)) (.cons (.give 2 4) .nil)))
theorem uO{w:W}{a n:D}{h:Kv}{v3 v4 v5 v6:Option D}(hl:h.length<=8)(hn:turn h≠[]):∃u5 u6,qi w bdT [some a,some n,some (DK h),v3,v4,v5,v6]=.nx [some a,some n,some (DK (turn h)),v3,none,u5,u6]:=by
 suffices hq:Ends (λσ=>∃v5 v6,σ=[some a,some n,some (DK (turn h)),v3,none,v5,v6]) (λ_=>False) (qi w bdT [some a,some n,some (DK h),v3,v4,v5,v6])by
  cases z:qi w bdT [some a,some n,some (DK h),v3,v4,v5,v6]with
  |nx σ=>rw[z]at hq;obtain⟨u5,u6,rfl⟩:=hq;exact⟨u5,u6,rfl⟩
  |rt d=>rw[z]at hq;exact hq.elim
  |_=>rw[z]at hq;exact hq.elim
 refine iH (σ:=AE a n h v3 [] v5 v6) rfl ?_;refine kT (ds:=h.map λx=>.tup [.int x.1.1,.int x.1.2]) (λl σ=>∃(r f:Kv) (v5 v6:Option D),l=r.map (λx=>.tup [.int x.1.1,.int x.1.2])/\(∀x∈r,x∈h)/\(r.map (·.1)).foldl (two h) f=turn h/\f.length+2 * r.length<=16/\σ=AE a n h v3 f v5 v6) (h9 rfl) ⟨h,[],v5,v6,rfl,λ_ q=>q,rfl,by simp;lia,rfl⟩ ?_ ?_
 ·rintro x l σ ⟨r,f,v5,v6,e,hm,hf,hz,rfl⟩;cases r with
  |nil=>cases e
  |cons y r=>
   rw[aK]at e;injection e with e1 e2
   subst e1 e2;rw[cg]at hz;refine⟨AE a n h v3 f (some (.tup [.int y.1.1,.int y.1.2])) v6,rfl,?_⟩;rw[nD (some_of (hm y aP)) (by simp only[SZ];lia)];refine⟨r,two h f y.1,_,_,rfl,λx q=>hm x (aO _ q),hf,?_,rfl⟩;have:=pN h f y.1;lia
 ·rintro σ ⟨r,f,v5,v6,e,hm,hf,hz,rfl⟩;cases r with
  |cons _ _=>cases e
  |nil=>
   have hf:f=turn h:=hf;subst hf;refine iH (σ:=[some a,some n,some (DK (turn h)),v3,none,v5,v6]) ?_ (jA ⟨v5,v6,rfl⟩);rw[zH];show R.out (.ok (FD (turn h))) _=_;rw[jR hn];rfl
noncomputable def fit:Nat->Kv->Bool
 | 0,_=>true
 |n+1,h=>decide (h.length<=8) && !(turn h).isEmpty&&fit n (turn h)
theorem along{k:Nat}(h:Kv)(n:Nat)(hn:n<=300)(hf:fit n h=true):qf p (k+1) "_law_along" [DK h,.int n]=.ok (DK (it turn n h)):=by
 rw[zd sM];refine zC (τ:=[some (DK h),some (.int n),none,none,none,none,none]) rfl rfl ?_;refine b8 (σ:=[some (DK h),some (.int n),some (DK h),none,none,none,none]) rfl ?_;have sm:zr (n:Int)=true:=by simp[zr];lia
 refine fL (ds:=(rng (n:Int)).map D.int) (λl σ=>∃(is:List Int) (t:Kv) (v3 v4 v5 v6:Option D),l=is.map D.int/\fit is.length t=true/\it turn is.length t=it turn n h/\σ=[some (DK h),some (.int n),some (DK t),v3,v4,v5,v6]) ?_ ⟨rng (n:Int),h,none,none,none,none,rfl,by rw[gU];exact hf,by rw[gU],rfl⟩ ?_ ?_
 ·rw[<-fb];generalize DK h=HH;simp[KG.Z,sm]
 ·rintro x l σ ⟨is,t,v3,v4,v5,v6,e,hf,hi,rfl⟩;obtain⟨i,is,rfl,rfl,rfl⟩:=fx e;rw[cg,fit,ax,ax,decide_eq_true_eq]at hf;obtain⟨v5',v6',q⟩:=uO (w:=wAt p k) (a:=DK h) (n:=.int n) (h:=t) (v3:=some (.int i)) (v4:=v4) (v5:=v5) (v6:=v6) hf.1.1 (by
   have:=hf.1.2;intro q;rw[q]at this;cases this)
  exact⟨_,_,rfl,q,is,turn t,_,_,_,_,rfl,hf.2,hi,rfl⟩
 ·rintro σ ⟨is,t,v3,v4,v5,v6,e,hf,hi,rfl⟩;cases is with
  |cons _ _=>cases e
  |nil=>
   rw[<-show t=it turn n h from hi]
   rfl
noncomputable def gI(h:Kv):Int:=((h.filter λx=>decide (0<x.1.1+x.1.2)).map λx=>gt h x.1).sum
noncomputable def r0:Kv:=[((0,0),1),((0,1),1)]
theorem tM{w:W}{a:D}{h:Kv}(hl:h.length<=300):evE w (.bi .sum (.cons (.comp (.seq (.var 1)) [none,none,some 1] (.nm 1) (.cmp .gt (.op .add (.ix (.var 1) (.con (.int 0))) (.ix (.var 1) (.con (.int 1)))) (.con (.int 0))) (.ix (.var 2) (.var 1))) .nil)) [some a,some (DK h)]=.ok (.int (gI h)):=by
 have hc:evE w (.comp (.seq (.var 1)) [none,none,some 1] (.nm 1) (.cmp .gt (.op .add (.ix (.var 1) (.con (.int 0))) (.ix (.var 1) (.con (.int 1)))) (.con (.int 0))) (.ix (.var 2) (.var 1))) [some a,some (DK h)]=.ok (.lst ((h.filter λx=>decide (0<x.1.1+x.1.2)).map λx=>.int (gt h x.1))):=by
  refine kA (f:=λx:(Int×Int)×Int=>.tup [.int x.1.1,.int x.1.2]) (l:=h) (c:=[some (DK h)]) (λx=>decide (0<x.1.1+x.1.2)) (λx=>.int (gt h x.1)) (h9 rfl) (by simp only[SZ];lia) rfl λx hx=>⟨?_,λ_=>?_⟩
  ·rfl
  ·show (R.ok (DK h)).bind (λx'=>(R.ok (D.tup [.int x.1.1,.int x.1.2])).bind λy=>ixD x' y)=_;simp only[R.bind_ok];exact iB (x:=x.1.1) (y:=x.1.2) (some_of hx)
 rw[qh,zG,hc];simp only[R.bind_ok,zG];have e:((h.filter λx=>decide (0<x.1.1+x.1.2)).map λx=>D.int (gt h x.1))=((h.filter λx=>decide (0<x.1.1+x.1.2)).map λx=>gt h x.1).map D.int:=by rw[List.map_map];rfl
 rw[e,sum_ints];rfl
noncomputable def okR(a b:Int)(k:Int×Int):Bool:=decide (0<k.1+k.2+a)&&decide (0<k.2+a+b)
noncomputable def zA(a b:Int)(h:Kv)(f:Int):Int:=h.foldl (λf x=>if okR a b x.1=true then f+gt h x.1 else f) f
abbrev bdR:Ss:=(.cons (.ite (.and (.cmp .gt (.op .add (.op .add (.ix (.var 5) (.con (.int 0))) (.ix (.var 5) (.con (.int 1)))) (.var 2)) (.con (.int 0))) (.cmp .gt (.op .add (.op .add (.ix (.var 5) (.con (.int 1))) (.var 2)) (.var 3)) (.con (.int 0)))) (.cons (.set (.nm 1) (.op .add (.var 1) (.ix (.var 4) (.var 5)))) .nil) .nil) .nil)
theorem xJ{w:W}{n:D}{a b f:Int}{h:Kv}{k:Int×Int}(hs:(gt? h k).isSome=true):qi w bdR [some n,some (.int f),some (.int a),some (.int b),some (DK h),some (.tup [.int k.1,.int k.2])]=.nx [some n,some (.int (if okR a b k=true then f+gt h k else f)),some (.int a),some (.int b),some (DK h),some (.tup [.int k.1,.int k.2])]:=by
 obtain⟨x,y⟩:=k;have e0:ixD (.tup [.int x,.int y]) (.int 0)=.ok (.int x):=rfl;have e1:ixD (.tup [.int x,.int y]) (.int 1)=.ok (.int y):=rfl;have e3:=iB hs;have hT:evT w (.and (.cmp .gt (.op .add (.op .add (.ix (.var 5) (.con (.int 0))) (.ix (.var 5) (.con (.int 1)))) (.var 2)) (.con (.int 0))) (.cmp .gt (.op .add (.op .add (.ix (.var 5) (.con (.int 1))) (.var 2)) (.var 3)) (.con (.int 0)))) [some n,some (.int f),some (.int a),some (.int b),some (DK h),some (.tup [.int x,.int y])]=.ok (okR a b (x,y)):=by
  rw[okR];generalize DK h=HD at *;by_cases q:0<x+y+a
  ·simp[KG.Z,e0,e1,op2,gti,q]
  ·simp[KG.Z,e0,e1,op2,gti,q]
 dsimp only;rw[qi,bw,hT];simp only[R.out_ok];cases okR a b (x,y)with
 |false=>rfl
 |true=>
  generalize DK h=HD at *;simp[KG.Z,op2,e3]
abbrev bdQ:Ss:=(.cons (.set (.nm 4) (.call "_law_along" (.cons (.dct1 (.tup (.cons (.var 2) (.cons (.var 3) .nil))) (.con (.int 1))) (.cons (.op .sub (.var 0) (.con (.int 2))) .nil)))) (.cons (.for (.nm 5) (.seq (.var 4)) bdR) .nil))
theorem kI{w:W}{m:Nat}{a b f:Int}{h:Kv}{v4 v5:Option D}(hw:w.call "_law_along" [DK [((a,b),1)],.int (m:Nat)]=.ok (DK h)):∃u4 u5,qi w bdQ [some (.int (m+2:Nat)),some (.int f),some (.int a),some (.int b),v4,v5]=.nx [some (.int (m+2:Nat)),some (.int (zA a b h f)),some (.int a),some (.int b),u4,u5]:=by
 suffices hq:Ends (λσ=>∃u4 u5,σ=[some (.int (m+2:Nat)),some (.int (zA a b h f)),some (.int a),some (.int b),u4,u5]) (λ_=>False) (qi w bdQ [some (.int (m+2:Nat)),some (.int f),some (.int a),some (.int b),v4,v5])by
  cases z:qi w bdQ [some (.int (m+2:Nat)),some (.int f),some (.int a),some (.int b),v4,v5]with
  |nx σ=>rw[z]at hq;obtain⟨u4,u5,rfl⟩:=hq;exact⟨u4,u5,rfl⟩
  |rt d=>rw[z]at hq;exact hq.elim
  |_=>rw[z]at hq;exact hq.elim
 have e:op2 .sub (.int ((m+2:Nat):Int)) (.int 2)=.ok (.int (m:Nat)):=by show R.ok (D.int _)=_;congr 2;lia
 have ed:dI [(.tup [.int a,.int b],.int 1)]=.ok (DK [((a,b),1)]):=rfl;generalize ((m+2:Nat):Int)=M at *;refine iH (σ:=[some (.int M),some (.int f),some (.int a),some (.int b),some (DK h),v5]) ?_ ?_
 ·generalize DK h=HD at *;generalize DK [((a,b),1)]=H1 at *;simp[KG.Z,qm,e,ed,hw]
 refine kT (ds:=h.map λx=>.tup [.int x.1.1,.int x.1.2]) (λl σ=>∃(r:Kv) (g:Int) (v5:Option D),l=r.map (λx=>.tup [.int x.1.1,.int x.1.2])/\(∀x∈r,x∈h)/\r.foldl (λf x=>if okR a b x.1=true then f+gt h x.1 else f) g=zA a b h f/\σ=[some (.int M),some (.int g),some (.int a),some (.int b),some (DK h),v5]) (h9 rfl) ⟨h,f,v5,rfl,λ_ q=>q,rfl,rfl⟩ ?_ ?_
 ·rintro x l σ ⟨r,g,v5,e,hm,hf,rfl⟩;cases r with
  |nil=>cases e
  |cons y r=>
   rw[aK]at e;injection e with e1 e2
   subst e1 e2;refine⟨[some (.int M),some (.int g),some (.int a),some (.int b),some (DK h),some (.tup [.int y.1.1,.int y.1.2])],rfl,?_⟩;rw[xJ (some_of (hm y aP))];exact⟨r,_,_,rfl,λx q=>hm x (aO _ q),hf,rfl⟩
 ·rintro σ ⟨r,g,v5,e,hm,hf,rfl⟩;cases r with
  |cons _ _=>cases e
  |nil=>
   have hf:g=zA a b h f:=hf;subst hf;exact jA ⟨_,_,rfl⟩
theorem tY{k:Nat}(m:Nat)(hm:m<=300)(hf:fit m r0=true)(hl:(it turn m r0).length<=8):qf p (k+2) "_law_row" [.int (m+1:Nat)]=.ok (.int (gI (it turn m r0))):=by
 have e:op2 .sub (.int ((m+1:Nat):Int)) (.int 1)=.ok (.int (m:Nat)):=by show R.ok (D.int _)=_;congr 2;lia
 have a:=along (k:=k) r0 m hm hf;have ed:dI [(.tup [.int 0,.int 0],.int 1),(.tup [.int 0,.int 1],.int 1)]=.ok (DK r0):=rfl;rw[zd pW];refine zC (τ:=[some (.int (m+1:Nat)),none]) rfl rfl ?_;refine b8 (σ:=[some (.int (m+1:Nat)),some (DK (it turn m r0))]) ?_ ?_
 ·generalize ((m+1:Nat):Int)=M at *;generalize DK (it turn m r0)=HD at *;generalize DK r0=H0 at *;simp[KG.Z,qu,e,ed,a]
 ·rw[qi,bu,tM (by lia)];rfl
abbrev one(a b:Int):Kv:=[((a,b),1)]
abbrev bdA:Ss:=(.cons (.for (.nm 3) (.seq (.tup (.cons (.con (.int 0)) (.cons (.con (.int 1)) .nil)))) bdQ) .nil)
theorem mq{w:W}{m:Nat}{a f:Int}{h0 h1:Kv}{v3 v4 v5:Option D}(w0:w.call "_law_along" [DK (one a 0),.int (m:Nat)]=.ok (DK h0))(w1:w.call "_law_along" [DK (one a 1),.int (m:Nat)]=.ok (DK h1)):∃u4 u5,qi w bdA [some (.int (m+2:Nat)),some (.int f),some (.int a),v3,v4,v5]=.nx [some (.int (m+2:Nat)),some (.int (zA a 1 h1 (zA a 0 h0 f))),some (.int a),some (.int 1),u4,u5]:=by
 obtain⟨x4,x5,q0⟩:=kI (f:=f) (v4:=v4) (v5:=v5) w0;obtain⟨y4,y5,q1⟩:=kI (f:=zA a 0 h0 f) (v4:=x4) (v5:=x5) w1;refine⟨y4,y5,?_⟩;have hi:evI w (.seq (.tup (.cons (.con (.int 0)) (.cons (.con (.int 1)) .nil)))) [some (.int (m+2:Nat)),some (.int f),some (.int a),v3,v4,v5]=.ok [.int 0,.int 1]:=rfl;have s0:store (.nm 3) (.int 0) [some (.int (m+2:Nat)),some (.int f),some (.int a),v3,v4,v5]=.ok [some (.int (m+2:Nat)),some (.int f),some (.int a),some (.int 0),v4,v5]:=rfl;have s1:store (.nm 3) (.int 1) [some (.int (m+2:Nat)),some (.int (zA a 0 h0 f)),some (.int a),some (.int 0),x4,x5]=.ok [some (.int (m+2:Nat)),some (.int (zA a 0 h0 f)),some (.int a),some (.int 1),x4,x5]:=rfl;rw[qi,zK,hi];simp only[R.out_ok];rw[bA,s0];simp only[R.out_ok];rw[q0];dsimp only;rw[bA,s1];simp only[R.out_ok];rw[q1]
 rfl
theorem we{k:Nat}(m:Nat)(hm:m<=300)(f00:fit m (one 0 0)=true)(f01:fit m (one 0 1)=true)(f10:fit m (one 1 0)=true)(f11:fit m (one 1 1)=true):qf p (k+2) "_law_ring" [.int (m+2:Nat)]=.ok (.int (zA 1 1 (it turn m (one 1 1)) (zA 1 0 (it turn m (one 1 0)) (zA 0 1 (it turn m (one 0 1)) (zA 0 0 (it turn m (one 0 0)) 0))))):=by
 rw[zd ny];refine zC (τ:=[some (.int (m+2:Nat)),none,none,none,none,none]) rfl rfl ?_;refine b8 (σ:=[some (.int (m+2:Nat)),some (.int 0),none,none,none,none]) rfl ?_;obtain⟨x4,x5,q0⟩:=mq (w:=wAt p (k+1)) (f:=0) (v3:=none) (v4:=none) (v5:=none) (along (k:=k) (one 0 0) m hm f00) (along (k:=k) (one 0 1) m hm f01);obtain⟨y4,y5,q1⟩:=mq (w:=wAt p (k+1)) (f:=zA 0 1 (it turn m (one 0 1)) (zA 0 0 (it turn m (one 0 0)) 0)) (v3:=some (.int 1)) (v4:=x4) (v5:=x5) (along (k:=k) (one 1 0) m hm f10) (along (k:=k) (one 1 1) m hm f11);have hi:evI (wAt p (k+1)) (.seq (.tup (.cons (.con (.int 0)) (.cons (.con (.int 1)) .nil)))) [some (.int (m+2:Nat)),some (.int 0),none,none,none,none]=.ok [.int 0,.int 1]:=rfl;generalize zA 1 1 (it turn m (one 1 1)) (zA 1 0 (it turn m (one 1 0)) (zA 0 1 (it turn m (one 0 1)) (zA 0 0 (it turn m (one 0 0)) 0)))=F2 at *;generalize zA 0 1 (it turn m (one 0 1)) (zA 0 0 (it turn m (one 0 0)) 0)=F1 at *;have s0:store (.nm 2) (.int 0) [some (.int (m+2:Nat)),some (.int 0),none,none,none,none]=.ok [some (.int (m+2:Nat)),some (.int 0),some (.int 0),none,none,none]:=rfl;have s1:store (.nm 2) (.int 1) [some (.int (m+2:Nat)),some (.int F1),some (.int 0),some (.int 1),x4,x5]=.ok [some (.int (m+2:Nat)),some (.int F1),some (.int 1),some (.int 1),x4,x5]:=rfl;refine b8 (σ:=[some (.int (m+2:Nat)),some (.int F2),some (.int 1),some (.int 1),y4,y5]) ?_ rfl;rw[zK,hi];simp only[R.out_ok];rw[bA,s0];simp only[R.out_ok];rw[show qi ⟨qf p (k+1),p.glb,p.sub,p.cat⟩ _ [some (.int (m+2:Nat)),some (.int 0),some (.int 0),none,none,none]=_ from q0];dsimp only;rw[bA,s1];simp only[R.out_ok];rw[show qi ⟨qf p (k+1),p.glb,p.sub,p.cat⟩ _ [some (.int (m+2:Nat)),some (.int F1),some (.int 1),some (.int 1),x4,x5]=_ from q1]
 rfl
noncomputable def eQ:Nat->Kv->T3->Bool
 | 0,_,_=>true
 |n+1,h,t=>decide (h.length<=8) && !(turn h).isEmpty&&decide (gI h=t.1)&&eQ n (turn h) (nx t)
theorem lQ{N m:Nat}{h:Kv}{t:T3}(q:eQ N h t=true)(hm:m<N):fit m h=true/\(it turn m h).length<=8/\gI (it turn m h)=(it nx m t).1:=by
 induction m generalizing N h t with
 |zero=>
  obtain⟨N,rfl⟩:∃M,N=M+1:=⟨N-1,by lia⟩
  rw[eQ]at q;simp only[ax,decide_eq_true_eq]at q;exact⟨rfl,q.1.1.1,q.1.2⟩
 |succ m ih=>
  obtain⟨N,rfl⟩:∃M,N=M+1:=⟨N-1,by lia⟩
  rw[eQ]at q;simp only[ax,decide_eq_true_eq]at q;obtain⟨a,b,c⟩:=ih q.2 (by lia);refine⟨?_,b,c⟩;rw[fit,a];simp only[ax,decide_eq_true_eq];exact⟨q.1.1,trivial⟩
theorem jv:eQ 300 r0 (1,3,5)=true:=by decide +kernel
noncomputable def fI:Nat->Kv->Kv->Kv->Kv->T3->Bool
 | 0,_,_,_,_,_=>true
 |n+1,a,b,c,d,t=>(decide (a.length<=8) && !(turn a).isEmpty&&decide (b.length<=8) && !(turn b).isEmpty&&decide (c.length<=8) && !(turn c).isEmpty&&decide (d.length<=8) && !(turn d).isEmpty)&&decide (zA 1 1 d (zA 1 0 c (zA 0 1 b (zA 0 0 a 0)))=t.1)&&fI n (turn a) (turn b) (turn c) (turn d) (nx t)
theorem vW{N m:Nat}{a b c d:Kv}{t:T3}(q:fI N a b c d t=true)(hm:m<N):(fit m a=true/\fit m b=true/\fit m c=true/\fit m d=true)/\zA 1 1 (it turn m d) (zA 1 0 (it turn m c) (zA 0 1 (it turn m b) (zA 0 0 (it turn m a) 0)))=(it nx m t).1:=by
 induction m generalizing N a b c d t with
 |zero=>
  obtain⟨N,rfl⟩:∃M,N=M+1:=⟨N-1,by lia⟩
  rw[fI]at q;simp only[ax,decide_eq_true_eq]at q;exact⟨⟨rfl,rfl,rfl,rfl⟩,q.1.2⟩
 |succ m ih=>
  obtain⟨N,rfl⟩:∃M,N=M+1:=⟨N-1,by lia⟩
  rw[fI]at q;simp only[ax,decide_eq_true_eq]at q;obtain⟨⟨f1,f2,f3,f4⟩,e⟩:=ih q.2 (by lia);obtain⟨⟨⟨⟨⟨⟨⟨⟨a1,a2⟩,b1⟩,b2⟩,c1⟩,c2⟩,d1⟩,d2⟩,_⟩:=q.1;refine⟨⟨?_,?_,?_,?_⟩,e⟩<;>rw[fit]<;>simp only[ax,decide_eq_true_eq]
  ·exact⟨⟨a1,a2⟩,f1⟩
  ·exact⟨⟨b1,b2⟩,f2⟩
  ·exact⟨⟨c1,c2⟩,f3⟩
  ·exact⟨⟨d1,d2⟩,f4⟩
theorem wy:fI 298 (turn (one 0 0)) (turn (one 0 1)) (turn (one 1 0)) (turn (one 1 1)) (7,11,21)=true:=by decide +kernel
noncomputable def hp:Nat->List Int->Int->Int->Int
 |_,[],_,f=>f
 |i,x::r,m,f=>hp (i+1) r m (if PySem.Builtin.bitAnd (m/2^i) 1=1 then PySem.Builtin.bitOr f x else f)
theorem held{k:Nat}(L:List Int)(m:Int):qf p (k+1) "_law_held" [.lst (L.map D.int),.int m]=.ok (.int (hp 0 L m 0)):=by
 rw[zd pq];refine zC (τ:=[some (.lst (L.map D.int)),some (.int m),none,none,none]) rfl rfl ?_;refine b8 (σ:=[some (.lst (L.map D.int)),some (.int m),some (.int 0),none,none]) rfl ?_;refine fL (ds:=cj 0 (L.map D.int)) (λl σ=>∃(i:Nat) (r:List Int) (f:Int) (v3 v4:Option D),l=cj i (r.map D.int)/\hp i r m f=hp 0 L m 0/\σ=[some (.lst (L.map D.int)),some (.int m),some (.int f),v3,v4]) rfl ⟨0,L,0,none,none,rfl,rfl,rfl⟩ ?_ ?_
 ·rintro x l σ ⟨i,r,f,v3,v4,e,h,rfl⟩;cases r with
  |nil=>cases e
  |cons y r=>
   rw[aK,cj]at e;injection e with e1 e2
   subst e1 e2;refine⟨_,[some (.lst (L.map D.int)),some (.int m),some (.int (if PySem.Builtin.bitAnd (m/2^i) 1=1 then PySem.Builtin.bitOr f y else f)),some (.int i),some (.int y)],rfl,?_,i+1,r,_,_,_,rfl,h,rfl⟩;have a1:op2 .shr (.int m) (.int (i:Int))=.ok (.int (m/2^i)):=by
    show (if (0:Int)<=i then R.ok (D.int (m/2^((i:Nat):Int).toNat))else .no)=_;rw[if_pos (by lia)];rfl
   have a2:op2 .band (.int (m/2^i)) (.int 1)=.ok (.int (PySem.Builtin.bitAnd (m/2^i) 1)):=rfl;have a3:op2 .bor (.int f) (.int y)=.ok (.int (PySem.Builtin.bitOr f y)):=rfl;have a4:=eqi (PySem.Builtin.bitAnd (m/2^i) 1) 1;generalize PySem.Builtin.bitAnd (m/2^i) 1=B at *;generalize m/2^i=B' at *;generalize PySem.Builtin.bitOr f y=B2 at *;generalize ((i:Nat):Int)=I at *;generalize D.lst (L.map D.int)=LL at *;by_cases q:B=1
   ·rw[if_pos q];rw[decide_eq_true q]at a4;simp[KG.Z,a1,a2,a3,a4]
   ·rw[if_neg q];rw[decide_eq_false q]at a4;simp[KG.Z,a1,a2,a3,a4]
 ·rintro σ ⟨i,r,f,v3,v4,e,h,rfl⟩;cases r with
  |cons _ _=>cases e
  |nil=>
   rw[<-show f=hp 0 L m 0 from h]
   rfl
abbrev s1:S:=(.set (.nm 2) (.comp (.rng (.var 0)) [none,none,some 0] (.nm 1) .yes (.bi .sum (.cons (.comp (.seq (.tup (.cons (.op .sub (.var 1) (.con (.int 1))) (.cons (.var 1) (.cons (.op .add (.var 1) (.con (.int 1))) .nil))))) [none,none,some 2] (.nm 1) (.cmp2 .le .lt (.con (.int 0)) (.var 1) (.var 2)) (.op .shl (.con (.int 1)) (.var 1))) .nil))))
abbrev s2:S:=(.ite (.val (.var 1)) (.cons (.seti2 2 (.con (.int 0)) (.op .sub (.var 0) (.con (.int 1))) (.tup (.cons (.op .bor (.ix (.own 2) (.con (.int 0))) (.op .shl (.con (.int 1)) (.op .sub (.var 0) (.con (.int 1))))) (.cons (.op .bor (.ix (.own 2) (.op .sub (.var 0) (.con (.int 1)))) (.con (.int 1))) .nil)))) .nil) .nil)
abbrev s3:S:=(.set (.nm 3) (.op .sub (.op .shl (.con (.int 1)) (.var 0)) (.con (.int 1))))
theorem trial{k:Nat}{n r:Int}{c:Bool}(L0 L:List Int)(e:Int)(he:0<=e/\e<=2000)
  (h1:∀w:W,evS w s1 [some (.int n),some (.bl c),none,none]=.nx [some (.int n),some (.bl c),some (.lst (L0.map D.int)),none])
  (h2:∀w:W,evS w s2 [some (.int n),some (.bl c),some (.lst (L0.map D.int)),none]=.nx [some (.int n),some (.bl c),some (.lst (L.map D.int)),none])
  (h3:∀w:W,evS w s3 [some (.int n),some (.bl c),some (.lst (L.map D.int)),none]=.nx [some (.int n),some (.bl c),some (.lst (L.map D.int)),some (.int e)])
  (hr:(((rng (e+1)).filter λm=>decide (hp 0 L m 0=e)).length:Int)=r):qf p (k+2) "_law_trial" [.int n,.bl c]=.ok (.int r):=by
 rw[zd wo];refine zC (τ:=[some (.int n),some (.bl c),none,none]) rfl rfl ?_;refine b8 (h1 _) ?_;refine b8 (h2 _) ?_;refine b8 (h3 _) ?_;have hc:evE (wAt p (k+1)) (.comp (.rng (.op .add (.var 3) (.con (.int 1)))) [none,none,some 3,some 2] (.nm 1) (.cmp .eq (.callo "_law_held" (.cons (.own 3) (.cons (.var 1) .nil))) (.var 2)) (.var 1)) [some (.int n),some (.bl c),some (.lst (L.map D.int)),some (.int e)]=.ok (.lst (((rng (e+1)).filter λm=>decide (hp 0 L m 0=e)).map D.int)):=by
  refine kA (f:=D.int) (l:=rng (e+1)) (c:=[some (.int e),some (.lst (L.map D.int))]) (λm=>decide (hp 0 L m 0=e)) D.int ?_ (by simp only[rng,a6,List.length_range,SZ];lia) rfl λm hm=>⟨?_,λ_=>rfl⟩
  ·have sm:zr (e+1)=true:=by simp[zr];lia
   have a:op2 .add (.int e) (.int 1)=.ok (.int (e+1)):=rfl;rw[<-fb];generalize D.lst (L.map D.int)=LL at *;generalize e+1=E1 at *;simp[KG.Z,sm,a]
  ·have hh:=held (k:=k) L m;have q:=eqi (hp 0 L m 0) e;generalize D.lst (L.map D.int)=LL at *;generalize hp 0 L m 0=H at *;simp[KG.Z,qF,hh,q,D.noL]
 rw[qi,bu,show (⟨qf p (k+1),p.glb,p.sub,p.cat⟩:W)=wAt p (k+1)from rfl,qh,zG,hc];simp only[R.bind_ok,zG];rw[r_,a6,hr];rfl
theorem xx{k:Nat}(m:Nat)(hm:m<10):qf p (k+2) "_law_trial" [.int (m+1:Nat),.bl false]=.ok (.int (it nx m (1,3,5)).1):=by
 match m,hm with
 | 0,_=>exact trial [1] [1] 1 (by decide) (λ_=>by kernel_rfl) (λ_=>by kernel_rfl) (λ_=>by kernel_rfl) (by decide +kernel)
 | 1,_=>exact trial [3,3] [3,3] 3 (by decide) (λ_=>by kernel_rfl) (λ_=>by kernel_rfl) (λ_=>by kernel_rfl) (by decide +kernel)
 | 2,_=>exact trial [3,7,6] [3,7,6] 7 (by decide) (λ_=>by kernel_rfl) (λ_=>by kernel_rfl) (λ_=>by kernel_rfl) (by decide +kernel)
 | 3,_=>exact trial [3,7,14,12] [3,7,14,12] 15 (by decide) (λ_=>by kernel_rfl) (λ_=>by kernel_rfl) (λ_=>by kernel_rfl) (by decide +kernel)
 | 4,_=>exact trial [3,7,14,28,24] [3,7,14,28,24] 31 (by decide) (λ_=>by kernel_rfl) (λ_=>by kernel_rfl) (λ_=>by kernel_rfl) (by decide +kernel)
 | 5,_=>exact trial [3,7,14,28,56,48] [3,7,14,28,56,48] 63 (by decide) (λ_=>by kernel_rfl) (λ_=>by kernel_rfl) (λ_=>by kernel_rfl) (by decide +kernel)
 | 6,_=>exact trial [3,7,14,28,56,112,96] [3,7,14,28,56,112,96] 127 (by decide) (λ_=>by kernel_rfl) (λ_=>by kernel_rfl) (λ_=>by kernel_rfl) (by decide +kernel)
 | 7,_=>exact trial [3,7,14,28,56,112,224,192] [3,7,14,28,56,112,224,192] 255 (by decide) (λ_=>by kernel_rfl) (λ_=>by kernel_rfl) (λ_=>by kernel_rfl) (by decide +kernel)
 | 8,_=>exact trial [3,7,14,28,56,112,224,448,384] [3,7,14,28,56,112,224,448,384] 511 (by decide) (λ_=>by kernel_rfl) (λ_=>by kernel_rfl) (λ_=>by kernel_rfl) (by decide +kernel)
 | 9,_=>exact trial [3,7,14,28,56,112,224,448,896,768] [3,7,14,28,56,112,224,448,896,768] 1023 (by decide) (λ_=>by kernel_rfl) (λ_=>by kernel_rfl) (λ_=>by kernel_rfl) (by decide +kernel)
 |n+10,h=>exact absurd h (by lia)
theorem yk{k:Nat}(m:Nat)(hm:m<8):qf p (k+2) "_law_trial" [.int (m+3:Nat),.bl true]=.ok (.int (it nx m (7,11,21)).1):=by
 match m,hm with
 | 0,_=>exact trial [3,7,6] [7,7,7] 7 (by decide) (λ_=>by kernel_rfl) (λ_=>by kernel_rfl) (λ_=>by kernel_rfl) (by decide +kernel)
 | 1,_=>exact trial [3,7,14,12] [11,7,14,13] 15 (by decide) (λ_=>by kernel_rfl) (λ_=>by kernel_rfl) (λ_=>by kernel_rfl) (by decide +kernel)
 | 2,_=>exact trial [3,7,14,28,24] [19,7,14,28,25] 31 (by decide) (λ_=>by kernel_rfl) (λ_=>by kernel_rfl) (λ_=>by kernel_rfl) (by decide +kernel)
 | 3,_=>exact trial [3,7,14,28,56,48] [35,7,14,28,56,49] 63 (by decide) (λ_=>by kernel_rfl) (λ_=>by kernel_rfl) (λ_=>by kernel_rfl) (by decide +kernel)
 | 4,_=>exact trial [3,7,14,28,56,112,96] [67,7,14,28,56,112,97] 127 (by decide) (λ_=>by kernel_rfl) (λ_=>by kernel_rfl) (λ_=>by kernel_rfl) (by decide +kernel)
 | 5,_=>exact trial [3,7,14,28,56,112,224,192] [131,7,14,28,56,112,224,193] 255 (by decide) (λ_=>by kernel_rfl) (λ_=>by kernel_rfl) (λ_=>by kernel_rfl) (by decide +kernel)
 | 6,_=>exact trial [3,7,14,28,56,112,224,448,384] [259,7,14,28,56,112,224,448,385] 511 (by decide) (λ_=>by kernel_rfl) (λ_=>by kernel_rfl) (λ_=>by kernel_rfl) (by decide +kernel)
 | 7,_=>exact trial [3,7,14,28,56,112,224,448,896,768] [515,7,14,28,56,112,224,448,896,769] 1023 (by decide) (λ_=>by kernel_rfl) (λ_=>by kernel_rfl) (λ_=>by kernel_rfl) (by decide +kernel)
 |n+8,h=>exact absurd h (by lia)
theorem right_of{k:Nat}{M X:Int}(hr:qf p (k+5) "row_holding" [.int M]=.ok (.int X))(hl:qf p (k+5) "_law_row" [.int M]=.ok (.int X))(ht:M<11->qf p (k+5) "_law_trial" [.int M,.bl false]=.ok (.int X))
  (hR:3<=M->∃Y:Int,qf p (k+5) "ring_holding" [.int M]=.ok (.int Y)/\qf p (k+5) "_law_ring" [.int M]=.ok (.int Y)/\(M<11->qf p (k+5) "_law_trial" [.int M,.bl true]=.ok (.int Y))):qf p (k+6) "_law_right" [.int M]=.ok (.bl true):=by
 have lw:=λi=>sy (k:=k+4) i
 have nX:zh .ne (.int X) (.int X)=.ok false:=by rw[nei];simp
 have l1:=lti M 11;have l2:=lti M 3;have l3:=gti M 10;rw[zd oa];refine zC (τ:=[some (.int M)]) rfl rfl ?_;refine b8 (σ:=[some (.int M)]) (by simp[KG.Z,hr,hl,lw,nX]) ?_;refine b8 (σ:=[some (.int M)]) ?_ ?_
 ·by_cases q:M<11
  ·have t:=ht q;rw[decide_eq_true q]at l1;simp[KG.Z,hr,t,l1,nX]
  ·rw[decide_eq_false q]at l1;simp[KG.Z,l1]
 by_cases q3:M<3
 ·rw[decide_eq_true q3]at l2;simp[KG.Z,l2]
 ·rw[decide_eq_false q3]at l2;obtain⟨Y,y1,y2,y3⟩:=hR (by lia);have nY:zh .ne (.int Y) (.int Y)=.ok false:=by rw[nei];simp
  have eY:zh .eq (.int Y) (.int Y)=.ok true:=by rw[eqi];simp
  refine b8 (σ:=[some (.int M)]) (by simp[KG.Z,l2]) ?_;refine b8 (σ:=[some (.int M)]) (by simp[KG.Z,y1,y2,lw,nY]) ?_;by_cases q:M<11
  ·have t:=y3 q;rw[decide_eq_false (show ¬ 10<M by lia)]at l3;simp[KG.Z,l3,y1,t,eY]
  ·rw[decide_eq_true (show 10<M by lia)]at l3;simp[KG.Z,l3]
theorem right{k:Nat}(M:Int)(h:1<=M/\M<=300):qf p (k+6) "_law_right" [.int M]=.ok (.bl true):=by
 obtain⟨m,rfl⟩:∃m:Nat,M=((m+1:Nat):Int):=⟨(M-1).toNat,by lia⟩
 have hm:m<300:=by lia
 obtain⟨f,l,e⟩:=lQ jv hm;refine right_of (X:=(it nx m (1,3,5)).1) (Ae m hm) (by rw[<-e];exact tY (k:=k+3) m (by lia) f l) (λq=>xx (k:=k+3) m (by lia)) λq=>?_
 obtain⟨n,rfl⟩:∃n:Nat,m=n+2:=⟨m-2,by lia⟩
 have hn:n<298:=by lia
 obtain⟨⟨f1,f2,f3,f4⟩,e'⟩:=vW wy hn;obtain⟨_,_,_⟩:=lQ jv hm;have g:∀a b:Int,(a=0\/a=1)->(b=0\/b=1)->fit n (turn (one a b))=true->fit (n+1) (one a b)=true:=by
  intro a b ha hb q;rw[fit,q];rcases ha with rfl|rfl<;>rcases hb with rfl|rfl<;>rfl
 refine⟨(it nx n (7,11,21)).1,v7 n hn,?_,λq=>yk (k:=k+3) n (by lia)⟩;rw[<-e'];exact we (k:=k+3) (n+1) (by lia) (g 0 0 (.inl rfl) (.inl rfl) f1) (g 0 1 (.inl rfl) (.inr rfl) f2) (g 1 0 (.inr rfl) (.inl rfl) f3) (g 1 1 (.inr rfl) (.inr rfl) f4)
theorem nq:∀ns:List Int,ns.length<=63->qf p depth "law" [.lst (ns.map D.int)]=.ok (.bl true):=by
 intro ns hn;obtain⟨x,hx⟩:=wW vk (k:=7) ns;have hs:=λc j=>t4 yB (k:=7) c j
 have hR:=λM h=>right (k:=2) M h
 rw[show depth=8+1 from rfl,zd sL];refine zC (τ:=[some (.lst (ns.map D.int)),none,none,none]) rfl rfl ?_;refine fL (ds:=[1,2,3,4,5,300].map D.int) (λl σ=>∃(is:List Int) (v:Option D),l=is.map D.int/\(∀i∈is,1<=i/\i<=300)/\σ=[some (.lst (ns.map D.int)),v,none,none]) rfl ⟨[1,2,3,4,5,300],none,rfl,by decide,rfl⟩ ?_ ?_
 ·rintro x l σ ⟨is,v,e,hm,rfl⟩;obtain⟨i,is,rfl,rfl,rfl⟩:=fx e;refine⟨_,[some (.lst (ns.map D.int)),some (.int i),none,none],rfl,?_,is,_,rfl,λj hj=>hm j (aO _ hj),rfl⟩;have r:=hR i (hm i aP);generalize D.lst (ns.map D.int)=LL;simp[KG.Z,r]
 rintro σ ⟨is,v,e,-,rfl⟩;obtain⟨cs0,hcs,hcl⟩:=nT ns (some 1) (some 3);have o0:op2 .add (.lst [.int x]) (.lst (cs0.map D.int))=.ok (.lst ((x::cs0).map D.int)):=by
  rw[op2,if_pos (by simp[SZ];lia)];simp
 have ec:evE ⟨qf p 8,p.glb,p.sub,p.cat⟩ (.op .add (.lst (.cons (.call "_law_cell_at" (.cons (.var 0) (.cons (.con (.int 0)) .nil))) .nil)) (.sl (.var 0) (.some (.con (.int 1))) (.some (.con (.int 3))))) [some (.lst (ns.map D.int)),v,none,none]=.ok (.lst ((x::cs0).map D.int)):=by
  have o1:slD (.lst (ns.map D.int)) (some 1) (some 3)=.ok (.lst (cs0.map D.int)):=by rw[slD,hcs]
  generalize D.lst ((x::cs0).map D.int)=L2 at *;generalize D.lst (cs0.map D.int)=L1 at *;generalize D.lst (ns.map D.int)=LL at *;simp[KG.Z,hx,o0,o1]
 generalize x::cs0=cs at ec;refine fL (ds:=cs.map D.int) (λl σ=>∃(is:List Int) (v v2 v3:Option D),l=is.map D.int/\σ=[some (.lst (ns.map D.int)),v,v2,v3]) (rR ec) ⟨cs,v,none,none,rfl,rfl⟩ ?_ ?_
 ·rintro x l σ ⟨is,v,v2,v3,e,rfl⟩;obtain⟨i,is,rfl,rfl,rfl⟩:=fx e;refine⟨_,[some (.lst (ns.map D.int)),v,some (.int i),some (.int (st i 1))],rfl,?_,is,_,_,_,rfl,rfl⟩;have r1:=hR (1+st i 1%300) (by lia);have r2:=hR (1+st i 1/300%10) (by lia);have h1:=hs i 1;have o1:op2 .mod (.int (st i 1)) (.int 300)=.ok (.int (st i 1%300)):=rfl;have o2:op2 .add (.int 1) (.int (st i 1%300))=.ok (.int (1+st i 1%300)):=rfl;have o3:op2 .fdiv (.int (st i 1)) (.int 300)=.ok (.int (st i 1/300)):=rfl;have o4:op2 .mod (.int (st i 1/300)) (.int 10)=.ok (.int (st i 1/300%10)):=rfl;have o5:op2 .add (.int 1) (.int (st i 1/300%10))=.ok (.int (1+st i 1/300%10)):=rfl;generalize 1+st i 1/300%10=Z5 at *;generalize 1+st i 1%300=Z2 at *;generalize st i 1/300%10=Z4 at *;generalize st i 1/300=Z3 at *;generalize st i 1%300=Z1 at *;generalize st i 1=Z0 at *;generalize D.lst (ns.map D.int)=LL;simp[KG.Z,r1,r2,h1,o1,o2,o3,o4,o5]
 ·rintro σ ⟨is,v,v2,v3,e,rfl⟩
  rfl
end K54
namespace K54
open PySem PySem.Spec PyProof.Rows L2 EV
theorem jB:∀e∈tab,cFn G (eh us oth) e.own e.fr e.st=some e.fn:=by
 intro e he;simp only[tab,aL,cf,or_false]at he;rcases he with rfl|rfl|rfl|rfl|rfl|rfl|rfl|rfl|rfl|rfl|rfl|rfl|rfl|rfl|rfl|rfl|rfl|rfl<;>kernel_rfl
theorem nh:∀e∈us,e∈tab:=by
 intro e he;cases he
theorem nQ:∀e∈us,j1 (cV oth) e.own e.fr e.st=some e.fn:=by
 intro e he;cases he
theorem nd:(tab.map (·.x)).Nodup:=by decide +kernel
section
variable{K:ao}{h:Heap}{mg:Str->Option ae}{f0:Addr}(d0:WB.Dd K "is_whole" (top 4) f0){f1:Addr}(d1:WB.Dd K "is_between" (top 5) f1){f2:Addr}(d2:WB.Dd K "need_between" (top 6) f2){f3:Addr}(d3:WB.Dd K "need_row" (top 9) f3){f4:Addr}(d4:WB.Dd K "need_ring" (top 10) f4){f5:Addr}(d5:WB.Dd K "row_holding" (top 11) f5){f6:Addr}(d6:WB.Dd K "ring_holding" (top 12) f6){f7:Addr}(d7:WB.Dd K "summed_on" (top 13) f7){f8:Addr}(d8:WB.Dd K "_law_cell_at" (top 15) f8){f9:Addr}(d9:WB.Dd K "_law_stir" (top 16) f9){f10:Addr}(d10:WB.Dd K "_law_whole" (top 17) f10){f11:Addr}(d11:WB.Dd K "_law_held" (top 18) f11){f12:Addr}(d12:WB.Dd K "_law_along" (top 19) f12){f13:Addr}(d13:WB.Dd K "_law_row" (top 20) f13){f14:Addr}(d14:WB.Dd K "_law_ring" (top 21) f14){f15:Addr}(d15:WB.Dd K "_law_trial" (top 22) f15){f16:Addr}(d16:WB.Dd K "_law_right" (top 23) f16){f17:Addr}(d17:WB.Dd K "law" (top 24) f17)
include d0 d1 d2 d3 d4 d5 d6 d7 d8 d9 d10 d11 d12 d13 d14 d15 d16 d17
theorem yy:∀e∈tab,eR K G e:=by
 intro e he;simp only[tab,aL,cf,or_false]at he;rcases he with rfl|rfl|rfl|rfl|rfl|rfl|rfl|rfl|rfl|rfl|rfl|rfl|rfl|rfl|rfl|rfl|rfl|rfl<;>refine⟨⟨_,by assumption⟩,λ_ _ _ _ _ _ us hl=>?_⟩<;>first|(obtain⟨_,rfl⟩:=WB.lN hl;rfl)|(obtain⟨_,_,rfl⟩:=WB.my hl;rfl)|(obtain⟨_,_,_,rfl⟩:=WB.uq hl;rfl)
omit d0 d1 d2 d3 d4 d5 d6 d7 d8 d9 d10 d11 d12 d13 d14 d15 d16 d17
theorem jn{x:Str}{k:GK}(h:oth.lookup x=some k):∃y∈oth,x=y.1/\k=y.2:=by
 generalize oth=l at h ⊢
 induction l with
 |nil=>cases h
 |cons a r ih=>
  rw[aW]at h;split at h
  ·rename_i q;cases h;exact⟨a,aP,eq_of_beq q,rfl⟩
  ·obtain⟨y,h1,h2⟩:=ih h;exact⟨y,aO _ h1,h2⟩
theorem yq{K:ao}{C0:Addr}(k0:aC K ay "NoNumber" = some (some (.ref C0)))(x0:PySem.W.excIn K C0 gq "ValueError.__new__" = true){tk0:Tok}(u0:aC K ay "LONGEST" = some (some (.int 300 tk0)))(z0:aC K ay "len" = some none)(z1:aC K ay "int" = some none)(z2:aC K ay "bool" = some none)(z3:aC K ay "sum" = some none)(z4:aC K ay "range" = some none)(z5:aC K ay "enumerate" = some none)(z6:aC K ay "isinstance" = some none):∀x k,oth.lookup x=some k->lH K vals x k:=by
 intro x k h;obtain⟨y,h1,rfl,rfl⟩:=jn h;simp only[oth,aL,cf,or_false]at h1;rcases h1 with rfl|rfl|rfl|rfl|rfl|rfl|rfl|rfl|rfl
 ·exact⟨_,k0,x0⟩
 ·exact⟨_,.int 300,.int 300,u0,⟨_,rfl⟩,rfl,λg H _=>.int _⟩
 ·exact⟨z0,rfl,_,rfl⟩
 ·exact⟨z1,by decide +kernel,by simp,by simp[b1N,b1V]⟩
 ·exact⟨z2,by decide +kernel,by simp,by simp[b1N,b1V]⟩
 ·exact⟨z3,rfl,_,rfl⟩
 ·exact⟨z4,rfl⟩
 ·exact⟨z5,rfl⟩
 ·exact⟨z6,rfl⟩
theorem nz:∀x fr,oth.lookup x≠some (.fn fr):=by
 intro x fr h;obtain⟨y,h1,rfl,h2⟩:=jn h;simp only[oth,aL,cf,or_false]at h1;rcases h1 with rfl|rfl|rfl|rfl|rfl|rfl|rfl|rfl|rfl<;>cases h2
theorem rD:∀x,(oth.lookup x=some .exc\/oth.lookup x=some .exk)->([aU "NoNumber"]:List Str).contains x=true:=by
 intro x h;rcases h with h|h<;>obtain⟨y,h1,rfl,h2⟩:=jn h<;>simp only[oth,aL,cf,or_false]at h1<;>rcases h1 with rfl|rfl|rfl|rfl|rfl|rfl|rfl|rfl|rfl<;>first|(cases h2;done)|decide +kernel
theorem nc{K:ao}{C0:Addr}(k0:aC K ay "NoNumber" = some (some (.ref C0)))  : ∀y∈bW,∃C D,aC K ay y.1=some (some (.ref C))/\aC K ay y.2=some (some (.ref D))/\PySem.W.exmOne K (.ref C) (.ref D)=some true:=by
 intro y h1;simp only[bW,aL,cf,or_false]at h1
 skip
theorem wj{K:ao}{C0:Addr}(k0:aC K ay "NoNumber" = some (some (.ref C0)))  : ∀y∈subs,jJ K [aU "NoNumber"] y:=by
 intro y h1;cases h1
include d0 d1 d2 d3 d4 d5 d6 d7 d8 d9 d10 d11 d12 d13 d14 d15 d16 d17
theorem all_mk(X:K.In h)(N:h.Ns ay mg){C0:Addr}(k0:aC K ay "NoNumber" = some (some (.ref C0)))(x0:PySem.W.excIn K C0 gq "ValueError.__new__" = true){tk0:Tok}(u0:aC K ay "LONGEST" = some (some (.int 300 tk0)))(z0:aC K ay "len" = some none)(z1:aC K ay "int" = some none)(z2:aC K ay "bool" = some none)(z3:aC K ay "sum" = some none)(z4:aC K ay "range" = some none)(z5:aC K ay "enumerate" = some none)(z6:aC K ay "isinstance" = some none)   : Ground p (gOf K (tab.map (·.x)) [aU "NoNumber"]) G (eh us oth) (cV oth) mg/\eR K G eA:=
 have A:=yy d0 d1 d2 d3 d4 d5 d6 d7 d8 d9 d10 d11 d12 d13 d14 d15 d16 d17
 ⟨yh X N rfl nd (yq k0 x0 u0 z0 z1 z2 z3 z4 z5 z6) nz nh nQ jB A _ (nc k0) rD (wj k0 ),A eA (by simp[tab])⟩
end
theorem walk{l:PySem.W.OpenLaw}{q:aq}{loose:List Str}{XP:(Str->Option ae)->Heap->Prop}{YP:aj->Heap->Prop}{d:DefRec}{K:Params->ao}(hn:l.most=some 63)(hdf:d.params.defaults=[])(hd:d.name = "law")(hY:∀(w:aj) (h:Heap),YP w h->(K w.params).In h)
  (hG:∀(w:aj) (mg:Str->Option ae) (h:Heap),(K w.params).In h->h.Ns ay mg->Ground p (gOf (K w.params) (tab.map (·.x)) [aU "NoNumber"]) G (eh us oth) (cV oth) mg/\eR (K w.params) G eA):PySem.W.WalkO q loose XP YP l.row.toRowW d [] (λf vs=>PySem.call f vs):=
 xU (e:=eA) (k:=depth) hn hdf hd ⟨rfl,by decide,by decide⟩ hY (by simp[tab]) nd rfl rfl (by kernel_rfl) hG (jB eA (by simp[tab])) nq
end K54
end
open PySem PySem.W PyProof.Rows
namespace PySem.W.Fast
def tw6565403970431595921:Nat:=0
theorem te6565403970431595921:tw6565403970431595921=0:=rfl
def tw7601598261461386000:Nat:=0
theorem te7601598261461386000:tw7601598261461386000=0:=rfl
def tw5883311336773306734:Nat:=0
theorem te5883311336773306734:tw5883311336773306734=0:=rfl
def tw5340505388986437818:Nat:=0
theorem te5340505388986437818:tw5340505388986437818=0:=rfl
def tw6075074690483577554:Nat:=0
theorem te6075074690483577554:tw6075074690483577554=0:=rfl
def tw13052107409188100908:Nat:=0
theorem te13052107409188100908:tw13052107409188100908=0:=rfl
def tw14968360523656134489:Nat:=0
theorem te14968360523656134489:tw14968360523656134489=0:=rfl
def tw3516711835880172230:Nat:=0
theorem te3516711835880172230:tw3516711835880172230=0:=rfl
def tw8043064110337242106:Nat:=0
theorem te8043064110337242106:tw8043064110337242106=0:=rfl
def tw11754654211577927028:Nat:=0
theorem te11754654211577927028:tw11754654211577927028=0:=rfl
def tw420672425678137660:Nat:=0
theorem te420672425678137660:tw420672425678137660=0:=rfl
def tw16124742304585044821:Nat:=0
theorem te16124742304585044821:tw16124742304585044821=0:=rfl
def tw14342638419042513532:Nat:=0
theorem te14342638419042513532:tw14342638419042513532=0:=rfl
def tw18026922565394393855:Nat:=0
theorem te18026922565394393855:tw18026922565394393855=0:=rfl
def tw1687890762247212869:Nat:=0
theorem te1687890762247212869:tw1687890762247212869=0:=rfl
def tw5877343087073756897:Nat:=0
theorem te5877343087073756897:tw5877343087073756897=0:=rfl
def tw8131492274595849576:Nat:=0
theorem te8131492274595849576:tw8131492274595849576=0:=rfl
def tw9062667008286438060:Nat:=0
theorem te9062667008286438060:tw9062667008286438060=0:=rfl
def tw15572010231042816260:Nat:=0
theorem te15572010231042816260:tw15572010231042816260=0:=rfl
def tw6363827018390802202:Nat:=0
theorem te6363827018390802202:tw6363827018390802202=0:=rfl
def tw14529181320781586940:Nat:=0
theorem te14529181320781586940:tw14529181320781586940=0:=rfl
def tw7363096975213081247:Nat:=0
theorem te7363096975213081247:tw7363096975213081247=0:=rfl
def tw18203297170435720022:Nat:=0
theorem te18203297170435720022:tw18203297170435720022=0:=rfl
def tw9720647346034678988:Nat:=0
theorem te9720647346034678988:tw9720647346034678988=0:=rfl
def tw5604050363180702171:Nat:=0
theorem te5604050363180702171:tw5604050363180702171=0:=rfl
def tw9236228614647479988:Nat:=0
theorem te9236228614647479988:tw9236228614647479988=0:=rfl
def tw10094073626480255193:Nat:=0
theorem te10094073626480255193:tw10094073626480255193=0:=rfl
def tw12270932431481836873:Nat:=0
theorem te12270932431481836873:tw12270932431481836873=0:=rfl
def tw5088452601415150976:Nat:=0
theorem te5088452601415150976:tw5088452601415150976=0:=rfl
def tw1454738694522676517:Nat:=0
theorem te1454738694522676517:tw1454738694522676517=0:=rfl
def tw1820635538944861694:Nat:=0
theorem te1820635538944861694:tw1820635538944861694=0:=rfl
def tw6559827966300940774:Nat:=0
theorem te6559827966300940774:tw6559827966300940774=0:=rfl
def tw12344944468537075408:Nat:=0
theorem te12344944468537075408:tw12344944468537075408=0:=rfl
def tw1878010495647192256:Nat:=0
theorem te1878010495647192256:tw1878010495647192256=0:=rfl
def tw4013032056161706522:Nat:=0
theorem te4013032056161706522:tw4013032056161706522=0:=rfl
def tw919155195437028522:Nat:=0
theorem te919155195437028522:tw919155195437028522=0:=rfl
def tw6064649475954105245:Nat:=0
theorem te6064649475954105245:tw6064649475954105245=0:=rfl
def tw17300372999893216174:Nat:=0
theorem te17300372999893216174:tw17300372999893216174=0:=rfl
def tw6962507132880792420:Nat:=0
theorem te6962507132880792420:tw6962507132880792420=0:=rfl
def tw11519913917589621303:Nat:=0
theorem te11519913917589621303:tw11519913917589621303=0:=rfl
def tw2138959239666014048:Nat:=0
theorem te2138959239666014048:tw2138959239666014048=0:=rfl
def tw15175642511440640928:Nat:=0
theorem te15175642511440640928:tw15175642511440640928=0:=rfl
def tw15349279194964575614:Nat:=0
theorem te15349279194964575614:tw15349279194964575614=0:=rfl
def tw3837392543345817550:Nat:=0
theorem te3837392543345817550:tw3837392543345817550=0:=rfl
def tw4140767101382837873:Nat:=0
theorem te4140767101382837873:tw4140767101382837873=0:=rfl
def tw17837792850716886710:Nat:=0
theorem te17837792850716886710:tw17837792850716886710=0:=rfl
def tw10662840851314193803:Nat:=0
theorem te10662840851314193803:tw10662840851314193803=0:=rfl
def tw16068143540273825622:Nat:=0
theorem te16068143540273825622:tw16068143540273825622=0:=rfl
def tw10452602750855570592:Nat:=0
theorem te10452602750855570592:tw10452602750855570592=0:=rfl
def tw13269868090403655229:Nat:=0
theorem te13269868090403655229:tw13269868090403655229=0:=rfl
def tw8514131716376038302:Nat:=0
theorem te8514131716376038302:tw8514131716376038302=0:=rfl
def tw2637016294474218649:Nat:=0
theorem te2637016294474218649:tw2637016294474218649=0:=rfl
def tw7921562100114827662:Nat:=0
theorem te7921562100114827662:tw7921562100114827662=0:=rfl
def tw16307532667236586829:Nat:=0
theorem te16307532667236586829:tw16307532667236586829=0:=rfl
def tw6397342289458432106:Nat:=0
theorem te6397342289458432106:tw6397342289458432106=0:=rfl
def tw11509397326070098937:Nat:=0
theorem te11509397326070098937:tw11509397326070098937=0:=rfl
def tw2495049921908907389:Nat:=0
theorem te2495049921908907389:tw2495049921908907389=0:=rfl
def tw2754649563813238138:Nat:=0
theorem te2754649563813238138:tw2754649563813238138=0:=rfl
def tw8378122913781655208:Nat:=0
theorem te8378122913781655208:tw8378122913781655208=0:=rfl
def tw15184294597668240249:Nat:=0
theorem te15184294597668240249:tw15184294597668240249=0:=rfl
def tw8217253090402452541:Nat:=0
theorem te8217253090402452541:tw8217253090402452541=0:=rfl
def tw10083452207431940367:Nat:=0
theorem te10083452207431940367:tw10083452207431940367=0:=rfl
def tw3547312919389662961:Nat:=0
theorem te3547312919389662961:tw3547312919389662961=0:=rfl
def tw10168086106334284713:Nat:=0
theorem te10168086106334284713:tw10168086106334284713=0:=rfl
def tw16846241923413851030:Nat:=0
theorem te16846241923413851030:tw16846241923413851030=0:=rfl
def tw384075340305067090:Nat:=0
theorem te384075340305067090:tw384075340305067090=0:=rfl
def tw18360017964673931871:Nat:=0
theorem te18360017964673931871:tw18360017964673931871=0:=rfl
def tw18183656256906755978:Nat:=0
theorem te18183656256906755978:tw18183656256906755978=0:=rfl
def tw14097878871862784669:Nat:=0
theorem te14097878871862784669:tw14097878871862784669=0:=rfl
def tw11816429130347550128:Nat:=0
theorem te11816429130347550128:tw11816429130347550128=0:=rfl
def tw16753344611935573841:Nat:=0
theorem te16753344611935573841:tw16753344611935573841=0:=rfl
def tw9339515938023700084:Nat:=0
theorem te9339515938023700084:tw9339515938023700084=0:=rfl
def tw1000950158492810:Nat:=0
theorem te1000950158492810:tw1000950158492810=0:=rfl
def tw5126716664253709543:Nat:=0
theorem te5126716664253709543:tw5126716664253709543=0:=rfl
def tw11781435798943233362:Nat:=0
theorem te11781435798943233362:tw11781435798943233362=0:=rfl
def tw7129314779028229235:Nat:=0
theorem te7129314779028229235:tw7129314779028229235=0:=rfl
def tw5735907415370043408:Nat:=0
theorem te5735907415370043408:tw5735907415370043408=0:=rfl
def tw11482279459517907887:Nat:=0
theorem te11482279459517907887:tw11482279459517907887=0:=rfl
def tw15650850437530559507:Nat:=0
theorem te15650850437530559507:tw15650850437530559507=0:=rfl
def tw10218246927450615253:Nat:=0
theorem te10218246927450615253:tw10218246927450615253=0:=rfl
def tw7652870921566225771:Nat:=0
theorem te7652870921566225771:tw7652870921566225771=0:=rfl
def tw11412431965468577205:Nat:=0
theorem te11412431965468577205:tw11412431965468577205=0:=rfl
def tw9969119036360286827:Nat:=0
theorem te9969119036360286827:tw9969119036360286827=0:=rfl
def tw14625921204820742335:Nat:=0
theorem te14625921204820742335:tw14625921204820742335=0:=rfl
def tw8136592062170160521:Nat:=0
theorem te8136592062170160521:tw8136592062170160521=0:=rfl
def tw17115705612812628972:Nat:=0
theorem te17115705612812628972:tw17115705612812628972=0:=rfl
def tw17782938108689006129:Nat:=0
theorem te17782938108689006129:tw17782938108689006129=0:=rfl
def tw11201340434580416472:Nat:=0
theorem te11201340434580416472:tw11201340434580416472=0:=rfl
def tw17337418254415350849:Nat:=0
theorem te17337418254415350849:tw17337418254415350849=0:=rfl
end PySem.W.Fast
set_option maxRecDepth 100000 in
set_option maxHeartbeats 0 in
theorem PySem.Challenge.cw_holdplaces_k54_all_sets_of_rows_and_ring_holds : PySem.Challenge.rw_holdplaces_k54_all_sets_of_rows_and_ring.Holds := by
 w_on;o_law;k_head;(case hw=>w_witness2)
 k_fill
 refine K54.walk (l:=PySem.Challenge.rw_holdplaces_k54_all_sets_of_rows_and_ring) rfl rfl rfl (λw h Y=>PySem.W.kIn_of Y) ?F
 case F=>
  intro w mg h KX N
  refine' K54.all_mk (WB.bP ?_ ?_ ?_ ?_) (WB.bP ?_ ?_ ?_ ?_) (WB.bP ?_ ?_ ?_ ?_) (WB.bP ?_ ?_ ?_ ?_) (WB.bP ?_ ?_ ?_ ?_) (WB.bP ?_ ?_ ?_ ?_) (WB.bP ?_ ?_ ?_ ?_) (WB.bP ?_ ?_ ?_ ?_) (WB.bP ?_ ?_ ?_ ?_) (WB.bP ?_ ?_ ?_ ?_) (WB.bP ?_ ?_ ?_ ?_) (WB.bP ?_ ?_ ?_ ?_) (WB.bP ?_ ?_ ?_ ?_) (WB.bP ?_ ?_ ?_ ?_) (WB.bP ?_ ?_ ?_ ?_) (WB.bP ?_ ?_ ?_ ?_) (WB.bP ?_ ?_ ?_ ?_) (WB.bP ?_ ?_ ?_ ?_) KX N ?_ ?_ ?_ ?_ ?_ ?_ ?_ ?_ ?_ ?_
  any_goals k_is
  any_goals k_exc
#print axioms PySem.Challenge.cw_holdplaces_k54_all_sets_of_rows_and_ring_holds
