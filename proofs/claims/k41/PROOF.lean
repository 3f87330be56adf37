import PyProof.Rows.All
import Wide.All
import OpenK.AllK
import Wide.FinOn
import Lean
import PyProof.EqAt
import PyProof.EqKinds
import PyProof.TupleCall
import PyProof.Rows.Range3
import PyProof.Rows.FStr
import KE.KDictSum
import PyProof.DictUpdate
import PyProof.Rows.ListMulArg
import KE.KSortTup
import KE.LcSums
import PyProof.SeqI3
import KE.KMinBuiltin
import PyProof.Draws
import KE.KRevIter
import PyProof.ListRange
import PyProof.TupleOfSeq
import PySem.Challenge.RW_holdplaces_k41_steps_from_the_ends_in
set_option Elab.async false
set_option bootstrap.genMatcherCode false
set_option maxHeartbeats 8000000
set_option maxRecDepth 100000
set_option linter.all false
noncomputable section
open PyProof.Rows renaming callWith_type1→eJ,IntsAre→a8,seqObj→aV,Keyed→aA
open PySem.Builtin.SmallTypes renaming nextOf→cy
open Option renaming bind_eq_some_iff→aw,map_eq_some_iff→bq,bind_eq_bind→ay
open List renaming mem_append_right→cc,mem_cons_of_mem→aI,mem_cons_self→aH,length_append→br,size_toArray→aK,flatMap_cons→dk,length_cons→aU,lookup_cons→bf,not_mem_nil→cV,any_eq_true→cW,length_map→aD,mem_filter→bZ,replicate→bN,mem_cons→aF,map_cons→aR,mem_map→aN,map_map→bz,range→a9
open PySem renaming mem_of_lookup→cf,wpAny_truthy_bool→bD,wpAny_newObj_type→cU,wpAny_call_entry→cz,Comprehension→b6,wpAny_holding→cB,bootBuiltins→bG,mainGlobals→ar,sizeLine_eq→aW,wpAny_field→bA,wpAny_bind→ag,wpAny_pure→av,compareOp→aQ,cellsFrom→aX,sizeLine→aE,starEach→aL,NameKind→aM,Program→aq,Shared→af,Around→au,Value→ae,wpAny→ah,model→ai,World→ak,Scope→aO
open Nat renaming lt_of_lt_of_le→bc,lt_irrefl→bx,ne_of_lt→aZ,le_trans→ba,le_refl→aB,zero_le→b7
open Bool renaming false_ne_true→bK,false_eq_true→bM,not_eq_true'→aY,and_eq_true→aC,not_eq_true→dm,or_eq_true→bu
open PySem.W renaming mg_none_of→cR,kas_desc→bg,kas_rev→bj,kia_one→bE,kitOne→bL,keepIn→cA,Frag→ao,nsIn→ax,fnOf→cj
open Option.some renaming injEq→cg,inj→bF
open ForInStep renaming yield→cX
open PySem.Heap renaming size_push→b5,lt_size→aJ
open PySem.NameKind renaming free→bO
open PySem.Str renaming ofString→aG
open False renaming elim→aP
open PySem.Obj renaming mapSeq→bt
open PySem.Value renaming none→bH,ref→aS
open And renaming intro→aj
set_option Elab.async false
namespace L2
open PySem PySem.Spec PyProof.Rows
abbrev Key:=Sum Int Str
noncomputable def gk:Key->ae->Bool
 | .inl k,v=>ae.isInt k v
 | .inr x,v=>ae.isStrOf x v
noncomputable def Aq(w:ak):Key->Int
 | .inl k=>hashInt k
 | .inr x=>hashStr w x
theorem er:∀{k:Key}{v:ae},gk k v=true->(∃i t,k=Sum.inl i/\v=ae.int i t)\/(∃x t,k=Sum.inr x/\v=ae.str x t)
 | .inl i,v,h=>by
  obtain⟨t,e⟩:=ae.isInt_shape (k:=i) (v:=v) h;exact .inl ⟨i,t,rfl,e⟩
 | .inr x,v,h=>by
  obtain⟨t,e⟩:=ae.isStrOf_shape (x:=x) (v:=v) h;exact .inr ⟨x,t,rfl,e⟩
theorem tQ(i:Int)(t:Tok):gk (.inl i) (.int i t)=true:=by simp[gk,ae.isInt]
theorem wd(x:Str)(t:Tok):gk (.inr x) (.str x t)=true:=by simp[gk,ae.isStrOf]
theorem wg(a b:Int):decide ((Sum.inl a:Key)=Sum.inl b)=(a==b):=by
 by_cases e:a=b
 ·subst e;simp
 ·have h:¬ (Sum.inl a:Key)=Sum.inl b:=λq=>e (Sum.inl.inj q)
  rw[decide_eq_false h];exact(beq_eq_false_iff_ne.mpr e).symm
theorem Bx(a b:Str):decide ((Sum.inr a:Key)=Sum.inr b)=decide (a=b):=by
 by_cases e:a=b
 ·subst e;simp
 ·have h:¬ (Sum.inr a:Key)=Sum.inr b:=λq=>e (Sum.inr.inj q)
  rw[decide_eq_false h,decide_eq_false e]
theorem sf(a:Int)(b:Str):decide ((Sum.inl a:Key)=Sum.inr b)=false:=decide_eq_false (λq=>nomatch q)
theorem rq(a:Str)(b:Int):decide ((Sum.inr a:Key)=Sum.inl b)=false:=decide_eq_false (λq=>nomatch q)
noncomputable def zt(prog:aq)(w:ak):PySem.KeyKind prog w Key where
 is:=gk
 hash:=Aq w
 inj:=λv a b ha hb=>by
  rcases er ha with ⟨i,t,rfl,rfl⟩|⟨x,t,rfl,rfl⟩
  ·rcases er hb with ⟨j,u,rfl,e⟩|⟨y,u,rfl,e⟩
   ·injection e with e1 _;rw[e1]
   ·exact nomatch e
  ·rcases er hb with ⟨j,u,rfl,e⟩|⟨y,u,rfl,e⟩
   ·exact nomatch e
   ·injection e with e1 _;rw[e1]
 byValue:=λk v h=>by
  rcases er h with ⟨i,t,rfl,rfl⟩|⟨x,t,rfl,rfl⟩<;>rfl
 pyHash:=λhv h=>by
  rcases er hv with ⟨i,t,rfl,rfl⟩|⟨x,t,rfl,rfl⟩
  ·exact wpAny_pyHash_int h
  ·exact wpAny_pyHash_str h
 eqBool:=λhu hv h=>by
  rcases er hu with ⟨i,t,rfl,rfl⟩|⟨x,t,rfl,rfl⟩
  ·rcases er hv with ⟨j,u,rfl,rfl⟩|⟨y,u,rfl,rfl⟩
   ·rw[wg]at h;exact wpAny_eqBool_int h
   ·rw[sf]at h;exact SeqAt.EqAt.int_str i t y u _ _ _ _ h
  ·rcases er hv with ⟨j,u,rfl,rfl⟩|⟨y,u,rfl,rfl⟩
   ·rw[rq]at h;exact SeqAt.EqAt.str_int x t j u _ _ _ _ h
   ·rw[Bx]at h;exact wpAny_eqBool_str h
 «strs»:=λk x t v h=>by
  rcases er h with ⟨i,u,rfl,e⟩|⟨y,u,rfl,e⟩
  ·exact nomatch e
  ·injection e with e1 _
   subst e1;cases v<;>rfl
theorem BN(prog:aq)(w:ak)(i:Int)(t:Tok):(zt prog w).is (.inl i) (.int i t)=true:=tQ i t
theorem sG(prog:aq)(w:ak)(x:Str)(t:Tok):(zt prog w).is (.inr x) (.str x t)=true:=wd x t
inductive V where
 |non|bl (b:Bool)|int (i:Int)|str (x:Str)|byt (b:Array UInt8)|flt (b:UInt64)|ref (a:Addr)|ty (n:String)
 deriving DecidableEq
noncomputable def RelV:V->ae->Prop
 | .non,u=>u=bH
 | .bl b,u=>u=ae.bool b
 | .int i,u=>∃t,u=ae.int i t
 | .str x,u=>∃t,u=ae.str x t
 | .byt b,u=>∃t,u=ae.bytes b t
 | .flt b,u=>∃t,u=ae.float b t
 | .ref a,u=>u=aS a
 | .ty n,u=>u=ae.type n
abbrev Vals:List V->List ae->Prop:=Paired RelV
theorem Vals.length{xs:List V}{us:List ae}(r:Vals xs us):xs.length=us.length:=Paired.length r
theorem Vals.get:∀{xs:List V}{us:List ae}{i:Nat}{x:V},Vals xs us->xs[i]? = some x->∃u,us[i]? = some u/\RelV x u
 |_,_,_,_,.nil,e=>by simp at e
 |_,_,0,_,.cons r _,e=>by simp at e;subst e;exact⟨_,rfl,r⟩
 |_,_,i+1,x,.cons _ t,e=>by
  obtain⟨u,h1,h2⟩:=Vals.get (i:=i) (x:=x) t (by simpa using e);exact⟨u,by simpa using h1,h2⟩
theorem Vals.set{x:V}{u:ae}(r:RelV x u):∀{xs:List V}{us:List ae} (i:Nat),Vals xs us->Vals (xs.set i x) (us.set i u)
 |_,_,_,.nil=>.nil
 |_,_,0,.cons _ t=>.cons r t
 |_,_,i+1,.cons q t=>.cons q (Vals.set r i t)
theorem Vals.append:∀{xs ys:List V}{us ws:List ae},Vals xs us->Vals ys ws->Vals (xs++ys) (us++ws)
 |_,_,_,_,.nil,s=>s
 |_,_,_,_,.cons r t,s=>.cons r (Vals.append t s)
theorem Vals.take:∀{xs:List V}{us:List ae} (n:Nat),Vals xs us->Vals (xs.take n) (us.take n)
 |_,_,0,_=>.nil
 |_,_,_+1,.nil=>.nil
 |_,_,n+1,.cons r t=>.cons r (Vals.take n t)
theorem Vals.drop:∀{xs:List V}{us:List ae} (n:Nat),Vals xs us->Vals (xs.drop n) (us.drop n)
 |_,_,0,r=>r
 |_,_,_+1,.nil=>.nil
 |_,_,n+1,.cons _ t=>Vals.drop n t
noncomputable def dh:Option V->Option ae->Prop
 |some v,some u=>RelV v u
 |none,none=>True
 |_,_=>False
noncomputable def KV{κ:Type}:List (κ×V)->List (κ×ae)->Prop:=Paired λ(p:κ×V) (q:κ×ae)=>p.1=q.1/\RelV p.2 q.2
noncomputable def kV:Key->V
 | .inl i=>.int i
 | .inr x=>.str x
inductive HO where
 |lst (xs:List V)
 |tup (xs:List V)
 |dK (kvs:List (Key×V))|dT (kvs:List (List Key×V))
 |set (S:Int->Bool) (n:Nat)
 |ins (C dx:Addr) (fs:List (Str×V))
 |own (x:Addr)
 |xd (fs:List (Str×V))
 |met (f x:Addr)
 |rng (lo hi:Int)
 |frz (o:Obj) (u:HO)
 |tbl (ps:Array ae)
 |ext (φ:Heap->Prop)
abbrev Hp:=Addr->Option HO
noncomputable def upd(H:Hp)(a:Addr)(o:HO):Hp:=λb=>if b=a then some o else H b
theorem zB{H:Hp}{a:Addr}{o:HO}:upd H a o a=some o:=by unfold upd;rw[if_pos rfl]
theorem qM{H:Hp}{a b:Addr}{o:HO}(h:b≠a):upd H a o b=H b:=by unfold upd;rw[if_neg h]
theorem yJ{H:Hp}{a b:Addr}{o u:HO}(h:H a=some o)(h':H b=some u)(d:o≠u):a≠b:=by
 intro e;subst e;rw[h]at h';exact d (bF h')
theorem hJ{H:Hp}{a b:Addr}{o:HO}(h:H a=some o)(h':H b=none):a≠b:=by
 intro e;subst e;rw[h]at h';cases h'
section
variable(P:aq)(w:ak)
noncomputable def zH(H:Hp)(h:Heap)(a:Addr):HO->Prop
 | .lst xs=>xs.length<=aE/\∃(its:List ae) (n:Nat),Vals xs its/\h.get? a=some {cls:=.type "list",data:=.seq its.toArray n}
 | .tup xs=>xs.length<=aE/\∃its:List ae,Vals xs its/\IsTup h a its.toArray
 | .dK kvs=>kvs.length<=aE/\(a==sysModules)=false/\∃vs,KV kvs vs/\h.DictOf (zt P w) a vs
 | .dT kvs=>kvs.length<=aE/\(a==sysModules)=false/\∃xs:List (List Key×Addr×ae),
   Paired (λ(p:List Key×V) (q:List Key×Addr×ae)=>p.1=q.1/\H q.2.1=some (.tup (p.1.map kV))/\RelV p.2 q.2.2) kvs xs /\
   ∃o es ep,h.get? a=some o/\o.ExactDict/\o.data=.dict es ep/\es.toList=xs.map (entryOfKey (tupleKind (zt P w)))/\(xs.map (·.1)).Nodup
 | .set S n=>h.SetOf (intKind P w) a S n
 | .ins C dx fs=>H dx=some (.own a)/\fs.length<=1000/\dx≠a/\h.get? a=some (PySem.W.instObj C dx) /\
   ∃mA,h.Ns1 dx mA/\(∀f,dh (fs.lookup f) (mA f))/\PySem.Within mA (fs.map (·.1))
 | .own _=>∃o,h.get? a=some o
 | .xd fs=>∃mA,h.Ns1 a mA/\∀f,dh (fs.lookup f) (mA f)
 | .rng lo hi=>∃t u v,h.get? a=some {cls:=.type "range",data:=.fields #[.int lo t,.int hi u,.int 1 v]}
 | .frz o u=>h.get? a=some o/\zH H h a u
 | .tbl ps=>h.get? a=some {cls:=.none,data:=.fields ps}
 | .met f x=>h.get? a=some (PySem.W.methodObj (.ref f) (.ref x))
 | .ext φ=>φ h/\(∃o,h.get? a=some o)/\∀h1 h2:Heap,φ h1->(∀o,h1.get? a=some o->h2.get? a=some o)->φ h2
noncomputable def HOk(H:Hp)(h:Heap):Prop:=∀a o,H a=some o->zH P w H h a o
end
section
variable{P:aq}{w:ak}{H H':Hp}{h h':Heap}{a:Addr}{o:HO}
theorem zH.lt(x:zH P w H h a o):a<h.objs.size:=by
 cases o with
 |lst xs=>obtain⟨_,_,_,_,e⟩:=x;exact aJ e
 |tup xs=>obtain⟨_,_,_,p⟩:=x;exact p.lt
 |dK kvs=>obtain⟨_,_,_,_,o,_,_,e,_⟩:=x;exact aJ e
 |dT kvs=>obtain⟨_,_,_,_,o,_,_,e,_⟩:=x;exact aJ e
 |set S n=>obtain⟨o,_,_,_,e,_⟩:=x;exact aJ e
 |ins C dx fs=>obtain⟨_,_,_,e,_⟩:=x;exact aJ e
 |own y=>obtain⟨_,e⟩:=x;exact aJ e
 |xd fs=>obtain⟨_,⟨_,_,_,e,_⟩,_⟩:=x;exact aJ e
 |rng lo hi=>obtain⟨_,_,_,e⟩:=x;exact aJ e
 |frz ob u=>obtain⟨e,_⟩:=x;exact aJ e
 |tbl ps=>exact aJ (show h.get? a=some _ from x)
 |met f y=>exact aJ (show h.get? a=some _ from x)
 |ext φ=>obtain⟨_,⟨_,e⟩,_⟩:=x;exact aJ e
theorem Paired.mapP{α β:Type}{F G:α->β->Prop}:∀{l₁:List α}{l₂:List β},Paired F l₁ l₂->(∀a b,F a b->G a b)->Paired G l₁ l₂
 |_,_,.nil,_=>.nil
 |_,_,.cons r t,f=>.cons (f _ _ r) (Paired.mapP t f)
theorem zH.stay(x:zH P w H h a o)(k:∀b u,(b=a\/H b=some (.own a))->h.get? b=some u->h'.get? b=some u)
  (ho:∀b,H b=some (.own a)->H' b=some (.own a)) (ht:∀b xs,H b=some (.tup xs)->H' b=some (.tup xs)):zH P w H' h' a o:=by
 induction o with
 |lst xs=>obtain⟨z,its,n,r,e⟩:=x;exact⟨z,its,n,r,k _ _ (.inl rfl) e⟩
 |tup xs=>obtain⟨z,its,r,ob,e,c⟩:=x;exact⟨z,its,r,ob,k _ _ (.inl rfl) e,c⟩
 |dK kvs=>obtain⟨z,y,vs,r,ob,es,ep,e,c⟩:=x;exact⟨z,y,vs,r,ob,es,ep,k _ _ (.inl rfl) e,c⟩
 |dT kvs=>
  obtain⟨z,y,xs,r,ob,es,ep,e,c⟩:=x;exact⟨z,y,xs,Paired.mapP r λp q z=>⟨z.1,ht _ _ z.2.1,z.2.2⟩,ob,es,ep,k _ _ (.inl rfl) e,c⟩
 |set S n=>obtain⟨ob,es,ep,t,e,c⟩:=x;exact⟨ob,es,ep,t,k _ _ (.inl rfl) e,c⟩
 |ins C dx fs=>
  obtain⟨d,z,ne,e,mA,⟨od,es,ep,e2,c⟩,r⟩:=x;exact⟨ho _ d,z,ne,k _ _ (.inl rfl) e,mA,⟨od,es,ep,k _ _ (.inr d) e2,c⟩,r⟩
 |own y=>obtain⟨ob,e⟩:=x;exact⟨ob,k _ _ (.inl rfl) e⟩
 |xd fs=>obtain⟨mA,⟨od,es,ep,e,c⟩,r⟩:=x;exact⟨mA,⟨od,es,ep,k _ _ (.inl rfl) e,c⟩,r⟩
 |rng lo hi=>obtain⟨t,u,v,e⟩:=x;exact⟨t,u,v,k _ _ (.inl rfl) e⟩
 |frz ob u ih=>obtain⟨e,q⟩:=x;exact⟨k _ _ (.inl rfl) e,ih q⟩
 |tbl ps=>
  have e:h.get? a=some {cls:=.none,data:=.fields ps}:=x;show h'.get? a=some {cls:=.none,data:=.fields ps};exact k a _ (.inl rfl) e
 |met f y=>
  have e:h.get? a=some (PySem.W.methodObj (.ref f) (.ref y)):=x;show h'.get? a=some (PySem.W.methodObj (.ref f) (.ref y));exact k a _ (.inl rfl) e
 |ext φ=>obtain⟨p,⟨o,e⟩,st⟩:=x;exact⟨st _ _ p λo q=>k _ _ (.inl rfl) q,⟨o,k _ _ (.inl rfl) e⟩,st⟩
theorem HOk.lt(x:HOk P w H h)(e:H a=some o):a<h.objs.size:=(x a o e).lt
theorem HOk.fresh(x:HOk P w H h)(e:h.objs.size<=a):H a=none:=by
 cases q:H a with
 |none=>rfl
 |some u=>exact absurd (bc (x.lt q) e) (bx _)
theorem HOk.kept(x:HOk P w H h)(k:∀b u,h.get? b=some u->h'.get? b=some u):HOk P w H h':=λa o e=>
 (x a o e).stay (λb u _ q=>k b u q) (λ_ q=>q) λ_ _ q=>q
theorem HOk.laid(x:HOk P w H h)(k:∀b u,h.get? b=some u->h'.get? b=some u)(hp:h.objs.size<=a)(new:zH P w (upd H a o) h' a o):HOk P w (upd H a o) h':=λb u e=>by
 have hn:=x.fresh hp;by_cases hb:b=a
 ·subst hb;rw[zB]at e;cases e;exact new
 ·rw[qM hb]at e;exact(x b u e).stay (λc v _ q=>k c v q) (λc q=>by rw[qM (hJ q hn)];exact q) λc xs q=>by rw[qM (hJ q hn)];exact q
end
noncomputable def Rd(H:Hp)(a:Addr)(u:HO):Prop:=H a=some u\/∃o,H a=some (.frz o u)
theorem Rd.of{H:Hp}{a:Addr}{u:HO}(h:H a=some u):Rd H a u:=.inl h
theorem Rd.ok{P:aq}{w:ak}{H:Hp}{h:Heap}{a:Addr}{u:HO}(r:Rd H a u)(x:HOk P w H h):zH P w H h a u:=by
 rcases r with r|⟨o,r⟩
 ·exact x a u r
 ·obtain⟨_,q⟩:=x a _ r;exact q
noncomputable def Mut:Option HO->Prop
 |some (.lst _)=>True
 |some (.dK _)=>True
 |some (.dT _)=>True
 |some (.set _ _)=>True
 |some (.ins _ _ _)=>True
 |some (.ext _)=>True
 |_=>False
section
variable{P:aq}{w:ak}{H:Hp}{h h':Heap}{x e:Addr}{o':HO}
theorem HOk.write(ok:HOk P w H h)(mu:Mut (H x))(he:e=x\/H e=some (.own x))(k:∀b u,b≠e->h.get? b=some u->h'.get? b=some u)(heo:∃u,h'.get? e=some u)
  (new:zH P w (upd H x o') h' x o'):HOk P w (upd H x o') h':=λb u q=>by
 have nown:∀c y,H c=some (.own y)->c≠x:=λc y r z=>by subst z;rw[r]at mu;exact mu
 have ntup:∀c xs,H c=some (.tup xs)->c≠x:=λc xs r z=>by subst z;rw[r]at mu;exact mu
 by_cases hb:b=x
 ·subst hb;rw[zB]at q;cases q;exact new
 ·rw[qM hb]at q;by_cases hbe:b=e
  ·have q':H b=some (.own x):=by
    rcases he with z|z
    ·exact absurd (hbe.trans z) hb
    ·rw[hbe];exact z
   rw[q]at q';cases q';obtain⟨v,hv⟩:=heo;exact⟨v,by rw[hbe];exact hv⟩
  ·refine(ok b u q).stay (λc v hc r=>k c v ?_ r) (λc r=>by rw[qM (nown c b r)];exact r) λc xs r=>by rw[qM (ntup c xs r)];exact r
   rcases hc with rfl|hc
   ·exact hbe
   ·rintro rfl;rcases he with z|z
    ·exact nown c b hc z
    ·rw[hc]at z;cases z;exact hb rfl
end
structure Un(fs ex:List Addr)(H H':Hp)(h h':Heap):Prop where
 keep:∀b o,h.get? b=some o->H b=none->b∉fs->b∉ex->h'.get? b=some o
 slot:∀b o,h.get? b=some o->H b=none->b∈fs->b∉ex->∃sl,h'.get? b=some {o with slots:=sl}
 free:∀b o,h.get? b=some o->H b=none->b∉ex->H' b=none
 there:∀b o,h.get? b=some o->b∉ex->∃o',h'.get? b=some o'
 tups:∀b xs,H b=some (.tup xs)->H' b=some (.tup xs)
 frzs:∀b o u,H b=some (.frz o u)->H' b=some (.frz o u)
 tbls:∀b ps,H b=some (.tbl ps)->∃more,H' b=some (.tbl (ps++more))
section
variable{fs fs' ex ex':List Addr}{H H1 H2:Hp}{h h1 h2 h':Heap}{a x e:Addr}{o:HO}
theorem Un.any(u:Un fs ex H H1 h h1){b:Addr}{ob:Obj}(q:h.get? b=some ob)(n:H b=none)(hx:b∉ex):∃sl,h1.get? b=some {ob with slots:=sl}:=by
 by_cases hb:b∈fs
 ·exact u.slot b ob q n hb hx
 ·exact⟨ob.slots,u.keep b ob q n hb hx⟩
theorem Un.kept(k:∀b u,h.get? b=some u->h'.get? b=some u):Un fs ex H H h h':=
 ⟨λb ob q _ _ _=>k b ob q,λb ob q _ _ _=>⟨ob.slots,k b ob q⟩,λ_ _ _ n _=>n,λb ob q _=>⟨ob,k b ob q⟩,λ_ _ q=>q,λ_ _ _ q=>q,λ_ ps q=>⟨#[],by rw[q];simp⟩⟩
theorem Un.refl:Un fs ex H H h h:=Un.kept λ_ _ q=>q
theorem Un.laid(k:∀b u,h.get? b=some u->h'.get? b=some u)(hp:h.objs.size<=a)(hn:H a=none):Un fs ex H (upd H a o) h h' where
 keep:=λb u q _ _ _=>k b u q
 slot:=λb u q _ _ _=>⟨u.slots,k b u q⟩
 free:=λb u q n _=>by rw[qM (aZ (bc (aJ q) hp))];exact n
 there:=λb u q _=>⟨u,k b u q⟩
 tups:=λb xs q=>by rw[qM (hJ q hn)];exact q
 frzs:=λb u xs q=>by rw[qM (hJ q hn)];exact q
 tbls:=λb ps q=>⟨#[],by rw[qM (hJ q hn),q];simp⟩
theorem Un.write(mu:Mut (H x))(he:e=x\/H e=some (.own x))(k:∀b u,b≠e->h.get? b=some u->h'.get? b=some u)(heo:∃u,h'.get? e=some u):Un fs ex H (upd H x o) h h':=by
 have hx:∀b,H b=none->b≠x:=λb n z=>by subst z;rw[n]at mu;exact mu
 have hb:∀b,H b=none->b≠e:=λb n z=>by
  subst z;rcases he with r|r
  ·exact hx b n r
  ·rw[n]at r;cases r
 have hm:∀b u,H b=some u->¬ Mut (some u)->b≠x:=λb u q nm z=>by subst z;rw[q]at mu;exact nm mu
 refine⟨λb u q n _ _=>k b u (hb b n) q,λb u q n _ _=>⟨u.slots,k b u (hb b n) q⟩,λb u q n _=>by rw[qM (hx b n)];exact n,λb u q _=>?_,
  λb xs q=>by rw[qM (hm b _ q λz=>z)];exact q,λb u xs q=>by rw[qM (hm b _ q λz=>z)];exact q,λb ps q=>⟨#[],by rw[qM (hm b _ q λz=>z),q];simp⟩⟩
 by_cases hbe:b=e
 ·subst hbe;exact heo
 ·exact⟨u,k b u hbe q⟩
end
noncomputable def trk(h:Heap)(H:Hp):List Addr:=(a9 h.objs.size).filter λa=>(H a).isSome
noncomputable def eu(h:Heap)(H:Hp):Heap:=PySem.W.hideAll h (trk h H)
theorem yx(h:Heap)(H:Hp):(eu h H).objs.size=h.objs.size:=PySem.W.hideAll_size _ _
theorem yD{h:Heap}{H:Hp}{b:Addr}{o:Obj}(e:h.get? b=some o)(n:H b=none):(eu h H).get? b=some o:=
 PySem.W.hideAll_get _ e λhm=>by
  have q:(H b).isSome=true:=(bZ.mp hm).2;rw[n]at q;simp at q
theorem wX{h:Heap}{H:Hp}{b:Addr}{o:Obj}(e:(eu h H).get? b=some o):h.get? b=some o/\H b=none:=by
 have e':h.get? b=some o:=PySem.W.of_hideAll (trk h H) e;refine⟨e',?_⟩;cases q:H b with
 |none=>rfl
 |some x=>
  have hm:b∈trk h H:=bZ.mpr ⟨List.mem_range.mpr (aJ e'),by simp[q]⟩;have z:(eu h H).get? b=none:=PySem.W.hideAll_none (trk h H) hm;rw[z]at e;cases e
noncomputable def i0(g h:Heap)(L:Addr):List (Addr×Obj):=(a9 h.objs.size).filterMap λa=>if a=L\/(g.get? a).isSome=true then none else (h.get? a).map λo=>(a,o)
theorem g6{g h:Heap}{L a:Addr}{o:Obj}(h1:a≠L)(h2:g.get? a=none)(h3:h.get? a=some o):(a,o)∈i0 g h L:=
 List.mem_filterMap.mpr ⟨a,List.mem_range.mpr (aJ h3),by simp[h1,h2,h3]⟩
theorem rR{g h:Heap}{L:Addr}{p:Addr×Obj}(hp:p∈i0 g h L):p.1≠L/\g.get? p.1=none/\h.get? p.1=some p.2:=by
 obtain⟨b,_,e⟩:=List.mem_filterMap.mp hp;split at e
 ·cases e
 ·rename_i hn
  cases q:h.get? b with
  |none=>rw[q]at e;simp at e
  |some u=>
   rw[q]at e;simp only[Option.map_some,cg]at e;subst e;refine⟨λz=>hn (.inl z),?_,q⟩;show g.get? b=none;cases r:g.get? b with
   |none=>rfl
   |some v=>exact(hn (.inr (by simp[r]))).elim
noncomputable def rest(g h:Heap)(L d:Addr):List (Addr×Obj):=(i0 g h L).filter λp=>decide (p.1≠d)
theorem o5{g h:Heap}{L:Addr}:News g L h (i0 g h L):=λp hp=>let ⟨a,b,c⟩:=rR hp;⟨c,a,b⟩
structure Mod(K:ao)(mg:Str->Option ae)(base:Heap):Prop where
 kin:K.In base
 glob:base.Ns ar mg
 blt:∃mb,base.Ns builtinsNs mb/\∀x:Str,x≠"__name__"->mb x=bG x
 nolimit:base.NoLimit
structure Cx where
 prog:aq
 w:ak
 K:ao
 mg:Str->Option ae
 base:Heap
 A:au
 N:List Str
 s₀:af
 H₀:Hp
 env:Env
 outer:List Env
 stack:List Env
 ex:List Addr
 fn:Str->Bool
 calm:Bool
 pn:List (Addr×Obj)
 xe:ae->af->Prop
noncomputable def frs(l:List Env):List Addr:=l.filterMap (·.frame)
abbrev Cx.fs(X:Cx):List Addr:=frs X.outer
noncomputable def dO(sc:aO)(x:Str):Prop:=sc.names.lookup x=some .local\/sc.names.lookup x=some .cell\/sc.names.lookup x=some .free
noncomputable def Loc(sc:aO)(x:Str):Prop:=sc.names.lookup x=some .local\/sc.names.lookup x=some .cell
noncomputable def Look(env:Env)(h:Heap)(m:Str->Option ae)(x:Str)(u:ae):Prop:=
 (env.kindOf x=some .local/\m x=some u)\/((env.kindOf x=some .cell\/env.kindOf x=some .free)/\∃c,env.cells.lookup x=some c/\h.IsCell c (some u))
structure Cx.Ok(X:Cx):Prop where
 mod:Mod X.K X.mg X.base
 kind:X.env.scope.kind=.function
 glob:X.env.globals=ar
 blt:X.env.builtins=builtinsNs
 above:X.s₀.heap.objs.size<=X.env.locals
 inj:∀x y c,X.env.cells.lookup x=some c->X.env.cells.lookup y=some c->x=y
 has:∀x,(X.env.kindOf x=some .cell\/X.env.kindOf x=some .free)->∃c,X.env.cells.lookup x=some c
 cab:∀x c,X.fn x=true->X.env.cells.lookup x=some c->X.s₀.heap.objs.size<=c
 hd:X.calm=true->X.A.handled=none
 frames:X.A.frames=some X.stack
 stk:X.stack=X.outer\/(X.stack=X.env::X.outer/\X.env.frame=some X.env.locals)
 exf:∀b∈X.ex,b≠X.env.locals/\∀x c,X.env.cells.lookup x=some c->c≠b
 bs:∀b o,X.base.get? b=some o->X.s₀.heap.get? b=some o/\X.H₀ b=none
 bsz:X.base.objs.size<=X.s₀.heap.objs.size
 noex:∀b o,X.base.get? b=some o->b∉X.ex
 exfs:∀b∈X.ex,b∉X.fs
 funs:X.s₀.heap.FunFrames X.base X.outer
 frf:∀b∈X.fs,X.H₀ b=none
structure Inv(X:Cx)(pins:List (Addr×Obj))(σ:List (Option V))(H:Hp)(s:af):Prop where
 ok:X.Ok
 os:s.os=X.s₀.os
 bare:AllBare s.gens
 base:Un X.fs X.ex X.H₀ H X.s₀.heap s.heap
 loc:∃m,s.heap.Ns X.env.locals m/\∀(i:Nat) (x:Str) (v:V),X.N[i]? = some x->σ[i]? = some (some v)->dO X.env.scope x->∃u,RelV v u/\Look X.env s.heap m x u
 cell:∀x c,X.env.cells.lookup x=some c->∃v,s.heap.IsCell c v
 free:H X.env.locals=none
 freeC:∀x c,X.env.cells.lookup x=some c->H c=none
 pin:∀p∈X.pn++pins,s.heap.get? p.1=some p.2/\H p.1=none/\p.1≠X.env.locals/\p.1∉X.fs/\∀v,p.2.data≠.cell v
 hok:HOk X.prog X.w H s.heap
 len:σ.length=X.N.length
section
variable{X:Cx}{pins:List (Addr×Obj)}{σ:List (Option V)}{H H':Hp}{s:af}{h':Heap}
theorem Cx.Ok.nofr(ok:X.Ok){b:Addr}{o:Obj}(e:X.base.get? b=some o):b∉X.fs:=λhb=>by
 have:=(ok.funs.mem hb).1;rw[e]at this;cases this
theorem Inv.bs(I:Inv X pins σ H s):∀b o,X.base.get? b=some o->s.heap.get? b=some o/\H b=none:=λb o e=>
 ⟨I.base.keep b o (I.ok.bs b o e).1 (I.ok.bs b o e).2 (I.ok.nofr e) (I.ok.noex b o e),I.base.free b o (I.ok.bs b o e).1 (I.ok.bs b o e).2 (I.ok.noex b o e)⟩
theorem Inv.bk(I:Inv X pins σ H s):∀b o,X.base.get? b=some o->s.heap.get? b=some o:=λb o e=>(I.bs b o e).1
theorem Inv.mod(I:Inv X pins σ H s):Mod X.K X.mg X.base:=I.ok.mod
theorem Inv.kIn(I:Inv X pins σ H s):X.K.In s.heap:=I.ok.mod.kin.keeps I.bk
theorem Inv.nolimit(I:Inv X pins σ H s):s.heap.NoLimit:=I.ok.mod.nolimit.keeps I.bk
theorem Inv.fr(I:Inv X pins σ H s):∃m,Fr X.base X.env.locals s.heap m:=
 let ⟨m,hn,_⟩:=I.loc
 ⟨m,hn,I.bk,ba I.ok.bsz I.ok.above⟩
theorem Inv.lt(I:Inv X pins σ H s):X.env.locals<s.heap.objs.size:=let ⟨_,hn,_⟩:=I.loc;hn.lt
theorem Inv.sz(I:Inv X pins σ H s):X.s₀.heap.objs.size<=s.heap.objs.size:=ba I.ok.above (Nat.le_of_lt I.lt)
theorem Inv.nofs(I:Inv X pins σ H s){a:Addr}(h:s.heap.objs.size<=a):a∉X.fs:=λhb=>by
 obtain⟨_,o,ho,_⟩:=I.ok.funs.mem hb;exact absurd (bc (aJ ho) (ba I.sz h)) (bx _)
theorem Inv.cne(I:Inv X pins σ H s):∀x c,X.env.cells.lookup x=some c->c≠X.env.locals:=λx c e z=>by
 obtain⟨v,o,ho,hd⟩:=I.cell x c e;obtain⟨m,⟨o',es,ep,ho',hd',_⟩,_⟩:=I.loc;rw[z,ho']at ho;cases ho;rw[hd']at hd;cases hd
theorem Inv.funs(I:Inv X pins σ H s):s.heap.FunFrames X.base X.outer:=by
 have all:∀(l:List Env),(∀b∈frs l,b∈X.fs)->X.s₀.heap.FunFrames X.base l->s.heap.FunFrames X.base l:=by
  intro l
  induction l with
  |nil=>intro _ _;trivial
  |cons env r ih=>
   intro hs hl;obtain⟨hk,⟨L,o,hf,hn,ho,hd⟩,hr⟩:=hl;have hL:L∈X.fs:=hs L (by unfold frs;rw[List.filterMap_cons,hf];exact aH);obtain⟨sl,e⟩:=I.base.slot L o ho (I.ok.frf L hL) hL λz=>I.ok.exfs L z hL
   exact⟨hk,⟨L,_,hf,hn,e,hd⟩,ih (λb hb=>hs b (by unfold frs;rw[List.filterMap_cons,hf];exact aI _ hb)) hr⟩
 exact all X.outer (λ_ hb=>hb) I.ok.funs
theorem Inv.stack(I:Inv X pins σ H s):s.heap.FunFrames X.base X.stack:=by
 rcases I.ok.stk with e|⟨e,hf⟩
 ·rw[e];exact I.funs
 ·rw[e];obtain⟨m,hn,_⟩:=I.loc;refine .cons (by rw[I.ok.kind];decide) hf hn ?_ I.funs;exact Heap.get?_none_of_le (ba I.ok.bsz I.ok.above)
theorem Inv.stkSub(I:Inv X pins σ H s):∀b∈frs X.stack,b∈X.env.locals::X.fs:=λb hb=>by
 rcases I.ok.stk with e|⟨e,hf⟩
 ·rw[e]at hb;exact aI _ hb
 ·rw[e]at hb;unfold frs at hb;rw[List.filterMap_cons,hf]at hb;exact hb
theorem Inv.stkFree(I:Inv X pins σ H s):∀b∈frs X.stack,H b=none:=λb hb=>by
 rcases aF.mp (I.stkSub b hb)with e|hb
 ·rw[e];exact I.free
 ·obtain⟨_,o,ho,_⟩:=I.ok.funs.mem hb;exact I.base.free b o ho (I.ok.frf b hb) λz=>I.ok.exfs b z hb
theorem Inv.step{g':Array GenState}{t':Nat}{d':Drawn}{ch:List Addr}(I:Inv X pins σ H s)
  (hch:∀b∈ch,(b∈X.ex\/X.s₀.heap.objs.size<=b)/\b≠X.env.locals/\(∀x c,X.env.cells.lookup x=some c->c≠b)/\∀p∈X.pn++pins,p.1≠b)
  (keep:∀b o,b≠X.env.locals->b∉X.fs->b∉ch->s.heap.get? b=some o->H b=none->h'.get? b=some o)
  (slot:∀b o,b≠X.env.locals->b∈X.fs->b∉ch->s.heap.get? b=some o->H b=none->∃sl,h'.get? b=some {o with slots:=sl}) (free:∀b o,b∉ch->s.heap.get? b=some o->H b=none->H' b=none)
  (there:∀b o,b∉ch->s.heap.get? b=some o->∃o',h'.get? b=some o')
  (tups:∀b xs,H b=some (.tup xs)->H' b=some (.tup xs)) (frzs:∀b o u,H b=some (.frz o u)->H' b=some (.frz o u)) (tbls:∀b ps,H b=some (.tbl ps)->∃more,H' b=some (.tbl (ps++more)))
  (ns:∀m,s.heap.Ns X.env.locals m->h'.Ns X.env.locals m) (hok:HOk X.prog X.w H' h') (hg:AllBare g') :
  Inv X pins σ H' {s with heap:=h',gens:=g',drawn:=d',toks:=t'}:=by
 have neL:∀b o,X.s₀.heap.get? b=some o->b≠X.env.locals:=λb o e=>aZ (bc (aJ e) I.ok.above)
 have neC:∀b o,X.s₀.heap.get? b=some o->b∉X.ex->b∉ch:=λb o e hx hb=>by
  rcases(hch b hb).1 with z|z
  ·exact hx z
  ·exact absurd (bc (aJ e) z) (bx _)
 have cellK:∀x c,X.env.cells.lookup x=some c->∀v,s.heap.IsCell c v->h'.IsCell c v:=λx c e v ⟨o,ho,hd⟩=>by
  have nch:c∉ch:=λz=>(hch c z).2.2.1 x c e rfl
  by_cases hc:c∈X.fs
  ·obtain⟨sl,q⟩:=slot c o (I.cne x c e) hc nch ho (I.freeC x c e);exact⟨_,q,hd⟩
  ·exact⟨o,keep c o (I.cne x c e) hc nch ho (I.freeC x c e),hd⟩
 refine⟨I.ok,I.os,hg,⟨λb o e n hb hx=>?_,λb o e n hb hx=>?_,λb o e n hx=>?_,λb o e hx=>?_,λb xs e=>tups b xs (I.base.tups b xs e),λb o xs e=>frzs b o xs (I.base.frzs b o xs e),λb ps e=>?_⟩,?_,λx c e=>?_,?_,λx c e=>?_,λp hp=>?_,hok,I.len⟩
 ·exact keep b o (neL b o e) hb (neC b o e hx) (I.base.keep b o e n hb hx) (I.base.free b o e n hx)
 ·obtain⟨sl,e1⟩:=I.base.slot b o e n hb hx;obtain⟨sl',e2⟩:=slot b _ (neL b o e) hb (neC b o e hx) e1 (I.base.free b o e n hx);exact⟨sl',e2⟩
 ·obtain⟨o',e1⟩:=I.base.there b o e hx;exact free b o' (neC b o e hx) e1 (I.base.free b o e n hx)
 ·obtain⟨o',e1⟩:=I.base.there b o e hx;exact there b o' (neC b o e hx) e1
 ·obtain⟨m1,e1⟩:=I.base.tbls b ps e;obtain⟨m2,e2⟩:=tbls b _ e1;exact⟨m1++m2,by rw[e2,Array.append_assoc]⟩
 ·obtain⟨m,hn,hl⟩:=I.loc;refine⟨m,ns m hn,λi x v e1 e2 e3=>?_⟩;obtain⟨u,r,l⟩:=hl i x v e1 e2 e3;refine⟨u,r,?_⟩;rcases l with l|⟨k,c,e,z⟩
  ·exact .inl l
  ·exact .inr ⟨k,c,e,cellK x c e _ z⟩
 ·obtain⟨v,z⟩:=I.cell x c e;exact⟨v,cellK x c e v z⟩
 ·obtain⟨m,⟨o,_,_,ho,_⟩,_⟩:=I.loc;exact free _ o (λz=>(hch _ z).2.1 rfl) ho I.free
 ·obtain⟨v,o,ho,hd⟩:=I.cell x c e;exact free c o (λz=>(hch c z).2.2.1 x c e rfl) ho (I.freeC x c e)
 ·obtain⟨e,n,ne,nf,d⟩:=I.pin p hp;have nch:p.1∉ch:=λz=>(hch p.1 z).2.2.2 p hp rfl
  exact⟨keep p.1 p.2 ne nf nch e n,free p.1 p.2 nch e n,ne,nf,d⟩
theorem Inv.un{t':Nat}(I:Inv X pins σ H s)(u:Un X.fs [] H H' s.heap h')(hok:HOk X.prog X.w H' h'):Inv X pins σ H' {s with heap:=h',toks:=t'}:=by
 obtain⟨m,⟨o,es,ep,ho,r⟩,_⟩:=id I.loc;obtain⟨sl,hL⟩:=u.any ho I.free (by simp);exact I.step (g':=s.gens) (d':=s.drawn) (ch:=[]) (λ_ z=>nomatch z) (λb o _ hb _ e n=>u.keep b o e n hb (by simp)) (λb o _ hb _ e n=>u.slot b o e n hb (by simp)) (λb o _ e n=>u.free b o e n (by simp)) (λb o _ e=>u.there b o e (by simp)) u.tups u.frzs u.tbls (λm' hm=>by
  obtain⟨o',es',ep',ho',r'⟩:=hm;rw[ho]at ho';cases ho';exact⟨_,es',ep',hL,r'⟩) hok I.bare
theorem Inv.call{g':Array GenState}{t':Nat}{d':Drawn}{ch:List Addr}(I:Inv X pins σ H s)(u:Un (frs X.stack) ch H H' s.heap h')(hok:HOk X.prog X.w H' h')(hg:AllBare g')
  (hch:∀b∈ch,(b∈X.ex\/X.s₀.heap.objs.size<=b)/\b≠X.env.locals/\(∀x c,X.env.cells.lookup x=some c->c≠b)/\∀p∈X.pn++pins,p.1≠b) :
  Inv X pins σ H' {s with heap:=h',gens:=g',drawn:=d',toks:=t'}:=by
 obtain⟨m,⟨o,es,ep,ho,r⟩,_⟩:=id I.loc;obtain⟨sl,hL⟩:=u.any ho I.free λz=>(hch _ z).2.1 rfl
 exact I.step (ch:=ch) hch (λb o hL hb hc e n=>u.keep b o e n (λz=>(aF.mp (I.stkSub b z)).elim hL hb) hc) (λb o _ _ hc e n=>u.any e n hc) (λb o hc e n=>u.free b o e n hc) (λb o hc e=>u.there b o e hc) u.tups u.frzs u.tbls (λm' hm=>by
  obtain⟨o',es',ep',ho',r'⟩:=hm;rw[ho]at ho';cases ho';exact⟨_,es',ep',hL,r'⟩) hok hg
theorem Inv.turned{t':Nat}{it:Addr}(I:Inv X pins σ H s)(k:∀b o,b≠it->s.heap.get? b=some o->h'.get? b=some o)(hn:H it=none)(hL:it≠X.env.locals)
  (h1:it∈X.ex\/X.s₀.heap.objs.size<=it) (h2:∀x c,X.env.cells.lookup x=some c->c≠it) (h3:∀p∈X.pn++pins,p.1≠it):Inv X pins σ H {s with heap:=h',toks:=t'}:=by
 have nit:∀b u,H b=some u->b≠it:=λb u e z=>by rw[z,hn]at e;cases e
 refine I.step (g':=s.gens) (d':=s.drawn) (ch:=[it]) (λb hb=>?_) (λb o _ _ hc e _=>k b o (λz=>hc (by simp[z])) e) (λb o _ _ hc e _=>⟨o.slots,k b o (λz=>hc (by simp[z])) e⟩) (λ_ _ _ _ n=>n)
  (λb o hc e=>⟨o,k b o (λz=>hc (by simp[z])) e⟩) (λ_ _ e=>e) (λ_ _ _ e=>e) (λb ps e=>⟨#[],by rw[e];simp⟩) (λm hm=>?_) (λb u e=>?_) I.bare
 ·have e:b=it:=by simpa using hb
  subst e;exact⟨h1,hL,h2,h3⟩
 ·obtain⟨o,es,ep,ho,r⟩:=hm;exact⟨o,es,ep,k _ o (Ne.symm hL) ho,r⟩
 ·refine(I.hok b u e).stay (λc v hc q=>k c v ?_ q) (λ_ q=>q) λ_ _ q=>q
  rcases hc with z|z
  ·rw[z];exact nit b u e
  ·exact nit c _ z
theorem Inv.tok(I:Inv X pins σ H s)(t:Nat):Inv X pins σ H {s with toks:=t}:=I.un (h':=s.heap) (t':=t) Un.refl I.hok
theorem Inv.kept{t':Nat}(I:Inv X pins σ H s)(k:∀b u,s.heap.get? b=some u->h'.get? b=some u):Inv X pins σ H {s with heap:=h',toks:=t'}:=I.un (Un.kept k) (I.hok.kept k)
theorem Inv.laid{a:Addr}{o:HO}{t':Nat}(I:Inv X pins σ H s)(k:∀b u,s.heap.get? b=some u->h'.get? b=some u)(hp:s.heap.objs.size<=a)(new:zH X.prog X.w (upd H a o) h' a o) :
  Inv X pins σ (upd H a o) {s with heap:=h',toks:=t'}:=I.un (Un.laid k hp (I.hok.fresh hp)) (I.hok.laid k hp new)
theorem Inv.write{x e:Addr}{o:HO}{t':Nat}(I:Inv X pins σ H s)(mu:Mut (H x))(he:e=x\/H e=some (.own x))(k:∀b u,b≠e->s.heap.get? b=some u->h'.get? b=some u)(heo:∃u,h'.get? e=some u)
  (new:zH X.prog X.w (upd H x o) h' x o):Inv X pins σ (upd H x o) {s with heap:=h',toks:=t'}:=I.un (Un.write mu he k heo) (I.hok.write mu he k heo new)
theorem Inv.pins_of{pins':List (Addr×Obj)}(I:Inv X pins σ H s)(h:∀p∈pins',s.heap.get? p.1=some p.2/\H p.1=none/\p.1≠X.env.locals/\p.1∉X.fs/\∀v,p.2.data≠.cell v):Inv X pins' σ H s:=
 ⟨I.ok,I.os,I.bare,I.base,I.loc,I.cell,I.free,I.freeC,λp hp=>(List.mem_append.mp hp).elim (λz=>I.pin p (List.mem_append_left _ z)) (h p),I.hok,I.len⟩
theorem oD{N:List Str}(hN:N.Nodup){i j:Nat}{x:Str}(a:N[i]? = some x)(b:N[j]? = some x):i=j:=by
 obtain⟨h1,e1⟩:=List.getElem?_eq_some_iff.mp a;obtain⟨h2,e2⟩:=List.getElem?_eq_some_iff.mp b;exact(List.getElem_inj hN).mp (e1.trans e2.symm)
theorem lH{M:Model}{A:au}{E:ae->af->Prop}{i:Nat}{x:Str}{v:V}{u:ae}{Q:Unit->af->Prop}(I:Inv X pins σ H s)(hN:X.N.Nodup)(hi:X.N[i]? = some x)(hx:Loc X.env.scope x)(r:RelV v u)
  (h:∀s',Inv X pins (σ.set i (some v)) H s'->(∃a,Heap.SameBut a s.heap s'.heap/\(a=X.env.locals\/X.env.cells.lookup x=some a))->Q () s') (hf:X.fn x=true\/X.env.scope.names.lookup x=some .local:=by first|exact .inl rfl|exact .inr rfl|assumption):ah M A (storeName X.env x u) Q E s:=by
 obtain⟨m,hn,hl⟩:=id I.loc;have hcls:(X.env.scope.kind==.class||(X.env.scope.kind==.module&&X.env.locals != X.env.globals))=false:=by rw[I.ok.kind];rfl
 have hiσ:i<σ.length:=by rw[I.len];exact(List.getElem?_eq_some_iff.mp hi).1
 have cne:=I.cne;have tracked:∀{a:Addr}{h':Heap},(∃o,s.heap.get? a=some o/\H a=none)->Heap.SameBut a s.heap h'->HOk X.prog X.w H h':=λ{a h'} ha hs b ob e=>by
  obtain⟨_,_,hfree⟩:=ha;refine(I.hok b ob e).stay (λc w' hc q=>(hs.2 c ?_).trans q) (λ_ q=>q) λ_ _ q=>q
  rintro rfl;rcases hc with rfl|hc
  ·rw[hfree]at e;cases e
  ·rw[hfree]at hc;cases hc
 rcases hx with hk|hk
 ·refine wpAny_storeName_local hk hn (λh' hn' hs=>?_) hcls;obtain⟨oL,_,_,hoL,_⟩:=id hn;refine h _ ⟨I.ok,I.os,I.bare,⟨λb o e n hb hx=>?_,λb o e n hb hx=>?_,I.base.free,λb o e hx=>?_,I.base.tups,I.base.frzs,I.base.tbls⟩,⟨_,hn',λj y v' e1 e2 e3=>?_⟩,λy c e=>?_,I.free,I.freeC,λp hp=>?_,tracked ⟨oL,hoL,I.free⟩ hs,by simpa using I.len⟩ ⟨_,hs,.inl rfl⟩
  ·exact(hs.2 b (aZ (bc (aJ e) I.ok.above))).trans (I.base.keep b o e n hb hx)
  ·obtain⟨sl,e1⟩:=I.base.slot b o e n hb hx;exact⟨sl,(hs.2 b (aZ (bc (aJ e) I.ok.above))).trans e1⟩
  ·obtain⟨o',e1⟩:=I.base.there b o e hx;exact⟨o',(hs.2 b (aZ (bc (aJ e) I.ok.above))).trans e1⟩
  ·by_cases hj:j=i
   ·subst hj;rw[hi]at e1;cases e1;rw[List.getElem?_set_self hiσ]at e2;cases e2;exact⟨u,r,.inl ⟨hk,by simp⟩⟩
   ·rw[List.getElem?_set_ne (Ne.symm hj)]at e2;obtain⟨u',r',q⟩:=hl j y v' e1 e2 e3;refine⟨u',r',?_⟩;rcases q with ⟨k,e⟩|⟨k,c,e,z⟩
    ·refine .inl ⟨k,?_⟩;have:y≠x:=λe=>hj (oD hN e1 (e▸hi))
     simp[this,e]
    ·exact .inr ⟨k,c,e,z.sameBut hs (cne y c e)⟩
  ·obtain⟨w',z⟩:=I.cell y c e;exact⟨w',z.sameBut hs (cne y c e)⟩
  ·obtain⟨e,n,ne,nf,d⟩:=I.pin p hp;exact⟨(hs.2 p.1 ne).trans e,n,ne,nf,d⟩
 ·have hfn:X.fn x=true:=by
   rcases hf with z|z
   ·exact z
   ·rw[z]at hk;cases hk
  obtain⟨c,hc⟩:=I.ok.has x (.inl hk);obtain⟨w',z⟩:=I.cell x c hc;refine wpAny_storeName_cell I.ok.kind hk hc z (λh' hc' hs=>?_);obtain⟨oc,hoc,hocd⟩:=id z;refine h {s with heap:=h'} ⟨I.ok,I.os,I.bare,⟨λb o e n hb hx=>?_,λb o e n hb hx=>?_,I.base.free,λb o e hx=>?_,I.base.tups,I.base.frzs,I.base.tbls⟩,⟨m,hn.sameBut hs (Ne.symm (cne x c hc)),λj y v' e1 e2 e3=>?_⟩,λy c' e=>?_,I.free,I.freeC,λp hp=>?_,tracked ⟨oc,hoc,I.freeC x c hc⟩ hs,by simpa using I.len⟩ ⟨c,hs,.inr hc⟩
  ·exact(hs.2 b (aZ (bc (aJ e) (I.ok.cab x c hfn hc)))).trans (I.base.keep b o e n hb hx)
  ·obtain⟨sl,e1⟩:=I.base.slot b o e n hb hx;exact⟨sl,(hs.2 b (aZ (bc (aJ e) (I.ok.cab x c hfn hc)))).trans e1⟩
  ·obtain⟨o',e1⟩:=I.base.there b o e hx;exact⟨o',(hs.2 b (aZ (bc (aJ e) (I.ok.cab x c hfn hc)))).trans e1⟩
  ·by_cases hj:j=i
   ·subst hj;rw[hi]at e1;cases e1;rw[List.getElem?_set_self hiσ]at e2;cases e2;exact⟨u,r,.inr ⟨.inl hk,c,hc,hc'⟩⟩
   ·rw[List.getElem?_set_ne (Ne.symm hj)]at e2;obtain⟨u',r',q⟩:=hl j y v' e1 e2 e3;refine⟨u',r',?_⟩;rcases q with q|⟨k,c',e,z'⟩
    ·exact .inl q
    ·refine .inr ⟨k,c',e,z'.sameBut hs ?_⟩;rintro rfl;exact hj (oD hN e1 (I.ok.inj _ _ _ e hc▸hi))
  ·by_cases hcc:c'=c
   ·subst hcc;exact⟨_,hc'⟩
   ·obtain⟨w2,z2⟩:=I.cell y c' e;exact⟨w2,z2.sameBut hs hcc⟩
  ·obtain⟨e,n,ne,nf,d⟩:=I.pin p hp;refine⟨(hs.2 p.1 ?_).trans e,n,ne,nf,d⟩;intro q;rw[q,hoc]at e;have q':oc=p.2:=bF e;exact d w' (by rw[<-q'];exact hocd)
theorem m9{M:Model}{A:au}{E:ae->af->Prop}{i:Nat}{x:Str}{v:V}{u:ae}{Q:Unit->af->Prop}(I:Inv X pins σ H s)(hN:X.N.Nodup)(hi:X.N[i]? = some x)(hx:Loc X.env.scope x)(r:RelV v u)
  (h:∀s',Inv X pins (σ.set i (some v)) H s'->Q () s') (hf:X.fn x=true\/X.env.scope.names.lookup x=some .local:=by first|exact .inl rfl|exact .inr rfl|assumption):ah M A (storeName X.env x u) Q E s:=
 lH I hN hi hx r (λs' I' _=>h s' I') hf
theorem Inv.call'{s':af}{ch:List Addr}(I:Inv X pins σ H s)(ho:s'.os=s.os)(u:Un (frs X.stack) ch H H' s.heap s'.heap)(hok:HOk X.prog X.w H' s'.heap)(hg:AllBare s'.gens)
  (hch:∀b∈ch,(b∈X.ex\/X.s₀.heap.objs.size<=b)/\b≠X.env.locals/\(∀x c,X.env.cells.lookup x=some c->c≠b)/\∀p∈X.pn++pins,p.1≠b):Inv X pins σ H' s':=by
 obtain⟨h',g',d',t',o'⟩:=s';have e:o'=s.os:=ho;subst e;exact I.call (g':=g') (t':=t') (d':=d') u hok hg hch
end
abbrev XK:=ae->Option Addr->Hp->Prop
abbrev St:=List (Option V)
abbrev VK:=V->Hp->Prop
abbrev TE:=St->Hp->VK->Prop
abbrev TT:=St->Hp->(Bool->Hp->Prop)->Prop
abbrev TA:=St->Hp->(List V->Hp->Prop)->Prop
structure Ends where
 nx:St->Hp->Prop
 rt:VK
 bk:St->Hp->Prop:=λ_ _=>False
 ct:St->Hp->Prop:=λ_ _=>False
abbrev TS:=Ends->St->Hp->Prop
noncomputable def EP(X:Cx)(pins:List (Addr×Obj))(σ:St)(Q:VK)(u:ae)(s':af):Prop:=∃v H',Inv X pins σ H' s'/\RelV v u/\Q v H'
noncomputable def TP(X:Cx)(pins:List (Addr×Obj))(σ:St)(Q:Bool->Hp->Prop)(b:Bool)(s':af):Prop:=∃H',Inv X pins σ H' s'/\Q b H'
noncomputable def AP(X:Cx)(pins:List (Addr×Obj))(σ:St)(Q:List V->Hp->Prop)(us:List ae)(s':af):Prop:=∃vs H',Inv X pins σ H' s'/\Vals vs us/\Q vs H'
noncomputable def SP(X:Cx)(pins:List (Addr×Obj))(D:Ends)(f:Flow)(s':af):Prop:=
 match f with
 | .next=>∃σ' H',Inv X pins σ' H' s'/\D.nx σ' H'
 | .brk=>∃σ' H',Inv X pins σ' H' s'/\D.bk σ' H'
 | .cont=>∃σ' H',Inv X pins σ' H' s'/\D.ct σ' H'
 | .ret u=>∃v σ' H',Inv X pins σ' H' s'/\RelV v u/\D.rt v H'
noncomputable def PE(X:Cx)(e:Expr)(t:TE):Prop:=
 ∀(pins:List (Addr×Obj)) (s:af) (σ:St) (H:Hp) (Q:VK),Inv X pins σ H s->t σ H Q->ah (ai X.prog X.w) X.A (eval e X.env) (EP X pins σ Q) X.xe s
noncomputable def PT(X:Cx)(e:Expr)(t:TT):Prop:=
 ∀(pins:List (Addr×Obj)) (s:af) (σ:St) (H:Hp) (Q:Bool->Hp->Prop),Inv X pins σ H s->t σ H Q->ah (ai X.prog X.w) X.A (isTrue e X.env (eval e X.env)) (TP X pins σ Q) X.xe s
noncomputable def PW(X:Cx)(e:Expr)(t:TT):Prop:=
 ∀(whole:Sem ae) (pins:List (Addr×Obj)) (s:af) (σ:St) (H:Hp) (Q:Bool->Hp->Prop),Inv X pins σ H s->t σ H Q->ah (ai X.prog X.w) X.A (isTrue e X.env whole) (TP X pins σ Q) X.xe s
theorem PW.pt{X:Cx}{e:Expr}{t:TT}(h:PW X e t):PT X e t:=h _
noncomputable def PA(X:Cx)(es:List Expr)(t:TA):Prop:=
 ∀(pos:Pos) (pins:List (Addr×Obj)) (s:af) (σ:St) (H:Hp) (Q:List V->Hp->Prop),Inv X pins σ H s->t σ H Q->ah (ai X.prog X.w) X.A (spliced (backTo pos (aL es X.env))) (AP X pins σ Q) X.xe s
noncomputable def PS(X:Cx)(st:Stmt)(t:TS):Prop:=
 ∀(pins:List (Addr×Obj)) (s:af) (σ:St) (H:Hp) (D:Ends),Inv X pins σ H s->t D σ H->ah (ai X.prog X.w) X.A (exec st X.env) (SP X pins D) X.xe s
noncomputable def PSs(X:Cx)(st:List Stmt)(t:TS):Prop:=
 ∀(pins:List (Addr×Obj)) (s:af) (σ:St) (H:Hp) (D:Ends),Inv X pins σ H s->t D σ H->ah (ai X.prog X.w) X.A (execs st X.env) (SP X pins D) X.xe s
theorem thn{α:Type}{t:Sem α}{Q Q':α->af->Prop}{M:Model}{A:au}{E:ae->af->Prop}{s:af}(h:ah M A t Q E s)(hQ:∀a s,Q a s->Q' a s):ah M A t Q' E s:=wpAny_mono h hQ λ_ _ x=>x
section
variable{X:Cx}
theorem bin{a b:Expr}{ta tb:TE}(ha:PE X a ta)(hb:PE X b tb){pins:List (Addr×Obj)}{s:af}{σ:St}{H:Hp}{R:V->V->Hp->Prop}(I:Inv X pins σ H s)(h:ta σ H λx H1=>tb σ H1 λy H2=>R x y H2)
  {α:Type}{Q:α->af->Prop}{f:ae->ae->Sem α}
  (hf:∀v u s2 x y H2,Inv X pins σ H2 s2->RelV x v->RelV y u->R x y H2->ah (ai X.prog X.w) X.A (f v u) Q X.xe s2) :
  ah (ai X.prog X.w) X.A (eval a X.env) (λv s₁=>ah (ai X.prog X.w) X.A (eval b X.env) (λu s₂=>ah (ai X.prog X.w) X.A (f v u) Q X.xe s₂) X.xe s₁) X.xe s:=by
 refine thn (ha pins s σ H _ I h) λv s1 ⟨x,H1,I1,r1,q1⟩=>?_
 refine thn (hb pins s1 σ H1 _ I1 q1) λu s2 ⟨y,H2,I2,r2,q2⟩=>?_
 exact hf v u s2 x y H2 I2 r1 r2 q2
noncomputable def eB(i:Nat):TE:=λσ H Q=>∃v,σ[i]? = some (some v)/\Q v H
noncomputable def tC(v:V):TE:=λ_ H Q=>Q v H
theorem fg{i:Nat}{x:Str}{pos:Pos}(hN:X.N[i]? = some x)(hv:dO X.env.scope x)(hd:(x==("__debug__" : Str))=false:=by decide)(hcd:(x==("__classdict__" : Str))=false:=by decide):PE X (.Name x pos) (eB i):=by
 intro pins s σ H Q I h;obtain⟨v,e,h⟩:=h;obtain⟨m,hn,hl⟩:=I.loc;obtain⟨u,r,l⟩:=hl i x v hN e hv;have fin:EP X pins σ Q u s:=⟨v,H,I,r,h⟩
 rcases l with ⟨hk,hm⟩|⟨hk,c,hc,hcell⟩
 ·exact wpAny_Name (wpAny_loadName_local I.ok.kind hk hn hm fin) hd
 ·rcases hk with hk|hk
  ·exact wpAny_Name (wpAny_loadName_cell I.ok.kind hk hc hcell fin) hd
  ·exact wpAny_Name (wpAny_loadName_free I.ok.kind hk hc hcell fin hcd) hd
theorem mN{i j pos}:PE X (.Constant (.int i) j pos) (tC (.int i)):=λ_ _ _ H _ I h=>wpAny_Constant_int ⟨.int i,H,I.tok _,⟨_,rfl⟩,h⟩
theorem CK{b j pos}:PE X (.Constant (.bool b) j pos) (tC (.bl b)):=λ_ _ _ H _ I h=>Constant_bool ⟨.bl b,H,I,rfl,h⟩
theorem CT{j pos}:PE X (.Constant .none j pos) (tC .non):=λ_ _ _ H _ I h=>Constant_none ⟨.non,H,I,rfl,h⟩
theorem x_{x j pos}:PE X (.Constant (.str x) j pos) (tC (.str x)):=λ_ _ _ H _ I h=>Calls.Constant_str ⟨.str x,H,I.tok _,⟨_,rfl⟩,h⟩
noncomputable def Gl(X:Cx)(x:Str):Prop:=X.env.kindOf x=some .globalImplicit
theorem kN{E:ae->af->Prop}{pins:List (Addr×Obj)}{s:af}{σ:St}{H:Hp}{x:Str}{u:ae}{pos:Pos}{Q:ae->af->Prop}(I:Inv X pins σ H s)(hg:Gl X x)(hm:X.mg x=some u)(h:Q u s)
  (hd:(x==("__debug__" : Str))=false:=by decide):ah (ai X.prog X.w) X.A (eval (.Name x pos) X.env) Q E s:=
 Calls.Name_function_global I.ok.kind hg (Calls.loadGlobal_global (by rw[I.ok.glob];exact I.mod.glob.keeps I.bk) hm h) hd
theorem fm{E:ae->af->Prop}{pins:List (Addr×Obj)}{s:af}{σ:St}{H:Hp}{x:Str}{u:ae}{pos:Pos}{Q:ae->af->Prop}(I:Inv X pins σ H s)(hg:Gl X x)(hm:X.mg x=none)(hv:bG x=some u)(h:Q u s)
  (hn:x≠"__name__":=by decide) (hd:(x==("__debug__" : Str))=false:=by decide):ah (ai X.prog X.w) X.A (eval (.Name x pos) X.env) Q E s:=by
 obtain⟨mb,h1,h2⟩:=I.mod.blt;exact Calls.Name_function_global I.ok.kind hg (Calls.loadGlobal_builtin (by rw[I.ok.glob];exact I.mod.glob.keeps I.bk) hm (by rw[I.ok.blt];exact h1.keeps I.bk) ((h2 x hn).trans hv) h) hd
theorem kD{x:Str}{v:V}{u:ae}{pos:Pos}(hg:Gl X x)(hm:X.mg x=some u)(r:RelV v u)(hd:(x==("__debug__" : Str))=false:=by decide):PE X (.Name x pos) (tC v):=
 λ_ _ _ H _ I h=>kN I hg hm ⟨v,H,I,r,h⟩ hd
theorem Bu{x:Str}{v:V}{u:ae}{pos:Pos}(hg:Gl X x)(hm:X.mg x=none)(hv:bG x=some u)(r:RelV v u)(hn:x≠"__name__":=by decide)(hd:(x==("__debug__" : Str))=false:=by decide):PE X (.Name x pos) (tC v):=
 λ_ _ _ H _ I h=>fm I hg hm hv ⟨v,H,I,r,h⟩ hn hd
variable{a b:Expr}{ta tb:TE}{pos:Pos}
variable{tA tB':TT}{rest:List Expr}
noncomputable def wc(t u:TT):TT:=λσ H Q=>t σ H λc H1=>if c=true then u σ H1 Q else Q false H1
noncomputable def tOr(t u:TT):TT:=λσ H Q=>t σ H λc H1=>if c=true then Q true H1 else u σ H1 Q
noncomputable def pU(t:TT):TT:=λσ H Q=>t σ H λc H1=>Q (!c) H1
theorem Ad(ha:PT X a tA):PW X (.BoolOp .And [a] pos) tA:=by
 intro wh pins s σ H Q I h;refine isTrue_and (thn (ha pins s σ H Q I h) λc s1 e=>?_);cases c with
 |true=>exact isTrue_and_nil e
 |false=>exact e
theorem CZ(ha:PT X a tA):PW X (.BoolOp .Or [a] pos) tA:=by
 intro wh pins s σ H Q I h;refine isTrue_or (thn (ha pins s σ H Q I h) λc s1 e=>?_);cases c with
 |false=>exact isTrue_or_nil e
 |true=>exact e
theorem u7(ha:PT X a tA)(hb:PW X (.BoolOp .And (b::rest) pos) tB'):PW X (.BoolOp .And (a::b::rest) pos) (wc tA tB'):=by
 intro wh pins s σ H Q I h;refine isTrue_and (thn (ha pins s σ H _ I h) λc s1 ⟨H1,I1,q1⟩=>?_);cases c with
 |true=>exact hb wh pins s1 σ H1 Q I1 q1
 |false=>exact⟨H1,I1,q1⟩
theorem B3(ha:PT X a tA)(hb:PW X (.BoolOp .Or (b::rest) pos) tB'):PW X (.BoolOp .Or (a::b::rest) pos) (tOr tA tB'):=by
 intro wh pins s σ H Q I h;refine isTrue_or (thn (ha pins s σ H _ I h) λc s1 ⟨H1,I1,q1⟩=>?_);cases c with
 |true=>exact⟨H1,I1,q1⟩
 |false=>exact hb wh pins s1 σ H1 Q I1 q1
theorem y_(ha:PT X a tA):PT X (.UnaryOp .Not a pos) (pU tA):=by
 intro pins s σ H Q I h;exact isTrue_not (ha pins s σ H (λc H1=>Q (!c) H1) I h)
noncomputable def tF(ta tb:TE):TE:=λσ H Q=>ta σ H λx H1=>∃c,x=.bl c/\if c=true then tb σ H1 Q else Q (.bl false) H1
noncomputable def uk(ta tb:TE):TE:=λσ H Q=>ta σ H λx H1=>∃c,x=.bl c/\if c=true then Q (.bl true) H1 else tb σ H1 Q
noncomputable def yX(ta:TE):TE:=λσ H Q=>ta σ H λx H1=>∃c,x=.bl c/\Q (.bl (!c)) H1
theorem xG{op}{t:TE}(h:PE X a t):PE X (.BoolOp op [a] pos) t:=λpins s σ H Q I hw=>BoolOp_one (h pins s σ H Q I hw)
theorem wx(ha:PE X a ta)(hb:PE X (.BoolOp .And (b::rest) pos) tb):PE X (.BoolOp .And (a::b::rest) pos) (tF ta tb):=by
 intro pins s σ H Q I h;refine BoolOp_and (thn (ha pins s σ H _ I h) λv s1 ⟨x,H1,I1,r1,q1⟩=>?_);obtain⟨c,rfl,q1⟩:=q1;cases r1;refine bD ?_;cases c with
 |true=>exact hb pins s1 σ H1 Q I1 q1
 |false=>exact⟨.bl false,H1,I1,rfl,q1⟩
theorem tP(ha:PE X a ta)(hb:PE X (.BoolOp .Or (b::rest) pos) tb):PE X (.BoolOp .Or (a::b::rest) pos) (uk ta tb):=by
 intro pins s σ H Q I h;refine BoolOp_or (thn (ha pins s σ H _ I h) λv s1 ⟨x,H1,I1,r1,q1⟩=>?_);obtain⟨c,rfl,q1⟩:=q1;cases r1;refine bD ?_;cases c with
 |false=>exact hb pins s1 σ H1 Q I1 q1
 |true=>exact⟨.bl true,H1,I1,rfl,q1⟩
theorem Av(ha:PE X a ta):PE X (.UnaryOp .Not a pos) (yX ta):=by
 intro pins s σ H Q I h;refine UnaryOp_ (thn (ha pins s σ H _ I h) λv s1 ⟨x,H1,I1,r1,q1⟩=>?_);obtain⟨c,rfl,q1⟩:=q1;cases r1;exact not_of (bD ⟨.bl (!c),H1,I1,rfl,q1⟩)
noncomputable def tIf(t:TT)(ta tb:TE):TE:=λσ H Q=>t σ H λc H1=>if c=true then ta σ H1 Q else tb σ H1 Q
theorem xV{c:Expr}(hc:PT X c tA)(ha:PE X a ta)(hb:PE X b tb):PE X (.IfExp c a b pos) (tIf tA ta tb):=by
 intro pins s σ H Q I h;refine wpAny_IfExp (thn (hc pins s σ H _ I h) λd s1 ⟨H1,I1,q1⟩=>?_);cases d with
 |true=>exact ha pins s1 σ H1 Q I1 q1
 |false=>exact hb pins s1 σ H1 Q I1 q1
end
noncomputable def SqL(K:ao)(H:Hp)(a:Addr)(xs:List V):Prop:=
 Rd H a (.lst xs) \/
  ∃(o:Obj) (its:Array ae) (n:Nat),K.lookup a=some o/\o.cls=.type "list"/\o.dict=none/\o.data=.seq its n/\its.size<=aE/\Vals xs its.toList
noncomputable def SqT(K:ao)(H:Hp)(a:Addr)(xs:List V):Prop:=
 Rd H a (.tup xs) \/
  ∃(o:Obj) (its:Array ae) (n:Nat),K.lookup a=some o/\o.cls=.type "tuple"/\o.data=.seq its n/\its.size<=aE/\Vals xs its.toList
noncomputable def xS:ae->Option V
 | .none=>some .non
 | .bool b=>some (.bl b)
 | .int i _=>some (.int i)
 | .str x _=>some (.str x)
 | .bytes b _=>some (.byt b)
 | .float b _=>some (.flt b)
 | .ref a=>some (.ref a)
 | .type n=>some (.ty n)
 |_=>none
theorem RelV.abs{x:V}{u:ae}(r:RelV x u):xS u=some x:=by
 cases x with
 |non=>cases r;rfl
 |bl _=>cases r;rfl
 |int _=>obtain⟨t,rfl⟩:=r;rfl
 |str _=>obtain⟨t,rfl⟩:=r;rfl
 |byt _=>obtain⟨t,rfl⟩:=r;rfl
 |flt _=>obtain⟨t,rfl⟩:=r;rfl
 |ref _=>cases r;rfl
 |ty _=>cases r;rfl
theorem RelV.inj{x y:V}{u:ae}(r:RelV x u)(q:RelV y u):x=y:=bF (r.abs.symm.trans q.abs)
theorem Vals.inj{xs ys:List V}{us:List ae}(h:Vals xs us)(h':Vals ys us):xs=ys:=by
 induction h generalizing ys with
 |nil=>cases h';rfl
 |cons r t ih=>cases h' with
  |cons r' t'=>rw[r.inj r',ih t']
section
variable{X:Cx}{pins:List (Addr×Obj)}{σ:St}{H:Hp}{s:af}{a:Addr}{xs ys:List V}
theorem SqL.of{K:ao}(h:H a=some (.lst xs)):SqL K H a xs:=.inl (.inl h)
theorem SqT.of{K:ao}(h:H a=some (.tup xs)):SqT K H a xs:=.inl (.inl h)
theorem Inv.list(I:Inv X pins σ H s)(h:SqL X.K H a xs):∃its:List ae,Vals xs its/\PlainL s.heap a its.toArray/\xs.length<=sizeLine:=by
 rcases h with h|⟨o,its,n,hk,hc,hd,hs,hz,r⟩
 ·obtain⟨z,its,n,r,e⟩:=h.ok I.hok;exact⟨its,r,⟨_,n,e,rfl,rfl,rfl⟩,z⟩
 ·refine⟨its.toList,r,⟨o,n,I.kIn a o hk,hc,hd,by simpa using hs⟩,?_⟩;have e:=r.length;simp only[Array.length_toList]at e;lia
theorem Inv.tuple(I:Inv X pins σ H s)(h:SqT X.K H a xs):∃its:List ae,Vals xs its/\IsTup s.heap a its.toArray/\xs.length<=sizeLine:=by
 rcases h with h|⟨o,its,n,hk,hc,hs,hz,r⟩
 ·obtain⟨z,its,r,p⟩:=h.ok I.hok;exact⟨its,r,p,z⟩
 ·refine⟨its.toList,r,⟨o,I.kIn a o hk,hc,n,by simpa using hs⟩,?_⟩;have e:=r.length;simp only[Array.length_toList]at e;lia
theorem Inv.list_inj(I:Inv X pins σ H s)(h:SqL X.K H a xs)(h':SqL X.K H a ys):xs=ys:=by
 obtain⟨its,r,⟨o,n,e,_,_,d⟩,_⟩:=I.list h;obtain⟨its',r',⟨o',n',e',_,_,d'⟩,_⟩:=I.list h';rw[e]at e';cases e';rw[d]at d';injection d' with d1 _
 have:its=its':=by simpa using congrArg Array.toList d1
 subst this;exact r.inj r'
theorem Inv.tuple_inj(I:Inv X pins σ H s)(h:SqT X.K H a xs)(h':SqT X.K H a ys):xs=ys:=by
 obtain⟨its,r,⟨o,e,_,n,d⟩,_⟩:=I.tuple h;obtain⟨its',r',⟨o',e',_,n',d'⟩,_⟩:=I.tuple h';rw[e]at e';cases e';rw[d]at d';injection d' with d1 _
 have:its=its':=by simpa using congrArg Array.toList d1
 subst this;exact r.inj r'
end
abbrev Cx.wish(X:Cx)(E:ae->af->Prop):Cx:={X with xe:=E}
abbrev Cx.nox(X:Cx):Cx:=X.wish λ_ _=>False
theorem Cx.Ok.wish{X:Cx}(ok:X.Ok)(E:ae->af->Prop):(X.wish E).Ok:=
 ⟨ok.mod,ok.kind,ok.glob,ok.blt,ok.above,ok.inj,ok.has,ok.cab,ok.hd,ok.frames,ok.stk,ok.exf,ok.bs,ok.bsz,ok.noex,ok.exfs,ok.funs,ok.frf⟩
theorem Cx.Ok.unwish{X:Cx}{E:ae->af->Prop}(ok:(X.wish E).Ok):X.Ok:=
 ⟨ok.mod,ok.kind,ok.glob,ok.blt,ok.above,ok.inj,ok.has,ok.cab,ok.hd,ok.frames,ok.stk,ok.exf,ok.bs,ok.bsz,ok.noex,ok.exfs,ok.funs,ok.frf⟩
section
variable{X:Cx}{pins:List (Addr×Obj)}{σ:St}{H:Hp}{s:af}{E:ae->af->Prop}
theorem Inv.wish(I:Inv X pins σ H s)(E:ae->af->Prop):Inv (X.wish E) pins σ H s:=⟨I.ok.wish E,I.os,I.bare,I.base,I.loc,I.cell,I.free,I.freeC,I.pin,I.hok,I.len⟩
theorem Inv.unwish(I:Inv (X.wish E) pins σ H s):Inv X pins σ H s:=⟨I.ok.unwish,I.os,I.bare,I.base,I.loc,I.cell,I.free,I.freeC,I.pin,I.hok,I.len⟩
theorem SP.unwish{D:Ends}{f:Flow}{s':af}(h:SP (X.wish E) pins D f s'):SP X pins D f s':=by
 cases f with
 |next=>obtain⟨σ',H',I,q⟩:=h;exact⟨σ',H',I.unwish,q⟩
 |brk=>obtain⟨σ',H',I,q⟩:=h;exact⟨σ',H',I.unwish,q⟩
 |cont=>obtain⟨σ',H',I,q⟩:=h;exact⟨σ',H',I.unwish,q⟩
 |ret u=>obtain⟨v,σ',H',I,r,q⟩:=h;exact⟨v,σ',H',I.unwish,r,q⟩
end
section
variable{X:Cx}{st:Stmt}{rest:List Stmt}{t u:TS}{e:Expr}{te:TE}{pos:Pos}
noncomputable def gA:TS:=λD σ H=>D.nx σ H
noncomputable def xJ(t u:TS):TS:=λD σ H=>t {D with nx:=u D} σ H
theorem AK:PSs X [] gA:=λ_ _ σ H _ I h=>wpAny_execs_nil ⟨σ,H,I,h⟩
theorem lb(h1:PS X st t)(h2:PSs X rest u):PSs X (st::rest) (xJ t u):=by
 intro pins s σ H D I h;refine wpAny_execs_cons (thn (h1 pins s σ H {D with nx:=u D} I h) λf s1 q=>?_);cases f with
 |next=>
  obtain⟨σ',H',I',q⟩:=q;exact h2 pins s1 σ' H' D I' q
 |ret v=>exact q
 |brk=>exact q
 |cont=>exact q
noncomputable def pY:TS:=λD σ H=>D.bk σ H
noncomputable def sv:TS:=λD σ H=>D.ct σ H
theorem ux:PS X (.Pass pos) gA:=λ_ _ σ H _ I h=>wpAny_Pass ⟨σ,H,I,h⟩
theorem BC:PS X (.Break pos) pY:=λ_ _ σ H _ I h=>wpAny_Break ⟨σ,H,I,h⟩
theorem sE:PS X (.Continue pos) sv:=λ_ _ σ H _ I h=>wpAny_Continue ⟨σ,H,I,h⟩
theorem Inv.quiet{pins:List (Addr×Obj)}{σ:St}{H:Hp}{s:af}(I:Inv X pins σ H s):interactive X.env=false:=by simp[interactive,I.ok.kind]
noncomputable def BV(te:TE):TS:=λD σ H=>te σ H λ_ H1=>D.nx σ H1
theorem gI(he:PE X e te)(hs:swapsWith e none pos.line X.env=pure false:=by rfl):PS X (.Expr e pos) (BV te):=by
 intro pins s σ H D I h;exact wpAny_Expr_any (thn (he pins s σ H _ I h) λv s1 ⟨x,H1,I1,r1,q1⟩=>⟨σ,H1,I1,q1⟩) I.quiet hs
noncomputable def sY(te:TE):TS:=λD σ H=>te σ H D.rt
theorem lp(he:PE X e te):PS X (.Return (some e) pos) (sY te):=by
 intro pins s σ H D I h;exact wpAny_Return_some (thn (he pins s σ H _ I h) λv s1 ⟨x,H1,I1,r1,q1⟩=>⟨x,σ,H1,I1,r1,q1⟩)
noncomputable def p9:TS:=λD _ H=>D.rt .non H
theorem sM:PS X (.Return none pos) p9:=λ_ _ σ H _ I h=>wpAny_Return_none ⟨.non,σ,H,I,rfl,h⟩
noncomputable def je(c:TT)(t u:TS):TS:=λD σ H=>c σ H λb H1=>if b=true then t D σ H1 else u D σ H1
theorem B'{c:Expr}{a b:List Stmt}{tc:TT}(hc:PT X c tc)(ha:PSs X a t)(hb:PSs X b u):PS X (.If c a b pos) (je tc t u):=by
 intro pins s σ H D I h;refine wpAny_If (thn (hc pins s σ H _ I h) λd s1 ⟨H1,I1,q1⟩=>?_);cases d with
 |true=>exact ha pins s1 σ H1 D I1 q1
 |false=>exact hb pins s1 σ H1 D I1 q1
end
abbrev TG:=V->St->Hp->(St->Hp->Prop)->Prop
abbrev TGs:=List V->St->Hp->(St->Hp->Prop)->Prop
noncomputable def PG(X:Cx)(target:Expr)(t:TG):Prop:=
 ∀(pins:List (Addr×Obj)) (s:af) (σ:St) (H:Hp) (v:V) (u:ae) (Q:St->Hp->Prop),Inv X pins σ H s->RelV v u->t v σ H Q ->
  ah (ai X.prog X.w) X.A (assign target X.env u) (λ_ s'=>∃σ' H',Inv X pins σ' H' s'/\Q σ' H') X.xe s
noncomputable def PGs(X:Cx)(ts:List Expr)(t:TGs):Prop:=
 ∀(pins:List (Addr×Obj)) (s:af) (σ:St) (H:Hp) (vs:List V) (us:List ae) (Q:St->Hp->Prop),Inv X pins σ H s->Vals vs us->t vs σ H Q ->
  ah (ai X.prog X.w) X.A (assignInOrder ((assignEach ts X.env).map (·.2)) us) (λ_ s'=>∃σ' H',Inv X pins σ' H' s'/\Q σ' H') X.xe s
abbrev jF:=V->V->V->Hp->(Hp->Prop)->Prop
noncomputable def fI(X:Cx)(t:jF):Prop:=
 ∀(pins:List (Addr×Obj)) (s:af) (σ:St) (H:Hp) (o i v:V) (ov iv u:ae) (Q:Hp->Prop),Inv X pins σ H s->RelV o ov->RelV i iv->RelV v u->t o i v H Q ->
  ah (ai X.prog X.w) X.A (setItem ov iv u) (λ_ s'=>∃H',Inv X pins σ H' s'/\Q H') X.xe s
section
variable{X:Cx}{pos:Pos}
noncomputable def eP(i:Nat):TG:=λv σ H Q=>Q (σ.set i (some v)) H
theorem yw{i:Nat}{x:Str}(hN:X.N.Nodup)(hi:X.N[i]? = some x)(hx:Loc X.env.scope x)(hf:X.fn x=true\/X.env.scope.names.lookup x=some .local:=by first|exact .inl rfl|exact .inr rfl|assumption):PG X (.Name x pos) (eP i):=by
 intro pins s σ H v u Q I r h;exact wpAny_assign_Name (m9 I hN hi hx r (λs' I'=>⟨_,H,I',h⟩) hf)
noncomputable def lA:TGs:=λvs σ H Q=>vs=[]/\Q σ H
noncomputable def nh(t:TG)(u:TGs):TGs:=λvs σ H Q=>∃v r,vs=v::r/\t v σ H λσ' H'=>u r σ' H' Q
theorem vD:PGs X [] lA:=by
 intro pins s σ H vs us Q I r h;obtain⟨e,h⟩:=h;subst e;cases r;exact assignInOrder_nil ⟨σ,H,I,h⟩
theorem Bf{e:Expr}{es:List Expr}{t:TG}{u:TGs}(h1:PG X e t)(h2:PGs X es u)
  (hs:(assignEach (e::es) X.env).map (·.2)=assign e X.env::(assignEach es X.env).map (·.2):=by rfl):PGs X (e::es) (nh t u):=by
 intro pins s σ H vs us Q I r h;obtain⟨v,vr,e1,h⟩:=h;subst e1;cases r with
 |cons r rr=>
  rw[hs];refine assignInOrder_cons (thn (h1 pins s σ H _ _ _ I r h) λ_ s1 ⟨σ1,H1,I1,q1⟩=>?_);exact h2 pins s1 σ1 H1 _ _ Q I1 rr q1
noncomputable def pM(K:ao)(n:Nat)(t:TGs):TG:=λv σ H Q=>∃a xs,v=.ref a/\SqT K H a xs/\xs.length=n/\t xs σ H Q
theorem wV{es:List Expr}{k:Nat}{t:TGs}{n:Nat}(hc:X.calm=true)(h:PGs X es t)
  (hn:(assignEach es X.env).length=n:=by rfl) (hst:(assignEach es X.env).findIdx? (·.1)=none:=by rfl):PG X (.Tuple es k pos) (pM X.K n t):=by
 intro pins s σ H v u Q I r hw;obtain⟨a,xs,e1,hq,hl,hw⟩:=hw;subst e1;cases r;obtain⟨its,rv,ht,hz⟩:=I.tuple hq;refine assign_Tuple_tuple (I.ok.hd hc) ht (by simp[hn,<-hl,rv.length]) hst λh' hx=>?_
 have I1:Inv X pins σ H {s with heap:=h'}:=I.kept (t':=s.toks) λb o e=>hx b o (aZ (aJ e)) e
 exact h pins _ σ H xs _ Q I1 (by simpa using rv) hw
noncomputable def pG(to ti:TE)(t:jF):TG:=λv σ H Q=>to σ H λo H1=>ti σ H1 λi H2=>t o i v H2 λH3=>Q σ H3
theorem rY{o i:Expr}{to ti:TE}{t:jF}(ho:PE X o to)(hi:PE X i ti)(hs:fI X t)
  (ha:∀v,assign (.Subscript o i pos) X.env v=(do
   let ov <-holding [v] (eval o X.env)
   let iv <-holding [v,ov] (eval i X.env)
   standAt pos
   holding [v,ov,iv] (setItem ov iv v)
   release [v,ov,iv] []):=by intro _;rfl):PG X (.Subscript o i pos) (pG to ti t):=by
 intro pins s σ H v u Q I r h;rw[ha];refine ag (cB (thn (ho pins s σ H _ I h) λov s1 ⟨x,H1,I1,r1,q1⟩=>?_));refine ag (cB (thn (hi pins s1 σ H1 _ I1 q1) λiv s2 ⟨y,H2,I2,r2,q2⟩=>?_));refine ag (wpAny_standAt (ag (cB (thn (hs pins s2 σ H2 x y v ov iv u _ I2 r1 r2 r q2) λ_ s3 ⟨H3,I3,q3⟩=>?_))));exact wpAny_release ⟨σ,H3,I3,q3⟩
noncomputable def jb(te:TE)(g:TG):TS:=λD σ H=>te σ H λx H1=>g x σ H1 D.nx
theorem nG{tg e:Expr}{te:TE}{g:TG}(he:PE X e te)(hg:PG X tg g)(hs:swapsWithSole [tg] e pos.line X.env=pure false:=by rfl)(hw:swappedStores [tg] e X.env=pure none:=by rfl)
  (h1:(assignEach [tg] X.env).map (·.2)=[assign tg X.env]:=by rfl):PS X (.Assign [tg] e pos) (jb te g):=by
 intro pins s σ H D I h;refine wpAny_Assign_stores (thn (he pins s σ H _ I h) λv s1 ⟨x,H1,I1,r1,q1⟩=>?_) hs hw;rw[h1];exact thn (hg pins s1 σ H1 x v _ I1 r1 q1) λ_ s2 q=>q
theorem k9{i:Nat}{x:Str}{e:Expr}{te:TE}{pos':Pos}(hN:X.N.Nodup)(hi:X.N[i]? = some x)(hx:Loc X.env.scope x)(he:PE X e te)(hs:swapsWith e (some (.Name x pos')) pos.line X.env=pure false:=by rfl)(hf:X.fn x=true\/X.env.scope.names.lookup x=some .local:=by first|exact .inl rfl|exact .inr rfl|assumption) :
  PS X (.Assign [.Name x pos'] e pos) (jb te (eP i)):=by
 intro pins s σ H D I h;refine wpAny_Assign_Name (thn (he pins s σ H _ I h) λv s1 ⟨y,H1,I1,r1,q1⟩=>?_) hs;exact m9 I1 hN hi hx r1 (λs2 I2=>⟨_,H1,I2,q1⟩) hf
end
section
variable{X:Cx}{pos:Pos}
noncomputable def vM(c:TT)(tb:TS):TS:=λD σ H=>∃W:Nat->St->Hp->Prop,(∃m,W m σ H)/\∀m σ H,W m σ H ->
 c σ H λb H1=>if b=true then ∃N:St->Hp->Prop,(∀σ' H',N σ' H'->∃m',m'<m/\W m' σ' H')/\tb {D with nx:=N,ct:=N,bk:=D.nx} σ H1 else D.nx σ H1
theorem yO{c:Expr}{body:List Stmt}{tc:TT}{tb:TS}(hp:PassesOwn (ai X.prog X.w) X.A X.env X.xe)(hc:PT X c tc)(hb:PSs X body tb):PS X (.While c body [] pos) (vM tc tb):=by
 intro pins s σ H D I h;obtain⟨W,⟨m0,w0⟩,turn⟩:=h;refine wpAny_While (codeAny_whileLoop (λn s'=>∃σ' H',Inv X pins σ' H' s'/\W n σ' H') ?_ m0 ⟨σ,H,I,w0⟩);rintro n s1 ⟨σ1,H1,I1,w1⟩;refine wpAny_passesOwn hp (thn (hc pins s1 σ1 H1 _ I1 (turn n σ1 H1 w1)) λb s2 ⟨H2,I2,q2⟩=>?_);cases b with
 |true=>
  obtain⟨N,hN,q2⟩:=q2;rw[if_pos rfl];refine wpAny_passesOwn hp (thn (hb pins s2 σ1 H2 _ I2 q2) λf s3 q3=>?_);cases f with
  |next=>
   obtain⟨σ3,H3,I3,n3⟩:=q3;obtain⟨m',hm,w3⟩:=hN σ3 H3 n3;exact⟨m',hm,σ3,H3,I3,w3⟩
  |cont=>
   obtain⟨σ3,H3,I3,n3⟩:=q3;obtain⟨m',hm,w3⟩:=hN σ3 H3 n3;exact⟨m',hm,σ3,H3,I3,w3⟩
  |brk=>exact q3
  |ret v=>exact q3
 |false=>
  rw[if_neg bK];exact wpAny_execs_nil ⟨σ1,H2,I2,q2⟩
end
structure It where
 go:Nat->Hp->Prop
 yld:Nat->Hp->V->Hp->Prop
 stop:Nat->Hp->Prop
noncomputable def de(X:Cx)(pins:List (Addr×Obj))(H:Hp)(b:Addr):Prop:=
 H b=none/\b≠X.env.locals/\b∉X.fs/\(b∈X.ex\/X.s₀.heap.objs.size<=b)/\(∀x c,X.env.cells.lookup x=some c->c≠b)/\∀p∈X.pn++pins,p.1≠b
theorem Inv.fpOk{X:Cx}{pins:List (Addr×Obj)}{σ:St}{H H':Hp}{s:af}{b:Addr}(I:Inv X pins σ H s)(hb:s.heap.objs.size<=b)(hn:H' b=none):de X pins H' b:=by
 refine⟨hn,Nat.ne_of_gt (bc I.lt hb),I.nofs hb,.inr (ba I.sz hb),λx c e z=>?_,λp hp z=>?_⟩
 ·obtain⟨v,q⟩:=I.cell x c e;exact absurd (bc q.lt (by rw[z];exact hb)) (bx _)
 ·exact absurd (bc (aJ (I.pin p hp).1) (by rw[z];exact hb)) (bx _)
structure Turn(P:aq)(w:ak)(K:ao)(tg:Expr)(J:It)(fp:List Addr)(it:Addr)(tn:Nat->Heap->Prop):Prop where
 mem:it∈fp
 obj:∀i h,tn i h->∀b∈fp,∃o,h.get? b=some o/\∀v,o.data≠.cell v
 keep:∀i h h',tn i h->(∀b∈fp,∀o,h.get? b=some o->h'.get? b=some o)->tn i h'
 item:∀(X:Cx),X.prog=P->X.w=w->X.K=K->X.calm=true->∀(i:Nat) (pins:List (Addr×Obj)) (s:af) (σ:St) (H:Hp) (E:ae->af->Prop),Inv X pins σ H s->(∀b∈fp,de X pins H b)->tn i s.heap->J.go i H ->
  ah (ai P w) X.A (pyNext (.ref it)) (λr s1=>∃u,r=some u /\
   ah (ai P w) X.A (letOwnedTupleGo tg (.ref it) u) (λ_ s2=>∃x H',Inv X pins σ H' s2/\RelV x u/\J.yld i H x H'/\tn (i+1) s2.heap/\∀b∈fp,H' b=none) E s1) E s
 done:∀(X:Cx),X.prog=P->X.w=w->X.K=K->X.calm=true->∀(i:Nat) (pins:List (Addr×Obj)) (s:af) (σ:St) (H:Hp) (E:ae->af->Prop),Inv X pins σ H s->(∀b∈fp,de X pins H b)->tn i s.heap->J.stop i H ->
  ah (ai P w) X.A (pyNext (.ref it)) (λr s1=>r=none/\Inv X pins σ H s1) E s
 self:∀(A:au) (i:Nat) (s:af) (Q:ae->af->Prop) (E:ae->af->Prop),tn i s.heap->Q (.ref it) s->ah (ai P w) A (pyIter (.ref it)) Q E s
abbrev TI:=St->Hp->(It->Hp->Prop)->Prop
noncomputable def PIE(X:Cx)(pins:List (Addr×Obj))(σ:St)(tg:Expr)(R:It->Hp->Prop)(itv:ae)(s2:af):Prop:=
 ∃(it:Addr) (fp:List Addr) (tn:Nat->Heap->Prop) (J:It) (H':Hp),itv=.ref it/\Inv X pins σ H' s2/\Turn X.prog X.w X.K tg J fp it tn/\tn 0 s2.heap/\(∀b∈fp,de X pins H' b)/\R J H'
noncomputable def PI(X:Cx)(tg iter:Expr)(wi:TI):Prop:=
 ∀(pins:List (Addr×Obj)) (s:af) (σ:St) (H:Hp) (R:It->Hp->Prop),Inv X pins σ H s->wi σ H R ->
  ah (ai X.prog X.w) X.A (eval iter X.env) (λv s1=>ah (ai X.prog X.w) X.A (pyIter v) (PIE X pins σ tg R) X.xe s1) X.xe s
theorem jh{M:Model}{A:au}{E:ae->af->Prop}{s:af}{tg:Expr}{it:Addr}{u:ae}{o:Obj}{n:String}{vs:Array ae}{Q:Unit->af->Prop}(ho:s.heap.get? it=some o)(hc:o.cls=.type n)(hd:o.data=.fields vs)
  (hn:["enumerate","zip","dict_itemiterator","dict_reverseitemiterator","odict_iterator","itertools.zip_longest","itertools.pairwise"].contains n=false) (hQ:Q () s):ah M A (letOwnedTupleGo tg (.ref it) u) Q E s:=by
 unfold letOwnedTupleGo;cases tg<;>first
  |exact av hQ
  | (cases u<;>first
    |exact av hQ
    | (refine ag (wpAny_load ho ?_)
       rw[hc,hd];show ah M A (if (["enumerate","zip","dict_itemiterator","dict_reverseitemiterator","odict_iterator","itertools.zip_longest","itertools.pairwise"].contains n&&vs[0]? == some (rawInt _))=true then _ else _) Q E s;rw[if_neg (by intro h;rw[hn,Bool.false_and]at h;cases h)];exact av hQ))
noncomputable def Itl(K:ao)(a:Addr):It:=
 ⟨λi H=>∃xs x,SqL K H a xs/\xs[i]? = some x,λi H x H'=>H'=H/\∀xs,SqL K H a xs->xs[i]? = some x,λi H=>∃xs,SqL K H a xs/\xs.length<=i⟩
noncomputable def Itt(K:ao)(a:Addr):It:=
 ⟨λi H=>∃xs x,SqT K H a xs/\xs[i]? = some x,λi H x H'=>H'=H/\∀xs,SqT K H a xs->xs[i]? = some x,λi H=>∃xs,SqT K H a xs/\xs.length<=i⟩
noncomputable def Itr(lo:Int)(n:Nat):It:=⟨λi _=>i<n,λi H x H'=>H'=H/\x=.int (lo+i),λi _=>n<=i⟩
theorem r8{P:aq}{w:ak}{K:ao}{tg:Expr}(a it:Addr):Turn P w K tg (Itl K a) [it] it (λi h=>h.IsListIter it a i) where
 mem:=by simp
 obj:=λi h st b hb=>by
  have e:b=it:=by simpa using hb
  subst e;obtain⟨o,e,c,d⟩:=st;exact⟨o,e,λv z=>by rw[d]at z;cases z⟩
 keep:=λi h h' st k=>st.at λo e=>k it (by simp) o e
 item:=by
  intro X hP hw hK hc i pins s σ H E I hf st hg;subst hP hw hK;obtain⟨xs,x,hq,hx⟩:=hg;obtain⟨its,rv,p,hz⟩:=I.list hq;obtain⟨u,hu,ru⟩:=rv.get hx;obtain⟨f0,f1,f2,f3,f4,f5⟩:=hf it (by simp);refine wpAny_pyNext_list_item st p.isList (x:=u) (by simpa using hu) λh' st' sb=>?_
  have I1:Inv X pins σ H {s with heap:=h'}:=I.turned (t':=s.toks) (λb o hb e=>(sb.2 b hb).trans e) f0 f1 f3 f4 f5;obtain⟨o,e,c,d⟩:=id st';exact⟨u,rfl,jh (s:={s with heap:=h'}) e c d (by decide) ⟨x,H,I1,ru,⟨rfl,λys hy=>by rw[I.list_inj hy hq];exact hx⟩,st',λb hb=>(hf b hb).1⟩⟩
 done:=by
  intro X hP hw hK hc i pins s σ H E I hf st hg;subst hP hw hK;obtain⟨xs,hq,hx⟩:=hg;obtain⟨its,rv,p,hz⟩:=I.list hq;obtain⟨f0,f1,f2,f3,f4,f5⟩:=hf it (by simp);have hl:=rv.length;exact wpAny_pyNext_list_end (I.ok.hd hc) st p.isList (by simp;lia) λh' eb=>⟨rfl,I.turned (t':=s.toks) (λb o hb e=>eb b o hb e) f0 f1 f3 f4 f5⟩
 self:=λ_ _ _ _ _ st h=>wpAny_pyIter_listiter st h
theorem rS{P:aq}{w:ak}{K:ao}{tg:Expr}(a it:Addr):Turn P w K tg (Itt K a) [it] it (λi h=>h.IsTupleIter it a i) where
 mem:=by simp
 obj:=λi h st b hb=>by
  have e:b=it:=by simpa using hb
  subst e;obtain⟨o,e,c,d⟩:=st;exact⟨o,e,λv z=>by rw[d]at z;cases z⟩
 keep:=λi h h' st k=>st.at λo e=>k it (by simp) o e
 item:=by
  intro X hP hw hK hc i pins s σ H E I hf st hg;subst hP hw hK;obtain⟨xs,x,hq,hx⟩:=hg;obtain⟨its,rv,p,hz⟩:=I.tuple hq;obtain⟨u,hu,ru⟩:=rv.get hx;obtain⟨f0,f1,f2,f3,f4,f5⟩:=hf it (by simp);refine wpAny_pyNext_tuple_item st (show s.heap.IsTuple a its.toArray from p) (x:=u) (by simpa using hu) λh' st' sb=>?_
  have I1:Inv X pins σ H {s with heap:=h'}:=I.turned (t':=s.toks) (λb o hb e=>(sb.2 b hb).trans e) f0 f1 f3 f4 f5;obtain⟨o,e,c,d⟩:=id st';exact⟨u,rfl,jh (s:={s with heap:=h'}) e c d (by decide) ⟨x,H,I1,ru,⟨rfl,λys hy=>by rw[I.tuple_inj hy hq];exact hx⟩,st',λb hb=>(hf b hb).1⟩⟩
 done:=by
  intro X hP hw hK hc i pins s σ H E I hf st hg;subst hP hw hK;obtain⟨xs,hq,hx⟩:=hg;obtain⟨its,rv,p,hz⟩:=I.tuple hq;obtain⟨f0,f1,f2,f3,f4,f5⟩:=hf it (by simp);have hl:=rv.length;exact wpAny_pyNext_tuple_end (I.ok.hd hc) st (show s.heap.IsTuple a its.toArray from p) (by simp;lia) λh' eb=>⟨rfl,I.turned (t':=s.toks) (λb o hb e=>eb b o hb e) f0 f1 f3 f4 f5⟩
 self:=λ_ _ _ _ _ st h=>wpAny_pyIter_tupleiter st h
theorem BD{P:aq}{w:ak}{K:ao}{tg:Expr}(it:Addr)(lo:Int)(n:Nat):Turn P w K tg (Itr lo n) [it] it (λi h=>IsRangeIter h it (lo+(i:Nat) * 1) ((n:Int)-(i:Nat)) 1) where
 mem:=by simp
 obj:=λi h st b hb=>by
  have e:b=it:=by simpa using hb
  subst e;exact⟨_,st,λv z=>by
   have z':Data.fields _=Data.cell v:=z;cases z'⟩
 keep:=λi h h' st k=>k it (by simp) _ st
 item:=by
  intro X hP hw hK hc i pins s σ H E I hf st hg;subst hP hw hK;obtain⟨f0,f1,f2,f3,f4,f5⟩:=hf it (by simp);have W:=Walks.range (prog:=X.prog) (w:=X.w) (I.ok.hd hc) it lo 1 n;refine W.item i s _ _ hg st λv h' tk hv st' kk=>?_
  obtain⟨t,rfl⟩:=hv;have I1:Inv X pins σ H {s with heap:=h',toks:=tk}:=I.turned (λb o hb e=>kk b o (by simpa using hb) e) f0 f1 f3 f4 f5;refine⟨_,rfl,jh (s:={s with heap:=h',toks:=tk}) (n:="range_iterator") st' rfl rfl (by decide) ⟨.int (lo+i),H,I1,⟨t,?_⟩,⟨rfl,rfl⟩,st',λb hb=>(hf b hb).1⟩⟩;rw[Int.mul_one]
 done:=by
  intro X hP hw hK hc i pins s σ H E I hf st hg;subst hP hw hK;obtain⟨f0,f1,f2,f3,f4,f5⟩:=hf it (by simp);exact wpAny_pyNext_range_end (I.ok.hd hc) st (by have:n<=i:=hg;lia) λh' eb=>⟨rfl,I.turned (t':=s.toks) (λb o hb e=>eb b o hb e) f0 f1 f3 f4 f5⟩
 self:=λ_ _ _ _ _ st h=>wpAny_pyIter_rangeiter st h
section
variable{X:Cx}{tg:Expr}
noncomputable def vy(K:ao)(tl:TE):TI:=λσ H R=>tl σ H λx H1=>∃a,x=.ref a/\(∃xs,SqL K H1 a xs)/\R (Itl K a) H1
noncomputable def uJ(K:ao)(tl:TE):TI:=λσ H R=>tl σ H λx H1=>∃a,x=.ref a/\(∃xs,SqT K H1 a xs)/\R (Itt K a) H1
theorem z_{l:Expr}{tl:TE}(hl:PE X l tl):PI X tg l (vy X.K tl):=by
 intro pins s σ H R I h;refine thn (hl pins s σ H _ I h) λv s1 ⟨x,H1,I1,r1,q1⟩=>?_
 obtain⟨a,e,⟨xs,hq⟩,q⟩:=q1;subst e;cases r1;obtain⟨its,rv,p,hz⟩:=I1.list hq;refine wpAny_pyIter_list p.isList ?_;refine⟨s1.heap.objs.size,[s1.heap.objs.size],_,_,H1,rfl,I1.kept (t':=s1.toks) λb o e=>Heap.get?_push_of_some _ e,r8 a _,⟨_,Heap.get?_push_size _ rfl,rfl,rfl⟩,λb hb=>?_,q⟩;have e:b=s1.heap.objs.size:=by simpa using hb
 subst e;exact I1.fpOk (aB _) (I1.hok.fresh (aB _))
theorem sV{l:Expr}{tl:TE}(hl:PE X l tl):PI X tg l (uJ X.K tl):=by
 intro pins s σ H R I h;refine thn (hl pins s σ H _ I h) λv s1 ⟨x,H1,I1,r1,q1⟩=>?_
 obtain⟨a,e,⟨xs,hq⟩,q⟩:=q1;subst e;cases r1;obtain⟨its,rv,p,hz⟩:=I1.tuple hq;refine wpAny_pyIter_tuple (show s1.heap.IsTuple a its.toArray from p) ?_;refine⟨s1.heap.objs.size,[s1.heap.objs.size],_,_,H1,rfl,I1.kept (t':=s1.toks) λb o e=>Heap.get?_push_of_some _ e,rS a _,⟨_,Heap.get?_push_size _ rfl,rfl,rfl⟩,λb hb=>?_,q⟩;have e:b=s1.heap.objs.size:=by simpa using hb
 subst e;exact I1.fpOk (aB _) (I1.hok.fresh (aB _))
theorem lK{pins:List (Addr×Obj)}{σ:St}{H:Hp}{s:af}{R:It->Hp->Prop}{E:ae->af->Prop}{lo hi:Int}{t u v:Tok}{tk:Nat}(I:Inv X pins σ H s)(h1:-(2^62)<=lo)(h2:lo<2^62)(h3:-(2^62)<=hi)(h4:hi<2^62)
  (q:R (Itr lo (hi-lo).toNat) H):ah (ai X.prog X.w) X.A (pyIter (.ref s.heap.objs.size)) (PIE X pins σ tg R) E {s with heap:=s.heap.push {cls:=.type "range",data:=.fields #[.int lo t,.int hi u,.int 1 v]},toks:=tk}:=by
 refine wpAny_pyIter_range (IsRange.new ..) (small_one h1 h2 h3 h4) ?_;have I1:Inv X pins σ H {s with heap:=s.heap.push {cls:=.type "range",data:=.fields #[.int lo t,.int hi u,.int 1 v]},toks:=tk}:=I.kept λb o e=>Heap.get?_push_of_some _ e
 refine⟨(s.heap.push {cls:=.type "range",data:=.fields #[.int lo t,.int hi u,.int 1 v]}).objs.size,[(s.heap.push {cls:=.type "range",data:=.fields #[.int lo t,.int hi u,.int 1 v]}).objs.size],_,_,H,rfl,
  I1.kept (t':=tk) λb o e=>Heap.get?_push_of_some _ e,BD _ lo (hi-lo).toNat,?_,λb hb=>?_,q⟩
 ·have e1:lo+((0:Nat):Int) * 1=lo:=by simp
  have e2:(((hi-lo).toNat:Nat):Int)-((0:Nat):Int)=Builtin.Range.rangeSize lo hi 1:=by rw[rangeSize_one];split<;>lia
  show IsRangeIter _ _ (lo+((0:Nat):Int) * 1) ((((hi-lo).toNat:Nat):Int)-((0:Nat):Int)) 1;rw[e1,e2];exact Heap.get?_push_size _ rfl
 ·have e:b=(s.heap.push {cls:=.type "range",data:=.fields #[.int lo t,.int hi u,.int 1 v]}).objs.size:=by simpa using hb
  subst e;exact I1.fpOk (aB _) (I1.hok.fresh (aB _))
noncomputable def tH(ta:TA):TI:=λσ H R=>ta σ H λvs H1=>∃j:Int,vs=[.int j]/\-(2^62)<=j/\j<2^62/\R (Itr 0 j.toNat) H1
noncomputable def CD(ta:TA):TI:=λσ H R=>ta σ H λvs H1=>∃i j:Int,vs=[.int i,.int j]/\(-(2^62)<=i/\i<2^62/\-(2^62)<=j/\j<2^62)/\R (Itr i (j-i).toNat) H1
theorem uu{a:Expr}{ta:TA}{p pos:Pos}(hg:Gl X "range")(hm:X.mg "range" = none)(ha:PA X [a] ta)(hs:aL [a] X.env=[(false,eval a X.env)]:=by rfl):PI X tg (.Call (.Name "range" p) [a] [] pos) (tH ta):=by
 intro pins s σ H R I h;refine Call_ (fm I hg hm boot_range (eJ (thn (ha pos pins s σ H _ I h) λus s1 ⟨vs,H1,I1,r1,q1⟩=>?_) hs rfl));obtain⟨j,e,q1,q2,q⟩:=q1;subst e;cases r1 with
 |cons r rr=>
  cases rr;obtain⟨t,rfl⟩:=r;exact call_range_1 (lK I1 (by lia) (by lia) q1 q2 (by simpa using q))
theorem wQ{a b:Expr}{ta:TA}{p pos:Pos}(hg:Gl X "range")(hm:X.mg "range" = none)(ha:PA X [a,b] ta)(hs:aL [a,b] X.env=[(false,eval a X.env),(false,eval b X.env)]:=by rfl)(hs2:aL [b] X.env=[(false,eval b X.env)]:=by rfl) :
  PI X tg (.Call (.Name "range" p) [a,b] [] pos) (CD ta):=by
 intro pins s σ H R I h;refine Call_ (fm I hg hm boot_range (eJ (thn (ha pos pins s σ H _ I h) λus s1 ⟨vs,H1,I1,r1,q1⟩=>?_) (by rw[hs,hs2]) (by rw[hs2];rfl)));obtain⟨i,j,e,⟨q1,q2,q3,q4⟩,q⟩:=q1;subst e;cases r1 with
 |cons r rr=>
  cases rr with
  |cons r' rr=>
   cases rr;obtain⟨t,rfl⟩:=r;obtain⟨t',rfl⟩:=r';exact call_range_2 (lK I1 q1 q2 q3 q4 q)
noncomputable def uU(wi:TI)(g:TG)(tb:TS):TS:=λD σ H=>wi σ H λJ H1=>∃W:Nat->Nat->St->Hp->Prop,(∃m,W 0 m σ H1)/\∀i m σ H,W i m σ H ->
 (J.stop i H/\D.nx σ H)\/(J.go i H/\∃N:St->Hp->Prop,(∀σ' H',N σ' H'->∃m',m'<m/\W (i+1) m' σ' H')/\∀x H',J.yld i H x H'->g x σ H' λσ2 H2=>tb {D with nx:=N,ct:=N,bk:=D.nx} σ2 H2)
noncomputable def gF(fp:List Addr)(h:Heap):List (Addr×Obj):=fp.filterMap λb=>(h.get? b).map λo=>(b,o)
theorem jd{fp:List Addr}{h:Heap}{b:Addr}{o:Obj}(hb:b∈fp)(e:h.get? b=some o):(b,o)∈gF fp h:=List.mem_filterMap.mpr ⟨b,hb,by rw[e];rfl⟩
theorem wG{fp:List Addr}{h:Heap}{p:Addr×Obj}(hp:p∈gF fp h):p.1∈fp/\h.get? p.1=some p.2:=by
 obtain⟨b,hb,e⟩:=List.mem_filterMap.mp hp;cases q:h.get? b with
 |none=>rw[q]at e;cases e
 |some o=>
  rw[q]at e;have e':(b,o)=p:=bF e;subst e';exact⟨hb,q⟩
theorem Inv.pinned{pins:List (Addr×Obj)}{σ:St}{H:Hp}{s:af}{fp:List Addr}(I:Inv X pins σ H s)(hf:∀b∈fp,de X pins H b)(ho:∀b∈fp,∃o,s.heap.get? b=some o/\∀v,o.data≠.cell v):Inv X (pins++gF fp s.heap) σ H s:=
 I.pins_of λp hp=>(List.mem_append.mp hp).elim (λz=>I.pin p (cc _ z)) λz=>by
  obtain⟨hb,e⟩:=wG z;obtain⟨f0,f1,f2,_⟩:=hf p.1 hb;obtain⟨o,e',d⟩:=ho p.1 hb;rw[e]at e';cases e';exact⟨e,f0,f1,f2,d⟩
theorem Inv.unpinned{pins pl:List (Addr×Obj)}{σ:St}{H:Hp}{s:af}(I:Inv X (pins++pl) σ H s):Inv X pins σ H s:=I.pins_of λp hp=>I.pin p (cc _ (List.mem_append_left _ hp))
theorem xY{iter:Expr}{body:List Stmt}{wi:TI}{g:TG}{tb:TS}{pos:Pos}(hp:PassesOwn (ai X.prog X.w) X.A X.env X.xe)(hc:X.calm=true)(hi:PI X tg iter wi)(hg:PG X tg g)(hb:PSs X body tb)
  (hs:∀x,foldedSetIterable iter X.env x=pure x:=by intro _;rfl):PS X (.For tg iter body [] pos) (uU wi g tb):=by
 intro pins s σ H D I h;refine wpAny_For (thn (hi pins s σ H _ I h) λv s1 h1=>thn h1 λitv s2 h2=>?_) hs;obtain⟨it,fp,tn,J,H2,e,I2,T,st2,f2,W,⟨m0,w0⟩,turn⟩:=h2;subst e
 -- what stays true of the iterator's objects through the loop
 have stat:∀{H':Hp},(∀b∈fp,H' b=none)->∀b∈fp,de X pins H' b:=λhn b hb=>⟨hn b hb,(f2 b hb).2⟩
 refine codeAny_forLoop_any (λn s'=>∃i σ' H',Inv X pins σ' H' s'/\tn i s'.heap/\(∀b∈fp,H' b=none)/\W i n σ' H') ?_ m0 ⟨0,σ,H2,I2,st2,λb hb=>(f2 b hb).1,w0⟩;rintro n s3 ⟨i,σ3,H3,I3,st3,fr3,w3⟩;rcases turn i n σ3 H3 w3 with ⟨stop,qn⟩|⟨go,N,hN,step⟩
 ·refine wpAny_passesOwn hp (thn (T.done X rfl rfl rfl hc i pins s3 σ3 H3 X.xe I3 (stat fr3) st3 stop) λr s4 ⟨hr,I4⟩=>?_);subst hr;exact wpAny_execs_nil ⟨σ3,H3,I4,qn⟩
 ·refine wpAny_passesOwn hp (thn (T.item X rfl rfl rfl hc i pins s3 σ3 H3 X.xe I3 (stat fr3) st3 go) λr s4 ⟨u,hr,h4⟩=>?_);subst hr;refine wpAny_passesOwn hp (thn h4 λ_ s5 ⟨x,H5,I5,r5,y5,st5,fr5⟩=>?_);have I5':=I5.pinned (stat fr5) (T.obj _ _ st5);refine wpAny_passesOwn hp (thn (hg _ s5 σ3 H5 x u _ I5' r5 (step x H5 y5)) λ_ s6 ⟨σ6,H6,I6,q6⟩=>?_);refine wpAny_passesOwn hp (thn (hb _ s6 σ6 H6 _ I6 q6) λf s7 q7=>?_);have again:∀{σ7:St}{H7:Hp},Inv X (pins++gF fp s5.heap) σ7 H7 s7->N σ7 H7->∃m,m<n/\∃i σ' H',Inv X pins σ' H' s7/\tn i s7.heap/\(∀b∈fp,H' b=none)/\W i m σ' H':=λ{σ7 H7} I7 n7=>by
   obtain⟨m',hm,w7⟩:=hN σ7 H7 n7;refine⟨m',hm,i+1,σ7,H7,I7.unpinned,T.keep _ _ _ st5 λb hb o e=>(I7.pin (b,o) (cc _ (cc _ (jd hb e)))).1,λb hb=>?_,w7⟩;obtain⟨o,e,d⟩:=T.obj _ _ st5 b hb;exact(I7.pin (b,o) (cc _ (cc _ (jd hb e)))).2.1
  cases f with
  |next=>obtain⟨σ7,H7,I7,n7⟩:=q7;exact again I7 n7
  |cont=>obtain⟨σ7,H7,I7,n7⟩:=q7;exact again I7 n7
  |brk=>obtain⟨σ7,H7,I7,q7⟩:=q7;exact⟨σ7,H7,I7.unpinned,q7⟩
  |ret v=>obtain⟨x7,σ7,H7,I7,r7,q7⟩:=q7;exact⟨x7,σ7,H7,I7.unpinned,r7,q7⟩
end
abbrev R2:=V->V->Hp->VK->Prop
noncomputable def OpR(X:Cx)(f:ae->ae->Sem ae)(r:R2):Prop:=
 ∀(pins:List (Addr×Obj)) (s:af) (σ:St) (H:Hp) (x y:V) (v u:ae) (Q:VK),Inv X pins σ H s->RelV x v->RelV y u->r x y H Q ->
  ah (ai X.prog X.w) X.A (f v u) (EP X pins σ Q) X.xe s
noncomputable def UnR(X:Cx)(f:ae->Sem ae)(r:V->Hp->VK->Prop):Prop:=
 ∀(pins:List (Addr×Obj)) (s:af) (σ:St) (H:Hp) (x:V) (v:ae) (Q:VK),Inv X pins σ H s->RelV x v->r x H Q ->
  ah (ai X.prog X.w) X.A (f v) (EP X pins σ Q) X.xe s
noncomputable def zl(X:Cx)(f:ae)(r:List V->Hp->VK->Prop):Prop:=
 ∀(pins:List (Addr×Obj)) (s:af) (σ:St) (H:Hp) (xs:List V) (us:List ae) (Q:VK),Inv X pins σ H s->Vals xs us->r xs H Q ->
  ah (ai X.prog X.w) X.A (call f us) (EP X pins σ Q) X.xe s
noncomputable def vT(X:Cx)(r:V->Hp->(Bool->Hp->Prop)->Prop):Prop:=
 ∀(pins:List (Addr×Obj)) (s:af) (σ:St) (H:Hp) (x:V) (v:ae) (Q:Bool->Hp->Prop),Inv X pins σ H s->RelV x v->r x H Q ->
  ah (ai X.prog X.w) X.A (truthy v) (TP X pins σ Q) X.xe s
noncomputable def tOp(r:R2)(ta tb:TE):TE:=λσ H Q=>ta σ H λx H1=>tb σ H1 λy H2=>r x y H2 Q
noncomputable def tUn(r:V->Hp->VK->Prop)(ta:TE):TE:=λσ H Q=>ta σ H λx H1=>r x H1 Q
noncomputable def rI(C:Int->Int->Prop)(g:Int->Int->V):R2:=λx y H Q=>∃i j,x=.int i/\y=.int j/\C i j/\Q (g i j) H
noncomputable def rI0(g:Int->Int->V):R2:=λx y H Q=>∃i j,x=.int i/\y=.int j/\Q (g i j) H
noncomputable def rU(g:Int->V):V->Hp->VK->Prop:=λx H Q=>∃i,x=.int i/\Q (g i) H
section
variable{X:Cx}{a b c:Expr}{ta tb tc:TE}{pos:Pos}
theorem kB(ha:PE X a ta)(hb:PE X b tb){pins:List (Addr×Obj)}{s:af}{σ:St}{H:Hp}{R:V->V->Hp->Prop}(I:Inv X pins σ H s)
  (h:ta σ H λx H1=>tb σ H1 λy H2=>R x y H2) {Q:ae->af->Prop}{f:ae->ae->Sem ae}
  (hf:∀v u s2 x y H2,Inv X pins σ H2 s2->RelV x v->RelV y u->R x y H2->ah (ai X.prog X.w) X.A (f v u) Q X.xe s2) :
  ah (ai X.prog X.w) X.A (eval a X.env) (λv s₁=>ah (ai X.prog X.w) X.A (eval b X.env) (λu s₂=>ah (ai X.prog X.w) X.A (f v u) Q X.xe s₂) X.xe s₁) X.xe s:=by
 refine thn (ha pins s σ H _ I h) λv s1 ⟨x,H1,I1,r1,q1⟩=>?_
 refine thn (hb pins s1 σ H1 _ I1 q1) λu s2 ⟨y,H2,I2,r2,q2⟩=>?_
 exact hf v u s2 x y H2 I2 r1 r2 q2
theorem p8{op:Operator}{r:R2}(ho:OpR X (binaryOp op) r)(ha:PE X a ta)(hb:PE X b tb):PE X (.BinOp a op b pos) (tOp r ta tb):=by
 intro pins s σ H Q I h;exact wpAny_BinOp (kB ha hb I h λv u s2 x y H2 I2 rx ry q=>ho pins s2 σ H2 x y v u Q I2 rx ry q)
theorem Cm{op:UnaryOp}{r:V->Hp->VK->Prop}(ho:UnR X (unaryOp op) r)(ha:PE X a ta):PE X (.UnaryOp op a pos) (tUn r ta):=by
 intro pins s σ H Q I h;exact UnaryOp_ (thn (ha pins s σ H _ I h) λv s1 ⟨x,H1,I1,r1,q1⟩=>ho pins s1 σ H1 x v Q I1 r1 q1)
theorem opI{f:ae->ae->Sem ae}{C:Int->Int->Prop}{g:Int->Int->Int}
  (rule:∀(i j:Int) (t u:Tok) (s:af) (Q:ae->af->Prop) (E:ae->af->Prop),C i j->Q (.int (g i j) s.toks) {s with toks:=s.toks+1}->ah (ai X.prog X.w) X.A (f (.int i t) (.int j u)) Q E s) :
  OpR X f (rI C λi j=>.int (g i j)):=by
 intro pins s σ H x y v u Q I rx ry h;obtain⟨i,j,rfl,rfl,hc,q⟩:=h;obtain⟨t,rfl⟩:=rx;obtain⟨t',rfl⟩:=ry;exact rule i j t t' s _ _ hc ⟨.int (g i j),H,I.tok _,⟨_,rfl⟩,q⟩
theorem o4{f:ae->ae->Sem ae}{g:Int->Int->Int}
  (rule:∀(i j:Int) (t u:Tok) (s:af) (Q:ae->af->Prop) (E:ae->af->Prop),Q (.int (g i j) s.toks) {s with toks:=s.toks+1}->ah (ai X.prog X.w) X.A (f (.int i t) (.int j u)) Q E s) :
  OpR X f (rI0 λi j=>.int (g i j)):=by
 intro pins s σ H x y v u Q I rx ry h;obtain⟨i,j,rfl,rfl,q⟩:=h;obtain⟨t,rfl⟩:=rx;obtain⟨t',rfl⟩:=ry;exact rule i j t t' s _ _ ⟨.int (g i j),H,I.tok _,⟨_,rfl⟩,q⟩
theorem i8{f:ae->ae->Sem ae}{g:Int->Int->Bool}
  (rule:∀(i j:Int) (t u:Tok) (s:af) (Q:ae->af->Prop) (E:ae->af->Prop),Q (.bool (g i j)) s->ah (ai X.prog X.w) X.A (f (.int i t) (.int j u)) Q E s) :
  OpR X f (rI0 λi j=>.bl (g i j)):=by
 intro pins s σ H x y v u Q I rx ry h;obtain⟨i,j,rfl,rfl,q⟩:=h;obtain⟨t,rfl⟩:=rx;obtain⟨t',rfl⟩:=ry;exact rule i j t t' s _ _ ⟨.bl (g i j),H,I,rfl,q⟩
noncomputable def k8(i j:Int):Prop:=(-(2^64)<i/\i<2^64)\/(-(2^64)<j/\j<2^64)
theorem k8.ok{i j:Int}(h:k8 i j):IntMulOk i j:=by
 rcases h with ⟨h1,h2⟩|⟨h1,h2⟩
 ·exact .of_left (intBits_le_64 h1 h2)
 ·exact .of_right (intBits_le_64 h1 h2)
theorem uM(k:Nat):(0:Int)<=2^k:=by
 rw[two_pow_cast];exact Int.natCast_nonneg _
theorem tf:OpR X (binaryOp .Add) (rI0 λi j=>.int (i+j)):=o4 λ_ _ _ _ _ _ _ q=>add_int q
theorem vP:OpR X (binaryOp .Sub) (rI0 λi j=>.int (i-j)):=o4 λ_ _ _ _ _ _ _ q=>sub_int q
theorem vp:OpR X (binaryOp .Mult) (rI k8 λi j=>.int (i * j)):=opI λ_ _ _ _ _ _ _ hc q=>mul_int q hc.ok
theorem uY:OpR X (binaryOp .Mod) (rI (λ_ j=>0<j) λi j=>.int (i%j)):=opI λi j _ _ _ _ _ hc q=>by
 have h1:(0:Int)<j:=hc;exact mod_int' (by lia) (by rw[Int.fmod_eq_emod_of_nonneg i (by lia)];exact q)
theorem uK:OpR X (binaryOp .RShift) (rI (λ_ j=>0<=j) λi j=>.int (i/2^j.toNat)):=opI λi j _ _ _ _ _ hc q=>
 rshift_int hc (by rw[Int.fdiv_eq_ediv_of_nonneg i (uM _)];exact q)
theorem unI{f:ae->Sem ae}{g:Int->Int}
  (rule:∀(i:Int) (t:Tok) (s:af) (Q:ae->af->Prop) (E:ae->af->Prop),Q (.int (g i) s.toks) {s with toks:=s.toks+1}->ah (ai X.prog X.w) X.A (f (.int i t)) Q E s) :
  UnR X f (rU λi=>.int (g i)):=by
 intro pins s σ H x v Q I rx h;obtain⟨i,rfl,q⟩:=h;obtain⟨t,rfl⟩:=rx;exact rule i t s _ _ ⟨.int (g i),H,I.tok _,⟨_,rfl⟩,q⟩
theorem CB:UnR X (unaryOp .USub) (rU λi=>.int (-i)):=unI λ_ _ _ _ _ q=>neg_int q
end
section
variable{X:Cx}{a b c:Expr}{ta tb tc:TE}{pos:Pos}
theorem ij{pins:List (Addr×Obj)}{σ:St}{H:Hp}{s:af}{Q:VK}{k k':Bool}(I:Inv X pins σ H s)(q:Q (.bl k) H)(e:k=k'):EP X pins σ Q (.bool k') s:=by
 subst e;exact⟨.bl k,H,I,rfl,q⟩
theorem xr:OpR X (aQ .Lt) (rI0 λi j=>.bl (decide (i<j))):=i8 λ_ _ _ _ _ _ _ q=>lt_int q
theorem xn:OpR X (aQ .LtE) (rI0 λi j=>.bl (decide (i<=j))):=i8 λ_ _ _ _ _ _ _ q=>le_int q
theorem vU:OpR X (aQ .Gt) (rI0 λi j=>.bl (decide (j<i))):=i8 λ_ _ _ _ _ _ _ q=>gt_int q
theorem yG:OpR X (aQ .GtE) (rI0 λi j=>.bl (decide (j<=i))):=i8 λ_ _ _ _ _ _ _ q=>ge_int q
theorem wM:OpR X (aQ .Is) (λx y H Q=>y=.non/\Q (.bl (decide (x=.non))) H):=by
 intro pins s σ H x y v u Q I rx ry h;obtain⟨rfl,q⟩:=h;cases ry;refine is_none_gen (ij I q ?_);cases x<;>first
  | (cases rx;rfl)
  | (obtain⟨t,rfl⟩:=rx;rfl)
theorem yV:OpR X (aQ .IsNot) (λx y H Q=>y=.non/\Q (.bl (!decide (x=.non))) H):=by
 intro pins s σ H x y v u Q I rx ry h;obtain⟨rfl,q⟩:=h;cases ry;refine isnot_none_gen (ij I q ?_);cases x<;>first
  | (cases rx;rfl)
  | (obtain⟨t,rfl⟩:=rx;rfl)
theorem OpR.or{f:ae->ae->Sem ae}{r r':R2}(h:OpR X f r)(h':OpR X f r'):OpR X f (λx y H Q=>r x y H Q\/r' x y H Q):=by
 intro pins s σ H x y v u Q I rx ry q;rcases q with q|q
 ·exact h pins s σ H x y v u Q I rx ry q
 ·exact h' pins s σ H x y v u Q I rx ry q
theorem Bt{op:CmpOp}{r:R2}(ho:OpR X (aQ op) r)(ha:PE X a ta)(hb:PE X b tb)(hm:behindInMarks op b=false):PE X (.Compare a [op] [b] pos) (tOp r ta tb):=by
 intro pins s σ H Q I h;exact wpAny_Compare1 (kB ha hb I h λv u s2 x y H2 I2 rx ry q=>ho pins s2 σ H2 x y v u Q I2 rx ry q) hm
noncomputable def kM(t:TE):TT:=λσ H Q=>t σ H λx H'=>∃k,x=.bl k/\Q k H'
theorem Ax{op:CmpOp}{r:R2}(ho:OpR X (aQ op) r)(ha:PE X a ta)(hb:PE X b tb)(hm:behindInMarks op b=false):PT X (.Compare a [op] [b] pos) (kM (tOp r ta tb)):=by
 intro pins s σ H Q I h;refine wpAny_isTrue_Compare1 (thn (ha pins s σ H _ I h) λv s1 ⟨x,H1,I1,r1,q1⟩=>thn (hb pins s1 σ H1 _ I1 q1) λu s2 ⟨y,H2,I2,r2,q2⟩=>
  thn (ho pins s2 σ H2 x y v u _ I2 r1 r2 q2) λc s3 ⟨z,H3,I3,r3,k,e,q3⟩=>?_) hm
 subst e;cases r3;exact bD ⟨H3,I3,q3⟩
noncomputable def pN(r r':R2)(ta tb tc:TE):TE:=λσ H Q=>ta σ H λx H1=>tb σ H1 λy H2=>r x y H2 λz H3=>∃k,z=.bl k /\
 (if k=true then tc σ H3 λw' H4=>r' y w' H4 Q else Q (.bl false) H3)
theorem uQ{op op':CmpOp}{r r':R2}(ho:OpR X (aQ op) r)(ho':OpR X (aQ op') r')(ha:PE X a ta)(hb:PE X b tb)(hc:PE X c tc)
  (hm:lastMarks [op,op'] [b,c]=false:=by with_unfolding_all rfl):PE X (.Compare a [op,op'] [b,c] pos) (pN r r' ta tb tc):=by
 intro pins s σ H Q I h;refine Compare_chain (thn (ha pins s σ H _ I h) λv s1 ⟨x,H1,I1,r1,q1⟩=>chain_link (thn (hb pins s1 σ H1 _ I1 q1) λu s2 ⟨y,H2,I2,r2,q2⟩=>
  thn (ho pins s2 σ H2 x y v u _ I2 r1 r2 q2) λd s3 ⟨z,H3,I3,r3,k,e,q3⟩=>?_)) hm
 subst e;cases r3;refine bD ?_;cases k with
 |false=>exact ite_ff ⟨.bl false,H3,I3,rfl,q3⟩
 |true=>exact ite_tt (chain_last (thn (hc pins s3 σ H3 _ I3 q3) λw' s4 ⟨z',H4,I4,r4,q4⟩=>ho' pins s4 σ H4 y z' u w' Q I4 r2 r4 q4))
theorem rh{op op':CmpOp}{r r':R2}(ho:OpR X (aQ op) r)(ho':OpR X (aQ op') r')(ha:PE X a ta)(hb:PE X b tb)(hc:PE X c tc)
  (hm:lastMarks [op,op'] [b,c]=false:=by with_unfolding_all rfl):PT X (.Compare a [op,op'] [b,c] pos) (kM (pN r r' ta tb tc)):=by
 intro pins s σ H Q I h;refine isTrue_chain (thn (ha pins s σ H _ I h) λv s1 ⟨x,H1,I1,r1,q1⟩=>test_link (thn (hb pins s1 σ H1 _ I1 q1) λu s2 ⟨y,H2,I2,r2,q2⟩=>
  thn (ho pins s2 σ H2 x y v u _ I2 r1 r2 q2) λd s3 ⟨z,H3,I3,r3,k,e,q3⟩=>?_)) hm
 subst e;cases r3;refine bD ?_;cases k with
 |false=>
  obtain⟨k',e',q'⟩:=q3;cases e';exact ite_ff ⟨H3,I3,q'⟩
 |true=>
  refine ite_tt (test_last (thn (hc pins s3 σ H3 _ I3 q3) λw' s4 ⟨z',H4,I4,r4,q4⟩=>thn (ho' pins s4 σ H4 y z' u w' _ I4 r2 r4 q4) λd' s5 ⟨z2,H5,I5,r5,k2,e2,q5⟩=>?_));subst e2;cases r5;exact bD ⟨H5,I5,q5⟩
noncomputable def kF(K:ao)(x:V)(H:Hp)(k:Bool):Prop:=
 match x with
 | .non=>k=false
 | .bl b=>k=b
 | .int i=>k=(i != 0)
 | .str y=>y.length<=aE/\k=((y.length:Int) != 0)
 | .byt y=>y.size<=aE/\k=((y.size:Int) != 0)
 | .ref p=>(∃xs,SqL K H p xs/\k = !xs.isEmpty)\/(∃xs,SqT K H p xs/\k = !xs.isEmpty)\/∃kvs,H p=some (.dK kvs)/\k = !kvs.isEmpty
 |_=>False
theorem BO{κ:Type}{kvs:List (κ×V)}{vs:List (κ×ae)}(r:KV kvs vs):(!vs.isEmpty) = !kvs.isEmpty:=by
 cases r<;>rfl
theorem ni{xs:List V}{its:List ae}(r:Vals xs its):(!its.toArray.isEmpty) = !xs.isEmpty:=by
 cases r<;>simp
theorem gL:(aE:Nat)<2^63:=by rw[aW];decide
theorem CS:vT X (λx H Q=>∃k,kF X.K x H k/\Q k H):=by
 intro pins s σ H x v Q I rx h;obtain⟨k,e,q⟩:=h;have hl:=gL;have hs:aE=16777216:=aW;cases x with
 |non=>
  cases rx;have e':k=false:=e;subst e';exact truthy_none ⟨H,I,q⟩
 |bl b=>
  cases rx;have e':k=b:=e;subst e';exact bD ⟨H,I,q⟩
 |int i=>
  obtain⟨t,rfl⟩:=rx;have e':k=(i != 0):=e;subst e';exact PySem.P.truthy_int ⟨H,I,q⟩
 |str y=>
  obtain⟨t,rfl⟩:=rx;obtain⟨hy,e'⟩:y.length<=aE/\k=((y.length:Int) != 0):=e;subst e';exact PySem.P.truthy_str (by lia) ⟨H,I.tok _,q⟩
 |byt y=>
  obtain⟨t,rfl⟩:=rx;obtain⟨hy,e'⟩:y.size<=aE/\k=((y.size:Int) != 0):=e;subst e';exact PySem.W.truthy_bytes (by lia) ⟨H,I.tok _,q⟩
 |ref p=>
  cases rx;have e':(∃xs,SqL X.K H p xs/\k = !xs.isEmpty)\/(∃xs,SqT X.K H p xs/\k = !xs.isEmpty)\/∃kvs,H p=some (.dK kvs)/\k = !kvs.isEmpty:=e;rcases e' with ⟨xs,hx,e'⟩|⟨xs,hx,e'⟩|⟨kvs,hx,e'⟩
  ·subst e';obtain⟨its,r,pl,hz⟩:=I.list hx;have hlen:=r.length;exact wpAny_truthy_list pl.isList (by simp only[aK];lia) ⟨H,I.tok _,by rw[ni r];exact q⟩
  ·subst e';obtain⟨its,r,pl,hz⟩:=I.tuple hx;have hlen:=r.length;exact truthy_tuple pl (by simp only[aK];lia) ⟨H,I.tok _,by rw[ni r];exact q⟩
  ·subst e';obtain⟨hz,hS,vs,r,m⟩:kvs.length<=aE/\(p==sysModules)=false/\∃vs,KV kvs vs/\s.heap.DictOf (zt X.prog X.w) p vs:=I.hok p _ hx;have hlen:kvs.length=vs.length:=Paired.length r;exact wpAny_truthy_dict hS m (by lia) ⟨H,I.tok _,by rw[BO r];exact q⟩
 |_=>exact(show False from e).elim
theorem yN(ha:PE X a ta)(he:∀whole,isTrue a X.env whole=(do let v <-whole;standAt a.pos;holding [v] (truthy v))) :
  PT X a (λσ H Q=>ta σ H λx H'=>∃k,kF X.K x H' k/\Q k H'):=by
 intro pins s σ H Q I h;exact isTrue_plain (thn (ha pins s σ H _ I h) λv s1 ⟨x,H1,I1,r1,q1⟩=>CS pins s1 σ H1 x v Q I1 r1 q1) (he _)
theorem vals1{x:V}{us:List ae}(r:Vals [x] us):∃u,us=[u]/\RelV x u:=by
 cases r with
 |cons r1 r2=>cases r2;exact⟨_,rfl,r1⟩
theorem vals2{x y:V}{us:List ae}(r:Vals [x,y] us):∃u w',us=[u,w']/\RelV x u/\RelV y w':=by
 cases r with
 |cons r1 r2=>
  cases r2 with
  |cons r3 r4=>cases r4;exact⟨_,_,rfl,r1,r3⟩
theorem uZ:zl X (.builtin "abs") (λxs H Q=>∃i,xs=[.int i]/\Q (.int (if i<0 then -i else i)) H):=by
 intro pins s σ H xs us Q I r h;obtain⟨i,rfl,q⟩:=h;obtain⟨u,rfl,t,rfl⟩:=vals1 r;exact call_abs_int λu tk=>⟨.int (if i<0 then -i else i),H,I.tok _,⟨_,rfl⟩,q⟩
theorem vA(hc:X.calm=true):zl X (.builtin "max") (λxs H Q=>∃i j,xs=[.int i,.int j]/\Q (.int (if j>i then j else i)) H):=by
 intro pins s σ H xs us Q I r h;obtain⟨i,j,rfl,q⟩:=h;obtain⟨u,w',rfl,⟨t,rfl⟩,⟨t',rfl⟩⟩:=vals2 r;refine max_two_ints (I.ok.hd hc) λh' tk k=>⟨_,H,I.kept k,?_,q⟩
 by_cases hj:j>i
 ·rw[if_pos hj,if_pos hj];exact⟨_,rfl⟩
 ·rw[if_neg hj,if_neg hj];exact⟨_,rfl⟩
theorem CU(hc:X.calm=true):zl X (.builtin "min") (λxs H Q=>∃i j,xs=[.int i,.int j]/\Q (.int (if j<i then j else i)) H):=by
 intro pins s σ H xs us Q I r h;obtain⟨i,j,rfl,q⟩:=h;obtain⟨u,w',rfl,⟨t,rfl⟩,⟨t',rfl⟩⟩:=vals2 r;refine min_two_ints (I.ok.hd hc) λh' tk k=>⟨_,H,I.kept k,?_,q⟩
 by_cases hj:j<i
 ·rw[if_pos hj,if_pos hj];exact⟨_,rfl⟩
 ·rw[if_neg hj,if_neg hj];exact⟨_,rfl⟩
theorem yh:zl X (.type "int") (λxs H Q=>(∃i,xs=[.int i]/\Q (.int i) H)\/∃k,xs=[.bl k]/\Q (.int (if k then 1 else 0)) H):=by
 intro pins s σ H xs us Q I r h;rcases h with ⟨i,rfl,q⟩|⟨k,rfl,q⟩
 ·obtain⟨u,rfl,t,rfl⟩:=vals1 r;exact call_int_int ⟨.int i,H,I,⟨_,rfl⟩,q⟩
 ·obtain⟨u,rfl,r1⟩:=vals1 r;cases r1;exact call_int_bool ⟨.int (if k then 1 else 0),H,I.tok _,⟨_,rfl⟩,q⟩
theorem wR:zl X (.type "bool") (λxs H Q=>(∃i,xs=[.int i]/\Q (.bl (i != 0)) H)\/∃k,xs=[.bl k]/\Q (.bl k) H):=by
 intro pins s σ H xs us Q I r h;rcases h with ⟨i,rfl,q⟩|⟨k,rfl,q⟩
 ·obtain⟨u,rfl,t,rfl⟩:=vals1 r;exact call_bool_int ⟨.bl (i != 0),H,I,rfl,q⟩
 ·obtain⟨u,rfl,r1⟩:=vals1 r;cases r1;exact call_bool_bool ⟨.bl k,H,I,rfl,q⟩
end
structure jK(h:Heap)(x dx C:Addr)(mA:Str->Option ae):Prop where
 obj:h.get? x=some (PySem.W.instObj C dx)
 ns:h.Ns1 dx mA
 ne:dx≠x
theorem u5{h:Heap}{dx:Addr}{mA:Str->Option ae}(n:h.Ns1 dx mA):∃od,h.get? dx=some od/\∀name,PySem.W.lookIn name od=some (mA name):=by
 obtain⟨o,es,ep,ho,hd,hk,_,hm⟩:=n;refine⟨o,ho,λname=>?_⟩;have e:=hm name;unfold nsFind findBy at e;rw[<-Array.find?_toList]at e;unfold PySem.W.lookIn;rw[hd];dsimp only;split
 ·rename_i y q
  rw[q]at e;exact congrArg some e
 ·rename_i q
  rw[q]at e;have a:es.toList.any (·.refKey)=false:=by
   rw[List.any_eq_false];intro y hy;obtain⟨z,t,hkey⟩:=hk y (Array.mem_toList_iff.mp hy);simp[DictEntry.refKey,hkey]
  have a':¬ es.toList.any (·.refKey)=true:=by rw[a];exact bK
  rw[if_neg a'];exact congrArg some e
theorem jK.look{h:Heap}{x dx C:Addr}{mA:Str->Option ae}(I:jK h x dx C mA):∃od,PySem.W.InstAt h x (PySem.W.instObj C dx) C (some od)/\∀name,PySem.W.lookIn name od=some (mA name):=
 let ⟨od,ho,hl⟩:=u5 I.ns
 ⟨od,⟨I.obj,rfl,rfl,ho⟩,hl⟩
section
variable{prog:aq}{w:ak}{A:au}{E:ae->af->Prop}{s:af}{K:ao}{x dx C f:Addr}{mA:Str->Option ae}{name:Str}{v:ae}
end
theorem dh.some_of{v:V}{o:Option ae}(r:dh (some v) o):∃u,o=some u/\RelV v u:=by
 cases o with
 |none=>exact(show False from r).elim
 |some u=>exact⟨u,rfl,r⟩
section
variable{P:aq}{w:ak}{H H':Hp}{h h':Heap}{a C dx:Addr}{fs fs':List (Str×V)}
theorem uO(hok:HOk P w H h)(e:H a=some (.ins C dx fs)):∃mA,jK h a dx C mA/\(∀f,dh (fs.lookup f) (mA f))/\PySem.Within mA (fs.map (·.1))/\fs.length<=1000/\H dx=some (.own a):=by
 obtain⟨d,z,ne,ob,mA,n,r,q⟩:=(show zH P w H h a (.ins C dx fs)from hok a _ e)
 exact⟨mA,⟨ob,n,ne⟩,r,q,z,d⟩
end
structure Cls(K:ao)(C:Addr):Prop where
 pg:PySem.W.plainGet K C Str.empty=true
 hd:PySem.W.hasDictIn K C=true
 po:PySem.W.plainOver K C=true
 sa:PySem.W.findIn K (.ref C) "__setattr__" = some (some (.builtin "object.__setattr__"))
theorem Cls.get{K:ao}{C:Addr}(c:Cls K C)(f:Str):PySem.W.plainGet K C f=true:=c.pg
section
variable{X:Cx}{pins:List (Addr×Obj)}{σ:St}{H:Hp}{s:af}{a C dx:Addr}{fs:List (Str×V)}{f:Str}{v:V}{A:au}{E:ae->af->Prop}
end
section
variable{X:Cx}{o e value:Expr}{f:Str}{pos pos' tpos:Pos}{ta tv:TE}
end
section
variable{X:Cx}{pins:List (Addr×Obj)}{σ:St}{H:Hp}{s:af}{A:au}{E:ae->af->Prop}{Q:ae->af->Prop}{c:ae}{b:Bool}
inductive c_(K:ao)(H:Hp):V->ae->Prop where
 |non:c_ K H .non (.type "NoneType")
 |bl (x:Bool):c_ K H (.bl x) (.type "bool")
 |int (i:Int):c_ K H (.int i) (.type "int")
 |str (x:Str):c_ K H (.str x) (.type "str")
 |flt (x:UInt64):c_ K H (.flt x) (.type "float")
 |lst {a:Addr}{xs:List V} (e:H a=some (.lst xs)):c_ K H (.ref a) (.type "list")
 |frz {a:Addr}{o:Obj}{xs:List V} (e:H a=some (.frz o (.lst xs))):c_ K H (.ref a) (.type "list")
 |tup {a:Addr}{xs:List V} (e:H a=some (.tup xs)):c_ K H (.ref a) (.type "tuple")
 |dK {a:Addr}{kvs:List (Key×V)} (e:H a=some (.dK kvs)):c_ K H (.ref a) (.type "dict")
 |dT {a:Addr}{kvs:List (List Key×V)} (e:H a=some (.dT kvs)):c_ K H (.ref a) (.type "dict")
 |ins {a C dx:Addr}{fs:List (Str×V)} (e:H a=some (.ins C dx fs)) (cl:Cls K C) (ha:PySem.W.findIn K (.ref C) "__class__" = some (some (.builtin "object.__class__")))
   (hn:PySem.W.specialIn K (.builtin "object.__class__") "__get__" = some (some (.builtin "getset_descriptor.__get__"))) (htk:PySem.W.takesIn K (.builtin "object.__class__")=some true)
   (hm:PySem.W.mroIn K C (.type "object")=some true):c_ K H (.ref a) (.ref C)
theorem fV{x:V}{u t:ae}(I:Inv X pins σ H s)(rx:RelV x u)(ty:c_ X.K H x t)(e:bL X.K t c=some b)(h:∀tk,Q (.bool b) {s with toks:=tk}) :
  ah (ai X.prog X.w) A (call (.builtin "isinstance") [u,c]) Q E s:=by
 cases ty with
 |non=>cases (show u=bH from rx);exact bE PySem.W.kitx_none I.kIn True.intro e (λz=>nomatch z) h
 |bl y=>cases (show u=ae.bool y from rx);exact bE PySem.W.kitx_bool I.kIn True.intro e (λz=>nomatch z) h
 |int i=>obtain⟨t,q⟩:=(show ∃t,u=ae.int i t from rx);cases q;exact bE PySem.W.kitx_int I.kIn True.intro e (λz=>nomatch z) h
 |str y=>obtain⟨t,q⟩:=(show ∃t,u=ae.str y t from rx);cases q;exact bE PySem.W.kitx_str I.kIn True.intro e (λz=>nomatch z) h
 |flt y=>obtain⟨t,q⟩:=(show ∃t,u=ae.float y t from rx);cases q;exact bE PySem.W.kitx_float I.kIn True.intro e (λz=>nomatch z) h
 | @lst a xs ea=>
  cases (show u=aS a from rx);obtain⟨_,_,n,_,h1⟩:=(show zH X.prog X.w H s.heap a (.lst xs)from I.hok a _ ea)
  exact bE PySem.W.kitx_list I.kIn ⟨_,h1,rfl⟩ e (λz=>nomatch z) h
 | @frz a ob xs ea=>
  cases (show u=aS a from rx);obtain⟨_,_,_,n,_,h1⟩:=(show zH X.prog X.w H s.heap a (.frz ob (.lst xs))from I.hok a _ ea)
  exact bE PySem.W.kitx_list I.kIn ⟨_,h1,rfl⟩ e (λz=>nomatch z) h
 | @tup a xs ea=>
  cases (show u=aS a from rx);obtain⟨_,_,_,p⟩:=(show zH X.prog X.w H s.heap a (.tup xs)from I.hok a _ ea)
  obtain⟨o,h1,h2,_⟩:=p;exact bE PySem.W.kitx_tuple I.kIn ⟨o,h1,h2⟩ e (λz=>nomatch z) h
 | @dK a kvs ea=>
  cases (show u=aS a from rx);obtain⟨_,_,vs,_,p⟩:=(show zH X.prog X.w H s.heap a (.dK kvs)from I.hok a _ ea)
  obtain⟨o,es,ep,h1,h2,_⟩:=p;exact bE PySem.W.kitx_dict I.kIn ⟨o,h1,h2.1⟩ e (λz=>nomatch z) h
 | @dT a kvs ea=>
  cases (show u=aS a from rx);obtain⟨_,_,xs,_,o,es,ep,h1,h2,_⟩:=(show zH X.prog X.w H s.heap a (.dT kvs)from I.hok a _ ea)
  exact bE PySem.W.kitx_dict I.kIn ⟨o,h1,h2.1⟩ e (λz=>nomatch z) h
 | @ins a C dx fs ea cl ha hn htk hm=>
  cases (show u=aS a from rx);obtain⟨mA,O,_⟩:=uO I.hok ea;obtain⟨od,J,_⟩:=O.look;exact bE (PySem.W.kitx_own (cl.get _) cl.hd ha hn htk hm) I.kIn J e (λz=>nomatch z) h
end
structure ck(k:Nat)(A:au):Prop where
 hd:A.handled=none
 dp:A.depth+3 * k+5<recursionLimit
 un:A.units+16 * k+200<cLine
theorem ck.deeper{k:Nat}{A:au}(r:ck (k+1) A)(env:Env):ck k (A.deeper env):=
 ⟨r.hd,by have:=r.dp;show A.depth+1+3 * k+5<_;lia,by have:=r.un;show A.units+3+16 * k+200<_;lia⟩
theorem ck.depth{k:Nat}{A:au}(r:ck k A):A.depth<recursionLimit:=by have:=r.dp;lia
theorem ck.units{k:Nat}{A:au}(r:ck k A):A.units+64<cLine:=by have:=r.un;lia
noncomputable def iX:TA:=λ_ H Q=>Q [] H
noncomputable def hX(ta:TE)(tr:TA):TA:=λσ H Q=>ta σ H λx H1=>tr σ H1 λxs H2=>Q (x::xs) H2
section
variable{X:Cx}{e:Expr}{es:List Expr}{te:TE}{t:TA}{pos:Pos}
theorem cQ:PA X [] iX:=λ_ _ _ _ H Q I h=>Calls.spliced_nil ⟨[],H,I,.nil,h⟩
theorem zE(ha:PE X e te)(hr:PA X es t)(hs:aL (e::es) X.env=(false,eval e X.env)::aL es X.env:=by rfl):PA X (e::es) (hX te t):=by
 intro pos pins s σ H Q I h;rw[hs];show ah _ _ (spliced ((false,eval e X.env)::backTo pos (aL es X.env))) _ _ s;refine Calls.spliced_cons (thn (ha pins s σ H _ I h) λu s1 ⟨x,H1,I1,r1,q1⟩=>?_);exact thn (hr pos pins s1 σ H1 _ I1 q1) λus s2 ⟨xs,H2,I2,r2,q2⟩=>⟨x::xs,H2,I2,.cons r1 r2,q2⟩
noncomputable def Ct(t:TA):TE:=λσ H Q=>t σ H λxs H1=>xs.length<=aE/\∀p,H1 p=none->Q (.ref p) (upd H1 p (.tup xs))
noncomputable def yC(t:TA):TE:=λσ H Q=>t σ H λxs H1=>xs.length<=aE/\∀p,H1 p=none->Q (.ref p) (upd H1 p (.lst xs))
theorem tW{x1}(h:PA X es t):PE X (.Tuple es x1 pos) (Ct t):=by
 intro pins s σ H Q I hq;refine wpAny_Tuple_spliced (thn (h pos pins s σ H _ I hq) λus s1 ⟨xs,H1,I1,r,z,q⟩=>⟨by rw[<-r.length];exact z,?_⟩);have hf:H1 s1.heap.objs.size=none:=I1.hok.fresh (aB _);refine⟨.ref s1.heap.objs.size,upd H1 s1.heap.objs.size (.tup xs),I1.laid (t':=s1.toks) (λb u e=>Heap.get?_push_of_some _ e) (aB _) ?_,rfl,q _ hf⟩;exact⟨z,us,r,⟨_,Heap.get?_push_size _ rfl,rfl,_,rfl⟩⟩
theorem Ah(h:PA X es t):PE X (.List es pos) (yC t):=by
 intro pins s σ H Q I hq;refine wpAny_List_spliced (thn (h pos pins s σ H _ I hq) λus s1 ⟨xs,H1,I1,r,z,q⟩=>⟨by rw[<-r.length];exact z,?_⟩);have hf:H1 s1.heap.objs.size=none:=I1.hok.fresh (aB _);refine⟨.ref s1.heap.objs.size,upd H1 s1.heap.objs.size (.lst xs),I1.laid (t':=s1.toks) (λb u e=>Heap.get?_push_of_some _ e) (aB _) ?_,rfl,q _ hf⟩;exact⟨z,us,0,r,Heap.get?_push_size _ rfl⟩
end
abbrev Sp:=List V->Hp->VK->XK->Prop
abbrev CXT:=List Env->Hp->af->XK->ae->af->Prop
structure gx(P:aq)(w:ak)(K:ao)(mg:Str->Option ae)(base:Heap)(A:au)(outer:List Env)(s:af)(H:Hp):Prop where
 frames:A.frames=some outer
 mod:Mod K mg base
 bs:∀b o,base.get? b=some o->s.heap.get? b=some o/\H b=none
 bsz:base.objs.size<=s.heap.objs.size
 funs:s.heap.FunFrames base outer
 frf:∀b∈frs outer,H b=none
 hok:HOk P w H s.heap
 bare:AllBare s.gens
noncomputable def CE(outer:List Env)(P:aq)(w:ak)(H:Hp)(s:af)(Q:VK)(u:ae)(s':af):Prop:=
 ∃v H',s'.os=s.os/\AllBare s'.gens/\Un (frs outer) [] H H' s.heap s'.heap/\HOk P w H' s'.heap/\RelV v u/\Q v H'
noncomputable def CR(CX:CXT)(outer:List Env)(P:aq)(w:ak)(H:Hp)(s:af)(Q:VK)(E:XK)(r:Result)(s':af):Prop:=
 match r with
 | .ok (.ret u)=>CE outer P w H s Q u s'
 | .ok _=>False
 | .error e=>CX outer H s E e s'
structure eO(P:aq)(w:ak)(K:ao)(mg:Str->Option ae)(base:Heap)(CX:CXT)(k:Nat)(f:Addr)(fd:FuncData)(ps:List Str)(sp:Sp):Prop where
 len:∀vs H Q E,sp vs H Q E->vs.length=ps.length
 run:∀(A:au) (outer:List Env) (s:af) (H:Hp) (args:Args) (us:List ae) (vs:List V) (Q:VK) (E:XK),ck k A->gx P w K mg base A outer s H->BindsTo s fd args (ps.zip us)->Vals vs us->sp vs H Q E ->
  codeAny (ai P w) A (.call (.ref f) args) (CR CX outer P w H s Q E) s
section
variable{X:Cx}{pins:List (Addr×Obj)}{σ:St}{H:Hp}{s s':af}
theorem Inv.env0(I:Inv X pins σ H s):gx X.prog X.w X.K X.mg X.base X.A X.stack s H:=
 ⟨I.ok.frames,I.ok.mod,I.bs,ba I.ok.bsz I.sz,I.stack,I.stkFree,I.hok,I.bare⟩
theorem Inv.after{Q:VK}{u:ae}(I:Inv X pins σ H s)(h:CE X.stack X.prog X.w H s Q u s'):EP X pins σ Q u s':=by
 obtain⟨v,H',os,bare,un,hok,r,q⟩:=h;obtain⟨hh,g,d,t,os'⟩:=s';obtain rfl:os'=s.os:=os;exact⟨v,H',I.call (h':=hh) (g':=g) (d':=d) (t':=t) (ch:=[]) un hok bare (λb z=>absurd z (by simp)),r,q⟩
end
noncomputable def kI(sp:Sp)(dvs:List V)(E:XK)(t:TA):TE:=λσ H Q=>t σ H λvs H1=>sp (vs++dvs) H1 Q E
noncomputable def Binds(K:ao)(fd:FuncData)(ps:List Str)(ds:List ae):Prop:=
 ∀(s:af) (us:List ae),K.In s.heap->(us++ds).length=ps.length->BindsTo s fd ⟨us,[]⟩ (ps.zip (us++ds))
theorem Binds.all{K:ao}{fd:FuncData}{ps:List Str}(h:∀us:List ae,us.length=ps.length->bindArgs fd ⟨us,[]⟩=pure (ps.zip us)):Binds K fd ps []:=λs us _ hl=>by
 rw[List.append_nil]at hl ⊢;exact .of_eq (h us hl)
noncomputable def Passes(CX:CXT)(X:Cx)(E:XK):Prop:=∀(pins:List (Addr×Obj)) (σ:St) (H:Hp) (s:af) (e:ae) (s':af),Inv X pins σ H s->CX X.stack H s E e s'->X.xe e s'
section
variable{X:Cx}{CX:CXT}{k:Nat}{f C:Addr}{fd:FuncData}{ps:List Str}{sp:Sp}{dvs:List V}{ds:List ae}{E:XK}{x m:Str}{p pos apos:Pos}{e o:Expr}{es:List Expr}{ta:TE}{t:TA}
theorem xc{pins:List (Addr×Obj)}{σ:St}{H:Hp}{s:af}{Q:VK}{us:List ae}{vs:List V}(F:eO X.prog X.w X.K X.mg X.base CX k f fd ps sp)(hr:ck k X.A)(hb:Binds X.K fd ps ds)(hd:Vals dvs ds)(hx:Passes CX X E)
  (I:Inv X pins σ H s) (r:Vals vs us) (h:sp (vs++dvs) H Q E):ah (ai X.prog X.w) X.A (call (.ref f) us) (EP X pins σ Q) X.xe s:=by
 have r2:Vals (vs++dvs) (us++ds):=r.append hd;have hl:(us++ds).length=ps.length:=by rw[<-r2.length];exact F.len _ _ _ _ h
 refine wpAny_call (codeAny_mono (F.run X.A X.stack s H ⟨us,[]⟩ (us++ds) (vs++dvs) Q E hr I.env0 (hb s us I.kIn hl) r2 h) λr s' hq=>?_);cases r with
 |error e=>exact hx pins σ H s e s' I hq
 |ok fl=>
  cases fl with
  |ret u=>exact I.after hq
  |next=>exact aP hq
  |brk=>exact aP hq
  |cont=>exact aP hq
theorem r_(F:eO X.prog X.w X.K X.mg X.base CX k f fd ps sp)(hr:ck k X.A)(hg:Gl X x)(hm:X.mg x=some (.ref f))(hk:cA X.K (.ref f)=true)(hb:Binds X.K fd ps ds)(hd:Vals dvs ds)(hx:Passes CX X E)
  (ha:PA X (e::es) t) (hdb:(x==("__debug__" : Str))=false:=by decide) (he:aL (e::es) X.env=(false,eval e X.env)::aL es X.env:=by rfl) (hpl:(backTo pos (aL es X.env)).any (·.1)=false:=by rfl) :
  PE X (.Call (.Name x p) (e::es) [] pos) (kI sp dvs E t):=by
 intro pins s σ H Q I h;refine wpAny_Call_Name_kw (kN I hg hm ?_ hdb);refine PySem.W.callWith_K (h₀:=X.base) I.ok.mod.kin hk (thn (ha pos pins s σ H _ I h) λus s1 ⟨vs,H1,I1,r,q⟩=>⟨I1.kIn,?_⟩) he hpl;exact xc F hr hb hd hx I1 r q
end
section
variable{X:Cx}{CX:CXT}{k:Nat}{f C:Addr}{fd:FuncData}{ps ks:List Str}{sp:Sp}{E:XK}{x m:Str}{p pos apos kpos:Pos}{e o:Expr}{es:List Expr}{kws:List Keyword}{te ta:TE}{t tk:TA}{nm:Option Str}
variable{g:List ae->List ae->List ae}{gV:List V->List V->List V}
end
structure gC(N P:List Str)(sc:aO):Prop where
 kind:sc.kind=.function
 co:sc.isCoroutine=false
 gen:sc.isGenerator=false
 nd:N.Nodup
 pre:N.take P.length=P
 par:∀x∈P,sc.names.lookup x=some .local\/sc.names.lookup x=some .cell
 nofree:∀y∈sc.names,y.2≠.free
theorem nr{kindOf:Str->Option aM}{x:Str}:∀{binds:List (Str×ae)}{m:Str->Option ae},(∀v,(x,v)∉binds)->bindL kindOf binds m x=m x
 | [],_,_=>rfl
 | (n,v)::r,m,h=>by
  unfold bindL;rw[nr λw hw=>h w (aI _ hw)];split
  ·have:x≠n:=by rintro rfl;exact h v aH
   simp[this]
  ·rfl
theorem lr{kindOf:Str->Option aM}{x:Str}:∀{binds:List (Str×ae)}{m:Str->Option ae},(∀v,(x,v)∉binds)->bindC kindOf binds m x=m x
 | [],_,_=>rfl
 | (n,v)::r,m,h=>by
  unfold bindC;rw[lr λw hw=>h w (aI _ hw)];split
  ·rfl
  ·have:x≠n:=by rintro rfl;exact h v aH
   simp[this]
theorem pI{kindOf:Str->Option aM}{x:Str}{v:ae}:∀{P:List Str}{vs:List ae}{i:Nat}{m:Str->Option ae},P.Nodup->P[i]? = some x->vs[i]? = some v->kindOf x=some .local ->
  bindL kindOf (P.zip vs) m x=some v
 | [],_,_,_,_,h,_,_=>by simp at h
 |_::_,[],_,_,_,_,h,_=>by simp at h
 |p::P,w::vs,0,m,nd,h1,h2,hk=>by
  simp at h1 h2;subst h1;subst h2;show bindL kindOf ((p,w)::P.zip vs) m p=_;unfold bindL;rw[nr λv hv=>(List.nodup_cons.mp nd).1 (List.of_mem_zip hv).1,if_pos hk];simp
 |p::P,w::vs,i+1,m,nd,h1,h2,hk=>by
  show bindL kindOf ((p,w)::P.zip vs) m x=_;unfold bindL;exact pI (i:=i) (List.nodup_cons.mp nd).2 (by simpa using h1) (by simpa using h2) hk
theorem nK{kindOf:Str->Option aM}{x:Str}{v:ae}:∀{P:List Str}{vs:List ae}{i:Nat}{m:Str->Option ae},P.Nodup->P[i]? = some x->vs[i]? = some v->kindOf x≠some .local ->
  bindC kindOf (P.zip vs) m x=some v
 | [],_,_,_,_,h,_,_=>by simp at h
 |_::_,[],_,_,_,_,h,_=>by simp at h
 |p::P,w::vs,0,m,nd,h1,h2,hk=>by
  simp at h1 h2;subst h1;subst h2;show bindC kindOf ((p,w)::P.zip vs) m p=_;unfold bindC;rw[lr λv hv=>(List.nodup_cons.mp nd).1 (List.of_mem_zip hv).1,if_neg hk];simp
 |p::P,w::vs,i+1,m,nd,h1,h2,hk=>by
  show bindC kindOf ((p,w)::P.zip vs) m x=_;unfold bindC;exact nK (i:=i) (List.nodup_cons.mp nd).2 (by simpa using h1) (by simpa using h2) hk
noncomputable def start(N:List Str)(vs:List V):St:=vs.map some++bN (N.length-vs.length) none
noncomputable def ez(CX:CXT)(P:aq)(w:ak)(K:ao)(mg:Str->Option ae)(base:Heap)(N:List Str)(qual:Str)(scope:aO)(f:Addr)(cd:ae)(A:au)(outer:List Env)(s:af)(H:Hp)(E:XK):Cx where
 prog:=P
 w:=w
 K:=K
 mg:=mg
 base:=base
 A:=A.deeper (envOfC qual scope s.heap.objs.size f cd)
 N:=N
 s₀:=s
 H₀:=H
 env:=envOfC qual scope s.heap.objs.size f cd
 outer:=outer
 stack:=envOfC qual scope s.heap.objs.size f cd::outer
 ex:=[]
 calm:=true
 fn:=λ_=>true
 pn:=[]
 xe:=λe s'=>ah (ai P w) (A.deeper (envOfC qual scope s.heap.objs.size f cd)) (leaving (envOfC qual scope s.heap.objs.size f cd) e) (λ_ s''=>CX outer H s E e s'') (λe' s''=>CX outer H s E e' s'') s'
theorem iJ{sc:aO}{n:Nat}{x:Str}(h:sc.names.lookup x=some .cell):∃c,(aX n sc.names []).lookup x=some c:=by
 have q:=PySem.W.cellsFrom_some sc.names n [] (.inl h);exact Option.isSome_iff_exists.mp q
theorem B4{CX:CXT}{P:aq}{w:ak}{K:ao}{mg:Str->Option ae}{base:Heap}{N ps:List Str}{qual:Str}{scope:aO}{f:Addr}{cd:ae}{A:au}{outer:List Env}{s s1:af}{H:Hp}{E:XK}{us:List ae}{vs:List V}
  (S:gC N ps scope) (hd:A.handled=none) (e0:gx P w K mg base A outer s H) (hl:vs.length=ps.length) (r:Vals vs us)
  (x:InCallC s s.heap.objs.size (bindL (envOfC qual scope s.heap.objs.size f cd).kindOf (ps.zip us) λ_=>none) (aX (s.heap.objs.size+1) scope.names []) (bindC (envOfC qual scope s.heap.objs.size f cd).kindOf (ps.zip us) λ_=>none) s1) :
  Inv (ez CX P w K mg base N qual scope f cd A outer s H E) [] (start N vs) H s1:=by
 have hpl:ps.length<=N.length:=by have:=congrArg List.length S.pre;rw[List.length_take]at this;lia
 obtain⟨h1,tk,rfl,hk⟩:=x.done;have noA:∀b:Addr,b∉(ez CX P w K mg base N qual scope f cd A outer s H E).ex:=λb z=>absurd (show b∈([]:List Addr)from z) (by simp)
 refine⟨⟨e0.mod,S.kind,rfl,rfl,aB _,λy z c h1 h2=>?_,λy hy=>?_,λy c _ h=>?_,λ_=>hd,au.frames_deeper e0.frames,.inr ⟨rfl,rfl⟩,λb z=>absurd z (noA b),e0.bs,e0.bsz,λb _ _=>noA b,λb z=>absurd z (noA b),e0.funs,e0.frf⟩,
  rfl,e0.bare,Un.kept hk,⟨_,x.toInCall.ns,λi y v h1 h2 h3=>?_⟩,λy c h=>⟨_,x.cell y c h⟩,e0.hok.fresh (aB _),λy c h=>?_,λp hp=>absurd (show p∈([]:List (Addr×Obj))from hp) (by simp),e0.hok.kept hk,?_⟩
 ·exact name_of_addr x.apart (cf h1) (cf h2)
 ·have hy:scope.names.lookup y=some .cell\/scope.names.lookup y=some .free:=hy;rcases hy with hy|hy
  ·exact iJ hy
  ·exact absurd rfl (S.nofree _ (cf hy))
 ·exact Nat.le_of_lt (x.above y c (cf h))
 ·have hi:i<vs.length:=by
   unfold start at h2;by_cases hi:i<vs.length
   ·exact hi
   ·rw[List.getElem?_append_right (by simpa using hi)]at h2;rw[List.getElem?_replicate]at h2;split at h2<;>cases h2
  have ha:vs[i]? = some v:=by
   unfold start at h2;rw[List.getElem?_append_left (by simpa using hi),List.getElem?_map]at h2;cases e:vs[i]? with
   |none=>rw[e]at h2;cases h2
   |some a=>rw[e]at h2;cases h2;rfl
  obtain⟨u,hu,rv⟩:=r.get ha;have hp:ps[i]? = some y:=by
   rw[<-S.pre,List.getElem?_take_of_lt (by lia)];exact h1
  have ndP:ps.Nodup:=by rw[<-S.pre];exact S.nd.sublist (List.take_sublist _ _)
  refine⟨u,rv,?_⟩;rcases S.par y (List.mem_of_getElem? hp)with k|k
  ·exact .inl ⟨k,pI ndP hp hu k⟩
  ·obtain⟨c,e⟩:=iJ (n:=s.heap.objs.size+1) k;refine .inr ⟨.inl k,c,e,?_⟩;have q:=x.cell y c e;rw[nK ndP hp hu (by show scope.names.lookup y≠_;rw[k];decide)]at q;exact q
 ·exact e0.hok.fresh (Nat.le_of_lt (x.above y c (cf h)))
 ·unfold start;show _=N.length;rw[br,aD,List.length_replicate];lia
theorem t5{CX:CXT}{P:aq}{w:ak}{K:ao}{mg:Str->Option ae}{base:Heap}{k:Nat}{f:Addr}{name qual:Str}{params:Arguments}{body:List Stmt}{scope:aO}{dV kV doc pm cdv ct oc:ae}{an od:Option Addr}
  {osl:Array (Option ae)}{N ps:List Str}{sp:Sp} (lk:K.lookup f=some ⟨oc,od,.func (cj name qual params body scope dV kV doc pm an cdv ct),osl⟩) (hcd:PySem.W.codeIn K cdv qual=true) (S:gC N ps scope)
  (len:∀vs H Q E,sp vs H Q E->vs.length=ps.length)
  (hbody:∀(A:au) (outer:List Env) (s:af) (H:Hp) (vs:List V) (Q:VK) (E:XK),ck k (A.deeper (envOfC qual scope s.heap.objs.size f cdv))->sp vs H Q E ->
   ∃t,PSs (ez CX P w K mg base N qual scope f cdv A outer s H E) body t/\t {nx:=λ_ H'=>Q .non H',rt:=Q} (start N vs) H) :
  eO P w K mg base CX (k+1) f (cj name qual params body scope dV kV doc pm an cdv ct) ps sp:=by
 refine⟨len,λA outer s H args us vs Q E hr e0 hb r hsp=>?_⟩;have hl:=len _ _ _ _ hsp;have KX:K.In s.heap:=e0.mod.kin.keeps λb o e=>(e0.bs b o e).1
 have lim:s.heap.NoLimit:=e0.mod.nolimit.keeps λb o e=>(e0.bs b o e).1
 have hkind:∀y∈ps.zip us,scope.names.lookup y.1=some .local\/(scope.names.lookup y.1=some .cell/\((aX (s.heap.objs.size+1) scope.names []).lookup y.1).isSome=true):=λ⟨n,v⟩ hy=>by
  rcases S.par n (List.of_mem_zip hy).1 with q|q
  ·exact .inl q
  ·exact .inr ⟨q,PySem.W.cellsFrom_some _ _ _ (.inl q)⟩
 refine codeAny_call_function hr.depth (KX _ _ lk) rfl S.co S.gen rfl (PySem.W.codeRec_of KX hcd) (hb _ _ _ _ ?_);refine wpAny_newFunctionEnv_cells S.kind hkind λenv he s1 x=>?_
 subst he;refine⟨lim.keeps x.toInCall.keep,codeAny_func ?_⟩;obtain⟨t,ht,hq⟩:=hbody A outer s H vs Q E (hr.deeper _) hsp;have I:Inv (ez CX P w K mg base N qual scope f cdv A outer s H E) [] (start N vs) H s1:=B4 S hr.hd e0 hl r x;refine wpAny_mono (ht [] s1 (start N vs) H _ I hq) (λfl s' hs=>?_) λe s' hs=>hs
 have fin:∀{σ':St}{H':Hp}{v:V}{u:ae},Inv (ez CX P w K mg base N qual scope f cdv A outer s H E) [] σ' H' s'->RelV v u->Q v H'->CE outer P w H s Q u s':=
  λ{σ' H' v u} J rv q=>⟨v,H',J.os,J.bare,J.base,J.hok,rv,q⟩
 cases fl with
 |ret u=>
  obtain⟨v,σ',H',J,rv,q⟩:=hs;exact fin J rv q
 |next=>
  obtain⟨σ',H',J,q⟩:=hs;exact fin (v:=V.non) (u:=bH) J rfl q
 |brk=>
  obtain⟨_,_,_,q⟩:=hs;exact aP q
 |cont=>
  obtain⟨_,_,_,q⟩:=hs;exact aP q
section
variable{X:Cx}{x:Str}{p pos:Pos}{e:Expr}{es:List Expr}{t:TA}{id T:String}{r:List V->Hp->VK->Prop}
noncomputable def tCB(r:List V->Hp->VK->Prop)(t:TA):TE:=λσ H Q=>t σ H λvs H1=>r vs H1 Q
theorem oA(hc:zl X (.builtin id) r)(hg:Gl X x)(hm:X.mg x=none)(hv:bG x=some (.builtin id))(ha:PA X (e::es) t)(hn:x≠"__name__":=by decide)(hdb:(x==("__debug__" : Str))=false:=by decide)
  (he:aL (e::es) X.env=(false,eval e X.env)::aL es X.env:=by rfl) (hpl:(backTo pos (aL es X.env)).any (·.1)=false:=by rfl):PE X (.Call (.Name x p) (e::es) [] pos) (tCB r t):=by
 intro pins s σ H Q I h;refine wpAny_Call_Name_kw (fm I hg hm hv ?_ hn hdb);exact PyProof.Rows.callWith_builtin1 (thn (ha pos pins s σ H _ I h) λus s1 ⟨vs,H1,I1,r1,q1⟩=>hc pins s1 σ H1 vs us Q I1 r1 q1) he hpl
theorem jn(hc:zl X (.type T) r)(hg:Gl X x)(hm:X.mg x=none)(hv:bG x=some (.type T))(ha:PA X (e::es) t)(hn:x≠"__name__":=by decide)(hdb:(x==("__debug__" : Str))=false:=by decide)
  (he:aL (e::es) X.env=(false,eval e X.env)::aL es X.env:=by rfl) (hpl:(backTo pos (aL es X.env)).any (·.1)=false:=by rfl):PE X (.Call (.Name x p) (e::es) [] pos) (tCB r t):=by
 intro pins s σ H Q I h;refine wpAny_Call_Name_kw (fm I hg hm hv ?_ hn hdb);exact eJ (thn (ha pos pins s σ H _ I h) λus s1 ⟨vs,H1,I1,r1,q1⟩=>hc pins s1 σ H1 vs us Q I1 r1 q1) he hpl
end
end L2
namespace HT
open PySem PyProof.Rows
noncomputable def lexLt:List Int->List Int->Bool
 | [],[]=>false
 | [],_::_=>true
 |_::_,[]=>false
 |x::xs,y::ys=>if x=y then lexLt xs ys else decide (x<y)
theorem B7(x y:Int)(xs ys:List Int):lexLt (x::xs) (y::ys)=if x=y then lexLt xs ys else decide (x<y):=rfl
theorem si:lexLt [] []=false:=rfl
theorem vO(y:Int)(ys:List Int):lexLt [] (y::ys)=true:=rfl
theorem y7(x:Int)(xs:List Int):lexLt (x::xs) []=false:=rfl
theorem CC(A:au)(s:af)(a:Int)(t:Tok)(c:Int)(u:Tok):∃e,SeqAt.EqAt A s (.int a t) (.int c u) e/\(e=true↔a=c):=
 ⟨(a==c),SeqAt.EqAt.int_int a t c u,by simp⟩
theorem ym(A:au)(s:af)(a:Int)(t:Tok)(c:Int)(u:Tok)(prog:aq)(w:ak)(E:ae->af->Prop)(Q:ae->af->Prop)(h:Q (.bool (decide (a<c))) s) :
  ah (ai prog w) A (richCompare .Lt (.int a t) (.int c u)) Q E s:=
 (PyProof.Rows.lt_int h:ah (ai prog w) A (aQ .Lt (.int a t) (.int c u)) Q E s)
section
open PySem.SeqAt
open PySem.AutoSeq1 (wpAny_loadPart')
open PySem.MeetsSeq PySem.MeetsSeq2 PySem.MeetsSeq3
theorem yA(l b:Addr)(items items2:Array ae)(n n2:Nat)(dd dd2:Option Addr)(sl sl2:Array (Option ae))(ns ms:List Int)(hi:a8 items.toList ns)(hj:a8 items2.toList ms) :
  Meets (Builtin.«tuple.__lt__» ⟨[.ref l,.ref b],[]⟩)
   (λ_ R s=>s.heap.get? l=some {cls:=.type "tuple",dict:=dd,data:=.seq items n,slots:=sl}/\s.heap.get? b=some {cls:=.type "tuple",dict:=dd2,data:=.seq items2 n2,slots:=sl2} /\
    R (.ok (.ret (.bool (lexLt ns ms)))) s):=
 .of_wp λprog w A R s h=>by
  obtain⟨hp,g,d,tk,os⟩:=s;obtain⟨hl,hb,h⟩:=h;have f2:=AutoSeq1.sub_tuple_tuple;have z1:items.size=ns.length:=by rw[<-hi.length];simp
  have z2:items2.size=ms.length:=by rw[<-hj.length];simp
  wp_walk using wpAny_loadPart' hl,wpAny_loadPart' hb,wpAny_forIn_list _ (λrest b s'=>b.1=none/\s'=⟨hp,g,d,tk,os⟩/\∃(vs ws:List ae) (ns' ms':List Int),rest=vs.zip ws /\
   a8 vs ns'/\a8 ws ms'/\ns'.length+items2.size=ms'.length+items.size/\R (.ok (.ret (.bool (lexLt ns' ms')))) ⟨hp,g,d,tk,os⟩) _
  case turn=>
   rintro⟨y,x⟩ rest b s' ⟨hb',rfl,vs,ws,ns',ms',hz,hvi,hwi,hlen,hR⟩;cases hvi with
   |nil=>rw[List.zip_nil_left]at hz;cases hz
   |cons a t hvi'=>
    cases hwi with
    |nil=>rw[List.zip_nil_right]at hz;cases hz
    |cons c u hwi'=>
     rw[List.zip_cons_cons]at hz;injection hz with hyx hrest
     injection hyx with hy hx
     subst hy hx;rw[B7]at hR;simp only[aU]at hlen;obtain⟨e,he,hiff⟩:=CC A.in1 ⟨hp,g,d,tk,os⟩ a t c u;refine ag (he prog w _ _ ?_);cases e with
     |true=>
      rw[if_pos (hiff.mp rfl)]at hR
      wp_walk
      exact⟨rfl,rfl,_,_,_,_,hrest,hvi',hwi',by lia,hR⟩
     |false=>
      rw[if_neg (λq=>absurd (hiff.mpr q) bK)]at hR;have hri:=ym A.in1 ⟨hp,g,d,tk,os⟩ a t c u prog w
      wp_walk using hri
      exact⟨_,rfl,by simpa using hR⟩
  case fin=>
   rintro⟨b1,b2⟩ s' ⟨hb',rfl,vs,ws,ns',ms',hz,hvi,hwi,hlen,hR⟩;simp only at hb';subst hb';have hv:lexLt ns' ms'=decide (items.size<items2.size):=by
    cases hvi with
    |nil=>
     cases hwi with
     |nil=>
      simp only[List.length_nil]at hlen;rw[si];exact(decide_eq_false (by lia)).symm
     |cons c u hw=>
      simp only[List.length_nil,aU]at hlen;rw[vO];exact(decide_eq_true (by lia)).symm
    |cons a t hv=>
     cases hwi with
     |nil=>
      simp only[List.length_nil,aU]at hlen;rw[y7];exact(decide_eq_false (by lia)).symm
     |cons c u hw=>
      rw[List.zip_cons_cons]at hz;cases hz
   rw[hv]at hR
   wp_walk
   exact⟨_,rfl,by simpa[Builtin.Tuple.tupleCompareSizes]using hR⟩
  case h=>
   exact⟨rfl,rfl,items.toList,items2.toList,ns,ms,rfl,hi,hj,by lia,h⟩
end
section
variable{prog:aq}{w:ak}{A:au}{E:ae->af->Prop}{s:af}
theorem Cb{l b:Addr}{items items2:Array ae}{ns ms:List Int}{Q:ae->af->Prop}(hl:IsTup s.heap l items)(hb:IsTup s.heap b items2)(hi:a8 items.toList ns)(hj:a8 items2.toList ms)
  (hu:A.units<cLine) (h:Q (.bool (lexLt ns ms)) s):ah (ai prog w) A (aQ .Lt (.ref l) (.ref b)) Q E s:=by
 obtain⟨⟨cls,dd,data,sl⟩,ho,hc,n,hd⟩:=id hl;obtain⟨⟨cls2,dd2,data2,sl2⟩,ho2,hc2,n2,hd2⟩:=id hb;simp only at hc hd hc2 hd2;subst hc hd hc2 hd2;exact richCompare_meets_room (op:=.Lt) ⟨_,ho,rfl⟩ ⟨_,ho2,rfl⟩ PySem.F.slot_tuple_lt PySem.F.entry_tuple_lt (PySem.F.args_tuple_lt_2 _ _) (yA l b items items2 n n2 dd dd2 sl sl2 ns ms hi hj)
  ⟨ho,ho2,show ae.bool (lexLt ns ms)≠ae.notImplemented/\Q (.bool (lexLt ns ms)) s from ⟨(λx=>nomatch x),h⟩⟩ hu
theorem t7{t b:Addr}{vs ws:List ae}{Q:ae->af->Prop}(ht:IsTup s.heap t vs.toArray)(hb:IsTup s.heap b ws.toArray)(hv:vs≠[])
  (h1:ws=[]->Q (.ref t) s) (h2:ws≠[]->Q (.ref s.heap.objs.size) {s with heap:=s.heap.push {cls:=.type "tuple",data:=.seq (vs++ws).toArray}})
  (hsz:vs.length+ws.length<=aE):ah (ai prog w) A (binaryOp .Add (.ref t) (.ref b)) Q E s:=by
 obtain⟨⟨cls,dd,data,sl⟩,ho,hc,n,hd⟩:=id ht;obtain⟨⟨cls2,dd2,data2,sl2⟩,ho2,hc2,n2,hd2⟩:=id hb;simp only at hc hd hc2 hd2;subst hc hd hc2 hd2;have e:vs.toArray++ws.toArray=(vs++ws).toArray:=by simp
 by_cases hw:ws=[]
 ·exact concat_meets ⟨_,ho,rfl⟩ ⟨_,ho2,rfl⟩ noFill_tuple_add seq_tuple_add PySem.F.slot_tuple_add PySem.F.entry_tuple_add (PySem.F.args_tuple_add_2 _ _)
   (tuple_addW1 t b vs.toArray ws.toArray n n2 dd dd2 sl sl2 (by simpa using hv) (by simp[hw])) ⟨ho,ho2,h1 hw⟩
 ·refine concat_meets ⟨_,ho,rfl⟩ ⟨_,ho2,rfl⟩ noFill_tuple_add seq_tuple_add PySem.F.slot_tuple_add PySem.F.entry_tuple_add (PySem.F.args_tuple_add_2 _ _)
   (tuple_addW2 t b vs.toArray ws.toArray n n2 dd dd2 sl sl2 (by simpa using hv) (by simpa using hw) (by rw[aK,aK];exact hsz)) ⟨ho,ho2,?_⟩
  rw[e];exact h2 hw
noncomputable def sIx(n d:Nat):Option Int->Nat
 |none=>d
 |some v=>if v<0 then (v+(n:Int)).toNat else min v.toNat n
theorem yL(n d:Nat)(hd:d<=n)(o:Option Int):sIx n d o<=n:=by
 cases o with
 |none=>exact hd
 |some v=>
  show (if v<0 then (v+(n:Int)).toNat else min v.toNat n)<=n;by_cases hv:v<0
  ·rw[if_pos hv];lia
  ·rw[if_neg hv];exact Nat.min_le_right _ _
theorem oM(v:Int)(n d:Nat):(if v<0 then max (v+(n:Int)) 0 else min v (n:Int))=((sIx n d (some v):Nat):Int):=by
 show (if v<0 then max (v+(n:Int)) 0 else min v (n:Int))=(((if v<0 then (v+(n:Int)).toNat else min v.toNat n):Nat):Int)
 by_cases hv:v<0
 ·simp only[if_pos hv];lia
 ·simp only[if_neg hv];lia
theorem Bm(lo hi:Option Int)(n:Nat):Builtin.Slice.sliceAdjust lo hi 1 (n:Int)=(((sIx n 0 lo:Nat):Int),((sIx n n hi:Nat):Int)):=by
 have h1:¬ ((1:Int)<0):=by lia
 unfold Builtin.Slice.sliceAdjust;simp only[h1,if_false];refine Prod.ext ?_ ?_
 ·cases lo with
  |none=>rfl
  |some v=>exact oM v n 0
 ·cases hi with
  |none=>rfl
  |some v=>exact oM v n n
theorem tN(i j:Nat):Builtin.Slice.slicePlaces (i:Int) (j:Int) 1=j-i:=by
 unfold Builtin.Slice.slicePlaces;have h1:(1:Int)>0:=by lia
 simp only[h1,if_true,Int.ediv_one];split<;>lia
theorem mI{v:ae}{o:Option Int}{Q:Option Int->af->Prop}(p:IsPart v o)(h:Q o s):ah (ai prog w) A (Builtin.Slice.slicePartIndex v) Q E s:=by
 cases p with
 |none=>exact slicePart_none h
 |int i t=>exact slicePart_int h
theorem oE{sl:Addr}{vl vu:ae}{lo hi:Option Int}{n:Nat}{Q:Int×Int×Nat->af->Prop}(hs:s.heap.IsSliceOf sl vl vu .none)(pl:IsPart vl lo)(pu:IsPart vu hi)
  (h:Q (((sIx n 0 lo:Nat):Int),1,sIx n n hi-sIx n 0 lo) s):ah (ai prog w) A (Builtin.Slice.sliceApplied (.ref sl) (pure (n:Int))) Q E s:=by
 obtain⟨os,hos,hcs,hds⟩:=id hs;unfold Builtin.Slice.sliceApplied Builtin.Slice.sliceFields;refine ag (ag (bA hos hds (x:=vl) rfl (ag (bA hos hds (x:=vu) rfl (ag (bA hos hds (x:=.none) rfl (av ?_)))))));refine ag (slicePart_none ?_);show ah _ _ (if ((1:Int)==0)=true then _ else _) _ _ s;rw[if_neg (by decide)];refine ag (mI pl (ag (mI pu (ag (av ?_)))));show ah _ _ (match Builtin.Slice.sliceAdjust lo hi 1 (n:Int)with|(lo,hi)=>pure (lo,(1:Int),Builtin.Slice.slicePlaces lo hi 1)) _ _ s;rw[Bm lo hi n];show ah _ _ (pure (((sIx n 0 lo:Nat):Int),(1:Int),Builtin.Slice.slicePlaces ((sIx n 0 lo:Nat):Int) ((sIx n n hi:Nat):Int) 1)) _ _ s;rw[tN];exact av h
theorem BR(xs:Array ae)(i k:Nat):((a9 k).filterMap λ(m:Nat)=>xs[((i:Int)+(m:Int) * 1).toNat]?).toArray=((xs.toList.drop i).take k).toArray:=by
 have e:(λ(m:Nat)=>xs[((i:Int)+(m:Int) * 1).toNat]?)=λm=>xs[i+m]?:=by
  funext m;have:((i:Int)+(m:Int) * 1).toNat=i+m:=by lia
  rw[this]
 rw[e];have:=pick_run xs i k;rw[List.filterMap_map]at this;have e2:((λx=>xs[x]?)∘λx=>i+x)=λm=>xs[i+m]?:=rfl
 rw[e2]at this;rw[this]
theorem xl{t sl:Addr}{items:Array ae}{vl vu:ae}{lo hi:Option Int}{Q:ae->af->Prop}(ht:IsTup s.heap t items)(hs:s.heap.IsSliceOf sl vl vu .none)(pl:IsPart vl lo)(pu:IsPart vu hi)
  (hw:¬ (sIx items.size 0 lo=0/\sIx items.size items.size hi=items.size))
  (h:Q (.ref s.heap.objs.size) {s with heap:=s.heap.push {cls:=.type "tuple",data:=.seq ((items.toList.drop (sIx items.size 0 lo)).take (sIx items.size items.size hi-sIx items.size 0 lo)).toArray}})
  (hsz:items.size<=aE):ah (ai prog w) A (getItem (.ref t) (.ref sl)) Q E s:=by
 have htake:sizeOk (.seq ((items.toList.drop (sIx items.size 0 lo)).take (sIx items.size items.size hi-sIx items.size 0 lo)).toArray):=by
  show ((items.toList.drop (sIx items.size 0 lo)).take (sIx items.size items.size hi-sIx items.size 0 lo)).toArray.size<=aE;rw[aK,List.length_take,List.length_drop,Array.length_toList];lia
 have hj:sIx items.size items.size hi<=items.size:=yL _ _ (aB _) hi;obtain⟨os,hos,hcs,hds⟩:=id hs;have hTs:s.TypeIs (.ref sl) "slice":=⟨os,hos,hcs⟩
 unfold getItem
 try with_reducible refine cB ?_
 first|refine ag (av ?_)|skip
 refine ag (wpAny_sequenceKey ht.typeIs (by decide) ?_);refine ag (wpAny_callSpecial?_slot (name:=aG "__getitem__") ht.typeIs PyProof.Rows.slot_tuple_getitem
  (cz PyProof.Rows.slot_tuple_getitem ht.typeIs entry_tuple_getitem ?_ (args_tuple_getitem _ _)))
 show ah _ _ (Builtin.Tuple.tupleItemsOf (.ref t)>>=_) _ _ s;refine ag (tupleItemsOf_ ht ?_);refine ag (wpAny_typeOf hTs ?_);rw[if_pos (by decide)];refine ag (oE hs pl pu ?_);have hno:¬ ((((sIx items.size 0 lo:Nat):Int)==0&&(1:Int)==1&&(sIx items.size items.size hi-sIx items.size 0 lo)==items.size)=true):=by
  intro q;rw[aC,aC]at q;have q1:((sIx items.size 0 lo:Nat):Int)=0:=eq_of_beq q.1.1;have q2:sIx items.size items.size hi-sIx items.size 0 lo=items.size:=eq_of_beq q.2;exact hw ⟨by lia,by lia⟩
 show ah _ _ (if (((sIx items.size 0 lo:Nat):Int)==0&&(1:Int)==1&&(sIx items.size items.size hi-sIx items.size 0 lo)==items.size)=true then _ else _) _ _ s;rw[if_neg hno,BR]
 first
  |exact ag (m:=Builtin.Tuple.tupleExact _) (cU (av ⟨_,rfl,av h⟩) htake)
  |exact ag (m:=Builtin.Tuple.tupleExact _) (cU (ag (av (av ⟨_,rfl,av h⟩))) htake)
  |exact ag (ag (m:=Builtin.Tuple.tupleExact _) (cU (av (av ⟨_,rfl,av h⟩)) htake))
  |exact ag (ag (m:=Builtin.Tuple.tupleExact _) (cU (av ⟨_,rfl,av h⟩) htake))
end
end HT
namespace L2
open PySem PySem.Spec PyProof.Rows
abbrev TO:=St->Hp->(Option Int->Hp->Prop)->Prop
noncomputable def PO(X:Cx)(e:Option Expr)(t:TO):Prop:=
 ∀(pins:List (Addr×Obj)) (s:af) (σ:St) (H:Hp) (Q:Option Int->Hp->Prop),Inv X pins σ H s->t σ H Q ->
  ah (ai X.prog X.w) X.A (evalPart e X.env) (λu s'=>∃o H',Inv X pins σ H' s'/\IsPart u o/\Q o H') X.xe s
noncomputable def yy:TO:=λ_ H Q=>Q none H
noncomputable def Ab(t:TE):TO:=λσ H Q=>t σ H λx H1=>∃i,x=.int i/\Q (some i) H1
theorem intsAre_of{ns:List Int}:∀{us:List ae},Vals (ns.map V.int) us->a8 us ns:=by
 induction ns with
 |nil=>intro us r;rw[List.map_nil]at r;cases r;exact .nil
 |cons n ns ih=>
  intro us r;rw[aR]at r;cases r with
  |cons r1 r2=>
   obtain⟨t,e⟩:=r1;subst e;exact .cons n t (ih r2)
section
variable{X:Cx}{e:Expr}{te:TE}{lo hi:Option Expr}{tl th:TO}{pos p2:Pos}
theorem yf:PO X none yy:=by
 intro pins s σ H Q I h;rw[evalPart_none];exact av ⟨none,H,I,.none,h⟩
theorem AJ(h:PE X e te):PO X (some e) (Ab te):=by
 intro pins s σ H Q I hw;rw[evalPart_some];refine thn (h pins s σ H _ I hw) λu s1 ⟨x,H1,I1,r1,q1⟩=>?_
 obtain⟨i,rfl,q⟩:=q1;obtain⟨t,rfl⟩:=r1;exact⟨some i,H1,I1,.int i t,q⟩
noncomputable def SlR(X:Cx)(r:V->Option Int->Option Int->Hp->VK->Prop):Prop:=
 ∀(pins:List (Addr×Obj)) (s:af) (σ:St) (H:Hp) (x:V) (v vl vu:ae) (lo hi:Option Int) (sl:Addr) (Q:VK),Inv X pins σ H s->RelV x v->s.heap.IsSliceOf sl vl vu .none->IsPart vl lo->IsPart vu hi->r x lo hi H Q ->
  ∃T id,typeLookup (.type T) "__getitem__" = pure (some (.builtin id))/\s.TypeIs v T/\ah (ai X.prog X.w) X.A (getItem v (.ref sl)) (EP X pins σ Q) X.xe s
noncomputable def tSl(r:V->Option Int->Option Int->Hp->VK->Prop)(te:TE)(tl th:TO):TE:=λσ H Q=>te σ H λx H1=>tl σ H1 λl H2=>th σ H2 λu H3=>r x l u H3 Q
theorem uR{r:V->Option Int->Option Int->Hp->VK->Prop}(hr:SlR X r)(he:PE X e te)(hl:PO X lo tl)(hu:PO X hi th):PE X (.Subscript e (.Slice lo hi none p2) pos) (tSl r te tl th):=by
 intro pins s σ H Q I h;refine Subscript_ (thn (he pins s σ H _ I h) λv s1 ⟨x,H1,I1,r1,q1⟩=>?_);refine wpAny_Slice (thn (hl pins s1 σ H1 _ I1 q1) λvl s2 ⟨l,H2,I2,pl,q2⟩=>thn (hu pins s2 σ H2 _ I2 q2) λvu s3 ⟨u,H3,I3,pu,q3⟩=>?_);rw[evalPart_none];refine av ?_;have I4:Inv X pins σ H3 {s3 with heap:=s3.heap.push {cls:=.type "slice",data:=.fields #[vl,vu,.none]}}:=I3.kept (t':=s3.toks) λb ob q=>Heap.get?_push_of_some _ q
 obtain⟨T,id,hT,ht,hg⟩:=hr pins {s3 with heap:=s3.heap.push {cls:=.type "slice",data:=.fields #[vl,vu,.none]}} σ H3 x v vl vu l u s3.heap.objs.size Q I4 r1 (Heap.IsSliceOf.new ..) pl pu q3;show ah (ai X.prog X.w) X.A (subscriptTail e (.Slice lo hi none p2) v (.ref s3.heap.objs.size)) (EP X pins σ Q) X.xe {s3 with heap:=s3.heap.push {cls:=.type "slice",data:=.fields #[vl,vu,.none]}};exact tail_any (ops:=[.ref s3.heap.objs.size,v]) ht hT hg (by with_unfolding_all rfl)
noncomputable def e_(xs:List V)(lo hi:Option Int):List V:=(xs.drop (HT.sIx xs.length 0 lo)).take (HT.sIx xs.length xs.length hi-HT.sIx xs.length 0 lo)
theorem lV(xs:List V)(lo hi:Option Int):(e_ xs lo hi).length<=xs.length:=by
 unfold e_;rw[List.length_take,List.length_drop];lia
noncomputable def xE(K:ao):V->Option Int->Option Int->Hp->VK->Prop:=λx lo hi H Q=>∃a xs,x=.ref a/\SqT K H a xs /\
 ¬ (HT.sIx xs.length 0 lo=0/\HT.sIx xs.length xs.length hi=xs.length)/\∀p,H p=none->Q (.ref p) (upd H p (.tup (e_ xs lo hi)))
theorem wU:SlR X (xE X.K):=by
 intro pins s σ H x v vl vu lo hi sl Q I rx hs pl pu h;obtain⟨a,xs,rfl,hx,hw,q⟩:=h;cases rx;obtain⟨its,r,ht,hz⟩:=I.tuple hx;have hlen:its.toArray.size=xs.length:=by rw[aK];exact r.length.symm
 refine⟨"tuple",_,PyProof.Rows.slot_tuple_getitem.lookup,ht.typeIs,?_⟩;refine HT.xl ht hs pl pu (by rw[hlen];exact hw) ?_ (by rw[hlen];exact hz);rw[hlen];refine⟨.ref s.heap.objs.size,_,I.laid (t':=s.toks) (o:=.tup (e_ xs lo hi)) (λb ob q=>Heap.get?_push_of_some _ q) (aB _) ?_,rfl,q _ (I.hok.fresh (aB _))⟩;exact⟨ba (lV xs lo hi) hz,_,(r.drop (HT.sIx xs.length 0 lo)).take (HT.sIx xs.length xs.length hi-HT.sIx xs.length 0 lo),IsTup.new _ _⟩
noncomputable def pV(K:ao):R2:=λx y H Q=>∃a b ns ms,x=.ref a/\y=.ref b/\SqT K H a (ns.map V.int)/\SqT K H b (ms.map V.int)/\Q (.bl (HT.lexLt ns ms)) H
theorem sA(hu:X.A.units<cLine):OpR X (aQ .Lt) (pV X.K):=by
 intro pins s σ H x y v u Q I rx ry h;obtain⟨a,b,ns,ms,rfl,rfl,ha,hb,q⟩:=h;cases rx;cases ry;obtain⟨its,r1,p1,_⟩:=I.tuple ha;obtain⟨its2,r2,p2,_⟩:=I.tuple hb;have i1:a8 its.toArray.toList ns:=intsAre_of r1;have i2:a8 its2.toArray.toList ms:=intsAre_of r2;exact HT.Cb p1 p2 i1 i2 hu ⟨.bl (HT.lexLt ns ms),H,I,rfl,q⟩
noncomputable def v_(K:ao):R2:=λx y H Q=>∃a b xs ys,x=.ref a/\y=.ref b/\SqT K H a xs/\SqT K H b ys/\xs≠[]/\xs.length+ys.length<=aE /\
 (ys=[]->Q (.ref a) H)/\(ys≠[]->∀p,H p=none->Q (.ref p) (upd H p (.tup (xs++ys))))
theorem Vals.nil_iff{xs:List V}{us:List ae}(r:Vals xs us):us=[]↔xs=[]:=by
 cases r with
 |nil=>simp
 |cons _ _=>simp
theorem AH:OpR X (binaryOp .Add) (v_ X.K):=by
 intro pins s σ H x y v u Q I rx ry h;obtain⟨a,b,xs,ys,rfl,rfl,ha,hb,hx,hz,q1,q2⟩:=h;cases rx;cases ry;obtain⟨its,r1,p1,_⟩:=I.tuple ha;obtain⟨its2,r2,p2,_⟩:=I.tuple hb;refine HT.t7 p1 p2 (λz=>hx (r1.nil_iff.mp z)) (λz=>⟨.ref a,H,I,rfl,q1 (r2.nil_iff.mp z)⟩) (λz=>?_) (by rw[<-r1.length,<-r2.length];exact hz);refine⟨.ref s.heap.objs.size,_,I.laid (t':=s.toks) (o:=.tup (xs++ys)) (λb ob q=>Heap.get?_push_of_some _ q) (aB _) ?_,rfl,q2 (λw=>z (r2.nil_iff.mpr w)) _ (I.hok.fresh (aB _))⟩;exact⟨by rw[br];exact hz,_,r1.append r2,IsTup.new _ _⟩
end
noncomputable def ixN(n:Nat)(i:Int):Option Nat:=if 0<=i then (if i<n then some i.toNat else none)else if -(n:Int)<=i then some (i+n).toNat else none
noncomputable def atI{α:Type}(xs:List α)(i:Int):Option α:=(ixN xs.length i).bind λj=>xs[j]?
theorem n_{n:Nat}{i:Int}{j:Nat}(h:ixN n i=some j):seqIndex? i n=some j/\j<n/\-(n:Int)<=i/\i<n:=by
 unfold ixN at h;by_cases h0:0<=i
 ·rw[if_pos h0]at h;by_cases h1:i<n
  ·rw[if_pos h1]at h;have e:i.toNat=j:=bF h;exact⟨by rw[seqIndex_of h0 h1,e],by lia,by lia,h1⟩
  ·rw[if_neg h1]at h;cases h
 ·rw[if_neg h0]at h;by_cases h1:-(n:Int)<=i
  ·rw[if_pos h1]at h;have e:(i+n).toNat=j:=bF h;exact⟨by rw[seqIndex_neg (by lia) h1,e],by lia,h1,by lia⟩
  ·rw[if_neg h1]at h;cases h
theorem lq{α:Type}{xs:List α}{i:Int}{v:α}(h:atI xs i=some v):∃j,seqIndex? i xs.length=some j/\xs[j]? = some v/\j<xs.length/\-(xs.length:Int)<=i/\i<xs.length:=by
 unfold atI at h;cases e:ixN xs.length i with
 |none=>rw[e]at h;cases h
 |some j=>
  rw[e]at h;obtain⟨h1,h2,h3,h4⟩:=n_ e;exact⟨j,h1,h,h2,h3,h4⟩
noncomputable def m4(b:Expr):Prop:=∀o i,subscripted b false o i=operate [o,i] (getItem o i)
noncomputable def IxR(X:Cx)(r:R2):Prop:=
 ∀(value slice:Expr) (pins:List (Addr×Obj)) (s:af) (σ:St) (H:Hp) (x y:V) (v u:ae) (Q:VK),Inv X pins σ H s->RelV x v->RelV y u->r x y H Q ->
  subscripted slice false v u=operate [v,u] (getItem v u)->ah (ai X.prog X.w) X.A (subscriptTail value slice v u) (EP X pins σ Q) X.xe s
noncomputable def MtR(X:Cx)(id:String)(r:V->List V->Hp->VK->Prop):Prop:=
 ∀(pins:List (Addr×Obj)) (s:af) (σ:St) (H:Hp) (x:V) (xs:List V) (v:ae) (us:List ae) (Q:VK),Inv X pins σ H s->RelV x v->Vals xs us->r x xs H Q ->
  ah (ai X.prog X.w) X.A (call (.builtin id) (v::us)) (EP X pins σ Q) X.xe s
section
variable{X:Cx}{a b:Expr}{ta tb:TE}{pos:Pos}
theorem IxR.or{r r':R2}(h:IxR X r)(h':IxR X r'):IxR X (λx y H Q=>r x y H Q\/r' x y H Q):=by
 intro value slice pins s σ H x y v u Q I rx ry q hs;rcases q with q|q
 ·exact h value slice pins s σ H x y v u Q I rx ry q hs
 ·exact h' value slice pins s σ H x y v u Q I rx ry q hs
theorem tB{r:R2}(hr:IxR X r)(ha:PE X a ta)(hb:PE X b tb)(hs:m4 b):PE X (.Subscript a b pos) (tOp r ta tb):=by
 intro pins s σ H Q I h;exact Subscript_ (kB ha hb I h λv u s2 x y H2 I2 rx ry q=>hr a b pins s2 σ H2 x y v u Q I2 rx ry q (hs _ _))
noncomputable def nM(K:ao):R2:=λx y H Q=>∃p xs i v,x=.ref p/\y=.int i/\SqL K H p xs/\atI xs i=some v/\Q v H
noncomputable def oS(K:ao):R2:=λx y H Q=>∃p xs i v,x=.ref p/\y=.int i/\SqT K H p xs/\atI xs i=some v/\Q v H
theorem rD:IxR X (nM X.K):=by
 intro value slice pins s σ H x y v u Q I rx ry h hs;obtain⟨p,xs,i,z,rfl,rfl,hq,he,q⟩:=h;cases rx;obtain⟨t,rfl⟩:=ry;obtain⟨its,r,pl,hz⟩:=I.list hq;obtain⟨j,h1,h2,h3,h4,h5⟩:=lq he;obtain⟨w,ew,rw'⟩:=r.get h2;have hl:=r.length;have hn:=gL;have fin:EP X pins σ Q w s:=⟨z,H,I,rw',q⟩
 by_cases h0:0<=i
 ·have hj:i.toNat=j:=by
   rw[seqIndex_of h0 h5]at h1;exact bF h1
  exact item_listR pl.isList h0 (by lia) (by rw[hj];simpa using ew) fin hs
 ·have hj:(i+(its.toArray.size:Int)).toNat=j:=by
   rw[seqIndex_neg (by lia) h4]at h1;rw[aK,<-hl];exact bF h1
  exact subscriptTail_builtinR (x:=w) pl.isList.typeIs slot_list_getitem.lookup
   (wpAny_getItem_list_neg (Q:=λr s'=>r=w/\EP X pins σ Q r s') pl.isList (by lia) (by rw[aK]<;>lia) (by lia) (by rw[hj];simpa using ew) ⟨rfl,fin⟩) hs
theorem w9:IxR X (oS X.K):=by
 intro value slice pins s σ H x y v u Q I rx ry h hs;obtain⟨p,xs,i,z,rfl,rfl,hq,he,q⟩:=h;cases rx;obtain⟨t,rfl⟩:=ry;obtain⟨its,r,pl,hz⟩:=I.tuple hq;obtain⟨j,h1,h2,h3,h4,h5⟩:=lq he;obtain⟨w,ew,rw'⟩:=r.get h2;have hl:=r.length;have hn:=gL;have fin:EP X pins σ Q w s:=⟨z,H,I,rw',q⟩
 exact subscriptTail_builtinR (x:=w) pl.typeIs slot_tuple_getitem.lookup
  (getItem_tuple (j:=j) (Q:=λr s'=>r=w/\EP X pins σ Q r s') pl (by lia) (by lia) (by rw[aK,<-hl];exact h1) (by simpa using ew) ⟨rfl,fin⟩) hs
theorem ub(its:List ae)(n j:Nat)(u:ae):bt (·.setIfInBounds j u) {cls:=.type "list",data:=.seq its.toArray n}={cls:=.type "list",data:=.seq (its.set j u).toArray n}:=by
 simp[bt]
theorem Inv.lst{pins:List (Addr×Obj)}{σ:St}{H:Hp}{s:af}{p:Addr}{xs:List V}(I:Inv X pins σ H s)(h:H p=some (.lst xs)) :
  ∃(its:List ae) (n:Nat),Vals xs its/\s.heap.get? p=some {cls:=.type "list",data:=.seq its.toArray n}/\xs.length<=sizeLine:=by
 obtain⟨z,its,n,r,e⟩:=I.hok p _ h;exact⟨its,n,r,e,z⟩
theorem Inv.lstUpd{pins:List (Addr×Obj)}{σ:St}{H:Hp}{s:af}{p:Addr}{xs ys:List V}{its its':List ae}{n n':Nat}{f:Obj->Obj}(I:Inv X pins σ H s)(h:H p=some (.lst xs))
  (ho:s.heap.get? p=some {cls:=.type "list",data:=.seq its.toArray n}) (hf:f {cls:=.type "list",data:=.seq its.toArray n}={cls:=.type "list",data:=.seq its'.toArray n'}) (r:Vals ys its') (hz:ys.length<=aE) (t:Nat) :
  Inv X pins σ (upd H p (.lst ys)) {s with heap:=s.heap.update p f,toks:=t}:=by
 have e:(s.heap.update p f).get? p=some {cls:=.type "list",data:=.seq its'.toArray n'}:=by
  rw[Heap.get?_update_self f ho (by rw[hf]<;>rfl),hf]
 refine I.write (x:=p) (e:=p) (by rw[h];trivial) (.inl rfl) (λb u hb q=>(Heap.get?_update_other _ _ (Ne.symm hb)).trans q) ⟨_,e⟩ ?_;exact⟨hz,its',n',r,e⟩
noncomputable def o3:V->V->V->Hp->(Hp->Prop)->Prop:=λo i v H Q=>∃p xs k j,o=.ref p/\i=.int k/\H p=some (.lst xs)/\ixN xs.length k=some j/\Q (upd H p (.lst (xs.set j v)))
theorem set_list:fI X o3:=by
 intro pins s σ H o i v ov iv u Q I ro ri rv h;obtain⟨p,xs,k,j,rfl,rfl,hp,hj,q⟩:=h;cases ro;obtain⟨t,rfl⟩:=ri;obtain⟨its,n,r,ho,hz⟩:=I.lst hp;obtain⟨h1,h2,h3,h4⟩:=n_ hj;have hl:=r.length;have hn:=gL;have I':Inv X pins σ (upd H p (.lst (xs.set j v))) {s with heap:=s.heap.update p (bt (·.setIfInBounds j u))}:=
  I.lstUpd hp ho (ub its n j u) (r.set rv j) (by rw[List.length_set];exact hz) s.toks
 by_cases h0:0<=k
 ·have hk:k.toNat=j:=by
   rw[seqIndex_of h0 h4]at h1;exact bF h1
  exact PySem.W.ki_setAt ho h0 (by lia) (by rw[aK,<-hl];exact h4) (by rw[hk];exact⟨_,I',q⟩)
 ·have hk:(k+(its.toArray.size:Int)).toNat=j:=by
   rw[seqIndex_neg (by lia) h3]at h1;rw[aK,<-hl];exact bF h1
  exact PySem.W.ki_setBack ho (by lia) (by rw[aK,<-hl];exact h3) (by lia) (by rw[hk];exact⟨_,I',q⟩)
theorem CL(lo hi:Option Int)(n:Nat):(sliceBounds lo hi none n).1=((HT.sIx n 0 lo:Nat):Int)/\(sliceBounds lo hi none n).2.1=((HT.sIx n n hi:Nat):Int)/\(sliceBounds lo hi none n).2.2=1:=by
 refine⟨?_,?_,rfl⟩
 ·cases lo with
  |none=>simp[sliceBounds,HT.sIx]
  |some i=>
   simp only[sliceBounds,HT.sIx,Option.getD_none,show (1:Int)>0 by decide,if_true];by_cases h:i<0
   ·simp only[h,if_true]<;>lia
   ·simp only[h,if_false]<;>lia
 ·cases hi with
  |none=>simp[sliceBounds,HT.sIx]
  |some i=>
   simp only[sliceBounds,HT.sIx,Option.getD_none,show (1:Int)>0 by decide,if_true];by_cases h:i<0
   ·simp only[h,if_true]<;>lia
   ·simp only[h,if_false]<;>lia
theorem sD(its:List ae)(lo hi:Option Int):slicePick its.toArray lo hi none=((its.drop (HT.sIx its.length 0 lo)).take (HT.sIx its.length its.length hi-HT.sIx its.length 0 lo)).toArray:=by
 obtain⟨h1,h2,h3⟩:=CL lo hi its.toArray.size;unfold slicePick;rw[h1,h2,h3];simp only[sliceRange_one,pick_run,aK]<;>rfl
noncomputable def CO(K:ao):V->Option Int->Option Int->Hp->VK->Prop:=λx lo hi H Q=>∃a xs,x=.ref a/\SqL K H a xs/\∀p,H p=none->Q (.ref p) (upd H p (.lst (e_ xs lo hi)))
theorem uv:SlR X (CO X.K):=by
 intro pins s σ H x v vl vu lo hi sl Q I rx hs pl pu h;obtain⟨a,xs,rfl,hx,q⟩:=h;cases rx;obtain⟨its,r,ht,hz⟩:=I.list hx;have hlen:=r.length;refine⟨"list",_,slot_list_getitem.lookup,ht.isList.typeIs,?_⟩;refine wpAny_getItem_list_slice ht.isList hs pl pu .none (by simp) ?_ (by rw[aK]<;>lia);rw[sD,<-hlen];refine⟨.ref s.heap.objs.size,_,I.laid (t':=s.toks) (o:=.lst (e_ xs lo hi)) (λb ob q=>Heap.get?_push_of_some _ q) (aB _) ?_,rfl,q _ (I.hok.fresh (aB _))⟩;exact⟨ba (lV xs lo hi) hz,_,0,(r.drop (HT.sIx xs.length 0 lo)).take (HT.sIx xs.length xs.length hi-HT.sIx xs.length 0 lo),Heap.get?_push_size _ rfl⟩
theorem sQ:zl X (.builtin "len") (λxs H Q=>∃p ys,xs=[.ref p]/\(SqL X.K H p ys\/SqT X.K H p ys)/\Q (.int ys.length) H):=by
 intro pins s σ H xs us Q I r h;obtain⟨p,ys,rfl,hq,q⟩:=h;obtain⟨u,rfl,rx⟩:=vals1 r;cases rx;have hn:=gL;rcases hq with hq|hq
 ·obtain⟨its,r',pl,hz⟩:=I.list hq;have hlen:=r'.length;exact Calls.call_len_list pl.isList (by simp only[aK]<;>lia) ⟨.int ys.length,H,I.tok _,⟨s.toks+1,by rw[aK,hlen]⟩,q⟩
 ·obtain⟨its,r',pl,hz⟩:=I.tuple hq;have hlen:=r'.length;exact len_tuple pl (by simp only[aK]<;>lia) ⟨.int ys.length,H,I.tok _,⟨s.toks+1,by rw[aK,hlen]⟩,q⟩
theorem zl.or{f:ae}{r r':List V->Hp->VK->Prop}(h:zl X f r)(h':zl X f r'):zl X f (λxs H Q=>r xs H Q\/r' xs H Q):=by
 intro pins s σ H xs us Q I rs q;rcases q with q|q
 ·exact h pins s σ H xs us Q I rs q
 ·exact h' pins s σ H xs us Q I rs q
theorem nY:zl X (.type "list") (λxs H Q=>∃p ys,xs=[.ref p]/\(SqL X.K H p ys\/SqT X.K H p ys)/\∀l,H l=none->Q (.ref l) (upd H l (.lst ys))):=by
 intro pins s σ H xs us Q I r h;obtain⟨p,ys,rfl,hq,q⟩:=h;obtain⟨u,rfl,rx⟩:=vals1 r;cases rx;have fin:∀(its:List ae),Vals ys its->ys.length<=aE->∀(h':Heap) (c':Nat),(∀b o',s.heap.get? b=some o'->h'.get? b=some o') ->
   h'.get? s.heap.objs.size=some {cls:=.type "list",dict:=none,data:=.seq its.toArray c',slots:=#[]}->EP X pins σ Q (.ref s.heap.objs.size) {s with heap:=h'}:=λits r' hz h' c' kp e=>
  ⟨.ref s.heap.objs.size,_,I.laid (t':=s.toks) kp (aB _) (show zH X.prog X.w _ h' _ (.lst ys)from ⟨hz,its,c',r',e⟩),rfl,q _ (I.hok.fresh (aB _))⟩
 rcases hq with hq|hq
 ·obtain⟨its,r',pl,hz⟩:=I.list hq;have hlen:=r'.length;obtain⟨o,ho,hc,n,hd⟩:=pl.isList;exact call_list_seq p (.inl rfl) ho hc hd (λh' c' kp e=>fin its r' hz h' c' kp e) (by simp only[aK]<;>lia)
 ·obtain⟨its,r',pl,hz⟩:=I.tuple hq;have hlen:=r'.length;obtain⟨o,ho,hc,n,hd⟩:=pl;exact call_list_seq p (.inr rfl) ho hc hd (λh' c' kp e=>fin its r' hz h' c' kp e) (by simp only[aK]<;>lia)
theorem yb:zl X (.type "tuple") (λxs H Q=>∃p ys,xs=[.ref p]/\((SqL X.K H p ys/\∀l,H l=none->Q (.ref l) (upd H l (.tup ys)))\/(SqT X.K H p ys/\Q (.ref p) H))):=by
 intro pins s σ H xs us Q I r h;obtain⟨p,ys,rfl,h⟩:=h;obtain⟨u,rfl,rx⟩:=vals1 r;cases rx;rcases h with ⟨hq,q⟩|⟨hq,q⟩
 ·obtain⟨its,r',pl,hz⟩:=I.list hq;have hlen:=r'.length;refine call_tuple_list pl.isList (λh' kp=>?_) (by simp only[aK]<;>lia);have I1:Inv X pins σ H {s with heap:=h'}:=I.kept (t':=s.toks) kp;have I2:Inv X pins σ (upd H h'.objs.size (.tup ys)) {s with heap:=h'.push {cls:=.type "tuple",data:=.seq its.toArray}}:=
   I1.laid (t':=s.toks) (λb o e=>Heap.get?_push_of_some _ e) (aB _) (show zH X.prog X.w _ _ _ (.tup ys)from ⟨hz,its,r',IsTup.new _ _⟩)
  exact⟨.ref h'.objs.size,_,I2,rfl,q _ (I1.hok.fresh (aB _))⟩
 ·obtain⟨its,r',pl,hz⟩:=I.tuple hq;exact call_tuple_same pl ⟨.ref p,H,I,rfl,q⟩
noncomputable def tyV(K:ao)(T:String)(x:V)(H:Hp):Prop:=match x with
 | .str _=>T = "str"
 | .int _=>T = "int"
 | .ref p=>(T = "list"/\∃xs,SqL K H p xs)\/(T = "tuple"/\∃o,K.lookup p=some o/\o.cls=.type "tuple"/\o.dict=none) \/
   (T = "dict"/\((∃kvs,H p=some (.dK kvs))\/∃kvs,H p=some (.dT kvs)))\/(T = "set"/\∃S n,H p=some (.set S n))
 |_=>False
theorem uw{pins:List (Addr×Obj)}{σ:St}{H:Hp}{s:af}{T:String}{x:V}{v:ae}(I:Inv X pins σ H s)(r:RelV x v)(ty:tyV X.K T x H) :
  s.TypeIs v T/\∀a,v=.ref a->∃ob,s.heap.get? a=some ob/\ob.dict=none:=by
 cases x with
 |str z=>
  obtain⟨t,rfl⟩:=r;cases (show T = "str" from ty);exact⟨typeIs_str s z t,λ_ e=>nomatch e⟩
 |int i=>
  obtain⟨t,rfl⟩:=r;cases (show T = "int" from ty);exact⟨typeIs_int s i t,λ_ e=>nomatch e⟩
 |ref p=>
  cases r;rcases ty with ⟨rfl,xs,hq⟩|⟨rfl,o,hk,hc,hd⟩|⟨rfl,hk⟩|⟨rfl,S,n,hk⟩
  ·obtain⟨its,_,pl,_⟩:=I.list hq;refine⟨pl.isList.typeIs,λa e=>?_⟩;cases e;obtain⟨o,n,e,c,hd,_⟩:=pl;exact⟨o,e,hd⟩
  ·refine⟨⟨o,I.kIn p o hk,hc⟩,λa e=>?_⟩;cases e;exact⟨o,I.kIn _ o hk,hd⟩
  ·have z:∃o,s.heap.get? p=some o/\o.ExactDict:=by
    rcases hk with ⟨kvs,hk⟩|⟨kvs,hk⟩
    ·obtain⟨_,_,_,_,o,_,_,e,ex,_⟩:=I.hok p _ hk;exact⟨o,e,ex⟩
    ·obtain⟨_,_,_,_,o,_,_,e,ex,_⟩:=I.hok p _ hk;exact⟨o,e,ex⟩
   obtain⟨o,e,ex⟩:=z;refine⟨⟨o,e,ex.1⟩,λa e2=>?_⟩;cases e2;exact⟨o,e,ex.2.1⟩
  ·obtain⟨o,_,_,_,e,ex,_⟩:=I.hok p _ hk;refine⟨⟨o,e,ex.1⟩,λa e2=>?_⟩;cases e2;exact⟨o,e,ex.2.1⟩
 |_=>exact aP ty
noncomputable def tBM(K:ao)(T:String)(r:V->List V->Hp->VK->Prop)(to:TE)(t:TA):TE:=λσ H Q=>to σ H λx H1=>tyV K T x H1/\t σ H1 λxs H2=>r x xs H2 Q
variable{o e:Expr}{es:List Expr}{to:TE}{t:TA}{name:Str}{apos cpos:Pos}{T id:String}{r:V->List V->Hp->VK->Prop}
theorem gv(pa:PlainAttrs T)(slot:Slot T name id)(hty:typeOf (.builtin id)=pure (.type "method_descriptor"))(hm:MtR X id r)(ho:PE X o to)(ha:PA X (e::es) t)
  (hbase:attributeBase o name X.env (eval o X.env)=eval o X.env:=by rfl)
  (hfew:((backTo cpos (aL (e::es) X.env)).all (λx=>!x.1)&&(backToKw cpos (keywordEach [] X.env)).all (λx=>x.1.isSome)
   && decide ((e::es).length+([]:List Keyword).length+(if ([]:List Keyword).isEmpty then 0 else 1)<30))=true:=by rfl)
  (hline:(apos.endLine==cpos.line)=true:=by rfl) (hs:aL (e::es) X.env=(false,eval e X.env)::aL es X.env:=by rfl) (hplain:(backTo cpos (aL es X.env)).any (·.1)=false:=by rfl) :
  PE X (.Call (.Attribute o name apos) (e::es) [] cpos) (tBM X.K T r to t):=by
 intro pins s σ H Q I h;refine wpAny_Call_method_late hbase hfew hline rfl (thn (ho pins s σ H _ I h) λv s1 ⟨x,H1,I1,r1,ty,q1⟩=>?_);obtain⟨h1,h2⟩:=uw I1 r1 ty;refine⟨T,id,pa,slot,hty,h1,h2,?_⟩;have hA:=ha cpos pins s1 σ H1 _ I1 q1;rw[hs]at hA ⊢;refine Calls.callWith_builtin (by show (false||(backTo cpos (aL es X.env)).any (·.1))=false;rw[hplain]<;>rfl) (Calls.evalArgs_plain ?_);exact thn hA λus s2 ⟨vs,H2,I2,r2,q2⟩=>hm pins s2 σ H2 x vs v us Q I2 r1 r2 q2
/- xs.append(e), list.index on a module's tuple .. are MtR facts of 06m -/
end
noncomputable def MtM(X:Cx)(id:String)(r:V->List V->Hp->VK->Prop):Prop:=
 ∀(pins:List (Addr×Obj)) (s:af) (σ:St) (H:Hp) (x:V) (xs:List V) (v:ae) (us:List ae) (Q:VK),Inv X pins σ H s->RelV x v->Vals xs us->r x xs H Q ->
  ah (ai X.prog X.w) X.A (call (.builtin id) (v::us)) (EP X pins σ Q) X.xe s
theorem Vals.one{x:V}{us:List ae}(h:Vals [x] us):∃u,us=[u]/\RelV x u:=by
 cases h with
 |cons r h=>cases h;exact⟨_,rfl,r⟩
theorem Vals.two{x y:V}{us:List ae}(h:Vals [x,y] us):∃u v,us=[u,v]/\RelV x u/\RelV y v:=by
 cases h with
 |cons r h=>cases h with
  |cons q h=>cases h;exact⟨_,_,rfl,r,q⟩
theorem Vals.zero:∀{us:List ae},Vals [] us->us=[]
 |_,.nil=>rfl
theorem Vals.eraseIdx:∀{xs:List V}{us:List ae} (i:Nat),Vals xs us->Vals (xs.eraseIdx i) (us.eraseIdx i)
 |_,_,_,.nil=>.nil
 |_,_,0,.cons _ t=>t
 |_,_,i+1,.cons r t=>.cons r (Vals.eraseIdx i t)
theorem pj{α:Type}:∀(l:List α) (i:Nat),(l.eraseIdx i).length<=l.length
 | [],_=>aB _
 |_::_,0=>Nat.le_succ _
 |_::r,i+1=>Nat.succ_le_succ (pj r i)
section
variable{X:Cx}{pins:List (Addr×Obj)}{σ:St}{H:Hp}{s:af}{l b:Addr}{xs ys zs:List V}
theorem Inv.lset{its its':List ae}{n:Nat}{f:Array ae->Array ae}{t':Nat}(I:Inv X pins σ H s)(hH:H l=some (.lst xs))
  (e:s.heap.get? l=some {cls:=.type "list",data:=.seq its.toArray n}) (hf:f its.toArray=its'.toArray) (hv:Vals ys its') (hz:ys.length<=aE) :
  Inv X pins σ (upd H l (.lst ys)) {s with heap:=s.heap.update l (bt f),toks:=t'}:=by
 have q:=PySem.IsL.update e f;rw[hf]at q;refine I.write (x:=l) (e:=l) (by rw[hH];exact trivial) (.inl rfl) (λb' u hb hu=>(Heap.get?_update_other s.heap (bt f) (Ne.symm hb)).trans hu) ⟨_,q⟩ ?_;exact⟨hz,its',_,hv,q⟩
theorem Inv.lnew{its:List ae}{t':Nat}(I:Inv X pins σ H s)(hv:Vals ys its)(hz:ys.length<=aE) :
  Inv X pins σ (upd H s.heap.objs.size (.lst ys)) {s with heap:=s.heap.push {cls:=.type "list",data:=.seq its.toArray},toks:=t'}:=
 I.laid (λ_ _ q=>Heap.get?_push_of_some _ q) (aB _) ⟨hz,its,0,hv,Heap.get?_push_size _ rfl⟩
theorem Inv.fresh(I:Inv X pins σ H s):H s.heap.objs.size=none:=I.hok.fresh (aB _)
theorem Inv.lstM(I:Inv X pins σ H s)(hH:H l=some (.lst xs)):xs.length<=aE/\∃(its:List ae) (n:Nat),Vals xs its/\xs.length=its.length/\s.heap.get? l=some {cls:=.type "list",data:=.seq its.toArray n}:=by
 obtain⟨z,its,n,r,e⟩:=I.hok l _ hH;exact⟨z,its,n,r,r.length,e⟩
theorem y9{n:Nat}(h:n<=aE):Builtin.List.listTooLong n=false:=by
 unfold Builtin.List.listTooLong;exact decide_eq_false (by lia)
end
section
variable{X:Cx}
noncomputable def yt:V->List V->Hp->VK->Prop:=λx vs H Q=>∃l xs y,x=.ref l/\vs=[y]/\H l=some (.lst xs)/\xs.length<aE/\Q .non (upd H l (.lst (xs++[y])))
theorem mE:MtM X "list.append" yt:=by
 intro pins s σ H x vs v us Q I rx rv h;obtain⟨l,xs,y,rfl,rfl,hH,hz,q⟩:=h;cases rx;obtain⟨u,rfl,ru⟩:=rv.one;obtain⟨z,its,n,r,hl,e⟩:=I.lstM hH;refine call_meets F.slot_list_append ⟨_,e,rfl⟩ F.entry_list_append (F.args_list_append_2 _ _) (PySem.list_append l its.toArray n u (by rw[aK];lia)) ⟨e,?_⟩;refine⟨.non,_,I.lset (its':=its++[u]) hH e (by simp) (r.append (.cons ru .nil)) ?_,rfl,q⟩;rw[br,List.length_singleton];lia
noncomputable def rj:V->List V->Hp->VK->Prop:=λx vs H Q=>∃l xs i k y,x=.ref l/\vs=[.int i]/\H l=some (.lst xs)/\-(2^63)<=i/\i<2^63/\seqIndex? i xs.length=some k/\xs[k]? = some y/\Q y (upd H l (.lst (xs.eraseIdx k)))
theorem x5:MtM X "list.pop" rj:=by
 intro pins s σ H x vs v us Q I rx rv h;obtain⟨l,xs,i,k,y,rfl,rfl,hH,h1,h2,hk,hy,q⟩:=h;cases rx;obtain⟨u,rfl,ru⟩:=rv.one;obtain⟨t,rfl⟩:=ru;obtain⟨z,its,n,r,hl,e⟩:=I.lstM hH;obtain⟨w,hw,rw'⟩:=r.get hy;refine call_meets F.slot_list_pop ⟨_,e,rfl⟩ F.entry_list_pop (F.args_list_pop_2 _ _)
  (MeetsSeq.list_pop_at l its.toArray n i t k w (fitsIndex_both h1 h2) (by rw[aK,<-hl];exact hk) (by rw[<-Array.getElem?_toList];exact hw) (by rw[aK];lia)) ⟨e,?_⟩
 refine⟨y,_,I.lset (its':=its.eraseIdx k) hH e ?_ (r.eraseIdx k) ?_,rw',q⟩
 ·show its.toArray.eraseIdxIfInBounds k=(its.eraseIdx k).toArray;rw[List.eraseIdxIfInBounds_toArray]
 ·have:=pj xs k;lia
end
section
variable{prog:aq}{w:ak}{A:au}{E:ae->af->Prop}{s:af}
set_option maxRecDepth 100000 in
end
section
variable{X:Cx}
end
end L2
namespace Att
open PySem PySem.W PySem.Calls PyProof.Rows
theorem Bw{P:Params}{h:Heap}:∀(ns:List Int) (vs:List ae),WellAll P h vs (ns.map WData.int)->a8 vs ns:=by
 intro ns
 induction ns with
 |nil=>
  intro vs w;rw[List.map_nil]at w;cases w;exact .nil
 |cons n ns ih=>
  intro vs w;rw[aR]at w;cases w with
  |cons a b=>
   cases a;exact .cons _ _ (ih _ b)
theorem CI{l:OpenLaw}{n:Nat}(hn:l.most=some n){P:Params}{h:Heap}{args:List WData}{vals:List ae}
  (hpre:l.row.toRowW.claim.pre args=true) (hwl:WellAll P h vals args) :
  ∃a vs ns,vals=[aS a]/\args=[WData.list (ns.map WData.int)]/\h.get? a=some {cls:=.type "list",data:=.seq vs.toArray}/\a8 vs ns/\ns.length<=n:=by
 have hsh:WShape.hasAll [] args [.list .int]=true:=(pre_splitW hpre).1;have hc:l.pre.holds [] {args:=args}=true:=(pre_splitW hpre).2;obtain⟨d,r,rfl,h1,h2⟩:=hasAllW_cons hsh;obtain rfl:=hasAllW_nil h2;obtain⟨xs,rfl,h3⟩:=hasW_list h1;obtain⟨ns,rfl⟩:=items_int h3;have hlen:ns.length<=n:=by
  unfold OpenLaw.pre at hc;have h4:(WTm.not (.lt (.lit (.int (n:Int))) (.len (.arg 0)))).holds [] {args:=[.list (ns.map .int)]}=true:=by
   have h4:=(holds_andW hc).1;rw[hn]at h4;exact h4
  have h5:=condW_of h4 (w_not (w_lt w_lit (w_len_list (w_arg rfl))));rw[aD]at h5;refine Nat.le_of_not_lt λq=>?_
  have q':(n:Int)<((ns.length:Nat):Int):=by lia
  first
   | (rw[decide_eq_true q']at h5;exact absurd h5 (by decide))
   | (simp at h5;lia)
 cases hwl with
 |cons w1 w2=>
  cases w2;cases w1 with
  |list ho hall=>exact⟨_,_,ns,rfl,rfl,ho,Bw ns _ hall,hlen⟩
theorem tq(l:OpenLaw)(args:List WData):l.row.toRowW.claim.post args (.bool true) args=true:=
 postW_of (r:=l.row.toRowW) (X:=(true==true))
  (show WShape.has [] (.bool true) .bool=true by first|rfl|decide|simp[WShape.has,WShape.arms,WShape.armsAll])
  (show (WTm.eq .res (.lit (.bool true))).value [] {args:=args,res:=some (.bool true),after:=args}=some (.bool (true==true))from w_eq_bool (w_res rfl) w_lit) rfl
theorem tK{l:OpenLaw}{n:Nat}{q:aq}{loose:List Str}{XP:(Str->Option ae)->Heap->Prop}{YP:ak->Heap->Prop}{d:DefRec}
  (hn:l.most=some n) (hdf:d.params.defaults=[])
  (call:∀(w:ak) (s₀ s₁:af) (mg mb:Str->Option ae) (fa:Addr) (o:Obj) (pm cd doc:ae) (a:Addr) (vs:List ae) (ns:List Int),
   Ground q loose [] XP w s₀ mg mb s₁.heap->YP w s₁.heap ->
   s₁.heap.get? fa=some o->o.data=.func (docDef d.name d.params d.body d.scope pm cd doc)->s₁.heap.CodeRec cd d.name->mg d.name=some (.ref fa) ->
   s₁.heap.get? a=some {cls:=.type "list",data:=.seq vs.toArray}->a8 vs ns->ns.length<=n->s₁.gens = #[] ->
   codeAny (ai l.prog w) callerA (.call (.ref fa) ⟨[.ref a],[]⟩) (λr s'=>r=.ok (.ret (.bool true))/\OldK s₁.heap s'.heap/\s'.os=s₁.os/\AllBare s'.gens) s₁) :
  WalkO q loose XP YP l.row.toRowW d [] (λf vs=>PySem.call f vs):=by
 intro w s₀ s₁ mg mb G Y fa o pm cd doc dV kV ho hd hcd hD hmg hg args vals as hpre hlay hrd hwl hlo;obtain rfl:dV=.none:=Dflts.none hD hdf;obtain rfl:kV=.none:=Dflts.noKw hD;obtain⟨a,vs,ns,rfl,rfl,hobj,hints,hlen⟩:=CI hn hpre hwl;refine enter_call (codeAny_mono (call w s₀ s₁ mg mb fa o pm cd doc a vs ns G Y ho (fd_plain hd) hcd hmg hobj hints hlen hg) λr s' hq=>?_);obtain⟨rfl,h2,h3,h4⟩:=hq;exact⟨.inl ⟨.bool true,.bool true,[],rfl,λ_=>rfl,.bool true,tq l _,λ_=>⟨List.Pairwise.nil,λ_ hm=>(nomatch hm)⟩⟩,h2,h3,h4⟩
section
variable{prog:aq}{w:ak}{A:au}{E:ae->af->Prop}{s:af}{K:Frag}
end
end Att
namespace L2
open PySem PySem.Spec PyProof.Rows
theorem pq:∀{vs:List ae}{ns:List Int},a8 vs ns->Vals (ns.map V.int) vs
 |_,_,.nil=>.nil
 |_,_,.cons n t h=>.cons ⟨t,rfl⟩ (pq h)
noncomputable def kx(H:Hp):Prop:=∀b,H b=none\/∃o xs,H b=some (.frz o (.lst xs))
theorem tM{P:aq}{w:ak}{K:ao}{mg mb:Str->Option ae}{CX:CXT}{k:Nat}{fa a:Addr}{fd:FuncData}{x:Str}{sp:Sp}{s₁:af}{vs:List ae}{ns:List Int}
  (KX:K.In s₁.heap) (hns:s₁.heap.Ns ar mg) (hb:s₁.heap.Ns builtinsNs mb) (hbb:∀x:Str,x≠"__name__"->mb x=bG x) (hlim:s₁.heap.NoLimit) (hg:s₁.gens = #[])
  (ha:s₁.heap.get? a=some {cls:=.type "list",data:=.seq vs.toArray}) (hi:a8 vs ns) (hl:ns.length<=aE) (hr:ck k callerA)
  (F:∀base:Heap,K.In base->base.Ns ar mg->eO P w K mg base CX k fa fd [x] sp) (hbind:∀(s:af) (u:ae),BindsTo s fd ⟨[u],[]⟩ [(x,u)])
  (hsp:∀H:Hp,kx H->SqL K H a (ns.map V.int)->sp [.ref a] H (λv _=>v=.bl true) λ_ _ _=>False)
  (hCX:∀H e s',CX [] H s₁ (λ_ _ _=>False) e s'->False) :
  codeAny (ai P w) callerA (.call (.ref fa) ⟨[.ref a],[]⟩) (λr s'=>r=.ok (.ret (.bool true))/\OldK s₁.heap s'.heap/\s'.os=s₁.os/\AllBare s'.gens) s₁:=by
 have rv:=pq hi;have lenV:=hi.length
 -- from an abstract heap in which nothing but the script may be tracked
 have core:∀H:Hp,kx H->SqL K H a (ns.map V.int)->HOk P w H s₁.heap->(∀b,H b≠none->b=a)->(H a≠none->K.lookup a=none) ->
   codeAny (ai P w) callerA (.call (.ref fa) ⟨[.ref a],[]⟩) (λr s'=>r=.ok (.ret (.bool true))/\OldK s₁.heap s'.heap/\s'.os=s₁.os/\AllBare s'.gens) s₁:=by
  intro H hO hS hok hA hK;have base_of:∀{b:Addr}{o:Obj},s₁.heap.get? b=some o->H b=none->(eu s₁.heap H).get? b=some o:=λe n=>yD e n
  have noA:∀{b:Addr}{o:Obj}{es:Array DictEntry}{ep:Nat},s₁.heap.get? b=some o->o.data=.dict es ep->H b=none:=λ{b o es ep} e d=>by
   cases q:H b with
   |none=>rfl
   |some u=>
    have e':b=a:=hA b (by rw[q];simp);subst e';rw[ha]at e;cases e;have d':Data.seq vs.toArray _=Data.dict es ep:=d;cases d'
  have nsK:∀{b:Addr}{m:Str->Option ae},s₁.heap.Ns b m->(eu s₁.heap H).Ns b m:=λ{b m} ⟨o,es,ep,e,d,r⟩=>⟨o,es,ep,base_of e (noA e d),d,r⟩
  have hKb:K.In (eu s₁.heap H):=λb o e=>base_of (KX b o e) (by
   cases q:H b with
   |none=>rfl
   |some u=>
    have e':b=a:=hA b (by rw[q];simp);subst e';rw[hK (by rw[q];simp)]at e;cases e)
  have hM:Mod K mg (eu s₁.heap H):=⟨hKb,nsK hns,⟨mb,nsK hb,hbb⟩,let ⟨mc,h1,h2⟩:=hlim;⟨mc,nsK h1,h2⟩⟩
  have e0:gx P w K mg (eu s₁.heap H) callerA [] s₁ H:=⟨rfl,hM,λb o e=>wX e,Nat.le_of_eq (yx _ _),trivial,λb hb=>absurd (show b∈([]:List Addr)from hb) (by simp),hok,.of_eq hg⟩
  refine codeAny_mono ((F _ hKb (nsK hns)).run callerA [] s₁ H ⟨[.ref a],[]⟩ [.ref a] [.ref a] _ _ hr e0 (hbind s₁ (.ref a)) (.cons rfl .nil) (hsp H hO hS)) λr s' h=>?_
  cases r with
  |error e=>exact(hCX H e s' h).elim
  |ok fl=>
   cases fl with
   |next=>exact aP h
   |brk=>exact aP h
   |cont=>exact aP h
   |ret u=>
    obtain⟨v,H',os,bare,un,hok',r',q⟩:=h;have q':v=.bl true:=q;subst q';obtain rfl:u=ae.bool true:=r';refine⟨rfl,OldK.of_keep λb o e=>?_,os,bare⟩;cases q:H b with
    |none=>exact un.keep b o e q (by intro z;exact absurd (show b∈([]:List Addr)from z) (by simp)) (by simp)
    |some u=>
     rcases hO b with z|⟨ob,xs,z⟩
     ·rw[q]at z;cases z
     ·have z2:=un.frzs b ob _ z;obtain⟨e1,_⟩:=hok b _ z;obtain⟨e2,_⟩:=hok' b _ z2;rw[e]at e1;cases e1;exact e2
 cases hk:K.lookup a with
 |some o=>
  -- the script is one of the module's own objects
  have e:=KX a o hk;rw[ha]at e;cases e;refine core (λ_=>none) (λ_=>.inl rfl) (.inr ⟨_,vs.toArray,_,hk,rfl,rfl,rfl,by rw[aK,lenV];exact hl,by simpa using rv⟩) (λb u z=>by have z':(none:Option HO)=some u:=z;cases z') (λb z=>absurd rfl z) λz=>absurd rfl z
 |none=>
  refine core (λb=>if b=a then some (.frz {cls:=.type "list",data:=.seq vs.toArray} (.lst (ns.map V.int)))else none) (λb=>?_) (.inl (.inr ⟨{cls:=.type "list",data:=.seq vs.toArray},if_pos rfl⟩)) (λb u z=>?_) (λb z=>?_) λ_=>hk
  ·by_cases hb:b=a
   ·exact .inr ⟨_,_,if_pos hb⟩
   ·exact .inl (if_neg hb)
  ·by_cases hb:b=a
   ·have z':=(if_pos hb).symm.trans z;cases z';subst hb;exact⟨ha,by rw[aD];exact hl,vs,_,rv,ha⟩
   ·have z':=(if_neg hb).symm.trans z;cases z'
  ·by_cases hb:b=a
   ·exact hb
   ·exact absurd (if_neg hb) z
theorem AN{l:PySem.W.OpenLaw}{n k:Nat}{q:aq}{loose:List Str}{XP:(Str->Option ae)->Heap->Prop}{YP:ak->Heap->Prop}{d:DefRec}{K:Params->ao}{CX:ak->CXT}{sp:ak->Sp}{x:Str}
  (hn:l.most=some n) (hn2:n<=aE) (hdf:d.params.defaults=[]) (hr:ck k callerA)
  (hY:∀(w:ak) (h:Heap),YP w h->(K w.params).In h)
  (F:∀(w:ak) (mg:Str->Option ae) (fa:Addr) (h:Heap),(K w.params).In h->h.Ns ar mg->mg d.name=some (.ref fa) ->
   ∃fd:FuncData,(∀(s:af) (u:ae),BindsTo s fd ⟨[u],[]⟩ [(x,u)]) /\
    ∀base:Heap,(K w.params).In base->base.Ns ar mg->eO l.prog w (K w.params) mg base (CX w) k fa fd [x] (sp w))
  (hsp:∀(w:ak) (H:Hp) (a:Addr) (ns:List Int),ns.length<=n->kx H->SqL (K w.params) H a (ns.map V.int)->sp w [.ref a] H (λv _=>v=.bl true) λ_ _ _=>False)
  (hCX:∀(w:ak) (H:Hp) (s:af) (e:ae) (s':af),CX w [] H s (λ_ _ _=>False) e s'->False) :
  PySem.W.WalkO q loose XP YP l.row.toRowW d [] (λf vs=>PySem.call f vs):=by
 refine Att.tK hn hdf λw s₀ s₁ mg mb fa o pm cd doc a vs ns G Y ho hd hcd hmg hobj hints hlen hg=>?_
 have KX:=hY w _ Y;obtain⟨fd,hb,hF⟩:=F w mg fa _ KX G.T.g hmg;exact tM KX G.T.g G.T.b G.T.builtins G.T.nolimit hg hobj hints (ba hlen hn2) hr hF hb (λH hO hS=>hsp w H a ns hlen hO hS) λH e s'=>hCX w H s₁ e s'
end L2
/- THE LAST THEOREM (shape; LID, My.* are yours):
   My.Adr: a structure of the addresses that your layer names (classes, functions); My.Txt K t: a structure (Prop) of the equations over K;
   My.txt_mk : {K} {implicit addresses ..} (e1 : nsIn K mainGlobals "law" = some (some (.ref f))) (e2 : K.lookup f = some ⟨oc, od, .func (fnOf "law" "law" params body scope dV kV doc pm an cdv ct), sl⟩) (e3 : codeIn K cdv "law" = true) .. : ∃ t, My.Txt K t
set_option maxRecDepth 100000 in
set_option maxHeartbeats 0 in
theorem PySem.Challenge.cw_LID_holds : PySem.Challenge.rw_LID.Holds := by
 w_on; o_law; k_head; (case hw => w_witness2)
 k_fill
 refine L2.walk_of (l := PySem.Challenge.rw_LID) (n := 63) (k := 40) (x := "script") (CX := fun w => ..) (sp := fun _ => My.sp_law) rfl (by decide) rfl ⟨rfl, by decide, by decide⟩ (fun w h Y => PySem.W.kIn_of Y) ?F ?S ?C
 case F =>
  intro w mg fa h KX G hmg;have T : ∃ t, My.Txt (L2.KOf KX) t := by
   dsimp only [L2.KOf]                          -- K must stand as «<heap const> w.params» for k_is
   refine' My.txt_mk ?e1 ?e2 ?e3 ..
   (case e1 => PySem.W.k_is)                    -- in the order: a name -> its address -> its object -> its parts
   (case e2 => PySem.W.k_is)
   ..
  obtain ⟨t, T⟩ := T;have e0 := hmg.symm.trans (PySem.W.mg_of KX G T.law);cases e0                                       -- fa is the law's own address
  exact ⟨_, fun s u => .of_eq rfl, fun base kb nb => My.law_fn T kb nb⟩     -- if «.of_eq rfl» comes too early: refine' ⟨_, ?b, fun base kb nb => My.law_fn T kb nb⟩; exact fun s u => .of_eq rfl
 case S => exact fun w H a ns hl hO hS => ..
 case C => exact ..
(the tactic k_is has no namespace: write k_is) -/
namespace L2
open PySem PySem.Spec PyProof.Rows
noncomputable def zv(s:Stmt):Arguments:=match s with
 | .FunctionDef _ a _ _ _ _ _ _ _ _=>a
 |_=>{posonlyargs:=[],args:=[],vararg:=none,kwonlyargs:=[],kw_defaults:=[],kwarg:=none,defaults:=[]}
noncomputable def dB(s:Stmt):List Stmt:=match s with
 | .FunctionDef _ _ b _ _ _ _ _ _ _=>b
 |_=>[]
noncomputable def zr(s:Stmt):Scope:=match s with
 | .FunctionDef _ _ _ _ _ _ sc _ _ _=>sc
 |_=>{kind:=.function,names:=[],isGenerator:=false,isCoroutine:=false}
abbrev E0:XK:=λ_ _ _=>False
structure Fun(K:ao)(x qual:Str)(st:Stmt)(f:Addr)(fd:FuncData):Prop where
 ex:∃(oc:ae) (od:Option Addr) (kV doc pm:ae) (an:Option Addr) (cdv ct:ae) (osl:Array (Option ae)),
  fd=cj x qual (zv st) (dB st) (zr st) .none kV doc pm an cdv ct/\K.lookup f=some ⟨oc,od,.func fd,osl⟩/\PySem.W.codeIn K cdv qual=true
 kp:cA K (.ref f)=true
section
variable{P:aq}{w:ak}{K:ao}{mg:Str->Option ae}{base:Heap}
theorem Fun.binds{x qual:Str}{st:Stmt}{f:Addr}{fd:FuncData}{ps:List Str}(F:Fun K x qual st f fd)
  (h:∀(kV doc pm:ae) (an:Option Addr) (cdv ct:ae) (us:List ae),us.length=ps.length->bindArgs (cj x qual (zv st) (dB st) (zr st) .none kV doc pm an cdv ct) ⟨us,[]⟩=pure (ps.zip us)):Binds K fd ps []:=by
 obtain⟨oc,od,kV,doc,pm,an,cdv,ct,osl,rfl,lk,hcd⟩:=F.ex;exact .all (h kV doc pm an cdv ct)
theorem nc{x qual:Str}{st:Stmt}{f:Addr}{oc:ae}{od an:Option Addr}{osl:Array (Option ae)}{kV doc pm cdv ct:ae}(l:K.lookup f=some ⟨oc,od,.func (cj x qual (zv st) (dB st) (zr st) .none kV doc pm an cdv ct),osl⟩)
  (c:PySem.W.codeIn K cdv qual=true) (k:cA K (.ref f)=true):Fun K x qual st f (cj x qual (zv st) (dB st) (zr st) .none kV doc pm an cdv ct):=⟨⟨oc,od,kV,doc,pm,an,cdv,ct,osl,rfl,l,c⟩,k⟩
end
section
variable{X:Cx}
end
noncomputable def qe(H H':Hp):Prop:=∀b o,H b=some o->H' b=some o
theorem qe.refl(H:Hp):qe H H:=λ_ _ h=>h
theorem qe.trans{H H1 H2:Hp}(a:qe H H1)(b:qe H1 H2):qe H H2:=λc o h=>b c o (a c o h)
theorem qe.free{H H':Hp}(e:qe H H'){l:Addr}(h:H' l=Option.none):H l=Option.none:=by
 cases q:H l with
 |none=>rfl
 |some o=>
  rw[e l o q]at h;cases h
theorem qe.seq{K:ao}{H H':Hp}{a:Addr}{xs:List V}(e:qe H H')(h:SqL K H a xs):SqL K H' a xs:=by
 rcases h with (h|⟨o,h⟩)|h
 ·exact .inl (.inl (e _ _ h))
 ·exact .inl (.inr ⟨o,e _ _ h⟩)
 ·exact .inr h
noncomputable def eC(elt:Expr)(gens:List b6)(scope:aO)(pos:Pos)(d:Nat)(acc:ae)(env:Env):Sem Unit:=
 match gens[d+1]? with
 |some g'=>do
  let x <-eval g'.iter env
  standAt g'.iter.pos
  let x <-foldedSetIterable g'.iter env x
  let _ <-runOwn (.compStart (.ListComp elt gens scope pos) (d+1) (<-holding [x] (pyIter x)) acc env) env
  pure ()
 |none=>do
  let _ <-call (.builtin "list.append") [acc,<-eval elt env]
  pure ()
theorem By{elt:Expr}{gens:List b6}{scope:aO}{pos:Pos}{d:Nat}{g:b6}{it acc:ae}{env:Env}(hg:gens[d]? = some g)(ha:g.is_async=0)
  (hn:∀g',gens[d+1]? = some g'->g'.is_async=0) :
  compTurn (.ListComp elt gens scope pos) d it acc env=(do
   standAt g.iter.pos
   match <-pyNext it with
   |none=>pure (.done .next)
   |some v=>
    letOwnedTupleGo g.target it v
    assign g.target env v
    let ok <-(forIn g.ifs true λc r=>if r=true then do let ok <-isTrue c env (eval c env);pure (cX ok)else pure (cX r))
    if ok then
     eC elt gens scope pos d acc env
     again (.compLoop (.ListComp elt gens scope pos) d it acc env)
    else again (.compLoop (.ListComp elt gens scope pos) d it acc env)):=by
 unfold compTurn;cases e:gens[d+1]? with
 |none=>
  simp only[hg,ha,e,eC]
  rfl
 |some g'=>
  have ha':=hn g' e;simp only[hg,ha,e,ha',eC];simp only[bne_self_eq_false,bM,if_false,bind_assoc,pure_bind]
  rfl
theorem wo{prog:aq}{w:ak}{A:au}{R:Result->af->Prop}{s:af}{elt:Expr}{gens:List b6}{scope:aO}{pos:Pos}{d:Nat}{g:b6}{it acc:ae}{env:Env}
  (hg:gens[d]? = some g) (ha:g.is_async=0)
  (h0:codeAny (ai prog w) A (.compLoop (.ListComp elt gens scope pos) d it acc env) R s)
  (h:ah (ai prog w) A (pyIter it) (λit' s'=>codeAny (ai prog w) A (.compLoop (.ListComp elt gens scope pos) d it' acc env) R s')
   (notedBy (ai prog w) A env λx s'=>R (.error x) s') s) :
  codeAny (ai prog w) A (.compStart (.ListComp elt gens scope pos) d it acc env) R s:=by
 refine codeAny_of_tree ?_;show ah _ _ ((compStart (.ListComp elt gens scope pos) d it acc env).onRaise (λx=>do noteFrame x env;standAt theWindowsPlace)) _ _ s;refine wpAny_notedAt ?_;unfold compStart;have e2:(clausesOf (.ListComp elt gens scope pos))[d]? = some g:=hg;simp only[e2];rw[if_neg (by show ¬ (g.is_async != 0)=true;simp[ha])];show ah _ _ (ask>>=_) _ _ s;refine ag (wpAny_askSetting (wpAny_ite ?_));split
 ·first
   |exact ag (av (av (aj rfl h0)))
   |exact av (aj rfl h0)
 ·first
   |exact ag (wpAny_rule (ag (wpAny_standAt (ag (wpAny_mono h (λit' s' h'=>av (aj rfl h')) λ_ _ x=>x)))))
   | (refine ag (wpAny_rule ?_);show ah _ _ (standAt g.iter.pos>>=_) _ _ s;exact ag (wpAny_standAt (ag (wpAny_mono h (λit' s' h'=>av (aj rfl h')) λ_ _ x=>x))))
noncomputable def PTs(Y:Cx)(ifs:List Expr)(t:TT):Prop:=
 ∀(pins:List (Addr×Obj)) (s:af) (σ:St) (H:Hp) (Q:Bool->Hp->Prop),Inv Y pins σ H s->t σ H Q ->
  ah (ai Y.prog Y.w) Y.A (forIn ifs true λc r=>if r=true then do let ok <-isTrue c Y.env (eval c Y.env);pure (cX ok)else pure (cX r)) (TP Y pins σ Q) Y.xe s
noncomputable def vq:TT:=λ_ H Q=>Q true H
theorem sC{Y:Cx}:PTs Y [] vq:=λ_ _ _ H _ I h=>wpAny_tests_nil ⟨H,I,h⟩
theorem vF{Y:Cx}{c:Expr}{t:TT}(hc:PT Y c t):PTs Y [c] t:=λpins s σ H Q I h=>wpAny_tests_one (hc pins s σ H Q I h)
noncomputable def PB(Y:Cx)(m:Sem Unit)(t:TS):Prop:=
 ∀(pins:List (Addr×Obj)) (s:af) (σ:St) (H:Hp) (D:Ends),Inv Y pins σ H s->t D σ H ->
  ah (ai Y.prog Y.w) Y.A m (λ_ s'=>∃σ' H',Inv Y pins σ' H' s'/\D.nx σ' H') Y.xe s
section
variable{Y:Cx}{elt:Expr}{gens:List b6}{scope:aO}{pos:Pos}{d:Nat}
noncomputable def iE(acc:Addr)(te:TE):TS:=λD σ H=>te σ H λy H1=>∃xs,H1 acc=some (.lst xs)/\xs.length<aE/\D.nx σ (upd H1 acc (.lst (xs++[y])))
theorem mZ{acc:Addr}{te:TE}(hn:gens[d+1]? = none)(he:PE Y elt te):PB Y (eC elt gens scope pos d (.ref acc) Y.env) (iE acc te):=by
 intro pins s σ H D I h;unfold eC;rw[hn];refine ag (thn (he pins s σ H _ I h) λu s1 ⟨y,H1,I1,r1,xs,hx,hz,q⟩=>?_);refine ag (thn (mE pins s1 σ H1 (.ref acc) [y] (.ref acc) [u] (λ_ H'=>D.nx σ H') I1 rfl (.cons r1 .nil) ⟨acc,xs,y,rfl,rfl,hx,hz,q⟩) λ_ s2 ⟨_,H2,I2,_,q2⟩=>?_);exact av ⟨σ,H2,I2,q2⟩
theorem xt{g:b6}{it:Addr}{acc:ae}{fp:List Addr}{tn:Nat->Heap->Prop}{J:It}{tg:TG}{tt:TT}{tb:TS}(hc:Y.calm=true)(hx:∀e s,¬ Y.xe e s)(hg:gens[d]? = some g)(ha:g.is_async=0)
  (hn:∀g',gens[d+1]? = some g'->g'.is_async=0) (T:Turn Y.prog Y.w Y.K g.target J fp it tn) (pg:PG Y g.target tg) (pt:PTs Y g.ifs tt) (pb:PB Y (eC elt gens scope pos d acc Y.env) tb)
  {pins:List (Addr×Obj)}{s:af}{σ:St}{H:Hp}{D:Ends} (I:Inv Y pins σ H s) (st:tn 0 s.heap) (fr:∀b∈fp,de Y pins H b)
  (h:∃W:Nat->Nat->St->Hp->Prop,(∃m,W 0 m σ H)/\∀i m σ H,W i m σ H ->
   (J.stop i H/\D.nx σ H)\/(J.go i H/\∃N:St->Hp->Prop,(∀σ' H',N σ' H'->∃m',m'<m/\W (i+1) m' σ' H')/\∀x H',J.yld i H x H'->tg x σ H' λσ2 H2=>je tt tb gA {D with nx:=N,ct:=N,bk:=D.nx} σ2 H2)) :
  codeAny (ai Y.prog Y.w) Y.A (.compLoop (.ListComp elt gens scope pos) d (.ref it) acc Y.env) (λr s'=>r=.ok .next/\∃σ' H',Inv Y pins σ' H' s'/\D.nx σ' H') s:=by
 obtain⟨W,⟨m0,w0⟩,turn⟩:=h;have stat:∀{H':Hp},(∀b∈fp,H' b=none)->∀b∈fp,de Y pins H' b:=λhn b hb=>⟨hn b hb,(fr b hb).2⟩
 refine codeAny_loop rfl (λn s'=>∃i σ' H',Inv Y pins σ' H' s'/\tn i s'.heap/\(∀b∈fp,H' b=none)/\W i n σ' H') ?_ m0 ⟨0,σ,H,I,st,λb hb=>(fr b hb).1,w0⟩;rintro n s3 ⟨i,σ3,H3,I3,st3,fr3,w3⟩;show ah _ Y.A ((compTurn (.ListComp elt gens scope pos) d (.ref it) acc Y.env).onRaise (λx=>do noteFrame x Y.env;theTreesLotGoes x)) _ _ s3;refine wpAny_noted ?_;rw[By hg ha hn];have nox:∀{E:ae->af->Prop} (e:ae) (s:af),Y.xe e s->E e s:=λe s z=>absurd z (hx e s)
 refine ag (wpAny_standAt ?_);rcases turn i n σ3 H3 w3 with ⟨stop,qn⟩|⟨go,N,hN,step⟩
 ·refine ag (thn (T.done Y rfl rfl rfl hc i pins s3 σ3 H3 _ I3 (stat fr3) st3 stop) λr s4 ⟨hr,I4⟩=>?_);subst hr;exact av ⟨rfl,σ3,H3,I4,qn⟩
 ·refine ag (thn (T.item Y rfl rfl rfl hc i pins s3 σ3 H3 _ I3 (stat fr3) st3 go) λr s4 ⟨u,hr,h4⟩=>?_);subst hr;refine ag (thn h4 λ_ s5 ⟨x,H5,I5,r5,y5,st5,fr5⟩=>?_);have I5':=I5.pinned (stat fr5) (T.obj _ _ st5);refine ag (wpAny_mono (pg _ s5 σ3 H5 x u _ I5' r5 (step x H5 y5)) (λ_ s6 ⟨σ6,H6,I6,q6⟩=>?_) nox);have again:∀{s7:af}{σ7:St}{H7:Hp},Inv Y (pins++gF fp s5.heap) σ7 H7 s7->N σ7 H7->∃m,m<n/\∃i σ' H',Inv Y pins σ' H' s7/\tn i s7.heap/\(∀b∈fp,H' b=none)/\W i m σ' H':=λ{s7 σ7 H7} I7 n7=>by
   obtain⟨m',hm,w7⟩:=hN σ7 H7 n7;refine⟨m',hm,i+1,σ7,H7,I7.unpinned,T.keep _ _ _ st5 λb hb o e=>(I7.pin (b,o) (cc _ (cc _ (jd hb e)))).1,λb hb=>?_,w7⟩;obtain⟨o,e,d⟩:=T.obj _ _ st5 b hb;exact(I7.pin (b,o) (cc _ (cc _ (jd hb e)))).2.1
  refine ag (wpAny_mono (pt _ s6 σ6 H6 _ I6 q6) (λb s7 ⟨H7,I7,q7⟩=>?_) nox);cases b with
  |true=>
   rw[if_pos rfl];rw[if_pos rfl]at q7;refine ag (wpAny_mono (pb _ s7 σ6 H7 _ I7 q7) (λ_ s8 ⟨σ8,H8,I8,q8⟩=>?_) nox);exact av ⟨rfl,again I8 q8⟩
  |false=>
   rw[if_neg bK];rw[if_neg bK]at q7;exact av ⟨rfl,again I7 q7⟩
end
theorem kQ{env:Env}:∀{names:List (Str×aM)}{cs:List (Str×Addr)},(∀x∈names,x.2=.free->∃c,env.cells.lookup x.1=some c) ->
  ∃cl,(forIn names cs (λ(x:Str×aM) (cs:List (Str×Addr))=>if (x.2==bO)=true then do let c <-cellOf env x.1;pure (cX ((x.1,c)::cs))else pure (cX cs)):Sem (List (Str×Addr)))=pure cl /\
   (∀x c,cl.lookup x=some c->env.cells.lookup x=some c\/cs.lookup x=some c)/\(∀x,(∃c,cs.lookup x=some c)->∃c,cl.lookup x=some c)/\∀x∈names,x.2=.free->∃c,cl.lookup x.1=some c
 | [],cs,_=>⟨cs,by rw[List.forIn_nil],λ_ _ h=>.inr h,λ_ h=>h,λ_ h=>nomatch h⟩
 | (n,k)::r,cs,h=>by
  rw[List.forIn_cons];by_cases hk:k=.free
  ·subst hk;obtain⟨c,hc⟩:=h (n,.free) aH rfl;have e:cellOf env n=pure c:=by
    have hc':env.cells.lookup n=some c:=hc;unfold cellOf;rw[hc']
   obtain⟨cl,e1,e2,e3,e4⟩:=kQ (names:=r) (cs:=(n,c)::cs) λx hx=>h x (aI _ hx)
   refine⟨cl,?_,λx c' q=>?_,λx q=>e3 x ?_,λx hx hf=>?_⟩
   ·simp only[beq_self_eq_true,if_true,e,pure_bind];exact e1
   ·rcases e2 x c' q with z|z
    ·exact .inl z
    ·rw[bf]at z;by_cases hxn:(x==n)=true
     ·rw[hxn]at z;have:x=n:=by simpa using hxn
      subst this;cases z;exact .inl hc
     ·have hxn':(x==n)=false:=by simpa using hxn
      rw[hxn']at z;exact .inr z
   ·rw[bf];by_cases hxn:(x==n)=true
    ·rw[hxn];exact⟨c,rfl⟩
    ·have hxn':(x==n)=false:=by simpa using hxn
     rw[hxn'];exact q
   ·rcases aF.mp hx with z|z
    ·subst z;exact e3 n ⟨c,by rw[bf,beq_self_eq_true]⟩
    ·exact e4 x z hf
  ·have hk':(k==bO)=false:=by simpa using hk
   obtain⟨cl,e1,e2,e3,e4⟩:=kQ (names:=r) (cs:=cs) λx hx=>h x (aI _ hx)
   refine⟨cl,?_,e2,e3,λx hx hf=>?_⟩
   ·simp only[hk',bM,if_false,pure_bind];exact e1
   ·rcases aF.mp hx with z|z
    ·subst z;exact absurd hf hk
    ·exact e4 x z hf
theorem o_{env:Env}{scope:aO}(h:∀x∈scope.names,x.2=.free->∃c,env.cells.lookup x.1=some c) :
  ∃cl,closureFor scope env=pure cl/\(∀x c,cl.lookup x=some c->env.cells.lookup x=some c)/\∀x∈scope.names,x.2=.free->∃c,cl.lookup x.1=some c:=by
 obtain⟨cl,e1,e2,_,e4⟩:=kQ (env:=env) (names:=scope.names) (cs:=[]) h;refine⟨cl,?_,λx c q=>(e2 x c q).elim (λz=>z) (λz=>by simp at z),e4⟩;have e:closureFor scope env=(forIn scope.names [] (λ(x:Str×aM) (cs:List (Str×Addr))=>if (x.2==bO)=true then do let c <-cellOf env x.1;pure (cX ((x.1,c)::cs))else pure (cX cs))>>=λcs=>pure cs):=rfl;rw[e,e1,pure_bind]
theorem iD{env:Env}:∀{names:List (Str×aM)}{x:Str}{k:aM},
  (names.map λ(n,k)=>if (k==bO&&env.scope.kind==.function&&env.kindOf n==some .cell)then (n,aM.cell)else (n,k)).lookup x=some k ->
  names.lookup x=some k\/(k=.cell/\names.lookup x=some .free)
 | [],_,_,h=>by simp at h
 | (n,k')::r,x,k,h=>by
  have ih:=@iD env r x k;have h':List.lookup x ((if (k'==bO&&env.scope.kind==.function&&env.kindOf n==some .cell)=true then (n,aM.cell)else (n,k'))::r.map (λ(n,k)=>if (k==bO&&env.scope.kind==.function&&env.kindOf n==some .cell)then (n,aM.cell)else (n,k)))=some k:=h;cases hx:x==n with
  |true=>
   by_cases hc:(k'==bO&&env.scope.kind==.function&&env.kindOf n==some .cell)=true
   ·rw[if_pos hc]at h';simp only[bf,hx]at h';cases h';have:k'=.free:=by
     have z:(k'==bO)=true:=by
      cases q:(k'==bO)with
      |true=>rfl
      |false=>rw[q]at hc;simp at hc
     simpa using z
    subst this;exact .inr ⟨rfl,by simp[bf,hx]⟩
   ·rw[if_neg hc]at h';simp only[bf,hx]at h';cases h';exact .inl (by simp[bf,hx])
  |false=>
   have h2:(r.map (λ(n,k)=>if (k==bO&&env.scope.kind==.function&&env.kindOf n==some .cell)then (n,aM.cell)else (n,k))).lookup x=some k:=by
    by_cases hc:(k'==bO&&env.scope.kind==.function&&env.kindOf n==some .cell)=true
    ·rw[if_pos hc]at h';simpa only[bf,hx]using h'
    ·rw[if_neg hc]at h';simpa only[bf,hx]using h'
   rcases ih h2 with z|z
   ·exact .inl (by simpa only[bf,hx]using z)
   ·exact .inr ⟨z.1,by simpa only[bf,hx]using z.2⟩
noncomputable def fL(names:List (Str×aM)):List Str:=(names.filter λy=>y.2==.cell).map (·.1)
theorem kG:∀(names:List (Str×aM)) (n:Nat) (a b:List (Str×Addr)),aX n names (a++b)=aX n names a++b
 | [],_,_,_=>rfl
 | (x,k)::r,n,a,b=>by
  unfold aX;split
  ·exact kG r (n+1) ((x,n)::a) b
  ·exact kG r n a b
theorem jX{x:Str}{c:Addr}:∀{names:List (Str×aM)}{n:Nat}{a:List (Str×Addr)},(x,c)∈aX n names a->(x,c)∈a\/(x,aM.cell)∈names
 | [],_,_,h=>.inl h
 | (y,k)::r,n,a,h=>by
  unfold aX at h;split at h
  ·rename_i hk
   rcases jX h with z|z
   ·rcases aF.mp z with q|q
    ·have hk:k=.cell:=by simpa using hk
     cases q;exact .inr (by rw[hk];exact aH)
    ·exact .inl q
   ·exact .inr (aI _ z)
  ·rcases jX h with z|z
   ·exact .inl z
   ·exact .inr (aI _ z)
theorem vN{M:Model}{A:au}{E:ae->af->Prop}{s:af}{scope:aO}{globals:Addr}{cl:List (Str×Addr)}{qual:Str}{env:Env}{Q:Env->af->Prop}
  (hQ:∀h₁,h₁.Ns s.heap.objs.size (λ_=>none)->(∀b o,s.heap.get? b=some o->h₁.get? b=some o)->CellsOk h₁ (s.heap.objs.size+1) (aX (s.heap.objs.size+1) scope.names []) ->
   Q (newEnv scope s.heap.objs.size globals (aX (s.heap.objs.size+1) scope.names []++cl) qual none .none (some env) builtinsNs) {s with heap:=h₁}) :
  ah M A (newFunctionEnv scope globals cl [] qual none .none (some env)) Q E s:=by
 simp only[newFunctionEnv,Option.isSome_some,if_true];refine ag (wpAny_alloc ?_);refine ag (wpAny_layCells _ (λname kind cells=>by cases hkc:kind==aM.cell<;>simp[hkc]) _ _ _ _ ?_);have ok:=cellsFrom_ok scope.names (s.heap.push {cls:=.type "dict",data:=.dict #[]}) (s.heap.objs.size+1) [] ⟨λ_ _ hm=>(nomatch hm),List.Pairwise.nil⟩ (by rw[b5];exact aB _);rw[b5]at ok;rw[show ({s with heap:=s.heap.push {cls:=.type "dict",data:=.dict #[]}}:af).heap.objs.size=s.heap.objs.size+1 from b5 ..];rw[show cl=[]++cl from rfl,kG];rw[List.forIn_nil];exact ag (av (av (hQ _ ((Heap.Ns.new s.heap (.type "dict")).keeps (pushCells_keeps _ _)) (λb o e=>pushCells_keeps _ _ b o (Heap.get?_push_of_some _ e)) ok)))
noncomputable def zC(X:Cx)(NY:List Str)(scope:aO)(cl:List (Str×Addr))(C:Addr)(s₀:af)(H₀:Hp)(fp:List Addr):Cx where
 prog:=X.prog
 w:=X.w
 K:=X.K
 mg:=X.mg
 base:=X.base
 A:=X.A
 N:=NY
 s₀:=s₀
 H₀:=H₀
 env:=compEnvC scope (aX (C+1) scope.names []++cl) C X.env
 outer:=X.stack
 stack:=X.stack
 ex:=fp
 fn:=λx=>(fL scope.names).contains x
 calm:=X.calm
 pn:=[]
 xe:=λ_ _=>False
noncomputable def caps(cap:List (Option Nat))(σ:St):St:=cap.map λo=>o.bind λj=>(σ[j]?).join
noncomputable def pJ(X:Cx)(NY:List Str)(cap:List (Option Nat))(scope:aO):Prop:=
 cap.length=NY.length/\∀(i j:Nat),cap[i]? = some (some j)->∃x,NY[i]? = some x/\X.N[j]? = some x/\scope.names.lookup x=some .free/\(X.env.kindOf x=some .cell\/X.env.kindOf x=some .free)
structure cM(X:Cx)(NY:List Str)(cap:List (Option Nat))(scope:aO):Prop where
 kind:scope.kind=.function
 cells:∀y∈scope.names,y.2=.cell->scope.names.lookup y.1=some .cell
 names:∀y∈scope.names,y.2=.local->scope.names.lookup y.1=some .local
 free:∀y∈scope.names,y.2=.free->X.env.kindOf y.1=some .cell\/X.env.kindOf y.1=some .free
 cap:pJ X NY cap scope
theorem xk{cap:List (Option Nat)}{σ:St}{i:Nat}{v:V}(h:(caps cap σ)[i]? = some (some v)):∃j,cap[i]? = some (some j)/\σ[j]? = some (some v):=by
 unfold caps at h;rw[List.getElem?_map]at h;cases e:cap[i]? with
 |none=>rw[e]at h;simp at h
 |some o=>
  rw[e]at h;cases o with
  |none=>simp at h
  |some j=>
   refine⟨j,rfl,?_⟩;have h':(σ[j]?).join=some v:=by simpa using h
   cases q:σ[j]? with
   |none=>rw[q]at h';cases h'
   |some z=>rw[q]at h';exact congrArg some h'
theorem rl{X:Cx}{pins:List (Addr×Obj)}{σ:St}{H:Hp}{s:af}{NY:List Str}{cap:List (Option Nat)}{scope:aO}{cl:List (Str×Addr)}{fp:List Addr}{h₁:Heap}{m:Str->Option ae}
  (I:Inv X pins σ H s) (S:cM X NY cap scope) (hsub:∀x c,cl.lookup x=some c->X.env.cells.lookup x=some c) (hall:∀x∈scope.names,x.2=.free->∃c,cl.lookup x.1=some c)
  (hf:∀b∈fp,de X pins H b) (hlt:∀b∈fp,b<s.heap.objs.size) (hn:h₁.Ns s.heap.objs.size m) (hk:∀b o,s.heap.get? b=some o->h₁.get? b=some o) (hcs:CellsOk h₁ (s.heap.objs.size+1) (aX (s.heap.objs.size+1) scope.names [])) {tk:Nat} :
  Inv (zC X NY scope cl s.heap.objs.size s H fp) [] (caps cap σ) H {s with heap:=h₁,toks:=tk}:=by
 have relx:∀x,(compEnvC scope (aX (s.heap.objs.size+1) scope.names []++cl) s.heap.objs.size X.env).kindOf x=some .cell\/(compEnvC scope (aX (s.heap.objs.size+1) scope.names []++cl) s.heap.objs.size X.env).kindOf x=some .free->scope.names.lookup x=some .free\/scope.names.lookup x=some .cell:=λx hx=>by
  rcases hx with q|q
  ·rcases iD (env:=X.env) (names:=scope.names) (x:=x) (k:=.cell) q with z|z
   ·exact .inr z
   ·exact .inl z.2
  ·rcases iD (env:=X.env) (names:=scope.names) (x:=x) (k:=.free) q with z|z
   ·exact .inl z
   ·exact .inl z.2
 have cnew:∀x c,cl.lookup x=some c->c<s.heap.objs.size:=λx c e=>by
  obtain⟨v,q⟩:=I.cell x c (hsub x c e);exact q.lt
 -- a cell is one of its own, or one from around
 have two:∀x c,(aX (s.heap.objs.size+1) scope.names []++cl).lookup x=some c->(x,c)∈aX (s.heap.objs.size+1) scope.names []\/cl.lookup x=some c:=λx c e=>by
  rw[List.lookup_append]at e;cases q:(aX (s.heap.objs.size+1) scope.names []).lookup x with
  |none=>rw[q]at e;exact .inr e
  |some c'=>rw[q]at e;cases e;exact .inl (cf q)
 have own1:∀x c,(x,c)∈aX (s.heap.objs.size+1) scope.names []->scope.names.lookup x=some .cell:=λx c e=>by
  rcases jX e with z|z
  ·cases z
  ·exact S.cells _ z rfl
 have ownA:∀x c,(x,c)∈aX (s.heap.objs.size+1) scope.names []->s.heap.objs.size<c:=λx c e=>(hcs.empty x c e).2
 have frl:∀x c,scope.names.lookup x=some .free->cl.lookup x=some c->(aX (s.heap.objs.size+1) scope.names []++cl).lookup x=some c:=λx c e1 e2=>by
  rw[List.lookup_append];cases q:(aX (s.heap.objs.size+1) scope.names []).lookup x with
  |none=>rw[e2];rfl
  |some c'=>have:=own1 x c' (cf q);rw[e1]at this;cases this
 refine⟨⟨I.ok.mod,S.kind,I.ok.glob,I.ok.blt,aB _,λx y c e1 e2=>?_,λx hx=>?_,λx c e e2=>?_,I.ok.hd,I.ok.frames,.inl rfl,λb hb=>?_,λb o e=>I.bs b o e,ba I.ok.bsz I.sz,λb o e hb=>?_,λb hb z=>?_,I.stack,I.stkFree⟩,
  rfl,I.bare,Un.kept hk,⟨m,hn,λi x v e1 e2 e3=>?_⟩,λx c e=>?_,I.hok.fresh (aB _),λx c e=>?_,λp hp=>absurd (show p∈([]:List (Addr×Obj))from hp) (by simp),I.hok.kept hk,?_⟩
 ·rcases two x c e1 with z1|z1<;>rcases two y c e2 with z2|z2
  ·exact name_of_addr hcs.apart z1 z2
  ·exact absurd (Nat.lt_trans (cnew y c z2) (ownA x c z1)) (bx _)
  ·exact absurd (Nat.lt_trans (cnew x c z1) (ownA y c z2)) (bx _)
  ·exact I.ok.inj x y c (hsub x c z1) (hsub y c z2)
 ·rcases relx x hx with z|z
  ·obtain⟨c,hc⟩:=hall (x,.free) (cf z) rfl;exact⟨c,frl x c z hc⟩
  ·obtain⟨c,hc⟩:=iJ (n:=s.heap.objs.size+1) z;refine⟨c,?_⟩;show (aX (s.heap.objs.size+1) scope.names []++cl).lookup x=some c;rw[List.lookup_append,hc];rfl
 ·have e:(fL scope.names).contains x=true:=e;have hm:scope.names.lookup x=some .cell:=by
   simp only[fL,List.contains_iff_mem,aN,bZ,beq_iff_eq]at e;obtain⟨y,⟨y1,y2⟩,rfl⟩:=e;exact S.cells y y1 y2
  rcases two x c e2 with z|z
  ·exact Nat.le_of_lt (ownA x c z)
  ·obtain⟨c',hc⟩:=iJ (n:=s.heap.objs.size+1) hm;have e2:(aX (s.heap.objs.size+1) scope.names []++cl).lookup x=some c:=e2;rw[List.lookup_append,hc]at e2;cases e2;exact Nat.le_of_lt (ownA x _ (cf hc))
 ·obtain⟨f0,f1,f2,f3,f4,f5⟩:=hf b hb;refine⟨aZ (hlt b hb),λx c e=>?_⟩;rcases two x c e with z|z
  ·exact λw=>absurd (Nat.lt_trans (ownA x c z) (w▸hlt b hb)) (bx _)
  ·exact f4 x c (hsub x c z)
 ·obtain⟨f0,f1,f2,f3,f4,f5⟩:=hf b hb;rcases f3 with z|z
  ·exact I.ok.noex b o e z
  ·exact absurd (bc (aJ e) (ba I.ok.bsz z)) (bx _)
 ·obtain⟨f0,f1,f2,f3,f4,f5⟩:=hf b hb;rcases aF.mp (I.stkSub b z)with q|q
  ·exact f1 q
  ·exact f2 q
 ·obtain⟨j,c1,c2⟩:=xk e2;obtain⟨x',n1,n2,n3,n4⟩:=S.cap.2 i j c1;have ex:x'=x:=bF (n1.symm.trans e1);subst ex;obtain⟨m',_,hl⟩:=I.loc;obtain⟨u,r,l⟩:=hl j x' v n2 c2 (n4.elim (λz=>.inr (.inl z)) λz=>.inr (.inr z));refine⟨u,r,.inr ⟨?_,?_⟩⟩
  ·rcases e3 with z|z|z
   ·rcases iD (env:=X.env) (names:=scope.names) (x:=x') (k:=.local) z with q|q
    ·rw[n3]at q;cases q
    ·cases q.1
   ·exact .inl z
   ·exact .inr z
  ·rcases l with ⟨kk,_⟩|⟨_,c,ec,ic⟩
   ·rcases n4 with z|z
    ·rw[kk]at z;cases z
    ·rw[kk]at z;cases z
   ·obtain⟨c',ec'⟩:=hall (x',.free) (cf n3) rfl;have:=hsub x' c' ec';rw[ec]at this;cases this;obtain⟨o,ho,hd⟩:=ic;exact⟨c,frl x' c n3 ec',o,hk _ _ ho,hd⟩
 ·rcases two x c e with z|z
  ·exact⟨_,(hcs.empty x c z).1⟩
  ·obtain⟨v,o,ho,hd⟩:=I.cell x c (hsub x c z);exact⟨v,o,hk _ _ ho,hd⟩
 ·rcases two x c e with z|z
  ·exact I.hok.fresh (Nat.le_of_lt (ownA x c z))
  ·exact I.freeC x c (hsub x c z)
 ·show (caps cap σ).length=NY.length;unfold caps;rw[aD];exact S.cap.1
noncomputable def jz(cap:List (Option Nat))(wi:TI)(tg:TG)(tt:TT)(tb:Addr->TS):TE:=λσ H Q=>wi σ H λJ H1=>∀acc,H1 acc=none ->
 ∃W:Nat->Nat->St->Hp->Prop,(∃m,W 0 m (caps cap σ) (upd H1 acc (.lst [])))/\∀i m τ H,W i m τ H ->
  (J.stop i H/\(Ends.mk (λ_ H=>Q (.ref acc) H) (λ_ _=>False) (λ_ _=>False) (λ_ _=>False)).nx τ H)\/(J.go i H/\∃N:St->Hp->Prop,(∀σ' H',N σ' H'->∃m',m'<m/\W (i+1) m' σ' H')/\∀x H',J.yld i H x H' ->
   tg x τ H' λσ2 H2=>je tt (tb acc) gA {(Ends.mk (λ_ H=>Q (.ref acc) H) (λ_ _=>False) (λ_ _=>False) (λ_ _=>False))with nx:=N,ct:=N,bk:=(Ends.mk (λ_ H=>Q (.ref acc) H) (λ_ _=>False) (λ_ _=>False) (λ_ _=>False)).nx} σ2 H2)
structure Loose(X:Cx)(pins:List (Addr×Obj))(C:Addr):Prop where
 loc:C≠X.env.locals
 cell:∀x c,X.env.cells.lookup x=some c->c≠C
 up:X.s₀.heap.objs.size<=C
 pin:∀p∈X.pn++pins,p.1≠C
theorem Loose.turn{X:Cx}{pins:List (Addr×Obj)}{C:Addr}{σ:St}{H:Hp}{s:af}{h':Heap}(L:Loose X pins C)(I:Inv X pins σ H s)(hn:H C=none)(hs:Heap.SameBut C s.heap h'):Inv X pins σ H {s with heap:=h'}:=
 I.turned (t':=s.toks) (it:=C) (λb o hb e=>(hs.2 b hb).trans e) hn L.loc (.inr L.up) L.cell L.pin
section
variable{X:Cx}{elt tgt it:Expr}{ifs:List Expr}{gs:List b6}{scope:aO}{pos:Pos}{NY:List Str}{cap:List (Option Nat)}{wi:TI}{tg:TG}{tt:TT}{tb:Addr->TS}
theorem nD{Q:VK}{pins:List (Addr×Obj)}{σ:St}{H:Hp}{s s2:af}{cl:List (Str×Addr)}{itv:ae}{E:ae->af->Prop}{use:Option (ae->Sem Unit)}{QQ:ae->af->Prop}
  (hc:X.calm=true) (S:cM X NY cap scope) (hng:∀g'∈gs,g'.is_async=0)
  (hsub:∀x c,cl.lookup x=some c->X.env.cells.lookup x=some c) (hall:∀x∈scope.names,x.2=.free->∃c,cl.lookup x.1=some c)
  (hb:∀cl C s₀ H₀ fp,PG (zC X NY scope cl C s₀ H₀ fp) tgt tg/\PTs (zC X NY scope cl C s₀ H₀ fp) ifs tt/\∀acc,PB (zC X NY scope cl C s₀ H₀ fp) (eC elt (⟨tgt,it,ifs,0⟩::gs) scope pos 0 (.ref acc) (zC X NY scope cl C s₀ H₀ fp).env) (tb acc))
  (h2:PIE X pins σ tgt (λJ H1=>∀acc,H1 acc=none ->
   ∃W:Nat->Nat->St->Hp->Prop,(∃m,W 0 m (caps cap σ) (upd H1 acc (.lst [])))/\∀i m τ H,W i m τ H ->
    (J.stop i H/\(Ends.mk (λ_ H=>Q (.ref acc) H) (λ_ _=>False) (λ_ _=>False) (λ_ _=>False)).nx τ H)\/(J.go i H/\∃N:St->Hp->Prop,(∀σ' H',N σ' H'->∃m',m'<m/\W (i+1) m' σ' H')/\∀x H',J.yld i H x H' ->
     tg x τ H' λσ2 H2=>je tt (tb acc) gA {(Ends.mk (λ_ H=>Q (.ref acc) H) (λ_ _=>False) (λ_ _=>False) (λ_ _=>False))with nx:=N,ct:=N,bk:=(Ends.mk (λ_ H=>Q (.ref acc) H) (λ_ _=>False) (λ_ _=>False) (λ_ _=>False)).nx} σ2 H2)) itv s2)
  (fin:∀(acc C:Addr) (s':af) (m:Str->Option ae) (H':Hp),s'.heap.Ns C m->Loose X pins C->Inv X pins σ H' s'->H' C=none->Q (.ref acc) H'->compPost (ai X.prog X.w) X.A E use QQ (.ref acc) C (.ok .next) s') :
  ah (ai X.prog X.w) X.A (newList []) (λacc s₃=>ah (ai X.prog X.w) X.A (newFunctionEnv scope X.env.globals cl [] X.env.qual none .none (some X.env)) (λcenv s₄=>
   codeAny (ai X.prog X.w) X.A (.compStart (.ListComp elt (⟨tgt,it,ifs,0⟩::gs) scope pos) 0 itv acc {cenv with scope:=relabel scope X.env}) (compPost (ai X.prog X.w) X.A E use QQ acc cenv.locals) s₄) E s₃) E s2:=by
 obtain⟨ia,fp,tn,J,H2,e,I2,T,st2,f2,q⟩:=h2;subst e;have hlt2:∀b∈fp,b<s2.heap.objs.size:=λb hb=>by
  obtain⟨o,ho,_⟩:=T.obj _ _ st2 b hb;exact aJ ho
 refine cU ?_;have hacc:H2 s2.heap.objs.size=none:=I2.hok.fresh (aB _);have I3:Inv X pins σ (upd H2 s2.heap.objs.size (.lst [])) {s2 with heap:=s2.heap.push {cls:=.type "list",dict:=none,data:=.seq ([]:List ae).toArray}}:=
  I2.laid (t':=s2.toks) (λb u e=>Heap.get?_push_of_some _ e) (aB _) ⟨b7 _,[],0,.nil,Heap.get?_push_size _ rfl⟩
 have hsz3:(s2.heap.push {cls:=.type "list",dict:=none,data:=.seq ([]:List ae).toArray}).objs.size=s2.heap.objs.size+1:=b5 ..;generalize hs3:({s2 with heap:=s2.heap.push {cls:=.type "list",dict:=none,data:=.seq ([]:List ae).toArray}}:af)=s3 at I3 ⊢;have hsz:s3.heap.objs.size=s2.heap.objs.size+1:=by rw[<-hs3];exact hsz3
 have st3:tn 0 s3.heap:=T.keep _ _ _ st2 λb hb o e=>by rw[<-hs3];exact Heap.get?_push_of_some _ e
 have f3:∀b∈fp,de X pins (upd H2 s2.heap.objs.size (.lst [])) b:=λb hb=>⟨by rw[qM (aZ (hlt2 b hb))];exact(f2 b hb).1,(f2 b hb).2⟩
 have hlt3:∀b∈fp,b<s3.heap.objs.size:=λb hb=>by rw[hsz];exact Nat.lt_succ_of_lt (hlt2 b hb)
 refine vN λh₁ hns₁ hk1 hcs=>?_
 have IY:=rl (tk:=s3.toks) I3 S hsub hall f3 hlt3 hns₁ hk1 hcs;have stY:tn 0 h₁:=T.keep _ _ _ st3 λb hb o e=>hk1 b o e
 obtain⟨pg,pt,pb⟩:=hb cl s3.heap.objs.size s3 (upd H2 s2.heap.objs.size (.lst [])) fp;have fY:∀b∈fp,de (zC X NY scope cl s3.heap.objs.size s3 (upd H2 s2.heap.objs.size (.lst [])) fp) [] (upd H2 s2.heap.objs.size (.lst [])) b:=λb hb=>by
  obtain⟨g0,g1,g2,g3,g4,g5⟩:=f3 b hb;refine⟨g0,aZ (hlt3 b hb),λz=>?_,.inl hb,(IY.ok.exf b hb).2,λp hp=>absurd (show p∈([]:List (Addr×Obj))from hp) (by simp)⟩;rcases aF.mp (I3.stkSub b z)with w|w
  ·exact g1 w
  ·exact g2 w
 have L:=xt (elt:=elt) (gens:=⟨tgt,it,ifs,0⟩::gs) (scope:=scope) (pos:=pos) (d:=0) (Y:=zC X NY scope cl s3.heap.objs.size s3 (upd H2 s2.heap.objs.size (.lst [])) fp) (acc:=.ref s2.heap.objs.size) hc (λ_ _ z=>z) rfl rfl
  (λg' hg'=>hng g' (List.mem_of_getElem? (i:=0) (by simpa using hg'))) T pg pt (pb s2.heap.objs.size) IY stY fY (q s2.heap.objs.size hacc)
 refine codeAny_mono (wo (elt:=elt) (gens:=⟨tgt,it,ifs,0⟩::gs) (scope:=scope) (pos:=pos) (d:=0) (env:=compEnvC scope (aX (s3.heap.objs.size+1) scope.names []++cl) s3.heap.objs.size X.env) rfl rfl L (T.self _ 0 _ _ _ stY L)) λr s' ⟨e,τ',H',I',q'⟩=>?_
 subst e;obtain⟨m',hn',_⟩:=id I'.loc;have hLne:s3.heap.objs.size≠X.env.locals:=Nat.ne_of_gt I3.lt;have hCne:∀x c,X.env.cells.lookup x=some c->c≠s3.heap.objs.size:=λx c e z=>by
  obtain⟨v,qv⟩:=I3.cell x c e;exact absurd qv.lt (by rw[z];exact bx _)
 have J1:Inv X pins σ H' s':=by
  refine I3.call' (ch:=fp) I'.os I'.base I'.hok I'.bare λb hb=>?_
  obtain⟨g0,g1,g2,g3,g4,g5⟩:=f3 b hb;exact⟨g3,g1,g4,g5⟩
 refine fin s2.heap.objs.size s3.heap.objs.size s' m' H' hn' ⟨hLne,hCne,I3.sz,λp hp z=>?_⟩ J1 I'.free q';have:=aJ (I3.pin p hp).1;rw[z]at this;exact bx _ this
theorem Co(hc:X.calm=true)(S:cM X NY cap scope)(hi:PI X tgt it wi)
  (hb:∀cl C s₀ H₀ fp,PG (zC X NY scope cl C s₀ H₀ fp) tgt tg/\PTs (zC X NY scope cl C s₀ H₀ fp) ifs tt/\∀acc,PB (zC X NY scope cl C s₀ H₀ fp) (eC elt (⟨tgt,it,ifs,0⟩::gs) scope pos 0 (.ref acc) (zC X NY scope cl C s₀ H₀ fp).env) (tb acc))
  (hng:∀g'∈gs,g'.is_async=0:=by simp)
  (hs:∀x,foldedSetIterable it X.env x=pure x:=by intro _;rfl):PE X (.ListComp elt (⟨tgt,it,ifs,0⟩::gs) scope pos) (jz cap wi tg tt tb):=by
 intro pins s σ H Q I h;obtain⟨cl,hcl,hsub,hall⟩:=o_ (env:=X.env) (scope:=scope) λx hx hf=>I.ok.has x.1 (S.free x hx hf)
 rw[eval_ListComp];refine wpAny_comprehension_free (use:=none) rfl hs hcl S.kind S.names (thn (hi pins s σ H _ I h) λv s1 h1=>thn h1 λitv s2 h2=>?_);exact nD (s:=s) (H:=H) (use:=none) hc S hng hsub hall hb h2 λacc C s' m H' hn L I' hC q=>⟨m,hn,λh' hs'=>⟨.ref acc,H',L.turn I' hC hs',rfl,q⟩⟩
theorem xO{i:Nat}{x:Str}{pos' spos:Pos}(hN:X.N.Nodup)(hix:X.N[i]? = some x)(hx:Loc X.env.scope x)(hc:X.calm=true)(S:cM X NY cap scope)(hi:PI X tgt it wi)
  (hb:∀cl C s₀ H₀ fp,PG (zC X NY scope cl C s₀ H₀ fp) tgt tg/\PTs (zC X NY scope cl C s₀ H₀ fp) ifs tt/\∀acc,PB (zC X NY scope cl C s₀ H₀ fp) (eC elt (⟨tgt,it,ifs,0⟩::gs) scope pos 0 (.ref acc) (zC X NY scope cl C s₀ H₀ fp).env) (tb acc))
  (hng:∀g'∈gs,g'.is_async=0:=by simp)
  (hsw:swapsWith (.ListComp elt (⟨tgt,it,ifs,0⟩::gs) scope pos) (some (.Name x pos')) spos.line X.env=pure true:=by rfl)
  (hf:X.fn x=true\/X.env.scope.names.lookup x=some .local:=by first|exact .inl rfl|exact .inr rfl|assumption)
  (hs:∀x,foldedSetIterable it X.env x=pure x:=by intro _;rfl) :
  PS X (.Assign [.Name x pos'] (.ListComp elt (⟨tgt,it,ifs,0⟩::gs) scope pos) spos) (jb (jz cap wi tg tt tb) (eP i)):=by
 intro pins s σ H D I h;obtain⟨cl,hcl,hsub,hall⟩:=o_ (env:=X.env) (scope:=scope) λx hx hf=>I.ok.has x.1 (S.free x hx hf)
 rw[exec_Assign_Name_used _ _ _ _ hsw];refine ag (wpAny_standAt (ag ?_));show ah _ _ (do let _ <-comprehension (.ListComp elt (⟨tgt,it,ifs,0⟩::gs) scope pos) scope X.env _ (newList []) false (eval it X.env) (some (assign (.Name x pos') X.env))) _ _ s;refine ag (wpAny_mono (wpAny_comprehension_free (use:=some (assign (.Name x pos') X.env)) (Q:=λ_ s'=>SP X pins D .next s') rfl hs hcl S.kind S.names (thn (hi pins s σ H _ I h) λv s1 h1=>thn h1 λitv s2 h2=>?_)) (λ_ s' q=>av (av q)) λ_ _ e=>e);refine nD (s:=s) (H:=H) (Q:=λx H1=>eP i x σ H1 D.nx) (use:=some (assign (.Name x pos') X.env)) hc S hng hsub hall hb h2 λacc C s' m H' hn L I1 hC q1=>?_
 show ah _ _ (assign (.Name x pos') X.env (.ref acc)) _ _ _;refine wpAny_assign_Name (lH (v:=.ref acc) I1 hN hix hx rfl (λs3 I3 ⟨a,hsa,ha⟩=>?_) hf);have hCa:C≠a:=by
  rcases ha with z|z
  ·rw[z];exact L.loc
  ·exact Ne.symm (L.cell x a z)
 exact⟨m,hn.sameBut hsa hCa,λh' hsb=>⟨_,H',L.turn I3 hC hsb,q1⟩⟩
end
theorem zH.there{P:aq}{w:ak}{H:Hp}{h:Heap}{a:Addr}{o:HO}(x:zH P w H h a o):∃u,h.get? a=some u:=by
 cases o with
 |lst xs=>obtain⟨_,_,_,_,e⟩:=x;exact⟨_,e⟩
 |tup xs=>obtain⟨_,_,_,o,e,_⟩:=x;exact⟨_,e⟩
 |dK kvs=>obtain⟨_,_,_,_,o,_,_,e,_⟩:=x;exact⟨_,e⟩
 |dT kvs=>obtain⟨_,_,_,_,o,_,_,e,_⟩:=x;exact⟨_,e⟩
 |set S n=>obtain⟨o,_,_,_,e,_⟩:=x;exact⟨_,e⟩
 |ins C dx fs=>obtain⟨_,_,_,e,_⟩:=x;exact⟨_,e⟩
 |own y=>obtain⟨_,e⟩:=x;exact⟨_,e⟩
 |xd fs=>obtain⟨_,⟨_,_,_,e,_⟩,_⟩:=x;exact⟨_,e⟩
 |rng lo hi=>obtain⟨_,_,_,e⟩:=x;exact⟨_,e⟩
 |frz ob u=>obtain⟨e,_⟩:=x;exact⟨_,e⟩
 |tbl ps=>exact⟨_,(show h.get? a=some _ from x)⟩
 |met f y=>exact⟨_,(show h.get? a=some _ from x)⟩
 |ext φ=>obtain⟨_,e,_⟩:=x;exact e
theorem HOk.free_of{P:aq}{w:ak}{H:Hp}{h:Heap}{a:Addr}(x:HOk P w H h)(e:h.get? a=none):H a=none:=by
 cases q:H a with
 |none=>rfl
 |some o=>obtain⟨u,z⟩:=(x a o q).there;rw[e]at z;cases z
structure Apart(X:Cx)(pins:List (Addr×Obj))(H:Hp)(b:Addr):Prop where
 new:X.s₀.heap.get? b=none
 free:H b=none
 pin:∀p∈X.pn++pins,p.1≠b
structure dI(X:Cx)(pins:List (Addr×Obj))(H:Hp)(h:Heap)(x:Addr)(cls:ae):Prop where
 me:Apart X pins H x
 tr:∃oe vs T oT ts a0,h.get? x=some oe/\oe.cls=cls/\vs[0]? = some a0/\oe.data=.fields vs/\vs[1]? = some (.ref T)/\T≠x/\h.get? T=some oT/\oT.data=.fields ts/\ts[3]? = some .none/\Apart X pins H T
structure Fly(h₀ h:Heap)(H:Hp)(x:Addr)(cls:ae):Prop where
 new:h₀.get? x=none
 free:H x=none
 tr:∃oe vs T oT ts a0,h.get? x=some oe/\oe.cls=cls/\vs[0]? = some a0/\oe.data=.fields vs/\vs[1]? = some (.ref T)/\T≠x/\h.get? T=some oT/\oT.data=.fields ts/\ts[3]? = some .none/\h₀.get? T=none/\H T=none
noncomputable def CX1(P:aq)(w:ak):CXT:=λouter H s E e s'=>
 ∃x cls H',e=.ref x/\s'.os=s.os/\AllBare s'.gens/\Un (frs outer) [] H H' s.heap s'.heap/\HOk P w H' s'.heap/\Fly s.heap s'.heap H' x cls/\E cls none H'
section
variable{X:Cx}{pins:List (Addr×Obj)}{σ:St}{H:Hp}{s:af}{x T:Addr}{cls:ae}
theorem Inv.stepN{h':Heap}{t':Nat}{ch:List Addr}(I:Inv X pins σ H s)(hex:X.ex=[])(hch:∀b∈ch,Apart X pins H b/\b≠X.env.locals/\(∀x c,X.env.cells.lookup x=some c->c≠b)/\b∉X.fs)
  (keep:∀b o,b∉frs X.stack->b≠X.env.locals->b∉X.fs->b∉ch->s.heap.get? b=some o->h'.get? b=some o)
  (slot:∀b o,(b∈frs X.stack\/b=X.env.locals\/b∈X.fs)->s.heap.get? b=some o->∃sl,h'.get? b=some {o with slots:=sl}) (there:∀b o,b∉ch->s.heap.get? b=some o->∃o',h'.get? b=some o') :
  Inv X pins σ H {s with heap:=h',toks:=t'}:=by
 have sub:∀b,b∈frs X.stack->b=X.env.locals\/b∈X.fs:=λb hb=>aF.mp (I.stkSub b hb)
 have keep':∀b o,b≠X.env.locals->b∉X.fs->b∉ch->s.heap.get? b=some o->h'.get? b=some o:=λb o h1 h2 h3 e=>keep b o (λz=>(sub b z).elim h1 h2) h1 h2 h3 e
 have neL:∀b o,X.s₀.heap.get? b=some o->b≠X.env.locals:=λb o e=>aZ (bc (aJ e) I.ok.above)
 have neC:∀b o,X.s₀.heap.get? b=some o->b∉ch:=λb o e hb=>by
  have:=(hch b hb).1.new;rw[e]at this;cases this
 have cellK:∀x c,X.env.cells.lookup x=some c->∀v,s.heap.IsCell c v->h'.IsCell c v:=λx c e v ⟨o,ho,hd⟩=>by
  have nch:c∉ch:=λz=>(hch c z).2.2.1 x c e rfl
  by_cases hc:c∈X.fs
  ·obtain⟨sl,q⟩:=slot c o (.inr (.inr hc)) ho;exact⟨_,q,hd⟩
  ·exact⟨o,keep' c o (I.cne x c e) hc nch ho,hd⟩
 have nex:∀b,b∉X.ex:=λb=>by rw[hex];simp
 refine⟨I.ok,I.os,I.bare,⟨λb o e n hb hx=>?_,λb o e n hb hx=>?_,I.base.free,λb o e hx=>?_,I.base.tups,I.base.frzs,I.base.tbls⟩,?_,λx c e=>?_,I.free,I.freeC,λp hp=>?_,λb u e=>?_,I.len⟩
 ·exact keep' b o (neL b o e) hb (neC b o e) (I.base.keep b o e n hb hx)
 ·obtain⟨sl,e1⟩:=I.base.slot b o e n hb hx;obtain⟨sl',e2⟩:=slot b _ (.inr (.inr hb)) e1;exact⟨sl',e2⟩
 ·obtain⟨o',e1⟩:=I.base.there b o e hx;exact there b o' (neC b o e) e1
 ·obtain⟨m,hn,hl⟩:=I.loc;obtain⟨oL,es,ep,hoL,hdL,r⟩:=id hn;obtain⟨sl,eL⟩:=slot _ _ (.inr (.inl rfl)) hoL;refine⟨m,⟨_,es,ep,eL,hdL,r⟩,λi x v e1 e2 e3=>?_⟩;obtain⟨u,ru,l⟩:=hl i x v e1 e2 e3;refine⟨u,ru,?_⟩;rcases l with l|⟨k,c,e,z⟩
  ·exact .inl l
  ·exact .inr ⟨k,c,e,cellK x c e _ z⟩
 ·obtain⟨v,z⟩:=I.cell x c e;exact⟨v,cellK x c e v z⟩
 ·obtain⟨e,n,ne,nf,d⟩:=I.pin p hp;exact⟨keep' p.1 p.2 ne nf (λz=>(hch p.1 z).1.pin p hp rfl) e,n,ne,nf,d⟩
 ·have nfr:∀b,(∃u,H b=some u)->b≠X.env.locals/\b∉X.fs/\b∉ch:=λb ⟨u,e⟩=>by
   refine⟨λz=>?_,λz=>?_,λz=>?_⟩
   ·rw[z,I.free]at e;cases e
   ·obtain⟨_,o,ho,_⟩:=I.ok.funs.mem z;have:=I.base.free b o ho (I.ok.frf b z) (nex b);rw[e]at this;cases this
   ·have:=(hch b z).1.free;rw[e]at this;cases this
  refine(I.hok b u e).stay (λc v hc q=>?_) (λ_ q=>q) λ_ _ q=>q
  have hc':∃u,H c=some u:=by
   rcases hc with z|z
   ·exact⟨u,by rw[z];exact e⟩
   ·exact⟨_,z⟩
  obtain⟨n1,n2,n3⟩:=nfr c hc';exact keep' c v n1 n2 n3 q
theorem Inv.rec_ne(I:Inv X pins σ H s){b:Addr}{o:Obj}{vs:Array ae}(e:s.heap.get? b=some o)(d:o.data=.fields vs):b≠X.env.locals/\(∀x c,X.env.cells.lookup x=some c->c≠b)/\b∉X.fs/\b∉frs X.stack:=by
 have h1:b≠X.env.locals:=λz=>by
  obtain⟨m,⟨o',es,ep,ho,hd,_⟩,_⟩:=I.loc;rw[<-z,e]at ho;cases ho;rw[d]at hd;cases hd
 have h3:b∉X.fs:=λz=>by
  obtain⟨_,o',ho,hn⟩:=I.funs.mem z;rw[e]at ho;cases ho;exact hn vs d
 refine⟨h1,λx c ec z=>?_,h3,λz=>(aF.mp (I.stkSub b z)).elim h1 h3⟩;obtain⟨v,o',ho,hd⟩:=I.cell x c ec;rw[z,e]at ho;cases ho;rw[d]at hd;cases hd
theorem dI.flying(I:Inv X pins σ H s)(F:dI X pins H s.heap x cls):∃T oT ts a0,Heap.FlyingW (PySem.W.hideAll s.heap (x::T::frs X.stack)) X.stack x cls a0 s.heap/\s.heap.get? T=some oT/\oT.data=.fields ts/\Apart X pins H T:=by
 obtain⟨oe,vs,T,oT,ts,a0,e1,e2,e3,e4,e5,e6,e7,e8,e9,e10⟩:=F.tr;refine⟨T,oT,ts,a0,⟨λb o q=>PySem.W.of_hideAll _ q,PySem.W.hideAll_none _ aH,?_,oe,vs,T,oT,ts,e1,⟨e2,e3⟩,e4,e5,PySem.W.hideAll_none _ (aI _ aH),e6,e7,e8,e9⟩,e7,e8,e10⟩;exact PySem.W.funFrames_hide I.stack λenv he a ha=>aI _ (aI _ (List.mem_filterMap.mpr ⟨env,he,ha⟩))
theorem dI.back(I:Inv X pins σ H s)(hex:X.ex=[])(me:Apart X pins H x){ox:Obj}{vs:Array ae}(hx:s.heap.get? x=some ox)(hxd:ox.data=.fields vs){oT:Obj}{ts:Array ae}(hT:s.heap.get? T=some oT)(hTd:oT.data=.fields ts)(aT:Apart X pins H T)
  {l:List Env}{a0:ae}{h':Heap} (W:Heap.FlyingW (PySem.W.hideAll s.heap (x::T::frs X.stack)) l x cls a0 h') (u:s.heap.UpToSlots h') :
  Inv X pins σ H {s with heap:=h'}/\dI X pins H h' x cls:=by
 obtain⟨w1,w2,w3,oe',vs',T',oT',ts',f1,⟨f2,f3⟩,f4,f5,f6,f7,f8,f9,f10⟩:=W;obtain⟨nx1,nx2,nx3,nx4⟩:=I.rec_ne hx hxd;obtain⟨nt1,nt2,nt3,nt4⟩:=I.rec_ne hT hTd;have frd:∀b o,(b∈frs X.stack\/b=X.env.locals\/b∈X.fs)->s.heap.get? b=some o->∀ws,o.data≠.fields ws:=λb o hb e ws d=>by
  obtain⟨n1,n2,n3,n4⟩:=I.rec_ne e d;rcases hb with z|z|z
  ·exact n4 z
  ·exact n1 z
  ·exact n3 z
 have nch:∀b,b∉[x,T]->b∉frs X.stack->b∉(x::T::frs X.stack):=λb h1 h2 h3=>by
  rcases aF.mp h3 with z|h3
  ·exact h1 (by simp[z])
  ·rcases aF.mp h3 with z|h3
   ·exact h1 (by simp[z])
   ·exact h2 h3
 refine⟨?_,me,oe',vs',T',oT',ts',a0,f1,f2,f3,f4,f5,f7,f8,f9,f10,?_⟩
 ·refine I.stepN (t':=s.toks) (ch:=[x,T]) hex (λb hb=>?_) (λb o h1 h2 h3 h4 e=>w1 b o (PySem.W.hideAll_get _ e (nch b h4 h1))) (λb o hb e=>u b o e (frd b o hb e)) λb o h4 e=>?_
  ·rcases aF.mp hb with z|hb
   ·subst z;exact⟨me,nx1,nx2,nx3⟩
   ·have z:b=T:=by simpa using hb
    subst z;exact⟨aT,nt1,nt2,nt3⟩
  ·by_cases hb:b∈frs X.stack
   ·obtain⟨sl,q⟩:=u b o e (frd b o (.inl hb) e);exact⟨_,q⟩
   ·exact⟨o,w1 b o (PySem.W.hideAll_get _ e (nch b h4 hb))⟩
 ·by_cases hTT:T'=T
  ·rw[hTT];exact aT
  ·by_cases hTf:T'∈frs X.stack
   ·obtain⟨_,o,ho,hn⟩:=I.stack.mem hTf;obtain⟨sl,q⟩:=u T' o ho hn;rw[q]at f8;have z:({o with slots:=sl}:Obj)=oT':=bF f8;subst z;exact absurd f9 (hn ts')
   ·have hnone:s.heap.get? T'=none:=by
     cases q:s.heap.get? T' with
     |none=>rfl
     |some o=>
      have:(PySem.W.hideAll s.heap (x::T::frs X.stack)).get? T'=some o:=PySem.W.hideAll_get _ q (nch T' (by simp[f7,hTT]) hTf);rw[f6]at this;cases this
    refine⟨?_,I.hok.free_of hnone,λp hp z=>?_⟩
    ·cases q:X.s₀.heap.get? T' with
     |none=>rfl
     |some o=>
      obtain⟨o',e'⟩:=I.base.there T' o q (by rw[hex];simp);rw[hnone]at e';cases e'
    ·have:=(I.pin p hp).1;rw[z,hnone]at this;cases this
theorem yK{P:aq}{w:ak}(hP:X.prog=P)(hw:X.w=w)(I:Inv X pins σ H s)(hex:X.ex=[]){E:XK}{e:ae}{s':af}(h:CX1 P w X.stack H s E e s') :
  ∃x cls H',e=.ref x/\Inv X pins σ H' s'/\dI X pins H' s'.heap x cls/\E cls none H':=by
 subst hP hw;obtain⟨x,cls,H',rfl,os,bare,un,hok,F,q⟩:=h;have ap:∀b,s.heap.get? b=none->H' b=none->Apart X pins H' b:=λb h1 h2=>by
  refine⟨?_,h2,λp hp z=>?_⟩
  ·cases q:X.s₀.heap.get? b with
   |none=>rfl
   |some o=>
    obtain⟨o',e'⟩:=I.base.there b o q (by rw[hex];simp);rw[h1]at e';cases e'
  ·have:=(I.pin p hp).1;rw[z,h1]at this;cases this
 obtain⟨oe,vs,T,oT,ts,a0,e1,e2,e3,e4,e5,e6,e7,e8,e9,e10,e11⟩:=F.tr;exact⟨x,cls,H',rfl,I.call' (ch:=[]) os un hok bare (λb z=>absurd z (by simp)),⟨ap x F.new F.free,oe,vs,T,oT,ts,a0,e1,e2,e3,e4,e5,e6,e7,e8,e9,ap T e10 e11⟩,q⟩
theorem dI.leaves(I:Inv X pins σ H s)(hex:X.ex=[]){env:Env}{outer:List Env}(hst:X.stack=X.env::X.outer)(hfr:X.env.frame=some X.env.locals)(F:dI X pins H s.heap x cls){E:XK}(q:E cls none H)
  {EE:ae->af->Prop}:ah (ai X.prog X.w) X.A (leaving X.env (.ref x)) (λ_ s''=>CX1 X.prog X.w X.outer X.H₀ X.s₀ E (.ref x) s'') EE s:=by
 obtain⟨oe,vs,_,_,_,_,e1,_,_,e4,_⟩:=id F.tr;obtain⟨T,oT,ts,a0,W,hT,hTd,aT⟩:=dI.flying I F;have hfrm:=I.ok.frames;rw[hst]at hfrm W;refine wpAny_leaves_onW hfrm hfr W λh' W' u=>?_
 rw[<-hst]at W';obtain⟨I',F'⟩:=dI.back I hex F.me e1 e4 hT hTd aT W' u;obtain⟨oe',vs',T',oT',ts',a0',f1,f2,f3,f4,f5,f6,f7,f8,f9,f10⟩:=F'.tr;have hb:=I'.base;rw[hex]at hb;exact⟨x,cls,H,rfl,I'.os,I'.bare,hb,I'.hok,⟨F'.me.new,F'.me.free,oe',vs',T',oT',ts',a0',f1,f2,f3,f4,f5,f6,f7,f8,f9,f10.new,f10.free⟩,q⟩
end
section
variable{P:aq}{w:ak}{K:ao}{mg:Str->Option ae}{base:Heap}{N:List Str}{qual:Str}{scope:aO}{f:Addr}{cd:ae}{A:au}{outer:List Env}{s₀:af}{H₀:Hp}{E:XK}
theorem rN:Passes (CX1 P w) (ez (CX1 P w) P w K mg base N qual scope f cd A outer s₀ H₀ E) E:=by
 intro pins σ H s e s' I h;obtain⟨x,cls,H',rfl,I',F,q⟩:=yK rfl rfl I rfl h;exact dI.leaves (env:=(ez (CX1 P w) P w K mg base N qual scope f cd A outer s₀ H₀ E).env) (outer:=outer) I' rfl rfl rfl F q
theorem jU{X:Cx}(hP:X.prog=P)(hw:X.w=w):Passes (CX1 P w) X E0:=by
 intro pins σ H s e s' I h;obtain⟨x,cls,H',rfl,_,_,_,_,_,q⟩:=h;exact q.elim
noncomputable def Throws(X:Cx)(E:XK):Prop:=∀(pins:List (Addr×Obj)) (σ:St) (H:Hp) (s:af) (h':Heap) (e:Addr) (cls:ae) (args:List ae),Inv X pins σ H s->Heap.MadeExcOf s.heap h' e cls args->E cls none H->X.xe (.ref e) {s with heap:=h'}
end
abbrev eK:List Value:=[.type "ValueError",.type "Exception",.type "BaseException",.type "object"]
noncomputable def mX(K:ao)(C:Addr):Prop:=PySem.W.excIn K C eK "ValueError.__new__" = true
section
variable{X:Cx}{C:Addr}{x:Str}{E:XK}{t:TA}{e:Expr}{es:List Expr}{np cpos pos:Pos}
end
structure gM(k:Nat)(A:au):Prop where
 dp:A.depth+3 * k+5<recursionLimit
 un:A.units+16 * k+200<cLine
theorem ck.u{k:Nat}{A:au}(r:ck k A):gM k A:=⟨r.dp,r.un⟩
structure kc(P:aq)(w:ak)(K:ao)(mg:Str->Option ae)(base:Heap)(CX:CXT)(k:Nat)(f:Addr)(fd:FuncData)(ps:List Str)(sp:Sp):Prop where
 len:∀vs H Q E,sp vs H Q E->vs.length=ps.length
 run:∀(A:au) (outer:List Env) (s:af) (H:Hp) (args:Args) (us:List ae) (vs:List V) (Q:VK) (E:XK),gM k A->gx P w K mg base A outer s H->BindsTo s fd args (ps.zip us)->Vals vs us->sp vs H Q E ->
  codeAny (ai P w) A (.call (.ref f) args) (CR CX outer P w H s Q E) s
section
variable{CX:CXT}{P:aq}{w:ak}{K:ao}{mg:Str->Option ae}{base:Heap}{k:Nat}{f:Addr}{fd:FuncData}{ps:List Str}{sp:Sp}
end
section
variable{X:Cx}{CX:CXT}{k:Nat}{f:Addr}{fd:FuncData}{ps:List Str}{sp:Sp}{dvs:List V}{ds:List ae}{E:XK}{x:Str}{p pos:Pos}{e:Expr}{es:List Expr}{t:TA}
theorem vY{pins:List (Addr×Obj)}{σ:St}{H:Hp}{s:af}{Q:VK}{us:List ae}{vs:List V}(F:kc X.prog X.w X.K X.mg X.base CX k f fd ps sp)(hr:gM k X.A)(hb:Binds X.K fd ps ds)(hd:Vals dvs ds)(hx:Passes CX X E)
  (I:Inv X pins σ H s) (r:Vals vs us) (h:sp (vs++dvs) H Q E):ah (ai X.prog X.w) X.A (call (.ref f) us) (EP X pins σ Q) X.xe s:=by
 have r2:Vals (vs++dvs) (us++ds):=r.append hd;have hl:(us++ds).length=ps.length:=by rw[<-r2.length];exact F.len _ _ _ _ h
 refine wpAny_call (codeAny_mono (F.run X.A X.stack s H ⟨us,[]⟩ (us++ds) (vs++dvs) Q E hr I.env0 (hb s us I.kIn hl) r2 h) λr s' hq=>?_);cases r with
 |error e=>exact hx pins σ H s e s' I hq
 |ok fl=>
  cases fl with
  |ret u=>exact I.after hq
  |next=>exact aP hq
  |brk=>exact aP hq
  |cont=>exact aP hq
theorem wj(F:kc X.prog X.w X.K X.mg X.base CX k f fd ps sp)(hr:gM k X.A)(hg:Gl X x)(hm:X.mg x=some (.ref f))(hk:cA X.K (.ref f)=true)(hb:Binds X.K fd ps ds)(hd:Vals dvs ds)(hx:Passes CX X E)
  (ha:PA X (e::es) t) (hdb:(x==("__debug__" : Str))=false:=by decide) (he:aL (e::es) X.env=(false,eval e X.env)::aL es X.env:=by rfl) (hpl:(backTo pos (aL es X.env)).any (·.1)=false:=by rfl) :
  PE X (.Call (.Name x p) (e::es) [] pos) (kI sp dvs E t):=by
 intro pins s σ H Q I h;refine wpAny_Call_Name_kw (kN I hg hm ?_ hdb);refine PySem.W.callWith_K (h₀:=X.base) I.ok.mod.kin hk (thn (ha pos pins s σ H _ I h) λus s1 ⟨vs,H1,I1,r,q⟩=>⟨I1.kIn,?_⟩) he hpl;exact vY F hr hb hd hx I1 r q
end
noncomputable def kj(x:Addr)(cls:ae):HO:=.ext λh=>∃o vs,h.get? x=some o/\o.cls=cls/\o.data=.fields vs
abbrev Cx.held(X:Cx)(x:Addr):Cx:={X with A:=X.A.mark (some (.ref x)),calm:=false,xe:=λ_ _=>False}
section
variable{X:Cx}{pins:List (Addr×Obj)}{σ:St}{H:Hp}{s:af}
end
abbrev Cx.inTry(X:Cx)(pn:List (Addr×Obj))(Et:ae->af->Prop):Cx:={X with pn:=pn,xe:=Et}
end L2
namespace L2
open PySem PySem.Spec PyProof.Rows PySem.W PySem.Calls Builtin Builtin.ObjectAttr Builtin.Getset_descriptor
structure dD(K:Frag)(C:Addr):Prop where
 ga:findIn K (.ref C) "__getattribute__" = some (some (.builtin "BaseException.__getattribute__"))
 gt:findIn K (.ref C) "__getattr__" = some none
 gc:findIn K (.ref C) "__class__" = some (some (.builtin "object.__class__"))
 mb:mroIn K C (.type "BaseException")=some true
 mo:mroIn K C (.type "object")=some true
 cl:∃c dd cd sl,K.lookup C=some ⟨c,dd,.cls cd,sl⟩
section
variable{prog:aq}{w:ak}{A:au}{E:ae->af->Prop}{h:Heap}{g:Array GenState}{d:Drawn}{t:Nat}{os:OsState}{x C:Addr}{K:Frag}
theorem wZ{R:Result->af->Prop}{tp:ae}(Z:K.In h)(S:dD K C)(L0:Looks (ai prog w) h (typeOf (.ref x)) (.ref C))(hx:∃o,h.get? x=some o/\o.cls=.ref C)(hq:R (.ok (.ret (.ref C))) ⟨h,g,d,t,os⟩) :
  codeAny (ai prog w) A (.call (.builtin "getset_descriptor.__get__") ⟨[.builtin "object.__class__",.ref x,tp],[]⟩) R ⟨h,g,d,t,os⟩:=by
 have L1:=looks_mroIn (M:=ai prog w) Z S.mo;obtain⟨o,ho,hc⟩:=hx;refine codeAny_call_builtin KF.slot_gs.plain KF.entry_gs (KF.slot_gs.check _ _ _ _ _ _ _ _ KF.type_class (KF.args_gs _ _ _) ?_);unfold Builtin.«getset_descriptor.__get__» descrGet;rw[dga_obj];refine ag (av ?_);unfold descrGetter descrCheckInstance descrNameAndClass isInstance;simp only[KF.owner_class]
 repeat lk
 refine⟨Code.quiet_builtin _ (by decide +kernel),codeAny_builtin KF.entry_class ?_⟩;unfold Builtin.«object.__class__» shownTypeOf
 repeat lk
 exact hq
theorem yc{M:Model}{nameV:ae}{Q:Unit->af->Prop}(Z:K.In h)(S:dD K C)(L0:Looks M h (typeOf (.ref x)) (.ref C))(hq:Q () ⟨h,g,d,t,os⟩) :
  ah M A (checkBuiltinCall "BaseException.__getattribute__" ⟨[.ref x,nameV],[]⟩) Q E ⟨h,g,d,t,os⟩:=by
 have hk:builtinKind "BaseException.__getattribute__" = some .slot:=by decide +kernel
 have hsplit:splitId "BaseException.__getattribute__" = some ("BaseException","__getattribute__"):=by decide +kernel
 have L1:=looks_mroIn (M:=M) Z S.mb;have ha:=F.args_bexc_ga (.ref x) nameV;simp only[checkBuiltinCall,hk,hsplit];refine ag ?_;unfold isInstance
 repeat (first|assumption|lk|wp_step)
theorem sh{tk:Tok}{Q:Fin->af->Prop}(Z:K.In h)(S:dD K C)(L0:Looks (ai prog w) h (typeOf (.ref x)) (.ref C))(hx:∃o,h.get? x=some o/\o.cls=.ref C)(hq:Q (.done (.ret (.ref C))) ⟨h,g,d,t,os⟩) :
  ah (ai prog w) A (Builtin.«object.__getattribute__» ⟨[.ref x,.str "__class__" tk],[]⟩) Q E ⟨h,g,d,t,os⟩:=by
 have hT5:(⟨h,g,d,t,os⟩:af).TypeIs (.builtin "object.__class__") "getset_descriptor":=F.typeOf_object_class;have L2:=looks_findIn (M:=ai prog w) Z S.gc;have f5:=F.typeOf_object_class;have f6:=F.slot_gs_get.lookup;have f7:=F.slot_gs_set.lookup
 repeat (any_goals (first|assumption|with_reducible refine L0.at ?_|with_reducible refine ag (L0.at ?_)|with_reducible refine L2.at ?_|with_reducible refine ag (L2.at ?_)|wp_step))
 refine wZ Z S L0 hx ?_
 repeat (any_goals (first|assumption|wp_step))
theorem uD{tk:Tok}{Q:ae->af->Prop}(Z:K.In h)(S:dD K C)(L0:Looks (ai prog w) h (typeOf (.ref x)) (.ref C))(hx:∃o,h.get? x=some o/\o.cls=.ref C)(hq:Q (.ref C) ⟨h,g,d,t,os⟩) :
  ah (ai prog w) A (getAttrBy (.ref x) (.str "__class__" tk) false) Q E ⟨h,g,d,t,os⟩:=by
 have f3:=F.attr_ValueError.ga.bind (.ref x);have hx2:(ae.builtin "BaseException.__getattribute__" == ae.builtin "object.__getattribute__")=false:=by decide +kernel
 have hx1:(onTheHeap (aS C)&&ae.builtin "BaseException.__getattribute__" == ae.builtin "object.__getattribute__")=false:=by rw[hx2];rfl
 have L2:=looks_findIn (M:=ai prog w) Z S.ga;have L3:=looks_findIn (M:=ai prog w) Z S.gt
 repeat (any_goals (first|assumption|with_reducible refine L0.at ?_|with_reducible refine ag (L0.at ?_)|with_reducible refine L2.at ?_|with_reducible refine ag (L2.at ?_)|with_reducible refine L3.at ?_|with_reducible refine ag (L3.at ?_)|wp_step))
 refine codeAny_call_builtin F.attr_ValueError.ga.plain F.entry_bexc_ga (yc Z S L0 (sh Z S L0 hx ?_))
 repeat (any_goals (first|assumption|wp_step))
theorem AV{Q:Option ae->af->Prop}(Z:K.In h)(S:dD K C)(L0:Looks (ai prog w) h (typeOf (.ref x)) (.ref C))(hx:∃o,h.get? x=some o/\o.cls=.ref C)(hq:Q (some (.ref C)) ⟨h,g,d,t+1,os⟩) :
  ah (ai prog w) A (getAttr? (.ref x) "__class__") Q E ⟨h,g,d,t,os⟩:=by
 unfold getAttr? getAttrBy?
 repeat (any_goals (first|assumption|with_reducible apply uD Z S L0 hx|wp_step))
end
end L2
namespace L2
open PySem PySem.Spec PyProof.Rows
structure gq(prog:aq)(w:ak)(xs:Array ae)(i l:Addr)(P:Nat->Heap->Prop):Prop where
 fr:∀k h h',P k h->(∀o,h.get? i=some o->h'.get? i=some o)->(∀o,h.get? l=some o->h'.get? l=some o)->P k h'
 nx:∀{A:au} (k:Nat) (x:ae) (s:af) (Q:ae->af->Prop) (E:ae->af->Prop),P k s.heap->xs[k]? = some x->(∀h',P (k+1) h'->Heap.SameBut i s.heap h'->Q x {s with heap:=h'})->ah (ai prog w) A (cy (.ref i)) Q E s
 en:∀{A:au} (k:Nat) (s:af) (Q:ae->af->Prop) (E:ae->af->Prop),A.handled=none->P k s.heap->xs[k]? = none ->
  (∀h' e,Heap.ExtBut i s.heap h'->(∃o,h'.get? e=some o/\o.cls=.type "StopIteration")->E (.ref e) {s with heap:=h'})->ah (ai prog w) A (cy (.ref i)) Q E s
 at_:∀k h,P k h->∃o,h.get? i=some o/\∃vs,o.data=.fields vs
theorem yF{prog:aq}{w:ak}{xs:Array ae}{i l:Addr}:gq prog w xs i l (λk h=>h.IsListIter i l k/\h.IsList l xs) where
 fr:=λ_ _ _ ⟨a,b⟩ p q=>⟨a.at p,b.at q⟩
 nx:=λk x s Q E ⟨a,b⟩ hx hQ=>wpAny_nextOf_list_item a b hx λh' a' sb=>hQ h' ⟨a',b.at λo e=>(sb.2 l (λz=>by
  obtain⟨_,e1,e2,_⟩:=a;obtain⟨_,f1,f2,_⟩:=b;rw[z,e1]at f1;have e3:=bF f1;rw[<-e3,e2]at f2;exact absurd f2 (by decide))).trans e⟩ sb
 en:=λk s Q E hh ⟨a,b⟩ hx hE=>wpAny_nextOf_list_end hh a b hx hE
 at_:=λ_ _ ⟨⟨o,e,_,d⟩,_⟩=>⟨o,e,_,d⟩
section
variable{prog:aq}{w:ak}{A:au}{E:ae->af->Prop}{s:af}
theorem uI{it l:Addr}{i:Nat}{items}{x:ae}{Q:ae->af->Prop}(hit:s.heap.IsTupleIter it l i)(hl:s.heap.IsTuple l items)(hx:items[i]? = some x)
  (hQ:∀h',h'.IsTupleIter it l (i+1)->Heap.SameBut it s.heap h'->Q x {s with heap:=h'}):ah (ai prog w) A (cy (.ref it)) Q E s:=by
 obtain⟨oi,gi,ci,di⟩:=id hit;obtain⟨ol,gl,_,nl,dl⟩:=hl;unfold cy;refine ag (wpAny_callSpecial?_slot (name:=aG "__next__") hit.typeIs F.slot_tuple_iterator_next (cz F.slot_tuple_iterator_next hit.typeIs F.entry_tuple_iterator_next ?_ (F.args_tuple_iterator_next_1 _)));show ah (ai prog w) _ (field (.ref it) 0>>=_) _ _ s;refine ag (bA gi di (x:=.ref l) rfl ?_);show ah (ai prog w) _ (if (aS l==bH)=true then _ else _) _ _ s;rw[if_neg (show ¬ ((aS l==.none)=true)from bK)];show ah (ai prog w) _ (field (.ref it) 1>>=_) _ _ s;refine ag (bA gi di (x:=.int i 0) rfl ?_);show ah (ai prog w) _ (seqItems? (.ref l)>>=_) _ _ s;refine ag (wpAny_seqItems gl dl ?_);simp only[Int.toNat_natCast,hx];refine ag (wpAny_setField gi di (by simp) (av ⟨x,rfl,av (hQ _ ?_ (Heap.SameBut.update ..))⟩));exact⟨_,Heap.get?_update_self _ gi (Obj.isFreed_of_fields (Obj.data_mapFields di _)),(Obj.cls_mapFields ..).trans ci,by rw[Obj.data_mapFields di];simp[rawInt]⟩
theorem BF{it l:Addr}{i:Nat}{items}{Q:ae->af->Prop}(hh:A.handled=none)(hit:s.heap.IsTupleIter it l i)(hl:s.heap.IsTuple l items)(hx:items[i]? = none)
  (hE:∀h' e,Heap.ExtBut it s.heap h'->(∃o,h'.get? e=some o/\o.cls=.type "StopIteration")->E (.ref e) {s with heap:=h'}):ah (ai prog w) A (cy (.ref it)) Q E s:=by
 obtain⟨oi,gi,ci,di⟩:=id hit;obtain⟨ol,gl,_,nl,dl⟩:=hl;unfold cy;refine ag (wpAny_callSpecial?_slot (name:=aG "__next__") hit.typeIs F.slot_tuple_iterator_next (cz F.slot_tuple_iterator_next hit.typeIs F.entry_tuple_iterator_next ?_ (F.args_tuple_iterator_next_1 _)));show ah (ai prog w) _ (field (.ref it) 0>>=_) _ _ s;refine ag (bA gi di (x:=.ref l) rfl ?_);show ah (ai prog w) _ (if (aS l==bH)=true then _ else _) _ _ s;rw[if_neg (show ¬ ((aS l==.none)=true)from bK)];show ah (ai prog w) _ (field (.ref it) 1>>=_) _ _ s;refine ag (bA gi di (x:=.int i 0) rfl ?_);show ah (ai prog w) _ (seqItems? (.ref l)>>=_) _ _ s;refine ag (wpAny_seqItems gl dl ?_);simp only[Int.toNat_natCast,hx];refine ag (wpAny_rule (ag (wpAny_setField gi di (by simp) ?_)));show ah (ai prog w) _ (newExc (.type "StopIteration") []>>=_) _ _ _;refine ag ?_;simp only[newExc,newTuple];refine ag (cU ?_ (by size_fits));refine ag (m:=firstArgMember _ _) (wpAny_of_eq (a:=bH) (by first|rfl|(simp only[firstArgMember];rfl)) ?_);refine cU ?_ (by size_fits);simp only[raiseNew];refine ag (wpAny_handled ?_)
 first|rw[show A.in1.handled=none from hh]|rw[hh]
 refine ag (av (wpAny_throw ?_));exact hE _ _ (((Heap.SameBut.update ..).extBut.push _).push _) ⟨_,Heap.get?_push_size _ rfl,rfl⟩
end
theorem tw{prog:aq}{w:ak}{xs:Array ae}{i l:Addr}:gq prog w xs i l (λk h=>h.IsTupleIter i l k/\h.IsTuple l xs) where
 fr:=λ_ _ _ ⟨a,b⟩ p q=>⟨a.at p,let ⟨o,e,r⟩:=b;⟨o,q o e,r⟩⟩
 nx:=λk x s Q E ⟨a,b⟩ hx hQ=>uI a b hx λh' a' sb=>hQ h' ⟨a',b.extBut sb.extBut (λz=>by
  obtain⟨_,e1,e2,_⟩:=a;obtain⟨_,f1,f2,_⟩:=b;rw[z,e1]at f1;have e3:=bF f1;rw[<-e3,e2]at f2;exact absurd f2 (by decide))⟩ sb
 en:=λk s Q E hh ⟨a,b⟩ hx hE=>BF hh a b hx hE
 at_:=λ_ _ ⟨⟨o,e,_,d⟩,_⟩=>⟨o,e,_,d⟩
section
variable{prog:aq}{w:ak}{A:au}{E:ae->af->Prop}{s:af}{z TI TO i1 i2 l1 l2:Addr}{k:Nat}{xs ys:Array ae}{P1 P2:Nat->Heap->Prop}
structure C4(z TI TO i1 i2 l1 l2:Addr):Prop where
 d:ZipApart z TI TO i1 i2 l1 l2
theorem xh{x y a b:ae}{Q:ae->af->Prop}(D:ZipApart z TI TO i1 i2 l1 l2)(S1:gq prog w xs i1 l1 P1)(S2:gq prog w ys i2 l2 P2)
  (hz:IsZip s.heap z TI TO .none) (hTI:IsPair s.heap TI (.ref i1) (.ref i2)) (hTO:IsPair s.heap TO a b) (h1:P1 k s.heap) (h2:P2 k s.heap) (hx:xs[k]? = some x) (hy:ys[k]? = some y)
  (hQ:∀h',IsZip h' z TI TO (rawInt s.heap.objs.size)->IsPair h' TO x y->P1 (k+1) h'->P2 (k+1) h'->IsPair h' s.heap.objs.size x y->h'.objs.size=s.heap.objs.size+1 ->
   (∀c o,c≠z->c≠TO->c≠i1->c≠i2->s.heap.get? c=some o->h'.get? c=some o)->Q (.ref s.heap.objs.size) {s with heap:=h'}) :
  ah (ai prog w) A (Builtin.«zip.__next__» ⟨[.ref z],[]⟩) (λfin s'=>∃v,fin=.done (.ret v)/\Q v s') E s:=by
 show ah (ai prog w) _ (field (.ref z) 2>>=_) _ _ _;refine ag (bA hz rfl (x:=.bool false) rfl ?_);show ah (ai prog w) _ (field (.ref z) 3>>=_) _ _ _;refine ag (bA hz rfl (x:=.ref TI) rfl ?_);refine ag (wpAny_seqItems hTI rfl ?_);show ah (ai prog w) _ (Builtin.SmallTypes.ownedTupleIsFree (.ref z)>>=_) _ _ _;refine ag ?_;unfold Builtin.SmallTypes.ownedTupleIsFree;refine ag (bA hz rfl (x:=.none) rfl (av ?_));simp only[if_true];refine ag (wpAny_rule ?_);refine ag (bA hz rfl (x:=.ref TO) rfl ?_);refine ag (wpAny_setField_rec hz (by simp) λj1 zj1 sj1=>?_)
 replace zj1:IsZip j1 z TI TO .ellipsis:=zj1
 refine ag ?_;simp only[List.zipIdx_cons,List.zipIdx_nil,List.forIn_cons,List.forIn_nil];refine ag (ag (wpAny_onRaise ?_));show ah (ai prog w) _ (cy (.ref i1)>>=_) _ _ _;refine ag (S1.nx k x _ _ _ (S1.fr k _ _ h1 (λo e=>sj1.extBut _ o D.i1z e) λo e=>sj1.extBut _ o D.l1z e) hx λj2 pj2 sj2=>av ?_);have oj2:IsPair j2 TO a b:=sj2.extBut _ _ D.TOi1 (sj1.extBut _ _ D.TOz hTO);refine ag (wpAny_seqItems oj2 rfl ?_);refine ag (wpAny_updateSeq_pair oj2 λj3 oj3 sj3=>?_)
 replace oj3:IsPair j3 TO x b:=oj3
 refine ag (wpAny_letGo (av ?_));refine ag (ag (wpAny_onRaise ?_));show ah (ai prog w) _ (cy (.ref i2)>>=_) _ _ _;refine ag (S2.nx k y _ _ _ (S2.fr k _ _ h2 (λo e=>sj3.extBut _ o D.TOi2.symm (sj2.extBut _ o D.i12.symm (sj1.extBut _ o D.i2z e))) λo e=>sj3.extBut _ o D.l2TO (sj2.extBut _ o D.l2i1 (sj1.extBut _ o D.l2z e))) hy λj4 pj4 sj4=>av ?_);have oj4:IsPair j4 TO x b:=sj4.extBut _ _ D.TOi2 oj3;refine ag (wpAny_seqItems oj4 rfl ?_);refine ag (wpAny_updateSeq_pair oj4 λj5 oj5 sj5=>?_)
 replace oj5:IsPair j5 TO x y:=oj5
 refine ag (wpAny_letGo (av (av ?_)));refine ag (wpAny_seqItems oj5 rfl ?_);refine ag (wpAny_newTuple ?_);have hsz:j5.objs.size=s.heap.objs.size:=by rw[sj5.1,sj4.1,sj3.1,sj2.1,sj1.1]
 have zj5:IsZip j5 z TI TO .ellipsis:=sj5.extBut _ _ D.TOz.symm (sj4.extBut _ _ D.i2z.symm (sj3.extBut _ _ D.TOz.symm (sj2.extBut _ _ D.i1z.symm zj1)));have kj5:∀c o,c≠z->c≠TO->c≠i1->c≠i2->s.heap.get? c=some o->j5.get? c=some o:=λc o c1 c2 c3 c4 e=>
  sj5.extBut _ _ c2 (sj4.extBut _ _ c4 (sj3.extBut _ _ c2 (sj2.extBut _ _ c3 (sj1.extBut _ _ c1 e))))
 have p15:P1 (k+1) j5:=S1.fr _ _ _ pj2 (λo e=>sj5.extBut _ o D.TOi1.symm (sj4.extBut _ o D.i12 (sj3.extBut _ o D.TOi1.symm e))) λo e=>sj5.extBut _ o D.l1TO (sj4.extBut _ o D.l1i2 (sj3.extBut _ o D.l1TO e))
 have p25:P2 (k+1) j5:=S2.fr _ _ _ pj4 (λo e=>sj5.extBut _ o D.TOi2.symm e) λo e=>sj5.extBut _ o D.l2TO e
 have hzlt:z<j5.objs.size:=aJ zj5;show ah (ai prog w) _ (Builtin.SmallTypes.ownedTupleHandOut (.ref z) (.ref j5.objs.size)>>=_) _ _ _;refine ag ?_;unfold Builtin.SmallTypes.ownedTupleHandOut;have zj6:IsZip (j5.push {cls:=.type "tuple",data:=.seq #[x,y]}) z TI TO .ellipsis:=Heap.get?_push_of_some _ zj5;refine ag (wpAny_setField_rec zj6 (by simp) λj7 zj7 sj7=>?_)
 replace zj7:IsZip j7 z TI TO (rawInt j5.objs.size):=zj7
 refine wpAny_setField_rec zj7 (by simp) λj8 zj8 sj8=>?_
 replace zj8:IsZip j8 z TI TO (rawInt j5.objs.size):=zj8
 have up:∀c o,c≠z->j5.get? c=some o->j8.get? c=some o:=λc o c1 e=>sj8.extBut _ _ c1 (sj7.extBut _ _ c1 (Heap.get?_push_of_some _ e))
 have tj8:IsPair j8 j5.objs.size x y:=sj8.extBut _ _ (Nat.ne_of_gt hzlt) (sj7.extBut _ _ (Nat.ne_of_gt hzlt) (Heap.get?_push_size _ rfl));have hz8:j8.objs.size=j5.objs.size+1:=by rw[sj8.1,sj7.1,b5]
 rw[hsz]at zj8 tj8 hz8;refine av ⟨_,rfl,?_⟩;show Q (.ref j5.objs.size) _;rw[hsz];exact hQ j8 zj8 (up _ _ D.TOz oj5) (S1.fr _ _ _ p15 (λo e=>up _ o D.i1z e) λo e=>up _ o D.l1z e) (S2.fr _ _ _ p25 (λo e=>up _ o D.i2z e) λo e=>up _ o D.l2z e) tj8 hz8 λc o c1 c2 c3 c4 e=>up c o c1 (kj5 c o c1 c2 c3 c4 e)
theorem Ci{a b:ae}{Q:PySem.Fin->af->Prop}(hh:A.handled=none)(D:ZipApart z TI TO i1 i2 l1 l2)(S1:gq prog w xs i1 l1 P1)
  (hz:IsZip s.heap z TI TO .none) (hTI:IsPair s.heap TI (.ref i1) (.ref i2)) (hTO:IsPair s.heap TO a b) (h1:P1 k s.heap) (hx:xs[k]? = none)
  (hE:∀h' e,(∀c o,c≠z->c≠TO->c≠i1->c≠i2->s.heap.get? c=some o->h'.get? c=some o)->(∃o,h'.get? e=some o/\o.cls=.type "StopIteration")->E (.ref e) {s with heap:=h'}) :
  ah (ai prog w) A (Builtin.«zip.__next__» ⟨[.ref z],[]⟩) Q E s:=by
 show ah (ai prog w) _ (field (.ref z) 2>>=_) _ _ _;refine ag (bA hz rfl (x:=.bool false) rfl ?_);show ah (ai prog w) _ (field (.ref z) 3>>=_) _ _ _;refine ag (bA hz rfl (x:=.ref TI) rfl ?_);refine ag (wpAny_seqItems hTI rfl ?_);show ah (ai prog w) _ (Builtin.SmallTypes.ownedTupleIsFree (.ref z)>>=_) _ _ _;refine ag ?_;unfold Builtin.SmallTypes.ownedTupleIsFree;refine ag (bA hz rfl (x:=.none) rfl (av ?_));simp only[if_true];refine ag (wpAny_rule ?_);refine ag (bA hz rfl (x:=.ref TO) rfl ?_);refine ag (wpAny_setField_rec hz (by simp) λj1 zj1 sj1=>?_)
 replace zj1:IsZip j1 z TI TO .ellipsis:=zj1
 refine ag ?_;simp only[List.zipIdx_cons,List.zipIdx_nil,List.forIn_cons,List.forIn_nil];refine ag (ag (wpAny_onRaise ?_));show ah (ai prog w) _ (cy (.ref i1)>>=_) _ _ _;refine ag (S1.en k _ _ _ hh (S1.fr k _ _ h1 (λo e=>sj1.extBut _ o D.i1z e) λo e=>sj1.extBut _ o D.l1z e) hx λj2 e sj2 he=>?_);obtain⟨oe,hoe,hce⟩:=he;have zj2:IsZip j2 z TI TO .ellipsis:=sj2 _ _ D.i1z.symm zj1;have hez:e≠z:=λq=>by subst q;rw[zj2]at hoe;cases hoe;simp at hce
 refine wpAny_setField_rec zj2 (by simp) λj3 _ sj3=>hE j3 e (λc o c1 _ c3 _ q=>sj3.extBut _ _ c1 (sj2 _ _ c3 (sj1.extBut _ _ c1 q))) ⟨oe,sj3.extBut _ _ hez hoe,hce⟩
end
section
variable{X:Cx}{pins:List (Addr×Obj)}{σ:St}{H:Hp}{s:af}{h':Heap}{tk:Nat}
theorem Inv.turnNew{ch:List Addr}{p:Addr}{vs:List V}{its:List ae}(I:Inv X pins σ H s)(hf:∀b∈ch,de X pins H b)(k:∀b o,b∉ch->s.heap.get? b=some o->h'.get? b=some o)
  (hp:s.heap.objs.size<=p) (ht:IsTup h' p its.toArray) (r:Vals vs its) (hz:vs.length<=aE):Inv X pins σ (upd H p (.tup vs)) {s with heap:=h',toks:=tk}:=by
 have hpn:H p=none:=I.hok.fresh hp;have nch:∀b u,H b=some u->b∉ch:=λb u e z=>by have:=(hf b z).1;rw[e]at this;cases this
 have np:∀b u,H b=some u->b≠p:=λb u e z=>by rw[z,hpn]at e;cases e
 refine I.step (g':=s.gens) (d':=s.drawn) (ch:=ch) (λb hb=>?_) (λb o _ _ hc e _=>k b o hc e) (λb o _ _ hc e _=>⟨o.slots,k b o hc e⟩) (λb o hc e n=>?_) (λb o hc e=>⟨o,k b o hc e⟩)
  (λb xs e=>by rw[qM (np b _ e)];exact e) (λb o u e=>by rw[qM (np b _ e)];exact e) (λb ps e=>⟨#[],by rw[qM (np b _ e),e];simp⟩) (λm hm=>?_) (λb u e=>?_) I.bare
 ·obtain⟨f0,f1,f2,f3,f4,f5⟩:=hf b hb;exact⟨f3,f1,f4,f5⟩
 ·rw[qM (aZ (bc (aJ e) hp))];exact n
 ·obtain⟨o,es,ep,ho,r⟩:=hm;exact⟨o,es,ep,k _ o (λz=>(hf _ z).2.1 rfl) ho,r⟩
 ·by_cases hb:b=p
  ·subst hb;rw[zB]at e;cases e;exact⟨hz,its,r,ht⟩
  ·rw[qM hb]at e;refine(I.hok b u e).stay (λc v hc q=>k c v ?_ q) (λc q=>by rw[qM (np c _ q)];exact q) λc xs q=>by rw[qM (np c _ q)];exact q
   rcases hc with z|z
   ·rw[z];exact nch b u e
   ·exact nch c _ z
theorem Inv.turnAll{ch:List Addr}(I:Inv X pins σ H s)(hf:∀b∈ch,de X pins H b)(k:∀b o,b∉ch->s.heap.get? b=some o->h'.get? b=some o):Inv X pins σ H {s with heap:=h',toks:=tk}:=by
 have nch:∀b u,H b=some u->b∉ch:=λb u e z=>by have:=(hf b z).1;rw[e]at this;cases this
 refine I.step (g':=s.gens) (d':=s.drawn) (ch:=ch) (λb hb=>?_) (λb o _ _ hc e _=>k b o hc e) (λb o _ _ hc e _=>⟨o.slots,k b o hc e⟩) (λb o hc e n=>n) (λb o hc e=>⟨o,k b o hc e⟩)
  (λb xs e=>e) (λb o u e=>e) (λb ps e=>⟨#[],by rw[e];simp⟩) (λm hm=>?_) (λb u e=>?_) I.bare
 ·obtain⟨f0,f1,f2,f3,f4,f5⟩:=hf b hb;exact⟨f3,f1,f4,f5⟩
 ·obtain⟨o,es,ep,ho,r⟩:=hm;exact⟨o,es,ep,k _ o (λz=>(hf _ z).2.1 rfl) ho,r⟩
 ·refine(I.hok b u e).stay (λc v hc q=>k c v ?_ q) (λc q=>q) λc xs q=>q
  rcases hc with z|z
  ·rw[z];exact nch b u e
  ·exact nch c _ z
end
noncomputable def Sq2(K:ao)(tup:Bool)(H:Hp)(a:Addr)(xs:List V):Prop:=if tup=true then SqT K H a xs else SqL K H a xs
noncomputable def Itz(K:ao)(tup:Bool)(l1 l2:Addr):It:=
 ⟨λi H=>∃xs ys x y,Sq2 K tup H l1 xs/\Sq2 K tup H l2 ys/\xs[i]? = some x/\ys[i]? = some y,
  λi H v H'=>∃p x y,H p=none/\v=.ref p/\H'=upd H p (.tup [x,y])/\(∀xs,Sq2 K tup H l1 xs->xs[i]? = some x)/\∀ys,Sq2 K tup H l2 ys->ys[i]? = some y,
  λi H=>∃xs ys,Sq2 K tup H l1 xs/\Sq2 K tup H l2 ys/\xs.length<=i⟩
noncomputable def dH(tup:Bool)(h:Heap)(i l:Addr)(k:Nat):Prop:=if tup=true then h.IsTupleIter i l k else h.IsListIter i l k
noncomputable def mf(tup:Bool)(h:Heap)(l:Addr)(xs:Array ae):Prop:=if tup=true then h.IsTuple l xs else h.IsList l xs
theorem kK{prog:aq}{w:ak}{xs:Array ae}{i l:Addr}{tup:Bool}:gq prog w xs i l (λk h=>dH tup h i l k/\mf tup h l xs):=by
 cases tup with
 |true=>exact tw
 |false=>exact yF
theorem dH.rec{tup:Bool}{h:Heap}{i l:Addr}{k:Nat}(x:dH tup h i l k):∃o vs,h.get? i=some o/\o.data=.fields vs:=by
 cases tup with
 |true=>obtain⟨o,e,_,d⟩:=(show h.IsTupleIter i l k from x);exact⟨o,_,e,d⟩
 |false=>obtain⟨o,e,_,d⟩:=(show h.IsListIter i l k from x);exact⟨o,_,e,d⟩
theorem dH.kept{tup:Bool}{h h':Heap}{i l:Addr}{k:Nat}(x:dH tup h i l k)(p:∀o,h.get? i=some o->h'.get? i=some o):dH tup h' i l k:=by
 cases tup with
 |true=>exact(show h.IsTupleIter i l k from x).at p
 |false=>exact(show h.IsListIter i l k from x).at p
theorem Inv.sq2{X:Cx}{pins:List (Addr×Obj)}{σ:St}{H:Hp}{s:af}{tup:Bool}{a:Addr}{xs:List V}(I:Inv X pins σ H s)(h:Sq2 X.K tup H a xs):∃its:List ae,Vals xs its/\mf tup s.heap a its.toArray/\xs.length<=aE/\∃o ns n,s.heap.get? a=some o/\o.data=.seq ns n:=by
 cases tup with
 |true=>
  obtain⟨its,r,p,z⟩:=I.tuple h;obtain⟨o,e,c,n,d⟩:=id p;exact⟨its,r,p,z,o,_,n,e,d⟩
 |false=>
  obtain⟨its,r,p,z⟩:=I.list h;obtain⟨o,n,e,c,c',d⟩:=id p;exact⟨its,r,p.isList,z,o,_,n,e,d⟩
theorem Inv.sq2_inj{X:Cx}{pins:List (Addr×Obj)}{σ:St}{H:Hp}{s:af}{tup:Bool}{a:Addr}{xs ys:List V}(I:Inv X pins σ H s)(h:Sq2 X.K tup H a xs)(h':Sq2 X.K tup H a ys):xs=ys:=by
 cases tup with
 |true=>exact I.tuple_inj h h'
 |false=>exact I.list_inj h h'
theorem CP{P:aq}{w:ak}{K:ao}{es:List Expr}{ek:Nat}{epos:Pos}{tup:Bool}{z TI TO i1 i2 l1 l2:Addr}(n1:TI≠z)(n2:TO≠z)(n3:i1≠z)(n4:i2≠z)(n5:TI≠TO)(n6:TI≠i1)(n7:TI≠i2)(n8:TO≠i1)(n9:TO≠i2)(n10:i1≠i2)
  (ml:∀b∈[z,TI,TO,i1,i2],l1≠b/\l2≠b):Turn P w K (.Tuple es ek epos) (Itz K tup l1 l2) [z,TI,TO,i1,i2] z (λi h=>IsZip h z TI TO .none/\IsPair h TI (.ref i1) (.ref i2)/\(∃a b,IsPair h TO a b)/\dH tup h i1 l1 i/\dH tup h i2 l2 i) where
 mem:=by simp
 obj:=λi h st b hb=>by
  obtain⟨hz,hTI,⟨a,c,hTO⟩,h1,h2⟩:=st;obtain⟨o1,v1,e1,d1⟩:=h1.rec;obtain⟨o2,v2,e2,d2⟩:=h2.rec;have hb':b=z\/b=TI\/b=TO\/b=i1\/b=i2:=by simpa using hb
  rcases hb' with q|q|q|q|q
  ·subst q;exact⟨_,hz,λv q=>by cases q⟩
  ·subst q;exact⟨_,hTI,λv q=>by cases q⟩
  ·subst q;exact⟨_,hTO,λv q=>by cases q⟩
  ·subst q;exact⟨o1,e1,λv q=>by rw[d1]at q;cases q⟩
  ·subst q;exact⟨o2,e2,λv q=>by rw[d2]at q;cases q⟩
 keep:=λi h h' st k=>by
  obtain⟨hz,hTI,⟨a,c,hTO⟩,h1,h2⟩:=st;exact⟨k z (by simp) _ hz,k TI (by simp) _ hTI,⟨a,c,k TO (by simp) _ hTO⟩,h1.kept λo e=>k i1 (by simp) o e,h2.kept λo e=>k i2 (by simp) o e⟩
 item:=by
  intro X hP hw hK hc i pins s σ H E I hf st hg;subst hP hw hK;obtain⟨hz,hTI,⟨a,c,hTO⟩,h1,h2⟩:=st;obtain⟨xs,ys,x,y,q1,q2,hx,hy⟩:=hg;obtain⟨its1,r1,p1,z1,_⟩:=I.sq2 q1;obtain⟨its2,r2,p2,z2,_⟩:=I.sq2 q2;obtain⟨u1,hu1,ru1⟩:=r1.get hx;obtain⟨u2,hu2,ru2⟩:=r2.get hy;have D:ZipApart z TI TO i1 i2 l1 l2:=⟨n1,n2,n3,n4,n5,n6,n7,n8,n9,n10,(ml z (by simp)).1,(ml TO (by simp)).1,(ml i1 (by simp)).1,(ml i2 (by simp)).1,(ml z (by simp)).2,(ml TO (by simp)).2,(ml i1 (by simp)).2,(ml i2 (by simp)).2⟩
  have hT:s.TypeIs (.ref z) "zip":=⟨_,hz,rfl⟩
  unfold pyNext;refine ag (wpAny_attempt (wpAny_callSpecial?_slot (name:=aG "__next__") hT F.slot_zip_next (cz F.slot_zip_next hT F.entry_zip_next
   (xh (xs:=its1.toArray) (ys:=its2.toArray) (k:=i) D (kK (tup:=tup)) (kK (tup:=tup)) hz hTI hTO ⟨h1,p1⟩ ⟨h2,p2⟩ (by simpa using hu1) (by simpa using hu2) λh' a1 a2 a3 a4 a5 a6 hk=>av ?_) (F.args_zip_next_1 _))))
  have hkc:∀b o,b∉[z,TI,TO,i1,i2]->s.heap.get? b=some o->h'.get? b=some o:=λb o hb e=>hk b o (λq=>hb (by simp[q])) (λq=>hb (by simp[q])) (λq=>hb (by simp[q])) (λq=>hb (by simp[q])) e
  have I1:Inv X pins σ (upd H s.heap.objs.size (.tup [x,y])) {s with heap:=h'}:=I.turnNew (tk:=s.toks) (its:=[u1,u2]) hf hkc (aB _) ⟨_,a5,rfl,_,rfl⟩ (.cons ru1 (.cons ru2 .nil)) (by show 2<=aE;decide);have hpn:H s.heap.objs.size=none:=I.hok.fresh (aB _);have hfp:∀b∈[z,TI,TO,i1,i2],b≠s.heap.objs.size:=λb hb q=>by
   have hb':b=z\/b=TI\/b=TO\/b=i1\/b=i2:=by simpa using hb
   obtain⟨o1,v1,e1,d1⟩:=h1.rec;obtain⟨o2,v2,e2,d2⟩:=h2.rec;have:b<s.heap.objs.size:=by
    rcases hb' with q|q|q|q|q
    ·subst q;exact aJ hz
    ·subst q;exact aJ hTI
    ·subst q;exact aJ hTO
    ·subst q;exact aJ e1
    ·subst q;exact aJ e2
   rw[q]at this;exact bx _ this
  have hnone:∀b∈[z,TI,TO,i1,i2],(upd H s.heap.objs.size (.tup [x,y])) b=none:=λb hb=>by rw[qM (hfp b hb)];exact(hf b hb).1
  refine⟨_,rfl,?_⟩;refine wpAny_letOwnedTupleGo_zip (s:={s with heap:=h'}) a1 λh2' hz' hs'=>?_
  obtain⟨f0,f1,f2,f3,f4,f5⟩:=hf z (by simp);refine⟨.ref s.heap.objs.size,_,I1.turned (t':=s.toks) (it:=z) (λb o hb e=>(hs'.2 b hb).trans e) (hnone z (by simp)) f1 f3 f4 f5,rfl,⟨_,x,y,hpn,rfl,rfl,λzs hq=>by rw[I.sq2_inj hq q1];exact hx,λzs hq=>by rw[I.sq2_inj hq q2];exact hy⟩,?_,hnone⟩;have up:∀b o,b≠z->h'.get? b=some o->h2'.get? b=some o:=λb o hb e=>(hs'.2 b hb).trans e
  exact⟨hz',up _ _ n1 (hk _ _ n1 n5 n6 n7 hTI),⟨_,_,up _ _ n2 a2⟩,a3.1.kept λo e=>up _ o n3 e,a4.1.kept λo e=>up _ o n4 e⟩
 done:=by
  intro X hP hw hK hc i pins s σ H E I hf st hg;subst hP hw hK;obtain⟨hz,hTI,⟨a,c,hTO⟩,h1,h2⟩:=st;obtain⟨xs,ys,q1,q2,hx⟩:=hg;obtain⟨its1,r1,p1,z1,_⟩:=I.sq2 q1;have D:ZipApart z TI TO i1 i2 l1 l2:=⟨n1,n2,n3,n4,n5,n6,n7,n8,n9,n10,(ml z (by simp)).1,(ml TO (by simp)).1,(ml i1 (by simp)).1,(ml i2 (by simp)).1,(ml z (by simp)).2,(ml TO (by simp)).2,(ml i1 (by simp)).2,(ml i2 (by simp)).2⟩
  have hT:s.TypeIs (.ref z) "zip":=⟨_,hz,rfl⟩
  have hl:=r1.length;unfold pyNext;refine ag (wpAny_attempt (wpAny_callSpecial?_slot (name:=aG "__next__") hT F.slot_zip_next (cz F.slot_zip_next hT F.entry_zip_next
   (Ci (xs:=its1.toArray) (k:=i) (I.ok.hd hc) D (kK (tup:=tup)) hz hTI hTO ⟨h1,p1⟩ (by simp;lia) λh' e hk he=>?_) (F.args_zip_next_1 _))))
  obtain⟨o,ho,hcl⟩:=he;refine ag (wpAny_isInstance (T:="StopIteration") (b:=true) ⟨o,ho,hcl⟩ isSubtype_stop ?_);exact av ⟨rfl,I.turnAll (tk:=s.toks) hf λb o hb e=>hk b o (λq=>hb (by simp[q])) (λq=>hb (by simp[q])) (λq=>hb (by simp[q])) (λq=>hb (by simp[q])) e⟩
 self:=λ_ _ _ _ _ st h=>wpAny_pyIter_zip st.1 h
abbrev zj1(h:Heap)(l1:Addr):Heap:=h.push {cls:=.type "tuple_iterator",data:=.fields #[.ref l1,.int 0 0]}
abbrev zj2(h:Heap)(l1 l2:Addr):Heap:=(zj1 h l1).push {cls:=.type "tuple_iterator",data:=.fields #[.ref l2,.int 0 0]}
abbrev zj3(h:Heap)(l1 l2:Addr):Heap:=(zj2 h l1 l2).push {cls:=.type "tuple",data:=.seq #[.ref h.objs.size,.ref (zj1 h l1).objs.size]}
abbrev zj4(h:Heap)(l1 l2:Addr):Heap:=(zj3 h l1 l2).push {cls:=.type "tuple",data:=.seq #[.none,.none]}
abbrev zj5(h:Heap)(l1 l2:Addr):Heap:=(zj4 h l1 l2).push {cls:=.type "zip",data:=.fields #[.none,.bool false,.bool false,.ref (zj2 h l1 l2).objs.size,.ref (zj3 h l1 l2).objs.size]}
theorem uW(l1 l2:Addr)(xs ys:Array ae) :
  Meets (Builtin.«zip.__new__» ⟨[.type "zip",.ref l1,.ref l2],[]⟩) (λ_ R s=>s.heap.IsTuple l1 xs/\s.heap.IsTuple l2 ys/\R (.ok (.ret (.ref (zj4 s.heap l1 l2).objs.size))) {s with heap:=zj5 s.heap l1 l2}):=
 .of_wp λprog w A R s h=>by
  obtain⟨hp,g,d,tk,os⟩:=s;obtain⟨hl1,hl2,h⟩:=h;have hsub:=sub_zip;have hL1:Heap.IsTuple (af.heap ⟨hp,g,d,tk,os⟩) l1 xs:=hl1;have hL2:Heap.IsTuple (af.heap ⟨hp.push {cls:=.type "tuple_iterator",data:=.fields #[.ref l1,.int 0 0]},g,d,tk,os⟩) l2 ys:=let ⟨o,e,r⟩:=hl2;⟨o,Heap.get?_push_of_some _ e,r⟩
  wp_walk using wpAny_pyIter_tuple hL1,wpAny_pyIter_tuple hL2
  exact⟨_,rfl,h⟩
section
variable{prog:aq}{w:ak}{A:au}{E:ae->af->Prop}{s:af}
theorem yg{l1 l2:Addr}{xs ys:Array ae}{Q:ae->af->Prop}(hl1:s.heap.IsTuple l1 xs)(hl2:s.heap.IsTuple l2 ys)
  (h:∀h',IsZip h' (s.heap.objs.size+4) (s.heap.objs.size+2) (s.heap.objs.size+3) .none->IsPair h' (s.heap.objs.size+2) (.ref s.heap.objs.size) (.ref (s.heap.objs.size+1)) ->
   IsPair h' (s.heap.objs.size+3) .none .none->h'.IsTupleIter s.heap.objs.size l1 0->h'.IsTupleIter (s.heap.objs.size+1) l2 0->h'.objs.size=s.heap.objs.size+5 ->
   (∀c o,s.heap.get? c=some o->h'.get? c=some o)->Q (.ref (s.heap.objs.size+4)) {s with heap:=h'}):ah (ai prog w) A (call (.type "zip") [.ref l1,.ref l2]) Q E s:=by
 refine callType_new F.called_zip (by decide) (F.typeCall_zip_2 _ _) (F.newCall_zip_2 _ _) (λobj=>F.args_object_init_3 obj _ _) F.entry_zip_new (uW l1 l2 xs ys) ⟨hl1,hl2,?_⟩;have z1:(zj1 s.heap l1).objs.size=s.heap.objs.size+1:=b5 ..;have z2:(zj2 s.heap l1 l2).objs.size=s.heap.objs.size+2:=by rw[b5,z1]
 have z3:(zj3 s.heap l1 l2).objs.size=s.heap.objs.size+3:=by rw[b5,z2]
 have z4:(zj4 s.heap l1 l2).objs.size=s.heap.objs.size+4:=by rw[b5,z3]
 have z5:(zj5 s.heap l1 l2).objs.size=s.heap.objs.size+5:=by rw[b5,z4]
 have g5:(zj5 s.heap l1 l2).get? (zj4 s.heap l1 l2).objs.size=some _:=Heap.get?_push_size _ rfl;have g4:(zj5 s.heap l1 l2).get? (zj3 s.heap l1 l2).objs.size=some _:=Heap.get?_push_of_some _ (Heap.get?_push_size _ rfl);have g3:(zj5 s.heap l1 l2).get? (zj2 s.heap l1 l2).objs.size=some _:=Heap.get?_push_of_some _ (Heap.get?_push_of_some _ (Heap.get?_push_size _ rfl));have g2:(zj5 s.heap l1 l2).get? (zj1 s.heap l1).objs.size=some _:=Heap.get?_push_of_some _ (Heap.get?_push_of_some _ (Heap.get?_push_of_some _ (Heap.get?_push_size _ rfl)));have g1:(zj5 s.heap l1 l2).get? s.heap.objs.size=some _:=Heap.get?_push_of_some _ (Heap.get?_push_of_some _ (Heap.get?_push_of_some _ (Heap.get?_push_of_some _ (Heap.get?_push_size _ rfl))));show _/\_;rw[z2,z3,z4]at g5;rw[z1,z2]at g3;rw[z3]at g4;rw[z1]at g2;rw[z4];exact⟨⟨_,g5,rfl⟩,h _ g5 g3 g4 ⟨_,g1,rfl,rfl⟩ ⟨_,g2,rfl,rfl⟩ z5 λc o x=>Heap.get?_push_of_some _ (Heap.get?_push_of_some _ (Heap.get?_push_of_some _ (Heap.get?_push_of_some _ (Heap.get?_push_of_some _ x))))⟩
end
noncomputable def Cj(K:ao)(ta:TA):TI:=λσ H R=>ta σ H λvs H1=>∃(tup:Bool) (l1 l2:Addr),vs=[.ref l1,.ref l2]/\(∃xs,Sq2 K tup H1 l1 xs)/\(∃ys,Sq2 K tup H1 l2 ys)/\R (Itz K tup l1 l2) H1
theorem xa{X:Cx}{es:List Expr}{ek:Nat}{epos p pos:Pos}{a b:Expr}{ta:TA}(hg:Gl X "zip")(hm:X.mg "zip" = none)(hv:bG "zip" = some (.type "zip"))(ha:PA X [a,b] ta)
  (hs:aL [a,b] X.env=[(false,eval a X.env),(false,eval b X.env)]:=by rfl) (hs2:aL [b] X.env=[(false,eval b X.env)]:=by rfl):PI X (.Tuple es ek epos) (.Call (.Name "zip" p) [a,b] [] pos) (Cj X.K ta):=by
 intro pins s σ H R I h;refine Call_ (fm I hg hm hv (eJ (thn (ha pos pins s σ H _ I h) λus s1 ⟨vs,H1,I1,r1,q1⟩=>?_) (by rw[hs,hs2]) (by rw[hs2];rfl)));obtain⟨tup,l1,l2,e,⟨xs,q2⟩,⟨ys,q3⟩,q⟩:=q1;subst e;cases r1 with
 |cons r rr=>
  cases rr with
  |cons r' rr=>
   cases rr;cases r;cases r';obtain⟨its1,v1,p1,_,o1,ns1,m1,e1,d1⟩:=I1.sq2 q2;obtain⟨its2,v2,p2,_,o2,ns2,m2,e2,d2⟩:=I1.sq2 q3;have lt1:l1<s1.heap.objs.size:=aJ e1;have lt2:l2<s1.heap.objs.size:=aJ e2;have above:∀b:Addr,b∈[s1.heap.objs.size+4,s1.heap.objs.size+2,s1.heap.objs.size+3,s1.heap.objs.size,s1.heap.objs.size+1]->s1.heap.objs.size<=b:=λb hb=>by
    have hb':b=s1.heap.objs.size+4\/b=s1.heap.objs.size+2\/b=s1.heap.objs.size+3\/b=s1.heap.objs.size\/b=s1.heap.objs.size+1:=by simpa using hb
    rcases hb' with q|q|q|q|q
    ·rw[q];exact Nat.le_add_right _ _
    ·rw[q];exact Nat.le_add_right _ _
    ·rw[q];exact Nat.le_add_right _ _
    ·rw[q];exact aB _
    ·rw[q];exact Nat.le_add_right _ _
   have fin:∀h',IsZip h' (s1.heap.objs.size+4) (s1.heap.objs.size+2) (s1.heap.objs.size+3) .none->IsPair h' (s1.heap.objs.size+2) (.ref s1.heap.objs.size) (.ref (s1.heap.objs.size+1)) ->
     IsPair h' (s1.heap.objs.size+3) .none .none->dH tup h' s1.heap.objs.size l1 0->dH tup h' (s1.heap.objs.size+1) l2 0->(∀c o,s1.heap.get? c=some o->h'.get? c=some o) ->
     ah (ai X.prog X.w) X.A (pyIter (.ref (s1.heap.objs.size+4))) (PIE X pins σ (.Tuple es ek epos) R) X.xe {s1 with heap:=h'}:=λh' a1 a2 a3 a4 a5 k=>by
    have I2:Inv X pins σ H1 {s1 with heap:=h'}:=I1.kept (t':=s1.toks) k;refine wpAny_pyIter_zip a1 ?_;refine⟨_,_,_,_,H1,rfl,I2,CP (P:=X.prog) (w:=X.w) (K:=X.K) (z:=s1.heap.objs.size+4) (TI:=s1.heap.objs.size+2) (TO:=s1.heap.objs.size+3) (i1:=s1.heap.objs.size) (i2:=s1.heap.objs.size+1) (l1:=l1) (l2:=l2) (tup:=tup) (show (s1.heap.objs.size+2:Nat)≠s1.heap.objs.size+4 by lia) (show (s1.heap.objs.size+3:Nat)≠s1.heap.objs.size+4 by lia) (show (s1.heap.objs.size:Nat)≠s1.heap.objs.size+4 by lia) (show (s1.heap.objs.size+1:Nat)≠s1.heap.objs.size+4 by lia) (show (s1.heap.objs.size+2:Nat)≠s1.heap.objs.size+3 by lia) (show (s1.heap.objs.size+2:Nat)≠s1.heap.objs.size by lia) (show (s1.heap.objs.size+2:Nat)≠s1.heap.objs.size+1 by lia) (show (s1.heap.objs.size+3:Nat)≠s1.heap.objs.size by lia) (show (s1.heap.objs.size+3:Nat)≠s1.heap.objs.size+1 by lia) (show (s1.heap.objs.size:Nat)≠s1.heap.objs.size+1 by lia) (λb hb=>?_),⟨a1,a2,⟨_,_,a3⟩,a4,a5⟩,λb hb=>?_,q⟩
    ·have:=above b hb;exact⟨aZ (bc lt1 this),aZ (bc lt2 this)⟩
    ·have:=above b hb;exact I1.fpOk this (I1.hok.fresh this)
   cases tup with
   |true=>exact yg p1 p2 λh' a1 a2 a3 a4 a5 _ k=>fin h' a1 a2 a3 a4 a5 k
   |false=>exact call_zip_2 p1 p2 λh' a1 a2 a3 a4 a5 _ k=>fin h' a1 a2 a3 a4 a5 k
theorem BH{K:ao}{x C:Addr}(S:dD K C):PySem.W.KitX K (.ref x) (.ref C) (λh=>∃o,h.get? x=some o/\o.cls=.ref C) where
 ty:=λM h _ ⟨o,e,c⟩=>c▸(PySem.W.Looks.ld e).andThen .now
 it:=λ_ _ Z _=>by
  obtain⟨c,dd,cd,sl,e⟩:=S.cl;intro A' Q' E' s' k q;unfold isType loadHead;exact ag (wpAny_loadPart (k _ _ (Z _ _ e)) (av q))
 ne:=λh tp dd its n sl Z htp=>by
  obtain⟨c,dd',cd,sl',e⟩:=S.cl;refine Bool.eq_false_iff.mpr λq=>?_
  have e1:C=tp:=aS.inj (beq_iff_eq.mp q);subst e1;have z:=(Z _ _ e).symm.trans htp;cases z
 ca:=λ{prog w A E Q s} Z ⟨o,e,c⟩ k=>by
  obtain⟨hh,g,d,t,os⟩:=s;exact AV Z S (c▸(PySem.W.Looks.ld e).andThen .now) ⟨o,e,c⟩ k
noncomputable def jy:V->Option ae
 | .ty n=>some (.type n)
 | .ref a=>some (.ref a)
 |_=>none
noncomputable def TyX(K:ao)(H:Hp)(x:V)(t:ae):Prop:=c_ K H x t\/∃a C,x=.ref a/\t=.ref C/\H a=some (kj a (.ref C))/\dD K C
theorem B8{X:Cx}:zl X (.builtin "isinstance") (λxs H Q=>∃x c cv t b,xs=[x,c]/\jy c=some cv/\TyX X.K H x t/\bL X.K t cv=some b/\Q (.bl b) H):=by
 intro pins s σ H xs us Q I r h;obtain⟨x,c,cv,t,b,rfl,hc,ty,hk,q⟩:=h;obtain⟨u,cu,rfl,rx,rc⟩:=r.two;have e:cu=cv:=by
  cases c with
  |ty n=>cases hc;exact rc
  |ref a=>cases hc;exact rc
  |_=>cases hc
 subst e;rcases ty with ty|⟨a,C,rfl,rfl,ha,S⟩
 ·exact fV I rx ty hk λtk=>⟨.bl b,H,I.tok tk,rfl,q⟩
 ·cases rx;obtain⟨⟨o,vs,e1,e2,e3⟩,_⟩:=(show zH X.prog X.w H s.heap a (kj a (.ref C))from I.hok a _ ha)
  exact bE (BH S) I.kIn ⟨o,e1,e2⟩ hk (λz=>nomatch z) λtk=>⟨.bl b,H,I.tok tk,rfl,q⟩
theorem wu{K:ao}{T:String}:bL K (.type T) (.type T)=some true:=by unfold bL;rw[if_pos (by simp)]
theorem Bk{K:ao}{a T:String}{b:Bool}(hne:(ae.type a==ae.type T)=false)(hm:PySem.W.kitMeta T=true)(hf:(fastBuiltinMro a).map (·.contains (.type T))=some b):bL K (.type a) (.type T)=some b:=by
 unfold bL PySem.W.kitCls PySem.W.subIn;rw[if_neg (by rw[hne];exact bK)];dsimp only;rw[if_pos hm];exact hf
noncomputable def fz(a T:String):Bool:=a==T||(a == "bool" && T == "int")
theorem uC{K:ao}{a T:String}(ha:a∈["NoneType","bool","int","str","list","tuple","dict"])(hT:T∈["int","bool","str","list","tuple"]):bL K (.type a) (.type T)=some (fz a T):=by
 simp only[aF,cV,or_false]at ha hT;rcases ha with rfl|rfl|rfl|rfl|rfl|rfl|rfl<;>rcases hT with rfl|rfl|rfl|rfl|rfl<;>first|exact wu|exact Bk (by decide +kernel) (by decide +kernel) (by decide +kernel)
noncomputable def qg{α:Type}(lt:Nat->Nat->Bool):PySem.W.KasT α->α
 | .ret a=>a
 | .ask i j k=>qg lt (k (lt i j))
noncomputable def bI{α:Type}(n:Nat)(r:α->Prop):PySem.W.KasT α->Prop
 | .ret a=>r a
 | .ask i j k=>i<n/\j<n/\∀b,bI n r (k b)
theorem bI.bind{α β:Type}{n:Nat}{r:α->Prop}{r':β->Prop}{f:α->PySem.W.KasT β}(hf:∀a,r a->bI n r' (f a)):∀(t:PySem.W.KasT α),bI n r t->bI n r' (t.bind f)
 | .ret a,h=>hf a h
 | .ask _ _ k,⟨h1,h2,h3⟩=>⟨h1,h2,λb=>bI.bind hf (k b) (h3 b)⟩
theorem mP{α:Type}{n:Nat}{r:α->Prop}{lt:Nat->Nat->Bool}{cmp:Nat->Nat->(Bool->af->Prop)->af->Prop}{s:af}(h:∀i j C,i<n->j<n->C (lt i j) s->cmp i j C s){Q:α->af->Prop}:∀(t:PySem.W.KasT α),bI n r t->Q (qg lt t) s->t.kasWp cmp Q s
 | .ret _,_,q=>q
 | .ask i j k,⟨h1,h2,h3⟩,q=>h i j _ h1 h2 (mP h (k (lt i j)) (h3 _) q)
noncomputable def Bel(n:Nat)(p:Array Nat):Prop:=p.size=n/\∀x∈p,x<n
theorem Bel.get{n:Nat}{p:Array Nat}(h:Bel n p)(hn:0<n)(i:Nat):p.getD i 0<n:=by
 unfold Array.getD;split
 ·rename_i hi;exact h.2 _ (Array.getElem_mem hi)
 ·exact hn
theorem Bel.swap{n:Nat}{p:Array Nat}(h:Bel n p)(i j:Nat):Bel n (p.swapIfInBounds i j):=by
 refine⟨by rw[Array.size_swapIfInBounds];exact h.1,λx hx=>?_⟩;unfold Array.swapIfInBounds at hx;split at hx
 ·split at hx
  ·rename_i h1 h2
   exact h.2 x ((Array.swap_perm h1 h2).mem_iff.mp hx)
  ·exact h.2 x hx
 ·exact h.2 x hx
theorem Bel.fold{n:Nat}(u v:Nat->Nat):∀(l:List Nat) {p:Array Nat},Bel n p->Bel n (l.foldl (λa k=>a.swapIfInBounds (u k) (v k)) p)
 | [],_,h=>h
 |k::r,p,h=>Bel.fold u v r (h.swap (u k) (v k))
theorem Bel.rev{n:Nat}{p:Array Nat}(h:Bel n p)(i j:Nat):Bel n (bj p i j):=by
 unfold bj mirror
 first|exact Bel.fold _ _ _ h|(simp only[];exact Bel.fold _ _ _ h)
theorem Bel.bub{n:Nat}{p:Array Nat}(h:Bel n p)(i j:Nat):Bel n (bubble p i j):=by
 unfold bubble
 first|exact Bel.fold _ _ _ h|(simp only[];exact Bel.fold _ _ _ h)
theorem jA{n:Nat}(hn:0<n){p:Array Nat}(h:Bel n p):∀f m,bI n (λ_=>True) (PySem.W.kas_asc p f m)
 | 0,_=>trivial
 |f+1,m=>⟨h.get hn _,h.get hn _,λb=>by cases b with
  |true=>exact trivial
  |false=>exact jA hn h f (m+1)⟩
theorem h9{n:Nat}(hn:0<n):∀f {p:Array Nat} m q,Bel n p->bI n (λr=>Bel n r.1) (bg f p m q)
 | 0,_,_,_,h=>h
 |f+1,p,m,q,h=>⟨h.get hn _,h.get hn _,λb=>by cases b with
  |true=>
   show bI n _ (if q>0 then _ else _);split
   ·exact h9 hn f _ _ (h.rev _ _)
   ·exact h9 hn f _ _ h
  |false=>exact⟨h.get hn _,h.get hn _,λd=>by cases d with
   |true=>exact h
   |false=>exact h9 hn f _ _ h⟩⟩
theorem pB{n:Nat}(hn:0<n){p:Array Nat}(h:Bel n p)(a b:Nat):bI n (λr=>Bel n r.2) (PySem.W.kas_tail3 a b p):=by
 unfold PySem.W.kas_tail3;refine bI.bind (r:=λ_=>True) (λm _=>?_) _ (jA hn (h.rev _ _) _ _);show Bel n (bj p 0 a);exact h.rev _ _
theorem l5{n:Nat}(hn:0<n){p:Array Nat}(h:Bel n p)(a b:Nat):bI n (λr=>Bel n r.2) (PySem.W.kas_descPart a b p):=by
 refine bI.bind (λr hr=>?_) _ (h9 hn _ _ _ h);split
 ·exact pB hn (hr.rev _ _) _ _
 ·exact pB hn hr _ _
theorem tL{n:Nat}(hn:0<n){p:Array Nat}(h:Bel n p)(m:Nat):bI n (λr=>Bel n r.2) (PySem.W.kas_count m p):=by
 refine bI.bind (λr _=>?_) _ (jA hn h _ _);split
 ·exact h
 ·split
  ·exact⟨h.get hn _,h.get hn _,λb=>by cases b with
    |true=>exact h
    |false=>exact l5 hn (h.rev _ _) _ _⟩
  ·exact l5 hn h _ _
theorem jY{n:Nat}(hn:0<n){p:Array Nat}(h:Bel n p)(k:Nat):∀f l r,bI n (λ_=>True) (PySem.W.kas_place p k f l r)
 | 0,_,_=>trivial
 |f+1,l,r=>by
  unfold PySem.W.kas_place;split
  ·exact trivial
  ·exact⟨h.get hn _,h.get hn _,λb=>by cases b with
    |true=>exact jY hn h k f _ _
    |false=>exact jY hn h k f _ _⟩
theorem mV{n:Nat}(hn:0<n):∀f {p:Array Nat} k,Bel n p->bI n (Bel n) (PySem.W.kas_bin f p k)
 | 0,_,_,h=>h
 |f+1,p,k,h=>bI.bind (λl _=>mV hn f _ (h.bub _ _)) _ (jY hn h k k 0 k)
theorem ka{n:Nat}(hn:0<n):bI n (Bel n) (PySem.W.kas_sort n):=by
 have h0:Bel n (List.toArray (a9 n)):=⟨by simp,λx hx=>by simpa using hx⟩
 refine bI.bind (λr hr=>?_) _ (tL hn h0 n);split
 ·exact mV hn _ _ hr
 ·exact hr
theorem bI.run{α:Type}{n:Nat}{r:α->Prop}{lt:Nat->Nat->Bool}:∀(t:PySem.W.KasT α),bI n r t->r (qg lt t)
 | .ret _,h=>h
 | .ask i j k,⟨_,_,h⟩=>bI.run (k (lt i j)) (h _)
noncomputable def ltP(p q:Int×Int):Bool:=if p.1=q.1 then decide (p.2<q.2)else decide (p.1<q.1)
noncomputable def cF(ks:List (Int×Int)):List Nat:=if ks.length<2 then a9 ks.length else (qg (λi j=>ltP (ks.getD i (0,0)) (ks.getD j (0,0))) (PySem.W.kas_sort ks.length)).toList
section
variable{prog:aq}{w:ak}{A:au}{E:ae->af->Prop}{s:af}
theorem rC{vs:List ae}{ks:List (Int×Int)}(hl:ks.length=vs.length)(hp:∀(i:Nat) p,ks[i]? = some p->∃a t u o n,vs[i]? = some (.ref a)/\s.heap.get? a=some o/\o.data=.seq #[.int p.1 t,.int p.2 u] n){i j:Nat}(hi:i<ks.length)(hj:j<ks.length){C:Bool->af->Prop}
  (h:C (ltP (ks.getD i (0,0)) (ks.getD j (0,0))) s):PySem.W.kas_ask prog w A (tuples' true) vs i j C s:=by
 obtain⟨a,t,u,o,n,e1,e2,e3⟩:=hp i ks[i] (by simp[hi]);obtain⟨a',t',u',o',n',f1,f2,f3⟩:=hp j ks[j] (by simp[hj]);unfold PySem.W.kas_ask;have g1:vs.getD i bH=.ref a:=by rw[List.getD_eq_getElem?_getD,e1];rfl
 have g2:vs.getD j bH=.ref a':=by rw[List.getD_eq_getElem?_getD,f1];rfl
 have k1:ks.getD i (0,0)=ks[i]:=by simp[hi]
 have k2:ks.getD j (0,0)=ks[j]:=by simp[hj]
 rw[g1,g2];rw[k1,k2]at h;refine PySem.W.kat_lt e2 e3 f2 f3 ?_;show PySem.W.KatLex prog w A true _ C [(ae.int ks[i].1 t,ae.int ks[j].1 t'),(ae.int ks[i].2 u,ae.int ks[j].2 u')] 0 s;refine PySem.W.kat_cons (SeqAt.EqAt.int_int _ _ _ _ prog w _ _ ?_);unfold ltP at h;by_cases hc:ks[i].1=ks[j].1
 ·rw[if_pos hc]at h;rw[show (ks[i].1==ks[j].1)=true by simp[hc]];refine PySem.W.kat_yes (PySem.W.kat_cons (SeqAt.EqAt.int_int _ _ _ _ prog w _ _ ?_));by_cases hd:ks[i].2=ks[j].2
  ·rw[show (ks[i].2==ks[j].2)=true by simp[hd]];refine PySem.W.kat_yes (PySem.W.kat_nil ?_);have:decide (ks[i].2<ks[j].2)=false:=decide_eq_false (by lia);rw[this]at h;exact h
  ·rw[show (ks[i].2==ks[j].2)=false by simp[hd]];exact PySem.W.kat_no (PySem.W.kat_one _ _ (lt_int h))
 ·rw[if_neg hc]at h;rw[show (ks[i].1==ks[j].1)=false by simp[hc]];exact PySem.W.kat_no (oneLt_int h)
end
theorem pd{h:Heap}{a:Addr}{m m':Str->Option ae}(x:h.Ns a m)(y:h.Ns a m'):m=m':=by
 obtain⟨o,es,ep,e1,e2,_,e4⟩:=x;obtain⟨o',es',ep',f1,f2,_,f4⟩:=y;rw[e1]at f1;cases f1;rw[e2]at f2;cases f2;funext n;rw[<-e4,<-f4]
theorem Inv.newList{X:Cx}{pins:List (Addr×Obj)}{σ:St}{H:Hp}{s s':af}{D:Addr}{out:List V}{its:List ae}{c:Nat}(I:Inv X pins σ H s)(hos:s'.os=s.os)(hg:s'.gens=s.gens)
  (k:∀b o,b≠X.env.locals->s.heap.get? b=some o->s'.heap.get? b=some o) (ns:∀m,s.heap.Ns X.env.locals m->s'.heap.Ns X.env.locals m) (hD:s.heap.get? D=none) (hDL:D≠X.env.locals)
  (hl:s'.heap.get? D=some {cls:=.type "list",data:=.seq its.toArray c}) (r:Vals out its) (hz:out.length<=aE):Inv X pins σ (upd H D (.lst out)) s':=by
 obtain⟨h',g',d',t',o'⟩:=s';have eo:o'=s.os:=hos;have eg:g'=s.gens:=hg;subst eo eg;have hpn:H D=none:=I.hok.free_of hD;have np:∀b u,H b=some u->b≠D:=λb u e z=>by rw[z,hpn]at e;cases e
 obtain⟨m0,n0,_⟩:=id I.loc;obtain⟨oL,es,ep,hoL,_⟩:=id n0;obtain⟨oL',es',ep',hoL',_⟩:=ns _ n0;refine I.step (g':=s.gens) (d':=d') (ch:=[]) (λb hb=>absurd hb (by simp)) (λb o hL _ _ e _=>k b o hL e) (λb o hL _ _ e _=>⟨o.slots,k b o hL e⟩) (λb o _ e n=>?_) (λb o _ e=>?_)
  (λb xs e=>by rw[qM (np b _ e)];exact e) (λb o u e=>by rw[qM (np b _ e)];exact e) (λb ps e=>⟨#[],by rw[qM (np b _ e),e];simp⟩) ns (λb u e=>?_) I.bare
 ·rw[qM (λz=>by rw[z,hD]at e;cases e)];exact n
 ·by_cases hL:b=X.env.locals
  ·exact⟨oL',by rw[hL];exact hoL'⟩
  ·exact⟨o,k b o hL e⟩
 ·by_cases hb:b=D
  ·subst hb;rw[zB]at e;cases e;exact⟨hz,its,c,r,hl⟩
  ·rw[qM hb]at e;have nl:∀c,(∃u,H c=some u)->c≠X.env.locals:=λc ⟨u,e⟩ z=>by rw[z,I.free]at e;cases e
   refine(I.hok b u e).stay (λc v hc q=>k c v (nl c ?_) q) (λc q=>by rw[qM (np c _ q)];exact q) λc xs q=>by rw[qM (np c _ q)];exact q
   rcases hc with z|z
   ·exact⟨u,by rw[z];exact e⟩
   ·exact⟨_,z⟩
theorem pE{xs:List V}{us:List ae}(r:Vals xs us):∀(l:List Nat),(∀i∈l,i<xs.length)->Vals (l.map λi=>xs.getD i .non) (l.map λi=>us.getD i .none)
 | [],_=>.nil
 |i::l,h=>by
  have hi:i<xs.length:=h i aH;obtain⟨u,hu,ru⟩:=r.get (i:=i) (x:=xs[i]) (by simp[hi]);refine .cons ?_ (pE r l λj hj=>h j (aI _ hj));have e1:xs.getD i .non=xs[i]:=by simp[hi]
  have e2:us.getD i .none=u:=by rw[List.getD_eq_getElem?_getD,hu];rfl
  show RelV (xs.getD i .non) (us.getD i .none);rw[e1,e2];exact ru
theorem lE{ks:List (Int×Int)}:∀i∈cF ks,i<ks.length:=by
 intro i hi;unfold cF at hi;split at hi
 ·simpa using hi
 ·rename_i h
  have:=bI.run (lt:=λi j=>ltP (ks.getD i (0,0)) (ks.getD j (0,0))) _ (ka (n:=ks.length) (by lia));exact this.2 i (by simpa using hi)
theorem CV{ks:List (Int×Int)}:(cF ks).length=ks.length:=by
 unfold cF;split
 ·simp
 ·rename_i h
  have:=bI.run (lt:=λi j=>ltP (ks.getD i (0,0)) (ks.getD j (0,0))) _ (ka (n:=ks.length) (by lia))
  simpa using this.1
theorem mT{h:Heap}:∀(its:List ae),(∀i,i<its.length->∃a o x y t u n,its[i]? = some (.ref a)/\h.get? a=some o/\o.cls=.type "tuple"/\o.data=.seq #[.int x t,.int y u] n)->∃fs,PySem.W.KatTups h its fs/\fs.length=its.length/\∀v∈fs,∃i t,v=ae.int i t
 | [],_=>⟨[],trivial,rfl,λ_ h=>nomatch h⟩
 |v::r,hh=>by
  obtain⟨fs,k1,k2,k3⟩:=mT r λi hi=>by simpa using hh (i+1) (by simpa using hi)
  obtain⟨a,o,x,y,t,u,n,z1,z2,z3,z4⟩:=hh 0 (by simp);have e:v=.ref a:=by simpa using z1
  subst e;exact⟨.int x t::fs,PySem.W.KatTups.cons z2 z3 z4 rfl k1,by simp[k2],λw hw=>(aF.mp hw).elim (λz=>⟨x,t,z⟩) (k3 w)⟩
section
variable{prog:aq}{w:ak}{A:au}{E:ae->af->Prop}{s:af}
theorem rJ{a:Addr}{vs:List ae}{P:Fin->af->Prop}(hoL:s.heap.get? a=some (aV "list" vs.toArray 0))(h2:vs.length<2)(h:P (.done (.ret .none)) {s with heap:=sortedHeap s.heap a vs vs.toArray}) :
  ah (ai prog w) A (Builtin.«list.sort» ⟨[.ref a],[]⟩) P E s:=by
 rw[list_sort_plain];refine ag (listItems_at  hoL rfl ?_);refine ag (listUpdate_at  hoL rfl ?_ (by rw[aK,aW];lia) (b7 _));obtain⟨e1,ho1⟩:∃e1,(s.heap.update a (bt λ_=>#[])).get? a=some (aV "list" #[] e1):=⟨_,get?_update_seq hoL (λ_=>#[])⟩
 refine ag (seqEpoch_at ho1 rfl ?_);refine ag (wpAny_newTuple ?_ (by show vs.length<=_;rw[aW];lia));refine ag (wpAny_newList ?_ (b7 _));refine cB ?_;have hlt:a<s.heap.objs.size:=aJ hoL;have ho6:(((s.heap.update a (bt λ_=>#[])).push (aV "tuple" vs.toArray 0)).push (aV "list" #[] 0)).get? a=some (aV "list" #[] e1):=by
  rw[Heap.get?_push_ne _ _ _ (by rw[size_push',Heap.size_update];exact aZ (Nat.lt_succ_of_lt hlt)),Heap.get?_push_ne _ _ _ (by rw[Heap.size_update];exact aZ hlt)];exact ho1
 show ah (ai prog w) _ _ _ _ {s with heap:=((s.heap.update a (bt λ_=>#[])).push (aV "tuple" vs.toArray 0)).push (aV "list" #[] 0)};dsimp only;have h2':vs.toArray.size<2:=by rw[aK];exact h2
 rw[if_pos h2',if_pos h2'];refine ag (av ?_);rw[StateT.run_pure];refine ag (av ?_);dsimp only;refine ag (seqEpoch_at ho6 rfl ?_);have hout:(arrOf (SortSt.mk' general' (vs.toArray.zip vs.toArray) #[] 7 none)).map (·.2)=vs.toArray:=by
  show (vs.toArray.zip vs.toArray).map (·.2)=vs.toArray;apply Array.toList_inj.mp;simp[List.map_snd_zip]
 refine ag (listUpdate_at ho6 rfl ?_ (b7 _) (by rw[hout,aK,aW];lia));simp only[bne_self_eq_false,bM,if_false];refine av ?_;rw[hout];exact h
theorem xF{l:Addr}{vs:List ae}{Q:ae->af->Prop}(hl:s.heap.IsList l vs.toArray)(h2:vs.length<2)(h:Q (.ref (s.heap.objs.size+1)) {s with heap:=sortedAll s.heap vs vs.toArray}):ah (ai prog w) A (call (.builtin "sorted") [.ref l]) Q E s:=by
 refine Calls.call_function_entry kind_sorted plain_sorted entry_sorted (args_sorted1 _) ?_;unfold Builtin.«sorted»;refine ag (m:=checkCount "sorted" 1 1 _) (av ?_);refine ag (collect_list hl ?_ (by rw[aW];lia));refine ag (wpAny_newList ?_ (by rw[aW];lia));have hsz:((s.heap.push (aV "list" #[] 0)).update s.heap.objs.size (bt (· ++ vs.toArray))).objs.size=s.heap.objs.size+1:=by rw[Heap.size_update,size_push']
 have hoL:(((s.heap.push (aV "list" #[] 0)).update s.heap.objs.size (bt (· ++ vs.toArray))).push (aV "list" vs.toArray 0)).get? (s.heap.objs.size+1)=some (aV "list" vs.toArray 0):=by rw[<-hsz];exact Heap.get?_push_size _ rfl
 show ah _ _ _ _ _ {s with heap:=((s.heap.push (aV "list" #[] 0)).update s.heap.objs.size (bt (· ++ vs.toArray))).push (aV "list" vs.toArray 0)};rw[hsz];refine ag (cB (cz slot_list_sort ⟨_,hoL,rfl⟩ entry_list_sort ?body (args_list_sort _)))
 case body=>
  exact rJ hoL h2 ⟨_,rfl,av ⟨_,rfl,h⟩⟩
end
noncomputable def AG(K:ao):List V->Hp->VK->Prop:=λvs H Q=>∃(l:Addr) (ps:List Addr) (ks:List (Int×Int)),vs=[.ref l]/\SqL K H l (ps.map V.ref)/\ks.length=ps.length/\ps.length<64 /\
 (∀(i:Nat) p k,ps[i]? = some p->ks[i]? = some k->SqT K H p [.int k.1,.int k.2])/\∀D,H D=none->Q (.ref D) (upd H D (.lst ((cF ks).map λi=>(ps.map V.ref).getD i .non)))
theorem uB{X:Cx}:zl X (.builtin "sorted") (AG X.K):=by
 intro pins s σ H xs us Q I r h;obtain⟨l,ps,ks,rfl,hl,hlen,h64,hp,q⟩:=h;obtain⟨u,rfl,ru⟩:=r.one;cases ru;obtain⟨its,rv,pl,hz⟩:=I.list hl;have hits:its.length=ks.length:=by rw[<-rv.length,aD,hlen]
 have small:ks.length<=sizeLine:=by rw[aW];lia
 have rout:=pE rv (cF ks) (λi hi=>by rw[aD,<-hlen];exact lE i hi);have zout:((cF ks).map λi=>(ps.map V.ref).getD i .non).length<=sizeLine:=by rw[aD,CV];exact small
 by_cases h2:ks.length<2
 ·refine xF pl.isList (by lia) ?_;have e:(cF ks).map (λi=>(ps.map V.ref).getD i .non)=ps.map V.ref:=by
   unfold cF;rw[if_pos h2]
   match ps,ks,hlen with
   | [],[],_=>rfl
   | [p],[k],_=>rfl
   |_::_::_,_::_::t,_=>exact absurd h2 (by show ¬ (t.length+1+1<2);lia)
  obtain⟨c,hc⟩:=sortedAll_at s.heap its its.toArray;have hD0:s.heap.get? (s.heap.objs.size+1)=none:=Heap.get?_none_of_le (Nat.le_succ _);have q':=q (s.heap.objs.size+1) (I.hok.free_of hD0);rw[e]at q';refine⟨.ref (s.heap.objs.size+1),_,I.newList (s':={s with heap:=sortedAll s.heap its its.toArray}) (c:=c) rfl rfl (λb o _ e=>sortedAll_old e) (λm hm=>hm.keeps λb o e=>sortedAll_old e) hD0 (Nat.ne_of_gt (Nat.lt_succ_of_lt I.lt)) hc rv (by rw[aD];lia),rfl,q'⟩
 ·obtain⟨m,F⟩:=I.fr;refine PySem.W.kat_sorted F (o5 (g:=X.base) (h:=s.heap) (L:=X.env.locals)) pl.isList (by lia) (by lia) λD e1 h' F' N' hlt=>?_
  have keep:∀b o,b≠X.env.locals->s.heap.get? b=some o->h'.get? b=some o:=λb o hb e=>by
   cases qb:X.base.get? b with
   |some ob=>have:=I.bk b ob qb;rw[e]at this;cases this;exact F'.keep b _ qb
   |none=>exact(N' (b,o) (aI _ (g6 hb qb e))).1
  have hDn:=N' (D,_) aH;have hD0:s.heap.get? D=none:=by
   cases qd:s.heap.get? D with
   |none=>rfl
   |some o=>exact absurd (hlt (D,o) (g6 hDn.2.1 hDn.2.2 qd)) (bx _)
  have tup:∀(i:Nat) p,ks[i]? = some p->∃a t u o n,its[i]? = some (.ref a)/\h'.get? a=some o/\o.cls=.type "tuple"/\o.data=.seq #[.int p.1 t,.int p.2 u] n:=λi p hk=>by
   have hi:i<ks.length:=(List.getElem?_eq_some_iff.mp hk).1;have hi':i<ps.length:=by lia
   obtain⟨v,hv,rvv⟩:=rv.get (i:=i) (x:=.ref ps[i]) (by simp[hi']);cases rvv;obtain⟨its2,r2,p2,_⟩:=I.tuple (hp i ps[i] p (by simp[hi']) hk);obtain⟨v1,v2,rfl,⟨t,rfl⟩,⟨u,rfl⟩⟩:=r2.two;obtain⟨o,e1,e2,n,e3⟩:=p2;have hne:ps[i]≠X.env.locals:=λz=>by
    obtain⟨_,⟨oL,es,ep,hoL,hdL,_⟩,_⟩:=I.loc;rw[z,hoL]at e1;cases e1;rw[hdL]at e3;cases e3
   exact⟨ps[i],t,u,o,n,hv,keep _ _ hne e1,e2,e3⟩
  obtain⟨fs,kt,kl,kf⟩:=mT (h:=h') its λi hi=>by
   obtain⟨a,t,u,o,n,z1,z2,z3,z4⟩:=tup i ks[i] (by simp[show i<ks.length by lia]);exact⟨a,o,_,_,t,u,n,z1,z2,z3,z4⟩
  refine PySem.W.kat_kind (s:={s with heap:=h'}) (T:=.type "int") (fs:=fs) kt (by lia) (λv hv=>?_) (by decide) ?_
  ·obtain⟨i,t,rfl⟩:=kf v hv;exact PySem.W.Looks.of_pure rfl
  ·have hb:((ae.type "int") != ae.type "tuple")=true:=by decide
   rw[hb];refine mP (n:=ks.length) (r:=Bel ks.length) (lt:=λi j=>ltP (ks.getD i (0,0)) (ks.getD j (0,0))) (λi j C hi hj hC=>?_) _ (by rw[hits];exact ka (by lia)) ?_
   ·exact rC (s:={s with heap:=h'}) hits.symm (λi p hk=>by obtain⟨a,t,u,o,n,z1,z2,_,z4⟩:=tup i p hk;exact⟨a,t,u,o,n,z1,z2,z4⟩) hi hj hC
   ·refine⟨_,_,F',N',.head (λp hp=>aZ (hlt p hp)),λh'' c F'' N''=>?_⟩;have e:(qg (λi j=>ltP (ks.getD i (0,0)) (ks.getD j (0,0))) (PySem.W.kas_sort its.length)).toList=cF ks:=by unfold cF;rw[if_neg h2,hits]
    rw[e]at N'';refine⟨.ref D,_,I.newList (s':={s with heap:=h''}) (c:=c) rfl rfl (λb o hb e=>?_) (λm' hm'=>?_) hD0 hDn.2.1 (N'' (D,_) aH).1 rout zout,rfl,q D (I.hok.free_of hD0)⟩
    ·cases qb:X.base.get? b with
     |some ob=>have:=I.bk b ob qb;rw[e]at this;cases this;exact F''.keep b _ qb
     |none=>exact(N'' (b,o) (aI _ (g6 hb qb e))).1
    ·rw[pd hm' F.ns];exact F''.ns
section
variable{X:Cx}{pins:List (Addr×Obj)}{σ:St}{H:Hp}{s:af}
theorem Cy{A:au}{bs:List Bool}{us:List ae}(r:Vals (bs.map V.bl) us):us=bs.map ae.bool:=by
 induction bs generalizing us with
 |nil=>cases r;rfl
 |cons b bs ih=>cases r with
  |cons h t=>rw[ih t,show _=ae.bool b from h];rfl
end
section
variable{X:Cx}
noncomputable def o7(r r' r'':R2)(ta tb tc td:TE):TE:=λσ H Q=>ta σ H λx H1=>tb σ H1 λy H2=>r x y H2 λz H3=>∃k,z=.bl k /\
 (if k=true then tc σ H3 λw' H4=>r' y w' H4 λz H5=>∃k,z=.bl k/\(if k=true then td σ H5 λw'' H6=>r'' w' w'' H6 Q else Q (.bl false) H5)else Q (.bl false) H3)
theorem uG{a b c d:Expr}{ta tb tc td:TE}{pos:Pos}{op op' op'':CmpOp}{r r' r'':R2}(ho:OpR X (aQ op) r)(ho':OpR X (aQ op') r')(ho'':OpR X (aQ op'') r'')(ha:PE X a ta)(hb:PE X b tb)(hc:PE X c tc)(hd:PE X d td)
  (hm:lastMarks [op,op',op''] [b,c,d]=false:=by with_unfolding_all rfl):PE X (.Compare a [op,op',op''] [b,c,d] pos) (o7 r r' r'' ta tb tc td):=by
 intro pins s σ H Q I h;refine Compare_chain (thn (ha pins s σ H _ I h) λv s1 ⟨x,H1,I1,r1,q1⟩=>chain_link (thn (hb pins s1 σ H1 _ I1 q1) λu s2 ⟨y,H2,I2,r2,q2⟩=>
  thn (ho pins s2 σ H2 x y v u _ I2 r1 r2 q2) λd s3 ⟨z,H3,I3,r3,k,e,q3⟩=>?_)) hm
 subst e;cases r3;refine bD ?_;cases k with
 |false=>exact ite_ff ⟨.bl false,H3,I3,rfl,q3⟩
 |true=>
  refine ite_tt (chain_link (thn (hc pins s3 σ H3 _ I3 q3) λw' s4 ⟨z',H4,I4,r4,q4⟩=>thn (ho' pins s4 σ H4 y z' u w' _ I4 r2 r4 q4) λd' s5 ⟨z2,H5,I5,r5,k2,e2,q5⟩=>?_));subst e2;cases r5;refine bD ?_;cases k2 with
  |false=>exact ite_ff ⟨.bl false,H5,I5,rfl,q5⟩
  |true=>exact ite_tt (chain_last (thn (hd pins s5 σ H5 _ I5 q5) λw'' s6 ⟨z3,H6,I6,r6,q6⟩=>ho'' pins s6 σ H6 z' z3 w' w'' Q I6 r4 r6 q6))
noncomputable def uy(K:ao):R2:=λx y H Q=>∃a b xs ys,x=.ref a/\y=.ref b/\SqT K H a xs/\SqT K H b ys/\xs.length+ys.length<=aE /\
 (xs=[]->Q (.ref b) H)/\(xs≠[]->ys=[]->Q (.ref a) H)/\(xs≠[]->ys≠[]->∀p,H p=none->Q (.ref p) (upd H p (.tup (xs++ys))))
theorem uL:OpR X (binaryOp .Add) (uy X.K):=by
 intro pins s σ H x y v u Q I rx ry h;obtain⟨a,b,xs,ys,rfl,rfl,ha,hb,hz,q0,q1,q2⟩:=h;by_cases hx:xs=[]
 ·subst hx;cases rx;cases ry;obtain⟨its,r1,p1,_⟩:=I.tuple ha;obtain⟨its2,r2,p2,_⟩:=I.tuple hb;cases r1;obtain⟨⟨cls,dd,data,sl⟩,ho,hc,n,hd⟩:=id p1;obtain⟨⟨cls2,dd2,data2,sl2⟩,ho2,hc2,n2,hd2⟩:=id p2;simp only at hc hd hc2 hd2;subst hc hd hc2 hd2;exact concat_meets ⟨_,ho,rfl⟩ ⟨_,ho2,rfl⟩ noFill_tuple_add seq_tuple_add PySem.F.slot_tuple_add PySem.F.entry_tuple_add (PySem.F.args_tuple_add_2 _ _)
   (tuple_addW0 a b _ its2.toArray n n2 dd dd2 sl sl2 (by simp)) ⟨ho,ho2,⟨.ref b,H,I,rfl,q0 rfl⟩⟩
 ·exact AH pins s σ H (.ref a) (.ref b) v u Q I rx ry ⟨a,b,xs,ys,rfl,rfl,ha,hb,hx,hz,q1 hx,q2 hx⟩
theorem iF{vs:List ae}{ns:List Int}(h:a8 vs ns):Vals (ns.map V.int) vs:=by
 induction h with
 |nil=>exact .nil
 |cons n t _ ih=>exact .cons ⟨t,rfl⟩ ih
noncomputable def v9(K:ao):List V->Hp->VK->Prop:=λvs H Q=>∃(l:Addr) (ns:List Int),vs=[.ref l]/\SqL K H l (ns.map V.int)/\ns.length<64/\∀(D:Addr) (ms:List Int),H D=none->ms.Perm ns->ms.Pairwise (·<=·)->Q (.ref D) (upd H D (.lst (ms.map V.int)))
theorem A5:zl X (.builtin "sorted") (v9 X.K):=by
 intro pins s σ H xs us Q I r h;obtain⟨l,ns,rfl,hl,h64,q⟩:=h;obtain⟨u,rfl,ru⟩:=r.one;cases ru;obtain⟨its,rv,pl,hz⟩:=I.list hl;obtain⟨m,F⟩:=I.fr;refine PySem.W.kso_sorted F (o5 (g:=X.base) (h:=s.heap) (L:=X.env.locals)) pl.isList (intsAre_of rv) h64 λD vs' ns' c h' F' N' hlt hi he hp ho _=>?_
 have keep:∀b o,b≠X.env.locals->s.heap.get? b=some o->h'.get? b=some o:=λb o hb e=>by
  cases qb:X.base.get? b with
  |some ob=>have:=I.bk b ob qb;rw[e]at this;cases this;exact F'.keep b _ qb
  |none=>exact(N' (b,o) (aI _ (g6 hb qb e))).1
 have hDn:=N' (D,_) aH;have hD0:s.heap.get? D=none:=by
  cases qd:s.heap.get? D with
  |none=>rfl
  |some o=>exact absurd (hlt (D,o) (g6 hDn.2.1 hDn.2.2 qd)) (bx _)
 refine⟨.ref D,_,I.newList (s':={s with heap:=h'}) (c:=c) rfl rfl keep (λm' hm'=>?_) hD0 hDn.2.1 hDn.1 (iF hi) (by rw[aD,he,aW];lia),rfl,q D ns' (I.hok.free_of hD0) hp ho⟩;rw[pd hm' F.ns];exact F'.ns
end
end L2
namespace L2
open PySem PySem.Spec PyProof.Rows PySem.SeqAt
mutual
inductive dM(K:ao)(H:Hp):V->PyData->Prop
 |non:dM K H .non .none
 |bl (b:Bool):dM K H (.bl b) (.bool b)
 |int (i:Int):dM K H (.int i) (.int i)
 |str (x:Str):dM K H (.str x) (.str x)
 |lst {a:Addr}{xs:List V}{ds:List PyData}:SqL K H a xs->gb K H xs ds->dM K H (.ref a) (.list ds)
 |tup {a:Addr}{xs:List V}{ds:List PyData}:SqT K H a xs->gb K H xs ds->dM K H (.ref a) (.tuple ds)
inductive gb(K:ao)(H:Hp):List V->List PyData->Prop
 |nil:gb K H [] []
 |cons {x:V}{xs:List V}{d:PyData}{ds:List PyData}:dM K H x d->gb K H xs ds->gb K H (x::xs) (d::ds)
end
section
variable{X:Cx}{pins:List (Addr×Obj)}{σ:St}{H:Hp}{s:af}
theorem Inv.reads(I:Inv X pins σ H s){x:V}{d:PyData}(h:dM X.K H x d):∀{u:ae},RelV x u->∃as,Reads s.heap u d as:=
 h.rec (motive_1:=λx d _=>∀{u:ae},RelV x u->∃as,Reads s.heap u d as) (motive_2:=λxs ds _=>∀{us:List ae},Vals xs us->∃as,ReadsAll s.heap us ds as) (λr=>by cases r;exact⟨_,.none⟩) (λb _ r=>by cases r;exact⟨_,.bool b⟩) (λi _ r=>by obtain⟨t,rfl⟩:=r;exact⟨_,.int i t⟩) (λx _ r=>by obtain⟨t,rfl⟩:=r;exact⟨_,.str x t⟩)
  (λh _ g _ r=>by
   cases r;obtain⟨its,rv,pl,_⟩:=I.list h;obtain⟨as,ra⟩:=g rv;obtain⟨o,ho,hc,n,hd⟩:=pl.isList;exact⟨_,Reads.list ho hc hd (by simpa using ra)⟩)
  (λh _ g _ r=>by
   cases r;obtain⟨its,rv,pl,_⟩:=I.tuple h;obtain⟨as,ra⟩:=g rv;obtain⟨o,ho,hc,n,hd⟩:=pl;exact⟨_,Reads.tuple ho hc hd (by simpa using ra)⟩)
  (λr=>by cases r;exact⟨_,.nil⟩) (λ_ _ a b _ r=>by
   cases r with
   |cons r1 r2=>
    obtain⟨as,ra⟩:=a r1;obtain⟨bs,rb⟩:=b r2;exact⟨_,.cons ra rb⟩)
end
section
variable{X:Cx}
end
end L2
namespace L2
open PySem PySem.Spec PyProof.Rows
theorem fW{α β:Type}{lt:Nat->Nat->Bool}{f:α->PySem.W.KasT β}:∀t:PySem.W.KasT α,qg lt (t.bind f)=qg lt (f (qg lt t))
 | .ret _=>rfl
 | .ask i j k=>fW (k (lt i j))
theorem rE{a b:Int×Int}(h:ltP a b=true):ltP b a=false:=by
 unfold ltP at *;by_cases x:a.1=b.1
 ·rw[if_pos x]at h;rw[if_pos x.symm];simp only[decide_eq_true_eq]at h;exact decide_eq_false (by lia)
 ·rw[if_neg x]at h;rw[if_neg (λz=>x z.symm)];simp only[decide_eq_true_eq]at h;exact decide_eq_false (by lia)
structure Wk(lt:Nat->Nat->Bool):Prop where
 asym:∀a b,lt a b=true->lt b a=false
 neg:∀a b c,lt b a=false->lt c b=false->lt c a=false
section
variable{lt:Nat->Nat->Bool}
noncomputable def Asc(lt:Nat->Nat->Bool)(p:Array Nat)(m:Nat):Prop:=∀i j,i<j->j<m->lt (p.getD j 0) (p.getD i 0)=false
noncomputable def Dsc(lt:Nat->Nat->Bool)(p:Array Nat)(m:Nat):Prop:=∀i j,i<j->j<m->lt (p.getD i 0) (p.getD j 0)=false
theorem getD_at(p:Array Nat)(i:Nat):p.getD i 0=(p[i]?).getD 0:=by
 unfold Array.getD;split
 ·rename_i h;simp[h]
 ·rename_i h;simp[h]
theorem eN{p:Array Nat}{i j:Nat}(hj:j<=p.size)(k:Nat):(bj p i j).getD k 0=if i<=k/\k<j then p.getD (i+j-1-k) 0 else p.getD k 0:=by
 rw[getD_at,getD_at,getD_at];unfold bj;rw[getElem?_mirror_all hj];split<;>rfl
theorem ip(p:Array Nat)(i j:Nat):(bj p i j).size=p.size:=mirror_size _ _ _ _
theorem iO(p:Array Nat)(i j:Nat):(bj p i j).Perm p:=mirror_perm _ _ _ _
theorem Dsc.rev{p:Array Nat}{n:Nat}(h:Dsc lt p n)(hn:n<=p.size):Asc lt (bj p 0 n) n:=λi j hij hj=>by
 rw[eN hn,eN hn,if_pos (by lia),if_pos (by lia)];exact h _ _ (by lia) (by lia)
theorem jH(W:Wk lt){p:Array Nat}:∀(f n:Nat),1<=n->Asc lt p n->n<=qg lt (PySem.W.kas_asc p f n)/\qg lt (PySem.W.kas_asc p f n)<=n+f/\Asc lt p (qg lt (PySem.W.kas_asc p f n)) /\
  (qg lt (PySem.W.kas_asc p f n)<n+f->lt (p.getD (qg lt (PySem.W.kas_asc p f n)) 0) (p.getD (qg lt (PySem.W.kas_asc p f n)-1) 0)=true)
 | 0,n,_,h=>⟨aB _,aB _,h,λz=>absurd z (bx _)⟩
 |f+1,n,h1,h=>by
  have e:qg lt (PySem.W.kas_asc p (f+1) n)=qg lt (if lt (p.getD n 0) (p.getD (n-1) 0)=true then .ret n else PySem.W.kas_asc p f (n+1)):=rfl;rw[e];cases hc:lt (p.getD n 0) (p.getD (n-1) 0)with
  |true=>
   rw[if_pos rfl];exact⟨aB _,Nat.le_add_right _ _,h,λ_=>hc⟩
  |false=>
   rw[if_neg (by decide)];obtain⟨a1,a2,a3,a4⟩:=jH W f (n+1) (by lia) λi j hij hj=>by
    by_cases hjn:j<n
    ·exact h i j hij hjn
    ·have:j=n:=by lia
     subst this;by_cases hi:i=j-1
     ·subst hi;exact hc
     ·exact W.neg _ _ _ (h i (j-1) (by lia) (by lia)) hc
   exact⟨by lia,by lia,a3,λz=>a4 (by lia)⟩
noncomputable def Run(lt:Nat->Nat->Bool)(p:Array Nat)(n q:Nat):Prop:=∀i j,n-1-q<=i->i<n->n-1-q<=j->j<n->lt (p.getD i 0) (p.getD j 0)=false
theorem Dsc.run{p:Array Nat}{n q:Nat}(h:Dsc lt p n)(r:Run lt p n q)(hq:q<n)(hn:n<=p.size):Dsc lt (bj p (n-(q+1)) n) n:=λi j hij hj=>by
 rw[eN hn,eN hn];by_cases ci:n-(q+1)<=i
 ·rw[if_pos (by lia),if_pos (by lia)];exact r _ _ (by lia) (by lia) (by lia) (by lia)
 ·rw[if_neg (by lia)];split
  ·exact h _ _ (by lia) (by lia)
  ·exact h _ _ hij hj
theorem iK(W:Wk lt):∀(f:Nat) (p:Array Nat) (n q:Nat),1<=n->n+f<=p.size->q<n->Dsc lt p n->Run lt p n q ->
  (qg lt (bg f p n q)).1.Perm p/\(qg lt (bg f p n q)).1.size=p.size/\n<=(qg lt (bg f p n q)).2.1/\(qg lt (bg f p n q)).2.1<=n+f /\
  (qg lt (bg f p n q)).2.2<(qg lt (bg f p n q)).2.1/\Dsc lt (qg lt (bg f p n q)).1 (qg lt (bg f p n q)).2.1/\Run lt (qg lt (bg f p n q)).1 (qg lt (bg f p n q)).2.1 (qg lt (bg f p n q)).2.2
 | 0,p,n,q,h1,hs,hq,hd,hr=>⟨Array.Perm.refl _,rfl,aB _,aB _,hq,hd,hr⟩
 |f+1,p,n,q,h1,hs,hq,hd,hr=>by
  have e:qg lt (bg (f+1) p n q)=qg lt (if lt (p.getD n 0) (p.getD (n-1) 0)=true then (if q>0 then bg f (bj p (n-(q+1)) n) (n+1) 0 else bg f p (n+1) 0)
   else .ask (p.getD (n-1) 0) (p.getD n 0) λd=>if d=true then .ret (p,n,q)else bg f p (n+1) (q+1)):=rfl
  rw[e];have one:∀p':Array Nat,Run lt p' (n+1) 0:=λp' i j hi hi' hj hj'=>by
   have:i=j:=by lia
   subst this;cases z:lt (p'.getD i 0) (p'.getD i 0)with
   |false=>rfl
   |true=>have:=W.asym _ _ z;rw[z]at this;cases this
  have grow:∀p':Array Nat,Dsc lt p' n->(∀i,i<n->lt (p'.getD i 0) (p'.getD n 0)=false)->Dsc lt p' (n+1):=λp' hd' hn' i j hij hj=>by
   by_cases hjn:j<n
   ·exact hd' i j hij hjn
   ·have:j=n:=by lia
    subst this;exact hn' i hij
  have refl:∀a,lt a a=false:=λa=>by
   cases z:lt a a with
   |false=>rfl
   |true=>have:=W.asym _ _ z;rw[z]at this;cases this
  cases hc:lt (p.getD n 0) (p.getD (n-1) 0)with
  |true=>
   rw[if_pos rfl];have hc':=W.asym _ _ hc;have below:∀i,i<n->lt (p.getD i 0) (p.getD n 0)=false:=λi hi=>by
    by_cases z:i=n-1
    ·subst z;exact hc'
    ·exact W.neg _ _ _ hc' (hd i (n-1) (by lia) (by lia))
   by_cases h0:q>0
   ·rw[if_pos h0];have hsz:(bj p (n-(q+1)) n).size=p.size:=ip _ _ _;obtain⟨a1,a2,a3,a4,a5,a6,a7⟩:=iK W f (bj p (n-(q+1)) n) (n+1) 0 (by lia) (by rw[hsz];lia) (by lia) (grow _ (hd.run hr hq (by lia)) λi hi=>by
     rw[eN (by lia),eN (by lia),if_neg (show ¬ (n-(q+1)<=n/\n<n)by lia)];split
     ·exact below _ (by lia)
     ·exact below _ hi) (one _)
    exact⟨a1.trans (iO _ _ _),a2.trans hsz,by lia,by lia,a5,a6,a7⟩
   ·rw[if_neg h0];obtain⟨a1,a2,a3,a4,a5,a6,a7⟩:=iK W f p (n+1) 0 (by lia) (by lia) (by lia) (grow _ hd below) (one _);exact⟨a1,a2,by lia,by lia,a5,a6,a7⟩
  |false=>
   rw[if_neg (by decide)];have e2:qg lt (.ask (p.getD (n-1) 0) (p.getD n 0) λd=>if d=true then .ret (p,n,q)else bg f p (n+1) (q+1))=qg lt (if lt (p.getD (n-1) 0) (p.getD n 0)=true then .ret (p,n,q)else bg f p (n+1) (q+1)):=rfl;rw[e2];cases hd2:lt (p.getD (n-1) 0) (p.getD n 0)with
   |true=>
    rw[if_pos rfl];exact⟨Array.Perm.refl _,rfl,aB _,Nat.le_add_right _ _,hq,hd,hr⟩
   |false=>
    rw[if_neg (by decide)];obtain⟨a1,a2,a3,a4,a5,a6,a7⟩:=iK W f p (n+1) (q+1) (by lia) (by lia) (by lia) (grow _ hd λi hi=>by
     by_cases z:i=n-1
     ·subst z;exact hd2
     ·exact W.neg _ _ _ hd2 (hd i (n-1) (by lia) (by lia))) (λi j hi hi' hj hj'=>by
     by_cases zi:i=n
     ·by_cases zj:j=n
      ·rw[zi,zj];exact refl _
      ·rw[zi];exact W.neg _ _ _ (hr (n-1) j (by lia) (by lia) (by lia) (by lia)) hc
     ·by_cases zj:j=n
      ·rw[zj];exact W.neg _ _ _ hd2 (hr i (n-1) (by lia) (by lia) (by lia) (by lia))
      ·exact hr i j (by lia) (by lia) (by lia) (by lia))
    exact⟨a1,a2,by lia,by lia,a5,a6,a7⟩
end
section
variable{lt:Nat->Nat->Bool}
structure Part(lt:Nat->Nat->Bool)(p:Array Nat)(r:Nat×Array Nat):Prop where
 perm:r.2.Perm p
 size:r.2.size=p.size
 lo:1<=r.1
 hi:r.1<=p.size
 asc:Asc lt r.2 r.1
theorem oO(W:Wk lt){p:Array Nat}{n:Nat}(h1:1<=n)(hn:n<=p.size)(hd:Dsc lt p n):Part lt p (qg lt (PySem.W.kas_tail3 n p.size p)):=by
 unfold PySem.W.kas_tail3;rw[fW];obtain⟨a1,a2,a3,_⟩:=jH W (p:=bj p 0 n) (p.size-n) n h1 (hd.rev hn);exact⟨iO _ _ _,ip _ _ _,ba h1 a1,by show qg lt (PySem.W.kas_asc (bj p 0 n) (p.size-n) n)<=_;lia,a3⟩
theorem Part.of{p p':Array Nat}{r:Nat×Array Nat}(h:Part lt p' r)(hp:p'.Perm p)(hs:p'.size=p.size):Part lt p r:=⟨h.perm.trans hp,h.size.trans hs,h.lo,hs▸h.hi,h.asc⟩
theorem mQ(W:Wk lt){p:Array Nat}{n:Nat}(hn:n+1<=p.size)(hd:Dsc lt p (n+1)):Part lt p (qg lt (PySem.W.kas_descPart n p.size p)):=by
 unfold PySem.W.kas_descPart;rw[fW];have refl:∀a,lt a a=false:=λa=>by
  cases z:lt a a with
  |false=>rfl
  |true=>have:=W.asym _ _ z;rw[z]at this;cases this
 obtain⟨a1,a2,a3,a4,a5,a6,a7⟩:=iK W (p.size-(n+1)) p (n+1) 0 (by lia) (by lia) (by lia) hd λi j hi hi' hj hj'=>by
  have:i=j:=by lia
  subst this;exact refl _
 generalize qg lt (bg (p.size-(n+1)) p (n+1) 0)=r at a1 a2 a3 a4 a5 a6 a7;split
 ·have hsz:(bj r.1 (r.2.1-(r.2.2+1)) r.2.1).size=p.size:=(ip _ _ _).trans a2;have T:=oO W (p:=bj r.1 (r.2.1-(r.2.2+1)) r.2.1) (n:=r.2.1) (by lia) (by rw[hsz];lia) (a6.run a7 a5 (by lia));rw[hsz]at T;exact T.of ((iO _ _ _).trans a1) hsz
 ·have T:=oO W (p:=r.1) (n:=r.2.1) (by lia) (by lia) a6;rw[a2]at T;exact T.of a1 a2
theorem rA(W:Wk lt){p:Array Nat}(h1:1<=p.size):Part lt p (qg lt (PySem.W.kas_count p.size p)):=by
 unfold PySem.W.kas_count;rw[fW];obtain⟨a1,a2,a3,a4⟩:=jH W (p:=p) (p.size-1) 1 (aB _) λi j hij hj=>by lia
 generalize qg lt (PySem.W.kas_asc p (p.size-1) 1)=n at a1 a2 a3 a4;by_cases he:n=p.size
 ·rw[if_pos (by simp[he])];exact⟨Array.Perm.refl _,rfl,a1,by show n<=_;lia,a3⟩
 ·rw[if_neg (by simp[he])];have hlt:=a4 (by lia);have hle:=W.asym _ _ hlt;have start:∀p':Array Nat,(∀i,i<n->lt (p'.getD i 0) (p.getD (n-1) 0)=false/\lt (p.getD (n-1) 0) (p'.getD i 0)=false)->p'.getD n 0=p.getD n 0->Dsc lt p' (n+1):=λp' hp' en i j hij hj=>by
   by_cases hjn:j<n
   ·exact W.neg _ _ _ (hp' j hjn).2 (hp' i (by lia)).1
   ·have:j=n:=by lia
    subst this;rw[en];exact W.neg _ _ _ hle (hp' i hij).1
  by_cases h2:n>1
  ·rw[if_pos h2];have e2:∀t u:PySem.W.KasT (Nat×Array Nat),qg lt (.ask (p.getD 0 0) (p.getD (n-1) 0) λc=>if c=true then t else u)=qg lt (if lt (p.getD 0 0) (p.getD (n-1) 0)=true then t else u):=λ_ _=>rfl
   rw[e2];cases hc:lt (p.getD 0 0) (p.getD (n-1) 0)with
   |true=>
    rw[if_pos rfl];exact⟨Array.Perm.refl _,rfl,a1,by show n<=_;lia,a3⟩
   |false=>
    rw[if_neg (by decide)];have hsz:(bj p 0 n).size=p.size:=ip _ _ _;have all:∀i,i<n->lt (p.getD i 0) (p.getD (n-1) 0)=false/\lt (p.getD (n-1) 0) (p.getD i 0)=false:=λi hi=>by
     have up:lt (p.getD (n-1) 0) (p.getD i 0)=false:=by
      by_cases z:i=n-1
      ·rw[z];cases y:lt (p.getD (n-1) 0) (p.getD (n-1) 0)with
       |false=>rfl
       |true=>have:=W.asym _ _ y;rw[y]at this;cases this
      ·exact a3 i (n-1) (by lia) (by lia)
     refine⟨?_,up⟩;by_cases z:i=0
     ·rw[z];exact hc
     ·exact W.neg _ _ _ hc (a3 0 i (by lia) hi)
    have T:=mQ W (p:=bj p 0 n) (n:=n) (by lia) (start _ (λi hi=>by rw[eN (by lia),if_pos (by lia)];exact all _ (by lia)) (by rw[eN (by lia),if_neg (by lia)]));rw[hsz]at T;exact T.of (iO _ _ _) hsz
  ·rw[if_neg h2];have:n=1:=by lia
   subst this;have refl:∀a,lt a a=false:=λa=>by
    cases z:lt a a with
    |false=>rfl
    |true=>have:=W.asym _ _ z;rw[z]at this;cases this
   exact mQ W (by lia) (start p (λi hi=>by
    have:i=0:=by lia
    subst this;exact⟨refl _,refl _⟩) rfl)
theorem place_spec(W:Wk lt){p:Array Nat}{k:Nat}(hs:Asc lt p k):∀(f l r:Nat),l<=r->r<=k->r-l<=f->(∀i,i<l->lt (p.getD k 0) (p.getD i 0)=false)->(∀i,r<=i->i<k->lt (p.getD k 0) (p.getD i 0)=true) ->
  qg lt (PySem.W.kas_place p k f l r)<=k/\(∀i,i<qg lt (PySem.W.kas_place p k f l r)->lt (p.getD k 0) (p.getD i 0)=false)/\(∀i,qg lt (PySem.W.kas_place p k f l r)<=i->i<k->lt (p.getD k 0) (p.getD i 0)=true)
 | 0,l,r,h1,h2,h3,hl,hr=>⟨by show l<=k;lia,hl,λi hi=>hr i (by have:l<=i:=hi;lia)⟩
 |f+1,l,r,h1,h2,h3,hl,hr=>by
  unfold PySem.W.kas_place;by_cases hg:l >= r
  ·rw[if_pos hg];exact⟨by show l<=k;lia,hl,λi hi=>hr i (by have:l<=i:=hi;lia)⟩
  ·rw[if_neg hg];have e2:∀t u:PySem.W.KasT Nat,qg lt (.ask (p.getD k 0) (p.getD ((l+r)/2) 0) λc=>if c=true then t else u)=qg lt (if lt (p.getD k 0) (p.getD ((l+r)/2) 0)=true then t else u):=λ_ _=>rfl
   rw[e2];cases hc:lt (p.getD k 0) (p.getD ((l+r)/2) 0)with
   |true=>
    rw[if_pos rfl];refine place_spec W hs f l ((l+r)/2) (by lia) (by lia) (by lia) hl λi hi hik=>?_
    by_cases z:i=(l+r)/2
    ·rw[z];exact hc
    ·cases y:lt (p.getD k 0) (p.getD i 0)with
     |true=>rfl
     |false=>
      have:=W.neg _ _ _ (hs ((l+r)/2) i (by lia) hik) y;rw[hc]at this;cases this
   |false=>
    rw[if_neg (by decide)];refine place_spec W hs f ((l+r)/2+1) r (by lia) h2 (by lia) (λi hi=>?_) hr;by_cases z:i=(l+r)/2
    ·rw[z];exact hc
    ·exact W.neg _ _ _ (hs i ((l+r)/2) (by lia) (by lia)) hc
theorem nV{p:Array Nat}{k x:Nat}(hk:k<p.size)(hx:x<=k)(i:Nat):(bubble p k (k-x)).getD i 0=if i=x then p.getD k 0 else if x<i/\i<=k then p.getD (i-1) 0 else p.getD i 0:=by
 rw[getD_at,getElem?_bubble hk _ (by lia),show k-(k-x)=x by lia,getD_at,getD_at,getD_at];split
 ·rfl
 ·split<;>rfl
theorem ph(W:Wk lt):∀(f:Nat) (p:Array Nat) (k:Nat),k+f<=p.size->Asc lt p k->(qg lt (PySem.W.kas_bin f p k)).Perm p/\Asc lt (qg lt (PySem.W.kas_bin f p k)) (k+f)
 | 0,p,k,_,h=>⟨Array.Perm.refl _,h⟩
 |f+1,p,k,hs,h=>by
  unfold PySem.W.kas_bin;rw[fW];obtain⟨a1,a2,a3⟩:=place_spec W h k 0 k (b7 _) (aB _) (by lia) (λi hi=>by lia) (λi hi hik=>by lia);generalize qg lt (PySem.W.kas_place p k k 0 k)=x at a1 a2 a3;have hsz:(bubble p k (k-x)).size=p.size:=bubble_size _ _ _;obtain⟨b1,b2⟩:=ph W f (bubble p k (k-x)) (k+1) (by rw[hsz];lia) λi j hij hj=>by
   rw[nV (by lia) a1,nV (by lia) a1];by_cases zj:j=x
   ·rw[if_pos zj,if_neg (by lia),if_neg (by lia)];exact a2 i (by lia)
   ·rw[if_neg zj];by_cases gj:x<j
    ·rw[if_pos (by lia)];by_cases zi:i=x
     ·rw[if_pos zi];exact W.asym _ _ (a3 (j-1) (by lia) (by lia))
     ·rw[if_neg zi];by_cases gi:x<i
      ·rw[if_pos (by lia)];exact h _ _ (by lia) (by lia)
      ·rw[if_neg (by lia)];exact h _ _ (by lia) (by lia)
    ·rw[if_neg (by lia),if_neg (by lia),if_neg (by lia)];exact h _ _ hij (by lia)
  refine⟨b1.trans (bubble_perm _ _ _),?_⟩;rw[show k+(f+1)=k+1+f by lia];exact b2
theorem xK(W:Wk lt){n:Nat}(hn:0<n):(qg lt (PySem.W.kas_sort n)).toList.Perm (a9 n)/\Asc lt (qg lt (PySem.W.kas_sort n)) n:=by
 unfold PySem.W.kas_sort;rw[fW];have hsz:(a9 n).toArray.size=n:=by simp
 have C:=rA W (p:=(a9 n).toArray) (by rw[hsz];lia);rw[hsz]at C;generalize qg lt (PySem.W.kas_count n (a9 n).toArray)=r at C;have tl:∀q:Array Nat,q.Perm (a9 n).toArray->q.toList.Perm (a9 n):=λq hq=>by
  have:=Array.perm_iff_toList_perm.mp hq
  simpa using this
 have hh:=C.hi;have hl:=C.lo;have h2:=C.size;rw[hsz]at hh h2;split
 ·rename_i hlt
  rw[show max r.1 1=r.1 by lia];obtain⟨b1,b2⟩:=ph W (n-r.1) r.2 r.1 (by lia) C.asc;rw[show r.1+(n-r.1)=n by lia]at b2;exact⟨tl _ (b1.trans C.perm),b2⟩
 ·rename_i hlt
  have:r.1=n:=by lia
  refine⟨tl _ C.perm,?_⟩;have:=C.asc;rw[show r.1=n by lia]at this;exact this
end
theorem pR(f:Nat->Int×Int):Wk λi j=>ltP (f i) (f j):=by
 refine⟨λa b h=>rE h,λa b c h1 h2=>?_⟩;unfold ltP at *;generalize f a=x at *;generalize f b=y at *;generalize f c=z at *;by_cases e1:y.1=x.1
 ·rw[if_pos e1]at h1;by_cases e2:z.1=y.1
  ·rw[if_pos e2]at h2;rw[if_pos (by lia)];have h1:=of_decide_eq_false h1;have h2:=of_decide_eq_false h2;exact decide_eq_false (by lia)
  ·rw[if_neg e2]at h2;have h2:=of_decide_eq_false h2;rw[if_neg (by lia)];exact decide_eq_false (by lia)
 ·rw[if_neg e1]at h1;have h1:=of_decide_eq_false h1;by_cases e2:z.1=y.1
  ·rw[if_neg (by lia)];exact decide_eq_false (by lia)
  ·rw[if_neg e2]at h2;have h2:=of_decide_eq_false h2;rw[if_neg (by lia)];exact decide_eq_false (by lia)
theorem AR(ks:List (Int×Int)):(cF ks).Perm (a9 ks.length)/\((cF ks).map λi=>ks.getD i (0,0)).Pairwise λa b=>ltP b a=false:=by
 unfold cF;by_cases h2:ks.length<2
 ·rw[if_pos h2];refine⟨List.Perm.refl _,?_⟩;refine List.pairwise_iff_getElem.mpr λi j hi hj hij=>?_
  rw[aD,List.length_range]at hj;lia
 ·rw[if_neg h2];obtain⟨h1,h3⟩:=xK (pR λi=>ks.getD i (0,0)) (n:=ks.length) (by lia);refine⟨h1,?_⟩;have hlen:=h1.length_eq;rw[List.length_range]at hlen;refine List.pairwise_map.mpr (List.pairwise_iff_getElem.mpr λi j hi hj hij=>?_);have:=h3 i j hij (by lia);rw[getD_at,getD_at]at this;have gi:∀(q:Array Nat) (m:Nat) (hm:m<q.toList.length),(q[m]?).getD 0=q.toList[m]:=λq m hm=>by
   have:m<q.size:=by simpa using hm
   simp[this]
  rw[gi _ j hj,gi _ i hi]at this;exact this
end L2
namespace HT
open PySem PySem.Spec PyProof.Rows L2
section
variable{prog:aq}{w:ak}{A:au}{E:ae->af->Prop}{s:af}
theorem uf{t sl:Addr}{items:Array ae}{vl vu:ae}{lo hi:Option Int}{Q:ae->af->Prop}(ht:IsTup s.heap t items)(hs:s.heap.IsSliceOf sl vl vu .none)(pl:IsPart vl lo)(pu:IsPart vu hi)
  (h0:sIx items.size 0 lo=0) (h1:sIx items.size items.size hi=items.size) (h:Q (.ref t) s):ah (ai prog w) A (getItem (.ref t) (.ref sl)) Q E s:=by
 have sk:s.TypeIs (.ref sl) "slice":=by obtain⟨o,a,b,_⟩:=id hs;exact⟨o,a,b⟩
 unfold getItem
 try with_reducible refine cB ?_
 first|refine ag (av ?_)|skip
 have ty:=ht.typeIs;apply ag;apply wpAny_sequenceKey ty (by decide);apply ag;apply wpAny_callSpecial?_slot (name:=aG "__getitem__") ty slot_tuple_getitem;refine cz slot_tuple_getitem ty entry_tuple_getitem ?_ (args_tuple_getitem _ _);show ah _ _ (Builtin.Tuple.tupleItemsOf (.ref t)>>=_) _ _ s;apply ag;apply tupleItemsOf_ ht;apply ag;apply wpAny_typeOf sk;rw[if_pos (by decide)];apply ag;apply oE hs pl pu;have yes:(((sIx items.size 0 lo:Nat):Int)==0&&(1:Int)==1&&(sIx items.size items.size hi-sIx items.size 0 lo)==items.size)=true:=by
  rw[h0,h1];simp
 show ah _ _ (if (((sIx items.size 0 lo:Nat):Int)==0&&(1:Int)==1&&(sIx items.size items.size hi-sIx items.size 0 lo)==items.size)=true then _ else _) _ _ s;rw[if_pos yes];apply ag;unfold Builtin.Tuple.tupleIsExact;refine ag (wpAny_typeOf ty (av ?_));rw[if_pos (by rfl)];exact ag (wpAny_rule (av ⟨_,rfl,av h⟩))
end
end HT
namespace L2
open PySem PySem.Spec PyProof.Rows
noncomputable def Ag(K:ao):V->Option Int->Option Int->Hp->VK->Prop:=λx lo hi H Q=>∃a xs,x=.ref a/\SqT K H a xs/\HT.sIx xs.length 0 lo=0/\HT.sIx xs.length xs.length hi=xs.length/\Q x H
theorem rM{X:Cx}:SlR X (Ag X.K):=by
 intro pins s σ H x v vl vu lo hi sl Q I rx hs pl pu ⟨a,xs,e,hx,h0,h1,q⟩;subst e;have rx':=rx;cases rx;obtain⟨its,r,ht,hz⟩:=I.tuple hx;have hl:its.toArray.size=xs.length:=by rw[aK];exact r.length.symm
 exact⟨"tuple",_,slot_tuple_getitem.lookup,ht.typeIs,HT.uf ht hs pl pu (by rw[hl];exact h0) (by rw[hl];exact h1) ⟨.ref a,H,I,rx',q⟩⟩
section
variable{X:Cx}
noncomputable def vH:V->List V->Hp->VK->Prop:=λx vs H Q=>∃l xs j y,x=.ref l/\vs=[.int j,y]/\H l=some (.lst xs)/\xs.length<aE/\0<=j/\j<=xs.length/\Q .non (upd H l (.lst (xs.take j.toNat++y::xs.drop j.toNat)))
theorem tZ:MtM X "list.insert" vH:=by
 intro pins s σ H x vs v us Q I rx rv h;obtain⟨l,xs,j,y,rfl,rfl,hH,hz,hj,hj',q⟩:=h;cases rx;obtain⟨u,u2,rfl,ru,ru2⟩:=rv.two;obtain⟨t,rfl⟩:=ru;obtain⟨z,its,n,r,hl,e⟩:=I.lstM hH;have hsl:=aW;have hfit:Builtin.List.listFitsIndex j=true:=by
  have a:¬ j<0:=by lia
  simp[Builtin.List.listFitsIndex];lia
 refine call_meets PySem.F.slot_list_insert ⟨_,e,rfl⟩ PySem.F.entry_list_insert (PySem.F.args_list_insert_3 _ _ _) (PySem.AutoSeq1.list_insert_list_int_val_1 l its.toArray n j t u2 (by simp[hfit]) (by rw[aK];lia)) ⟨e,?_⟩;refine⟨.non,_,I.lset (its':=its.take j.toNat++u2::its.drop j.toNat) hH e ?_ ((r.take _).append (.cons ru2 (r.drop _))) ?_,rfl,q⟩
 ·have hk:(if j<0 then (j+(its.toArray.size:Int)).toNat else min j.toNat its.toArray.size)=j.toNat:=by
   rw[if_neg (by lia),aK];lia
  show (its.toArray.extract 0 (if j<0 then (j+(its.toArray.size:Int)).toNat else min j.toNat its.toArray.size)).push u2++its.toArray.extract (if j<0 then (j+(its.toArray.size:Int)).toNat else min j.toNat its.toArray.size)=_;rw[hk];simp;apply List.take_of_length_le;simp
 ·simp;lia
end
noncomputable def ItS(lo:Int)(st:Int)(n:Nat):It:=⟨λi _=>i<n,λi H x H'=>H'=H/\x=.int (lo+i * st),λi _=>n<=i⟩
theorem wt{P:aq}{w:ak}{K:ao}{tg:Expr}(it:Addr)(lo st:Int)(n:Nat):Turn P w K tg (ItS lo st n) [it] it (λi h=>IsRangeIter h it (lo+(i:Nat) * st) ((n:Int)-(i:Nat)) st) where
 mem:=by simp
 obj:=λi h st b hb=>by
  have e:b=it:=by simpa using hb
  subst e;exact⟨_,st,λv z=>by
   have z':Data.fields _=Data.cell v:=z;cases z'⟩
 keep:=λi h h' st k=>k it (by simp) _ st
 item:=by
  intro X hP hw hK hc i pins s σ H E I hf st' hg;subst hP hw hK;obtain⟨f0,f1,f2,f3,f4,f5⟩:=hf it (by simp);have W:=Walks.range (prog:=X.prog) (w:=X.w) (I.ok.hd hc) it lo st n;refine W.item i s _ _ hg st' λv h' tk hv st' kk=>?_
  obtain⟨t,rfl⟩:=hv;have I1:Inv X pins σ H {s with heap:=h',toks:=tk}:=I.turned (λb o hb e=>kk b o (by simpa using hb) e) f0 f1 f3 f4 f5;exact⟨_,rfl,jh (s:={s with heap:=h',toks:=tk}) (n:="range_iterator") st' rfl rfl (by decide) ⟨.int (lo+i * st),H,I1,⟨t,rfl⟩,⟨rfl,rfl⟩,st',λb hb=>(hf b hb).1⟩⟩
 done:=by
  intro X hP hw hK hc i pins s σ H E I hf st' hg;subst hP hw hK;obtain⟨f0,f1,f2,f3,f4,f5⟩:=hf it (by simp);exact wpAny_pyNext_range_end (I.ok.hd hc) st' (by have:n<=i:=hg;lia) λh' eb=>⟨rfl,I.turned (t':=s.toks) (λb o hb e=>eb b o hb e) f0 f1 f3 f4 f5⟩
 self:=λ_ _ _ _ _ st h=>wpAny_pyIter_rangeiter st h
section
variable{X:Cx}{tg:Expr}
end
section
variable{κ:Type} [DecidableEq κ]
noncomputable def cJ(kvs:List (κ×V))(k:κ):Option V:=(kvs.find? λkv=>decide (kv.1=k)).map (·.2)
noncomputable def putK(kvs:List (κ×V))(k:κ)(v:V):List (κ×V):=
 if (kvs.any λkv=>decide (kv.1=k))=true then kvs.map (λkv=>if kv.1=k then (kv.1,v)else kv)else kvs++[(k,v)]
theorem fB{p:κ×V}{r:List (κ×V)}{k:κ}(e:p.1=k):cJ (p::r) k=some p.2:=by simp[cJ,List.find?_cons,e]
theorem fF{p:κ×V}{r:List (κ×V)}{k:κ}(e:¬ p.1=k):cJ (p::r) k=cJ r k:=by simp[cJ,List.find?_cons,e]
theorem kg(k:κ):∀kvs:List (κ×V),(kvs.any λkv=>decide (kv.1=k))=(cJ kvs k).isSome
 | []=>rfl
 |p::r=>by
  rw[List.any_cons];by_cases e:p.1=k
  ·simp only[fB e,decide_eq_true e,Bool.true_or,Option.isSome_some]
  ·rw[fF e,decide_eq_false e,Bool.false_or];exact kg k r
theorem Az(k j:κ)(y:V):∀kvs:List (κ×V),cJ (kvs.map λkv=>if kv.1=k then (kv.1,y)else kv) j=(cJ kvs j).map λx=>if j=k then y else x
 | []=>rfl
 |p::r=>by
  have ih:=Az k j y r;rw[aR];by_cases h:p.1=k
  ·rw[if_pos h];by_cases e:p.1=j
   ·rw[fB (p:=(p.1,y)) e,fB e,Option.map_some,if_pos (e.symm.trans h)]
   ·rw[fF (p:=(p.1,y)) e,fF e,ih]
  ·rw[if_neg h];by_cases e:p.1=j
   ·rw[fB (p:=p) e,fB e,Option.map_some,if_neg (λz=>h (e.trans z))]
   ·rw[fF (p:=p) e,fF e,ih]
theorem jT(kvs:List (κ×V))(k:κ)(v:V):(putK kvs k v).length<=kvs.length+1:=by
 unfold putK;split
 ·rw[aD];lia
 ·rw[br,aU,List.length_nil];lia
theorem dh.isSome_eq{o:Option V}{u:Option ae}(r:dh o u):o.isSome=u.isSome:=by
 cases o with
 |none=>cases u with
  |none=>rfl
  |some _=>exact(show False from r).elim
 |some _=>cases u with
  |none=>exact(show False from r).elim
  |some _=>rfl
theorem dh.getD{o:Option V}{u:Option ae}{d:V}{d':ae}(r:dh o u)(rd:RelV d d'):RelV (o.getD d) (u.getD d'):=by
 cases o with
 |none=>cases u with
  |none=>exact rd
  |some _=>exact(show False from r).elim
 |some _=>cases u with
  |none=>exact(show False from r).elim
  |some _=>exact r
theorem KV.val{kvs:List (κ×V)}{vs:List (κ×ae)}(r:KV kvs vs)(k:κ):dh (cJ kvs k) (valueAt vs k):=by
 unfold KV at r
 induction r with
 |nil=>exact True.intro
 | @cons p q ps qs h t ih=>
  obtain⟨h1,h2⟩:=h;by_cases e:p.1=k
  ·have e':q.1=k:=h1.symm.trans e;have b:valueAt (q::qs) k=some q.2:=by simp[valueAt,List.find?_cons,e']
   rw[fB e,b];exact h2
  ·have e':¬ q.1=k:=λz=>e (h1.trans z)
   have b:valueAt (q::qs) k=valueAt qs k:=by simp[valueAt,List.find?_cons,e']
   rw[fF e,b];exact ih
theorem KV.any{kvs:List (κ×V)}{vs:List (κ×ae)}(r:KV kvs vs)(k:κ):(kvs.any λkv=>decide (kv.1=k))=vs.any λkv=>decide (kv.1=k):=by
 unfold KV at r
 induction r with
 |nil=>rfl
 |cons h t ih=>rw[List.any_cons,List.any_cons,ih,h.1]
theorem KV.repl{kvs:List (κ×V)}{vs:List (κ×ae)}(r:KV kvs vs)(k:κ){y:V}{u:ae}(ry:RelV y u) :
  KV (kvs.map λkv=>if kv.1=k then (kv.1,y)else kv) (vs.map λkv=>if kv.1=k then (kv.1,u)else kv):=by
 unfold KV at r ⊢
 induction r with
 |nil=>exact .nil
 | @cons p q ps qs h t ih=>
  rw[aR,aR];refine .cons ?_ ih;obtain⟨h1,h2⟩:=h;by_cases e:p.1=k
  ·rw[if_pos e,if_pos (h1.symm.trans e)];exact⟨h1,ry⟩
  ·rw[if_neg e,if_neg (λz=>e (h1.trans z))];exact⟨h1,h2⟩
theorem KV.put{kvs:List (κ×V)}{vs:List (κ×ae)}(r:KV kvs vs)(k:κ){y:V}{u:ae}(ry:RelV y u):KV (putK kvs k y) (stored vs k u):=by
 unfold putK stored;rw[r.any k];by_cases e:(vs.any λkv=>decide (kv.1=k))=true
 ·rw[if_pos e,if_pos e];exact r.repl k ry
 ·rw[if_neg e,if_neg e];exact Paired.snoc r ⟨rfl,ry⟩
theorem KV.length{kvs:List (κ×V)}{vs:List (κ×ae)}(r:KV kvs vs):kvs.length=vs.length:=Paired.length r
end
theorem eX{P:aq}{w:ak}{k:Key}{u:ae}(r:RelV (kV k) u):(zt P w).is k u=true:=by
 cases k with
 |inl i=>obtain⟨t,e⟩:=(show ∃t,u=ae.int i t from r);subst e;exact BN P w i t
 |inr x=>obtain⟨t,e⟩:=(show ∃t,u=ae.str x t from r);subst e;exact sG P w x t
theorem l6{P:aq}{w:ak}:∀{ks:List Key}{us:List ae},Vals (ks.map kV) us->ItemsAre (zt P w) ks us
 | [],_,r=>by rw[List.map_nil]at r;cases r;exact .nil
 |k::ks,_,r=>by
  rw[aR]at r;cases r with
  |cons h t=>exact .cons (eX h) (l6 t)
abbrev KT(H:Hp):List (List Key×V)->List (List Key×Addr×ae)->Prop:=Paired λp q=>p.1=q.1/\H q.2.1=some (.tup (p.1.map kV))/\RelV p.2 q.2.2
theorem KT.val{H:Hp}{kvs:List (List Key×V)}{xs:List (List Key×Addr×ae)}(r:KT H kvs xs)(k:List Key):dh (cJ kvs k) ((atKey xs k).map (·.2)):=by
 induction r with
 |nil=>exact True.intro
 | @cons p q ps qs h t ih=>
  obtain⟨h1,_,h2⟩:=h;by_cases e:p.1=k
  ·have e':q.1=k:=h1.symm.trans e;have b:atKey (q::qs) k=some q.2:=by simp[atKey,List.find?_cons,e']
   rw[fB e,b];exact h2
  ·have e':¬ q.1=k:=λz=>e (h1.trans z)
   have b:atKey (q::qs) k=atKey qs k:=by simp[atKey,List.find?_cons,e']
   rw[fF e,b];exact ih
theorem KT.repl{H:Hp}{kvs:List (List Key×V)}{xs:List (List Key×Addr×ae)}(r:KT H kvs xs)(k:List Key){y:V}{u:ae}(ry:RelV y u) :
  KT H (kvs.map λkv=>if kv.1=k then (kv.1,y)else kv) (xs.map (putAt k u)):=by
 induction r with
 |nil=>exact .nil
 | @cons p q ps qs h t ih=>
  rw[aR,aR];refine .cons ?_ ih;obtain⟨h1,h2,h3⟩:=h;unfold putAt;by_cases e:p.1=k
  ·rw[if_pos e,if_pos (h1.symm.trans e)];exact⟨h1,h2,ry⟩
  ·rw[if_neg e,if_neg (λz=>e (h1.trans z))];exact⟨h1,h2,h3⟩
theorem KT.put{H:Hp}{kvs:List (List Key×V)}{xs:List (List Key×Addr×ae)}(r:KT H kvs xs)(k:List Key){b:Addr}{y:V}{u:ae}(hb:H b=some (.tup (k.map kV)))(ry:RelV y u) :
  KT H (putK kvs k y) (storedH xs k b u):=by
 have e:(kvs.any λkv=>decide (kv.1=k))=(atKey xs k).isSome:=by
  rw[kg,(r.val k).isSome_eq,Option.isSome_map]
 unfold putK storedH;rw[e];by_cases q:(atKey xs k).isSome=true
 ·rw[if_pos q,if_pos q];exact r.repl k ry
 ·rw[if_neg q,if_neg q];exact Paired.snoc r ⟨rfl,hb,ry⟩
theorem KT.keeps{H H':Hp}{kvs:List (List Key×V)}{xs:List (List Key×Addr×ae)}(r:KT H kvs xs)(ht:∀b ys,H b=some (.tup ys)->H' b=some (.tup ys)):KT H' kvs xs:=
 Paired.mapP r λ_ _ z=>⟨z.1,ht _ _ z.2.1,z.2.2⟩
section
variable{P:aq}{w:ak}{H:Hp}{h:Heap}{a:Addr}
theorem oh{u:HO}(ok:HOk P w H h)(e:Rd H a u):zH P w H h a u:=e.ok ok
theorem fc{kvs:List (Key×V)}(ok:HOk P w H h)(e:Rd H a (.dK kvs)):kvs.length<=aE/\(a==sysModules)=false/\∃vs,KV kvs vs/\h.DictOf (zt P w) a vs:=
 show zH P w H h a (.dK kvs)from oh ok e
theorem fJ{kvs:List (Key×V)}(ok:HOk P w H h)(e:H a=some (.dK kvs)):kvs.length<=aE/\(a==sysModules)=false/\∃vs,KV kvs vs/\h.DictOf (zt P w) a vs:=fc ok (.inl e)
theorem fo{ks:List Key}(ok:HOk P w H h)(e:H a=some (.tup (ks.map kV))):(tupleKind (zt P w)).is h ks a:=by
 obtain⟨_,its,r,o,h1,h2,n,h3⟩:=(show zH P w H h a (.tup (ks.map kV))from ok a _ e)
 exact⟨o,its.toArray,n,h1,h2,h3,by simpa using l6 r⟩
theorem eS{kvs:List (List Key×V)}(ok:HOk P w H h)(e:Rd H a (.dT kvs)):kvs.length<=aE/\(a==sysModules)=false /\
  ∃xs,KT H kvs xs/\h.DictOfH (tupleKind (zt P w)) a xs:=by
 obtain⟨z,y,xs,r,o,es,ep,h1,h2,h3,h4,h5⟩:=(show zH P w H h a (.dT kvs)from oh ok e)
 refine⟨z,y,xs,r,o,es,ep,h1,h2,h3,h4,λx hx=>?_,h5⟩;have all:∀{l:List (List Key×V)}{m:List (List Key×Addr×ae)},KT H l m->∀x∈m,(tupleKind (zt P w)).is h x.1 x.2.1:=by
  intro l m q
  induction q with
  |nil=>intro x hx;exact nomatch hx
  | @cons p q ps qs hq t ih=>
   intro x hx;rcases aF.mp hx with e|hx
   ·subst e;exact fo ok (by rw[<-hq.1];exact hq.2.1)
   ·exact ih x hx
 exact all r x hx
theorem Bl{kvs:List (List Key×V)}(ok:HOk P w H h)(e:H a=some (.dT kvs)):kvs.length<=aE/\(a==sysModules)=false /\
  ∃xs,KT H kvs xs/\h.DictOfH (tupleKind (zt P w)) a xs:=eS ok (.inl e)
end
noncomputable def cK(H:Hp)(a:Addr)(y:V)(r:Option V):Prop:=
 (∃kvs k,Rd H a (.dK kvs)/\y=kV k/\r=cJ kvs k)\/∃kvs k b,Rd H a (.dT kvs)/\y=.ref b/\H b=some (.tup (k.map kV))/\r=cJ kvs k
noncomputable def i9(H:Hp)(a:Addr)(y v:V)(H':Hp):Prop:=
 (∃kvs k,H a=some (.dK kvs)/\y=kV k/\kvs.length<aE/\H'=upd H a (.dK (putK kvs k v))) \/
 ∃kvs k b,H a=some (.dT kvs)/\y=.ref b/\H b=some (.tup (k.map kV))/\kvs.length<aE/\H'=upd H a (.dT (putK kvs k v))
theorem cK.k{H:Hp}{a:Addr}{kvs:List (Key×V)}{k:Key}(e:H a=some (.dK kvs)):cK H a (kV k) (cJ kvs k):=.inl ⟨kvs,k,.inl e,rfl,rfl⟩
theorem i9.k{H:Hp}{a:Addr}{kvs:List (Key×V)}{k:Key}{v:V}(e:H a=some (.dK kvs))(hl:kvs.length<aE):i9 H a (kV k) v (upd H a (.dK (putK kvs k v))):=.inl ⟨kvs,k,e,rfl,hl,rfl⟩
section
variable{X:Cx}{pins:List (Addr×Obj)}{σ:St}{H:Hp}{s:af}{a:Addr}{y v:V}{u r:ae}{o:Option V}{A:au}{E:ae->af->Prop}
theorem Inv.big(I:Inv X pins σ H s):sysModules<s.heap.objs.size:=by
 have h:ar<s.heap.objs.size:=(I.mod.glob.keeps I.bk).lt;exact Nat.lt_trans (by decide) h
theorem xf{Q:ae->af->Prop}(hu:A.units+1<cLine)(I:Inv X pins σ H s)(g:cK H a y (some v))(ry:RelV y u)(h:∀w' s',Inv X pins σ H s'->RelV v w'->Q w' s') :
  ah (ai X.prog X.w) A (getItem (.ref a) u) Q E s:=by
 rcases g with ⟨kvs,k,e,ey,l⟩|⟨kvs,k,b,e,ey,eb,l⟩
 ·subst ey;obtain⟨z,hd,vs,rel,dd⟩:=fc I.hok e;obtain⟨w',hw,rw'⟩:=dh.some_of (v:=v) (o:=valueAt vs k) (by rw[l];exact rel.val k);exact wpAny_getItem_of (eX ry) dd.mapOf hw (h w' _ (I.tok _) rw')
 ·subst ey;cases (show u=aS b from ry);obtain⟨z,hd,xs,rel,dd⟩:=eS I.hok e;obtain⟨w',hw,rw'⟩:=dh.some_of (v:=v) (o:=(atKey xs k).map (·.2)) (by rw[l];exact rel.val k);obtain⟨p,hp,hp2⟩:=bq.mp hw;refine wpAny_getItem_heap (tupleKind_room_in1 hu) (fo I.hok eb) dd hp ?_;rw[hp2];exact h w' _ (I.tok _) rw'
theorem vK{Q:ae->af->Prop}(hu:A.units+1<cLine)(I:Inv X pins σ H s)(g:cK H a y o)(ry:RelV y u)(h:∀s',Inv X pins σ H s'->Q (.bool o.isSome) s') :
  ah (ai X.prog X.w) A (aQ .In u (.ref a)) Q E s:=by
 rcases g with ⟨kvs,k,e,ey,l⟩|⟨kvs,k,b,e,ey,eb,l⟩
 ·subst ey;obtain⟨z,hd,vs,rel,dd⟩:=fc I.hok e;refine wpAny_in_of (eX ry) hd dd.mapOf ?_;rw[<-(rel.val k).isSome_eq,<-l];exact h _ (I.tok _)
 ·subst ey;cases (show u=aS b from ry);obtain⟨z,hd,xs,rel,dd⟩:=eS I.hok e;refine wpAny_in_heap (tupleKind_room_in1 hu) (fo I.hok eb) hd dd ?_;have q:=(rel.val k).isSome_eq;rw[Option.isSome_map]at q;rw[<-q,<-l];exact h _ (I.tok _)
theorem xo{Q:ae->af->Prop}(hu:A.units+1<cLine)(I:Inv X pins σ H s)(g:cK H a y o)(ry:RelV y u)(h:∀s',Inv X pins σ H s'->Q (.bool (!o.isSome)) s') :
  ah (ai X.prog X.w) A (aQ .NotIn u (.ref a)) Q E s:=by
 rcases g with ⟨kvs,k,e,ey,l⟩|⟨kvs,k,b,e,ey,eb,l⟩
 ·subst ey;obtain⟨z,hd,vs,rel,dd⟩:=fc I.hok e;refine wpAny_notIn_of (eX ry) hd dd.mapOf ?_;rw[<-(rel.val k).isSome_eq,<-l];exact h _ (I.tok _)
 ·subst ey;cases (show u=aS b from ry);obtain⟨z,hd,xs,rel,dd⟩:=eS I.hok e;refine wpAny_notIn_heap (tupleKind_room_in1 hu) (fo I.hok eb) hd dd ?_;have q:=(rel.val k).isSome_eq;rw[Option.isSome_map]at q;rw[<-q,<-l];exact h _ (I.tok _)
theorem iL{h':Heap}{t':Nat}{ob:HO}(I:Inv X pins σ H s)(mu:Mut (H a))(hs:Heap.SameBut a s.heap h')(he:∃q,h'.get? a=some q)(new:zH X.prog X.w (upd H a ob) h' a ob) :
  Inv X pins σ (upd H a ob) {s with heap:=h',toks:=t'}:=
 I.write (x:=a) (e:=a) mu (.inl rfl) (λb q hb z=>(hs.2 b hb).trans z) he new
theorem kq{P:aq}{w:ak}{H':Hp}{h':Heap}{kvs:List (Key×V)}{vs:List (Key×ae)}(z:kvs.length<=aE)(hd:(a==sysModules)=false)(rel:KV kvs vs)(dd:h'.DictOf (zt P w) a vs) :
  zH P w H' h' a (.dK kvs):=⟨z,hd,vs,rel,dd⟩
theorem uP{H':Hp}{Q:Unit->af->Prop}(hu:A.units+1<cLine)(I:Inv X pins σ H s)(g:i9 H a y v H')(ry:RelV y u)(rv:RelV v r)(h:∀s',Inv X pins σ H' s'->Q () s') :
  ah (ai X.prog X.w) A (setItem (.ref a) u r) Q E s:=by
 rcases g with ⟨kvs,k,e,ey,l,eH⟩|⟨kvs,k,b,e,ey,eb,l,eH⟩
 ·subst ey eH;obtain⟨z,hd,vs,rel,dd⟩:=fJ I.hok e;have hz:vs.length<=sizeLine:=by rw[<-rel.length];exact z
  have hl:(putK kvs k v).length<=sizeLine:=by have:=jT kvs k v;lia
  refine wpAny_setItem_pairs (hsz:=hz) (eX ry) dd λh' dd' hs=>h _ ?_
  have he:∃q,h'.get? a=some q:=let ⟨q,_,_,hq,_⟩:=dd';⟨q,hq⟩
  exact iL I (by rw[e];exact True.intro) hs he (kq hl hd (rel.put k rv) dd')
 ·subst ey eH;cases (show u=aS b from ry);obtain⟨z,hd,xs,rel,dd⟩:=Bl I.hok e;have hz:xs.length<=sizeLine:=by rw[<-Paired.length rel];exact z
  have hl:(putK kvs k v).length<=sizeLine:=by have:=jT kvs k v;lia
  refine wpAny_setItem_heap (hsz:=hz) (tupleKind_room_in1 hu) (fo I.hok eb) dd λh' dd' hs=>h _ ?_
  obtain⟨q,es,ep,hq,h2,h3,h4,_,h5⟩:=dd';refine iL I (by rw[e];exact True.intro) hs ⟨q,hq⟩ ⟨hl,hd,_,(rel.put k eb rv).keeps λc ys ec=>?_,q,es,ep,hq,h2,h3,h4,h5⟩;rw[qM (yJ ec e (λz=>nomatch z))];exact ec
end
section
variable{X:Cx}{pins:List (Addr×Obj)}{σ:St}{H:Hp}{s:af}{a:Addr}{kvs:List (Key×V)}{k:Key}{u:ae}{A:au}{E:ae->af->Prop}
end
theorem yM{X:Cx}{pins:List (Addr×Obj)}{σ:St}{H:Hp}{s:af}{a:Addr}{y:V}{o:Option V}(I:Inv X pins σ H s)(g:cK H a y o):s.TypeIs (.ref a) "dict":=by
 rcases g with ⟨kvs,k,e,_,_⟩|⟨kvs,k,b,e,_,_,_⟩
 ·obtain⟨_,_,vs,_,dd⟩:=fc I.hok e;exact dd.typeIs
 ·obtain⟨_,_,xs,_,dd⟩:=eS I.hok e;exact dd.typeIs
section
variable{X:Cx}{o i e value:Expr}{pos pos' tpos:Pos}{td ty tv:TE}
end
theorem mF{P:aq}{w:ak}{H:Hp}(h:Heap)(hb:sysModules<h.objs.size):zH P w H (h.push {cls:=.type "dict",data:=.dict #[]}) h.objs.size (.dK []):=
 ⟨b7 _,beq_eq_false_iff_ne.mpr (Ne.symm (aZ hb)),[],.nil,Heap.DictOf.new h⟩
noncomputable def wY:TE:=λ_ H Q=>∀p,H p=none->Q (.ref p) (upd H p (.dK []))
section
variable{X:Cx}{pos:Pos}
theorem Cp:PE X (.Dict [] [] pos) wY:=λpins s σ H Q I h=>
 wpAny_Dict_empty ⟨.ref s.heap.objs.size,_,I.laid (a:=s.heap.objs.size) (o:=.dK []) (t':=s.toks) (λ_ _ q=>Heap.get?_push_of_some _ q) (aB _) (mF s.heap I.big),rfl,h _ (I.hok.fresh (aB _))⟩
end
noncomputable def j':List (TE×TE)->St->Hp->(List (V×V)->Hp->Prop)->Prop
 | [],_,H,Q=>Q [] H
 | (tk,tv)::r,σ,H,Q=>tk σ H λx H1=>tv σ H1 λy H2=>j' r σ H2 λps H3=>Q ((x,y)::ps) H3
abbrev VV:List (V×V)->List (ae×ae)->Prop:=Paired λp q=>RelV p.1 q.1/\RelV p.2 q.2
noncomputable def PPs(X:Cx)(pos:Pos)(keys:List (Option Expr))(values:List Expr)(trs:List (TE×TE)):Prop:=
 ∀(pins:List (Addr×Obj)) (s:af) (σ:St) (H:Hp) (Q:List (V×V)->Hp->Prop),Inv X pins σ H s->j' trs σ H Q ->
  ah (ai X.prog X.w) X.A (evalPairs (pairTrees keys values X.env pos)) (λvs s'=>∃ps H',Inv X pins σ H' s'/\VV ps vs/\Q ps H') X.xe s
theorem Ar{X:Cx}{pos:Pos}:PPs X pos [] [] []:=λpins s σ H Q I h=>pairTrees_nil_walk ⟨[],H,I,.nil,h⟩
theorem Bd{X:Cx}{pos:Pos}{k v:Expr}{ks:List (Option Expr)}{vs:List Expr}{tk tv:TE}{trs:List (TE×TE)}(hk:PE X k tk)(hv:PE X v tv)(hr:PPs X pos ks vs trs) :
  PPs X pos (some k::ks) (v::vs) ((tk,tv)::trs):=λpins s σ H Q I h=>
 pairTrees_cons_walk (thn (hk pins s σ H _ I h) λu s1 ⟨x,H1,I1,rx,q1⟩=>thn (hv pins s1 σ H1 _ I1 q1) λw2 s2 ⟨y,H2,I2,ry,q2⟩=>
  thn (hr pins s2 σ H2 _ I2 q2) λws s3 ⟨ps,H3,I3,rel,q3⟩=>⟨(x,y)::ps,H3,I3,.cons ⟨rx,ry⟩ rel,q3⟩)
noncomputable def eD(kvs more:List (Key×V)):List (Key×V):=more.foldl (λacc kv=>putK acc kv.1 kv.2) kvs
theorem KV.merge:∀{more:List (Key×V)}{rs:List (Key×ae)}{kvs:List (Key×V)}{vs:List (Key×ae)},KV more rs->KV kvs vs->KV (eD kvs more) (merged vs rs):=by
 intro more rs kvs vs r;unfold KV at r
 induction r generalizing kvs vs with
 |nil=>intro q;exact q
 | @cons p q ps qs h t ih=>
  intro r0;have e:KV (putK kvs p.1 p.2) (stored vs q.1 q.2):=by
   have:=r0.put p.1 h.2;rw[<-h.1];exact this
  exact ih e
theorem jR:∀(more kvs:List (Key×V)),(eD kvs more).length<=kvs.length+more.length
 | [],kvs=>by show kvs.length<=kvs.length+0;lia
 |p::r,kvs=>by
  have h1:=jR r (putK kvs p.1 p.2);have h2:=jT kvs p.1 p.2;show (eD (putK kvs p.1 p.2) r).length<=_;rw[aU];lia
theorem lF{P:aq}{w:ak}:∀{kvs:List (Key×V)}{ws:List (ae×ae)},VV (kvs.map λkv=>(kV kv.1,kv.2)) ws->∃rs,Carries (zt P w) ws rs/\KV kvs rs
 | [],_,r=>by rw[List.map_nil]at r;cases r;exact⟨[],True.intro,.nil⟩
 |p::kvs,_,r=>by
  rw[aR]at r;cases r with
  | @cons a b as bs h t=>
   obtain⟨rs,c,q⟩:=lF (P:=P) (w:=w) t;obtain⟨b1,b2⟩:=b;exact⟨(p.1,b2)::rs,⟨eX h.1,rfl,c⟩,.cons ⟨rfl,h.2⟩ q⟩
noncomputable def tD(trs:List (TE×TE)):TE:=λσ H Q=>∀p,H p=none->j' trs σ (upd H p (.dK [])) λps H2=>H2 p=some (.dK [])/\∃kvs:List (Key×V),ps=kvs.map (λkv=>(kV kv.1,kv.2))/\kvs.length<=15/\Q (.ref p) (upd H2 p (.dK (eD [] kvs)))
theorem vh{X:Cx}{pos:Pos}{keys:List (Option Expr)}{values:List Expr}{trs:List (TE×TE)}(h:PPs X pos keys values trs)(hall:keys.all (·.isSome)=true)(hl:keys.length=values.length)(h0:keys≠[])
  (h15:keys.length<=15):PE X (.Dict keys values pos) (tD trs):=by
 intro pins s σ H Q I q;have hn:=I.hok.fresh (aB s.heap.objs.size);have I1:=I.laid (a:=s.heap.objs.size) (o:=.dK []) (h':=s.heap.push {cls:=.type "dict",data:=.dict #[]}) (t':=s.toks) (λ_ _ q=>Heap.get?_push_of_some _ q) (aB _) (mF s.heap I.big);refine wpAny_Dict_walk (knd:=zt X.prog X.w) hall hl h0 h15 (thn (h pins _ σ _ _ I1 (q _ hn)) λws s2 ⟨ps,H2,I2,rel,e,kvs,ep,lk,q2⟩=>?_);subst ep;obtain⟨rs,c,rk⟩:=lF (P:=X.prog) (w:=X.w) rel;obtain⟨z,hd,vs0,r0,dd⟩:=fJ I2.hok e;cases r0;refine⟨rs,c,dd,λh' dd' hs=>⟨.ref s.heap.objs.size,_,?_,rfl,q2⟩⟩;have hz:(eD [] kvs).length<=sizeLine:=by
  have h1:=jR kvs [];rw[List.length_nil]at h1;rw[aW];lia
 have he:∃q,h'.get? s.heap.objs.size=some q:=let ⟨q,_,_,hq,_⟩:=dd';⟨q,hq⟩
 exact iL I2 (by rw[e];exact True.intro) hs he (kq hz hd (rk.merge .nil) dd')
structure M1(X:Cx)(o:Expr)(m:Str)(apos:Pos)(e:Expr)(cpos:Pos):Prop where
 base:attributeBase o m X.env (eval o X.env)=eval o X.env
 few:((backTo cpos (aL [e] X.env)).all (λx=>!x.1)&&(backToKw cpos (keywordEach [] X.env)).all (λx=>x.1.isSome)
  && decide (([e]:List Expr).length+([]:List Keyword).length+(if ([]:List Keyword).isEmpty then 0 else 1)<30))=true
 line:(apos.endLine==cpos.line)=true
 trees:backTo cpos (aL [e] X.env)=[(false,eval e X.env)]
structure M2(X:Cx)(o:Expr)(m:Str)(apos:Pos)(e f:Expr)(cpos:Pos):Prop where
 base:attributeBase o m X.env (eval o X.env)=eval o X.env
 few:((backTo cpos (aL [e,f] X.env)).all (λx=>!x.1)&&(backToKw cpos (keywordEach [] X.env)).all (λx=>x.1.isSome)
  && decide (([e,f]:List Expr).length+([]:List Keyword).length+(if ([]:List Keyword).isEmpty then 0 else 1)<30))=true
 line:(apos.endLine==cpos.line)=true
 trees:backTo cpos (aL [e,f] X.env)=[(false,eval e X.env),(false,eval f X.env)]
noncomputable def IsD(H:Hp)(a:Addr):Prop:=(∃kvs,Rd H a (.dK kvs))\/∃kvs,Rd H a (.dT kvs)
theorem oI{X:Cx}{pins:List (Addr×Obj)}{σ:St}{H:Hp}{s:af}{a:Addr}(I:Inv X pins σ H s)(d:IsD H a) :
  s.TypeIs (.ref a) "dict"/\(∀b,aS a=.ref b->∃ob,s.heap.get? b=some ob/\ob.dict=none)/\(a==sysModules)=false:=by
 rcases d with ⟨kvs,e⟩|⟨kvs,e⟩
 ·obtain⟨_,hd,vs,_,dd⟩:=fc I.hok e;refine⟨dd.typeIs,λb q=>?_,hd⟩;cases q;obtain⟨ob,_,_,h1,h2,_⟩:=dd;exact⟨ob,h1,h2.2.1⟩
 ·obtain⟨_,hd,xs,_,dd⟩:=eS I.hok e;refine⟨dd.typeIs,λb q=>?_,hd⟩;cases q;obtain⟨ob,_,_,h1,h2,_⟩:=dd;exact⟨ob,h1,h2.2.1⟩
section
variable{X:Cx}{pins:List (Addr×Obj)}{σ:St}{H:Hp}{s:af}{a:Addr}{y d:V}{u r:ae}{o:Option V}{A:au}{E:ae->af->Prop}
theorem xq{Q:ae->af->Prop}(hu:A.units+1<cLine)(I:Inv X pins σ H s)(g:cK H a y o)(ry:RelV y u)(h:∀w' s',Inv X pins σ H s'->RelV (o.getD .non) w'->Q w' s') :
  ah (ai X.prog X.w) A (call (.builtin "dict.get") [.ref a,u]) Q E s:=by
 rcases g with ⟨kvs,k,e,ey,l⟩|⟨kvs,k,b,e,ey,eb,l⟩
 ·subst ey;obtain⟨z,hd,vs,rel,dd⟩:=fc I.hok e;refine call_meetsIn PySem.F.slot_dict_get dd.typeIs PySem.F.entry_dict_get (PySem.F.args_dict_get_2 _ _) (meets_dict_get (zt X.prog X.w) a (eX ry) hd) ⟨_,dd.mapOf,h _ _ (I.tok _) ?_⟩;rw[l];exact(rel.val k).getD rfl
 ·subst ey;cases (show u=aS b from ry);obtain⟨z,hd,xs,rel,dd⟩:=eS I.hok e;refine call_meetsIn PySem.F.slot_dict_get dd.typeIs PySem.F.entry_dict_get (PySem.F.args_dict_get_2 _ _) (meetsH_dict_get (tupleKind (zt X.prog X.w)) a b hd) ⟨tupleKind_room_in1 hu,k,xs,fo I.hok eb,dd,h _ _ (I.tok _) ?_⟩;rw[l];exact(rel.val k).getD rfl
theorem pX{Q:ae->af->Prop}(hu:A.units+1<cLine)(I:Inv X pins σ H s)(g:cK H a y o)(ry:RelV y u)(rd:RelV d r)(h:∀w' s',Inv X pins σ H s'->RelV (o.getD d) w'->Q w' s') :
  ah (ai X.prog X.w) A (call (.builtin "dict.get") [.ref a,u,r]) Q E s:=by
 rcases g with ⟨kvs,k,e,ey,l⟩|⟨kvs,k,b,e,ey,eb,l⟩
 ·subst ey;obtain⟨z,hd,vs,rel,dd⟩:=fc I.hok e;refine call_meetsIn PySem.F.slot_dict_get dd.typeIs PySem.F.entry_dict_get (PySem.F.args_dict_get_3 _ _ _) (meets_dict_get_default (zt X.prog X.w) a (eX ry) hd r) ⟨_,dd.mapOf,h _ _ (I.tok _) ?_⟩;rw[l];exact(rel.val k).getD rd
 ·subst ey;cases (show u=aS b from ry);obtain⟨z,hd,xs,rel,dd⟩:=eS I.hok e;refine call_meetsIn PySem.F.slot_dict_get dd.typeIs PySem.F.entry_dict_get (PySem.F.args_dict_get_3 _ _ _) (meetsH_dict_get_default (tupleKind (zt X.prog X.w)) a b hd r) ⟨tupleKind_room_in1 hu,k,xs,fo I.hok eb,dd,h _ _ (I.tok _) ?_⟩;rw[l];exact(rel.val k).getD rd
end
noncomputable def yn(td ty:TE):TE:=λσ H Q=>td σ H λx H1=>∃a,x=.ref a/\IsD H1 a/\ty σ H1 λy H2=>∃o,cK H2 a y o/\Q (o.getD .non) H2
noncomputable def sU(td ty tx:TE):TE:=λσ H Q=>td σ H λx H1=>∃a,x=.ref a/\IsD H1 a/\ty σ H1 λy H2=>tx σ H2 λz H3=>∃o,cK H3 a y o/\Q (o.getD z) H3
section
variable{X:Cx}{o e f:Expr}{apos cpos:Pos}{td ty tx:TE}
theorem Br(hu:X.A.units+1<cLine)(ho:PE X o td)(he:PE X e ty)(m:M1 X o "get" apos e cpos):PE X (.Call (.Attribute o "get" apos) [e] [] cpos) (yn td ty):=by
 intro pins s σ H Q I h;refine wpAny_Call_method m.base m.few m.line PySem.F.plainAttrs_dict PySem.F.slot_dict_get PySem.F.type_dict_get (thn (ho pins s σ H _ I h) λu s1 ⟨x,H1,I1,rx,a,ex,d,q1⟩=>?_);subst ex;obtain rfl:u=aS a:=rx;obtain⟨t1,t2,_⟩:=oI I1 d;refine⟨t1,t2,?_⟩;rw[m.trees];refine Calls.callWith_builtin rfl (Calls.evalArgs_plain (Calls.spliced_cons (thn (he pins s1 σ H1 _ I1 q1) λiv s2 ⟨y,H2,I2,ry,ov,g,q2⟩=>Calls.spliced_nil ?_)));exact xq hu I2 g ry λw' s3 I3 rw'=>⟨_,H2,I3,rw',q2⟩
theorem BB(hu:X.A.units+1<cLine)(ho:PE X o td)(he:PE X e ty)(hf:PE X f tx)(m:M2 X o "get" apos e f cpos):PE X (.Call (.Attribute o "get" apos) [e,f] [] cpos) (sU td ty tx):=by
 intro pins s σ H Q I h;refine wpAny_Call_method m.base m.few m.line PySem.F.plainAttrs_dict PySem.F.slot_dict_get PySem.F.type_dict_get (thn (ho pins s σ H _ I h) λu s1 ⟨x,H1,I1,rx,a,ex,d,q1⟩=>?_);subst ex;obtain rfl:u=aS a:=rx;obtain⟨t1,t2,_⟩:=oI I1 d;refine⟨t1,t2,?_⟩;rw[m.trees];refine Calls.callWith_builtin rfl (Calls.evalArgs_plain (Calls.spliced_cons (thn (he pins s1 σ H1 _ I1 q1) λiv s2 ⟨y,H2,I2,ry,q2⟩=>
  Calls.spliced_cons (thn (hf pins s2 σ H2 _ I2 q2) λfv s3 ⟨z,H3,I3,rz,ov,g,q3⟩=>Calls.spliced_nil ?_))))
 exact pX hu I3 g ry rz λw' s4 I4 rw'=>⟨_,H3,I4,rw',q3⟩
end
section
variable{X:Cx}{pins:List (Addr×Obj)}{σ:St}{H:Hp}{s:af}{a:Addr}{kvs:List (Key×V)}{A:au}{E:ae->af->Prop}
end
section
variable{X:Cx}{pins:List (Addr×Obj)}{σ:St}{H:Hp}{s:af}{a:Addr}{y:V}{u:ae}{A:au}{E:ae->af->Prop}
end
section
variable{X:Cx}
end
end L2
namespace HT
open PySem PySem.Spec PyProof.Rows L2
section
variable{prog:aq}{w:ak}{A:au}{E:ae->af->Prop}{s:af}
theorem A4{l:Addr}{its:Array ae}{Q:List ae->af->Prop}(ht:IsTup s.heap l its)(hz:its.size<=aE)
  (h:Q its.toList {s with heap:=(s.heap.push (aV "list" #[] 0)).update s.heap.objs.size (bt (· ++ its))}) :
  ah (ai prog w) A (collect (.ref l)) Q E s:=by
 obtain⟨o,ho,hc,n,hd⟩:=id ht;unfold collect;apply ag;apply wpAny_runValue;apply codeAny_builtin entry_proto_collect';show ah _ _ (do again (.builtin "list.__iadd__" ⟨[<-newList [],.ref l],[]⟩)) _ _ s;apply ag;refine wpAny_newList (hsz:=b7 _) ?_;refine av ⟨Code.quiet_builtin _ (by decide +kernel),?_⟩;apply codeAny_builtin entry_list_iadd';show ah _ _ (Builtin.List.listExtendWith (.ref s.heap.objs.size) (.ref l) (.ref s.heap.objs.size)) _ _ ({s with heap:=s.heap.push (aV "list" #[] 0)}:af);have hS:(s.heap.push (aV "list" #[] 0)).get? s.heap.objs.size=some (aV "list" #[] 0):=Heap.get?_push_size _ rfl;have hT:=Heap.get?_push_of_some (aV "list" #[] 0) ho;unfold Builtin.List.listExtendWith;apply ag;refine wpAny_typeOf (T:="tuple") ⟨o,hT,hc⟩ ?_;rw[if_pos (by simp)];apply ag;refine listItems_at hT hd ?_;apply ag;refine listItems_at hS rfl ?_;rw[if_neg (by simp)];apply ag;refine listUpdate_at hS rfl ?_ (b7 _) (by show (#[]++its).size<=aE+1;rw[Array.size_append];show 0+its.size<=_;lia);apply av;show ah (ai prog w) A (load s.heap.objs.size>>=λo=>match o.data with
  | .seq xs _=>pure xs.toList
  |_=>unsupported "internal:collect") Q E _
 apply ag;refine wpAny_load (get?_update_seq hS _) ?_;show ah _ _ (pure ((#[]:Array ae)++its).toList) Q E _;rw[show ((#[]:Array ae)++its).toList=its.toList by simp];exact av h
theorem w_{l:Addr}{vs:List ae}{ns:List Int}{Q:ae->af->Prop}(ht:IsTup s.heap l vs.toArray)(hI:a8 vs ns)(h64:vs.length<64)
  (h:∀(out:Array ae) (ns':List Int),a8 out.toList ns'->ns'.Perm ns->ns'.Pairwise (·<=·)->Q (.ref (s.heap.objs.size+1)) {s with heap:=sortedAll s.heap vs out}) :
  ah (ai prog w) A (call (.builtin "sorted") [.ref l]) Q E s:=by
 refine Calls.call_function_entry kind_sorted plain_sorted entry_sorted (args_sorted1 _) ?_;unfold Builtin.«sorted»;apply ag (m:=checkCount "sorted" 1 1 _);apply av;apply ag;refine A4 ht (by rw[aK,aW];lia) ?_;apply ag;refine wpAny_newList (hsz:=by rw[aW];show vs.length<=_;lia) ?_;have hz:((s.heap.push (aV "list" #[] 0)).update s.heap.objs.size (bt (· ++ vs.toArray))).objs.size=s.heap.objs.size+1:=by rw[Heap.size_update,size_push']
 have hL:(((s.heap.push (aV "list" #[] 0)).update s.heap.objs.size (bt (· ++ vs.toArray))).push (aV "list" vs.toArray 0)).get? (s.heap.objs.size+1)=some (aV "list" vs.toArray 0):=hz▸Heap.get?_push_size _ rfl;show ah _ _ _ _ _ ({s with heap:=((s.heap.push (aV "list" #[] 0)).update s.heap.objs.size (bt (· ++ vs.toArray))).push (aV "list" vs.toArray 0)}:af);rw[hz];apply ag;apply cB;refine cz slot_list_sort ⟨_,hL,rfl⟩ entry_list_sort (list_sort_tree hL hI h64 λout ns' a1 a2 a3=>⟨_,rfl,?_⟩) (args_list_sort _);exact av ⟨_,rfl,h out ns' a1 a2 a3⟩
end
end HT
namespace L2
open PySem PySem.Spec PyProof.Rows
variable{X:Cx}
noncomputable def sN(K:ao):List V->Hp->VK->Prop:=λvs H Q=>∃(l:Addr) (ns:List Int),vs=[.ref l]/\SqT K H l (ns.map V.int)/\ns.length<64/\∀(D:Addr) (ms:List Int),H D=none->ms.Perm ns->ms.Pairwise (·<=·)->Q (.ref D) (upd H D (.lst (ms.map V.int)))
theorem xC:zl X (.builtin "sorted") (sN X.K):=by
 intro pins s σ H xs us Q I r ⟨l,ns,e,hl,h64,q⟩;subst e;obtain⟨u,rfl,ru⟩:=r.one;cases ru;obtain⟨its,rv,ht,hz⟩:=I.tuple hl;have hI:=intsAre_of rv;have hle:=a8.length hI;refine HT.w_ ht hI (by rw[hle];exact h64) λout ns' a1 a2 a3=>?_
 obtain⟨c,hc⟩:=sortedAll_at s.heap its out;have keep:∀b o,s.heap.get? b=some o->(sortedAll s.heap its out).get? b=some o:=λb o e=>sortedAll_old e
 have hn:H (s.heap.objs.size+1)=none:=I.hok.fresh (Nat.le_succ _);have hl':ns'.length=ns.length:=a2.length_eq;exact⟨.ref (s.heap.objs.size+1),_,I.laid (t':=s.toks) (o:=.lst (ns'.map V.int)) keep (Nat.le_succ _) ⟨by rw[aD,aW];lia,out.toList,c,iF a1,by rw[Array.toArray_toList];exact hc⟩,rfl,q _ ns' hn a2 a3⟩
noncomputable def bh(kvs:List (Int×Int)):List (Key×V):=kvs.map λp=>(Sum.inl p.1,V.int p.2)
noncomputable def atK(kvs:List (Int×Int))(i:Int):Option Int:=(kvs.find? λp=>decide (p.1=i)).map (·.2)
noncomputable def cm(kvs:List (Int×Int))(i v:Int):List (Int×Int):=if (kvs.any λp=>decide (p.1=i))=true then kvs.map (λp=>if p.1=i then (p.1,v)else p)else kvs++[(i,v)]
noncomputable def cL(kvs more:List (Int×Int)):List (Int×Int):=more.foldl (λacc p=>cm acc p.1 p.2) kvs
theorem l7(a i:Int):decide ((Sum.inl a:Key)=Sum.inl i)=decide (a=i):=decide_eq_decide.mpr ⟨λh=>Sum.inl.inj h,λh=>by rw[h]⟩
theorem kJ(kvs:List (Int×Int))(i:Int):cJ (bh kvs) (Sum.inl i)=(atK kvs i).map V.int:=by
 rw[cJ,atK,bh]
 induction kvs with
 |nil=>rfl
 |cons p r ih=>
  rw[aR,List.find?_cons,List.find?_cons];rw[show decide ((Sum.inl p.1,V.int p.2).fst=(Sum.inl i:Key))=decide (p.1=i)from l7 p.1 i];cases decide (p.1=i)with
  |true=>rfl
  |false=>exact ih
theorem lL(kvs:List (Int×Int))(i:Int):((bh kvs).any λkv=>decide (kv.1=Sum.inl i))=kvs.any λp=>decide (p.1=i):=by
 rw[bh,List.any_map]
 congr 1
 funext p;exact l7 p.1 i
theorem lj(kvs:List (Int×Int))(i:Int):(cJ (bh kvs) (Sum.inl i)).isSome=kvs.any λp=>decide (p.1=i):=by
 rw[<-kg,lL]
theorem mJ(kvs:List (Int×Int))(i v:Int):putK (bh kvs) (Sum.inl i) (V.int v)=bh (cm kvs i v):=by
 rw[putK,cm,lL];by_cases h:(kvs.any λp=>decide (p.1=i))=true
 ·rw[if_pos h,if_pos h,bh,bh,bz,bz];refine List.map_congr_left λp _=>?_
  show (if (Sum.inl p.1:Key)=Sum.inl i then ((Sum.inl p.1:Key),V.int v)else (Sum.inl p.1,V.int p.2))=_;by_cases e:p.1=i
  ·rw[if_pos (by rw[e])];show _=((Sum.inl (if p.1=i then (p.1,v)else p).1:Key),V.int (if p.1=i then (p.1,v)else p).2)
   rw[if_pos e]
  ·rw[if_neg (λz=>e (Sum.inl.inj z))];show _=((Sum.inl (if p.1=i then (p.1,v)else p).1:Key),V.int (if p.1=i then (p.1,v)else p).2)
   rw[if_neg e]
 ·rw[if_neg h,if_neg h,bh,bh,List.map_append];rfl
theorem l0:∀(ms kvs:List (Int×Int)),eD (bh kvs) (bh ms)=bh (cL kvs ms)
 | [],kvs=>rfl
 |p::r,kvs=>by
  show eD (putK (bh kvs) (Sum.inl p.1) (V.int p.2)) (bh r)=_;rw[mJ,l0 r];rfl
theorem kP(kvs:List (Int×Int)):(bh kvs).length=kvs.length:=aD ..
section
variable{X:Cx}
noncomputable def rO:V->List V->Hp->VK->Prop:=λx vs H Q=>∃a b ks ms,x=.ref a/\vs=[.ref b]/\a≠b/\H a=some (.dK ks)/\H b=some (.dK ms)/\ks.length+ms.length<=aE/\Q .non (upd H a (.dK (eD ks ms)))
theorem AW:MtM X "dict.update" rO:=by
 intro pins s σ H x vs v us Q I rx rv h;obtain⟨a,b,ks,ms,rfl,rfl,hab,ha,hb,hz,q⟩:=h;cases rx;obtain⟨u,rfl,ru⟩:=rv.one;cases ru;obtain⟨z,hd,vs,rel,dd⟩:=fJ I.hok ha;obtain⟨z2,hd2,vs2,rel2,dd2⟩:=fJ I.hok hb;refine call_meetsIn PySem.F.slot_dict_update dd.typeIs PySem.F.entry_dict_update (PySem.F.args_dict_update_2 _ _) (meets_dict_update (zt X.prog X.w) a b hab hd2)
  ⟨vs,vs2,dd,dd2,by rw[<-rel.length,<-rel2.length];exact hz,λh' dd' _ hs=>?_⟩
 have he:∃q,h'.get? a=some q:=let ⟨q,_,_,hq,_⟩:=dd';⟨q,hq⟩
 have hl:(eD ks ms).length<=sizeLine:=ba (jR ms ks) hz;exact⟨.non,_,iL (t':=s.toks) I (by rw[ha];exact True.intro) hs he (kq hl hd (rel2.merge rel) dd'),rfl,q⟩
noncomputable def Ba:List V->Hp->VK->Prop:=λvs H Q=>∃(l:Addr) (kvs:List (Int×Int)),vs=[.ref l]/\H l=some (.dK (bh kvs))/\kvs.length<64/\∀(D:Addr) (ms:List Int),H D=none->ms.Perm (kvs.map (·.1))->ms.Pairwise (·<=·)->Q (.ref D) (upd H D (.lst (ms.map V.int)))
theorem jq{P:aq}{w:ak}:∀{ks:List (Int×Int)}{vs:List (Key×ae)}{xs:List ae},KV (bh ks) vs->xs.length=vs.length->(∀(j:Nat) (v:ae),xs[j]? = some v->∃k x,vs[j]? = some (k,x)/\(zt P w).is k v=true)->a8 xs (ks.map (·.1))
 | [],vs,xs,r,hl,h=>by
  cases r;cases xs with
  |nil=>exact .nil
  |cons _ _=>cases hl
 |p::ks,vs,xs,r,hl,h=>by
  cases r with
  | @cons a b as bs h1 t=>
   cases xs with
   |nil=>cases hl
   |cons x xs=>
    obtain⟨k,y,e1,e2⟩:=h 0 x rfl;cases e1;obtain⟨z1,_⟩:=h1;have z1:Sum.inl p.1=k:=z1;subst z1;obtain⟨tk,rfl⟩:∃t,x=ae.int p.1 t:=ae.isInt_shape (k:=p.1) (v:=x) e2;exact .cons _ _ (jq t (by simpa using hl) λj v e=>h (j+1) v e)
theorem vj{prog:aq}{w:ak}{A:au}{E:ae->af->Prop}{s:af}{T:String}{r d:Addr}{n:Nat}{P:Nat->ae->Prop}{OK:Heap->Prop}{R:List ae->af->Prop}(K:PySem.W.KdlSrc prog w T r d n P OK)(hh:A.handled=none)(hok:OK s.heap)(hn:n<=aE)
  (h:∀(h':Heap) (tk:Nat) (acc:Array ae),s.heap.objs.size<h'.objs.size->(∀b o,s.heap.get? b=some o->h'.get? b=some o)->ItemsOf P acc n->R acc.toList {s with heap:=h',toks:=tk}) :
  ah (ai prog w) A (collect (.ref r)) R E s:=by
 have hlt:=K.there _ hok;unfold collect;refine ag (wpAny_runValue (codeAny_builtin F.entry_proto_collect ?_));rw[au.under_plainId F.plain_proto_collect _];show ah _ A.in1 (newList []>>=λl=>again (.builtin "list.__iadd__" ⟨[l,.ref r],[]⟩)) _ _ s;refine ag (cU ?_);refine av ⟨plainId_quiet F.plain_list_iadd _,codeAny_builtin F.entry_list_iadd ?_⟩;rw[au.under_plainId F.plain_list_iadd _];have hS:(s.heap.push {cls:=.type "list",data:=.seq ([]:List ae).toArray}).get? s.heap.objs.size=some {cls:=.type "list",data:=.seq #[]}:=Heap.get?_push_size _ rfl;show ah _ A.in1 (Builtin.List.listExtendWith (.ref s.heap.objs.size) (.ref r) (.ref s.heap.objs.size)) _ _ _;refine wpAny_mono (PySem.W.kdl_extend (A:=A) (R:=λq s'=>∃h' tk acc c,q=.ok (.ret (.ref s.heap.objs.size))/\s'={s with heap:=h',toks:=tk}/\(∀b o,s.heap.get? b=some o->h'.get? b=some o)/\h'.get? s.heap.objs.size=some {cls:=.type "list",data:=.seq acc c}/\ItemsOf P acc n)
  K hh (K.keep _ _ hok λb _ o e=>Heap.get?_push_of_some _ e) _ (Nat.ne_of_gt hlt.1) (Nat.ne_of_gt hlt.2) (.ref s.heap.objs.size) 0 hS
  (λh' tk acc c k1 k2 k3=>⟨h',tk,acc,c,rfl,rfl,λb o e=>k1 b o (aZ (aJ e)) (Heap.get?_push_of_some _ e),k2,k3⟩) hn) (λf s' x=>?_) λe s' x=>?_
 ·have fin:∀{q:Result}{s':af},(∃h' tk acc c,q=.ok (.ret (.ref s.heap.objs.size))/\s'={s with heap:=h',toks:=tk}/\(∀b o,s.heap.get? b=some o->h'.get? b=some o)/\h'.get? s.heap.objs.size=some {cls:=.type "list",data:=.seq acc c}/\ItemsOf P acc n)->∃u,q=.ok (.ret u)/\ah (ai prog w) A (match (u:ae)with|aS a=>load a>>=λo=>(match o.data with | .seq xs _=>pure xs.toList|_=>unsupported "internal:collect")|_=>unsupported "internal:collect") R E s':=by
   rintro q s' ⟨h',tk,acc,c,rfl,rfl,k1,k2,k3⟩;exact⟨_,rfl,ag (wpAny_load k2 (av (h h' tk acc (aJ k2) k1 k3)))⟩
  cases f with
  |done f=>
   obtain⟨u,e,z⟩:=fin x;cases e;exact z
  |again c=>
   refine⟨x.1,codeAny_mono x.2 λq s2 y=>?_⟩;obtain⟨u,rfl,z⟩:=fin y;exact z
 ·obtain⟨_,_,_,_,z,_⟩:=x;cases z
theorem xi(hc:X.calm=true):zl X (.builtin "sorted") Ba:=by
 intro pins s σ H xs us Q I r ⟨l,kvs,e,hl,h64,q⟩;subst e;obtain⟨u,rfl,ru⟩:=r.one;cases ru;obtain⟨z,hd,vs,rel,dd⟩:=fJ I.hok hl;obtain⟨ep,hat⟩:=dd.dictAt;have hlen:vs.length=kvs.length:=by rw[<-rel.length];exact aD ..
 have hn:vs.length<=sizeLine:=by rw[aW];lia
 refine Calls.call_function_entry kind_sorted plain_sorted entry_sorted (args_sorted1 _) ?_;unfold Builtin.«sorted»;refine ag (m:=checkCount "sorted" 1 1 _) (av ?_);refine ag (vj (A:=X.A.in1) (PySem.W.kdl_dict (knd:=zt X.prog X.w) (kvs:=vs) (ep:=ep) hd) (I.ok.hd hc) hat hn λh' tk acc hsz hk hacc=>?_);have hla:acc.toList.length=vs.length:=by rw[Array.length_toList];exact hacc.1
 have hI:a8 acc.toList (kvs.map (·.1)):=jq (P:=X.prog) (w:=X.w) rel hla λj v e=>hacc.2 j v (by rw[<-Array.getElem?_toList];exact e)
 refine ag (wpAny_newList ?_ (by rw[hla];exact hn));have hL:(h'.push (aV "list" acc.toList.toArray 0)).get? h'.objs.size=some (aV "list" acc.toList.toArray 0):=Heap.get?_push_size _ rfl;refine ag (cB ?_);refine cz slot_list_sort ⟨_,hL,rfl⟩ entry_list_sort (list_sort_tree hL hI (by rw[hla,hlen];exact h64) λout ns' a1 a2 a3=>⟨_,rfl,?_⟩) (args_list_sort _);obtain⟨c,hc⟩:=sortedHeap_at (out:=out) hL;have hle:=a8.length a1;refine av ⟨_,rfl,.ref h'.objs.size,_,I.laid (t':=tk) (o:=.lst (ns'.map V.int)) (λb o e=>?_) (Nat.le_of_lt hsz) ⟨by rw[aD,a2.length_eq,aD,aW];lia,out.toList,c,iF a1,by rw[Array.toArray_toList];exact hc⟩,rfl,q _ ns' (I.hok.fresh (Nat.le_of_lt hsz)) a2 a3⟩;have e1:=hk b o e;have hb:=aJ e1;show (sortedHeap _ _ _ _).get? b=some o;rw[sortedHeap_old (aZ hb) (by rw[b5];exact Nat.lt_succ_of_lt hb)];exact Heap.get?_push_of_some _ e1
theorem uH(hu:X.A.units+64<cLine):OpR X (aQ .In) (λx y H Q=>∃a kvs i,y=.ref a/\x=.int i/\H a=some (.dK (bh kvs))/\Q (.bl (kvs.any λp=>decide (p.1=i))) H):=by
 intro pins s σ H x y v u Q I rx ry ⟨a,kvs,i,e1,e2,ha,q⟩;subst e1 e2;obtain rfl:u=aS a:=ry;refine vK (by lia) I (cK.k (k:=Sum.inl i) ha) rx λs' I'=>⟨.bl _,H,I',rfl,?_⟩
 rw[lj];exact q
theorem rV(hu:X.A.units+64<cLine):OpR X (aQ .NotIn) (λx y H Q=>∃a kvs i,y=.ref a/\x=.int i/\H a=some (.dK (bh kvs))/\Q (.bl (!kvs.any λp=>decide (p.1=i))) H):=by
 intro pins s σ H x y v u Q I rx ry ⟨a,kvs,i,e1,e2,ha,q⟩;subst e1 e2;obtain rfl:u=aS a:=ry;refine xo (by lia) I (cK.k (k:=Sum.inl i) ha) rx λs' I'=>⟨.bl _,H,I',rfl,?_⟩
 rw[lj];exact q
theorem Ay{prog:aq}{w:ak}{A:au}{E:ae->af->Prop}{s:af}{e b:Expr}{o i:ae}{T id:String}{Q:ae->af->Prop}(hT:s.TypeIs o T)(hl:typeLookup (.type T) "__getitem__" = pure (some (.builtin id)))
  (h:ah (ai prog w) A (getItem o i) Q E s) (hs:subscripted b false o i=operate [o,i] (getItem o i)):ah (ai prog w) A (subscriptTail e b o i) Q E s:=by
 unfold subscriptTail;refine ag ?_;rw[getitemInPython_of_ne hT.not_modules];refine ag (wpAny_specialOf hT hl ?_);have fin:ah (ai prog w) A (subscripted b false o i) (λr s'=>ah (ai prog w) A (letTemporaryGo e o r>>=λ_=>pure r) Q E s') E s:=by
  rw[hs];exact wpAny_operating (wpAny_mono h (λr s' z=>ag (wpAny_letTemporaryGo (av z))) λ_ _ x=>x)
 first
  |exact av (ag fin)
  |exact ag (av (ag fin))
  |exact ag fin
noncomputable def lZ:R2:=λx y H Q=>∃a kvs i v,x=.ref a/\y=.int i/\H a=some (.dK (bh kvs))/\atK kvs i=some v/\Q (.int v) H
theorem Aa(hu:X.A.units+64<cLine):IxR X lZ:=by
 intro value slice pins s σ H x y v u Q I rx ry ⟨a,kvs,i,z,e1,e2,ha,he,q⟩ hs;subst e1 e2;obtain rfl:v=aS a:=rx;have g:cK H a (.int i) (some (.int z)):=by
  have:=cK.k (k:=Sum.inl i) ha;rw[kJ,he]at this;exact this
 exact Ay (yM I g) PySem.F.slot_dict_getitem.lookup (xf (by lia) I g ry λw' s' I' rw'=>⟨_,H,I',rw',q⟩) hs
theorem fI.or{r r':V->V->V->Hp->(Hp->Prop)->Prop}(h:fI X r)(h':fI X r'):fI X (λx y v H Q=>r x y v H Q\/r' x y v H Q):=by
 intro pins s σ H o i v ov iv u Q I ro ri rv q;rcases q with q|q
 ·exact h pins s σ H o i v ov iv u Q I ro ri rv q
 ·exact h' pins s σ H o i v ov iv u Q I ro ri rv q
noncomputable def oQ:V->V->V->Hp->(Hp->Prop)->Prop:=λo i v H Q=>∃a kvs k z,o=.ref a/\i=.int k/\v=.int z/\H a=some (.dK (bh kvs))/\kvs.length<aE/\Q (upd H a (.dK (bh (cm kvs k z))))
theorem Cf(hu:X.A.units+64<cLine):fI X oQ:=by
 intro pins s σ H o i v ov iv u Q I ro ri rv ⟨a,kvs,k,z,e1,e2,e3,ha,hz,q⟩;subst e1 e2 e3;obtain rfl:ov=aS a:=ro;refine uP (by lia) I (i9.k (k:=Sum.inl k) (v:=.int z) ha (by rw[kP];exact hz)) ri rv λs' I'=>⟨_,I',?_⟩
 rw[mJ];exact q
noncomputable def Bb:List V->Hp->VK->Prop:=λvs H Q=>∃(l:Addr) (kvs:List (Int×Int)),vs=[.ref l]/\H l=some (.dK (bh kvs))/\∀D,H D=none->Q (.ref D) (upd H D (.lst (kvs.map λp=>V.int p.1)))
theorem rB(hc:X.calm=true):zl X (.type "list") Bb:=by
 intro pins s σ H xs us Q I r ⟨l,kvs,e,hl,q⟩;subst e;obtain⟨u,rfl,ru⟩:=r.one;cases ru;obtain⟨z,hd,vs,rel,dd⟩:=fJ I.hok hl;obtain⟨ep,hat⟩:=dd.dictAt;have hlen:vs.length=kvs.length:=by rw[<-rel.length];exact aD ..
 have hn:vs.length<=sizeLine:=by rw[<-rel.length];exact z
 refine PySem.W.kdl_call (PySem.W.kdl_dict (knd:=zt X.prog X.w) (kvs:=vs) (ep:=ep) hd) (I.ok.hd hc) hat hn λh' tk acc c k1 k2 k3=>?_
 have hla:acc.toList.length=vs.length:=by rw[Array.length_toList];exact k3.1
 have hI:a8 acc.toList (kvs.map (·.1)):=jq (P:=X.prog) (w:=X.w) rel hla λj v e=>k3.2 j v (by rw[<-Array.getElem?_toList];exact e)
 have hn':H s.heap.objs.size=none:=I.hok.fresh (aB _);have e:(kvs.map λp=>V.int p.1)=(kvs.map (·.1)).map V.int:=by rw[bz];rfl
 refine⟨.ref s.heap.objs.size,_,I.laid (t':=tk) (o:=.lst ((kvs.map (·.1)).map V.int)) k1 (aB _) ⟨by rw[aD,aD,<-hlen];exact hn,acc.toList,c,iF hI,by rw[Array.toArray_toList];exact k2⟩,rfl,?_⟩;rw[<-e];exact q _ hn'
end
noncomputable def eY(kX:Str->Option aM)(NX NY:List Str)(cap:List (Option Nat))(scope:aO):Bool:=
 (scope.kind==.function)&&(scope.names.all λy=>(y.2 != .cell||scope.names.lookup y.1==some .cell)&&(y.2 != .local||scope.names.lookup y.1==some .local)&&(y.2 != .free||kX y.1==some .cell||kX y.1==some .free)) &&
 (cap.length==NY.length)&&(a9 cap.length).all λi=>match cap[i]? with
  |some (some j)=>(match NY[i]?,NX[j]? with
   |some x,some y=>x==y&&scope.names.lookup x==some .free&&(kX x==some .cell||kX x==some .free)
   |_,_=>false)
  |_=>true
theorem cM.of{X:Cx}{NY:List Str}{cap:List (Option Nat)}{scope:aO}(h:eY X.env.kindOf X.N NY cap scope=true):cM X NY cap scope:=by
 unfold eY at h;simp only[aC,List.all_eq_true,beq_iff_eq]at h;obtain⟨⟨⟨h1,h2⟩,h3⟩,h4⟩:=h;refine⟨h1,λy hy e=>?_,λy hy e=>?_,λy hy e=>?_,h3,λi j hc=>?_⟩
 ·have:=(h2 y hy).1.1;rw[e]at this
  simpa using this
 ·have:=(h2 y hy).1.2;rw[e]at this
  simpa using this
 ·have:=(h2 y hy).2;rw[e]at this
  simpa using this
 ·have hi:i<cap.length:=(List.getElem?_eq_some_iff.mp hc).1;have:=h4 i (List.mem_range.mpr hi);rw[hc]at this;dsimp only at this;split at this
  ·rename_i x y e1 e2
   simp only[aC,beq_iff_eq,bu]at this;obtain⟨⟨e3,e4⟩,e5⟩:=this;subst e3;exact⟨x,e1,e2,e4,e5⟩
  ·cases this
end L2
namespace WB
open PySem PySem.Spec PyProof.Rows L2
section
variable{P:aq}{w:ak}{K:ao}{mg:Str->Option ae}{base:Heap}{f g:Addr}{fd gd:FuncData}
theorem _root_.L2.Fun.ok1{x qual:Str}{st:Stmt}{f:Addr}{fd:FuncData}{N ps:List Str}{k:Nat}{sp:Sp}(F:Fun K x qual st f fd)(S:gC N ps (zr st))(len:∀vs H Q E,sp vs H Q E->vs.length=ps.length)
  (hbody:∀(cdv:ae) (A:au) (outer:List Env) (s:af) (H:Hp) (vs:List V) (Q:VK) (E:XK),ck k (A.deeper (envOfC qual (zr st) s.heap.objs.size f cdv))->sp vs H Q E ->
   ∃t,PSs (ez (CX1 P w) P w K mg base N qual (zr st) f cdv A outer s H E) (dB st) t/\t {nx:=λ_ H'=>Q .non H',rt:=Q} (start N vs) H):eO P w K mg base (CX1 P w) (k+1) f fd ps sp:=by
 obtain⟨oc,od,kV,doc,pm,an,cdv,ct,osl,rfl,lk,hcd⟩:=F.ex;exact t5 lk hcd S len λA outer s H vs Q E hr hsp=>hbody cdv A outer s H vs Q E hr hsp
end
noncomputable def rZ(H:Hp)(ps:List Addr)(ks:List (Int×Int)):Prop:=ps.length=ks.length/\∀(i:Nat) p k,ps[i]? = some p->ks[i]? = some k->H p=some (.tup [.int k.1,.int k.2])
structure Built(H0:Hp)(acc:Addr)(ks:List (Int×Int))(H:Hp):Prop where
 ex:∃ps:List Addr,H acc=some (.lst (ps.map V.ref))/\rZ H ps ks
 same:∀b o,b≠acc->H0 b=some o->H b=some o
end WB
set_option genSizeOf false
set_option genSizeOfSpec false
namespace EV
open PySem L2
inductive D where
 |non|bl (b:Bool)|int (i:Int)|str (x:Str)|tup (xs:List D)|lst (xs:List D)|fn (x:Str)|exn (c:Str)|dic (kvs:List (Int×Int))
inductive R(α:Type) where
 |ok (a:α)|ex (c:Str)|no
noncomputable def R.bind{α β:Type}:R α->(α->R β)->R β
 | .ok a,f=>f a
 | .ex c,_=>.ex c
 | .no,_=>.no
@[simp] theorem R.bind_ok{α β:Type}(a:α)(f:α->R β):(R.ok a).bind f=f a:=rfl
@[simp] theorem R.bind_ex{α β:Type}(c:Str)(f:α->R β):(R.ex c:R α).bind f=.ex c:=rfl
@[simp] theorem R.bind_no{α β:Type}(f:α->R β):(R.no:R α).bind f=.no:=rfl
inductive O2 where
 |add|sub|mul|fdiv|mod|pow|shl|shr|band|bor|bxor
 deriving DecidableEq
inductive C2 where
 |eq|ne|lt|le|gt|ge|isin|notin|is|isnot
 deriving DecidableEq
inductive B1 where
 |len|tuple|list|sorted|all|any|sum|min|max|abs|int|bool
 deriving DecidableEq
inductive Cl where
 |ty (n:String)|ex (x:Str)
 deriving DecidableEq
inductive Tg where
 |nm (i:Nat)|tp (is:List Nat)
mutual
inductive E where
 |var (i:Nat)|own (i:Nat)|con (d:D)|glb (x:Str)|fnv (x:Str)
 |op (o:O2) (a b:E)|neg (a:E)|inv (a:E)|not (a:E)|and (a b:E)|or (a b:E)
 |cmp (c:C2) (a b:E)|cmp2 (c c':C2) (a b d:E)|cmp3 (c c' c'':C2) (a b d e:E)
 |ite (t:T) (a b:E)
 |tup (es:Es)|lst (es:Es)
 |ix (a b:E)|sl (a:E) (lo hi:OE)
 |call (f:Str) (es:Es)|callE (f:E) (es:Es)
 |bi (b:B1) (es:Es)
 |rtup (a:It)|rlst (a:It)
 |isi (a:E) (c:Cl)
 |comp (it:It) (cap:List (Option Nat)) (tg:Tg) (t:T) (elt:E)
 |mth (ix:Bool) (a:E)
 |cnt (a b:E)
 |mxk (mx:Bool) (a:E)
 |dic
 |callo (f:Str) (es:Es)
 |comp2 (it:It) (cap:List (Option Nat)) (tg:Tg) (it2:It) (tg2:Tg) (t:T) (elt:E)
 |fst2 (t0:Str) (a:E) (t1:Str) (b:E) (t2:Str)
 |sset (ln:Bool) (a:E)
 |rev (a:E)
 |dic1 (a b:E)
 |dget (a b:E)
 |dget2 (a b d:E)
 |lsd (a:E)
inductive OE where
 |none|some (e:E)
inductive Es where
 |nil|cons (e:E) (es:Es)
inductive It where
 |seq (e:E)|rng (a:E)|rng2 (a b:E)|enum (e:E)|zip (a b:E)|rng3 (a b k:E)|rrev (a:E)
inductive T where
 |yes|val (e:E)|cmp (c:C2) (a b:E)|cmp2 (c c':C2) (a b d:E)|and (a b:T)|or (a b:T)|not (a:T)
end
noncomputable def SZ:Nat:=1000000
noncomputable def small(j:Int):Bool:=decide (-(2^64)<j)&&decide (j<2^64)
noncomputable def opI:O2->Int->Int->R D
 | .add,i,j=>.ok (.int (i+j))
 | .sub,i,j=>.ok (.int (i-j))
 | .mul,i,j=>if small i||small j then .ok (.int (i * j))else .no
 | .fdiv,i,j=>if 0<j/\j<1000000000000000000000000000000 then .ok (.int (i/j))else .no
 | .mod,i,j=>if 0<j then .ok (.int (i%j))else .no
 | .pow,i,j=>if 0<=j/\j<=1000000/\i.natAbs<2^64 then .ok (.int (i^j.toNat))else .no
 | .shl,i,j=>if 0<=j/\j<=1000000/\i.natAbs<2^64 then .ok (.int (i * 2^j.toNat))else .no
 | .shr,i,j=>if 0<=j then .ok (.int (i/2^j.toNat))else .no
 | .band,i,j=>.ok (.int (Builtin.bitAnd i j))
 | .bor,i,j=>.ok (.int (Builtin.bitOr i j))
 | .bxor,i,j=>.ok (.int (Builtin.bitXor i j))
noncomputable def oB:D->Bool
 | .lst _=>true
 |_=>false
noncomputable def op2(o:O2):D->D->R D
 | .int i,.int j=>opI o i j
 | .tup xs,.tup ys=>if o=.add/\xs.length+ys.length<=SZ then .ok (.tup (xs++ys))else .no
 | .lst xs,.lst ys=>if o=.add/\xs.length+ys.length<=SZ then .ok (.lst (xs++ys))else .no
 |_,_=>.no
mutual
noncomputable def D.plain:D->Bool
 | .non=>true
 | .bl _=>true
 | .int _=>true
 | .str x=>PyData.strOk x
 | .tup xs=>plainAll xs
 | .lst xs=>plainAll xs
 | .fn _=>false
 | .exn _=>false
 | .dic _=>false
noncomputable def plainAll:List D->Bool
 | []=>true
 |x::xs=>x.plain&&plainAll xs
end
mutual
noncomputable def D.deep:D->Nat
 | .tup xs=>eW xs+1
 | .lst xs=>eW xs+1
 |_=>0
noncomputable def eW:List D->Nat
 | []=>0
 |x::xs=>max x.deep (eW xs)
end
mutual
noncomputable def D.eqv:D->D->Bool
 | .non,.non=>true
 | .bl a,.bl b=>a==b
 | .bl a,.int j=>(if a then 1 else 0)==j
 | .int i,.bl b=>i==(if b then 1 else 0)
 | .int i,.int j=>i==j
 | .str x,.str y=>x==y
 | .tup xs,.tup ys=>eqvAll xs ys
 | .lst xs,.lst ys=>eqvAll xs ys
 |_,_=>false
noncomputable def eqvAll:List D->List D->Bool
 | [],[]=>true
 |x::xs,y::ys=>x.eqv y&&eqvAll xs ys
 |_,_=>false
end
noncomputable def D.asks(d:D):Bool:=d.plain&&decide (d.deep<=20)
mutual
noncomputable def D.noL:D->Bool
 | .non=>true
 | .bl _=>true
 | .int _=>true
 | .str _=>true
 | .tup xs=>gO xs
 |_=>false
noncomputable def gO:List D->Bool
 | []=>true
 |x::xs=>x.noL&&gO xs
end
noncomputable def ints?:List D->Option (List Int)
 | []=>some []
 | .int i::r=>(ints? r).map (i :: ·)
 |_=>none
noncomputable def bools?:List D->Option (List Bool)
 | []=>some []
 | .bl i::r=>(bools? r).map (i :: ·)
 |_=>none
noncomputable def pairs?:List D->Option (List (Int×Int))
 | []=>some []
 | .tup [.int i,.int j]::r=>(pairs? r).map ((i,j) :: ·)
 |_=>none
noncomputable def seq?:D->Option (List D)
 | .tup xs=>some xs
 | .lst xs=>some xs
 |_=>none
noncomputable def dW:List Int->List Int->Bool
 | [],[]=>false
 | [],_::_=>true
 |_::_,[]=>false
 |a::r,b::t=>if a=b then dW r t else decide (a<b)
noncomputable def jg(c:C2)(i j:Int):Option Bool:=
 match c with
 | .lt=>some (decide (i<j))
 | .le=>some (decide (i<=j))
 | .gt=>some (decide (j<i))
 | .ge=>some (decide (j<=i))
 | .eq=>some (decide (i=j))
 | .ne=>some (!decide (i=j))
 |_=>none
noncomputable def inD(x:D)(xs:List D):Bool:=xs.any λy=>y.eqv x
noncomputable def el:D->Bool
 | .non=>true
 |_=>false
noncomputable def isB(n:Bool):D->D->R Bool
 | .bl a,.bl b=>.ok (n != (a==b))
 |_,_=>.no
noncomputable def cN(a b:D):R Bool:=match b with
 | .dic kvs=>(match a with
  | .int i=>.ok (kvs.any λp=>decide (p.1=i))
  |_=>.no)
 |_=>.no
noncomputable def qh:C2->D->D->R Bool
 | .is,a,b=>if el b then .ok (el a)else isB false a b
 | .isnot,a,b=>if el b then .ok (!el a)else isB true a b
 | .isin,a,b=>match seq? b with
  |some xs=>if a.asks&&xs.all D.asks then .ok (inD a xs)else .no
  |none=>cN a b
 | .notin,a,b=>match seq? b with
  |some xs=>if a.asks&&xs.all D.asks then .ok (!inD a xs)else .no
  |none=>(cN a b).bind λr=>.ok (!r)
 | .eq,a,b=>if a.asks&&b.asks then .ok (a.eqv b)else .no
 | .ne,a,b=>if a.asks&&b.asks then .ok (!a.eqv b)else .no
 | .lt,.tup xs,.tup ys=>match ints? xs,ints? ys with
  |some ns,some ms=>.ok (dW ns ms)
  |_,_=>.no
 |c,.int i,.int j=>match jg c i j with
  |some b=>.ok b
  |none=>.no
 |_,_,_=>.no
noncomputable def truth:D->R Bool
 | .non=>.ok false
 | .bl b=>.ok b
 | .int i=>.ok (i != 0)
 | .tup xs=>.ok (!xs.isEmpty)
 | .lst xs=>.ok (!xs.isEmpty)
 |_=>.no
noncomputable def ixD:D->D->R D
 | .tup xs,.int i=>match atI xs i with|some d=>.ok d|none=>.no
 | .lst xs,.int i=>match atI xs i with|some d=>.ok d|none=>.no
 | .dic kvs,.int i=>match atK kvs i with|some v=>.ok (.int v)|none=>.no
 |_,_=>.no
noncomputable def cutD(xs:List D)(lo hi:Option Int):List D:=(xs.drop (HT.sIx xs.length 0 lo)).take (HT.sIx xs.length xs.length hi-HT.sIx xs.length 0 lo)
noncomputable def slD:D->Option Int->Option Int->R D
 | .tup xs,lo,hi=>.ok (.tup (cutD xs lo hi))
 | .lst xs,lo,hi=>.ok (.lst (cutD xs lo hi))
 |_,_,_=>.no
noncomputable def insI(i:Int):List Int->List Int
 | []=>[i]
 |j::r=>if i<=j then i::j::r else j::insI i r
noncomputable def sortI:List Int->List Int
 | []=>[]
 |i::r=>insI i (sortI r)
noncomputable def fG(p:Int×Int):List (Int×Int)->List (Int×Int)
 | []=>[p]
 |q::r=>if ltP q p then q::fG p r else p::q::r
noncomputable def zw:List (Int×Int)->List (Int×Int)
 | []=>[]
 |p::r=>fG p (zw r)
noncomputable def pairD(p:Int×Int):D:=.tup [.int p.1,.int p.2]
noncomputable def dY(d:D)(k:List D->R D):R D:=match d with | .lst xs=>k xs|_=>.no
noncomputable def ibR(d:D)(f:Int->R D)(q:Bool->R D):R D:=match d with | .int i=>f i | .bl b=>q b|_=>.no
noncomputable def iiR(d e:D)(k:Int->Int->R D):R D:=match d,e with | .int i,.int j=>k i j|_,_=>.no
noncomputable def cZ{α β:Type}(o:Option α)(k:α->R β):R β:=match o with|some a=>k a|none=>.no
noncomputable def nU(p:List Int):List (List Int)->List (List Int)
 | []=>[p]
 |q::r=>if dW q p then q::nU p r else p::q::r
noncomputable def nQ:List (List Int)->List (List Int)
 | []=>[]
 |p::r=>nU p (nQ r)
noncomputable def dX(xs:List D):R D:=.no
noncomputable def oX(mx:Bool)(i:Int):List Int->Int
 | []=>i
 |j::r=>oX mx (if mx then (if i<j then j else i)else (if j<i then j else i)) r
noncomputable def h_(x:D)(f:List (Int×Int)->R D):R D:=match x with
 | .dic kvs=>f kvs
 |_=>.no
noncomputable def iQ(kvs:List (Int×Int))(y:D):R D:=match y with
 | .int i=>.ok (match atK kvs i with|some v=>.int v|none=>.non)
 |_=>.no
noncomputable def ig(kvs:List (Int×Int))(y z:D):R D:=match y with
 | .int i=>.ok (match atK kvs i with|some v=>.int v|none=>z)
 |_=>.no
noncomputable def nB(x:D):R D:=match x with
 | .lst xs=>.ok (.lst xs)
 | .dic kvs=>.ok (.lst (kvs.map λp=>.int p.1))
 |_=>.no
noncomputable def b11(b:B1)(d:D):R D:=match b with
 | .len=>cZ (seq? d) λxs=>.ok (.int xs.length)
 | .tuple=>cZ (seq? d) λxs=>.ok (.tup xs)
 | .list=>cZ (seq? d) λxs=>.ok (.lst xs)
 | .all=>dY d λxs=>cZ (bools? xs) λbs=>.ok (.bl (bs.all id))
 | .any=>dY d λxs=>cZ (bools? xs) λbs=>.ok (.bl (bs.any id))
 | .sorted=>match d with
  | .tup xs=>if xs.length<64 then cZ (ints? xs) λns=>.ok (.lst ((sortI ns).map D.int))else .no
  | .dic kvs=>if kvs.length<64 then .ok (.lst ((sortI (kvs.map (·.1))).map D.int))else .no
  |d=>dY d λxs=>if xs.length<64 then (match ints? xs with
   |some ns=>.ok (.lst ((sortI ns).map D.int))
   |none=>match pairs? xs with
    |some ps=>.ok (.lst ((zw ps).map pairD))
    |none=>dX xs)else dX xs
 | .abs=>ibR d (λi=>.ok (.int (if i<0 then -i else i))) λ_=>.no
 | .int=>ibR d (λi=>.ok (.int i)) λb=>.ok (.int (if b then 1 else 0))
 | .bool=>ibR d (λi=>.ok (.bl (i != 0))) λb=>.ok (.bl b)
 | .min=>.no
 | .max=>.no
 | .sum=>dY d λxs=>cZ (ints? xs) λns=>.ok (.int ns.sum)
noncomputable def b12(b:B1)(d e:D):R D:=match b with
 | .min=>iiR d e λi j=>.ok (.int (if j<i then j else i))
 | .max=>iiR d e λi j=>.ok (.int (if j>i then j else i))
 |_=>.no
noncomputable def nL(ln:Bool)(d:D):R D:=.no
noncomputable def b1(b:B1):List D->R D
 | [d]=>b11 b d
 | [d,e]=>b12 b d e
 |_=>.no
noncomputable def tyD:D->Option String
 | .non=>some "NoneType"
 | .bl _=>some "bool"
 | .int _=>some "int"
 | .str _=>some "str"
 | .tup _=>some "tuple"
 | .lst _=>some "list"
 | .dic _=>some "dict"
 |_=>none
noncomputable def cn(lo:Int)(n:Nat):List D:=(a9 n).map λ(i:Nat)=>.int (lo+(i:Int))
noncomputable def fQ(lo st:Int)(n:Nat):List D:=(a9 n).map λ(i:Nat)=>.int (lo+(i:Int) * st)
noncomputable def b_:List D->List D->List D
 |x::xs,y::ys=>.tup [x,y]::b_ xs ys
 |_,_=>[]
noncomputable def qV(j:Int):Bool:=decide (-1000000<=j)&&decide (j<=1000000)
abbrev Env:=List (Option D)
structure W where
 call:Str->List D->R D
 glb:Str->Option D
 sub:Str->Cl->Option Bool
 cat:Str->Str->Bool
noncomputable def cb(w:W)(x:D)(c:Cl):R D:=match tyD x,c with
 |some t,.ty n=>if n = "ValueError" then .no else .ok (.bl (fz t n))
 |none,c=>match x with
  | .exn k=>match w.sub k c with|some b=>.ok (.bl b)|none=>.no
  |_=>.no
 |_,_=>.no
noncomputable def zG(τ:Env)(i:Nat):R D:=match τ[i]? with
 |some (some d)=>.ok d
 |_=>.no
noncomputable def setAll:List Nat->List D->Env->R Env
 | [],[],τ=>.ok τ
 |i::is,d::ds,τ=>setAll is ds (τ.set i (some d))
 |_,_,_=>.no
noncomputable def store:Tg->D->Env->R Env
 | .nm i,d,τ=>.ok (τ.set i (some d))
 | .tp is,.tup ds,τ=>if ds.length=is.length then setAll is ds τ else .no
 |_,_,_=>.no
noncomputable def dC(cap:List (Option Nat))(τ:Env):Env:=cap.map λo=>o.bind λj=>(τ[j]?).join
noncomputable def noEx{α:Type}:R α->R α
 | .ok a=>.ok a
 |_=>.no
noncomputable def bY(body:D->Env->R (Env×List D)):List D->Env->List D->R (List D)
 | [],_,acc=>.ok acc
 |x::r,τ,acc=>(body x τ).bind λp=>bY body r p.1 (acc++p.2)
mutual
noncomputable def evE(w:W):E->Env->R D
 | .var i,τ=>zG τ i
 | .own i,τ=>zG τ i
 | .con d,_=>.ok d
 | .glb x,_=>match w.glb x with|some d=>.ok d|none=>.no
 | .fnv x,_=>.no
 | .op o a b,τ=>(evE w a τ).bind λx=>(evE w b τ).bind λy=>op2 o x y
 | .neg a,τ=>(evE w a τ).bind λx=>match x with | .int i=>.ok (.int (-i))|_=>.no
 | .inv a,_=>.no
 | .not a,τ=>(evE w a τ).bind λx=>match x with | .bl b=>.ok (.bl (!b))|_=>.no
 | .and a b,τ=>(evE w a τ).bind λx=>match x with | .bl true=>evE w b τ | .bl false=>.ok (.bl false)|_=>.no
 | .or a b,τ=>(evE w a τ).bind λx=>match x with | .bl true=>.ok (.bl true) | .bl false=>evE w b τ|_=>.no
 | .cmp c a b,τ=>(evE w a τ).bind λx=>(evE w b τ).bind λy=>(qh c x y).bind λr=>.ok (.bl r)
 | .cmp2 c c' a b d,τ=>(evE w a τ).bind λx=>(evE w b τ).bind λy=>(qh c x y).bind λr=>if r then (evE w d τ).bind λz=>(qh c' y z).bind λr'=>.ok (.bl r')else .ok (.bl false)
 | .cmp3 c c' c'' a b d e,τ=>(evE w a τ).bind λx=>(evE w b τ).bind λy=>(qh c x y).bind λr=>if r then (evE w d τ).bind λz=>(qh c' y z).bind λr'=>if r' then (evE w e τ).bind λu=>(qh c'' z u).bind λr''=>.ok (.bl r'')else .ok (.bl false)else .ok (.bl false)
 | .ite t a b,τ=>(evT w t τ).bind λr=>if r then evE w a τ else evE w b τ
 | .tup es,τ=>(bB w es τ).bind λds=>.ok (.tup ds)
 | .lst es,τ=>(bB w es τ).bind λds=>.ok (.lst ds)
 | .ix a b,τ=>(evE w a τ).bind λx=>(evE w b τ).bind λy=>ixD x y
 | .sl a lo hi,τ=>(evE w a τ).bind λx=>(evO w lo τ).bind λl=>(evO w hi τ).bind λh=>slD x l h
 | .call f es,τ=>(bB w es τ).bind λds=>w.call f ds
 | .callE f es,_=>.no
 | .bi b es,τ=>(bB w es τ).bind λds=>b1 b ds
 | .rtup a,_=>.no
 | .rlst a,_=>.no
 | .isi a c,τ=>(evE w a τ).bind λx=>cb w x c
 | .comp it cap tg t elt,τ=>(evI w it τ).bind λds=>if SZ<ds.length then .no else (bY (λx σ=>noEx ((store tg x σ).bind λσ'=>(evT w t σ').bind λr=>if r then (evE w elt σ').bind λd=>.ok (σ',[d])else .ok (σ',[]))) ds (dC cap τ) []).bind λout=>.ok (.lst out)
 | .mth ix a,_=>.no
 | .cnt a b,_=>.no
 | .mxk mx a,_=>.no
 | .dic,_=>.ok (.dic [])
 | .callo f es,τ=>(bB w es τ).bind λds=>(w.call f ds).bind λd=>if d.noL then .ok d else .no
 | .comp2 it cap tg it2 tg2 t elt,_=>.no
 | .fst2 t0 a t1 b t2,_=>.no
 | .sset ln a,τ=>(evE w a τ).bind (nL ln)
 | .rev a,_=>.no
 | .dic1 a b,τ=>(evE w a τ).bind λx=>(evE w b τ).bind λy=>iiR x y λi j=>.ok (.dic [(i,j)])
 | .dget a b,τ=>(evE w a τ).bind λx=>h_ x λkvs=>(evE w b τ).bind λy=>iQ kvs y
 | .dget2 a b d,τ=>(evE w a τ).bind λx=>h_ x λkvs=>(evE w b τ).bind λy=>(evE w d τ).bind λz=>ig kvs y z
 | .lsd a,τ=>(evE w a τ).bind nB
noncomputable def evO(w:W):OE->Env->R (Option Int)
 | .none,_=>.ok none
 | .some e,τ=>(evE w e τ).bind λx=>match x with | .int i=>.ok (some i)|_=>.no
noncomputable def bB(w:W):Es->Env->R (List D)
 | .nil,_=>.ok []
 | .cons e es,τ=>(evE w e τ).bind λd=>(bB w es τ).bind λds=>.ok (d::ds)
noncomputable def evI(w:W):It->Env->R (List D)
 | .seq e,τ=>(evE w e τ).bind λx=>match seq? x with|some xs=>.ok xs|none=>.no
 | .rng a,τ=>(evE w a τ).bind λx=>match x with | .int j=>if qV j then .ok (cn 0 j.toNat)else .no|_=>.no
 | .rng2 a b,τ=>(evE w a τ).bind λx=>(evE w b τ).bind λy=>match x,y with | .int i,.int j=>if qV i&&qV j then .ok (cn i (j-i).toNat)else .no|_,_=>.no
 | .enum e,_=>.no
 | .zip a b,τ=>(evE w a τ).bind λx=>(evE w b τ).bind λy=>match x,y with
  | .tup xs,.tup ys=>if xs.length=ys.length then .ok (b_ xs ys)else .no
  | .lst xs,.lst ys=>if xs.length=ys.length then .ok (b_ xs ys)else .no
  |_,_=>.no
 | .rng3 a b k,_=>.no
 | .rrev a,τ=>(evE w a τ).bind λx=>match x with | .int j=>if decide (0<=j)&&qV j then .ok (fQ (j-1) (-1) j.toNat)else .no|_=>.no
noncomputable def evT(w:W):T->Env->R Bool
 | .yes,_=>.ok true
 | .val e,τ=>(evE w e τ).bind λx=>truth x
 | .cmp c a b,τ=>(evE w a τ).bind λx=>(evE w b τ).bind λy=>qh c x y
 | .cmp2 c c' a b d,τ=>(evE w a τ).bind λx=>(evE w b τ).bind λy=>(qh c x y).bind λr=>if r then (evE w d τ).bind λz=>qh c' y z else .ok false
 | .and a b,τ=>(evT w a τ).bind λr=>if r then evT w b τ else .ok false
 | .or a b,τ=>(evT w a τ).bind λr=>if r then .ok true else evT w b τ
 | .not a,τ=>(evT w a τ).bind λr=>.ok (!r)
end
theorem qW:∀{w i τ},@Eq (R D) (evE w (.var i) τ) (zG τ i):=rfl
theorem qX:∀{w i τ},@Eq (R D) (evE w (.own i) τ) (zG τ i):=rfl
theorem zb:∀{w d τ},@Eq (R D) (evE w (.con d) τ) (.ok d):=rfl
theorem qZ:∀{w x τ},@Eq (R D) (evE w (.glb x) τ) (match w.glb x with|some d=>.ok d|none=>.no):=rfl
theorem zc:∀{w x τ},@Eq (R D) (evE w (.fnv x) τ) (.no):=rfl
theorem za:∀{w o a b τ},@Eq (R D) (evE w (.op o a b) τ) ((evE w a τ).bind λx=>(evE w b τ).bind λy=>op2 o x y):=rfl
theorem zf:∀{w a τ},@Eq (R D) (evE w (.neg a) τ) ((evE w a τ).bind λx=>match x with | .int i=>.ok (.int (-i))|_=>.no):=rfl
theorem zg:∀{w a τ},@Eq (R D) (evE w (.inv a) τ) (.no):=rfl
theorem qY:∀{w a τ},@Eq (R D) (evE w (.not a) τ) ((evE w a τ).bind λx=>match x with | .bl b=>.ok (.bl (!b))|_=>.no):=rfl
theorem qB:∀{w a b τ},@Eq (R D) (evE w (.and a b) τ) ((evE w a τ).bind λx=>match x with | .bl true=>evE w b τ | .bl false=>.ok (.bl false)|_=>.no):=rfl
theorem qr:∀{w a b τ},@Eq (R D) (evE w (.or a b) τ) ((evE w a τ).bind λx=>match x with | .bl true=>.ok (.bl true) | .bl false=>evE w b τ|_=>.no):=rfl
theorem qC:∀{w c a b τ},@Eq (R D) (evE w (.cmp c a b) τ) ((evE w a τ).bind λx=>(evE w b τ).bind λy=>(qh c x y).bind λr=>.ok (.bl r)):=rfl
theorem qA:∀{w c c' a b d τ},@Eq (R D) (evE w (.cmp2 c c' a b d) τ) ((evE w a τ).bind λx=>(evE w b τ).bind λy=>(qh c x y).bind λr=>if r then (evE w d τ).bind λz=>(qh c' y z).bind λr'=>.ok (.bl r')else .ok (.bl false)):=rfl
theorem qw:∀{w c c' c'' a b d e τ},@Eq (R D) (evE w (.cmp3 c c' c'' a b d e) τ) ((evE w a τ).bind λx=>(evE w b τ).bind λy=>(qh c x y).bind λr=>if r then (evE w d τ).bind λz=>(qh c' y z).bind λr'=>if r' then (evE w e τ).bind λu=>(qh c'' z u).bind λr''=>.ok (.bl r'')else .ok (.bl false)else .ok (.bl false)):=rfl
theorem qJ:∀{w t a b τ},@Eq (R D) (evE w (.ite t a b) τ) ((evT w t τ).bind λr=>if r then evE w a τ else evE w b τ):=rfl
theorem qq:∀{w es τ},@Eq (R D) (evE w (.tup es) τ) ((bB w es τ).bind λds=>.ok (.tup ds)):=rfl
theorem qx:∀{w es τ},@Eq (R D) (evE w (.lst es) τ) ((bB w es τ).bind λds=>.ok (.lst ds)):=rfl
theorem qo:∀{w a b τ},@Eq (R D) (evE w (.ix a b) τ) ((evE w a τ).bind λx=>(evE w b τ).bind λy=>ixD x y):=rfl
theorem qD:∀{w a lo hi τ},@Eq (R D) (evE w (.sl a lo hi) τ) ((evE w a τ).bind λx=>(evO w lo τ).bind λl=>(evO w hi τ).bind λh=>slD x l h):=rfl
theorem qu:∀{w f es τ},@Eq (R D) (evE w (.call f es) τ) ((bB w es τ).bind λds=>w.call f ds):=rfl
theorem qE:∀{w f es τ},@Eq (R D) (evE w (.callE f es) τ) (.no):=rfl
theorem qt:∀{w b es τ},@Eq (R D) (evE w (.bi b es) τ) ((bB w es τ).bind λds=>b1 b ds):=rfl
theorem qp:∀{w a τ},@Eq (R D) (evE w (.rtup a) τ) (.no):=rfl
theorem qG:∀{w a τ},@Eq (R D) (evE w (.rlst a) τ) (.no):=rfl
theorem qy:∀{w a c τ},@Eq (R D) (evE w (.isi a c) τ) ((evE w a τ).bind λx=>cb w x c):=rfl
theorem qm:∀{w it cap tg t elt τ},@Eq (R D) (evE w (.comp it cap tg t elt) τ) ((evI w it τ).bind λds=>if SZ<ds.length then .no else (bY (λx σ=>noEx ((store tg x σ).bind λσ'=>(evT w t σ').bind λr=>if r then (evE w elt σ').bind λd=>.ok (σ',[d])else .ok (σ',[]))) ds (dC cap τ) []).bind λout=>.ok (.lst out)):=rfl
theorem qS:∀{w ix a τ},@Eq (R D) (evE w (.mth ix a) τ) (.no):=rfl
theorem qH:∀{w a b τ},@Eq (R D) (evE w (.cnt a b) τ) (.no):=rfl
theorem qR:∀{w mx a τ},@Eq (R D) (evE w (.mxk mx a) τ) (.no):=rfl
theorem qI:∀{w τ},@Eq (R D) (evE w (.dic) τ) (.ok (.dic [])):=rfl
theorem qT:∀{w f es τ},@Eq (R D) (evE w (.callo f es) τ) ((bB w es τ).bind λds=>(w.call f ds).bind λd=>if d.noL then .ok d else .no):=rfl
theorem qK:∀{w it cap tg it2 tg2 t elt τ},@Eq (R D) (evE w (.comp2 it cap tg it2 tg2 t elt) τ) (.no):=rfl
theorem qF:∀{w t0 a t1 b t2 τ},@Eq (R D) (evE w (.fst2 t0 a t1 b t2) τ) (.no):=rfl
theorem qP:∀{w ln a τ},@Eq (R D) (evE w (.sset ln a) τ) ((evE w a τ).bind (nL ln)):=rfl
theorem qO:∀{w a τ},@Eq (R D) (evE w (.rev a) τ) (.no):=rfl
theorem qU:∀{w a b τ},@Eq (R D) (evE w (.dic1 a b) τ) ((evE w a τ).bind λx=>(evE w b τ).bind λy=>iiR x y λi j=>.ok (.dic [(i,j)])):=rfl
theorem qL:∀{w a b τ},@Eq (R D) (evE w (.dget a b) τ) ((evE w a τ).bind λx=>h_ x λkvs=>(evE w b τ).bind λy=>iQ kvs y):=rfl
theorem qN:∀{w a b d τ},@Eq (R D) (evE w (.dget2 a b d) τ) ((evE w a τ).bind λx=>h_ x λkvs=>(evE w b τ).bind λy=>(evE w d τ).bind λz=>ig kvs y z):=rfl
theorem qQ:∀{w a τ},@Eq (R D) (evE w (.lsd a) τ) ((evE w a τ).bind nB):=rfl
theorem eQ:∀{w τ},@Eq (R Bool) (evT w (.yes) τ) (.ok true):=rfl
theorem eT:∀{w e τ},@Eq (R Bool) (evT w (.val e) τ) ((evE w e τ).bind λx=>truth x):=rfl
theorem eR:∀{w c a b τ},@Eq (R Bool) (evT w (.cmp c a b) τ) ((evE w a τ).bind λx=>(evE w b τ).bind λy=>qh c x y):=rfl
theorem eU:∀{w c c' a b d τ},@Eq (R Bool) (evT w (.cmp2 c c' a b d) τ) ((evE w a τ).bind λx=>(evE w b τ).bind λy=>(qh c x y).bind λr=>if r then (evE w d τ).bind λz=>qh c' y z else .ok false):=rfl
theorem eZ:∀{w a b τ},@Eq (R Bool) (evT w (.and a b) τ) ((evT w a τ).bind λr=>if r then evT w b τ else .ok false):=rfl
theorem fj:∀{w a b τ},@Eq (R Bool) (evT w (.or a b) τ) ((evT w a τ).bind λr=>if r then .ok true else evT w b τ):=rfl
theorem fh:∀{w a τ},@Eq (R Bool) (evT w (.not a) τ) ((evT w a τ).bind λr=>.ok (!r)):=rfl
mutual
inductive S where
 |set (tg:Tg) (e:E)
 |app (i:Nat) (e:E)
 |seti (i:Nat) (k e:E)
 |exp (e:E)
 |ret (e:E)|retN
 |ite (t:T) (a b:Ss)
 |for (tg:Tg) (it:It) (b:Ss)
 |while (t:T) (b:Ss)
 |raise (c:Str) (es:Es)
 |try (b:Ss) (c:Str) (i:Option Nat) (h:Ss)
 |ins (i:Nat) (k e:E)
 |pass|brk|cnt|unk
 |par (i j:Nat) (a b:E)
 |par3 (i j k:Nat) (a b c:E)
 |dupd (i:Nat) (e:E)
 |pop0 (j i:Nat)
 |ext (i:Nat) (e:E)
inductive Ss where
 |nil|cons (s:S) (r:Ss)
end
inductive O where
 |nx (τ:Env)|rt (d:D)|bk (τ:Env)|ct (τ:Env)|ex (c:Str)|no
noncomputable def R.out{α:Type}:R α->(α->O)->O
 | .ok a,f=>f a
 | .ex c,_=>.ex c
 | .no,_=>.no
@[simp] theorem R.out_ok{α:Type}(a:α)(f:α->O):(R.ok a).out f=f a:=rfl
@[simp] theorem R.out_ex{α:Type}(c:Str)(f:α->O):(R.ex c:R α).out f=.ex c:=rfl
@[simp] theorem R.out_no{α:Type}(f:α->O):(R.no:R α).out f=.no:=rfl
noncomputable def cY(tg:Tg)(body:Env->O):List D->Env->O
 | [],τ=>.nx τ
 |x::r,τ=>(store tg x τ).out λτ'=>match body τ' with
  | .nx σ=>cY tg body r σ
  | .ct σ=>cY tg body r σ
  | .bk σ=>.nx σ
  |o=>o
noncomputable def dA(test:Env->R Bool)(body:Env->O):Nat->Env->O
 | 0,_=>.no
 |n+1,τ=>(test τ).out λb=>if b then (match body τ with
  | .nx σ=>dA test body n σ
  | .ct σ=>dA test body n σ
  | .bk σ=>.nx σ
  |o=>o)else .nx τ
noncomputable def fb:Nat:=100000
noncomputable def O.noEx:O->O
 | .ex _=>.no
 |o=>o
noncomputable def gY(x n d:D)(i:Nat)(τ:Env):O:=match x with
 | .lst xs=>(match n with
  | .int j=>if 0<=j/\j<=xs.length/\xs.length<SZ then .nx (τ.set i (some (.lst (xs.take j.toNat++d::xs.drop j.toNat))))else .no
  |_=>.no)
 |_=>.no
mutual
noncomputable def evS(w:W):S->Env->O
 | .set tg e,τ=>(evE w e τ).out λd=>(store tg d τ).out .nx
 | .app i e,τ=>(zG τ i).out λx=>match x with
  | .lst xs=>(evE w e τ).out λd=>if xs.length<SZ then .nx (τ.set i (some (.lst (xs++[d]))))else .no
  |_=>.no
 | .seti i k e,τ=>(evE w e τ).out λd=>(zG τ i).out λx=>(evE w k τ).out λn=>match x,n with
  | .lst xs,.int j=>match ixN xs.length j with
   |some m=>.nx (τ.set i (some (.lst (xs.set m d))))
   |none=>.no
  | .dic kvs,.int j=>(match d with
   | .int v=>if kvs.length<SZ then .nx (τ.set i (some (.dic (cm kvs j v))))else .no
   |_=>.no)
  |_,_=>.no
 | .exp e,τ=>(evE w e τ).out λ_=>.nx τ
 | .ret e,τ=>(evE w e τ).out .rt
 | .retN,_=>.rt .non
 | .ite t a b,τ=>(evT w t τ).out λr=>if r then qa w a τ else qa w b τ
 | .for tg it b,τ=>((evI w it τ).out λds=>cY tg (λσ=>qa w b σ) ds τ).noEx
 | .while t b,τ=>(dA (λσ=>evT w t σ) (λσ=>qa w b σ) fb τ).noEx
 | .raise c es,_=>.no
 | .try b c i h,_=>.no
 | .ins i k e,τ=>(zG τ i).out λx=>match x with
  | .lst xs=>(evE w k τ).out λn=>(evE w e τ).out λd=>gY (.lst xs) n d i τ
  |_=>.no
 | .unk,_=>.no
 | .pass,τ=>.nx τ
 | .brk,τ=>.bk τ
 | .cnt,τ=>.ct τ
 | .par i j a b,_=>.no
 | .par3 i j k a b c,_=>.no
 | .dupd i e,τ=>(zG τ i).out λx=>match x with
  | .dic kvs=>(evE w e τ).out λd=>(match d with
   | .dic ms=>if kvs.length+ms.length<SZ then .nx (τ.set i (some (.dic (cL kvs ms))))else .no
   |_=>.no)
  |_=>.no
 | .pop0 j i,τ=>(zG τ i).out λx=>match x with
  | .lst xs=>(match xs with
   |y::r=>.nx ((τ.set i (some (.lst r))).set j (some y))
   | []=>.no)
  |_=>.no
 | .ext i e,τ=>(zG τ i).out λx=>match x with
  | .lst xs=>(evE w e τ).out λd=>(match d with
   | .tup ys=>if xs.length+ys.length<SZ then .nx (τ.set i (some (.lst (xs++ys))))else .no
   |_=>.no)
  |_=>.no
noncomputable def qa(w:W):Ss->Env->O
 | .nil,τ=>.nx τ
 | .cons s r,τ=>match evS w s τ with
  | .nx σ=>qa w r σ
  |o=>o
end
theorem bW:∀{w tg e τ},@Eq (O) (evS w (.set tg e) τ) ((evE w e τ).out λd=>(store tg d τ).out .nx):=rfl
theorem bP:∀{w i e τ},@Eq (O) (evS w (.app i e) τ) ((zG τ i).out λx=>match x with
  | .lst xs=>(evE w e τ).out λd=>if xs.length<SZ then .nx (τ.set i (some (.lst (xs++[d]))))else .no
  |_=>.no):=rfl
theorem b8:∀{w i k e τ},@Eq (O) (evS w (.seti i k e) τ) ((evE w e τ).out λd=>(zG τ i).out λx=>(evE w k τ).out λn=>match x,n with
  | .lst xs,.int j=>match ixN xs.length j with
   |some m=>.nx (τ.set i (some (.lst (xs.set m d))))
   |none=>.no
  | .dic kvs,.int j=>(match d with
   | .int v=>if kvs.length<SZ then .nx (τ.set i (some (.dic (cm kvs j v))))else .no
   |_=>.no)
  |_,_=>.no):=rfl
theorem bU:∀{w e τ},@Eq (O) (evS w (.exp e) τ) ((evE w e τ).out λ_=>.nx τ):=rfl
theorem bS:∀{w e τ},@Eq (O) (evS w (.ret e) τ) ((evE w e τ).out .rt):=rfl
theorem bX:∀{w τ},@Eq (O) (evS w (.retN) τ) (.rt .non):=rfl
theorem bT:∀{w t a b τ},@Eq (O) (evS w (.ite t a b) τ) ((evT w t τ).out λr=>if r then qa w a τ else qa w b τ):=rfl
theorem bQ:∀{w tg it b τ},@Eq (O) (evS w (.for tg it b) τ) (((evI w it τ).out λds=>cY tg (λσ=>qa w b σ) ds τ).noEx):=rfl
theorem b9:∀{w t b τ},@Eq (O) (evS w (.while t b) τ) ((dA (λσ=>evT w t σ) (λσ=>qa w b σ) fb τ).noEx):=rfl
theorem zK:∀{w c es τ},@Eq (O) (evS w (.raise c es) τ) (.no):=rfl
theorem zP:∀{w b c i h τ},@Eq (O) (evS w (.try b c i h) τ) (.no):=rfl
theorem zS:∀{w i k e τ},@Eq (O) (evS w (.ins i k e) τ) ((zG τ i).out λx=>match x with
  | .lst xs=>(evE w k τ).out λn=>(evE w e τ).out λd=>gY (.lst xs) n d i τ
  |_=>.no):=rfl
theorem zW:∀{w τ},@Eq (O) (evS w (.unk) τ) (.no):=rfl
theorem zT:∀{w τ},@Eq (O) (evS w (.pass) τ) (.nx τ):=rfl
theorem zY:∀{w τ},@Eq (O) (evS w (.brk) τ) (.bk τ):=rfl
theorem zX:∀{w τ},@Eq (O) (evS w (.cnt) τ) (.ct τ):=rfl
theorem zR:∀{w i j a b τ},@Eq (O) (evS w (.par i j a b) τ) (.no):=rfl
theorem zQ:∀{w i j k a b c τ},@Eq (O) (evS w (.par3 i j k a b c) τ) (.no):=rfl
theorem zV:∀{w i e τ},@Eq (O) (evS w (.dupd i e) τ) ((zG τ i).out λx=>match x with
  | .dic kvs=>(evE w e τ).out λd=>(match d with
   | .dic ms=>if kvs.length+ms.length<SZ then .nx (τ.set i (some (.dic (cL kvs ms))))else .no
   |_=>.no)
  |_=>.no):=rfl
theorem zO:∀{w j i τ},@Eq (O) (evS w (.pop0 j i) τ) ((zG τ i).out λx=>match x with
  | .lst xs=>(match xs with
   |y::r=>.nx ((τ.set i (some (.lst r))).set j (some y))
   | []=>.no)
  |_=>.no):=rfl
theorem zU:∀{w i e τ},@Eq (O) (evS w (.ext i e) τ) ((zG τ i).out λx=>match x with
  | .lst xs=>(evE w e τ).out λd=>(match d with
   | .tup ys=>if xs.length+ys.length<SZ then .nx (τ.set i (some (.lst (xs++ys))))else .no
   |_=>.no)
  |_=>.no):=rfl
structure Fn where
 ps:Nat
 N:Nat
 fr:Bool
 body:Ss
noncomputable def cC(w:W)(f:Fn)(ds:List D):R D:=if ds.length=f.ps then (match qa w f.body (ds.map some++bN (f.N-f.ps) none)with
  | .nx _=>if f.fr then .no else .ok .non
  | .rt d=>.ok d
  | .ex c=>.ex c
  |_=>.no)else .no
structure Pr where
 fns:Str->Option Fn
 glb:Str->Option D
 sub:Str->Cl->Option Bool
 cat:Str->Str->Bool
noncomputable def qc(p:Pr):Nat->Str->List D->R D
 | 0,_,_=>.no
 |k+1,x,ds=>match p.fns x with
  |some f=>cC ⟨qc p k,p.glb,p.sub,p.cat⟩ f ds
  |none=>.no
inductive GK where
  |fn (fresh:Bool)|val|bi (b:B1)|rng|enum|zip|isi|ty (n:String) (b:Option B1)|exc|exk|set|rvd
  deriving DecidableEq
structure Cc where
  nm:List (Str×aM)
  N:List Str
  own:List Str
  G:List (Str×GK)
  calm:Bool
  fnc:Bool
  thr:Bool
  GH:List (Str×GK)
  oc:List Str
  frz:Bool
noncomputable def loc(c:Cc)(x:Str):Option Nat:=
  if x == "__debug__" ||x == "__classdict__" then none else
  match c.nm.lookup x with
  |some .local|some .cell|some .free=>let i:=c.N.findIdx (· == x);if c.N[i]? = some x then some i else none
  |_=>none
noncomputable def bJ(c:Cc)(x:Str):Option Nat:=
  match c.nm.lookup x with
  |some .local=>loc c x
  |some .cell=>if c.fnc||c.oc.contains x then loc c x else none
  |_=>none
noncomputable def glob(c:Cc)(x:Str):Option GK:=
  if x == "__debug__" ||x == "__name__" then none else
  match c.nm.lookup x with
  |some .globalImplicit=>c.G.lookup x
  |_=>none
noncomputable def esc:E->Bool
  | .own _=>false
  |_=>true
noncomputable def c0:Es->Bool
  | .nil=>true
  | .cons e es=>esc e&&c0 es
noncomputable def isL:E->Bool
  | .lst _=>true
  | .rlst _=>true
  | .comp .. => true
  |_=>false
noncomputable def yu:O2->Bool
  | .add=>true
  | .mul=>true
  |_=>false
noncomputable def fresh(c:Cc):E->Bool
  | .op o a b=>yu o&&isL a||o==.add&&isL b
  | .lst _=>true
  | .rlst _=>true
  | .comp .. => true
  | .comp2 .. => true
  | .dic=>true
  | .dic1 .. => true
  | .lsd _=>true
  | .bi .list _=>true
  | .bi .sorted _=>true
  | .call f _=>c.G.lookup f==some (.fn true)
  |_=>false
noncomputable def o2:Operator->Option O2
  | .Add=>some .add
  | .Sub=>some .sub
  | .Mult=>some .mul
  | .FloorDiv=>some .fdiv
  | .Mod=>some .mod
  | .RShift=>some .shr
  |_=>none
noncomputable def c2:CmpOp->C2
  | .Eq=>.eq
  | .NotEq=>.ne
  | .Lt=>.lt
  | .LtE=>.le
  | .Gt=>.gt
  | .GtE=>.ge
  | .Is=>.is
  | .IsNot=>.isnot
  | .In=>.isin
  | .NotIn=>.notin
noncomputable def eE:Expr->Bool
  | .ListComp .. => true
  | .SetComp .. => true
  | .DictComp .. => true
  |_=>false
noncomputable def zo:Expr->Bool
  | .Set .. => false
  |_=>true
noncomputable def gN(names nm:List (Str×aM)):List (Str×aM):=names.map λ(n,k)=>if k==bO&&(nm.lookup n==some .cell)then (n,aM.cell)else (n,k)
noncomputable def zD(names:List (Str×aM)):List Str:=(names.filter λp=>p.2==.local||p.2==.free||p.2==.cell).map (·.1)
noncomputable def dE(c:Cc)(names:List (Str×aM)):List (Option Nat):=(zD names).map λx=>if names.lookup x==some .free then loc c x else none
noncomputable def gf:List Expr->Option (List Str)
  | []=>some []
  | .Name x _::r=>(gf r).map (x :: ·)
  |_=>none
noncomputable def cTg(c:Cc):Expr->Option Tg
  | .Name x _=>if c.own.contains x then none else (bJ c x).map .nm
  | .Tuple es _ _=>if c.calm then do
      let xs <-gf es
      if xs.any c.own.contains then none else
      let is <-xs.mapM (bJ c)
      if is.Nodup then some (.tp is)else none
    else none
  |_=>none
noncomputable def isStar:Expr->Bool
  | .Starred .. => true
  |_=>false
noncomputable def isSlice:Expr->Bool
  | .Slice .. => true
  |_=>false
noncomputable def isTup:Expr->Bool
  | .Tuple .. => true
  |_=>false
noncomputable def dJ(it:It)(tg:Expr):Bool:=match it with
  | .enum _=>isTup tg
  | .zip .. => isTup tg
  |_=>true
noncomputable def iM(c:Cc):Expr->Option Cl
  | .Name x _=>match glob c x with
    |some (.ty n _)=>some (.ty n)
    |some .exc=>some (.ex x)
    |some .exk=>some (.ex x)
    |_=>none
  |_=>none
noncomputable def vr(c:Cc)(x:Str)(i:Nat):E:=if c.own.contains x then .own i else .var i
noncomputable def cMt(c:Cc)(o:Expr)(m:Str)(ap:Pos)(as:List Expr)(cp:Pos):Option E:=none
noncomputable def baseOk:Expr->Bool
  | .Call (.Name _ _) (_::_) _ _=>true
  | .Name .. => true
  |_=>false
noncomputable def owned:It->Bool
  | .seq (.own _)=>true
  | .enum (.own _)=>true
  | .zip (.own _) _=>true
  | .zip _ (.own _)=>true
  |_=>false
noncomputable def gJ:Expr->Option Str
  | .Constant k _ _=>match k with
    | .str t=>some t
    |_=>none
  |_=>none
noncomputable def i_:Expr->Option Expr
  | .FormattedValue a k f _=>match f with
    |none=>if k = -1 then some a else none
    |_=>none
  |_=>none
noncomputable def kT:List Expr->Option (Str×Expr×Str×Expr×Str)
  | [x0,x1,x2,x3,x4]=>do
    let t0 <-gJ x0
    let a <-i_ x1
    let t1 <-gJ x2
    let b <-i_ x3
    let t2 <-gJ x4
    if (Str.empty++t0).length<=1000 then some (t0,a,t1,b,t2)else none
  |_=>none
noncomputable def nI:Expr->Bool
  | .UnaryOp .USub (.Constant (.int i) _ _) _=>decide (i=1)
  |_=>false
noncomputable def A3(c:Cc)(b:B1)(_:List Expr):Option Expr:=none
noncomputable def km(c:Cc)(t:String):List Expr->Option Expr
  | [a]=>match a with
    | .Name x _=>if t == "list" && c.calm&&c.own.contains x then some a else none
    |_=>none
  |_=>none
noncomputable def fP:Expr->Bool
  | .ListComp _ gs _ _=>gs.length==2
  |_=>false
mutual
noncomputable def cE:Nat->Cc->Expr->Option E
  | 0,_,_=>none
  |n+1,c,e=>match e with
    | .Name x _=>match loc c x with
      |some i=>if c.own.contains x then some (.own i)else some (.var i)
      |none=>match glob c x with
        |some .val=>some (.glb x)
        |some (.fn _)=>some (.fnv x)
        |_=>none
    | .Constant k _ _=>match k with
      | .int i=>some (.con (.int i))
      | .bool i=>some (.con (.bl i))
      | .none=>some (.con .non)
      | .str x=>some (.con (.str x))
      |_=>none
    | .BinOp a op b _=>do
      let o <-o2 op
      let a <-cE n c a
      let b <-cE n c b
      some (.op o a b)
    | .UnaryOp op a _=>do
      let a <-cE n c a
      match op with
      | .USub=>some (.neg a)
      | .Invert=>some (.inv a)
      | .Not=>some (.not a)
      |_=>none
    | .BoolOp op vs _=>cBo n c op vs
    | .Compare a ops bs _=>match ops,bs with
      | [o],[b]=>do
        let a <-cE n c a
        let b' <-cE n c b
        if zo b then some (.cmp (c2 o) a b')else none
      | [o,o'],[b,d]=>do
        let a <-cE n c a
        let b' <-cE n c b
        let d' <-cE n c d
        if zo b&&zo d then some (.cmp2 (c2 o) (c2 o') a b' d')else none
      | [o,o',o''],[b,d,f]=>do
        let a <-cE n c a
        let b' <-cE n c b
        let d' <-cE n c d
        let f' <-cE n c f
        if zo b&&zo d&&zo f then some (.cmp3 (c2 o) (c2 o') (c2 o'') a b' d' f')else none
      |_,_=>none
    | .Dict ks vs _=>match ks with
      | []=>if vs.isEmpty then some .dic else none
      |k::r=>match k with
        |some k=>match vs with
          |v::q=>if r.isEmpty&&q.isEmpty then (do
              let k <-cE n c k
              let v <-cE n c v
              some (.dic1 k v))else none
          | []=>none
        |none=>none
    | .JoinedStr vs _=>match kT vs with
      |some (t0,a,t1,b,t2)=>do
        let a <-cE n c a
        let b <-cE n c b
        some (.fst2 t0 a t1 b t2)
      |none=>none
    | .IfExp t a b _=>do
      let t <-cT n c t
      let a <-cE n c a
      let b <-cE n c b
      if esc a&&esc b then some (.ite t a b)else none
    | .Tuple es _ _=>do
      let es <-cEs n c es
      if c0 es then some (.tup es)else none
    | .List es _=>do
      let es <-cEs n c es
      if c0 es then some (.lst es)else none
    | .Subscript a b _=>match b with
      | .Slice lo hi st _=>match st with
        |some s=>if lo.isNone&&hi.isNone&&nI s then (cE n c a).map .rev else none
        |none=>do
          let a <-cE n c a
          let lo <-cO n c lo
          let hi <-cO n c hi
          some (.sl a lo hi)
      |b=>do
        if isSlice b then none else
        let a <-cE n c a
        let b <-cE n c b
        some (.ix a b)
    | .ListComp elt gs sc _=>match gs with
     | [⟨tgt,it,ifs,asy⟩]=>do
      if !(asy==0) || !c.calm || !zo it then none else
      let c':Cc:={c with nm:=gN sc.names c.nm,N:=zD sc.names,fnc:=false,oc:=fL sc.names}
      let cap:=dE c sc.names
      if !eY (λx=>c.nm.lookup x) c.N (zD sc.names) cap sc || !decide (zD sc.names).Nodup then none else
      let it <-cI n c it
      let tg <-cTg c' tgt
      let t <-dN n c' ifs
      let elt <-cE n c' elt
      if esc elt&&dJ it tgt then some (.comp it cap tg t elt)else none
     | [⟨tgt,it,ifs,asy⟩,⟨tgt2,it2,ifs2,asy2⟩]=>do
      if !(asy==0) || !(asy2==0) || !ifs.isEmpty || !c.calm || !zo it || !zo it2 then none else
      let c':Cc:={c with nm:=gN sc.names c.nm,N:=zD sc.names,fnc:=false,oc:=fL sc.names}
      let cap:=dE c sc.names
      if !eY (λx=>c.nm.lookup x) c.N (zD sc.names) cap sc || !decide (zD sc.names).Nodup then none else
      let it <-cI n c it
      let tg <-cTg c' tgt
      let i2 <-cI n c' it2
      let tg2 <-cTg c' tgt2
      let t <-dN n c' ifs2
      let elt <-cE n c' elt
      if esc elt&&dJ it tgt&&dJ i2 tgt2 && !owned i2 then some (.comp2 it cap tg i2 tg2 t elt)else none
     |_=>none
    | .Call fe as ks cp=>match ks with
     | []=>match fe with
      | .Name f _=>match loc c f with
        |some i=>do
          let es <-cEs n c as
          if c0 es && !as.isEmpty&&c.calm then some (.callE (if c.own.contains f then .own i else .var i) es)else none
        |none=>match glob c f with
          |some (.fn _)=>do
            let es <-cEs n c as
            if c0 es && !as.isEmpty then some (.call f es)else if !as.isEmpty then some (.callo f es)else none
          |some (.bi b)=>match A3 c b as with
            |some a=>(cE n c a).map (.sset (b==.len))
            |none=>do
              let es <-cEs n c as
              if !as.isEmpty&&(c.calm||b==.len||b==.abs)then some (.bi b es)else none
          |some (.ty t (some b))=>match as with
            | [.Call (.Name g p) as' [] q]=>if loc c g==none&&glob c g==some .rng then (if c.calm&&(t == "tuple" ||t == "list")then (match as' with
                | [a]=>if isStar a then none else do
                  let a <-cE n c a
                  some (if t = "tuple" then .rtup (.rng a)else .rlst (.rng a))
                | [a,d]=>if isStar a||isStar d then none else do
                  let a <-cE n c a
                  let d <-cE n c d
                  some (if t = "tuple" then .rtup (.rng2 a d)else .rlst (.rng2 a d))
                | [a,d,k]=>if isStar a||isStar d||isStar k then none else do
                  let a <-cE n c a
                  let d <-cE n c d
                  let k <-cE n c k
                  if t == "tuple" then some (.rtup (.rng3 a d k))else none
                |_=>none)
                else none)
              else do
                let es <-cEs n c as
                some (.bi b es)
            |_=>match km c t as with
             |some a=>(cE n c a).map .lsd
             |none=>do
              let es <-cEs n c as
              if !as.isEmpty then some (.bi b es)else none
          |some .isi=>match as with
            | [a,k]=>do
              if isStar a then none else
              let a <-cE n c a
              let k <-iM c k
              some (.isi a k)
            |_=>none
          |_=>none
      | .Subscript a b p=>do
        let f <-cE n c (.Subscript a b p)
        let es <-cEs n c as
        if c0 es && !as.isEmpty&&c.calm then some (.callE f es)else none
      | .Attribute o m ap=>match cMt c o m ap as cp with
        |some e=>some e
        |none=>match as with
          | [a]=>do
            if !baseOk o||isStar a || !(m == "count" ||m == "get") || !(ap.endLine==cp.line)then none else
            let o' <-cE n c o
            let a' <-cE n c a
            if m == "get" then some (.dget o' a')else if esc a' then some (.cnt o' a')else none
          | [a,d]=>do
            if !baseOk o||isStar a||isStar d || !(m == "get") || !(ap.endLine==cp.line)then none else
            let o' <-cE n c o
            let a' <-cE n c a
            let d' <-cE n c d
            if esc d' then some (.dget2 o' a' d')else none
          |_=>none
      |_=>none
     | [⟨kn,kv,_⟩]=>match fe with
      | .Name f _=>match kv with
        | .Name y _=>match as with
          | [a]=>do
            if isStar a || !c.calm || !(kn==some "key") || !(loc c f==none) || !(glob c y==some (.bi .len)) || !(loc c y==none)then none else
            let a' <-cE n c a
            if glob c f==some (.bi .max)then some (.mxk true a')else if glob c f==some (.bi .min)then some (.mxk false a')else none
          |_=>none
        |_=>none
      |_=>none
     |_=>none
    |_=>none
noncomputable def dN:Nat->Cc->List Expr->Option T
  | 0,_,_=>none
  |n+1,c,ifs=>match ifs with
    | []=>some .yes
    | [t]=>cT n c t
    |_=>none
noncomputable def cBo:Nat->Cc->BoolOp->List Expr->Option E
  | 0,_,_,_=>none
  |n+1,c,op,vs=>match vs with
    | []=>none
    | [a]=>do
      let a <-cE n c a
      if esc a then some a else none
    |a::b::r=>do
      let a <-cE n c a
      let r <-cBo n c op (b::r)
      match op with
      | .And=>some (.and a r)
      | .Or=>some (.or a r)
noncomputable def cO:Nat->Cc->Option Expr->Option OE
  | 0,_,_=>none
  |n+1,c,o=>match o with
    |none=>some .none
    |some e=>(cE n c e).map .some
noncomputable def cEs:Nat->Cc->List Expr->Option Es
  | 0,_,_=>none
  |n+1,c,es=>match es with
    | []=>some .nil
    |e::r=>do
      if isStar e then none else
      let e <-cE n c e
      let r <-cEs n c r
      some (.cons e r)
noncomputable def cI:Nat->Cc->Expr->Option It
  | 0,_,_=>none
  |n+1,c,e=>match e with
    | .Call (.Name f p) as [] q=>match loc c f with
      |some _=>(cE n c (.Call (.Name f p) as [] q)).map .seq
      |none=>match glob c f with
        |some .rng=>(match as with
          | [a]=>if isStar a then none else (cE n c a).map .rng
          | [a,b]=>if isStar a||isStar b then none else do
            let a <-cE n c a
            let b <-cE n c b
            some (.rng2 a b)
          | [a,b,d]=>if isStar a||isStar b||isStar d then none else do
            let a <-cE n c a
            let b <-cE n c b
            let d <-cE n c d
            some (.rng3 a b d)
          |_=>none)
        |some .enum=>(match as with
          | [a]=>if isStar a then none else (cE n c a).map .enum
          |_=>none)
        |some .zip=>(match as with
          | [a,b]=>if isStar a||isStar b then none else do
            let a <-cE n c a
            let b <-cE n c b
            some (.zip a b)
          |_=>none)
        |some .rvd=>(match as with
          | [.Call (.Name g _) [a] [] _]=>if loc c g==none&&glob c g==some .rng && !isStar a then (cE n c a).map .rrev else none
          |_=>none)
        |_=>(cE n c (.Call (.Name f p) as [] q)).map .seq
    |e=>(cE n c e).map .seq
noncomputable def cT:Nat->Cc->Expr->Option T
  | 0,_,_=>none
  |n+1,c,e=>match e with
    | .UnaryOp .Not a _=>(cT n c a).map .not
    | .BoolOp op vs _=>cTs n c op vs
    | .IfExp .. => none
    | .Compare a ops bs _=>match ops,bs with
      | [o],[b]=>do
        let a <-cE n c a
        let b' <-cE n c b
        if zo b then some (.cmp (c2 o) a b')else none
      | [o,o'],[b,d]=>do
        let a <-cE n c a
        let b' <-cE n c b
        let d' <-cE n c d
        if zo b&&zo d then some (.cmp2 (c2 o) (c2 o') a b' d')else none
      | [o,o',o''],[b,d,f]=>do
        let a <-cE n c a
        let b' <-cE n c b
        let d' <-cE n c d
        let f' <-cE n c f
        if zo b&&zo d&&zo f then some (.val (.cmp3 (c2 o) (c2 o') (c2 o'') a b' d' f'))else none
      |_,_=>none
    |e=>(cE n c e).map .val
noncomputable def cTs:Nat->Cc->BoolOp->List Expr->Option T
  | 0,_,_,_=>none
  |n+1,c,op,vs=>match vs with
    | []=>none
    | [a]=>cT n c a
    |a::b::r=>do
      let a <-cT n c a
      let r <-cTs n c op (b::r)
      match op with
      | .And=>some (.and a r)
      | .Or=>some (.or a r)
end
noncomputable def iq(c:Cc):Cc:={c with calm:=false,thr:=false,G:=c.GH,GH:=[]}

noncomputable def kA:Expr->Option (Str×Str×Pos×Expr×Pos)
  | .Call f as ks cp=>match f with
    | .Attribute o m ap=>match o with
      | .Name x _=>match as with
        | [a]=>if ks.isEmpty then some (x,m,ap,a,cp)else none
        |_=>none
      |_=>none
    |_=>none
  |_=>none
noncomputable def kE:Expr->Option (Str×Pos×Expr×Expr×Pos)
  | .Call f as ks cp=>match f with
    | .Attribute o m ap=>match o with
      | .Name x _=>match as with
        | [k,a]=>if ks.isEmpty&&m == "insert" then some (x,ap,k,a,cp)else none
        |_=>none
      |_=>none
    |_=>none
  |_=>none
noncomputable def jG:Expr->Option (Str×Pos×Pos)
  | .Call f as ks cp=>match f with
    | .Attribute o m ap=>match o with
      | .Name x _=>match as with
        | [a]=>match a with
          | .Constant k _ _=>match k with
            | .int i=>if ks.isEmpty&&m == "pop" && decide (i=0)then some (x,ap,cp)else none
            |_=>none
          |_=>none
        |_=>none
      |_=>none
    |_=>none
  |_=>none
noncomputable def raiseOf:Expr->Option (Str×Expr×List Expr)
  | .Call f as ks _=>match f with
    | .Name x _=>match as with
      |a::as=>if ks.isEmpty then some (x,a,as)else none
      |_=>none
    |_=>none
  |_=>none
noncomputable def jB:Expr->Bool
  | .Tuple es _ _=>es.all (foldedForSure 8)
  |_=>false
noncomputable def mW(ts:List Expr)(e:Expr):Option (Str×Str×Expr×Expr):=none
noncomputable def jM(ts:List Expr)(e:Expr):Option (Str×Str×Str×Expr×Expr×Expr):=match ts with
  | [.Name x px,.Name y py,.Name z pz]=>match e with
    | .Tuple [a,b,d] _ _=>if !isStar a && !isStar b && !isStar d && !([a,b,d].all (foldedForSure 8)) && !([a,b,d].all (constantsAlone 8))&&(px.line==py.line)&&(px.line==pz.line)then some (x,y,z,a,b,d)else none
    |_=>none
  |_=>none
mutual
noncomputable def cS:Nat->Cc->Bool->Stmt->Option S
  | 0,_,_,_=>none
  |n+1,c,fr,s=>match s with
    | .Assign ts e _=>match ts with
      | [t]=>match t with
        | .Name x _=>match jG e with
         |some (y,ap,cp)=>do
          let i <-bJ c x
          let j <-loc c y
          if c.own.contains y && !c.own.contains x&&ap.endLine==cp.line && !c.frz then some (.pop0 i j)else none
         |none=>do
          if fP e then none else
          let i <-bJ c x
          let e' <-cE n c e
          if c.own.contains x then (if fresh c e' && !c.frz then some (.set (.nm i) e')else none)else if esc e' then some (.set (.nm i) e')else none
        | .Tuple ts k p=>match mW ts e with
          |some (x,y,a,b)=>if !(c.nm.lookup x==some .local)then (do
              let tg <-cTg c (.Tuple ts k p)
              let e' <-cE n c e
              if !esc e' then none else some (.set tg e'))else do
            let i <-bJ c x
            let j <-bJ c y
            let a' <-cE n c a
            let b' <-cE n c b
            if !c.calm || !(c.nm.lookup x==some .local) || !(c.nm.lookup y==some .local)||(i==j)||c.own.contains x || !esc a'||isStar a||isStar b then none else
            if c.own.contains y then (if fresh c b' && !c.frz then some (.par i j a' b')else none)else if esc b' then some (.par i j a' b')else none
          |none=>match jM ts e with
            |some (x,y,z,a,b,d)=>do
              let i <-bJ c x
              let j <-bJ c y
              let l <-bJ c z
              let a' <-cE n c a
              let b' <-cE n c b
              let d' <-cE n c d
              if !c.calm || !(c.nm.lookup x==some .local) || !(c.nm.lookup y==some .local) || !(c.nm.lookup z==some .local)||(i==j)||(i==l)||(j==l)||c.own.contains x||c.own.contains y||c.own.contains z || !esc a' || !esc b' || !esc d' then none else some (.par3 i j l a' b' d')
            |none=>do
              let tg <-cTg c (.Tuple ts k p)
              let e' <-cE n c e
              if (isTup e && !jB e)||eE e || !esc e' then none else some (.set tg e')
        | .Subscript a k _=>match a with
          | .Name x _=>do
            let i <-bJ c x
            let e' <-cE n c e
            let k' <-cE n c k
            if c.own.contains x&&esc e' && !isSlice k && !eE e && !c.frz then some (.seti i k' e')else none
          |_=>none
        |_=>none
      |_=>none
    | .Expr e _=>match kE e with
      |some (x,ap,k,a,cp)=>do
        let i <-bJ c x
        let k' <-cE n c k
        let a' <-cE n c a
        if c.own.contains x&&esc a' && !isStar k && !isStar a&&ap.endLine==cp.line && !c.frz then some (.ins i k' a')else none
      |none=>match kA e with
      |some (x,m,ap,a,cp)=>do
        let i <-bJ c x
        let a' <-cE n c a
        if m == "update" then (if c.own.contains x&&esc a' && !isStar a&&ap.endLine==cp.line && !c.frz then some (.dupd i a')else none)else
        if m == "extend" then (if c.own.contains x&&esc a' && !isStar a&&ap.endLine==cp.line && !c.frz then some (.ext i a')else none)else
        if m == "append" && c.own.contains x&&esc a' && !isStar a&&ap.endLine==cp.line && !c.frz then some (.app i a')else none
      |none=>do
        if eE e then none else
        let e' <-cE n c e
        some (.exp e')
    | .Return o _=>match o with
      |some e=>do
        let e' <-cE n c e
        if fr then (match e with
          | .Name y _=>if c.own.contains y then (loc c y).map (λi=>.ret (.own i))else none
          |_=>if fresh c e' then some (.ret e')else none)
        else some (.ret e')
      |none=>if fr then none else some .retN
    | .If t a b _=>do
      let t <-cT n c t
      let a <-cSs n c fr a
      let b <-cSs n c fr b
      some (.ite t a b)
    | .For tg it b els _=>do
      if !els.isEmpty || !c.calm || !zo it then none else
      let tg' <-cTg c tg
      let it <-cI n c it
      if !dJ it tg then none else
      let b <-cSs n {c with frz:=c.frz||owned it} fr b
      some (.for tg' it b)
    | .While t b els _=>do
      if !els.isEmpty || !c.calm then none else
      let t <-cT n c t
      let b <-cSs n c fr b
      some (.while t b)
    | .Raise o o' _=>match o with
      |some r=>match raiseOf r with
        |some (x,a,as)=>do
          if !o'.isNone || !c.calm || !c.thr then none else
          match glob c x with
          |some .exc=>do
            let es <-cEs n c (a::as)
            some (.raise x es)
          |_=>none
        |none=>none
      |none=>none
    | .Try b hs els fin _=>match hs with
      | [.ExceptHandler ty y h _]=>match ty with
        |some (.Name x _)=>do
          if !els.isEmpty || !fin.isEmpty || !c.calm || !c.fnc||fr||h.isEmpty || !c.own.isEmpty||c.frz then none else
          let b <-cSs n {c with thr:=false} fr b
          let h <-cSs n (iq c) fr h
          if !(glob c x==some .exc||glob c x==some .exk)then none else
          match y with
          |none=>some (.try b x none h)
          |some y=>do
            let i <-bJ c y
            if c.nm.lookup y==some .local then some (.try b x (some i) h)else none
        |_=>none
      |_=>none
    | .Pass _=>some .pass
    | .Break _=>some .brk
    | .Continue _=>some .cnt
    |_=>none
noncomputable def cSs:Nat->Cc->Bool->List Stmt->Option Ss
  | 0,_,_,_=>none
  |n+1,c,fr,ss=>match ss with
    | []=>some .nil
    |s::r=>do
      let r <-cSs n c fr r
      some (.cons ((cS n c fr s).getD .unk) r)
end
noncomputable def wA(c:Cc):Stmt->Bool
  | .For _ (.Name x _) _ _ _=>c.own.contains x
  |_=>false
noncomputable def yE(n:Nat)(c:Cc):Stmt->Bool
  | .For _ _ (.Assign [.Name x _] e _::_) _ _=>c.own.contains x&&(match cE n c e with
    |some e'=>!fresh c e'
    |none=>false)
  |_=>false
noncomputable def noOwn(c:Cc):Cc:={c with own:=[],frz:=false}
noncomputable def fK(n:Nat)(c:Cc)(fr:Bool):List Stmt->Option Ss
  | []=>some .nil
  |s::r=>if wA c s||yE n c s then cSs n (noOwn c) fr (s::r)else do
    let r' <-fK n c fr r
    some (.cons ((cS n c fr s).getD .unk) r')
noncomputable def argNames(a:Arguments):List Str:=a.args.map (·.arg)
noncomputable def gW(a:Arguments)(sc:aO):List Str:=argNames a++((sc.names.filter λp=>p.2==.local||p.2==.cell).map (·.1)).filter λx=>!(argNames a).contains x
noncomputable def i6(N ps:List Str)(sc:aO):Bool:=
  sc.kind==.function && !sc.isCoroutine && !sc.isGenerator&&decide N.Nodup&&decide (N.take ps.length=ps)&&ps.all (λx=>sc.names.lookup x==some .local||sc.names.lookup x==some .cell)&&sc.names.all λy=>y.2 != .free
noncomputable def kr:Nat:=60
noncomputable def cFn(G GH:List (Str×GK))(own:List Str)(fr:Bool)(st:Stmt):Option Fn:=do
  let a:=zv st
  let sc:=zr st
  let N:=gW a sc
  if !i6 N (argNames a) sc||(argNames a).any own.contains then none else
  let b <-fK kr ⟨sc.names,N,own,G,true,true,false,GH,[],false⟩ fr (dB st)
  some ⟨(argNames a).length,N.length,fr,b⟩
noncomputable def mS(GU:List (Str×GK))(own:List Str)(fr:Bool)(st:Stmt):Option Fn:=none
end EV

namespace EV
open PySem PySem.Spec PyProof.Rows L2
structure Gc where
 K:ao
 fnA:Str->Option Addr
 clA:Str->Option Addr
mutual
inductive Rep(g:Gc)(H:Hp):D->V->Prop
 |non:Rep g H .non .non
 |bl (b:Bool):Rep g H (.bl b) (.bl b)
 |int (i:Int):Rep g H (.int i) (.int i)
 |str (x:Str):Rep g H (.str x) (.str x)
 |tup {a:Addr}{xs:List V}{ds:List D}:SqT g.K H a xs->ze g H ds xs->Rep g H (.tup ds) (.ref a)
 |lst {a:Addr}{xs:List V}{ds:List D}:SqL g.K H a xs->ze g H ds xs->Rep g H (.lst ds) (.ref a)
 |fn {x:Str}{a:Addr}:g.fnA x=some a->Rep g H (.fn x) (.ref a)
 |exn {c:Str}{a C:Addr}:g.clA c=some C->H a=some (kj a (.ref C))->Rep g H (.exn c) (.ref a)
 |dic {a:Addr}{kvs:List (Int×Int)}:H a=some (.dK (bh kvs))->Rep g H (.dic kvs) (.ref a)
inductive ze(g:Gc)(H:Hp):List D->List V->Prop
 |nil:ze g H [] []
 |cons {d:D}{ds:List D}{x:V}{xs:List V}:Rep g H d x->ze g H ds xs->ze g H (d::ds) (x::xs)
end
theorem zI{K:ao}{H H':Hp}{a:Addr}{xs:List V}(e:qe H H')(h:SqT K H a xs):SqT K H' a xs:=by
 rcases h with (h|⟨o,h⟩)|h
 ·exact .inl (.inl (e _ _ h))
 ·exact .inl (.inr ⟨o,e _ _ h⟩)
 ·exact .inr h
section
variable{g:Gc}{H H':Hp}
theorem iW{a b:Bool}(h:(a&&b)=true):a=true/\b=true:=by rw[aC]at h;exact h
theorem Rep.mono(e:qe H H'){d:D}{v:V}(h:Rep g H d v):Rep g H' d v:=
 h.rec (motive_1:=λd v _=>Rep g H' d v) (motive_2:=λd v _=>ze g H' d v) .non .bl .int .str (λq _ r=>.tup (zI e q) r) (λq _ r=>.lst (e.seq q) r) .fn (λq r=>.exn q (e _ _ r)) (λq=>.dic (e _ _ q)) .nil (λ_ _ a b=>.cons a b)
theorem ze.mono(e:qe H H'){d:List D}{v:List V}(h:ze g H d v):ze g H' d v:=
 h.rec (motive_1:=λd v _=>Rep g H' d v) (motive_2:=λd v _=>ze g H' d v) .non .bl .int .str (λq _ r=>.tup (zI e q) r) (λq _ r=>.lst (e.seq q) r) .fn (λq r=>.exn q (e _ _ r)) (λq=>.dic (e _ _ q)) .nil (λ_ _ a b=>.cons a b)
theorem ze.length{ds:List D}:∀{vs:List V},ze g H ds vs->ds.length=vs.length:=by
 induction ds with
 |nil=>intro vs h;cases h;rfl
 |cons d ds ih=>intro vs h;cases h with|cons _ r=>exact congrArg (· + 1) (ih r)
theorem ze.get{ds:List D}:∀{vs:List V}{i:Nat}{d:D},ze g H ds vs->ds[i]? = some d->∃v,vs[i]? = some v/\Rep g H d v:=by
 induction ds with
 |nil=>intro vs i d h e;cases e
 |cons d ds ih=>
  intro vs i d' h e;cases h with
  |cons h t=>cases i with
   |zero=>cases e;exact⟨_,rfl,h⟩
   |succ i=>exact ih (i:=i) t e
theorem ze.append{ds:List D}:∀{es:List D}{vs us:List V},ze g H ds vs->ze g H es us->ze g H (ds++es) (vs++us):=by
 induction ds with
 |nil=>intro es vs us h s;cases h;exact s
 |cons d ds ih=>intro es vs us h s;cases h with|cons r t=>exact .cons r (ih t s)
theorem ze.take{ds:List D}:∀{vs:List V} (n:Nat),ze g H ds vs->ze g H (ds.take n) (vs.take n):=by
 induction ds with
 |nil=>intro vs n h;cases h;cases n<;>exact .nil
 |cons d ds ih=>intro vs n h;cases h with|cons r t=>cases n with
  |zero=>exact .nil
  |succ n=>exact .cons r (ih n t)
theorem ze.drop{ds:List D}:∀{vs:List V} (n:Nat),ze g H ds vs->ze g H (ds.drop n) (vs.drop n):=by
 induction ds with
 |nil=>intro vs n h;cases h;cases n<;>exact .nil
 |cons d ds ih=>intro vs n h;cases n with
  |zero=>exact h
  |succ n=>cases h with|cons r t=>exact ih n t
theorem ze.set{d:D}{v:V}(r:Rep g H d v){ds:List D}:∀{vs:List V} (i:Nat),ze g H ds vs->ze g H (ds.set i d) (vs.set i v):=by
 induction ds with
 |nil=>intro vs i h;cases h;exact .nil
 |cons d' ds ih=>intro vs i h;cases h with|cons q t=>cases i with
  |zero=>exact .cons r t
  |succ i=>exact .cons q (ih i t)
theorem ze.ints{ds:List D}:∀{vs:List V}{ns:List Int},ze g H ds vs->ints? ds=some ns->vs=ns.map V.int/\ds=ns.map D.int:=by
 induction ds with
 |nil=>intro vs ns h e;cases h;cases e;exact⟨rfl,rfl⟩
 |cons d ds ih=>
  intro vs ns h e;cases h with
  |cons h t=>cases d with
   |int i=>
    obtain⟨ms,e1,rfl⟩:=bq.mp (show (ints? ds).map (i :: ·)=some ns from e);obtain⟨h1,h2⟩:=ih t e1;cases h;exact⟨by rw[h1];rfl,by rw[h2];rfl⟩
   |_=>cases (show none=some ns from e)
theorem ze.bools{ds:List D}:∀{vs:List V}{ns:List Bool},ze g H ds vs->bools? ds=some ns->vs=ns.map V.bl:=by
 induction ds with
 |nil=>intro vs ns h e;cases h;cases e;rfl
 |cons d ds ih=>
  intro vs ns h e;cases h with
  |cons h t=>cases d with
   |bl i=>
    obtain⟨ms,e1,rfl⟩:=bq.mp (show (bools? ds).map (i :: ·)=some ns from e);have h1:=ih t e1;cases h;rw[h1];rfl
   |_=>cases (show none=some ns from e)
theorem ze.ofInts:∀(ns:List Int),ze g H (ns.map D.int) (ns.map V.int)
 | []=>.nil
 |i::r=>.cons (.int i) (ze.ofInts r)
end
structure Sh where
 o:Addr->Bool
 h:Addr->Bool
 z:L2.St
 y:Hp
noncomputable def hid(H:Hp)(S:Sh):Hp:=λb=>if S.h b=true then none else H b
noncomputable def cq(S:Sh)(a:Addr):Sh:=⟨S.o,λb=>S.h b||b==a,S.z,S.y⟩
theorem bp{H:Hp}{S:Sh}{b:Addr}{o:HO}:hid H S b=some o↔S.h b=false/\H b=some o:=by
 unfold hid;cases h:S.h b<;>simp
theorem zM{H:Hp}{S:Sh}:qe (hid H S) H:=λ_ _ h=>(bp.mp h).2
theorem qi{H H':Hp}{S:Sh}(e:qe H H'):qe (hid H S) (hid H' S):=λb o h=>bp.mpr ⟨(bp.mp h).1,e _ _ (bp.mp h).2⟩
noncomputable def Sub(S:Sh)(H:Hp):Prop:=∀a,(S.h a=true\/S.o a=true)->H a≠none
theorem Sub.same{S:Sh}{H H':Hp}(h:Sub S H)(e:qe H H'):Sub S H':=λa s n=>by
 cases q:H a with
 |none=>exact h a s q
 |some o=>rw[e _ _ q]at n;cases n
theorem Sub.free{S:Sh}{H:Hp}(h:Sub S H){p:Addr}(n:H p=none):S.h p=false:=by
 cases q:S.h p with
 |false=>rfl
 |true=>exact absurd n (h p (.inl q))
theorem Sub.freeO{S:Sh}{H:Hp}(h:Sub S H){p:Addr}(n:H p=none):S.o p=false:=by
 cases q:S.o p with
 |false=>rfl
 |true=>exact absurd n (h p (.inr q))
theorem zp{H:Hp}{p:Addr}{o:HO}(n:H p=none):qe H (upd H p o):=λb u h=>by
 rw[qM (λz=>by rw[z,n]at h;cases h)];exact h
theorem jQ{H:Hp}{S:Sh}{p:Addr}{o:HO}(hs:Sub S H)(n:H p=none):hid (upd H p o) S p=some o:=bp.mpr ⟨hs.free n,zB⟩
theorem iu{H:Hp}{S:Sh}{p:Addr}{o:HO}(n:H p=none):qe (hid H S) (hid (upd H p o) (cq S p)):=λb u h=>by
 obtain⟨h1,h2⟩:=bp.mp h;have hb:b≠p:=λz=>by rw[z,n]at h2;cases h2
 refine bp.mpr ⟨?_,by rw[qM hb];exact h2⟩;show (S.h b||b==p)=false;rw[h1]
 simpa using hb
theorem o8{H:Hp}{S:Sh}{p:Addr}:qe (hid H (cq S p)) (hid H S):=λb u h=>by
 obtain⟨h1,h2⟩:=bp.mp h;refine bp.mpr ⟨?_,h2⟩;have h1:(S.h b||b==p)=false:=h1;simp at h1;exact h1.1
inductive cD(g:Gc)(H:Hp):D->HO->Prop
 |lst {ds:List D}{vs:List V}:ze g H ds vs->cD g H (.lst ds) (.lst vs)
 |dic (kvs:List (Int×Int)):cD g H (.dic kvs) (.dK (bh kvs))
theorem cD.mono{g:Gc}{H H':Hp}{d:D}{o:HO}(e:qe H H')(h:cD g H d o):cD g H' d o:=by
 cases h with
 |lst r=>exact .lst (r.mono e)
 |dic k=>exact .dic k
theorem cD.rep{g:Gc}{H H':Hp}{d:D}{o:HO}{a:Addr}(h:cD g H d o)(e:qe H H')(ha:H' a=some o):Rep g H' d (.ref a):=by
 cases h with
 |lst r=>exact .lst (SqL.of ha) (r.mono e)
 |dic k=>exact .dic ha
noncomputable def zJ(g:Gc)(H:Hp)(S:Sh)(d:D)(v:V):Prop:=
 Rep g (hid H S) d v\/∃a o,S.o a=true/\v=.ref a/\H a=some o/\cD g (hid H S) d o
noncomputable def Fr(g:Gc)(H0:Hp)(S:Sh)(H:Hp)(d:D)(v:V):Prop:=
 ∃a o,v=.ref a/\H0 a=none/\H a=some o/\cD g (hid H (cq S a)) d o
section
variable{g:Gc}{H H' H0:Hp}{S:Sh}{d:D}{v:V}
theorem zJ.mono(e:qe H H')(h:zJ g H S d v):zJ g H' S d v:=by
 rcases h with h|⟨a,o,h1,h2,h3,h4⟩
 ·exact .inl (h.mono (qi e))
 ·exact .inr ⟨a,o,h1,h2,e _ _ h3,h4.mono (qi e)⟩
theorem zJ.rep(h:zJ g H S d v):Rep g H d v:=by
 rcases h with h|⟨a,o,h1,rfl,h3,h4⟩
 ·exact h.mono zM
 ·exact h4.rep zM h3
theorem zJ.lst{ds:List D}(h:zJ g H S (.lst ds) v):∃a vs,v=.ref a/\SqL g.K H a vs/\ze g (hid H S) ds vs:=by
 rcases h with h|⟨a,o,h1,rfl,h3,h4⟩
 ·cases h with
  |lst h r=>exact⟨_,_,rfl,zM.seq h,r⟩
 ·cases h4 with
  |lst r=>exact⟨a,_,rfl,SqL.of h3,r⟩
theorem zJ.dic{kvs:List (Int×Int)}(h:zJ g H S (.dic kvs) v):∃a,v=.ref a/\H a=some (.dK (bh kvs)):=by
 rcases h with h|⟨a,o,h1,rfl,h3,h4⟩
 ·cases h with
  |dic h=>exact⟨_,rfl,zM _ _ h⟩
 ·cases h4 with
  |dic k=>exact⟨a,rfl,h3⟩
theorem zJ.strong(h:zJ g H S d v)(n:∀ds,d≠.lst ds)(n2:∀k,d≠.dic k:=by intro _ z;cases z):Rep g (hid H S) d v:=by
 rcases h with h|⟨a,o,h1,rfl,h3,h4⟩
 ·exact h
 ·cases h4 with
  |lst r=>exact absurd rfl (n _)
  |dic k=>exact absurd rfl (n2 _)
theorem zJ.tup{ds:List D}(h:zJ g H S (.tup ds) v):∃a vs,v=.ref a/\SqT g.K H a vs/\ze g (hid H S) ds vs:=by
 cases h.strong (by intro _ z;cases z)with
 |tup h2 r=>exact⟨_,_,rfl,zI zM h2,r⟩
theorem zJ.seq{ds:List D}(h:zJ g H S d v)(e:seq? d=some ds):∃a vs,v=.ref a/\(SqL g.K H a vs\/SqT g.K H a vs)/\ze g (hid H S) ds vs:=by
 cases d with
 |tup xs=>cases e;obtain⟨a,vs,h1,h2,h3⟩:=h.tup;exact⟨a,vs,h1,.inr h2,h3⟩
 |lst xs=>cases e;obtain⟨a,vs,h1,h2,h3⟩:=h.lst;exact⟨a,vs,h1,.inl h2,h3⟩
 |_=>cases e
theorem zJ.int{i:Int}(h:zJ g H S (.int i) v):v=.int i:=by cases h.strong (by intro _ z;cases z);rfl
theorem zJ.bl{b:Bool}(h:zJ g H S (.bl b) v):v=.bl b:=by cases h.strong (by intro _ z;cases z);rfl
theorem gZ{ds:List D}{vs:List V}{p:Addr}(hs:Sub S H)(n:H p=none)(r:ze g (hid H S) ds vs):Rep g (hid (upd H p (.tup vs)) S) (.tup ds) (.ref p):=
 .tup (SqT.of (jQ hs n)) (r.mono (qi (zp n)))
theorem dZ{ds:List D}{vs:List V}{p:Addr}(hs:Sub S H)(n:H p=none)(r:ze g (hid H S) ds vs):Rep g (hid (upd H p (.lst vs)) S) (.lst ds) (.ref p):=
 .lst (SqL.of (jQ hs n)) (r.mono (qi (zp n)))
theorem eA{ds:List D}{vs:List V}{p:Addr}(e:qe H0 H)(n:H p=none)(r:ze g (hid H S) ds vs):Fr g H0 S (upd H p (.lst vs)) (.lst ds) (.ref p):=
 ⟨p,_,rfl,e.free n,zB,.lst (r.mono (iu n))⟩
theorem Bc{kvs:List (Int×Int)}{p:Addr}(hs:Sub S H)(n:H p=none):Rep g (hid (upd H p (.dK (bh kvs))) S) (.dic kvs) (.ref p):=.dic (jQ hs n)
theorem u6{kvs:List (Int×Int)}{p:Addr}(e:qe H0 H)(n:H p=none):Fr g H0 S (upd H p (.dK (bh kvs))) (.dic kvs) (.ref p):=⟨p,_,rfl,e.free n,zB,.dic kvs⟩
end
end EV
namespace L2
open PySem PySem.Spec PyProof.Rows
section
variable{X:Cx}
end
end L2
namespace EV
open PySem PySem.Spec PySem.P PyProof.Rows L2
mutual
noncomputable def D.py:D->PyData
 | .non=>.none
 | .bl b=>.bool b
 | .int i=>.int i
 | .str x=>.str x
 | .tup xs=>.tuple (pys xs)
 | .lst xs=>.list (pys xs)
 | .fn _=>.none
 | .exn _=>.none
 | .dic _=>.none
noncomputable def pys:List D->List PyData
 | []=>[]
 |x::xs=>x.py::pys xs
end
mutual
theorem pO:∀{d:D},d.plain=true->d.py.canLay0=true
 | .non,_ | .bl _,_ | .int _,_=>by simp[D.py,PyData.canLay0]
 | .str x,h=>by simpa[D.py,PyData.canLay0,D.plain]using h
 | .tup xs,h=>by simp only[D.py,PyData.canLay0];exact jw (by simpa[D.plain]using h)
 | .lst xs,h=>by simp only[D.py,PyData.canLay0];exact jw (by simpa[D.plain]using h)
 | .fn _,h | .exn _,h | .dic _,h=>by simp[D.plain]at h
theorem jw:∀{ds:List D},plainAll ds=true->PyData.canLayAll0 (pys ds)=true
 | [],_=>by simp[pys,PyData.canLayAll0]
 |x::xs,h=>by
  simp only[plainAll,aC]at h;simp only[pys,PyData.canLayAll0,aC];exact⟨pO h.1,jw h.2⟩
end
mutual
theorem mO:∀(d:D),d.py.depth=d.deep
 | .non | .bl _ | .int _ | .str _ | .fn _ | .exn _ | .dic _=>by simp[D.py,PyData.depth,D.deep]
 | .tup xs=>by simp only[D.py,PyData.depth,D.deep];rw[kU xs]
 | .lst xs=>by simp only[D.py,PyData.depth,D.deep];rw[kU xs]
theorem kU:∀(ds:List D),PyData.depthAll (pys ds)=eW ds
 | []=>by simp[pys,PyData.depthAll,eW]
 |x::xs=>by simp only[pys,PyData.depthAll,eW];rw[mO x,kU xs]
end
mutual
theorem jC:∀(a b:D),a.plain=true->b.plain=true->PyData.eqv a.py b.py=a.eqv b
 | .tup xs,.tup ys,h,h'=>by simp only[D.py,PyData.eqv,D.eqv];exact jZ xs ys (by simpa[D.plain]using h) (by simpa[D.plain]using h')
 | .lst xs,.lst ys,h,h'=>by simp only[D.py,PyData.eqv,D.eqv];exact jZ xs ys (by simpa[D.plain]using h) (by simpa[D.plain]using h')
 | .fn _,_,h,_=>by simp[D.plain]at h
 | .exn _,_,h,_=>by simp[D.plain]at h
 | .dic _,_,h,_=>by simp[D.plain]at h
 | .non,b,_,h' | .bl _,b,_,h' | .int _,b,_,h' | .str _,b,_,h'=>by cases b<;>simp[D.py,PyData.eqv,D.eqv,D.plain]at h' ⊢
 | .tup _,.non,_,_ | .tup _,.bl _,_,_ | .tup _,.int _,_,_ | .tup _,.str _,_,_ | .tup _,.lst _,_,_=>by simp[D.py,PyData.eqv,D.eqv]
 | .lst _,.non,_,_ | .lst _,.bl _,_,_ | .lst _,.int _,_,_ | .lst _,.str _,_,_ | .lst _,.tup _,_,_=>by simp[D.py,PyData.eqv,D.eqv]
 | .tup _,.fn _,_,h' | .tup _,.exn _,_,h' | .lst _,.fn _,_,h' | .lst _,.exn _,_,h' | .tup _,.dic _,_,h' | .lst _,.dic _,_,h'=>by simp[D.plain]at h'
theorem jZ:∀(xs ys:List D),plainAll xs=true->plainAll ys=true->PyData.eqvAll (pys xs) (pys ys)=eqvAll xs ys
 | [],[],_,_=>by simp[pys,PyData.eqvAll,eqvAll]
 |x::xs,y::ys,h,h'=>by
  simp only[plainAll,aC]at h h';simp only[pys,PyData.eqvAll,eqvAll];rw[jC x y h.1 h'.1,jZ xs ys h.2 h'.2]
 | [],_::_,_,_=>by simp[pys,PyData.eqvAll,eqvAll]
 |_::_,[],_,_=>by simp[pys,PyData.eqvAll,eqvAll]
end
theorem Rep.data{g:Gc}{H:Hp}{d:D}{v:V}(h:Rep g H d v):d.plain=true->dM g.K H v d.py:=
 h.rec (motive_1:=λd v _=>d.plain=true->dM g.K H v d.py) (motive_2:=λds vs _=>plainAll ds=true->gb g.K H vs (pys ds)) (λ_=>.non) (λb _=>.bl b) (λb _=>.int b) (λb _=>.str b) (λq _ r p=>.tup q (r p)) (λq _ r p=>.lst q (r p)) (λ_ p=>nomatch p) (λ_ _ p=>nomatch p) (λ_ p=>nomatch p) (λ_=>.nil) (λ_ _ a b p=>.cons (a (iW p).1) (b (iW p).2))
theorem gr{d:D}:d.asks=true↔d.plain=true/\d.deep<=20:=by simp[D.asks]
section
variable{X:Cx}{g:Gc}
theorem OpR.imp{f:ae->ae->Sem ae}{r r':R2}(h:OpR X f r)(i:∀x y H Q,r' x y H Q->r x y H Q):OpR X f r':=
 λpins s σ H x y v u Q I rx ry q=>h pins s σ H x y v u Q I rx ry (i _ _ _ _ q)
noncomputable def yQ(K:ao):R2:=λx y H Q=>∃l b xs zs,x=.ref l/\y=.ref b/\SqL K H l xs/\SqL K H b zs/\xs.length+zs.length<=aE/\∀p,H p=none->Q (.ref p) (upd H p (.lst (xs++zs)))
theorem sL:OpR X (binaryOp .Add) (yQ X.K):=by
 intro pins s σ H x y v u Q I rx ry h;obtain⟨l,b,xs,zs,rfl,rfl,hH,hB,hz,q⟩:=h;cases rx;cases ry;obtain⟨its,r,pl,z⟩:=I.list hH;obtain⟨its2,r2,pl2,z2⟩:=I.list hB;have l1:=r.length;have l2:=r2.length;obtain⟨⟨cls,dd,data,sl⟩,ho,hc,n,hd⟩:=pl.isList;obtain⟨⟨cls2,dd2,data2,sl2⟩,ho2,hc2,n2,hd2⟩:=pl2.isList;simp only at hc hd hc2 hd2;subst hc hd hc2 hd2;refine concat_meets ⟨_,ho,rfl⟩ ⟨_,ho2,rfl⟩ noFill_list_add seq_list_add PySem.F.slot_list_add PySem.F.entry_list_add (PySem.F.args_list_add_2 _ _) (list_addW l b its.toArray its2.toArray n n2 dd dd2 sl sl2 (by rw[aK,aK];lia)) ⟨ho,ho2,?_⟩;have ea:its.toArray++its2.toArray=(its++its2).toArray:=by simp
 rw[ea];exact⟨.ref _,_,I.lnew (t':=s.toks) (r.append r2) (by rw[br];lia),rfl,q _ I.fresh⟩
noncomputable def rOp(g:Gc)(o:O2):R2:=λx y H Q=>∃S da db,Sub S H/\zJ g H S da x/\zJ g H S db y /\
 match op2 o da db with
 | .ok d=>∀v H',qe H H'->Rep g (hid H' S) d v->(oB da=true->Fr g H S H' d v)->Q v H'
 |_=>False
theorem iV{o:O2}(ho:o≠.add)(hm:o≠.mul){da db d:D}(h:op2 o da db=.ok d):∃i j,da=.int i/\db=.int j/\opI o i j=.ok d:=by
 unfold op2 at h;split at h
 ·exact⟨_,_,rfl,rfl,h⟩
 ·rw[if_neg (λz=>ho z.1)]at h;cases h
 ·rw[if_neg (λz=>ho z.1)]at h;cases h
 ·cases h
theorem ma{j:Int}(h:small j=true):-(2^64)<j/\j<2^64:=by simpa[small]using h
theorem oa{n:Nat}(h:n<=SZ):n<=sizeLine:=ba h (by rw[aW];decide)
theorem log2_small{j:Int}(h1:0<j)(h2:j<1000000000000000000000000000000):j.natAbs.log2<9000:=by
 have h3:j.natAbs<2^100:=by
  have:(2:Nat)^100=1267650600228229401496703205376:=by decide +kernel
  rw[this];lia
 have:=(Nat.log2_lt (n:=j.natAbs) (k:=100) (by lia)).mpr h3;lia
theorem yd:OpR X (binaryOp .FloorDiv) (rI (λ_ j=>0<j/\j<1000000000000000000000000000000) λi j=>.int (i/j)):=L2.opI λi j _ _ _ _ _ hc q=>by
 have h1:(0:Int)<j:=hc.1;exact floordiv_int (by lia) (by rw[Int.fdiv_eq_ediv_of_nonneg i (by lia)];exact q) (.inl (PyProof.noPylong_of_log2 (log2_small hc.1 hc.2)))
theorem q9(hK:X.K=g.K){op:Operator}{o:O2}(h:o2 op=some o):OpR X (binaryOp op) (rOp g o):=by
 have two:∀{f:ae->ae->Sem ae}{C:Int->Int->Prop}{q:Int->Int->Int} (o:O2),OpR X f (rI C λi j=>.int (q i j))->(∀da db d,op2 o da db=.ok d->∃i j,da=.int i/\db=.int j/\C i j/\d=.int (q i j))->OpR X f (rOp g o):=λo k e=>by
  refine OpR.imp k λx y H Q ⟨S,da,db,hs,ra,rb,m⟩=>?_
  cases e1:op2 o da db with
  |ok d=>
   rw[e1]at m;obtain⟨i,j,rfl,rfl,c,rfl⟩:=e da db d e1;exact⟨i,j,ra.int,rb.int,c,m _ _ (qe.refl _) (.int _) (λz=>nomatch z)⟩
  |ex c=>rw[e1]at m;exact m.elim
  |no=>rw[e1]at m;exact m.elim
 have two0:∀{f:ae->ae->Sem ae}{q:Int->Int->Int} (o:O2),OpR X f (rI0 λi j=>.int (q i j))->(∀da db d,op2 o da db=.ok d->∃i j,da=.int i/\db=.int j/\d=.int (q i j))->OpR X f (rOp g o):=λ{f q} o k e=>
  two (C:=λ_ _=>True) (q:=q) o (OpR.imp k λx y H Q ⟨i,j,h1,h2,_,h3⟩=>⟨i,j,h1,h2,h3⟩) λda db d h=>by
   obtain⟨i,j,h1,h2,h3⟩:=e da db d h;exact⟨i,j,h1,h2,trivial,h3⟩
 cases op<;>simp only[o2,cg]at h<;>first|subst h|cases h
 ·-- Add
  refine OpR.imp (tf.or (uL.or sL)) λx y H Q ⟨S,da,db,hs,ra,rb,m⟩=>?_
  cases da with
  |int i=>
   cases db with
   |int j=>exact .inl ⟨i,j,ra.int,rb.int,m _ _ (qe.refl _) (.int _) (λz=>nomatch z)⟩
   |_=>exact m.elim
  |tup xs=>
   cases db with
   |tup ys=>
    simp only[op2,true_and]at m;split at m
    ·rename_i e
     split at e<;>cases e
     rename_i hz
     obtain⟨a,vs,rfl,h1,r1⟩:=ra.tup;obtain⟨b,us,rfl,h2,r2⟩:=rb.tup;refine .inr (.inl ⟨a,b,vs,us,rfl,rfl,by rw[hK];exact h1,by rw[hK];exact h2,by rw[<-r1.length,<-r2.length];exact oa hz,λe=>?_,λ_ e=>?_,λ_ _ p hp=>?_⟩)
     ·subst e;cases r1;exact m _ _ (qe.refl _) (rb.strong (by intro _ z;cases z)) (λz=>nomatch z)
     ·subst e;cases r2;rw[List.append_nil]at m;exact m _ _ (qe.refl _) (ra.strong (by intro _ z;cases z)) (λz=>nomatch z)
     ·exact m _ _ (zp hp) (gZ hs hp (r1.append r2)) (λz=>nomatch z)
    ·exact m.elim
   |_=>exact m.elim
  |lst xs=>
   cases db with
   |lst ys=>
    simp only[op2,true_and]at m;split at m
    ·rename_i e
     split at e<;>cases e
     rename_i hz
     obtain⟨a,vs,rfl,h1,r1⟩:=ra.lst;obtain⟨b,us,rfl,h2,r2⟩:=rb.lst;refine .inr (.inr ⟨a,b,vs,us,rfl,rfl,by rw[hK];exact h1,by rw[hK];exact h2,by rw[<-r1.length,<-r2.length];exact oa hz,λp hp=>?_⟩);exact m _ _ (zp hp) (dZ hs hp (r1.append r2)) (λ_=>eA (qe.refl _) hp (r1.append r2))
    ·exact m.elim
   |_=>exact m.elim
  |_=>exact m.elim
 ·exact two0 .sub vP λda db d h=>by obtain⟨i,j,rfl,rfl,h'⟩:=iV (by decide) (by decide) h;clear h;rename _=>h;cases h;exact⟨_,_,rfl,rfl,rfl⟩
 ·refine OpR.imp vp λx y H Q ⟨S,da,db,hs,ra,rb,m⟩=>?_
  cases e1:op2 .mul da db with
  |ok d=>
   rw[e1]at m;unfold op2 at e1;split at e1
   ·simp only[opI]at e1;split at e1
    ·rename_i i j hc
     cases e1;refine⟨i,j,ra.int,rb.int,?_,m _ _ (qe.refl _) (.int _) (λz=>nomatch z)⟩;rcases(by simpa using hc)with z|z
     ·exact .inl (ma z)
     ·exact .inr (ma z)
    ·cases e1
   ·rw[if_neg (λz=>nomatch z.1)]at e1;cases e1
   ·rw[if_neg (λz=>nomatch z.1)]at e1;cases e1
   ·cases e1
  |ex c=>rw[e1]at m;exact m.elim
  |no=>rw[e1]at m;exact m.elim
 ·exact two .mod uY λda db d h=>by obtain⟨i,j,rfl,rfl,h'⟩:=iV (by decide) (by decide) h;clear h;rename _=>h;simp only[opI]at h;split at h<;>cases h;rename_i hc;exact⟨_,_,rfl,rfl,hc,rfl⟩
 ·exact two .shr uK λda db d h=>by obtain⟨i,j,rfl,rfl,h'⟩:=iV (by decide) (by decide) h;clear h;rename _=>h;simp only[opI]at h;split at h<;>cases h;rename_i hc;exact⟨_,_,rfl,rfl,hc,rfl⟩
 ·exact two .fdiv yd λda db d h=>by obtain⟨i,j,rfl,rfl,h'⟩:=iV (by decide) (by decide) h;clear h;rename _=>h;simp only[opI]at h;split at h<;>cases h;rename_i hc;exact⟨_,_,rfl,rfl,hc,rfl⟩
theorem jj(hK:X.K=g.K){pins:List (Addr×Obj)}{σ:L2.St}{H:Hp}{s:af}(I:Inv X pins σ H s){d:D}{v:V}{u:ae}(r:Rep g H d v)(a:d.asks=true)(ru:RelV v u):∃as,Reads s.heap u d.py as/\d.py.canLay0=true/\d.py.depth<=20:=by
 obtain⟨h1,h2⟩:=gr.mp a;have h:=r.data h1;rw[<-hK]at h;obtain⟨as,q⟩:=I.reads h ru;exact⟨as,q,pO h1,by rw[mO];exact h2⟩
theorem mB:∀(a b:List Int),dW a b=HT.lexLt a b
 | [],[]=>by simp[dW,HT.lexLt]
 | [],_::_=>by simp[dW,HT.lexLt]
 |_::_,[]=>by simp[dW,HT.lexLt]
 |a::r,b::t=>by
  simp only[dW,HT.lexLt];rw[mB r t]
  try (by_cases h:a=b<;>simp[h])
noncomputable def rCm(g:Gc)(c:C2):R2:=λx y H Q=>∃S da db,zJ g H S da x/\zJ g H S db y /\
 match qh c da db with
 | .ok b=>Q (.bl b) H
 |_=>False
open Classical in
noncomputable def dP(h:Heap)(q:PyData)(u:ae):Bool:=if e:∃d as,Reads h u d as then PyData.eqv e.choose q else false
theorem pD{h:Heap}{q d:PyData}{u:ae}{as:List Addr}(r:Reads h u d as):dP h q u=PyData.eqv d q:=by
 have e:∃d as,Reads h u d as:=⟨d,as,r⟩
 unfold dP;rw[dif_pos e];obtain⟨bs,r'⟩:=e.choose_spec;rw[(PySem.Reads.unique r' d as r).1]
theorem any_eq(hK:X.K=g.K){pins:List (Addr×Obj)}{σ:L2.St}{H:Hp}{s:af}(I:Inv X pins σ H s){da:D}(ha:da.asks=true){ds:List D}:∀{vs:List V}{us:List ae},ze g H ds vs->Vals vs us->ds.all D.asks=true ->
  us.any (dP s.heap da.py)=inD da ds/\∀u∈us,∃d as,Reads s.heap u d as/\d.canLay0=true/\d.depth<=20:=by
 induction ds with
 |nil=>intro vs us h r _;cases h;cases r;exact⟨rfl,λu h=>nomatch h⟩
 |cons d ds ih=>
  intro vs us h q e;cases h with
  |cons h r=>cases q with
   |cons q t=>
    rw[List.all_cons,aC]at e;obtain⟨as,h1,h2,h3⟩:=jj hK I h e.1 q;obtain⟨i1,i2⟩:=ih r t e.2;refine⟨?_,λu hu=>?_⟩
    ·rw[List.any_cons,i1,pD h1,jC _ _ (gr.mp e.1).1 (gr.mp ha).1]
     rfl
    ·rcases aF.mp hu with rfl|hu
     ·exact⟨_,as,h1,h2,h3⟩
     ·exact i2 u hu
theorem Bq{A:au}{s:af}{u v:ae}{d:PyData}{as:List Addr}{q:PyData}{bs:List Addr}(hu:A.units+60<cLine)(r:Reads s.heap u d as)(r':Reads s.heap v q bs)(h1:d.canLay0=true)(h2:q.canLay0=true)(h3:d.depth<=20):SeqAt.EqAt A.in1 s u v (dP s.heap q u):=by
 rw[pD r];refine SeqAt.eqAt_reads d q A.in1 s u v as bs r r' h1 h2 ?_;have:min d.depth q.depth<=d.depth:=Nat.min_le_left _ _;show A.units+1+_<_;lia
theorem pf(hK:X.K=g.K)(hu:X.A.units+64<cLine)(neg:Bool):OpR X (aQ (if neg then .NotIn else .In)) (λx y H Q=>∃S da db ds,zJ g H S da x/\zJ g H S db y/\seq? db=some ds/\da.asks=true/\ds.all D.asks=true/\Q (.bl (if neg then !inD da ds else inD da ds)) H):=by
 intro pins s σ H x y v u Q I rx ry h;obtain⟨S,da,db,ds,ra,rb,es,aa,ad,q⟩:=h;obtain⟨as,h1,h2,h3⟩:=jj hK I ra.rep aa rx;obtain⟨a,vs,rfl,hsq,rr⟩:=rb.seq es;cases ry;have go:∀{its:List ae},Vals vs its->(∀w∈its.toArray,SeqAt.EqAt X.A.in1 s w v (dP s.heap da.py w))/\its.toArray.any (dP s.heap da.py)=inD da ds:=λ{its} rv=>by
  obtain⟨i1,i2⟩:=any_eq hK I aa (rr.mono zM) rv ad;refine⟨λw hw=>?_,by simpa using i1⟩;obtain⟨d,bs,r1,r2,r3⟩:=i2 w (by simpa using hw);exact Bq (Nat.lt_of_le_of_lt (Nat.add_le_add_left (by decide) _) hu) r1 h1 r2 h2 r3
 rcases hsq with hsq|hsq
 ·obtain⟨its,rv,pl,_⟩:=I.list (by rw[hK];exact hsq);obtain⟨g1,g2⟩:=go rv;cases neg with
  |false=>exact SeqAt.in_listAt (dP s.heap da.py) pl.isList g1 ⟨.bl _,H,I,rfl,by rw[g2];exact q⟩
  |true=>exact SeqAt.notIn_listAt (dP s.heap da.py) pl.isList g1 ⟨.bl _,H,I,rfl,by rw[g2];exact q⟩
 ·obtain⟨its,rv,pl,_⟩:=I.tuple (by rw[hK];exact hsq);obtain⟨g1,g2⟩:=go rv;cases neg with
  |false=>exact SeqAt.in_tupleAt (dP s.heap da.py) pl g1 ⟨.bl _,H,I,rfl,by rw[g2];exact q⟩
  |true=>exact SeqAt.notIn_tupleAt (dP s.heap da.py) pl g1 ⟨.bl _,H,I,rfl,by rw[g2];exact q⟩
theorem nq(hK:X.K=g.K)(hu:X.A.units+64<cLine)(neg:Bool):OpR X (aQ (if neg then .NotEq else .Eq)) (λx y H Q=>∃S da db,zJ g H S da x/\zJ g H S db y/\da.asks=true/\db.asks=true/\Q (.bl (if neg then !da.eqv db else da.eqv db)) H):=by
 intro pins s σ H x y v u Q I rx ry h;obtain⟨S,da,db,ra,rb,aa,ab,q⟩:=h;obtain⟨as,h1,h2,h3⟩:=jj hK I ra.rep aa rx;obtain⟨bs,k1,k2,k3⟩:=jj hK I rb.rep ab ry;have e:=jC da db (gr.mp aa).1 (gr.mp ab).1;have room:X.A.units+min da.py.depth db.py.depth<cLine:=by
  have:min da.py.depth db.py.depth<=da.py.depth:=Nat.min_le_left _ _;lia
 cases neg with
 |false=>exact SeqAt.compareEq_reads h1 k1 h2 k2 room ⟨.bl _,H,I,by rw[e];rfl,q⟩
 |true=>exact SeqAt.compareNe_reads h1 k1 h2 k2 room ⟨.bl _,H,I,by rw[e];rfl,q⟩
theorem zJ.non_iff{S:Sh}{H:Hp}{d:D}{v:V}(r:zJ g H S d v):decide (v=.non)=el d:=by
 cases r.rep<;>rfl
theorem dQ{op:CmpOp}{c:C2}{r:R2}(h:OpR X (aQ op) r)(k:∀S da db b x y H Q,zJ g H S da x->zJ g H S db y->qh c da db=.ok b->Q (.bl b) H->r x y H Q):OpR X (aQ op) (rCm g c):=by
 refine OpR.imp h λx y H Q ⟨S,da,db,ra,rb,m⟩=>?_
 cases e:qh c da db with
 |ok b=>rw[e]at m;exact k S da db b x y H Q ra rb e m
 |ex c'=>rw[e]at m;exact m.elim
 |no=>rw[e]at m;exact m.elim
theorem AO:OpR X (aQ .Is) (λx y H Q=>∃a b,x=.bl a/\y=.bl b/\Q (.bl (a==b)) H):=by
 intro pins s σ H x y v u Q I rx ry h;obtain⟨a,b,rfl,rfl,q⟩:=h;cases rx;cases ry;exact is_bool (ij I q rfl)
theorem wH:OpR X (aQ .IsNot) (λx y H Q=>∃a b,x=.bl a/\y=.bl b/\Q (.bl (!(a==b))) H):=by
 intro pins s σ H x y v u Q I rx ry h;obtain⟨a,b,rfl,rfl,q⟩:=h;cases rx;cases ry;exact isnot_bool (ij I q rfl)
theorem oN{n:Bool}{a b:EV.D}{c:Bool}(h:isB n a b=.ok c):∃x y,a=.bl x/\b=.bl y/\c=(n != (x==y)):=by
 unfold isB at h;split at h
 ·cases h;exact⟨_,_,rfl,rfl,rfl⟩
 ·cases h
theorem my{da db:D}{b:Bool}(h:cN da db=.ok b):∃kvs i,db=.dic kvs/\da=.int i/\b=kvs.any λp=>decide (p.1=i):=by
 unfold cN at h;split at h
 ·split at h
  ·cases h;exact⟨_,_,rfl,rfl,rfl⟩
  ·cases h
 ·cases h
theorem dt(hK:X.K=g.K)(hu:X.A.units+64<cLine)(op:CmpOp):OpR X (aQ op) (rCm g (c2 op)):=by
 cases op
 ·exact dQ (nq hK hu false) λS da db b x y H Q ra rb e q=>by
   simp only[c2,qh]at e;split at e<;>cases e
   rename_i a
   simp only[aC]at a;exact⟨S,da,db,ra,rb,a.1,a.2,q⟩
 ·exact dQ (nq hK hu true) λS da db b x y H Q ra rb e q=>by
   simp only[c2,qh]at e;split at e<;>cases e
   rename_i a
   simp only[aC]at a;exact⟨S,da,db,ra,rb,a.1,a.2,q⟩
 ·exact dQ (xr.or (sA (by lia))) λS da db b x y H Q ra rb e q=>by
   simp only[c2]at e;cases da with
   |int i=>
    cases db with
    |int j=>cases e;exact .inl ⟨i,j,ra.int,rb.int,q⟩
    |_=>cases e
   |tup xs=>
    cases db with
    |tup ys=>
     simp only[qh]at e;split at e
     ·rename_i ns ms e1 e2
      cases e;obtain⟨a,vs,rfl,h1,r1⟩:=ra.tup;obtain⟨b,us,rfl,h2,r2⟩:=rb.tup;obtain⟨rfl,_⟩:=r1.ints e1;obtain⟨rfl,_⟩:=r2.ints e2;exact .inr ⟨a,b,ns,ms,rfl,rfl,by rw[hK];exact h1,by rw[hK];exact h2,mB ns ms▸q⟩
     ·cases e
    |_=>cases e
   |_=>cases db<;>cases e
 ·exact dQ xn λS da db b x y H Q ra rb e q=>by
   cases da with
   |int i=>
    cases db with
    |int j=>cases e;exact⟨_,_,ra.int,rb.int,q⟩
    |_=>cases e
   |_=>cases e
 ·exact dQ vU λS da db b x y H Q ra rb e q=>by
   cases da with
   |int i=>
    cases db with
    |int j=>cases e;exact⟨_,_,ra.int,rb.int,q⟩
    |_=>cases e
   |_=>cases e
 ·exact dQ yG λS da db b x y H Q ra rb e q=>by
   cases da with
   |int i=>
    cases db with
    |int j=>cases e;exact⟨_,_,ra.int,rb.int,q⟩
    |_=>cases e
   |_=>cases e
 ·exact dQ (wM.or AO) λS da db b x y H Q ra rb e q=>by
   simp only[c2,qh]at e;split at e
   ·rename_i hd
    cases e;have hd:db=.non:=by cases db<;>first|rfl|cases hd
    subst hd;cases rb.rep;exact .inl ⟨rfl,by rw[ra.non_iff];exact q⟩
   ·obtain⟨a,c,rfl,rfl,rfl⟩:=oN e;cases ra.rep;cases rb.rep;exact .inr ⟨a,c,rfl,rfl,by cases a<;>cases c<;>exact q⟩
 ·exact dQ (yV.or wH) λS da db b x y H Q ra rb e q=>by
   simp only[c2,qh]at e;split at e
   ·rename_i hd
    cases e;have hd:db=.non:=by cases db<;>first|rfl|cases hd
    subst hd;cases rb.rep;exact .inl ⟨rfl,by rw[ra.non_iff];exact q⟩
   ·obtain⟨a,c,rfl,rfl,rfl⟩:=oN e;cases ra.rep;cases rb.rep;exact .inr ⟨a,c,rfl,rfl,by cases a<;>cases c<;>exact q⟩
 ·exact dQ ((pf hK hu false).or (uH hu)) λS da db b x y H Q ra rb e q=>by
   simp only[c2,qh]at e;split at e
   ·rename_i xs es
    split at e<;>cases e
    rename_i a
    simp only[aC]at a;exact .inl ⟨S,da,db,xs,ra,rb,es,a.1,a.2,q⟩
   ·obtain⟨kvs,i,rfl,rfl,rfl⟩:=my e;obtain⟨l,rfl,hl⟩:=rb.dic;exact .inr ⟨l,kvs,i,rfl,ra.int,hl,q⟩
 ·exact dQ ((pf hK hu true).or (rV hu)) λS da db b x y H Q ra rb e q=>by
   simp only[c2,qh]at e;split at e
   ·rename_i xs es
    split at e<;>cases e
    rename_i a
    simp only[aC]at a;exact .inl ⟨S,da,db,xs,ra,rb,es,a.1,a.2,q⟩
   ·cases ed:cN da db with
    |ok r=>
     rw[ed]at e;obtain⟨kvs,i,rfl,rfl,rfl⟩:=my ed;obtain⟨l,rfl,hl⟩:=rb.dic;cases e;exact .inr ⟨l,kvs,i,rfl,ra.int,hl,q⟩
    |ex z=>rw[ed]at e;cases e
    |no=>rw[ed]at e;cases e
end
abbrev eG(g:Gc)(H:Hp)(S:Sh):List D->List V->Prop:=Paired (zJ g H S)
section
variable{X:Cx}{g:Gc}
theorem nT{H:Hp}{ds:List D}{vs:List V}{i:Int}{d:D}(r:ze g H ds vs)(e:atI ds i=some d):∃v,atI vs i=some v/\Rep g H d v:=by
 unfold atI at e ⊢;rw[<-r.length];cases q:ixN ds.length i with
 |none=>rw[q]at e;cases e
 |some j=>rw[q]at e;exact r.get e
noncomputable def vI(g:Gc):R2:=λx y H Q=>∃S da db,zJ g H S da x/\zJ g H S db y /\
 match ixD da db with
 | .ok d=>∀v,Rep g (hid H S) d v->Q v H
 |_=>False
theorem Cz(hK:X.K=g.K)(hu:X.A.units+64<cLine):IxR X (vI g):=by
 have k:IxR X (λx y H Q=>(nM X.K x y H Q\/oS X.K x y H Q)\/lZ x y H Q):=(rD.or w9).or (Aa hu);intro value slice pins s σ H x y v u Q I rx ry h hs;refine k value slice pins s σ H x y v u Q I rx ry ?_ hs;obtain⟨S,da,db,ra,rb,m⟩:=h;cases da with
 |tup xs=>
  cases db with
  |int i=>
   simp only[ixD]at m;cases e:atI xs i with
   |none=>rw[e]at m;exact m.elim
   |some d=>
    rw[e]at m;obtain⟨a,vs,rfl,h1,r1⟩:=ra.tup;obtain⟨w,h2,h3⟩:=nT r1 e;exact .inl (.inr ⟨a,vs,i,w,rfl,rb.int,by rw[hK];exact h1,h2,m w h3⟩)
  |_=>exact m.elim
 |lst xs=>
  cases db with
  |int i=>
   simp only[ixD]at m;cases e:atI xs i with
   |none=>rw[e]at m;exact m.elim
   |some d=>
    rw[e]at m;obtain⟨a,vs,rfl,h1,r1⟩:=ra.lst;obtain⟨w,h2,h3⟩:=nT r1 e;exact .inl (.inl ⟨a,vs,i,w,rfl,rb.int,by rw[hK];exact h1,h2,m w h3⟩)
  |_=>exact m.elim
 |dic kvs=>
  cases db with
  |int i=>
   simp only[ixD]at m;cases e:atK kvs i with
   |none=>rw[e]at m;exact m.elim
   |some v=>
    rw[e]at m;obtain⟨a,rfl,h1⟩:=ra.dic;exact .inr ⟨a,kvs,i,v,rfl,rb.int,h1,e,m _ (.int v)⟩
  |_=>exact m.elim
 |_=>exact m.elim
noncomputable def xM(g:Gc):V->Option Int->Option Int->Hp->VK->Prop:=λx lo hi H Q=>∃S da,Sub S H/\zJ g H S da x /\
 match slD da lo hi with
 | .ok d=>∀v H',qe H H'->Rep g (hid H' S) d v->Q v H'
 |_=>False
theorem nP{H:Hp}{ds:List D}{vs:List V}(r:ze g H ds vs)(lo hi:Option Int):ze g H (cutD ds lo hi) (e_ vs lo hi):=by
 unfold cutD e_;rw[r.length];exact(r.drop _).take _
theorem Cq(hK:X.K=g.K):SlR X (xM g):=by
 intro pins s σ H x v vl vu lo hi sl Q I rx hs pl pu h;obtain⟨S,da,hS,ra,m⟩:=h;cases da with
 |lst xs=>
  obtain⟨a,vs,rfl,h1,r1⟩:=ra.lst;exact uv pins s σ H _ v vl vu lo hi sl Q I rx hs pl pu ⟨a,vs,rfl,by rw[hK];exact h1,λp hp=>m _ _ (zp hp) (dZ hS hp (nP r1 lo hi))⟩
 |tup xs=>
  obtain⟨a,vs,rfl,h1,r1⟩:=ra.tup;simp only[slD]at m;by_cases hw:HT.sIx xs.length 0 lo=0/\HT.sIx xs.length xs.length hi=xs.length
  ·have e:cutD xs lo hi=xs:=by unfold cutD;rw[hw.1,hw.2];simp
   rw[e]at m;rw[r1.length]at hw;exact rM pins s σ H _ v vl vu lo hi sl Q I rx hs pl pu ⟨a,vs,rfl,by rw[hK];exact h1,hw.1,hw.2,m _ _ (qe.refl _) (ra.strong (by intro _ z;cases z))⟩
  ·rw[r1.length]at hw;exact wU pins s σ H _ v vl vu lo hi sl Q I rx hs pl pu ⟨a,vs,rfl,by rw[hK];exact h1,hw,λp hp=>m _ _ (zp hp) (gZ hS hp (nP r1 lo hi))⟩
 |_=>exact m.elim
noncomputable def b1V:B1->ae
 | .len=>.builtin "len"
 | .tuple=>.type "tuple"
 | .list=>.type "list"
 | .sorted=>.builtin "sorted"
 | .all=>.builtin "all"
 | .any=>.builtin "any"
 | .sum=>.builtin "sum"
 | .min=>.builtin "min"
 | .max=>.builtin "max"
 | .abs=>.builtin "abs"
 | .int=>.type "int"
 | .bool=>.type "bool"
noncomputable def rB1(g:Gc)(b:B1):List V->Hp->VK->Prop:=λvs H Q=>∃S ds,Sub S H/\eG g H S ds vs /\
 match b1 b ds with
 | .ok d=>∀v H',qe H H'->Rep g (hid H' S) d v->(b=.list\/b=.sorted->Fr g H S H' d v)->Q v H'
 |_=>False
theorem zl.imp{f:ae}{r r':List V->Hp->VK->Prop}(h:zl X f r)(i:∀xs H Q,r' xs H Q->r xs H Q):zl X f r':=
 λpins s σ H xs us Q I rv q=>h pins s σ H xs us Q I rv (i _ _ _ q)
theorem dF{f:ae}{b:B1}{r:List V->Hp->VK->Prop}(h:zl X f r)
  (k:∀S ds d vs H Q,Sub S H->eG g H S ds vs->b1 b ds=.ok d->(∀v H',qe H H'->Rep g (hid H' S) d v->(b=.list\/b=.sorted->Fr g H S H' d v)->Q v H')->r vs H Q):zl X f (rB1 g b):=by
 refine zl.imp h λvs H Q ⟨S,ds,hs,rs,m⟩=>?_
 cases e:b1 b ds with
 |ok d=>rw[e]at m;exact k S ds d vs H Q hs rs e m
 |ex c=>rw[e]at m;exact m.elim
 |no=>rw[e]at m;exact m.elim
theorem fu{b:B1}(hb:∀x y,b12 b x y=.no){ds:List D}{d:D}(h:b1 b ds=.ok d):∃x,ds=[x]/\b11 b x=.ok d:=by
 match ds,h with
 | [x],h=>exact⟨x,rfl,h⟩
 | [x,y],h=>have h:b12 b x y=.ok d:=h;rw[hb]at h;cases h
 | [],h=>cases h
 |_::_::_::_,h=>cases h
theorem iB{x r:D}{k:List D->R D}(h:dY x k=.ok r):∃xs,x=.lst xs/\k xs=.ok r:=by
 cases x with
 |lst xs=>exact⟨xs,rfl,h⟩
 |_=>cases h
theorem jO{x r:D}{f:Int->R D}{q:Bool->R D}(h:ibR x f q=.ok r):(∃i,x=.int i/\f i=.ok r)\/(∃b,x=.bl b/\q b=.ok r):=by
 cases x with
 |int i=>exact .inl ⟨i,rfl,h⟩
 |bl i=>exact .inr ⟨i,rfl,h⟩
 |_=>cases h
theorem oZ{x y r:D}{k:Int->Int->R D}(h:iiR x y k=.ok r):∃i j,x=.int i/\y=.int j/\k i j=.ok r:=by
 cases x with
 |int i=>
  cases y with
  |int j=>exact⟨i,j,rfl,rfl,h⟩
  |_=>cases h
 |_=>cases h
theorem iA{α β:Type}{o:Option α}{k:α->R β}{r:β}(h:cZ o k=.ok r):∃a,o=some a/\k a=.ok r:=by
 cases o with
 |some a=>exact⟨a,rfl,h⟩
 |none=>cases h
theorem kH{b:B1}{ds:List D}{d:D}{q:List D->R D}(h:b1 b ds=.ok d)(e:∀x,b1 b [x]=cZ (seq? x) q)(n:ds.length≠1->b1 b ds=.no):∃x xs,ds=[x]/\seq? x=some xs/\q xs=.ok d:=by
 match ds with
 | []=>rw[n (by simp)]at h;cases h
 | [x]=>
  rw[e]at h;cases z:seq? x with
  |none=>rw[z]at h;cases h
  |some xs=>rw[z]at h;exact⟨x,xs,rfl,z,h⟩
 |x::y::r=>rw[n (by simp)]at h;cases h
theorem yl(hK:X.K=g.K):zl X (.builtin "len") (rB1 g .len):=dF sQ λS ds d vs H Q hs rs h q=>by
 obtain⟨x,xs,rfl,e,h⟩:=kH (q:=λxs=>.ok (.int xs.length)) h (λ_=>rfl) (λn=>by match ds,n with | [],_=>rfl | [_,_],_=>rfl|_::_::_::_,_=>rfl);cases h;cases rs with
 |cons r rs=>
  cases rs;obtain⟨a,us,rfl,h1,r1⟩:=r.seq e;exact⟨a,us,rfl,by rw[hK];exact h1,by rw[<-r1.length];exact q _ _ (qe.refl _) (.int _) (by simp)⟩
theorem Bs(hK:X.K=g.K):zl X (.type "tuple") (rB1 g .tuple):=dF yb λS ds d vs H Q hs rs h q=>by
 obtain⟨x,xs,rfl,e,h⟩:=kH (q:=λxs=>.ok (.tup xs)) h (λ_=>rfl) (λn=>by match ds,n with | [],_=>rfl | [_,_],_=>rfl|_::_::_::_,_=>rfl);cases h;cases rs with
 |cons r rs=>
  cases rs;cases x with
  |lst ys=>
   cases e;obtain⟨a,us,rfl,h1,r1⟩:=r.lst;exact⟨a,us,rfl,.inl ⟨by rw[hK];exact h1,λp hp=>q _ _ (zp hp) (gZ hs hp r1) (by simp)⟩⟩
  |tup ys=>
   cases e;have z:=r.strong (by intro _ z;cases z);obtain⟨a,us,rfl,h1,r1⟩:=r.tup;exact⟨a,us,rfl,.inr ⟨by rw[hK];exact h1,q _ _ (qe.refl _) z (by simp)⟩⟩
  |_=>cases e
theorem p5(hK:X.K=g.K):zl X (.type "list") (rB1 g .list):=dF nY λS ds d vs H Q hs rs h q=>by
 obtain⟨x,xs,rfl,e,h⟩:=kH (q:=λxs=>.ok (.lst xs)) h (λ_=>rfl) (λn=>by match ds,n with | [],_=>rfl | [_,_],_=>rfl|_::_::_::_,_=>rfl);cases h;cases rs with
 |cons r rs=>
  cases rs;obtain⟨a,us,rfl,h1,r1⟩:=r.seq e;exact⟨a,us,rfl,by rw[hK];exact h1,λp hp=>q _ _ (zp hp) (dZ hs hp r1) λ_=>eA (qe.refl _) hp r1⟩
theorem t_(hc:X.calm=true)(al:Bool):zl X (.builtin (if al then "all" else "any")) (λxs H Q=>∃(l:Addr) (bs:List Bool),xs=[.ref l]/\SqL X.K H l (bs.map V.bl)/\Q (.bl (if al then bs.all id else bs.any id)) H):=by
 intro pins s σ H xs us Q I r h;obtain⟨l,bs,rfl,hl,q⟩:=h;obtain⟨u,rfl,ru⟩:=r.one;cases ru;obtain⟨its,rv,pl,hz⟩:=I.list hl;have e:=Cy (A:=X.A) rv;subst e;have hlt:l<s.heap.objs.size:=by obtain⟨_,e,_⟩:=pl.isList;exact aJ e
 have tr:TruthOf X.prog X.w X.A.in1 (λi v=>(bs.map ae.bool).toArray[i]? = some v) (λi=>(bs[i]?).getD al):=λi v s' Q' E' hP hQ=>by
  have hv:(bs.map ae.bool)[i]? = some v:=by simpa using hP
  rw[List.getElem?_map]at hv;cases e:bs[i]? with
  |none=>rw[e]at hv;cases hv
  |some b=>
   rw[e]at hv;cases hv;simp only[e,Option.getD_some]at hQ;exact bD hQ
 have wk:=Walks.list (prog:=X.prog) (w:=X.w) (A:=X.A.in1) (I.ok.hd hc) s.heap.objs.size l (aZ hlt) (bs.map ae.bool).toArray;cases al with
 |true=>
  refine call_all_walk (wpAny_pyIter_list pl.isList ?_);refine⟨s.heap.objs.size,[s.heap.objs.size,l],[s.heap.objs.size],_,_,_,_,rfl,wk,⟨⟨_,Heap.get?_push_size _ rfl,rfl,rfl⟩,pl.isList.push _⟩,tr,λh' tk hk=>?_⟩;have e:((a9 (bs.map ae.bool).toArray.size).all λi=>(bs[i]?).getD true)=bs.all id:=by
   rw[aK,aD];exact LSm.range_all bs
  rw[e];exact⟨.bl _,H,I.kept (LSm.kept_iter hk),rfl,q⟩
 |false=>
  refine call_any_walk (wpAny_pyIter_list pl.isList ?_);refine⟨s.heap.objs.size,[s.heap.objs.size,l],[s.heap.objs.size],_,_,_,_,rfl,wk,⟨⟨_,Heap.get?_push_size _ rfl,rfl,rfl⟩,pl.isList.push _⟩,tr,λh' tk hk=>?_⟩;have e:((a9 (bs.map ae.bool).toArray.size).any λi=>(bs[i]?).getD false)=bs.any id:=by
   rw[aK,aD,Bool.eq_iff_iff];simp only[cW,List.mem_range,id];constructor
   ·rintro⟨i,hi,e⟩;rw[List.getElem?_eq_getElem hi]at e;exact⟨_,List.getElem_mem hi,e⟩
   ·rintro⟨b,hb,e⟩;obtain⟨i,hi,rfl⟩:=List.getElem_of_mem hb;exact⟨i,hi,by rw[List.getElem?_eq_getElem hi];exact e⟩
  rw[e];exact⟨.bl _,H,I.kept (LSm.kept_iter hk),rfl,q⟩
theorem lY(hK:X.K=g.K)(hc:X.calm=true)(al:Bool):zl X (.builtin (if al then "all" else "any")) (rB1 g (if al then .all else .any)):=dF (t_ hc al) λS ds d vs H Q hs rs h q=>by
 obtain⟨xs,bs,rfl,e,rfl⟩:∃xs bs,ds=[.lst xs]/\bools? xs=some bs/\d=.bl (if al then bs.all id else bs.any id):=by
  cases al
  ·obtain⟨x,rfl,h'⟩:=fu (λ_ _=>rfl) h;obtain⟨xs,rfl,h'⟩:=iB h';obtain⟨bs,e,h'⟩:=iA h';cases h';exact⟨xs,bs,rfl,e,rfl⟩
  ·obtain⟨x,rfl,h'⟩:=fu (λ_ _=>rfl) h;obtain⟨xs,rfl,h'⟩:=iB h';obtain⟨bs,e,h'⟩:=iA h';cases h';exact⟨xs,bs,rfl,e,rfl⟩
 cases rs with
 |cons r rs=>
  cases rs;obtain⟨a,us,rfl,h1,r1⟩:=r.lst;have e2:=r1.bools e;subst e2;exact⟨a,bs,rfl,by rw[hK];exact h1,q _ _ (qe.refl _) (.bl _) (by cases al<;>simp)⟩
end
end EV
namespace TS
open PySem PyProof.Rows
structure Cmp(prog:aq)(w:ak)(A:au)(s:af)(κ:SortKind)(D:aA->Prop)(LT:aA->aA->Bool):Prop where
 lt:∀x y,D x->D y->∀Q:Bool->af->Prop,Q (LT x y) s->ah (ai prog w) A (keyLt' κ x.1 y.1) Q (λ_ _=>False) s
 asym:∀x y,LT x y=true->LT y x=false
 neg:∀x y z,LT y x=false->LT z y=false->LT z x=false
section
variable{prog:aq}{w:ak}{A:au}{E:ae->af->Prop}{s:af}{κ:SortKind}{D:aA->Prop}{LT:aA->aA->Bool}
end
section
variable{LT:aA->aA->Bool}
abbrev df:Keyed:=(bH,bH)
noncomputable def at'(a:Array aA)(i:Nat):Keyed:=a.getD i df
variable{a b out:Array aA}{ia ib:Nat}
end
section
variable{prog:aq}{w:ak}{A:au}{E:ae->af->Prop}{s:af}{κ:SortKind}{D:aA->Prop}{LT:aA->aA->Bool}
end
section
variable{LT:aA->aA->Bool}
variable{a b out:Array aA}{na nb:Nat}
end
section
variable{prog:aq}{w:ak}{A:au}{E:ae->af->Prop}{s:af}{κ:SortKind}{D:aA->Prop}{LT:aA->aA->Bool}
end
structure SB(κ:SortKind)(p:Array (Nat×Nat×Nat))(a₁:Array aA)(lo:Nat)(st:SortSt):Prop where
 kd:kindOf st=κ
 fl:failedOf st=none
 pn:pendingOf st=p
 pm:(arrOf st).Perm a₁
 lw:∀i,i<lo->at' (arrOf st) i=at' a₁ i
noncomputable def Kr(R:aA->Int)(xs:Array aA)(i:Nat):Int:=R (at' xs i)
noncomputable def Seg(R:aA->Int)(xs:Array aA)(lo n:Nat):Prop:=∀i j,i<=j->j<n->Kr R xs (lo+i)<=Kr R xs (lo+j)
noncomputable def Dsc(R:aA->Int)(xs:Array aA)(lo n:Nat):Prop:=∀i j,i<=j->j<n->Kr R xs (lo+j)<=Kr R xs (lo+i)
section
variable{prog:aq}{w:ak}{A:au}{E:ae->af->Prop}{s:af}{κ:SortKind}{D:aA->Prop}{LT:aA->aA->Bool}{R:aA->Int}{p:Array (Nat×Nat×Nat)}{a₁:Array aA}{lo:Nat}
theorem SB.size{st:SortSt}(h:SB κ p a₁ lo st):(arrOf st).size=a₁.size:=h.pm.size_eq
end
section
variable{prog:aq}{w:ak}{A:au}{E:ae->af->Prop}{s:af}{κ:SortKind}{D:aA->Prop}{LT:aA->aA->Bool}{R:aA->Int}{p:Array (Nat×Nat×Nat)}{a₁:Array aA}{lo:Nat}{xs:Array aA}
theorem Seg.one:Seg R xs lo 1:=λi j a b=>by rw[show i=j by lia];exact Int.le_refl _
theorem Dsc.one:Dsc R xs lo 1:=λi j a b=>by rw[show i=j by lia];exact Int.le_refl _
noncomputable def Flat(R:aA->Int)(xs:Array aA)(lo m neq:Nat):Prop:=∀i,lo+m-(neq+1)<=i->i<lo+m->Kr R xs i=Kr R xs (lo+m-1)
theorem Flat.zero{m:Nat}:Flat R xs lo m 0:=λi a b=>by rw[show i=lo+m-1 by lia]
end
section
variable{prog:aq}{w:ak}{A:au}{E:ae->af->Prop}{s:af}{κ:SortKind}{D:aA->Prop}{LT:aA->aA->Bool}{R:aA->Int}
end
section
variable{prog:aq}{w:ak}{A:au}{E:ae->af->Prop}{s:af}{κ:SortKind}{D:aA->Prop}{LT:aA->aA->Bool}{R:aA->Int}
end
noncomputable def pr(x:Nat×Nat×Nat):Nat×Nat:=(x.1,x.2.1)
noncomputable def Runs(R:aA->Int)(a:Array aA):Nat->List (Nat×Nat)->Nat->Prop
 |b,[],e=>b=e
 |b,x::l,e=>x.1=b/\1<=x.2/\Seg R a b x.2/\Runs R a (b+x.2) l e
section
variable{R:aA->Int}{a a':Array aA}
end
structure SR(κ:SortKind)(R:aA->Int)(a₁:Array aA)(lo:Nat)(st:SortSt):Prop where
 kd:kindOf st=κ
 fl:failedOf st=none
 pm:(arrOf st).Perm a₁
 rn:Runs R (arrOf st) 0 ((pendingOf st).toList.map pr) lo
 le:lo<=a₁.size
section
variable{prog:aq}{w:ak}{A:au}{E:ae->af->Prop}{s:af}{κ:SortKind}{D:aA->Prop}{LT:aA->aA->Bool}{R:aA->Int}{a₁:Array aA}{lo:Nat}
theorem SR.sz{st:SortSt}(h:SR κ R a₁ lo st):(arrOf st).size=a₁.size:=h.pm.size_eq
end
section
variable{prog:aq}{w:ak}{A:au}{E:ae->af->Prop}{s:af}{κ:SortKind}{D:aA->Prop}{LT:aA->aA->Bool}{R:aA->Int}{a₁:Array aA}{lo:Nat}
end
section
variable{prog:aq}{w:ak}{A:au}{E:ae->af->Prop}{s:af}
end
end TS
namespace TS
open PySem PySem.W PyProof.Rows
section
variable{M:Model}{A:au}{E:ae->af->Prop}{s:af}
end
section
variable{M:Model}{A:au}{E:ae->af->Prop}{s:af}
end
section
variable{prog:aq}{w:ak}{A:au}{E:ae->af->Prop}{s:af}
end
end TS
namespace L2
open PySem PySem.Spec PyProof.Rows TS
end L2
namespace L2
open PySem PySem.Spec PyProof.Rows
section
variable{X:Cx}
end
theorem rH{its:List ae}{ns:List Int}(hi:a8 its ns):∃ps:Array (Int×Tok),its.toArray=intItems ps/\ns=ps.toList.map Prod.fst:=by
 rcases hi.allInts.items with ⟨ps,hx⟩
 refine⟨ps,hx,?_⟩;have z:numsOf its.toArray.toList=ns:=hi.numsOf;rw[hx,nums_intItems]at z;exact z.symm
section
variable{X:Cx}
theorem vV(hc:X.calm=true):zl X (.builtin "sum") (λxs H Q=>∃(l:Addr) (ns:List Int),xs=[.ref l]/\SqL X.K H l (ns.map V.int)/\Q (.int ns.sum) H):=by
 intro pins s σ H xs us Q I r h;obtain⟨l,ns,rfl,hl,q⟩:=h;obtain⟨u,rfl,ru⟩:=r.one;cases ru;obtain⟨its,rv,pl,hz⟩:=I.list hl;obtain⟨ps,hx,e1⟩:=rH (intsAre_of rv);refine sum_intListG (I.ok.hd hc) (hx▸pl.isList) λh' tk t' hk=>?_
 have e2:preSum (numAt ps) ps.size=ns.sum:=by
  rw[preSum_eq,e1];exact congrArg List.sum (List.take_of_length_le (by simp))
 rw[e2];exact⟨.int _,H,I.kept hk,⟨_,rfl⟩,q⟩
end
end L2
namespace EV
open PySem PySem.Spec PySem.P PyProof.Rows L2
theorem insI_perm(i:Int):∀l,(insI i l).Perm (i::l)
 | []=>.refl _
 |j::r=>by
  unfold insI;split
  ·exact .refl _
  ·exact((insI_perm i r).cons j).trans (.swap ..)
theorem sortI_perm:∀l,(sortI l).Perm l
 | []=>.refl _
 |i::r=>(insI_perm i _).trans ((sortI_perm r).cons i)
theorem nJ(i:Int):∀{l:List Int},l.Pairwise (·<=·)->(insI i l).Pairwise (·<=·)
 | [],_=>by simp[insI]
 |j::r,h=>by
  unfold insI;obtain⟨h1,h2⟩:=List.pairwise_cons.mp h;split
  ·rename_i hij
   refine List.pairwise_cons.mpr ⟨λx hx=>?_,h⟩;rcases aF.mp hx with rfl|hx
   ·exact hij
   ·exact Int.le_trans hij (h1 x hx)
  ·rename_i hij
   refine List.pairwise_cons.mpr ⟨λx hx=>?_,nJ i h2⟩;rcases aF.mp ((insI_perm i r).mem_iff.mp hx)with rfl|hx
   ·lia
   ·exact h1 x hx
theorem k5:∀l:List Int,(sortI l).Pairwise (·<=·)
 | []=>.nil
 |i::r=>nJ i (k5 r)
theorem jc{l m:List Int}(h1:m.Perm l)(h2:m.Pairwise (·<=·)):m=sortI l:=PySem.W.ksm_same (h1.trans (sortI_perm l).symm) h2 (k5 l)
theorem j6(p:Int×Int):∀l,(fG p l).Perm (p::l)
 | []=>.refl _
 |j::r=>by
  unfold fG;split
  ·exact((j6 p r).cons j).trans (.swap ..)
  ·exact .refl _
theorem f_:∀l,(zw l).Perm l
 | []=>.refl _
 |i::r=>(j6 i _).trans ((f_ r).cons i)
theorem lu{a b:Int×Int}:ltP a b=true↔a.1<b.1\/(a.1=b.1/\a.2<b.2):=by
 unfold ltP;by_cases h:a.1=b.1
 ·simp[h]
 ·simp[h]
theorem kO{a b:Int×Int}:ltP a b=false↔b.1<a.1\/(a.1=b.1/\b.2<=a.2):=by
 rw[<-dm,lu];lia
theorem lT(p:Int×Int):∀{l:List (Int×Int)},l.Pairwise (λa b=>ltP b a=false)->(fG p l).Pairwise (λa b=>ltP b a=false)
 | [],_=>by simp[fG]
 |j::r,h=>by
  unfold fG;obtain⟨h1,h2⟩:=List.pairwise_cons.mp h;split
  ·rename_i hij
   rw[lu]at hij;refine List.pairwise_cons.mpr ⟨λx hx=>?_,lT p h2⟩;rcases aF.mp ((j6 p r).mem_iff.mp hx)with rfl|hx
   ·rw[kO];lia
   ·exact h1 x hx
  ·rename_i hij
   have hij':ltP j p=false:=by simpa using hij
   refine List.pairwise_cons.mpr ⟨λx hx=>?_,h⟩;rcases aF.mp hx with rfl|hx
   ·exact hij'
   ·have:=h1 x hx;rw[kO]at this hij' ⊢;lia
theorem jE:∀l:List (Int×Int),(zw l).Pairwise (λa b=>ltP b a=false)
 | []=>.nil
 |i::r=>lT i (jE r)
theorem lI{l m:List (Int×Int)}(h1:m.Perm l)(h2:m.Pairwise (λa b=>ltP b a=false)):m=zw l:=
 (h1.trans (f_ l).symm).eq_of_pairwise (λa b _ _ z1 z2=>by rw[kO]at z1 z2;exact Prod.ext (by lia) (by lia)) h2 (jE l)
theorem map_getD{α:Type}(d:α)(l:List α):(a9 l.length).map (λi=>l.getD i d)=l:=by
 refine List.ext_getElem (by simp) λi h1 h2=>?_
 simp at h1;simp[h1]
theorem Af(ks:List (Int×Int)):(cF ks).map (λi=>ks.getD i (0,0))=zw ks:=by
 obtain⟨h1,h2⟩:=AR ks;refine lI ?_ h2;have:=h1.map λi=>ks.getD i (0,0)
 rw[map_getD]at this;exact this
section
variable{X:Cx}{g:Gc}
theorem ze.pairs{H:Hp}{ds:List D}:∀{vs:List V}{ps:List (Int×Int)},ze g H ds vs->pairs? ds=some ps->ds=ps.map pairD/\∃as:List Addr,vs=as.map V.ref/\as.length=ps.length/\∀(i:Nat) a p,as[i]? = some a->ps[i]? = some p->SqT g.K H a [.int p.1,.int p.2]:=by
 induction ds with
 |nil=>intro vs ps h e;cases h;cases e;exact⟨rfl,[],rfl,rfl,λi a p h=>by cases h⟩
 |cons d ds ih=>
  intro vs ps h e;have no:∀{P:Prop},pairs? (d::ds)=none->P:=λz=>by rw[z]at e;cases e
  cases h with
  |cons h t=>cases d with
   |tup xs=>cases xs with
    |nil=>exact no rfl
    |cons a xs=>cases a with
     |int x=>cases xs with
      |nil=>exact no rfl
      |cons b xs=>cases b with
       |int y=>cases xs with
        |cons _ _=>exact no rfl
        |nil=>
         obtain⟨ms,e1,rfl⟩:=bq.mp (show (pairs? ds).map ((x,y) :: ·)=some ps from e);obtain⟨h1,as,h2,h3,h4⟩:=ih t e1;cases h with
         | @tup a xs _ q r=>
          obtain⟨rfl,_⟩:=r.ints (ns:=[x,y]) rfl;refine⟨by rw[h1];rfl,a::as,by rw[h2];rfl,congrArg (· + 1) h3,λi b p hb hp=>?_⟩;cases i with
          |zero=>cases hb;cases hp;exact q
          |succ i=>exact h4 i b p hb hp
       |_=>exact no rfl
     |_=>exact no rfl
   |_=>exact no rfl
theorem yS(hK:X.K=g.K)(hu:X.A.units+64<cLine)(hc:X.calm=true):zl X (.builtin "sorted") (rB1 g .sorted):=dF (((A5.or uB).or xC).or (xi hc)) λS ds d vs H Q hs rs h q=>by
 obtain⟨x,rfl,h'⟩:=fu (λ_ _=>rfl) h;by_cases htu:∃xs,x=.tup xs
 ·obtain⟨xs,rfl⟩:=htu;have h':(if xs.length<64 then cZ (ints? xs) λns=>.ok (.lst ((sortI ns).map D.int))else .no)=R.ok d:=h';split at h'
  ·rename_i hz
   obtain⟨ns,e,h2⟩:=iA h';cases h2;cases rs with
   |cons r rs=>
    cases rs;obtain⟨a,us,rfl,h1,r1⟩:=r.tup;obtain⟨rfl,rfl⟩:=r1.ints e;refine .inl (.inr ⟨a,ns,rfl,by rw[hK];exact h1,by simpa using hz,λp ms hp pm pw=>?_⟩);rw[jc pm pw];exact q _ _ (zp hp) (dZ hs hp (ze.ofInts _)) λ_=>eA (qe.refl _) hp (ze.ofInts _)
  ·cases h'
 by_cases hdi:∃kvs,x=.dic kvs
 ·obtain⟨kvs,rfl⟩:=hdi;have h':(if kvs.length<64 then R.ok (D.lst ((sortI (kvs.map (·.1))).map D.int))else .no)=R.ok d:=h';split at h'
  ·rename_i hz
   cases h';cases rs with
   |cons r rs=>
    cases rs;obtain⟨a,rfl,h1⟩:=r.dic;refine .inr ⟨a,kvs,rfl,h1,hz,λp ms hp pm pw=>?_⟩;rw[jc pm pw];exact q _ _ (zp hp) (dZ hs hp (ze.ofInts _)) λ_=>eA (qe.refl _) hp (ze.ofInts _)
  ·cases h'
 refine .inl (.inl ?_);have h':(dY x λxs=>if xs.length<64 then (match ints? xs with
   |some ns=>.ok (.lst ((sortI ns).map D.int))
   |none=>match pairs? xs with
    |some ps=>.ok (.lst ((zw ps).map pairD))
    |none=>dX xs)else dX xs)=.ok d:=by cases x<;>first|exact absurd ⟨_,rfl⟩ htu|exact absurd ⟨_,rfl⟩ hdi|exact h'
 obtain⟨xs,rfl,h2⟩:=iB h'
 replace h:=h2
 cases rs with
 |cons r rs=>
  cases rs;obtain⟨a,us,rfl,h1,r1⟩:=r.lst;have big:dX xs=.ok d->False:=λh=>by cases h
  by_cases hz:xs.length<64
  ·rw[if_pos hz]at h;cases e:ints? xs with
   |some ns=>
    rw[e]at h;cases h;obtain⟨rfl,rfl⟩:=r1.ints e;refine .inl ⟨a,ns,rfl,by rw[hK];exact h1,by simpa using hz,λp ms hp pm pw=>?_⟩;rw[jc pm pw];exact q _ _ (zp hp) (dZ hs hp (ze.ofInts _)) λ_=>eA (qe.refl _) hp (ze.ofInts _)
   |none=>
    rw[e]at h;cases e2:pairs? xs with
    |none=>rw[e2]at h;exact(big h).elim
    |some ps=>
     rw[e2]at h;cases h;obtain⟨rfl,as,rfl,hl,hp⟩:=r1.pairs e2;refine .inr ⟨a,as,ps,rfl,by rw[hK];exact h1,hl.symm,by rw[aD]at hz;lia,λi p k h1 h2=>by rw[hK];exact zI zM (hp i p k h1 h2),λp hn=>?_⟩;have hR:ze g (hid H S) ((zw ps).map pairD) ((cF ps).map λi=>(as.map V.ref).getD i .non):=by
      rw[<-Af,bz];have:∀l:List Nat,(∀i∈l,i<ps.length)->ze g (hid H S) (l.map (pairD∘λi=>ps.getD i (0,0))) (l.map λi=>(as.map V.ref).getD i .non):=by
       intro l
       induction l with
       |nil=>intro _;exact .nil
       |cons i l ih=>
        intro hl';have hi:=hl' i aH;refine .cons ?_ (ih λj hj=>hl' j (aI _ hj));obtain⟨v,e1,e2⟩:=r1.get (i:=i) (d:=pairD (ps.getD i (0,0))) (by simp[hi]);have e3:(as.map V.ref).getD i .non=v:=by rw[List.getD_eq_getElem?_getD,e1];rfl
        show Rep g (hid H S) (pairD (ps.getD i (0,0))) ((as.map V.ref).getD i .non);rw[e3];exact e2
      exact this _ λi hi=>lE i hi
     exact q _ _ (zp hn) (dZ hs hn hR) λ_=>eA (qe.refl _) hn hR
  ·rw[if_neg hz]at h;exact(big h).elim
theorem mM(hK:X.K=g.K)(hc:X.calm=true)(mx:Bool):zl X (.builtin (if mx then "max" else "min")) (rB1 g (if mx then .max else .min)):=by
 have two:∀{S:Sh}{H:Hp}{x y:D}{vs:List V}{i j:Int},x=.int i->y=.int j->eG g H S [x,y] vs->vs=[.int i,.int j]:=by
  intro S H x y vs i j hx hy rs;subst hx hy;cases rs with
  |cons r1 rs=>
   cases rs with
   |cons r2 rs=>cases rs;rw[r1.int,r2.int]
 have inv:∀{b:B1}{ds:List D}{d:D},b1 b ds=.ok d->(∃x,ds=[x]/\b11 b x=.ok d)\/∃x y,ds=[x,y]/\b12 b x y=.ok d:=by
  intro b ds d h
  match ds,h with
  | [x],h=>exact .inl ⟨x,rfl,h⟩
  | [x,y],h=>exact .inr ⟨x,y,rfl,h⟩
  | [],h=>cases h
  |_::_::_::_,h=>cases h
 cases mx
 ·exact dF (CU hc) λS ds d vs H Q hs rs h q=>by
   rcases inv h with ⟨x,rfl,h'⟩|⟨x,y,rfl,h'⟩
   ·cases h'
   ·obtain⟨i,j,hx,hy,h'⟩:=oZ h';cases h';exact⟨i,j,two hx hy rs,q _ _ (qe.refl _) (.int _) (by simp)⟩
 ·exact dF (vA hc) λS ds d vs H Q hs rs h q=>by
   rcases inv h with ⟨x,rfl,h'⟩|⟨x,y,rfl,h'⟩
   ·cases h'
   ·obtain⟨i,j,hx,hy,h'⟩:=oZ h';cases h';exact⟨i,j,two hx hy rs,q _ _ (qe.refl _) (.int _) (by simp)⟩
theorem jI{S:Sh}{H:Hp}{vs:List V}{i:Int}(rs:eG g H S [.int i] vs):vs=[.int i]:=by
 cases rs with
 |cons r1 rs=>cases rs;rw[r1.int]
theorem mY{S:Sh}{H:Hp}{vs:List V}{i:Bool}(rs:eG g H S [.bl i] vs):vs=[.bl i]:=by
 cases rs with
 |cons r1 rs=>cases rs;rw[r1.bl]
theorem s9:zl X (.builtin "abs") (rB1 g .abs):=dF uZ λS ds d vs H Q hs rs h q=>by
 obtain⟨x,rfl,h'⟩:=fu (λ_ _=>rfl) h;rcases jO h' with ⟨i,rfl,h'⟩|⟨i,rfl,h'⟩
 ·cases h';exact⟨i,jI rs,q _ _ (qe.refl _) (.int _) (by simp)⟩
 ·cases h'
theorem t8:zl X (.type "int") (rB1 g .int):=dF yh λS ds d vs H Q hs rs h q=>by
 obtain⟨x,rfl,h'⟩:=fu (λ_ _=>rfl) h;rcases jO h' with ⟨i,rfl,h'⟩|⟨i,rfl,h'⟩
 ·cases h';exact .inl ⟨i,jI rs,q _ _ (qe.refl _) (.int _) (by simp)⟩
 ·cases h';exact .inr ⟨i,mY rs,q _ _ (qe.refl _) (.int _) (by simp)⟩
theorem t9:zl X (.type "bool") (rB1 g .bool):=dF wR λS ds d vs H Q hs rs h q=>by
 obtain⟨x,rfl,h'⟩:=fu (λ_ _=>rfl) h;rcases jO h' with ⟨i,rfl,h'⟩|⟨i,rfl,h'⟩
 ·cases h';exact .inl ⟨i,jI rs,q _ _ (qe.refl _) (.bl _) (by simp)⟩
 ·cases h';exact .inr ⟨i,mY rs,q _ _ (qe.refl _) (.bl _) (by simp)⟩
theorem pW(hK:X.K=g.K)(hc:X.calm=true):zl X (.builtin "sum") (rB1 g .sum):=dF (vV hc) λS ds d vs H Q hs rs h q=>by
 obtain⟨x,rfl,h'⟩:=fu (λ_ _=>rfl) h;obtain⟨xs,rfl,h'⟩:=iB h';obtain⟨ns,e,h'⟩:=iA h';cases h';cases rs with
 |cons r rs=>
  cases rs;obtain⟨a,us,rfl,h1,r1⟩:=r.lst;obtain⟨rfl,rfl⟩:=r1.ints e;exact⟨a,ns,rfl,by rw[hK];exact h1,q _ _ (qe.refl _) (.int _) (by simp)⟩
theorem oG(hK:X.K=g.K)(hu:X.A.units+64<cLine):∀b,(X.calm=true\/b=.len\/b=.abs\/b=.tuple\/b=.list\/b=.int\/b=.bool)->zl X (b1V b) (rB1 g b)
 | .len,_=>yl hK
 | .tuple,_=>Bs hK
 | .list,_=>p5 hK
 | .sorted,h=>yS hK hu (by simpa using h)
 | .all,h=>lY hK (by simpa using h) true
 | .any,h=>lY hK (by simpa using h) false
 | .sum,h=>pW hK (by simpa using h)
 | .min,h=>mM hK (by simpa using h) false
 | .max,h=>mM hK (by simpa using h) true
 | .abs,_=>s9
 | .int,_=>t8
 | .bool,_=>t9
theorem oW{H:Hp}{ds:List D}{vs:List V}(r:ze g H ds vs):ds.isEmpty=vs.isEmpty:=by cases r<;>rfl
theorem BP(hK:X.K=g.K){S:Sh}{H:Hp}{d:D}{v:V}{b:Bool}(r:zJ g H S d v)(e:truth d=.ok b):kF X.K v H b:=by
 cases d with
 |non=>cases r.rep;cases e;exact rfl
 |bl c=>cases r.rep;cases e;exact rfl
 |int i=>cases r.rep;cases e;exact rfl
 |tup xs=>
  cases e;obtain⟨a,vs,rfl,h1,r1⟩:=r.tup;exact .inr (.inl ⟨vs,by rw[hK];exact h1,by rw[oW r1]⟩)
 |lst xs=>
  cases e;obtain⟨a,vs,rfl,h1,r1⟩:=r.lst;exact .inl ⟨vs,by rw[hK];exact h1,by rw[oW r1]⟩
 |_=>cases e
theorem Au(hK:X.K=g.K):zl X (.builtin "isinstance") (λxs H Q=>∃S d v n t,xs=[v,.ty n]/\zJ g H S d v/\tyD d=some t/\n∈["int","bool","str","list","tuple"]/\Q (.bl (fz t n)) H):=by
 intro pins s σ H xs us Q I r h;obtain⟨S,d,v,n,t,rfl,rd,ht,hn,q⟩:=h;obtain⟨u,cu,rfl,rx,rc⟩:=r.two;cases rc;have fin:∀tk,EP X pins σ Q (.bool (fz t n)) {s with toks:=tk}:=λtk=>⟨.bl _,H,I.tok tk,rfl,q⟩
 have kb:t∈["NoneType","bool","int","str","list","tuple","dict"]->bL X.K (.type t) (.type n)=some (fz t n):=λh=>uC h hn
 cases d with
 |non=>cases ht;cases rd.rep;exact fV I rx .non (kb (by simp)) fin
 |bl c=>cases ht;cases rd.rep;exact fV I rx (.bl c) (kb (by simp)) fin
 |int i=>cases ht;cases rd.rep;exact fV I rx (.int i) (kb (by simp)) fin
 |str i=>cases ht;cases rd.rep;exact fV I rx (.str i) (kb (by simp)) fin
 |tup xs=>
  cases ht;obtain⟨a,vs,rfl,h1,_⟩:=rd.tup;cases rx;obtain⟨its,_,⟨o,e1,e2,_⟩,_⟩:=I.tuple (by rw[hK];exact h1);exact bE PySem.W.kitx_tuple I.kIn ⟨o,e1,e2⟩ (kb (by simp)) (λz=>nomatch z) fin
 |lst xs=>
  cases ht;obtain⟨a,vs,rfl,h1,_⟩:=rd.lst;cases rx;obtain⟨its,_,pl,_⟩:=I.list (by rw[hK];exact h1);obtain⟨o,e1,e2,_⟩:=pl.isList;exact bE PySem.W.kitx_list I.kIn ⟨o,e1,e2⟩ (kb (by simp)) (λz=>nomatch z) fin
 |dic=>
  cases ht;cases rd.rep with
  |dic h1=>exact fV I rx (.dK h1) (kb (by simp)) fin
 |_=>cases ht
end
theorem x6{o:O2}{a b:Int}{c:Str}:opI o a b≠.ex c:=by
 cases o<;>simp only[opI]<;>(try split)<;>intro h<;>cases h
theorem xR{o:O2}{a b:D}{c:Str}:op2 o a b≠.ex c:=by
 unfold op2;split
 ·exact x6
 all_goals ((try split)<;>intro h<;>cases h)
theorem vG{n:Bool}{a b:D}{c:Str}:isB n a b≠.ex c:=by
 unfold isB;split<;>intro h<;>cases h
theorem lg{a b:D}{c:Str}:cN a b≠.ex c:=by
 unfold cN;split<;>(try split)<;>intro h<;>cases h
theorem wC{a b:D}{c:Str}:((cN a b).bind λr=>R.ok !r)≠.ex c:=by
 intro h;cases e:cN a b with
 |ok r=>rw[e]at h;cases h
 |ex z=>exact lg e
 |no=>rw[e]at h;cases h
theorem BJ{o:C2}{a b:D}{c:Str}:qh o a b≠.ex c:=by
 unfold qh;split<;>(try split)<;>(try split)<;>intro h<;>first|(cases h;done)|exact vG h|exact lg h|exact wC h
theorem A0{a:D}{c:Str}:truth a≠.ex c:=by
 unfold truth;split<;>intro h<;>cases h
theorem uF{a b:D}{c:Str}:ixD a b≠.ex c:=by
 unfold ixD;split<;>(try split)<;>intro h<;>cases h
theorem Cg{a:D}{l h:Option Int}{c:Str}:slD a l h≠.ex c:=by
 unfold slD;split<;>(try split)<;>intro h<;>cases h
theorem iP{x:D}{k:List D->R D}{c:Str}(h:∀xs,k xs≠.ex c):dY x k≠.ex c:=by
 cases x with
 |lst xs=>exact h xs
 |_=>intro z;cases z
theorem jS{x:D}{f:Int->R D}{q:Bool->R D}{c:Str}(h:∀i,f i≠.ex c)(h':∀i,q i≠.ex c):ibR x f q≠.ex c:=by
 cases x with
 |int i=>exact h i
 |bl i=>exact h' i
 |_=>intro z;cases z
theorem mw{x y:D}{k:Int->Int->R D}{c:Str}(h:∀i j,k i j≠.ex c):iiR x y k≠.ex c:=by
 cases x with
 |int i=>
  cases y with
  |int j=>exact h i j
  |_=>intro z;cases z
 |_=>intro z;cases z
theorem ft{α β:Type}{o:Option α}{k:α->R β}{c:Str}(h:∀a,k a≠.ex c):cZ o k≠.ex c:=by
 cases o with
 |some a=>exact h a
 |none=>intro z;cases z
theorem cw{α:Type}{a:α}{c:Str}:R.ok a≠.ex c:=by intro z;cases z
theorem d_{α:Type}{c:Str}:(R.no:R α)≠.ex c:=by intro z;cases z
theorem og{xs:List D}{c:Str}:dX xs≠.ex c:=d_
theorem p6{b:B1}{d:D}{c:Str}:b11 b d≠.ex c:=by
 cases b with
 |len=>exact ft λ_=>cw
 |tuple=>exact ft λ_=>cw
 |list=>exact ft λ_=>cw
 |all=>exact iP λ_=>ft λ_=>cw
 |any=>exact iP λ_=>ft λ_=>cw
 |sorted=>
  by_cases h:∃xs,d=.tup xs
  ·obtain⟨xs,rfl⟩:=h;show (if xs.length<64 then cZ (ints? xs) λns=>R.ok (D.lst ((sortI ns).map D.int))else R.no)≠R.ex c;split
   ·exact ft λ_=>cw
   ·exact d_
  by_cases h':∃kvs,d=.dic kvs
  ·obtain⟨kvs,rfl⟩:=h';show (if kvs.length<64 then R.ok (D.lst ((sortI (kvs.map (·.1))).map D.int))else R.no)≠R.ex c;split
   ·exact cw
   ·exact d_
  have e:b11 .sorted d=dY d λxs=>if xs.length<64 then (match ints? xs with
    |some ns=>.ok (.lst ((sortI ns).map D.int))
    |none=>match pairs? xs with
     |some ps=>.ok (.lst ((zw ps).map pairD))
     |none=>dX xs)else dX xs:=by cases d<;>first|exact absurd ⟨_,rfl⟩ h|exact absurd ⟨_,rfl⟩ h'|rfl
  rw[e];refine iP λ_=>?_
  split
  ·split
   ·exact cw
   ·split
    ·exact cw
    ·exact og
  ·exact og
 |abs=>exact jS (λ_=>cw) λ_=>d_
 |int=>exact jS (λ_=>cw) λ_=>cw
 |bool=>exact jS (λ_=>cw) λ_=>cw
 |sum=>exact iP λ_=>ft λ_=>cw
 |min=>exact d_
 |max=>exact d_
theorem sS{b:B1}{ds:List D}{c:Str}:b1 b ds≠.ex c:=by
 match ds with
 | []=>exact d_
 | [_]=>exact p6
 | [x,y]=>
  cases b with
  |min=>exact mw λ_ _=>cw
  |max=>exact mw λ_ _=>cw
  |_=>exact d_
 |_::_::_::_=>exact d_
structure a_(g:Gc)(c:Cc)(e:E)(S:Sh)(H:Hp)(d:D)(v:V)(H':Hp):Prop where
 same:qe H H'
 rb:zJ g H' S d v
 st:esc e=true->Rep g (hid H' S) d v
 fr:fresh c e=true->Fr g H S H' d v
structure SE(g:Gc)(c:Cc)(τ:Env)(σ:L2.St)(H:Hp)(S:Sh):Prop where
 len:τ.length=σ.length
 val:∀(i:Nat) (d:D),τ[i]? = some (some d)->∃v,σ[i]? = some (some v)/\zJ g H S d v/\∀x,c.N[i]? = some x->c.own.contains x=false->Rep g (hid H S) d v
 sub:Sub S H
theorem SE.up{g:Gc}{c:Cc}{τ:Env}{σ:L2.St}{H H':Hp}{S:Sh}(s:SE g c τ σ H S)(e:qe H H'):SE g c τ σ H' S:=
 ⟨s.len,λi d h=>let ⟨v,h1,h2,h3⟩:=s.val i d h;⟨v,h1,h2.mono e,λx a b=>(h3 x a b).mono (qi e)⟩,s.sub.same e⟩
noncomputable def tR{α:Type}(g:Gc)(E:XK)(H:Hp)(r:R α)(k:α->Prop):Prop:=match r with
 | .ok a=>k a
 | .ex c=>∀H' C,qe H H'->g.clA c=some C->E (.ref C) none H'
 | .no=>False
theorem tR.up{α:Type}{g:Gc}{E:XK}{H H':Hp}{r:R α}{k:α->Prop}(h:tR g E H r k)(e:qe H H'):tR g E H' r k:=by
 cases r with
 |ok a=>exact h
 |ex c=>exact λH2 C e2 hc=>h H2 C (e.trans e2) hc
 |no=>exact h
theorem tR.imp{α:Type}{g:Gc}{E:XK}{H:Hp}{r:R α}{k k':α->Prop}(h:tR g E H r k)(i:∀a,k a->k' a):tR g E H r k':=by
 cases r with
 |ok a=>exact i a h
 |ex c=>exact h
 |no=>exact h
section
variable(w:W)(g:Gc)(c:Cc)(E:XK)
noncomputable def tE(e:EV.E):TE:=λσ H Q=>∃τ S,SE g c τ σ H S/\tR g E H (evE w e τ) λd=>∀v H',a_ g c e S H d v H'->Q v H'
noncomputable def tT(t:T):TT:=λσ H Q=>∃τ S,SE g c τ σ H S/\tR g E H (evT w t τ) λb=>∀H',qe H H'->Q b H'
noncomputable def tA(es:Es):TA:=λσ H Q=>∃τ S,SE g c τ σ H S/\tR g E H (bB w es τ) λds=>∀vs H',qe H H'->eG g H' S ds vs->(c0 es=true->ze g (hid H' S) ds vs)->Q vs H'
noncomputable def tOe(o:OE):TO:=λσ H Q=>∃τ S,SE g c τ σ H S/\tR g E H (evO w o τ) λi=>∀H',qe H H'->Q i H'
noncomputable def Goes(g:Gc)(J:L2.It)(ds:List D)(H:Hp)(S:Sh):Prop:=
 (∀i,ds.length<=i->J.stop i H)/\∀i d,ds[i]? = some d->J.go i H/\∀x H',J.yld i H x H'->qe H H'/\Rep g (hid H' S) d x
noncomputable def tIt(it:It):TI:=λσ H R=>∃τ S,SE g c τ σ H S/\tR g E H (evI w it τ) λds=>∀J H',qe H H' ->
 (∀H2 S2,qe H' H2->qe (hid H' S) (hid H2 S2)->Sub S2 H2->Goes g J ds H2 S2)->(owned it=false->∀H2 S2,qe (hid H' S) (hid H2 S2)->Sub S2 H2->Goes g J ds H2 S2)->R J H'
end
theorem PE.imp{X:Cx}{e:Expr}{t t':TE}(h:PE X e t)(i:∀σ H Q,t' σ H Q->t σ H Q):PE X e t':=λpins s σ H Q I q=>h pins s σ H Q I (i _ _ _ q)
theorem PT.imp{X:Cx}{e:Expr}{t t':TT}(h:PT X e t)(i:∀σ H Q,t' σ H Q->t σ H Q):PT X e t':=λpins s σ H Q I q=>h pins s σ H Q I (i _ _ _ q)
theorem PW.imp{X:Cx}{e:Expr}{t t':TT}(h:PW X e t)(i:∀σ H Q,t' σ H Q->t σ H Q):PW X e t':=λwh pins s σ H Q I q=>h wh pins s σ H Q I (i _ _ _ q)
theorem PA.imp{X:Cx}{e:List Expr}{t t':TA}(h:PA X e t)(i:∀σ H Q,t' σ H Q->t σ H Q):PA X e t':=λpos pins s σ H Q I q=>h pos pins s σ H Q I (i _ _ _ q)
theorem PO.imp{X:Cx}{e:Option Expr}{t t':TO}(h:PO X e t)(i:∀σ H Q,t' σ H Q->t σ H Q):PO X e t':=λpins s σ H Q I q=>h pins s σ H Q I (i _ _ _ q)
theorem PI.imp{X:Cx}{tg e:Expr}{t t':TI}(h:PI X tg e t)(i:∀σ H Q,t' σ H Q->t σ H Q):PI X tg e t':=λpins s σ H Q I q=>h pins s σ H Q I (i _ _ _ q)
theorem PS.imp{X:Cx}{e:Stmt}{t t':TS}(h:PS X e t)(i:∀D σ H,t' D σ H->t D σ H):PS X e t':=λpins s σ H Q I q=>h pins s σ H Q I (i _ _ _ q)
theorem PSs.imp{X:Cx}{e:List Stmt}{t t':TS}(h:PSs X e t)(i:∀D σ H,t' D σ H->t D σ H):PSs X e t':=λpins s σ H Q I q=>h pins s σ H Q I (i _ _ _ q)
section
variable{w:W}{g:Gc}{c:Cc}{E:XK}{τ:Env}{σ:L2.St}{H H0:Hp}{S:Sh}
theorem zk{α:Type}{e:EV.E}{f:D->R α}{P:α->Prop}{Q:VK}(se:SE g c τ σ H S)(h:tR g E H ((evE w e τ).bind f) P)(k:∀d v H',evE w e τ=.ok d->a_ g c e S H d v H'->tR g E H' (f d) P->Q v H'):tE w g c E e σ H Q:=by
 refine⟨τ,S,se,?_⟩;cases q:evE w e τ with
 |ok d=>rw[q]at h;exact λv H' p=>k d v H' q p (tR.up h p.same)
 |ex x=>rw[q]at h;exact h
 |no=>rw[q]at h;exact h
theorem i7{α:Type}{t:T}{f:Bool->R α}{P:α->Prop}{Q:Bool->Hp->Prop}(se:SE g c τ σ H S)(h:tR g E H ((evT w t τ).bind f) P)(k:∀b H',evT w t τ=.ok b->qe H H'->tR g E H' (f b) P->Q b H'):tT w g c E t σ H Q:=by
 refine⟨τ,S,se,?_⟩;cases q:evT w t τ with
 |ok d=>rw[q]at h;exact λH' p=>k d H' q p (tR.up h p)
 |ex x=>rw[q]at h;exact h
 |no=>rw[q]at h;exact h
theorem fH{α:Type}{es:Es}{f:List D->R α}{P:α->Prop}{Q:List V->Hp->Prop}(se:SE g c τ σ H S)(h:tR g E H ((bB w es τ).bind f) P)
  (k:∀ds vs H',bB w es τ=.ok ds->qe H H'->eG g H' S ds vs->(c0 es=true->ze g (hid H' S) ds vs)->tR g E H' (f ds) P->Q vs H'):tA w g c E es σ H Q:=by
 refine⟨τ,S,se,?_⟩;cases q:bB w es τ with
 |ok d=>rw[q]at h;exact λvs H' p r r'=>k d vs H' q p r r' (tR.up h p)
 |ex x=>rw[q]at h;exact h
 |no=>rw[q]at h;exact h
theorem lU{α:Type}{o:OE}{f:Option Int->R α}{P:α->Prop}{Q:Option Int->Hp->Prop}(se:SE g c τ σ H S)(h:tR g E H ((evO w o τ).bind f) P)(k:∀b H',evO w o τ=.ok b->qe H H'->tR g E H' (f b) P->Q b H'):tOe w g c E o σ H Q:=by
 refine⟨τ,S,se,?_⟩;cases q:evO w o τ with
 |ok d=>rw[q]at h;exact λH' p=>k d H' q p (tR.up h p)
 |ex x=>rw[q]at h;exact h
 |no=>rw[q]at h;exact h
theorem a_.of{e:EV.E}{d:D}{v:V}{H':Hp}(s:qe H H')(r:Rep g (hid H' S) d v)(f:fresh c e=false):a_ g c e S H d v H':=⟨s,.inl r,λ_=>r,λz=>by rw[f]at z;cases z⟩
theorem a_.new{e:EV.E}{d:D}{v:V}{H':Hp}(s:qe H H')(r:Rep g (hid H' S) d v)(f:Fr g H S H' d v):a_ g c e S H d v H':=⟨s,.inl r,λ_=>r,λ_=>f⟩
theorem Fr.low{d:D}{v:V}{H1 H':Hp}(f:Fr g H1 S H' d v)(e:qe H H1):Fr g H S H' d v:=by
 obtain⟨a,o,h1,h3,h4,h5⟩:=f;exact⟨a,o,h1,e.free h3,h4,h5⟩
end
noncomputable def b1N:B1->Str
 | .len=>"len"
 | .tuple=>"tuple"
 | .list=>"list"
 | .sorted=>"sorted"
 | .all=>"all"
 | .any=>"any"
 | .sum=>"sum"
 | .min=>"min"
 | .max=>"max"
 | .abs=>"abs"
 | .int=>"int"
 | .bool=>"bool"
theorem xx:∀b,bG (b1N b)=some (b1V b)
 | .len | .tuple | .list | .sorted | .all | .any | .sum | .min | .max | .abs | .int | .bool=>by decide +kernel
noncomputable def spF(w:W)(g:Gc)(x:Str)(fr:Bool):Sp:=λvs H Q E=>∃S ds,Sub S H/\ze g (hid H S) ds vs /\
 tR g E H (w.call x ds) λd=>∀v H',qe H H'->Rep g (hid H' S) d v->(fr=true->Fr g H S H' d v)->Q v H'
structure iR(w:W)(g:Gc)(P:aq)(wl:ak)(mg:Str->Option ae)(base:Heap)(A:au)(calm:Bool)(x:Str)(f:Addr)(fr:Bool):Prop where
 at_:mg x=some (.ref f)
 kp:cA g.K (.ref f)=true
 fn:∃k fd ps,Binds g.K fd ps []/\((calm=true/\eO P wl g.K mg base (CX1 P wl) k f fd ps (spF w g x fr)/\ck k A)\/(calm=false/\kc P wl g.K mg base (CX1 P wl) k f fd ps (spF w g x fr)/\gM k A))
noncomputable def GM(w:W)(g:Gc)(P:aq)(wl:ak)(mg:Str->Option ae)(base:Heap)(A:au)(calm:Bool)(x:Str):GK->Prop
 | .fn fr=>∃f,g.fnA x=some f/\iR w g P wl mg base A calm x f fr
 | .val=>∃u v d,mg x=some u/\RelV v u/\w.glb x=some d/\∀H,Rep g H d v
 | .bi b=>mg x=none/\x=b1N b/\∃id,b1V b=.builtin id
 | .rng=>mg x=none/\x = "range"
 | .enum=>mg x=none/\x = "enumerate"
 | .zip=>mg x=none/\x = "zip"
 | .isi=>mg x=none/\x = "isinstance"
 | .ty n b=>mg x=none/\bG x=some (.type n)/\(n∈["int","bool","str","list","tuple"]\/n = "ValueError")/\∀b',b=some b'->x=b1N b'/\b1V b'=.type n
 | .exc=>∃C,mg x=some (.ref C)/\g.clA x=some C
 | .exk=>∃C,mg x=some (.ref C)/\g.clA x=some C
 | .set=>mg x=none/\bG x=some (.type "set")
 | .rvd=>mg x=none/\x = "reversed"
structure XO(w:W)(g:Gc)(c:Cc)(E:XK)(X:Cx):Prop where
 K:X.K=g.K
 nm:X.env.scope.names=c.nm
 N:X.N=c.N
 nd:c.N.Nodup
 calm:c.calm=true->X.calm=true
 units:X.A.units+64<cLine
 fn:∀x,(c.fnc=true\/c.oc.contains x=true)->X.fn x=true
 kind:X.env.scope.kind=.function
 pass:Passes (CX1 X.prog X.w) X E
 gok:∀x k,c.G.lookup x=some k->GM w g X.prog X.w X.mg X.base X.A X.calm x k
 fns:X.calm=true->∀x f,g.fnA x=some f->∃fr,iR w g X.prog X.w X.mg X.base X.A X.calm x f fr
 -- what isinstance says of a caught error
 sub:∀k cl b,w.sub k cl=some b->∃C cv,g.clA k=some C/\dD g.K C/\bL g.K (.ref C) cv=some b/\match cl with
  | .ty n=>n = "ValueError"/\cv=.type n
  | .ex x=>∃D,g.clA x=some D/\cv=.ref D
section
variable{w:W}{g:Gc}{c:Cc}{E:XK}{X:Cx}
theorem zy{x:Str}{i:Nat}(h:loc c x=some i):c.N[i]? = some x/\(c.nm.lookup x=some .local\/c.nm.lookup x=some .cell\/c.nm.lookup x=some .free)/\(x==("__debug__" : Str))=false/\(x==("__classdict__" : Str))=false:=by
 unfold loc at h;split at h
 ·cases h
 ·rename_i hd
  have hd':(x==("__debug__" : Str))=false/\(x==("__classdict__" : Str))=false:=by simpa using hd
  have fin:∀{j},(if c.N[j]? = some x then some j else none)=some i->c.N[i]? = some x:=λ{j} z=>by
   split at z
   ·cases z;assumption
   ·cases z
  split at h
  ·rename_i q;exact⟨fin h,.inl q,hd'⟩
  ·rename_i q;exact⟨fin h,.inr (.inl q),hd'⟩
  ·rename_i q;exact⟨fin h,.inr (.inr q),hd'⟩
  ·cases h
theorem zA{x:Str}{k:GK}(h:glob c x=some k):c.nm.lookup x=some .globalImplicit/\c.G.lookup x=some k/\(x==("__debug__" : Str))=false/\x≠"__name__":=by
 unfold glob at h;split at h
 ·cases h
 ·rename_i hd
  have hd':(x==("__debug__" : Str))=false/\(x==("__name__" : Str))=false:=by simpa using hd
  split at h
  ·rename_i q;exact⟨q,h,hd'.1,by simpa using hd'.2⟩
  ·cases h
theorem XO.gl(O:XO w g c E X){x:Str}{k:GK}(h:glob c x=some k):Gl X x:=by
 show X.env.scope.names.lookup x=_;rw[O.nm];exact(zA h).1
theorem XO.gm(O:XO w g c E X){x:Str}{k:GK}(h:glob c x=some k):GM w g X.prog X.w X.mg X.base X.A X.calm x k:=O.gok x k (zA h).2.1
theorem qf{e:Expr}{es:List Expr}{env:PySem.Env}(h:isStar e=false):aL (e::es) env=(false,eval e env)::aL es env:=by
 cases e<;>first|rfl|(simp[isStar]at h)
theorem iU{es:List Expr}{env:PySem.Env}{pos:Pos}:(∀e∈es,isStar e=false)->(backTo pos (aL es env)).any (·.1)=false:=by
 induction es with
 |nil=>intro _;rfl
 |cons e es ih=>
  intro h;rw[qf (h e aH)];show (false||(backTo pos (aL es env)).any (·.1))=false;rw[ih λe he=>h e (aI _ he)]
  rfl
theorem ee:∀{n:Nat}{es:List Expr}{ir:Es},cEs n c es=some ir->∀e∈es,isStar e=false
 | 0,_,_,h=>by simp[cEs]at h
 |n+1,[],_,_=>by simp
 |n+1,e::es,ir,h=>by
  simp only[cEs]at h;cases hs:isStar e with
  |true=>simp[hs]at h
  |false=>
   simp only[hs,bM,if_false,ay,aw]at h;obtain⟨_,_,r,hr,_⟩:=h;intro x hx;rcases aF.mp hx with rfl|hx
   ·exact hs
   ·exact ee hr x hx
theorem lD{x:Str}{f:Addr}{fr:Bool}{e:Expr}{es:List Expr}{p pos:Pos}{t:TA}(O:XO w g c E X)(C:iR w g X.prog X.w X.mg X.base X.A X.calm x f fr)(hg:Gl X x)(hd:(x==("__debug__" : Str))=false)(ha:PA X (e::es) t)
  (hs:∀z∈e::es,isStar z=false):PE X (.Call (.Name x p) (e::es) [] pos) (kI (spF w g x fr) [] E t):=by
 obtain⟨k,fd,ps,hb,h⟩:=C.fn;have he:=qf (es:=es) (env:=X.env) (hs e aH);have hp:=iU (env:=X.env) (pos:=pos) λz hz=>hs z (aI _ hz)
 rw[<-O.K]at hb h;rcases h with ⟨_,F,r⟩|⟨_,F,r⟩
 ·exact r_ F r hg C.at_ (by rw[O.K];exact C.kp) hb .nil O.pass ha hd he hp
 ·exact wj F r hg C.at_ (by rw[O.K];exact C.kp) hb .nil O.pass ha hd he hp
end
end EV
namespace L2
open PySem PySem.Spec PyProof.Rows
section
variable{X:Cx}
end
end L2
namespace EV
open PySem PySem.Spec PySem.P PyProof.Rows L2
section
variable{w:W}{g:Gc}{c:Cc}{E:XK}{X:Cx}{a b d f:Expr}{ia ib id' if':EV.E}{pos p2:Pos}{ta tb:T}
theorem iN{e:Expr}{v:V}{dd:D}(h:PE X e (tC v))(r:∀H,Rep g H dd v):PE X e (tE w g c E (.con dd)):=PE.imp h λσ H Q ⟨τ,S,se,k⟩=>k v H (a_.of (qe.refl _) (r _) rfl)
theorem l_{x:Str}{i:Nat}(O:XO w g c E X)(h:loc c x=some i):PE X (.Name x pos) (tE w g c E (if c.own.contains x then .own i else .var i)):=by
 obtain⟨h1,h2,h3,h4⟩:=zy h;refine PE.imp (fg (i:=i) (by rw[O.N];exact h1) (by unfold dO;rw[O.nm];exact h2) h3 h4) λσ H Q ⟨τ,S,se,k⟩=>?_
 have key:∀e,evE w e τ=zG τ i->fresh c e=false->(esc e=true->c.own.contains x=false)->tR g E H (evE w e τ) (λd=>∀v H',a_ g c e S H d v H'->Q v H')->eB i σ H Q:=λe e1 e2 e3 k=>by
  rw[e1]at k;unfold zG at k;cases q:τ[i]? with
  |none=>rw[q]at k;exact k.elim
  |some o=>
   cases o with
   |none=>rw[q]at k;exact k.elim
   |some d=>
    rw[q]at k;obtain⟨v,z1,z2,z3⟩:=se.val i d q;exact⟨v,z1,k v H ⟨qe.refl _,z2,λz=>z3 x h1 (e3 z),λz=>by rw[e2]at z;cases z⟩⟩
 cases ho:c.own.contains x with
 |true=>rw[ho]at k;exact key (.own i) (by simp[qW,qX,zb,qZ,zc,za,zf,zg,qY,qB,qr,qC,qA,qw,qJ,qq,qx,qo,qD,qu,qE,qt,qp,qG,qy,qm,qS,qH,qR,qI,qT,qK,qF,qP,qO,qU,qL,qN,qQ]) rfl (by intro z;cases z) k
 |false=>rw[ho]at k;exact key (.var i) (by simp[qW,qX,zb,qZ,zc,za,zf,zg,qY,qB,qr,qC,qA,qw,qJ,qq,qx,qo,qD,qu,qE,qt,qp,qG,qy,qm,qS,qH,qR,qI,qT,qK,qF,qP,qO,qU,qL,qN,qQ]) rfl (λ_=>ho) k
theorem Bg{x:Str}(O:XO w g c E X)(h:glob c x=some .val):PE X (.Name x pos) (tE w g c E (.glb x)):=by
 obtain⟨u,v,d,h1,h2,h3,h4⟩:=O.gm h;refine PE.imp (kD (O.gl h) h1 h2 (zA h).2.2.1) λσ H Q ⟨τ,S,se,k⟩=>?_
 simp only[qW,qX,zb,qZ,zc,za,zf,zg,qY,qB,qr,qC,qA,qw,qJ,qq,qx,qo,qD,qu,qE,qt,qp,qG,qy,qm,qS,qH,qR,qI,qT,qK,qF,qP,qO,qU,qL,qN,qQ,h3]at k;exact k v H (a_.of (qe.refl _) (h4 _) rfl)
theorem Ae{x:Str}{fr:Bool}(O:XO w g c E X)(h:glob c x=some (.fn fr)):PE X (.Name x pos) (tE w g c E (.fnv x)):=λpins s σ H Q I ⟨τ,S,se,kk⟩=>by
 simp only[qW,qX,zb,qZ,zc,za,zf,zg,qY,qB,qr,qC,qA,qw,qJ,qq,qx,qo,qD,qu,qE,qt,qp,qG,qy,qm,qS,qH,qR,qI,qT,qK,qF,qP,qO,qU,qL,qN,qQ]at kk;exact aP kk
theorem lN{τ:EV.Env}{e:EV.E}{d:D}(h:isL e=true)(he:evE w e τ=.ok d):oB d=true:=by
 cases e<;>first|(cases h;done)|skip
 ·simp only[qW,qX,zb,qZ,zc,za,zf,zg,qY,qB,qr,qC,qA,qw,qJ,qq,qx,qo,qD,qu,qE,qt,qp,qG,qy,qm,qS,qH,qR,qI,qT,qK,qF,qP,qO,qU,qL,qN,qQ]at he;cases q:bB w ‹_› τ with
  |ok ds=>rw[q]at he;cases he;rfl
  |ex z=>rw[q]at he;cases he
  |no=>rw[q]at he;cases he
 ·simp only[qW,qX,zb,qZ,zc,za,zf,zg,qY,qB,qr,qC,qA,qw,qJ,qq,qx,qo,qD,qu,qE,qt,qp,qG,qy,qm,qS,qH,qR,qI,qT,qK,qF,qP,qO,qU,qL,qN,qQ]at he;cases he
 ·simp only[qW,qX,zb,qZ,zc,za,zf,zg,qY,qB,qr,qC,qA,qw,qJ,qq,qx,qo,qD,qu,qE,qt,qp,qG,qy,qm,qS,qH,qR,qI,qT,qK,qF,qP,qO,qU,qL,qN,qQ]at he;cases q:evI w ‹_› τ with
  |ok ds=>
   rw[q]at he;simp only[R.bind_ok]at he;split at he
   ·cases he
   ·generalize bY _ _ _ _=r at he;cases r with
    |ok o=>cases he;rfl
    |ex z=>cases he
    |no=>cases he
  |ex z=>rw[q]at he;cases he
  |no=>rw[q]at he;cases he
theorem vx(O:XO w g c E X){op:Operator}{o:O2}(ho:o2 op=some o)(ha:PE X a (tE w g c E ia))(hb:PE X b (tE w g c E ib)):PE X (.BinOp a op b pos) (tE w g c E (.op o ia ib)):=
 PE.imp (p8 (q9 O.K ho) ha hb) λσ H Q ⟨τ,S,se,k⟩=>by
  simp only[qW,qX,zb,qZ,zc,za,zf,zg,qY,qB,qr,qC,qA,qw,qJ,qq,qx,qo,qD,qu,qE,qt,qp,qG,qy,qm,qS,qH,qR,qI,qT,qK,qF,qP,qO,qU,qL,qN,qQ]at k;refine zk se k λda va H1 e1 p1 k1=>zk (se.up p1.same) k1 λdb vb H2 e2 p2 k2=>⟨S,da,db,(se.up (p1.same.trans p2.same)).sub,p1.rb.mono p2.same,p2.rb,?_⟩
  cases q:op2 o da db with
  |ok r=>
   rw[q]at k2;exact λv H' s r f=>k2 v H' ⟨(p1.same.trans p2.same).trans s,.inl r,λ_=>r,λz=>by
    simp only[fresh,bu,aC,beq_iff_eq]at z;refine(f ?_).low (p1.same.trans p2.same);rcases z with z|⟨rfl,z⟩
    ·exact lN z.2 e1
    ·have:=lN z e2;cases db<;>first|(cases this;done)|skip
     cases da<;>first|rfl|(cases q;done)⟩
  |ex z=>exact xR q
  |no=>rw[q]at k2;exact k2
theorem xA(ha:PE X a (tE w g c E ia)):PE X (.UnaryOp .USub a pos) (tE w g c E (.neg ia)):=
 PE.imp (Cm CB ha) λσ H Q ⟨τ,S,se,k⟩=>by
  simp only[qW,qX,zb,qZ,zc,za,zf,zg,qY,qB,qr,qC,qA,qw,qJ,qq,qx,qo,qD,qu,qE,qt,qp,qG,qy,qm,qS,qH,qR,qI,qT,qK,qF,qP,qO,qU,qL,qN,qQ]at k;refine zk se k λda va H1 e1 p1 k1=>?_
  cases da with
  |int i=>exact⟨i,p1.rb.int,k1 _ _ (a_.of p1.same (.int _) rfl)⟩
  |_=>exact k1.elim
theorem vZ(O:XO w g c E X){o:Expr}{m:Str}{ap cp:Pos}{as:List Expr}{e:EV.E}(h:cMt c o m ap as cp=some e):PE X (.Call (.Attribute o m ap) as [] cp) (tE w g c E e):=by cases h
theorem oY{o:Expr}{m:Str}(h:baseOk o=true):attributeBase o m X.env (eval o X.env)=eval o X.env:=by
 unfold baseOk at h;split at h
 ·rfl
 ·rfl
 ·cases h
theorem uc(O:XO w g c E X){o:Expr}{ap cp:Pos}(hb:baseOk o=true)(ho:PE X o (tE w g c E ia))(ha:PE X a (tE w g c E ib))(hs:isStar a=false)(hl:(ap.endLine==cp.line)=true) :
  PE X (.Call (.Attribute o "count" ap) [a] [] cp) (tE w g c E (.cnt ia ib)):=λpins s σ H Q I ⟨τ,S,se,kk⟩=>by
 simp only[qW,qX,zb,qZ,zc,za,zf,zg,qY,qB,qr,qC,qA,qw,qJ,qq,qx,qo,qD,qu,qE,qt,qp,qG,qy,qm,qS,qH,qR,qI,qT,qK,qF,qP,qO,qU,qL,qN,qQ]at kk;exact aP kk
theorem Cd(ha:PE X a (tE w g c E ia)):PE X (.UnaryOp .Invert a pos) (tE w g c E (.inv ia)):=λpins s σ H Q I ⟨τ,S,se,kk⟩=>by
 simp only[qW,qX,zb,qZ,zc,za,zf,zg,qY,qB,qr,qC,qA,qw,qJ,qq,qx,qo,qD,qu,qE,qt,qp,qG,qy,qm,qS,qH,qR,qI,qT,qK,qF,qP,qO,qU,qL,qN,qQ]at kk;exact aP kk
theorem AD(ha:PE X a (tE w g c E ia)):PE X (.UnaryOp .Not a pos) (tE w g c E (.not ia)):=
 PE.imp (Av ha) λσ H Q ⟨τ,S,se,k⟩=>by
  simp only[qW,qX,zb,qZ,zc,za,zf,zg,qY,qB,qr,qC,qA,qw,qJ,qq,qx,qo,qD,qu,qE,qt,qp,qG,qy,qm,qS,qH,qR,qI,qT,qK,qF,qP,qO,qU,qL,qN,qQ]at k;refine zk se k λda va H1 e1 p1 k1=>?_
  cases da with
  |bl i=>exact⟨i,p1.rb.bl,k1 _ _ (a_.of p1.same (.bl _) rfl)⟩
  |_=>exact k1.elim
theorem a_.pass{e e':EV.E}{S:Sh}{H H1 H':Hp}{dd:D}{v:V}(s:qe H H1)(p:a_ g c e S H1 dd v H')(h:esc e=true)(f:fresh c e'=false):a_ g c e' S H dd v H':=a_.of (s.trans p.same) (p.st h) f
theorem yB{rest:List Expr}{ir:EV.E}(ha:PE X a (tE w g c E ia))(hb:PE X (.BoolOp .And (b::rest) pos) (tE w g c E ir))(he:esc ir=true):PE X (.BoolOp .And (a::b::rest) pos) (tE w g c E (.and ia ir)):=
 PE.imp (wx ha hb) λσ H Q ⟨τ,S,se,k⟩=>by
  simp only[qW,qX,zb,qZ,zc,za,zf,zg,qY,qB,qr,qC,qA,qw,qJ,qq,qx,qo,qD,qu,qE,qt,qp,qG,qy,qm,qS,qH,qR,qI,qT,qK,qF,qP,qO,qU,qL,qN,qQ]at k;refine zk se k λda va H1 e1 p1 k1=>?_
  cases da with
  |bl i=>
   refine⟨i,p1.rb.bl,?_⟩;cases i with
   |true=>
    refine⟨τ,S,se.up p1.same,tR.imp k1 λd hk v H' p=>hk v H' (p.pass p1.same he rfl)⟩
   |false=>exact k1 _ _ (a_.of p1.same (.bl _) rfl)
  |_=>exact k1.elim
theorem uS{rest:List Expr}{ir:EV.E}(ha:PE X a (tE w g c E ia))(hb:PE X (.BoolOp .Or (b::rest) pos) (tE w g c E ir))(he:esc ir=true):PE X (.BoolOp .Or (a::b::rest) pos) (tE w g c E (.or ia ir)):=
 PE.imp (tP ha hb) λσ H Q ⟨τ,S,se,k⟩=>by
  simp only[qW,qX,zb,qZ,zc,za,zf,zg,qY,qB,qr,qC,qA,qw,qJ,qq,qx,qo,qD,qu,qE,qt,qp,qG,qy,qm,qS,qH,qR,qI,qT,qK,qF,qP,qO,qU,qL,qN,qQ]at k;refine zk se k λda va H1 e1 p1 k1=>?_
  cases da with
  |bl i=>
   refine⟨i,p1.rb.bl,?_⟩;cases i with
   |false=>
    refine⟨τ,S,se.up p1.same,tR.imp k1 λd hk v H' p=>hk v H' (p.pass p1.same he rfl)⟩
   |true=>exact k1 _ _ (a_.of p1.same (.bl _) rfl)
  |_=>exact k1.elim
theorem fT{op:CmpOp}{b:Expr}(h:zo b=true):behindInMarks op b=false:=by cases b<;>first|rfl|(simp[zo]at h)
theorem dq{o:C2}{S:Sh}{H:Hp}{da db:D}{va vb:V}{r:R Bool}{P:Bool->Prop}{Q:VK}(ra:zJ g H S da va)(rb:zJ g H S db vb)(q:tR g E H (qh o da db) P)(k:∀z,qh o da db=.ok z->P z->Q (.bl z) H):rCm g o va vb H Q:=by
 refine⟨S,da,db,ra,rb,?_⟩;cases e:qh o da db with
 |ok z=>rw[e]at q;exact k z e q
 |ex z=>exact BJ e
 |no=>rw[e]at q;exact q
theorem tR.bnd{α β:Type}{H:Hp}{r:R α}{f:α->R β}{P:β->Prop}(h:tR g E H (r.bind f) P):tR g E H r λa=>tR g E H (f a) P:=by
 cases r with
 |ok a=>exact h
 |ex z=>exact h
 |no=>exact h
theorem CN(O:XO w g c E X){op:CmpOp}(ha:PE X a (tE w g c E ia))(hb:PE X b (tE w g c E ib))(hs:zo b=true):PE X (.Compare a [op] [b] pos) (tE w g c E (.cmp (c2 op) ia ib)):=
 PE.imp (Bt (dt O.K O.units op) ha hb (fT hs)) λσ H Q ⟨τ,S,se,k⟩=>by
  simp only[qW,qX,zb,qZ,zc,za,zf,zg,qY,qB,qr,qC,qA,qw,qJ,qq,qx,qo,qD,qu,qE,qt,qp,qG,qy,qm,qS,qH,qR,qI,qT,qK,qF,qP,qO,qU,qL,qN,qQ]at k;refine zk se k λda va H1 e1 p1 k1=>zk (se.up p1.same) k1 λdb vb H2 e2 p2 k2=>?_
  exact dq (r:=.no) (p1.rb.mono p2.same) p2.rb (tR.bnd k2) λz _ q=>q _ _ (a_.of (p1.same.trans p2.same) (.bl _) rfl)
theorem Ce(O:XO w g c E X){op:CmpOp}(ha:PE X a (tE w g c E ia))(hb:PE X b (tE w g c E ib))(hs:zo b=true):PT X (.Compare a [op] [b] pos) (tT w g c E (.cmp (c2 op) ia ib)):=
 PT.imp (Ax (dt O.K O.units op) ha hb (fT hs)) λσ H Q ⟨τ,S,se,k⟩=>by
  simp only[eQ,eT,eR,eU,eZ,fj,fh]at k;refine zk se k λda va H1 e1 p1 k1=>zk (se.up p1.same) k1 λdb vb H2 e2 p2 k2=>?_
  exact dq (r:=.no) (p1.rb.mono p2.same) p2.rb k2 λz _ q=>⟨z,rfl,q _ (p1.same.trans p2.same)⟩
theorem uq(O:XO w g c E X){op op':CmpOp}(ha:PE X a (tE w g c E ia))(hb:PE X b (tE w g c E ib))(hd:PE X d (tE w g c E id'))(hs':zo d=true):PE X (.Compare a [op,op'] [b,d] pos) (tE w g c E (.cmp2 (c2 op) (c2 op') ia ib id')):=
 PE.imp (uQ (dt O.K O.units op) (dt O.K O.units op') ha hb hd (fT hs')) λσ H Q ⟨τ,S,se,k⟩=>by
  simp only[qW,qX,zb,qZ,zc,za,zf,zg,qY,qB,qr,qC,qA,qw,qJ,qq,qx,qo,qD,qu,qE,qt,qp,qG,qy,qm,qS,qH,qR,qI,qT,qK,qF,qP,qO,qU,qL,qN,qQ]at k;refine zk se k λda va H1 e1 p1 k1=>zk (se.up p1.same) k1 λdb vb H2 e2 p2 k2=>?_
  have s2:=p1.same.trans p2.same;refine dq (r:=.no) (p1.rb.mono p2.same) p2.rb (tR.bnd k2) λz _ q=>⟨z,rfl,?_⟩
  cases z with
  |true=>
   exact zk (se.up s2) q λdd vd H3 e3 p3 k3=>dq (r:=.no) (p2.rb.mono p3.same) p3.rb (tR.bnd k3) λz _ q=>q _ _ (a_.of (s2.trans p3.same) (.bl _) rfl)
  |false=>exact q _ _ (a_.of s2 (.bl _) rfl)
theorem Bv(O:XO w g c E X){op op':CmpOp}(ha:PE X a (tE w g c E ia))(hb:PE X b (tE w g c E ib))(hd:PE X d (tE w g c E id'))(hs':zo d=true):PT X (.Compare a [op,op'] [b,d] pos) (tT w g c E (.cmp2 (c2 op) (c2 op') ia ib id')):=
 PT.imp (rh (dt O.K O.units op) (dt O.K O.units op') ha hb hd (fT hs')) λσ H Q ⟨τ,S,se,k⟩=>by
  simp only[eQ,eT,eR,eU,eZ,fj,fh]at k;refine zk se k λda va H1 e1 p1 k1=>zk (se.up p1.same) k1 λdb vb H2 e2 p2 k2=>?_
  have s2:=p1.same.trans p2.same;refine dq (r:=.no) (p1.rb.mono p2.same) p2.rb (tR.bnd k2) λz _ q=>⟨z,rfl,?_⟩
  cases z with
  |true=>
   exact zk (se.up s2) q λdd vd H3 e3 p3 k3=>dq (r:=.no) (p2.rb.mono p3.same) p3.rb k3 λz _ q=>⟨z,rfl,q _ (s2.trans p3.same)⟩
  |false=>exact⟨false,rfl,q _ s2⟩
theorem BA(O:XO w g c E X){op op' op'':CmpOp}(ha:PE X a (tE w g c E ia))(hb:PE X b (tE w g c E ib))(hd:PE X d (tE w g c E id'))(hf:PE X f (tE w g c E if'))(hs':zo f=true):PE X (.Compare a [op,op',op''] [b,d,f] pos) (tE w g c E (.cmp3 (c2 op) (c2 op') (c2 op'') ia ib id' if')):=
 PE.imp (uG (dt O.K O.units op) (dt O.K O.units op') (dt O.K O.units op'') ha hb hd hf (fT hs')) λσ H Q ⟨τ,S,se,k⟩=>by
  simp only[qW,qX,zb,qZ,zc,za,zf,zg,qY,qB,qr,qC,qA,qw,qJ,qq,qx,qo,qD,qu,qE,qt,qp,qG,qy,qm,qS,qH,qR,qI,qT,qK,qF,qP,qO,qU,qL,qN,qQ]at k;refine zk se k λda va H1 e1 p1 k1=>zk (se.up p1.same) k1 λdb vb H2 e2 p2 k2=>?_
  have s2:=p1.same.trans p2.same;refine dq (r:=.no) (p1.rb.mono p2.same) p2.rb (tR.bnd k2) λz _ q=>⟨z,rfl,?_⟩
  cases z with
  |true=>
   refine zk (se.up s2) q λdd vd H3 e3 p3 k3=>dq (r:=.no) (p2.rb.mono p3.same) p3.rb (tR.bnd k3) λz _ q=>⟨z,rfl,?_⟩
   have s3:=s2.trans p3.same;cases z with
   |true=>exact zk (se.up s3) q λdf vf H4 e4 p4 k4=>dq (r:=.no) (p3.rb.mono p4.same) p4.rb (tR.bnd k4) λz _ q=>q _ _ (a_.of (s3.trans p4.same) (.bl _) rfl)
   |false=>exact q _ _ (a_.of s3 (.bl _) rfl)
  |false=>exact q _ _ (a_.of s2 (.bl _) rfl)
theorem xg{a b c d:Expr}{ta tb tc td:TE}{pos:Pos}{op op' op'':CmpOp}{r r' r'':R2}(ho:OpR X (aQ op) r)(ho':OpR X (aQ op') r')(ho'':OpR X (aQ op'') r'')(ha:PE X a ta)(hb:PE X b tb)(hc:PE X c tc)(hd:PE X d td)
  (hm:lastMarks [op,op',op''] [b,c,d]=false):PT X (.Compare a [op,op',op''] [b,c,d] pos) (kM (o7 r r' r'' ta tb tc td)):=by
 intro pins s σ H Q I h;refine isTrue_chain (thn (ha pins s σ H _ I h) λv s1 ⟨x,H1,I1,r1,q1⟩=>test_link (thn (hb pins s1 σ H1 _ I1 q1) λu s2 ⟨y,H2,I2,r2,q2⟩=>
  thn (ho pins s2 σ H2 x y v u _ I2 r1 r2 q2) λd s3 ⟨z,H3,I3,r3,k,e,q3⟩=>?_)) hm
 subst e;cases r3;refine bD ?_;cases k with
 |false=>
  obtain⟨k',e',q'⟩:=q3;cases e';exact ite_ff ⟨H3,I3,q'⟩
 |true=>
  refine ite_tt (test_link (thn (hc pins s3 σ H3 _ I3 q3) λw' s4 ⟨z',H4,I4,r4,q4⟩=>thn (ho' pins s4 σ H4 y z' u w' _ I4 r2 r4 q4) λd' s5 ⟨z2,H5,I5,r5,k2,e2,q5⟩=>?_));subst e2;cases r5;refine bD ?_;cases k2 with
  |false=>
   obtain⟨k',e',q'⟩:=q5;cases e';exact ite_ff ⟨H5,I5,q'⟩
  |true=>
   refine ite_tt (test_last (thn (hd pins s5 σ H5 _ I5 q5) λw'' s6 ⟨z3,H6,I6,r6,q6⟩=>thn (ho'' pins s6 σ H6 z' z3 w' w'' _ I6 r4 r6 q6) λd'' s7 ⟨z4,H7,I7,r7,k4,e4,q7⟩=>?_));subst e4;cases r7;exact bD ⟨H7,I7,q7⟩
theorem R.bind_assoc{α β γ:Type}(r:R α)(f:α->R β)(h:β->R γ):(r.bind f).bind h=r.bind λa=>(f a).bind h:=by cases r<;>rfl
theorem vw(O:XO w g c E X){op op' op'':CmpOp}(ha:PE X a (tE w g c E ia))(hb:PE X b (tE w g c E ib))(hd:PE X d (tE w g c E id'))(hf:PE X f (tE w g c E if'))(hs':zo f=true):PT X (.Compare a [op,op',op''] [b,d,f] pos) (tT w g c E (.val (.cmp3 (c2 op) (c2 op') (c2 op'') ia ib id' if'))):=
 PT.imp (xg (dt O.K O.units op) (dt O.K O.units op') (dt O.K O.units op'') ha hb hd hf (fT hs')) λσ H Q ⟨τ,S,se,k⟩=>by
  simp only[eQ,eT,eR,eU,eZ,fj,fh,qW,qX,zb,qZ,zc,za,zf,zg,qY,qB,qr,qC,qA,qw,qJ,qq,qx,qo,qD,qu,qE,qt,qp,qG,qy,qm,qS,qH,qR,qI,qT,qK,qF,qP,qO,qU,qL,qN,qQ,R.bind_assoc]at k;refine zk se k λda va H1 e1 p1 k1=>zk (se.up p1.same) k1 λdb vb H2 e2 p2 k2=>?_
  have s2:=p1.same.trans p2.same;refine dq (r:=.no) (p1.rb.mono p2.same) p2.rb (tR.bnd k2) λz _ q=>⟨z,rfl,?_⟩
  cases z with
  |true=>
   simp only[if_true,R.bind_assoc]at q;refine zk (se.up s2) q λdd vd H3 e3 p3 k3=>dq (r:=.no) (p2.rb.mono p3.same) p3.rb (tR.bnd k3) λz _ q=>⟨z,rfl,?_⟩
   have s3:=s2.trans p3.same;cases z with
   |true=>
    simp only[if_true,R.bind_assoc]at q;exact zk (se.up s3) q λdf vf H4 e4 p4 k4=>dq (r:=.no) (p3.rb.mono p4.same) p4.rb (tR.bnd k4) λz _ q=>⟨z,rfl,q _ (s3.trans p4.same)⟩
   |false=>exact⟨false,rfl,q _ s3⟩
  |false=>exact⟨false,rfl,q _ s2⟩
theorem p7(ht:PT X d (tT w g c E ta))(ha:PE X a (tE w g c E ia))(hb:PE X b (tE w g c E ib))(h1:esc ia=true)(h2:esc ib=true):PE X (.IfExp d a b pos) (tE w g c E (.ite ta ia ib)):=
 PE.imp (xV ht ha hb) λσ H Q ⟨τ,S,se,k⟩=>by
  simp only[qW,qX,zb,qZ,zc,za,zf,zg,qY,qB,qr,qC,qA,qw,qJ,qq,qx,qo,qD,qu,qE,qt,qp,qG,qy,qm,qS,qH,qR,qI,qT,qK,qF,qP,qO,qU,qL,qN,qQ]at k;refine i7 se k λz H1 e1 s1 k1=>?_
  cases z with
  |true=>exact⟨τ,S,se.up s1,tR.imp k1 λdd hk v H' p=>hk v H' (p.pass s1 h1 rfl)⟩
  |false=>exact⟨τ,S,se.up s1,tR.imp k1 λdd hk v H' p=>hk v H' (p.pass s1 h2 rfl)⟩
theorem xZ:PA X [] (tA w g c E .nil):=PA.imp cQ λσ H Q ⟨τ,S,se,k⟩=>k [] H (qe.refl _) .nil λ_=>.nil
theorem BG{es:List Expr}{ies:Es}(ha:PE X a (tE w g c E ia))(hr:PA X es (tA w g c E ies))(hs:isStar a=false):PA X (a::es) (tA w g c E (.cons ia ies)):=
 PA.imp (zE ha hr (qf hs)) λσ H Q ⟨τ,S,se,k⟩=>by
  simp only[bB]at k;refine zk se k λda va H1 e1 p1 k1=>fH (se.up p1.same) k1 λds vs H2 e2 s2 r2 r2' k2=>k2 _ _ (p1.same.trans s2) (.cons (p1.rb.mono s2) r2) λz=>?_
  simp only[c0,aC]at z;exact .cons ((p1.st z.1).mono (qi s2)) (r2' z.2)
theorem kh:∀{es:Es}{τ:Env}{ds:List D}{l:List Expr}{n:Nat},cEs n c l=some es->bB w es τ=.ok ds->ds.length=l.length
 |_,_,_,l,0,h,_=>by simp[cEs]at h
 |es,τ,ds,[],n+1,h,e=>by
  simp only[cEs,cg]at h;subst h;simp only[bB,R.ok.injEq]at e;subst e;rfl
 |es,τ,ds,x::l,n+1,h,e=>by
  simp only[cEs]at h;cases hs:isStar x with
  |true=>simp[hs]at h
  |false=>
   simp only[hs,bM,if_false,ay,aw]at h;obtain⟨i1,_,r,hr,h⟩:=h;cases h;simp only[bB]at e;cases q:evE w i1 τ with
   |ok z=>
    rw[q]at e;simp only[R.bind_ok]at e;cases q2:bB w r τ with
    |ok zs=>
     rw[q2]at e;cases e;simp[kh hr q2]
    |ex z=>rw[q2]at e;cases e
    |no=>rw[q2]at e;cases e
   |ex z=>rw[q]at e;cases e
   |no=>rw[q]at e;cases e
theorem m5{n:Nat}(h:n<=100000):n<=sizeLine:=ba h (by rw[aW];decide)
theorem sX{es:List Expr}{ies:Es}{k:Nat}(ha:PA X es (tA w g c E ies))(he:c0 ies=true)(hl:∀τ ds,bB w ies τ=.ok ds->ds.length<=100000):PE X (.Tuple es k pos) (tE w g c E (.tup ies)):=
 PE.imp (tW ha) λσ H Q ⟨τ,S,se,k⟩=>by
  simp only[qW,qX,zb,qZ,zc,za,zf,zg,qY,qB,qr,qC,qA,qw,qJ,qq,qx,qo,qD,qu,qE,qt,qp,qG,qy,qm,qS,qH,qR,qI,qT,qK,qF,qP,qO,qU,qL,qN,qQ]at k;refine fH se k λds vs H1 e1 s1 r1 r1' k1=>?_
  have r:=r1' he;exact⟨by rw[<-r.length];exact m5 (hl _ _ e1),λp hp=>k1 _ _ (a_.of (s1.trans (zp hp)) (gZ (se.sub.same s1) hp r) rfl)⟩
theorem wW{es:List Expr}{ies:Es}(ha:PA X es (tA w g c E ies))(he:c0 ies=true)(hl:∀τ ds,bB w ies τ=.ok ds->ds.length<=100000):PE X (.List es pos) (tE w g c E (.lst ies)):=
 PE.imp (Ah ha) λσ H Q ⟨τ,S,se,k⟩=>by
  simp only[qW,qX,zb,qZ,zc,za,zf,zg,qY,qB,qr,qC,qA,qw,qJ,qq,qx,qo,qD,qu,qE,qt,qp,qG,qy,qm,qS,qH,qR,qI,qT,qK,qF,qP,qO,qU,qL,qN,qQ]at k;refine fH se k λds vs H1 e1 s1 r1 r1' k1=>?_
  have r:=r1' he;exact⟨by rw[<-r.length];exact m5 (hl _ _ e1),λp hp=>k1 _ _ (a_.new (s1.trans (zp hp)) (dZ (se.sub.same s1) hp r) (eA s1 hp r))⟩
theorem su{b:Expr}(h:isSlice b=false):m4 b:=λo i=>by cases b<;>first|rfl|(simp[isSlice]at h)
theorem ur(O:XO w g c E X)(ha:PE X a (tE w g c E ia))(hb:PE X b (tE w g c E ib))(hs:isSlice b=false):PE X (.Subscript a b pos) (tE w g c E (.ix ia ib)):=
 PE.imp (tB (Cz O.K O.units) ha hb (su hs)) λσ H Q ⟨τ,S,se,k⟩=>by
  simp only[qW,qX,zb,qZ,zc,za,zf,zg,qY,qB,qr,qC,qA,qw,qJ,qq,qx,qo,qD,qu,qE,qt,qp,qG,qy,qm,qS,qH,qR,qI,qT,qK,qF,qP,qO,qU,qL,qN,qQ]at k;refine zk se k λda va H1 e1 p1 k1=>zk (se.up p1.same) k1 λdb vb H2 e2 p2 k2=>⟨S,da,db,p1.rb.mono p2.same,p2.rb,?_⟩
  cases q:ixD da db with
  |ok r=>rw[q]at k2;exact λv r=>k2 v H2 (a_.of (p1.same.trans p2.same) r rfl)
  |ex z=>exact uF q
  |no=>rw[q]at k2;exact k2
theorem um(O:XO w g c E X){lo hi:Option Expr}{il ih:OE}(ha:PE X a (tE w g c E ia))(hl:PO X lo (tOe w g c E il))(hh:PO X hi (tOe w g c E ih)):PE X (.Subscript a (.Slice lo hi none p2) pos) (tE w g c E (.sl ia il ih)):=
 PE.imp (uR (Cq O.K) ha hl hh) λσ H Q ⟨τ,S,se,k⟩=>by
  simp only[qW,qX,zb,qZ,zc,za,zf,zg,qY,qB,qr,qC,qA,qw,qJ,qq,qx,qo,qD,qu,qE,qt,qp,qG,qy,qm,qS,qH,qR,qI,qT,qK,qF,qP,qO,qU,qL,qN,qQ]at k;refine zk se k λda va H1 e1 p1 k1=>lU (se.up p1.same) k1 λl H2 e2 s2 k2=>lU (se.up (p1.same.trans s2)) k2 λh H3 e3 s3 k3=>?_
  have s:=(p1.same.trans s2).trans s3;refine⟨S,da,se.sub.same s,p1.rb.mono (s2.trans s3),?_⟩;cases q:slD da l h with
  |ok r=>rw[q]at k3;exact λv H' s' r=>k3 v H' (a_.of (s.trans s') r rfl)
  |ex z=>exact Cg q
  |no=>rw[q]at k3;exact k3
theorem A8:PO X none (tOe w g c E .none):=PO.imp yf λσ H Q ⟨τ,S,se,k⟩=>k H (qe.refl _)
theorem wJ(ha:PE X a (tE w g c E ia)):PO X (some a) (tOe w g c E (.some ia)):=PO.imp (AJ ha) λσ H Q ⟨τ,S,se,k⟩=>by
 simp only[evO]at k;refine zk se k λda va H1 e1 p1 k1=>?_
 cases da with
 |int i=>exact⟨i,p1.rb.int,k1 _ p1.same⟩
 |_=>exact k1.elim
theorem rX(O:XO w g c E X){x:Str}{fr:Bool}{e:Expr}{es:List Expr}{ies:Es}(h:glob c x=some (.fn fr))(ha:PA X (e::es) (tA w g c E ies))(he:c0 ies=true)(hs:∀z∈e::es,isStar z=false):PE X (.Call (.Name x p2) (e::es) [] pos) (tE w g c E (.call x ies)):=by
 obtain⟨f,h1,h2⟩:=O.gm h;refine PE.imp (lD O h2 (O.gl h) (zA h).2.2.1 ha hs) λσ H Q ⟨τ,S,se,k⟩=>?_
 simp only[qW,qX,zb,qZ,zc,za,zf,zg,qY,qB,qr,qC,qA,qw,qJ,qq,qx,qo,qD,qu,qE,qt,qp,qG,qy,qm,qS,qH,qR,qI,qT,qK,qF,qP,qO,qU,qL,qN,qQ]at k;refine fH se k λds vs H1 e1 s1 r1 r1' k1=>⟨S,ds,se.sub.same s1,by rw[List.append_nil];exact r1' he,tR.imp k1 λdd hk v H' s' r f=>hk v H' ⟨s1.trans s',.inl r,λ_=>r,λz=>?_⟩⟩
 simp only[fresh,(zA h).2.1,beq_iff_eq,cg,GK.fn.injEq]at z;exact(f z).low s1
noncomputable def LD(o:HO):Prop:=(∃vs,o=.lst vs)\/∃m,o=.dK m
theorem cD.ld{H:Hp}{d:D}{o:HO}(h:cD g H d o):LD o:=by
 cases h with
 |lst r=>exact .inl ⟨_,rfl⟩
 |dic k=>exact .inr ⟨_,rfl⟩
theorem CY{H:Hp}{S S':Sh}(hL:∀a,S'.h a=false->S.h a=true->∃o,H a=some o/\LD o){K:ao}{a:Addr}{xs:List V}(q:SqT K (hid H S') a xs):SqT K (hid H S) a xs:=by
 have key:∀o:HO,¬ LD o->hid H S' a=some o->hid H S a=some o:=λo ho z=>by
  obtain⟨z1,z2⟩:=bp.mp z;refine bp.mpr ⟨?_,z2⟩;cases y:S.h a with
  |false=>rfl
  |true=>
   obtain⟨o',e,ld⟩:=hL a z1 y;rw[z2]at e;cases e;exact absurd ld ho
 rcases q with (q|⟨o,q⟩)|q
 ·exact .inl (.inl (key _ (by rintro(⟨_,z⟩|⟨_,z⟩)<;>cases z) q))
 ·exact .inl (.inr ⟨o,key _ (by rintro(⟨_,z⟩|⟨_,z⟩)<;>cases z) q⟩)
 ·exact .inr q
theorem rK{H:Hp}{S S':Sh}(hL:∀a,S'.h a=false->S.h a=true->∃o,H a=some o/\LD o){d:D}{v:V}(hn:d.noL=true)(h:Rep g (hid H S') d v):Rep g (hid H S) d v:=
 h.rec (motive_1:=λd v _=>d.noL=true->Rep g (hid H S) d v) (motive_2:=λd v _=>gO d=true->ze g (hid H S) d v) (λ_=>.non) (λb _=>.bl b) (λb _=>.int b) (λb _=>.str b) (λq _ r p=>.tup (CY hL q) (r p)) (λ_ _ _ p=>nomatch p) (λ_ p=>nomatch p) (λ_ _ p=>nomatch p) (λ_ p=>nomatch p) (λ_=>.nil) (λ_ _ a b p=>.cons (a (iW p).1) (b (iW p).2)) hn
noncomputable def g7(S:Sh)(L:List Addr):Sh:=⟨λ_=>false,λb=>S.h b && !L.contains b,S.z,S.y⟩
theorem nH{H:Hp}{S:Sh}{L:List Addr}:qe (hid H S) (hid H (g7 S L)):=λb o h=>by
 obtain⟨h1,h2⟩:=bp.mp h;exact bp.mpr ⟨by show (S.h b&&_)=false;rw[h1];rfl,h2⟩
theorem vC{H:Hp}{S:Sh}{L:List Addr}{a:Addr}:qe (hid H (g7 S L)) (hid H (g7 S (a::L))):=λb o h=>by
 obtain⟨h1,h2⟩:=bp.mp h;refine bp.mpr ⟨?_,h2⟩;have h1:(S.h b && !L.contains b)=false:=h1;show (S.h b && !(a::L).contains b)=false;cases q:S.h b with
 |false=>rfl
 |true=>
  rw[q]at h1;have h1:L.contains b=true:=by simpa using h1
  simp only[List.contains_cons,h1,Bool.or_true];rfl
theorem seen{H:Hp}{S:Sh}:∀{ds:List D}{vs:List V},eG g H S ds vs->∃L:List Addr,(∀a∈L,∃o,H a=some o/\LD o)/\ze g (hid H (g7 S L)) ds vs
 |_,_,.nil=>⟨[],by simp,.nil⟩
 |_,_,.cons r t=>by
  obtain⟨L,h1,h2⟩:=seen t;rcases r with r|⟨a,o,z1,rfl,z4,z5⟩
  ·exact⟨L,h1,.cons (r.mono nH) h2⟩
  ·refine⟨a::L,λb hb=>?_,.cons (z5.rep nH (bp.mpr ⟨?_,z4⟩)) (h2.mono vC)⟩
   ·rcases aF.mp hb with rfl|hb
    ·exact⟨o,z4,z5.ld⟩
    ·exact h1 b hb
   ·show (S.h a && !(a::L).contains a)=false;simp
theorem Ck(O:XO w g c E X){x:Str}{fr:Bool}{e:Expr}{es:List Expr}{ies:Es}(h:glob c x=some (.fn fr))(ha:PA X (e::es) (tA w g c E ies))(hs:∀z∈e::es,isStar z=false):PE X (.Call (.Name x p2) (e::es) [] pos) (tE w g c E (.callo x ies)):=by
 obtain⟨f,h1,h2⟩:=O.gm h;refine PE.imp (lD O h2 (O.gl h) (zA h).2.2.1 ha hs) λσ H Q ⟨τ,S,se,k⟩=>?_
 simp only[qW,qX,zb,qZ,zc,za,zf,zg,qY,qB,qr,qC,qA,qw,qJ,qq,qx,qo,qD,qu,qE,qt,qp,qG,qy,qm,qS,qH,qR,qI,qT,qK,qF,qP,qO,qU,qL,qN,qQ]at k;refine fH se k λds vs H1 e1 s1 r1 r1' k1=>?_
 obtain⟨L,hL,rr⟩:=seen r1;refine⟨g7 S L,ds,λa ha=>?_,by rw[List.append_nil];exact rr,?_⟩
 ·refine se.sub.same s1 a ?_;rcases ha with ha|ha
  ·have ha:(S.h a && !L.contains a)=true:=ha;exact .inl (aC _ _▸ha).1
  ·cases ha
 ·cases q:w.call x ds with
  |ok d=>
   rw[q]at k1;simp only[R.bind_ok]at k1;split at k1
   ·rename_i hd
    intro v H' s' r _;refine k1 v H' (a_.of (s1.trans s') (rK (λa z1 z2=>?_) hd r) rfl);have z1:(S.h a && !L.contains a)=false:=z1;rw[z2]at z1;obtain⟨us,e,ld⟩:=hL a (by simpa using z1);exact⟨us,s' _ _ e,ld⟩
   ·exact k1.elim
  |ex z=>rw[q]at k1;exact λH' C sm hc=>k1 H' C sm hc
  |no=>rw[q]at k1;exact k1.elim
theorem ui{a b:Expr}{ia ib:EV.E}{t0 t1 t2:Str}{k0 k1 k2}{p0 p1 p2 p3 p4 pos:Pos}(h0:(Str.empty++t0).length<=1000)(ha:PE X a (tE w g c E ia))(hb:PE X b (tE w g c E ib)) :
  PE X (.JoinedStr [.Constant (.str t0) k0 p0,.FormattedValue a (-1) none p1,.Constant (.str t1) k1 p2,.FormattedValue b (-1) none p3,.Constant (.str t2) k2 p4] pos) (tE w g c E (.fst2 t0 ia t1 ib t2)):=λpins s σ H Q I ⟨τ,S,se,kk⟩=>by
 simp only[qW,qX,zb,qZ,zc,za,zf,zg,qY,qB,qr,qC,qA,qw,qJ,qq,qx,qo,qD,qu,qE,qt,qp,qG,qy,qm,qS,qH,qR,qI,qT,qK,qF,qP,qO,qU,qL,qN,qQ]at kk;exact aP kk
theorem Ak(ha:PE X a (tE w g c E ia))(hb:PE X b (tE w g c E ib)):PE X (.Dict [some a] [b] pos) (tE w g c E (.dic1 ia ib)):=by
 refine PE.imp (vh (Bd ha hb Ar) rfl rfl (by simp) (by simp)) λσ H Q ⟨τ,S,se,k⟩ p hp=>?_
 simp only[qW,qX,zb,qZ,zc,za,zf,zg,qY,qB,qr,qC,qA,qw,qJ,qq,qx,qo,qD,qu,qE,qt,qp,qG,qy,qm,qS,qH,qR,qI,qT,qK,qF,qP,qO,qU,qL,qN,qQ]at k;have s0:qe H (upd H p (.dK [])):=zp hp;show tE w g c E ia σ (upd H p (.dK [])) λx H1=>tE w g c E ib σ H1 λy H2=>_
 refine zk (se.up s0) (tR.up k s0) λda va H1 e1 p1 k1=>?_
 refine zk ((se.up s0).up p1.same) k1 λdb vb H2 e2 p2 k2=>?_
 cases da with
 |int i=>cases db with
  |int j=>
   have h1:=p1.rb.int;have h2:=p2.rb.int;subst h1 h2;refine⟨p2.same _ _ (p1.same _ _ zB),[(Sum.inl i,.int j)],rfl,by simp,k2 _ _ ?_⟩;have sm:qe H (upd H2 p (.dK (bh [(i,j)]))):=λb o hb=>by
    rw[qM (λz=>by rw[z,hp]at hb;cases hb)];exact p2.same _ _ (p1.same _ _ (s0 _ _ hb))
   exact a_.new (d:=.dic [(i,j)]) sm (.dic (bp.mpr ⟨se.sub.free hp,zB⟩)) ⟨p,_,rfl,hp,zB,.dic [(i,j)]⟩
  |_=>exact k2.elim
 |_=>exact k2.elim
theorem rP(O:XO w g c E X){o:Expr}{ap cp:Pos}(hb:baseOk o=true)(ho:PE X o (tE w g c E ia))(ha:PE X a (tE w g c E ib))(hs:isStar a=false)(hl:(ap.endLine==cp.line)=true) :
  PE X (.Call (.Attribute o "get" ap) [a] [] cp) (tE w g c E (.dget ia ib)):=by
 have hst:=qf (es:=[]) (env:=X.env) hs;have hu:=O.units;refine PE.imp (Br (by lia) ho ha ⟨oY hb,by rw[hst];rfl,hl,by rw[hst];rfl⟩) λσ H Q ⟨τ,S,se,k⟩=>?_
 simp only[qW,qX,zb,qZ,zc,za,zf,zg,qY,qB,qr,qC,qA,qw,qJ,qq,qx,qo,qD,qu,qE,qt,qp,qG,qy,qm,qS,qH,qR,qI,qT,qK,qF,qP,qO,qU,qL,qN,qQ]at k;refine zk se k λda va H1 e1 p1 k1=>?_
 cases da with
 |dic kvs=>
  obtain⟨l,rfl,h1⟩:=p1.rb.dic;refine⟨l,rfl,.inl ⟨_,.inl h1⟩,zk (se.up p1.same) k1 λdb vb H2 e2 p2 k2=>?_⟩;cases db with
  |int i=>
   have h2:=p2.rb.int;subst h2;refine⟨_,cK.k (k:=Sum.inl i) (p2.same _ _ h1),?_⟩;rw[kJ];cases e:atK kvs i with
   |none=>simp only[iQ,e]at k2;exact k2 _ _ (a_.of (p1.same.trans p2.same) .non rfl)
   |some v=>simp only[iQ,e]at k2;exact k2 _ _ (a_.of (p1.same.trans p2.same) (.int v) rfl)
  |_=>exact k2.elim
 |_=>exact k1.elim
theorem uj(O:XO w g c E X){o d:Expr}{id:EV.E}{ap cp:Pos}(hb:baseOk o=true)(ho:PE X o (tE w g c E ia))(ha:PE X a (tE w g c E ib))(hd:PE X d (tE w g c E id))(hs:isStar a=false)(hsd:isStar d=false)(hes:esc id=true)(hl:(ap.endLine==cp.line)=true) :
  PE X (.Call (.Attribute o "get" ap) [a,d] [] cp) (tE w g c E (.dget2 ia ib id)):=by
 have hst:=qf (es:=[]) (env:=X.env) hsd;have hst2:=qf (es:=[d]) (env:=X.env) hs;have hu:=O.units;refine PE.imp (BB (by lia) ho ha hd ⟨oY hb,by rw[hst2,hst];rfl,hl,by rw[hst2,hst];rfl⟩) λσ H Q ⟨τ,S,se,k⟩=>?_
 simp only[qW,qX,zb,qZ,zc,za,zf,zg,qY,qB,qr,qC,qA,qw,qJ,qq,qx,qo,qD,qu,qE,qt,qp,qG,qy,qm,qS,qH,qR,qI,qT,qK,qF,qP,qO,qU,qL,qN,qQ]at k;refine zk se k λda va H1 e1 p1 k1=>?_
 cases da with
 |dic kvs=>
  obtain⟨l,rfl,h1⟩:=p1.rb.dic;refine⟨l,rfl,.inl ⟨_,.inl h1⟩,zk (se.up p1.same) k1 λdb vb H2 e2 p2 k2=>zk ((se.up p1.same).up p2.same) k2 λdz vz H3 e3 p3 k3=>?_⟩;cases db with
  |int i=>
   have h2:=p2.rb.int;subst h2;refine⟨_,cK.k (k:=Sum.inl i) (p3.same _ _ (p2.same _ _ h1)),?_⟩;rw[kJ];cases e:atK kvs i with
   |none=>simp only[ig,e]at k3;exact k3 _ _ (a_.of ((p1.same.trans p2.same).trans p3.same) (p3.st hes) rfl)
   |some v=>simp only[ig,e]at k3;exact k3 _ _ (a_.of ((p1.same.trans p2.same).trans p3.same) (.int v) rfl)
  |_=>exact k3.elim
 |_=>exact k1.elim
theorem tV(O:XO w g c E X)(hc:X.calm=true){x:Str}{bb:Option B1}(h:glob c x=some (.ty "list" bb))(ha:PE X a (tE w g c E ia))(hs:isStar a=false):PE X (.Call (.Name x p2) [a] [] pos) (tE w g c E (.lsd ia)):=by
 obtain⟨h1,h2,_,h3⟩:=O.gm h;have hK:=O.K;refine PE.imp (jn (nY.or (rB hc)) (O.gl h) h1 h2 (zE ha cQ (qf hs)) (zA h).2.2.2 (zA h).2.2.1 (qf hs)) λσ H Q ⟨τ,S,se,k⟩=>?_
 simp only[qW,qX,zb,qZ,zc,za,zf,zg,qY,qB,qr,qC,qA,qw,qJ,qq,qx,qo,qD,qu,qE,qt,qp,qG,qy,qm,qS,qH,qR,qI,qT,qK,qF,qP,qO,qU,qL,qN,qQ]at k;refine zk se k λda va H1 e1 p1 k1=>?_
 cases da with
 |lst xs=>
  obtain⟨l,vs,rfl,q1,q2⟩:=p1.rb.lst;refine .inl ⟨l,vs,rfl,.inl (by rw[hK];exact q1),λp hp=>?_⟩;exact k1 _ _ (a_.new (p1.same.trans (zp hp)) (dZ (se.sub.same p1.same) hp q2) ((eA (qe.refl _) hp q2).low p1.same))
 |dic kvs=>
  obtain⟨l,rfl,q1⟩:=p1.rb.dic;refine .inr ⟨l,kvs,rfl,q1,λp hp=>?_⟩;have r:ze g (hid H1 S) (kvs.map λp=>D.int p.1) (kvs.map λp=>V.int p.1):=by
   have:=ze.ofInts (g:=g) (H:=hid H1 S) (kvs.map (·.1));rw[bz,bz]at this;exact this
  exact k1 _ _ (a_.new (p1.same.trans (zp hp)) (dZ (se.sub.same p1.same) hp r) ((eA (qe.refl _) hp r).low p1.same))
 |_=>exact k1.elim
theorem sx:PE X (.Dict [] [] pos) (tE w g c E .dic):=PE.imp Cp λσ H Q ⟨τ,S,se,k⟩ p hp=>by
 simp only[qW,qX,zb,qZ,zc,za,zf,zg,qY,qB,qr,qC,qA,qw,qJ,qq,qx,qo,qD,qu,qE,qt,qp,qG,qy,qm,qS,qH,qR,qI,qT,qK,qF,qP,qO,qU,qL,qN,qQ]at k;exact k _ _ (a_.new (zp hp) (Bc (kvs:=[]) se.sub hp) (u6 (kvs:=[]) (qe.refl _) hp))
theorem m_(O:XO w g c E X)(hc:X.calm=true){fe e:Expr}{fi:EV.E}{es:List Expr}{ies:Es}(hf:PE X fe (tE w g c E fi))(ha:PA X (e::es) (tA w g c E ies))(he:c0 ies=true)(hs:∀z∈e::es,isStar z=false)
  (hq:eval (.Call fe (e::es) [] pos) X.env=(do callWith pos (<-eval fe X.env) [] (backTo pos (aL (e::es) X.env)) (backToKw pos (keywordEach [] X.env)))) :
  PE X (.Call fe (e::es) [] pos) (tE w g c E (.callE fi ies)):=λpins s σ H Q I ⟨τ,S,se,kk⟩=>by
 simp only[qW,qX,zb,qZ,zc,za,zf,zg,qY,qB,qr,qC,qA,qw,qJ,qq,qx,qo,qD,qu,qE,qt,qp,qG,qy,qm,qS,qH,qR,qI,qT,qK,qF,qP,qO,qU,qL,qN,qQ]at kk;exact aP kk
theorem pF{b:B1}{S:Sh}{H0 H:Hp}{ds:List D}{vs:List V}{Q:VK}{ies:Es}(s:qe H0 H)(hS:Sub S H)(r:eG g H S ds vs)(k:tR g E H (b1 b ds) λd=>∀v H',a_ g c (.bi b ies) S H0 d v H'->Q v H'):rB1 g b vs H Q:=by
 refine⟨S,ds,hS,r,?_⟩;cases q:b1 b ds with
 |ok d=>
  rw[q]at k;exact λv H' s' r' f=>k v H' ⟨s.trans s',.inl r',λ_=>r',λz=>by
   have:b=.list\/b=.sorted:=by cases b<;>simp[fresh]at z ⊢
   exact(f this).low s⟩
 |ex z=>exact sS q
 |no=>rw[q]at k;exact k
theorem BS(O:XO w g c E X){x:Str}{b:B1}{e:Expr}{es:List Expr}{ies:Es}(h:glob c x=some (.bi b))(hc:X.calm=true\/b=.len\/b=.abs)(ha:PA X (e::es) (tA w g c E ies))(hs:∀z∈e::es,isStar z=false):PE X (.Call (.Name x p2) (e::es) [] pos) (tE w g c E (.bi b ies)):=by
 obtain⟨h1,h2,id,h3⟩:=O.gm h;have hb:=xx b;rw[<-h2,h3]at hb;have hcall:=oG (X:=X) (g:=g) O.K O.units b (by rcases hc with z|z|z;exact .inl z;exact .inr (.inl z);exact .inr (.inr (.inl z)));rw[h3]at hcall;refine PE.imp (oA hcall (O.gl h) h1 hb ha (zA h).2.2.2 (zA h).2.2.1 (qf (hs e aH)) (iU λz hz=>hs z (aI _ hz))) λσ H Q ⟨τ,S,se,k⟩=>?_
 simp only[qW,qX,zb,qZ,zc,za,zf,zg,qY,qB,qr,qC,qA,qw,qJ,qq,qx,qo,qD,qu,qE,qt,qp,qG,qy,qm,qS,qH,qR,qI,qT,qK,qF,qP,qO,qU,qL,qN,qQ]at k;exact fH se k λds vs H1 e1 s1 r1 r1' k1=>pF (ies:=ies) s1 (se.sub.same s1) r1 k1
theorem lB(O:XO w g c E X)(hc:X.calm=true)(mx:Bool){x y:Str}{p3 kp:Pos}(h:glob c x=some (.bi (if mx then .max else .min)))(hy:glob c y=some (.bi .len))(ha:PE X a (tE w g c E ia))(hs:isStar a=false) :
  PE X (.Call (.Name x p2) [a] [⟨some "key",.Name y p3,kp⟩] pos) (tE w g c E (.mxk mx ia)):=λpins s σ H Q I ⟨τ,S,se,kk⟩=>by
 simp only[qW,qX,zb,qZ,zc,za,zf,zg,qY,qB,qr,qC,qA,qw,qJ,qq,qx,qo,qD,qu,qE,qt,qp,qG,qy,qm,qS,qH,qR,qI,qT,qK,qF,qP,qO,qU,qL,qN,qQ]at kk;exact aP kk
theorem tI(O:XO w g c E X){x:Str}{n:String}{b:B1}{e:Expr}{es:List Expr}{ies:Es}(h:glob c x=some (.ty n (some b)))(ha:PA X (e::es) (tA w g c E ies))(hs:∀z∈e::es,isStar z=false):PE X (.Call (.Name x p2) (e::es) [] pos) (tE w g c E (.bi b ies)):=by
 obtain⟨h1,h2,_,h3⟩:=O.gm h;obtain⟨_,h4⟩:=h3 b rfl;have hcall:=oG (X:=X) (g:=g) O.K O.units b (by cases b<;>simp[b1V]at h4 ⊢);rw[h4]at hcall;refine PE.imp (jn hcall (O.gl h) h1 h2 ha (zA h).2.2.2 (zA h).2.2.1 (qf (hs e aH)) (iU λz hz=>hs z (aI _ hz))) λσ H Q ⟨τ,S,se,k⟩=>?_
 simp only[qW,qX,zb,qZ,zc,za,zf,zg,qY,qB,qr,qC,qA,qw,qJ,qq,qx,qo,qD,qu,qE,qt,qp,qG,qy,qm,qS,qH,qR,qI,qT,qK,qF,qP,qO,qU,qL,qN,qQ]at k;exact fH se k λds vs H1 e1 s1 r1 r1' k1=>pF (ies:=ies) s1 (se.sub.same s1) r1 k1
end
end EV
namespace L2
open PySem PySem.Spec PyProof.Rows
open AutoSeq1 (wpAny_loadPart')
end L2
namespace EV
open PySem PySem.Spec PySem.P PyProof.Rows L2
section
variable{w:W}{g:Gc}{c:Cc}{E:XK}{X:Cx}{a b d f:Expr}{ia ib id' if':EV.E}{pos p2:Pos}{ta tb:T}
noncomputable def AZ(w:W)(g:Gc)(d:D)(vc:V)(bb:Bool):Cl->Prop
 | .ty n=>vc=.ty n/\((n∈["int","bool","str","list","tuple"]/\∃t,tyD d=some t/\bb=fz t n)\/∃k,d=.exn k/\w.sub k (.ty n)=some bb)
 | .ex x=>∃D k,g.clA x=some D/\vc=.ref D/\d=.exn k/\w.sub k (.ex x)=some bb
noncomputable def clV(g:Gc)(vc:V):Cl->Prop
 | .ty n=>vc=.ty n/\(n∈["int","bool","str","list","tuple"]\/n = "ValueError")
 | .ex x=>∃D,g.clA x=some D/\vc=.ref D
theorem vS(O:XO w g c E X):zl X (.builtin "isinstance") (λxs H Q=>∃(S:Sh) (d:D) (v:V) (cl:Cl) (vc:V) (bb:Bool),xs=[v,vc]/\zJ g H S d v/\AZ w g d vc bb cl/\Q (.bl bb) H):=by
 have k:=(Au (X:=X) (g:=g) O.K).or (B8 (X:=X));refine zl.imp k λxs H Q ⟨S,d,v,cl,vc,bb,e,rd,h,q⟩=>?_
 have exn:∀(kk:Str) (cv:ae),d=.exn kk->jy vc=some cv->(∃C,g.clA kk=some C/\dD g.K C/\bL g.K (.ref C) cv=some bb)->∃x c cv t b,xs=[x,c]/\jy c=some cv/\TyX X.K H x t/\bL X.K t cv=some b/\Q (.bl b) H:=λkk cv ed hv ⟨C,h1,h2,h3⟩=>by
  subst ed;cases rd.rep with
  | @exn _ a C' z1 z2=>
   rw[h1]at z1;cases z1;exact⟨_,vc,cv,.ref C,bb,e,hv,.inr ⟨a,C,rfl,rfl,z2,by rw[O.K];exact h2⟩,by rw[O.K];exact h3,q⟩
 cases cl with
 |ty n=>
  obtain⟨rfl,⟨hn,t,ht,rfl⟩|⟨kk,rfl,hk⟩⟩:=h
  ·exact .inl ⟨S,d,v,n,t,e,rd,ht,hn,q⟩
  ·obtain⟨C,cv,z1,z2,z3,z4,z5⟩:=O.sub kk (.ty n) bb hk;exact .inr (exn kk (.type n) rfl rfl ⟨C,z1,z2,z5▸z3⟩)
 |ex x=>
  obtain⟨D,kk,h1,rfl,rfl,hk⟩:=h;obtain⟨C,cv,z1,z2,z3,D',z4,z5⟩:=O.sub kk (.ex x) bb hk;rw[h1]at z4;cases z4;exact .inr (exn kk (.ref D) rfl rfl ⟨C,z1,z2,z5▸z3⟩)
theorem xQ{x:D}{cl:Cl}:(∃t n,tyD x=some t/\cl=.ty n/\n≠"ValueError"/\cb w x cl=.ok (.bl (fz t n)))\/(∃k b,x=.exn k/\w.sub k cl=some b/\cb w x cl=.ok (.bl b))\/cb w x cl=.no:=by
 unfold cb;cases e:tyD x with
 |some t=>
  cases cl with
  |ty n=>
   by_cases hn:n = "ValueError"
   ·exact .inr (.inr (by simp[hn]))
   ·exact .inl ⟨t,n,rfl,rfl,hn,by simp[hn]⟩
  |ex y=>exact .inr (.inr rfl)
 |none=>
  cases x with
  |exn k=>
   cases q:w.sub k cl with
   |none=>exact .inr (.inr (by simp[q]))
   |some b=>exact .inr (.inl ⟨k,b,rfl,q,by simp[q]⟩)
  |fn y=>exact .inr (.inr (by cases cl<;>rfl))
  |_=>cases e
theorem uz(O:XO w g c E X){x:Str}{k:Expr}{cl:Cl}(h:glob c x=some .isi)(ha:PE X a (tE w g c E ia))(hk:iM c k=some cl)(hs:isStar a=false):PE X (.Call (.Name x p2) [a,k] [] pos) (tE w g c E (.isi ia cl)):=by
 obtain⟨h1,rfl⟩:=O.gm h;obtain⟨y,q,rfl⟩:∃y q,k=.Name y q:=by
  cases k<;>first|exact⟨_,_,rfl⟩|(simp[iM]at hk)
 obtain⟨vc,hv,hc⟩:∃vc,PE X (.Name y q) (tC vc)/\clV g vc cl:=by
  simp only[iM]at hk;split at hk
  ·rename_i n b e
   cases hk;obtain⟨z1,z2,z3,_⟩:=O.gm e;exact⟨.ty n,Bu (O.gl e) z1 z2 rfl (zA e).2.2.2 (zA e).2.2.1,rfl,z3⟩
  ·rename_i e
   cases hk;obtain⟨C,z1,z2⟩:=O.gm e;exact⟨.ref C,kD (O.gl e) z1 rfl (zA e).2.2.1,C,z2,rfl⟩
  ·rename_i e
   cases hk;obtain⟨C,z1,z2⟩:=O.gm e;exact⟨.ref C,kD (O.gl e) z1 rfl (zA e).2.2.1,C,z2,rfl⟩
  ·cases hk
 refine PE.imp (oA (vS O) (O.gl h) h1 (by decide +kernel) (zE ha (zE hv cQ) (qf hs)) (by decide) (by decide) (qf hs) rfl) λσ H Q ⟨τ,S,se,k⟩=>?_
 simp only[qW,qX,zb,qZ,zc,za,zf,zg,qY,qB,qr,qC,qA,qw,qJ,qq,qx,qo,qD,qu,qE,qt,qp,qG,qy,qm,qS,qH,qR,qI,qT,qK,qF,qP,qO,qU,qL,qN,qQ]at k;refine zk se k λda va H1 e1 p1 k1=>?_
 rcases xQ (w:=w) (x:=da) (cl:=cl)with ⟨t,n,z1,rfl,z2,z3⟩|⟨kk,bb,rfl,z2,z3⟩|z3
 ·rw[z3]at k1;obtain⟨rfl,hc|hc⟩:=hc
  ·exact⟨S,da,va,.ty n,.ty n,_,rfl,p1.rb,⟨rfl,.inl ⟨hc,t,z1,rfl⟩⟩,k1 _ _ (a_.of p1.same (.bl _) rfl)⟩
  ·exact absurd hc z2
 ·rw[z3]at k1;refine⟨S,.exn kk,va,cl,vc,bb,rfl,p1.rb,?_,k1 _ _ (a_.of p1.same (.bl _) rfl)⟩;cases cl with
  |ty n=>exact⟨hc.1,.inr ⟨kk,rfl,z2⟩⟩
  |ex x=>obtain⟨D,z4,z5⟩:=hc;exact⟨D,kk,z4,z5,rfl,z2⟩
 ·rw[z3]at k1;exact k1.elim
theorem CQ(O:XO w g c E X)(ha:PE X a (tE w g c E ia))(he:∀whole,isTrue a X.env whole=(do let v <-whole;standAt a.pos;holding [v] (truthy v))):PT X a (tT w g c E (.val ia)):=
 PT.imp (yN ha he) λσ H Q ⟨τ,S,se,k⟩=>by
  simp only[eQ,eT,eR,eU,eZ,fj,fh]at k;refine zk se k λda va H1 e1 p1 k1=>?_
  cases q:truth da with
  |ok z=>rw[q]at k1;exact⟨z,BP O.K p1.rb q,k1 _ p1.same⟩
  |ex z=>exact absurd q A0
  |no=>rw[q]at k1;exact k1.elim
theorem sJ(ha:PT X a (tT w g c E ta)):PT X (.UnaryOp .Not a pos) (tT w g c E (.not ta)):=
 PT.imp (y_ ha) λσ H Q ⟨τ,S,se,k⟩=>by
  simp only[eQ,eT,eR,eU,eZ,fj,fh]at k;exact i7 se k λz H1 e1 s1 k1=>k1 _ s1
theorem BI{rest:List Expr}(ha:PT X a (tT w g c E ta))(hb:PW X (.BoolOp .And (b::rest) pos) (tT w g c E tb)):PW X (.BoolOp .And (a::b::rest) pos) (tT w g c E (.and ta tb)):=
 PW.imp (u7 ha hb) λσ H Q ⟨τ,S,se,k⟩=>by
  simp only[eQ,eT,eR,eU,eZ,fj,fh]at k;refine i7 se k λz H1 e1 s1 k1=>?_
  cases z with
  |true=>exact⟨τ,S,se.up s1,tR.imp k1 λb hk H' s=>hk H' (s1.trans s)⟩
  |false=>exact k1 _ s1
theorem sg{rest:List Expr}(ha:PT X a (tT w g c E ta))(hb:PW X (.BoolOp .Or (b::rest) pos) (tT w g c E tb)):PW X (.BoolOp .Or (a::b::rest) pos) (tT w g c E (.or ta tb)):=
 PW.imp (B3 ha hb) λσ H Q ⟨τ,S,se,k⟩=>by
  simp only[eQ,eT,eR,eU,eZ,fj,fh]at k;refine i7 se k λz H1 e1 s1 k1=>?_
  cases z with
  |false=>exact⟨τ,S,se.up s1,tR.imp k1 λb hk H' s=>hk H' (s1.trans s)⟩
  |true=>exact k1 _ s1
theorem PI.or{tg e:Expr}{t t':TI}(h:PI X tg e t)(h':PI X tg e t'):PI X tg e (λσ H R=>t σ H R\/t' σ H R):=λpins s σ H R I q=>by
 rcases q with q|q
 ·exact h pins s σ H R I q
 ·exact h' pins s σ H R I q
theorem nv{K:ao}{a:Addr}{vs:List V}{ds:List D}{H:Hp}{S:Sh}(hl:SqL K H a vs)(r:ze g (hid H S) ds vs):Goes g (Itl K a) ds H S:=by
 refine⟨λi hi=>⟨vs,hl,by rw[<-r.length];exact hi⟩,λi d hd=>?_⟩;obtain⟨v,h1,h2⟩:=r.get hd;refine⟨⟨vs,v,hl,h1⟩,λx H' ⟨e,hx⟩=>?_⟩;subst e;have:=hx vs hl;rw[h1]at this;cases this;exact⟨qe.refl _,h2⟩
theorem oC{K:ao}{a:Addr}{vs:List V}{ds:List D}{H:Hp}{S:Sh}(hl:SqT K H a vs)(r:ze g (hid H S) ds vs):Goes g (Itt K a) ds H S:=by
 refine⟨λi hi=>⟨vs,hl,by rw[<-r.length];exact hi⟩,λi d hd=>?_⟩;obtain⟨v,h1,h2⟩:=r.get hd;refine⟨⟨vs,v,hl,h1⟩,λx H' ⟨e,hx⟩=>?_⟩;subst e;have:=hx vs hl;rw[h1]at this;cases this;exact⟨qe.refl _,h2⟩
theorem oJ:∀{xs ys:List D}{i:Nat}{d:D},(b_ xs ys)[i]? = some d->∃x y,xs[i]? = some x/\ys[i]? = some y/\d=.tup [x,y]
 | [],_,_,_,h=>by simp[b_]at h
 |_::_,[],_,_,h=>by simp[b_]at h
 |x::r,y::t,0,d,h=>by simp[b_]at h;exact⟨x,y,rfl,rfl,h.symm⟩
 |x::r,y::t,i+1,d,h=>by
  simp only[b_,List.getElem?_cons_succ]at h;obtain⟨x',y',h1,h2,h3⟩:=oJ h;exact⟨x',y',by simpa using h1,by simpa using h2,h3⟩
theorem oR:∀(xs ys:List D),(b_ xs ys).length=min xs.length ys.length
 | [],_=>by simp[b_]
 |_::_,[]=>by simp[b_]
 |x::r,y::t=>by simp[b_,oR r t]
theorem iy{K:ao}{tup:Bool}{a b:Addr}{vs us:List V}{ds es:List D}{H:Hp}{S:Sh}(hl:Sq2 K tup H a vs)(hl':Sq2 K tup H b us)(r:ze g (hid H S) ds vs)(r':ze g (hid H S) es us)(hn:ds.length=es.length)(hS:Sub S H):Goes g (Itz K tup a b) (b_ ds es) H S:=by
 refine⟨λi hi=>⟨vs,us,hl,hl',by rw[oR]at hi;rw[<-r.length];lia⟩,λi d hd=>?_⟩;obtain⟨x,y,h0,h0',rfl⟩:=oJ hd;obtain⟨v,h1,h2⟩:=r.get h0;obtain⟨u,h3,h4⟩:=r'.get h0';refine⟨⟨vs,us,v,u,hl,hl',h1,h3⟩,λx H' ⟨p,z,z',hp,e1,e2,hx,hx'⟩=>?_⟩;subst e1 e2;have q:=hx vs hl;rw[h1]at q;cases q;have q:=hx' us hl';rw[h3]at q;cases q;exact⟨zp hp,gZ hS hp (.cons h2 (.cons h4 .nil))⟩
theorem ji{lo:Int}{n:Nat}{H:Hp}{S:Sh}:Goes g (Itr lo n) (cn lo n) H S:=by
 refine⟨λi hi=>by show n<=i;simpa[cn]using hi,λi d hd=>?_⟩;unfold cn at hd;rw[List.getElem?_map]at hd;cases q:(a9 n)[i]? with
 |none=>rw[q]at hd;cases hd
 |some j=>
  rw[q]at hd;cases hd;have hi:=(List.getElem?_eq_some_iff.mp q)
  obtain⟨h1,h2⟩:=hi;simp at h1 h2;subst h2;exact⟨h1,λx H' ⟨e1,e2⟩=>by subst e1 e2;exact⟨qe.refl _,.int _⟩⟩
theorem nN{lo st:Int}{n:Nat}{H:Hp}{S:Sh}:Goes g (ItS lo st n) (fQ lo st n) H S:=by
 refine⟨λi hi=>by show n<=i;simpa[fQ]using hi,λi d hd=>?_⟩;unfold fQ at hd;rw[List.getElem?_map]at hd;cases q:(a9 n)[i]? with
 |none=>rw[q]at hd;cases hd
 |some j=>
  rw[q]at hd;cases hd;have hi:=(List.getElem?_eq_some_iff.mp q)
  obtain⟨h1,h2⟩:=hi;simp at h1 h2;subst h2;exact⟨h1,λx H' ⟨e1,e2⟩=>by subst e1 e2;exact⟨qe.refl _,.int _⟩⟩
theorem Ap(O:XO w g c E X){tg:Expr}(ha:PE X a (tE w g c E ia)):PI X tg a (tIt w g c E (.seq ia)):=
 PI.imp (PI.or (z_ ha) (sV ha)) λσ H R ⟨τ,S,se,k⟩=>by
  have k0:=k;simp only[evI]at k;cases q:evE w ia τ with
  |ex z=>exact .inl ⟨τ,S,se,by rw[q]at k ⊢;exact k⟩
  |no=>rw[q]at k;exact k.elim
  |ok dd=>
   cases dd with
   |lst ds=>
    refine .inl (zk se k λda va H1 e1 p1 k1=>?_);rw[q]at e1;cases e1;obtain⟨ad,vs,rfl,h1,r1⟩:=p1.rb.lst;rw[<-O.K]at h1;refine⟨ad,rfl,⟨vs,h1⟩,k1 _ H1 p1.same (λH2 S2 s1 s2 _=>nv (s1.seq h1) (r1.mono s2)) λho H2 S2 s2 _=>?_⟩;have he:esc ia=true:=by
     cases ia<;>first|rfl|(simp[owned]at ho)
    cases p1.st he with
    |lst h2 r2=>exact nv (by rw[O.K];exact(s2.trans zM).seq h2) (r2.mono s2)
   |tup ds=>
    refine .inr (zk se k λda va H1 e1 p1 k1=>?_);rw[q]at e1;cases e1;cases p1.rb.strong (by intro _ z;cases z)with
    |tup h2 r2=>
     refine⟨_,rfl,⟨_,by rw[O.K];exact zI zM h2⟩,k1 _ H1 p1.same (λH2 S2 s1 s2 _=>oC (by rw[O.K];exact zI (s2.trans zM) h2) (r2.mono s2)) λho H2 S2 s2 _=>oC (by rw[O.K];exact zI (s2.trans zM) h2) (r2.mono s2)⟩
   |_=>rw[q]at k;exact k.elim
theorem i'{j:Int}(h:qV j=true):-1000000<=j/\j<=1000000:=by simpa[qV]using h
theorem AF(O:XO w g c E X){x:Str}{tg:Expr}(h:glob c x=some .rng)(ha:PE X a (tE w g c E ia))(hs:isStar a=false):PI X tg (.Call (.Name x p2) [a] [] pos) (tIt w g c E (.rng ia)):=by
 obtain⟨h1,rfl⟩:=O.gm h;refine PI.imp (uu (O.gl h) h1 (zE ha cQ (qf hs)) (qf hs)) λσ H R ⟨τ,S,se,k⟩=>?_
 simp only[evI]at k;refine zk se k λda va H1 e1 p1 k1=>?_
 cases da with
 |int j=>
  simp only at k1;cases q:qV j with
  |true=>
   rw[q,if_pos rfl]at k1;obtain⟨z1,z2⟩:=i' q;exact⟨j,by rw[p1.rb.int],by lia,by lia,k1 _ H1 p1.same (λ_ _ _ _ _=>ji) λ_ _ _ _ _=>ji⟩
  |false=>rw[q]at k1;exact k1.elim
 |_=>exact k1.elim
theorem AX(O:XO w g c E X){x:Str}{tg:Expr}(h:glob c x=some .rng)(ha:PE X a (tE w g c E ia))(hb:PE X b (tE w g c E ib))(hs:isStar a=false)(hs':isStar b=false):PI X tg (.Call (.Name x p2) [a,b] [] pos) (tIt w g c E (.rng2 ia ib)):=by
 obtain⟨h1,rfl⟩:=O.gm h;refine PI.imp (wQ (O.gl h) h1 (zE ha (zE hb cQ (qf hs')) (qf hs)) (by rw[qf hs,qf hs'];rfl) (qf hs')) λσ H R ⟨τ,S,se,k⟩=>?_
 simp only[evI]at k;refine zk se k λda va H1 e1 p1 k1=>zk (se.up p1.same) k1 λdb vb H2 e2 p2 k2=>?_
 cases da with
 |int i=>
  cases db with
  |int j=>
   simp only at k2;cases q:qV i&&qV j with
   |true=>
    rw[q,if_pos rfl]at k2;simp only[aC]at q;obtain⟨z1,z2⟩:=i' q.1;obtain⟨z3,z4⟩:=i' q.2;exact⟨i,j,by rw[p1.rb.int,p2.rb.int],⟨by lia,by lia,by lia,by lia⟩,k2 _ H2 (p1.same.trans p2.same) (λ_ _ _ _ _=>ji) λ_ _ _ _ _=>ji⟩
   |false=>rw[q]at k2;exact k2.elim
  |_=>exact k2.elim
 |_=>exact k2.elim
theorem A_(O:XO w g c E X){x:Str}{tg d:Expr}{id:EV.E}(h:glob c x=some .rng)(ha:PE X a (tE w g c E ia))(hb:PE X b (tE w g c E ib))(hd:PE X d (tE w g c E id))(hs:isStar a=false)(hs':isStar b=false)(hs'':isStar d=false):PI X tg (.Call (.Name x p2) [a,b,d] [] pos) (tIt w g c E (.rng3 ia ib id)):=λpins s σ H R I ⟨τ,S,se,kk⟩=>by
 simp only[evI]at kk;exact aP kk
theorem sj(O:XO w g c E X){x:Str}{es:List Expr}{ek:Nat}{epos:Pos}(h:glob c x=some .enum)(ha:PE X a (tE w g c E ia))(hs:isStar a=false):PI X (.Tuple es ek epos) (.Call (.Name x p2) [a] [] pos) (tIt w g c E (.enum ia)):=λpins s σ H R I ⟨τ,S,se,kk⟩=>by
 simp only[evI]at kk;exact aP kk
theorem u9(O:XO w g c E X){x:Str}{es:List Expr}{ek:Nat}{epos:Pos}(h:glob c x=some .zip)(ha:PE X a (tE w g c E ia))(hb:PE X b (tE w g c E ib))(hs:isStar a=false)(hs':isStar b=false):PI X (.Tuple es ek epos) (.Call (.Name x p2) [a,b] [] pos) (tIt w g c E (.zip ia ib)):=by
 obtain⟨h1,rfl⟩:=O.gm h;refine PI.imp (xa (O.gl h) h1 (by decide +kernel) (zE ha (zE hb cQ (qf hs')) (qf hs)) (by rw[qf hs,qf hs'];rfl) (qf hs')) λσ H R ⟨τ,S,se,k⟩=>?_
 simp only[evI]at k;refine zk se k λda va H1 e1 p1 k1=>zk (se.up p1.same) k1 λdb vb H2 e2 p2 k2=>?_
 have hown:∀{i1 i2:EV.E},owned (.zip i1 i2)=false->esc i1=true/\esc i2=true:=λ{i1 i2} z=>by
  have a:∀{i:EV.E},esc i=false->∃k,i=.own k:=λ{i} h=>by cases i<;>first|exact⟨_,rfl⟩|cases h
  cases e1:esc i1 with
  |false=>obtain⟨k,rfl⟩:=a e1;cases z
  |true=>
   cases e2:esc i2 with
   |false=>obtain⟨k,rfl⟩:=a e2;cases i1<;>cases z
   |true=>exact⟨rfl,rfl⟩
 have s12:=p1.same.trans p2.same;cases da with
 |lst ds=>
  cases db with
  |lst es=>
   simp only at k2;by_cases hn:ds.length=es.length
   ·rw[if_pos hn]at k2;obtain⟨ad,vs,rfl,h1,r1⟩:=(p1.rb.mono p2.same).lst;obtain⟨bd,us,rfl,h2,r2⟩:=p2.rb.lst;rw[<-O.K]at h1 h2;refine⟨false,ad,bd,rfl,⟨vs,h1⟩,⟨us,h2⟩,k2 _ H2 s12 (λH3 S3 s1 s2 s3=>iy (tup:=false) (s1.seq h1) (s1.seq h2) (r1.mono s2) (r2.mono s2) hn s3) λho H3 S3 s2 s3=>?_⟩;obtain⟨o1,o2⟩:=hown ho;cases (p1.st o1).mono (qi p2.same)with
    |lst h3 r3=>
     cases p2.st o2 with
     |lst h4 r4=>exact iy (tup:=false) (by rw[O.K];exact(s2.trans zM).seq h3) (by rw[O.K];exact(s2.trans zM).seq h4) (r3.mono s2) (r4.mono s2) hn s3
   ·rw[if_neg hn]at k2;exact k2.elim
  |_=>exact k2.elim
 |tup ds=>
  cases db with
  |tup es=>
   simp only at k2;by_cases hn:ds.length=es.length
   ·rw[if_pos hn]at k2;cases (p1.rb.mono p2.same).strong (by intro _ z;cases z)with
    |tup h3 r3=>
     cases p2.rb.strong (by intro _ z;cases z)with
     |tup h4 r4=>
      refine⟨true,_,_,rfl,⟨_,by rw[O.K];exact zI zM h3⟩,⟨_,by rw[O.K];exact zI zM h4⟩,k2 _ H2 s12 (λH3 S3 s1 s2 s3=>?_) λho H3 S3 s2 s3=>?_⟩
      ·exact iy (tup:=true) (by rw[O.K];exact zI (s2.trans zM) h3) (by rw[O.K];exact zI (s2.trans zM) h4) (r3.mono s2) (r4.mono s2) hn s3
      ·exact iy (tup:=true) (by rw[O.K];exact zI (s2.trans zM) h3) (by rw[O.K];exact zI (s2.trans zM) h4) (r3.mono s2) (r4.mono s2) hn s3
   ·rw[if_neg hn]at k2;exact k2.elim
  |_=>exact k2.elim
 |_=>exact k2.elim
end
noncomputable def gE:List Nat->TGs
 | []=>lA
 |i::is=>nh (eP i) (gE is)
noncomputable def gT(K:ao):Tg->TG
 | .nm i=>eP i
 | .tp is=>pM K is.length (gE is)
section
variable{w:W}{g:Gc}{c:Cc}{E:XK}{X:Cx}
theorem zz{x:Str}{i:Nat}(h:bJ c x=some i):loc c x=some i/\(c.nm.lookup x=some .local\/(c.nm.lookup x=some .cell/\(c.fnc=true\/c.oc.contains x=true))):=by
 unfold bJ at h;split at h
 ·rename_i q;exact⟨h,.inl q⟩
 ·rename_i q
  split at h
  ·rename_i z;exact⟨h,.inr ⟨q,by simpa using z⟩⟩
  ·cases h
 ·cases h
theorem oK(O:XO w g c E X){x:Str}{i:Nat}{pos:Pos}(h:bJ c x=some i):PG X (.Name x pos) (eP i):=by
 obtain⟨h1,h2⟩:=zz h;obtain⟨h3,_⟩:=zy h1;refine yw (by rw[O.N];exact O.nd) (by rw[O.N];exact h3) (by unfold L2.Loc;rw[O.nm];rcases h2 with z|z;exact .inl z;exact .inr z.1) ?_;rcases h2 with z|z
 ·exact .inr (by rw[O.nm];exact z)
 ·exact .inl (O.fn x z.2)
theorem oP:∀{es:List Expr}{xs:List Str},gf es=some xs->∃ps:List Pos,es=(xs.zip ps).map (λp=>Expr.Name p.1 p.2)/\ps.length=xs.length
 | [],xs,h=>by simp[gf]at h;subst h;exact⟨[],rfl,rfl⟩
 |e::es,xs,h=>by
  cases e with
  |Name y p=>
   simp only[gf,bq]at h;obtain⟨ys,h1,rfl⟩:=h;obtain⟨ps,h2,h3⟩:=oP h1;exact⟨p::ps,by rw[h2];rfl,by simp[h3]⟩
  |_=>simp[gf]at h
theorem nt(O:XO w g c E X):∀{xs:List Str}{ps:List Pos}{is:List Nat},ps.length=xs.length->xs.mapM (bJ c)=some is ->
  PGs X ((xs.zip ps).map λp=>Expr.Name p.1 p.2) (gE is)/\(assignEach ((xs.zip ps).map λp=>Expr.Name p.1 p.2) X.env).length=is.length/\(assignEach ((xs.zip ps).map λp=>Expr.Name p.1 p.2) X.env).findIdx? (·.1)=none
 | [],ps,is,_,h=>by
  simp at h;subst h;exact⟨vD,rfl,rfl⟩
 |x::xs,[],_,h,_=>by simp at h
 |x::xs,p::ps,is,hl,h=>by
  simp only[List.mapM_cons,ay,aw]at h;obtain⟨i,h1,js,h2,h3⟩:=h;cases h3;obtain⟨r1,r2,r3⟩:=nt O (xs:=xs) (ps:=ps) (by simpa using hl) h2;refine⟨Bf (oK O h1) r1 rfl,?_,?_⟩
  ·show (assignEach ((xs.zip ps).map λp=>Expr.Name p.1 p.2) X.env).length+1=js.length+1;rw[r2]
  ·show List.findIdx? (·.1) ((false,_)::assignEach ((xs.zip ps).map λp=>Expr.Name p.1 p.2) X.env)=none;rw[List.findIdx?_cons];simp only[bM,if_false];rw[r3];rfl
theorem fA(O:XO w g c E X){e:Expr}{tg:Tg}(h:cTg c e=some tg):PG X e (gT X.K tg):=by
 cases e with
 |Name x p=>
  simp only[cTg]at h;split at h
  ·cases h
  ·simp only[bq]at h;obtain⟨i,h1,rfl⟩:=h;exact oK O h1
 |Tuple es k p=>
  simp only[cTg]at h;split at h
  ·rename_i hc
   simp only[ay,aw]at h;obtain⟨xs,h1,h⟩:=h;split at h
   ·cases h
   ·simp only[aw]at h;obtain⟨is,h2,h⟩:=h;split at h
    ·cases h;obtain⟨ps,rfl,hl⟩:=oP h1;obtain⟨r1,r2,r3⟩:=nt O hl h2;exact wV (O.calm hc) r1 r2 r3
    ·cases h
  ·cases h
 |_=>simp[cTg]at h
noncomputable def gU(c:Cc):Tg->Prop
 | .nm i=>∀x,c.N[i]? = some x->c.own.contains x=false
 | .tp is=>∀i∈is,∀x,c.N[i]? = some x->c.own.contains x=false
theorem nR{α β:Type}{f:α->Option β}:∀{xs:List α}{ys:List β},xs.mapM f=some ys->∀y∈ys,∃x∈xs,f x=some y
 | [],ys,h,y,hy=>by simp at h;subst h;simp at hy
 |x::xs,ys,h,y,hy=>by
  simp only[List.mapM_cons,ay,aw]at h;obtain⟨z,h1,zs,h2,h3⟩:=h;cases h3;rcases aF.mp hy with rfl|hy
  ·exact⟨x,aH,h1⟩
  ·obtain⟨x',h4,h5⟩:=nR h2 y hy;exact⟨x',aI _ h4,h5⟩
theorem jP{e:Expr}{tg:Tg}(h:cTg c e=some tg):gU c tg:=by
 have one:∀{x:Str}{i:Nat},c.own.contains x=false->bJ c x=some i->∀y,c.N[i]? = some y->c.own.contains y=false:=λ{x i} ho hl y hy=>by
  obtain⟨h3,_⟩:=zy (zz hl).1;rw[h3]at hy;cases hy;exact ho
 cases e with
 |Name x p=>
  simp only[cTg]at h;split at h
  ·cases h
  ·rename_i ho
   simp only[bq]at h;obtain⟨i,h1,rfl⟩:=h;exact one (by simpa using ho) h1
 |Tuple es k p=>
  simp only[cTg]at h;split at h
  ·simp only[ay,aw]at h;obtain⟨xs,h1,h⟩:=h;split at h
   ·cases h
   ·rename_i ho
    simp only[aw]at h;obtain⟨is,h2,h⟩:=h;split at h
    ·cases h;intro i hi;obtain⟨x,hx,hl⟩:=nR h2 i hi;refine one ?_ hl;cases q:c.own.contains x with
     |false=>rfl
     |true=>exact absurd (cW.mpr ⟨x,hx,q⟩) ho
    ·cases h
  ·cases h
 |_=>simp[cTg]at h
section
variable{τ τ':Env}{σ:L2.St}{H:Hp}{S:Sh}
theorem SE.set{i:Nat}{d:D}{v:V}(se:SE g c τ σ H S)(r:Rep g (hid H S) d v):SE g c (τ.set i (some d)) (σ.set i (some v)) H S:=by
 refine⟨by simp[se.len],λj e h=>?_,se.sub⟩;by_cases hij:i=j
 ·subst hij;by_cases hi:i<τ.length
  ·simp[hi]at h;subst h;have hi':i<σ.length:=by rw[<-se.len];exact hi
   exact⟨v,by simp[hi'],.inl r,λ_ _ _=>r⟩
  ·rw[List.set_eq_of_length_le (by lia)]at h;rw[List.getElem?_eq_none (by lia)]at h;cases h
 ·rw[List.getElem?_set_ne hij]at h ⊢;exact se.val j e h
theorem SE.setAll{is:List Nat}:∀{ds:List D}{vs:List V}{τ:Env}{σ:L2.St}{Q:L2.St->Hp->Prop},SE g c τ σ H S->ze g (hid H S) ds vs->setAll is ds τ=.ok τ'->(∀σ',SE g c τ' σ' H S->Q σ' H)->gE is vs σ H Q:=by
 induction is with
 |nil=>
  intro ds vs τ σ Q se r h k;cases r with
  |nil=>cases (show R.ok τ=R.ok τ' from h);exact⟨rfl,k σ se⟩
  |cons _ _=>cases (show R.no=R.ok τ' from h)
 |cons i is ih=>
  intro ds vs τ σ Q se r h k;cases r with
  |nil=>cases (show R.no=R.ok τ' from h)
  |cons r rs=>exact⟨_,_,rfl,ih (se.set r) rs h k⟩
theorem Al(O:X.K=g.K){tg:Tg}{d:D}{v:V}{Q:L2.St->Hp->Prop}(se:SE g c τ σ H S)(r:Rep g (hid H S) d v)(h:store tg d τ=.ok τ')(k:∀σ',SE g c τ' σ' H S->Q σ' H):gT X.K tg v σ H Q:=by
 cases tg with
 |nm i=>
  simp only[store,R.ok.injEq]at h;subst h;exact k _ (se.set r)
 |tp is=>
  cases d with
  |tup ds=>
   simp only[store]at h;split at h
   ·rename_i hl
    cases r with
    |tup h1 r1=>exact⟨_,_,rfl,by rw[O];exact zI zM h1,by rw[<-r1.length];exact hl,se.setAll r1 h k⟩
   ·cases h
  |_=>simp[store]at h
end
end
abbrev bV(c:Cc)(sc:aO):Cc:={c with nm:=gN sc.names c.nm,N:=zD sc.names,fnc:=false,oc:=fL sc.names}
section
variable{w:W}{g:Gc}{c:Cc}{E:XK}{X:Cx}
theorem XO.comp(O:XO w g c E X){sc:aO}(hk:sc.kind=.function)(hnd:(zD sc.names).Nodup)(cl:List (Str×Addr))(C:Addr)(s₀:af)(H₀:Hp)(fp:List Addr):XO w g (bV c sc) E0 (zC X (zD sc.names) sc cl C s₀ H₀ fp) where
 K:=O.K
 nm:=by
  show (relabel sc X.env).names=gN sc.names c.nm;unfold relabel gN;simp only
  congr 1
  funext p;have h1:(X.env.scope.kind==ScopeKind.function)=true:=by rw[O.kind];rfl
  have h2:X.env.kindOf p.1=c.nm.lookup p.1:=by show X.env.scope.names.lookup p.1=_;rw[O.nm]
  obtain⟨n,k⟩:=p;simp only at h2;simp only[h1,h2,Bool.and_true]
 N:=rfl
 nd:=hnd
 calm:=O.calm
 units:=O.units
 fn:=λx z=>z.elim (λz=>by cases z) λz=>z
 kind:=hk
 pass:=jU rfl rfl
 gok:=O.gok
 fns:=O.fns
 sub:=O.sub
theorem rF{α:Type}{τ:Env}{σ:L2.St}{H:Hp}{S:Sh}{it:It}{f:List D->R α}{P:α->Prop}{R':L2.It->Hp->Prop}(se:SE g c τ σ H S)(h:tR g E H ((evI w it τ).bind f) P)
  (k:∀ds J H',evI w it τ=.ok ds->qe H H'->(∀H2 S2,qe H' H2->qe (hid H' S) (hid H2 S2)->Sub S2 H2->Goes g J ds H2 S2)->(owned it=false->∀H2 S2,qe (hid H' S) (hid H2 S2)->Sub S2 H2->Goes g J ds H2 S2)->tR g E H' (f ds) P->R' J H'):tIt w g c E it σ H R':=by
 refine⟨τ,S,se,?_⟩;cases q:evI w it τ with
 |ok d=>rw[q]at h;exact λJ H' s k1 k2=>k d J H' q s k1 k2 (tR.up h s)
 |ex x=>rw[q]at h;exact h
 |no=>rw[q]at h;exact h
theorem ve{α:Type}{r:R α}{x:Str}:noEx r≠.ex x:=by cases r<;>intro h<;>cases h
theorem yW{α:Type}{r:R α}{a:α}(h:noEx r=.ok a):r=.ok a:=by cases r<;>first|exact h|cases h
theorem ou{body:D->Env->R (Env×List D)}(hb:∀d τ x,body d τ≠.ex x):∀{ds:List D}{τ:Env}{acc:List D}{x:Str},bY body ds τ acc≠.ex x
 | [],_,_,_,h=>by cases h
 |d::r,τ,acc,x,h=>by
  simp only[bY]at h;cases q:body d τ with
  |ok p=>rw[q]at h;exact ou hb h
  |ex y=>exact hb _ _ _ q
  |no=>rw[q]at h;cases h
theorem SE.caps{sc:aO}{cap:List (Option Nat)}{τ:Env}{σ:L2.St}{H:Hp}{S:Sh}(O:XO w g c E X)(hc:pJ X (zD sc.names) cap sc)(se:SE g c τ σ H S):SE g (bV c sc) (dC cap τ) (L2.caps cap σ) H S:=by
 refine⟨by simp[dC,L2.caps],λi d h=>?_,se.sub⟩;unfold dC at h;rw[List.getElem?_map]at h;cases q:cap[i]? with
 |none=>rw[q]at h;cases h
 |some o=>
  cases o with
  |none=>rw[q]at h;cases h
  |some j=>
   rw[q]at h;simp only[Option.map_some,Option.bind_some,cg]at h;cases q2:τ[j]? with
   |none=>rw[q2]at h;cases h
   |some z=>
    rw[q2]at h;cases z with
    |none=>cases h
    |some d'=>
     have:d'=d:=by simpa using h
     subst this;obtain⟨v,h1,h2,h3⟩:=se.val j d' q2;refine⟨v,?_,h2,λx hx ho=>?_⟩
     ·unfold L2.caps;rw[List.getElem?_map,q];simp[h1]
     ·obtain⟨y,e1,e2,_⟩:=hc.2 i j q;have hx':(zD sc.names)[i]? = some x:=hx;rw[e1]at hx';cases hx';exact h3 _ (by rw[<-O.N];exact e2) ho
theorem gG{H:Hp}{S:Sh}{p:Addr}{o:HO}(h:S.h p=true):hid (upd H p o) S=hid H S:=by
 funext b;unfold hid;by_cases hb:b=p
 ·subst hb;rw[if_pos h,if_pos h]
 ·rw[qM hb]
theorem SE.grow{c:Cc}{τ:Env}{σ:L2.St}{H:Hp}{S:Sh}{p:Addr}{o:HO}(se:SE g c τ σ H S)(h:S.h p=true)(ho:S.o p=false):SE g c τ σ (upd H p o) S:=by
 refine⟨se.len,λi d e=>?_,λa ha n=>?_⟩
 ·obtain⟨v,h1,h2,h3⟩:=se.val i d e;refine⟨v,h1,?_,λx hx hy=>by rw[gG h];exact h3 x hx hy⟩;rcases h2 with h2|⟨a,o',z1,z2,z4,z5⟩
  ·exact .inl (by rw[gG h];exact h2)
  ·refine .inr ⟨a,o',z1,z2,?_,by rw[gG h];exact z5⟩;rw[qM (λz=>by rw[z,ho]at z1;cases z1)];exact z4
 ·by_cases hb:a=p
  ·subst hb;rw[zB]at n;cases n
  ·rw[qM hb]at n;exact se.sub a ha n
theorem SE.hide{c:Cc}{τ:Env}{σ:L2.St}{H:Hp}{S:Sh}{p:Addr}{vs:List V}(se:SE g c τ σ H S)(hp:H p=none):SE g c τ σ (upd H p (.lst vs)) (cq S p):=by
 refine⟨se.len,λi d e=>?_,λa ha n=>?_⟩
 ·obtain⟨v,h1,h2,h3⟩:=se.val i d e;refine⟨v,h1,?_,λx hx hy=>(h3 x hx hy).mono (iu hp)⟩;rcases h2 with h2|⟨a,o',z1,z2,z4,z5⟩
  ·exact .inl (h2.mono (iu hp))
  ·exact .inr ⟨a,o',z1,z2,zp hp _ _ z4,z5.mono (iu hp)⟩
 ·by_cases hb:a=p
  ·subst hb;rw[zB]at n;cases n
  ·rw[qM hb]at n;refine se.sub a ?_ n;rcases ha with ha|ha
   ·refine .inl ?_;have ha:(S.h a||a==p)=true:=ha
    simpa[hb]using ha
   ·exact .inr ha
theorem k_(O:XO w g c E X){sc:aO}{cap:List (Option Nat)}{iit:It}{itg:Tg}{tt:T}{ielt:EV.E}(hS:cM X (zD sc.names) cap sc)(he:esc ielt=true){σ:L2.St}{H:Hp}{Q:VK}(hq:tE w g c E (.comp iit cap itg tt ielt) σ H Q) :
  jz cap (tIt w g c E iit) (gT X.K itg) (tT w g (bV c sc) E0 tt) (λacc=>iE acc (tE w g (bV c sc) E0 ielt)) σ H Q:=by
 obtain⟨τ,S,se,k⟩:=hq;simp only[qW,qX,zb,qZ,zc,za,zf,zg,qY,qB,qr,qC,qA,qw,qJ,qq,qx,qo,qD,qu,qE,qt,qp,qG,qy,qm,qS,qH,qR,qI,qT,qK,qF,qP,qO,qU,qL,qN,qQ]at k;refine rF se k λds J H1 e1 s1 kW _ k1 acc hacc=>?_
 by_cases hz:SZ<ds.length
 ·rw[if_pos hz]at k1;exact k1.elim
 rw[if_neg hz]at k1;generalize hbody:(λx σ=>noEx ((store itg x σ).bind λσ'=>(evT w tt σ').bind λr=>if r=true then (evE w ielt σ').bind λd=>R.ok (σ',[d])else R.ok (σ',[])))=body at k1;have bex:∀d τ x,body d τ≠.ex x:=λd τ x=>by rw[<-hbody];exact ve
 cases hl:bY body ds (dC cap τ) []with
 |ex z=>exact absurd hl (ou bex)
 |no=>rw[hl]at k1;exact k1.elim
 |ok out=>
  rw[hl]at k1;simp only[R.bind_ok]at k1;have k1:∀v H',a_ g c (.comp iit cap itg tt ielt) S H (.lst out) v H'->Q v H':=k1;have sub1:=se.sub.same s1;have hoacc:S.o acc=false:=sub1.freeO hacc;have hhacc:(cq S acc).h acc=true:=by show (S.h acc||acc==acc)=true;simp
  -- what holds between two turns
  refine⟨λi m σ' H'=>m=ds.length-i/\i<=ds.length/\∃τ' o,bY body (ds.drop i) τ' o=.ok out/\SE g (bV c sc) τ' σ' H' (cq S acc)/\o.length<=i/\qe H1 H'/\∃vs,H' acc=some (.lst vs)/\ze g (hid H' (cq S acc)) o vs,
   ⟨ds.length,rfl,b7 _,dC cap τ,[],hl,(se.up s1).caps O hS.cap |>.hide hacc,aB _,zp hacc,[],zB,.nil⟩,?_⟩
  rintro i m σ' H' ⟨rfl,hi',τ',o,hlo,se',hol,s1',vs,hv,hr⟩;have keep:qe (hid H1 S) (hid H' (cq S acc)):=λb u hb=>by
   obtain⟨z1,z2⟩:=bp.mp hb;refine bp.mpr ⟨?_,s1' _ _ z2⟩;show (S.h b||b==acc)=false;rw[z1]
   simpa using λz:b=acc=>by rw[z,hacc]at z2;cases z2
  obtain⟨g1,g2⟩:=kW H' (cq S acc) s1' keep se'.sub;by_cases hlt:i<ds.length
  ·have hd:ds[i]? = some ds[i]:=List.getElem?_eq_getElem hlt;obtain⟨go1,go2⟩:=g2 i ds[i] hd;refine .inr ⟨go1,λσ'' H''=>∃τ' o,bY body (ds.drop (i+1)) τ' o=.ok out/\SE g (bV c sc) τ' σ'' H'' (cq S acc)/\o.length<=i+1/\qe H1 H''/\∃vs,H'' acc=some (.lst vs)/\ze g (hid H'' (cq S acc)) o vs,
    λσ'' H'' z=>⟨ds.length-(i+1),by lia,rfl,hlt,z⟩,λx H2 hy=>?_⟩
   obtain⟨s2,rx⟩:=go2 x H2 hy;rw[List.drop_eq_getElem_cons hlt]at hlo;simp only[bY]at hlo;cases q:body ds[i] τ' with
   |ex z=>exact absurd q (bex _ _ _)
   |no=>rw[q]at hlo;cases hlo
   |ok p=>
    rw[q]at hlo;simp only[R.bind_ok]at hlo;rw[<-hbody]at q;have q:=yW q;cases q1:store itg ds[i] τ' with
    |ex z=>rw[q1]at q;cases q
    |no=>rw[q1]at q;cases q
    |ok τ1=>
     rw[q1]at q;simp only[R.bind_ok]at q;refine Al O.K (se'.up s2) rx q1 λσ1 se1=>?_
     cases q2:evT w tt τ1 with
     |ex z=>rw[q2]at q;cases q
     |no=>rw[q2]at q;cases q
     |ok r=>
      rw[q2]at q;simp only[R.bind_ok]at q;refine⟨τ1,cq S acc,se1,?_⟩;rw[q2];intro H3 s3;have hv3:=s3 _ _ (s2 _ _ hv);have s13:=s1'.trans (s2.trans s3);cases r with
      |false=>
       simp only[bM,if_false,R.ok.injEq]at q;subst q;rw[if_neg bK];exact⟨τ1,o++[],hlo,se1.up s3,by simp;lia,s13,vs,hv3,by rw[List.append_nil];exact hr.mono (qi (s2.trans s3))⟩
      |true=>
       simp only[if_true]at q;rw[if_pos rfl];cases q3:evE w ielt τ1 with
       |ex z=>rw[q3]at q;cases q
       |no=>rw[q3]at q;cases q
       |ok dd=>
        rw[q3]at q;simp only[R.bind_ok,R.ok.injEq]at q;subst q;refine⟨τ1,cq S acc,se1.up s3,?_⟩;rw[q3];intro v H4 p4;have hv4:=p4.same _ _ hv3;have hr4:=hr.mono (qi ((s2.trans s3).trans p4.same));have hz':vs.length<sizeLine:=by
         rw[<-hr.length,aW];have:ds.length<=SZ:=Nat.le_of_not_lt hz;unfold SZ at this;lia
        refine⟨vs,hv4,hz',τ1,o++[dd],hlo,(se1.up (s3.trans p4.same)).grow hhacc hoacc,by simp;lia,λb u hb=>?_,vs++[v],zB,?_⟩
        ·rw[qM (λz=>by rw[z,hacc]at hb;cases hb)];exact p4.same _ _ (s13 _ _ hb)
        ·rw[gG hhacc];exact hr4.append (.cons (p4.st he) .nil)
  ·have e:i=ds.length:=by lia
   subst e;refine .inl ⟨g1 ds.length (aB _),?_⟩;rw[List.drop_length]at hlo;simp only[bY,R.ok.injEq]at hlo;subst hlo;have rep:Rep g (hid H' S) (.lst o) (.ref acc):=.lst (SqL.of (bp.mpr ⟨sub1.free hacc,hv⟩)) (hr.mono o8);exact k1 _ _ (a_.new (s1.trans s1') rep ⟨acc,_,rfl,s1.free hacc,hv,.lst hr⟩)
theorem sH(O:XO w g c E X)(hcalm:X.calm=true){sc:aO}{cap:List (Option Nat)}{tgt it elt:Expr}{ifs:List Expr}{pos:Pos}{iit:It}{itg:Tg}{tt:T}{ielt:EV.E}(hS:cM X (zD sc.names) cap sc)(hnd:(zD sc.names).Nodup)
  (hi:PI X tgt it (tIt w g c E iit)) (hb:∀cl C s₀ H₀ fp,PG (zC X (zD sc.names) sc cl C s₀ H₀ fp) tgt (gT X.K itg)/\PTs (zC X (zD sc.names) sc cl C s₀ H₀ fp) ifs (tT w g (bV c sc) E0 tt)/\PE (zC X (zD sc.names) sc cl C s₀ H₀ fp) elt (tE w g (bV c sc) E0 ielt))
  (he:esc ielt=true) (hs:zo it=true):PE X (.ListComp elt [⟨tgt,it,ifs,0⟩] sc pos) (tE w g c E (.comp iit cap itg tt ielt)):=by
 exact PE.imp (Co (tb:=λacc=>iE acc (tE w g (bV c sc) E0 ielt)) hcalm hS hi (λcl C s₀ H₀ fp=>⟨(hb cl C s₀ H₀ fp).1,(hb cl C s₀ H₀ fp).2.1,λacc=>mZ rfl (hb cl C s₀ H₀ fp).2.2⟩) (by simp) (λx=>by cases it<;>first|rfl|(simp[zo]at hs))) λσ H Q q=>k_ O hS he q
theorem uV(O:XO w g c E X)(hcalm:X.calm=true){sc:aO}{cap:List (Option Nat)}{tgt it tgt2 it2 elt:Expr}{ifs2:List Expr}{pos:Pos}{iit ii2:It}{itg tg2:Tg}{tt:T}{ielt:EV.E}(hS:cM X (zD sc.names) cap sc)(hnd:(zD sc.names).Nodup)
  (hi:PI X tgt it (tIt w g c E iit)) (hb:∀cl C s₀ H₀ fp,PG (zC X (zD sc.names) sc cl C s₀ H₀ fp) tgt (gT X.K itg)/\PI (zC X (zD sc.names) sc cl C s₀ H₀ fp) tgt2 it2 (tIt w g (bV c sc) E0 ii2)/\PG (zC X (zD sc.names) sc cl C s₀ H₀ fp) tgt2 (gT X.K tg2)/\PTs (zC X (zD sc.names) sc cl C s₀ H₀ fp) ifs2 (tT w g (bV c sc) E0 tt)/\PE (zC X (zD sc.names) sc cl C s₀ H₀ fp) elt (tE w g (bV c sc) E0 ielt))
  (he:esc ielt=true) (hw:owned ii2=false) (hs:zo it=true) (hs2:zo it2=true):PE X (.ListComp elt [⟨tgt,it,[],0⟩,⟨tgt2,it2,ifs2,0⟩] sc pos) (tE w g c E (.comp2 iit cap itg ii2 tg2 tt ielt)):=λpins s σ H Q I ⟨τ,S,se,kk⟩=>by
 simp only[qW,qX,zb,qZ,zc,za,zf,zg,qY,qB,qr,qC,qA,qw,qJ,qq,qx,qo,qD,qu,qE,qt,qp,qG,qy,qm,qS,qH,qR,qI,qT,qK,qF,qP,qO,qU,qL,qN,qQ]at kk;exact aP kk
end
end EV
namespace L2
open PySem PySem.Spec PyProof.Rows
theorem CH:isSubtype (.type "range_iterator") (.type "reversed")=pure false:=by rw[isSubtype_type];kernel_rfl
theorem A9(r:Addr)(b:Int)(t u v:Tok)(h0:0<=b)(h1:b<=1000000) :
  Meets (Builtin.«range.__reversed__» ⟨[.ref r],[]⟩) (λ_ R s=>s.heap.get? r=some {cls:=.type "range",dict:=none,data:=.fields #[.int 0 t,.int b u,.int 1 v],slots:=#[]}/\R (.ok (.ret (.ref s.heap.objs.size))) {s with heap:=s.heap.push {cls:=.type "range_iterator",data:=.fields #[rawInt (b-1),rawInt b,rawInt (-1)]}}):=
 .of_wp λprog w A R s h=>by
  obtain⟨hp,g,d,tk,os⟩:=s;obtain⟨hl,h⟩:=h;have e:Builtin.Range.rangeSize 0 b 1=b:=by rw[rangeSize_one];split<;>lia
  have e2:(0:Int)+(b-1) * 1=b-1:=by lia
  have sm:(Builtin.Range.rangeFitsLong 0&&Builtin.Range.rangeFitsLong b&&Builtin.Range.rangeFitsLong 1&&Builtin.Range.rangeFitsLong (-1)&&Builtin.Range.rangeFitsLong (0-1)&&Builtin.Range.rangeFitsLong b)=true:=by
   simp only[Builtin.Range.rangeFitsLong,aC,decide_eq_true_eq];lia
  wp_walk
  rw[e,sm,e2];simp only[Bool.not_true,bM,if_false,if_true]
  wp_walk
  exact⟨_,rfl,h⟩
section
variable{prog:aq}{w:ak}{A:au}{E:ae->af->Prop}{s:af}
theorem yo{r:Addr}{b:Int}{t u v:Tok}{Q:ae->af->Prop}(h0:0<=b)(h1:b<=1000000)(hr:IsRange s.heap r 0 b 1 t u v)
  (h:Q (.ref s.heap.objs.size) {s with heap:=s.heap.push {cls:=.type "range_iterator",data:=.fields #[rawInt (b-1),rawInt b,rawInt (-1)]}}):ah (ai prog w) A (call (.builtin "range.__reversed__") [.ref r]) Q E s:=
 call_meets PySem.F.slot_range_reversed ⟨_,hr,rfl⟩ PySem.F.entry_range_reversed (PySem.F.args_range_reversed_1 _) (A9 r b t u v h0 h1) ⟨hr,h⟩
theorem xT{r:Addr}{b:Int}{t u v:Tok}{Q₁:ae->af->Prop}(h0:0<=b)(h1:b<=1000000)(hr:IsRange s.heap r 0 b 1 t u v)
  (h:Q₁ (.ref s.heap.objs.size) {s with heap:=s.heap.push {cls:=.type "range_iterator",data:=.fields #[rawInt (b-1),rawInt b,rawInt (-1)]}}) :
  codeAny (ai prog w) A (.call (.builtin "reversed.__new__") ⟨[.type "reversed",.ref r],[]⟩) (wants Q₁ E) s:=by
 refine codeAny_of_tree ?_;show ah _ A.in1 (do checkBuiltinCall "reversed.__new__" ⟨[.type "reversed",.ref r],[]⟩;again (.builtin "reversed.__new__" ⟨[.type "reversed",.ref r],[]⟩)) _ _ s;refine ag (wpAny_of_eq (PySem.F.newCall_reversed_1 _) (av ⟨plainId_quiet PySem.F.plain_reversed_new _,codeAny_builtin PySem.F.entry_reversed_new ?_⟩));rw[au.under_plainId PySem.F.plain_reversed_new _];unfold Builtin.«reversed.__new__»;refine ag (wpAny_of_eq (newClass_reversed _) ?_)
 try dsimp only
 refine ag (wpAny_of_eq (a:=()) (by first|rfl|kernel_rfl) ?_);refine ag (wpAny_of_eq (a:=()) (by first|rfl|kernel_rfl) ?_)
 try dsimp only
 refine ag (wpAny_specialOf ⟨_,hr,rfl⟩ PySem.F.slot_range_reversed.lookup ?_)
 try dsimp only
 refine ag (wpAny_of_eq (PySem.F.slot_range_reversed.bind _) ?_)
 try dsimp only
 first
 |rw[if_neg (show ¬ ((ae.builtin "range.__reversed__" == bH)=true)from bK)]
 | (show ah _ _ (if (ae.builtin "range.__reversed__" == bH)=true then _ else _) _ _ _;rw[if_neg (show ¬ ((ae.builtin "range.__reversed__" == bH)=true)from bK)])
 refine ag (wpAny_rule ?_);refine ag (m:=runValue (.call (.builtin "range.__reversed__") ⟨[.ref r],[]⟩)) (show ah _ _ (call (.builtin "range.__reversed__") [.ref r]) _ _ _ from yo h0 h1 hr ?_)
 first
 |exact av h
 |exact ag (av (av h))
theorem x9{r:Addr}{b:Int}{t u v:Tok}{Q:ae->af->Prop}(h0:0<=b)(h1:b<=1000000)(hr:IsRange s.heap r 0 b 1 t u v)
  (h:Q (.ref s.heap.objs.size) {s with heap:=s.heap.push {cls:=.type "range_iterator",data:=.fields #[rawInt (b-1),rawInt b,rawInt (-1)]}}):ah (ai prog w) A (call (.type "reversed") [.ref r]) Q E s:=by
 refine callType_other (U:="range_iterator") (Q₁:=λobj s₁=>obj=.ref s.heap.objs.size/\s₁={s with heap:=s.heap.push {cls:=.type "range_iterator",data:=.fields #[rawInt (b-1),rawInt b,rawInt (-1)]}}) (by decide +kernel) PySem.F.create_reversed ⟨_,_,PySem.F.mro_reversed⟩ PySem.F.made_reversed CH (PySem.F.typeCall_reversed_1 _) (xT h0 h1 hr ⟨rfl,rfl⟩) ?_;rintro obj s₁ ⟨rfl,rfl⟩;exact⟨⟨_,Heap.get?_push_size _ rfl,rfl⟩,h⟩
end
section
variable{X:Cx}{tg:Expr}
noncomputable def sP(ta:TA):TI:=λσ H R=>ta σ H λvs H1=>∃p j,vs=[.ref p]/\H1 p=some (.rng 0 j)/\(0<=j/\j<=1000000)/\R (ItS (j-1) (-1) j.toNat) H1
theorem vg{a:Expr}{ta:TA}{p pos:Pos}(hg:Gl X "reversed")(hm:X.mg "reversed" = none)(ha:PA X [a] ta)(hs:aL [a] X.env=[(false,eval a X.env)]) :
  PI X tg (.Call (.Name "reversed" p) [a] [] pos) (sP ta):=by
 intro pins s σ H R I h;refine Call_ (fm I hg hm boot_reversed (eJ (thn (ha pos pins s σ H _ I h) λus s1 ⟨vs,H1,I1,r1,q1⟩=>?_) hs rfl));obtain⟨p,j,rfl,hp,⟨h0,h1⟩,q⟩:=q1;obtain⟨u,rfl,ru⟩:=r1.one;cases ru;obtain⟨t,u,v,e⟩:=I1.hok p _ hp;refine x9 h0 h1 e ?_;refine wpAny_pyIter_rangeiter (Heap.get?_push_size _ rfl) ?_;have I2:Inv X pins σ H1 {s1 with heap:=s1.heap.push {cls:=.type "range_iterator",data:=.fields #[rawInt (j-1),rawInt j,rawInt (-1)]}}:=I1.kept (t':=s1.toks) λb o e=>Heap.get?_push_of_some _ e
 refine⟨s1.heap.objs.size,[s1.heap.objs.size],_,_,H1,rfl,I2,wt _ (j-1) (-1) j.toNat,?_,λb hb=>?_,q⟩
 ·show IsRangeIter _ _ (j-1+((0:Nat):Int) * (-1)) (((j.toNat:Nat):Int)-((0:Nat):Int)) (-1);have e1:j-1+((0:Nat):Int) * (-1)=j-1:=by simp
  have e2:((j.toNat:Nat):Int)-((0:Nat):Int)=j:=by lia
  rw[e1,e2];exact Heap.get?_push_size _ rfl
 ·have e:b=s1.heap.objs.size:=by simpa using hb
  subst e;exact I1.fpOk (aB _) (I1.hok.fresh (aB _))
theorem xI(l b:Addr)(items xs:Array ae)(n m:Nat)(dd:Option Addr)(sl:Array (Option ae))(hz:items.size+xs.size<=aE) :
  Meets (Builtin.«list.extend» ⟨[.ref l,.ref b],[]⟩) (λ_ R s=>s.heap.get? l=some ⟨.type "list",none,.seq items n,#[]⟩/\s.heap.get? b=some ⟨.type "tuple",dd,.seq xs m,sl⟩/\R (.ok (.ret bH)) {s with heap:=s.heap.update l (bt λx=>x++xs),toks:=s.toks}):=
 .of_wp λprog w A R s h=>by
  obtain⟨hp,g,d,tk,os⟩:=s;obtain⟨hl,hb,h⟩:=h;have g2:=PySem.AutoSeq1.sub_tuple_tuple;have g3:=PySem.AutoSeq1.sub_list_list;have hz1:items.size<=sizeLine:=by lia
  have hz':(items++xs).size<=aE+1:=by rw[Array.size_append];lia
  have hlong:¬ (!items.isEmpty&&Builtin.List.listTooLong (items.size+xs.size))=true:=by
   rw[y9 hz,Bool.and_false];exact bK
  wp_walk using (wpAny_updateSeq hl rfl (hz:=hz1) (_hz':=hz'))
  exact⟨_,rfl,h⟩
noncomputable def A6(K:ao):V->List V->Hp->VK->Prop:=λx vs H Q=>∃l b xs zs,x=.ref l/\vs=[.ref b]/\H l=some (.lst xs)/\SqT K H b zs/\xs.length+zs.length<aE/\Q .non (upd H l (.lst (xs++zs)))
theorem yz:MtM X "list.extend" (A6 X.K):=by
 intro pins s σ H x vs v us Q I rx rv h;obtain⟨l,b,xs,zs,rfl,rfl,hH,hB,hz,q⟩:=h;cases rx;obtain⟨u,rfl,ru⟩:=rv.one;cases ru;obtain⟨z,its,n,r,hl,e⟩:=I.lstM hH;obtain⟨its2,r2,⟨⟨c,dd,da,sl⟩,e2,rfl,n2,rfl⟩,hl2⟩:=I.tuple hB;have l2:=r2.length;refine call_meets PySem.F.slot_list_extend ⟨_,e,rfl⟩ PySem.F.entry_list_extend (PySem.F.args_list_extend_2 _ _) (xI l b its.toArray its2.toArray n n2 dd sl (by rw[aK,aK];lia)) ⟨e,e2,?_⟩;refine⟨.non,_,I.lset (its':=its++its2) hH e (by simp) (r.append r2) ?_,rfl,q⟩;rw[br];lia
end
end L2
namespace EV
open PySem PySem.Spec PySem.P PyProof.Rows L2
section
variable{prog:aq}{w:ak}{A:au}{E:ae->af->Prop}{s:af}
end
section
variable{X:Cx}
theorem yk:zl X (.type "range") (λvs H Q=>∃lo hi,(vs=[.int hi]/\lo=0\/vs=[.int lo,.int hi])/\∀p,H p=none->Q (.ref p) (upd H p (.rng lo hi))):=by
 intro pins s σ H xs us Q I r h;obtain⟨lo,hi,h|h,q⟩:=h
 ·obtain⟨rfl,rfl⟩:=h;obtain⟨u,rfl,t,rfl⟩:=r.one;exact call_range_1 ⟨.ref _,_,I.laid (o:=.rng 0 hi) (λb o e=>Heap.get?_push_of_some _ e) (aB _) ⟨_,_,_,Heap.get?_push_size _ rfl⟩,rfl,q _ I.fresh⟩
 ·subst h;obtain⟨u,v,rfl,⟨t,rfl⟩,⟨t',rfl⟩⟩:=r.two;exact call_range_2 ⟨.ref _,_,I.laid (o:=.rng lo hi) (λb o e=>Heap.get?_push_of_some _ e) (aB _) ⟨_,_,_,Heap.get?_push_size _ rfl⟩,rfl,q _ I.fresh⟩
end
section
variable{w:W}{g:Gc}{c:Cc}{E:XK}{X:Cx}{a b:Expr}{ia ib:EV.E}{pos p2 p3 pos3:Pos}
theorem vW(O:XO w g c E X){x:Str}{e:Expr}{es:List Expr}{t:TA}(h:glob c x=some .rng)(ha:PA X (e::es) t)(hs:∀z∈e::es,isStar z=false) :
  PE X (.Call (.Name x p3) (e::es) [] pos3) (tCB (λvs H Q=>∃lo hi,(vs=[.int hi]/\lo=0\/vs=[.int lo,.int hi])/\∀p,H p=none->Q (.ref p) (upd H p (.rng lo hi))) t):=by
 obtain⟨h1,rfl⟩:=O.gm h;exact jn yk (O.gl h) h1 (by decide +kernel) ha (zA h).2.2.2 (zA h).2.2.1 (qf (hs e aH)) (iU λz hz=>hs z (aI _ hz))
theorem vE(O:XO w g c E X){x y:Str}{tg:Expr}(hx:glob c x=some .rvd)(hy:glob c y=some .rng)(ha:PE X a (tE w g c E ia))(hs:isStar a=false):PI X tg (.Call (.Name x p2) [.Call (.Name y p3) [a] [] pos3] [] pos) (tIt w g c E (.rrev ia)):=by
 obtain⟨h1,rfl⟩:=O.gm hx;have hr:=vW (p3:=p3) (pos3:=pos3) O hy (zE ha cQ (qf hs)) (λz hz=>by simp at hz;rw[hz];exact hs);refine PI.imp (vg (O.gl hx) h1 (zE hr cQ) rfl) λσ H R ⟨τ,S,se,k⟩=>?_
 simp only[evI]at k;refine zk se k λda va H1 e1 p1 k1=>?_
 cases da with
 |int j=>
  simp only at k1;cases q:decide (0<=j)&&qV j with
  |true=>
   rw[q,if_pos rfl]at k1;simp only[aC,decide_eq_true_eq]at q;refine⟨0,j,.inl ⟨by rw[p1.rb.int],rfl⟩,λp hp=>⟨p,j,rfl,zB,⟨q.1,(i' q.2).2⟩,?_⟩⟩;exact k1 _ _ (p1.same.trans (zp hp)) (λ_ _ _ _ _=>nN) λ_ _ _ _ _=>nN
  |false=>rw[q]at k1;exact k1.elim
 |_=>exact k1.elim
theorem pQ(O:XO w g c E X)(hc:X.calm=true){x y:Str}{n:String}{bb:Option B1}{e:Expr}{es:List Expr}{it:It}{t:TA}(hT:glob c x=some (.ty n bb))(h:glob c y=some .rng)(ha:PA X (e::es) t)(hs:∀z∈e::es,isStar z=false)
  (hn:n = "tuple"\/n = "list")
  (k:∀σ H (Q:List V->Hp->Prop) τ S (P:List D->Prop),SE g c τ σ H S->tR g E H (evI w it τ) P->(∀lo hi vs H',qe H H'->(vs=[.int hi]/\lo=0\/vs=[.int lo,.int hi])->qV lo=true->qV hi=true->P (cn lo (hi-lo).toNat)->Q vs H')->t σ H Q) :
  PE X (.Call (.Name x p2) [.Call (.Name y p3) (e::es) [] pos3] [] pos) (tE w g c E (if n = "tuple" then .rtup it else .rlst it)):=λpins s σ H Q I ⟨τ,S,se,kk⟩=>by
 rcases hn with rfl|rfl
 ·simp only[if_true,qW,qX,zb,qZ,zc,za,zf,zg,qY,qB,qr,qC,qA,qw,qJ,qq,qx,qo,qD,qu,qE,qt,qp,qG,qy,qm,qS,qH,qR,qI,qT,qK,qF,qP,qO,qU,qL,qN,qQ]at kk;exact aP kk
 ·rw[if_neg (by decide)]at kk;simp only[qW,qX,zb,qZ,zc,za,zf,zg,qY,qB,qr,qC,qA,qw,qJ,qq,qx,qo,qD,qu,qE,qt,qp,qG,qy,qm,qS,qH,qR,qI,qT,qK,qF,qP,qO,qU,qL,qN,qQ]at kk;exact aP kk
theorem BE(O:XO w g c E X)(hc:X.calm=true){x y:Str}{bb:Option B1}{d:Expr}{id:EV.E}(hT:glob c x=some (.ty "tuple" bb))(h:glob c y=some .rng)(ha:PE X a (tE w g c E ia))(hb:PE X b (tE w g c E ib))(hd:PE X d (tE w g c E id))(hs:isStar a=false)(hs':isStar b=false)(hs'':isStar d=false) :
  PE X (.Call (.Name x p2) [.Call (.Name y p3) [a,b,d] [] pos3] [] pos) (tE w g c E (.rtup (.rng3 ia ib id))):=λpins s σ H Q I ⟨τ,S,se,kk⟩=>by
 simp only[qW,qX,zb,qZ,zc,za,zf,zg,qY,qB,qr,qC,qA,qw,qJ,qq,qx,qo,qD,qu,qE,qt,qp,qG,qy,qm,qS,qH,qR,qI,qT,qK,qF,qP,qO,qU,qL,qN,qQ]at kk;exact aP kk
theorem Bz(ha:PE X a (tE w g c E ia))(hs:isStar a=false):PA X [a] (hX (tE w g c E ia) iX):=zE ha cQ (qf hs)
theorem xX:∀σ H (Q:List V->Hp->Prop) τ S (P:List D->Prop),SE g c τ σ H S->tR g E H (evI w (.rng ia) τ) P->(∀lo hi vs H',qe H H'->(vs=[.int hi]/\lo=0\/vs=[.int lo,.int hi])->qV lo=true->qV hi=true->P (cn lo (hi-lo).toNat)->Q vs H')->hX (tE w g c E ia) iX σ H Q:=by
 intro σ H Q τ S P se q k;simp only[evI]at q;refine zk se q λda va H1 e1 p1 k1=>?_
 cases da with
 |int j=>
  simp only at k1;cases z:qV j with
  |true=>rw[z,if_pos rfl]at k1;exact k 0 j _ H1 p1.same (.inl ⟨by rw[p1.rb.int],rfl⟩) (by decide) z (by rw[Int.sub_zero];exact k1)
  |false=>rw[z]at k1;exact k1.elim
 |_=>exact k1.elim
theorem AM:∀σ H (Q:List V->Hp->Prop) τ S (P:List D->Prop),SE g c τ σ H S->tR g E H (evI w (.rng2 ia ib) τ) P->(∀lo hi vs H',qe H H'->(vs=[.int hi]/\lo=0\/vs=[.int lo,.int hi])->qV lo=true->qV hi=true->P (cn lo (hi-lo).toNat)->Q vs H')->hX (tE w g c E ia) (hX (tE w g c E ib) iX) σ H Q:=by
 intro σ H Q τ S P se q k;simp only[evI]at q;refine zk se q λda va H1 e1 p1 k1=>zk (se.up p1.same) k1 λdb vb H2 e2 p2 k2=>?_
 cases da with
 |int i=>
  cases db with
  |int j=>
   simp only at k2;cases z:qV i&&qV j with
   |true=>
    rw[z,if_pos rfl]at k2;simp only[aC]at z;exact k i j _ H2 (p1.same.trans p2.same) (.inr (by rw[p1.rb.int,p2.rb.int])) z.1 z.2 k2
   |false=>rw[z]at k2;exact k2.elim
  |_=>exact k2.elim
 |_=>exact k2.elim
end
structure Snd(w:W)(g:Gc)(n:Nat):Prop where
 e:∀{c:Cc}{E:XK}{X:Cx} (O:XO w g c E X) {x:Expr}{ir:EV.E},cE n c x=some ir->PE X x (tE w g c E ir)
 bo:∀{c:Cc}{E:XK}{X:Cx} (O:XO w g c E X) {op:PySem.BoolOp}{vs:List Expr}{pos:Pos}{ir:EV.E},cBo n c op vs=some ir->PE X (.BoolOp op vs pos) (tE w g c E ir)/\esc ir=true
 o:∀{c:Cc}{E:XK}{X:Cx} (O:XO w g c E X) {x:Option Expr}{ir:OE},cO n c x=some ir->PO X x (tOe w g c E ir)
 es:∀{c:Cc}{E:XK}{X:Cx} (O:XO w g c E X) {x:List Expr}{ir:Es},cEs n c x=some ir->PA X x (tA w g c E ir)
 i:∀{c:Cc}{E:XK}{X:Cx} (O:XO w g c E X) {tg x:Expr}{ir:It},cI n c x=some ir->dJ ir tg=true->PI X tg x (tIt w g c E ir)
 t:∀{c:Cc}{E:XK}{X:Cx} (O:XO w g c E X) {x:Expr}{ir:T},cT n c x=some ir->PT X x (tT w g c E ir)
 ts:∀{c:Cc}{E:XK}{X:Cx} (O:XO w g c E X) {op:PySem.BoolOp}{vs:List Expr}{pos:Pos}{ir:T},cTs n c op vs=some ir->PW X (.BoolOp op vs pos) (tT w g c E ir)
 ifs:∀{c:Cc}{E:XK}{X:Cx} (O:XO w g c E X) {x:List Expr}{ir:T},dN n c x=some ir->PTs X x (tT w g c E ir)
section
variable{w:W}{g:Gc}{n:Nat}
theorem Snd.ifs_succ(ih:Snd w g n){c:Cc}{E:XK}{X:Cx}(O:XO w g c E X){x:List Expr}{ir:T}(h:dN (n+1) c x=some ir):PTs X x (tT w g c E ir):=by
 match x with
 | []=>
  simp only[dN,cg]at h;subst h;intro pins s σ H Q I ⟨τ,S,se,q⟩;exact sC pins s σ H Q I (q H (qe.refl _))
 | [t]=>simp only[dN]at h;exact vF (ih.t O h)
 |_::_::_=>simp[dN]at h
theorem Snd.bo_succ(ih:Snd w g n){c:Cc}{E:XK}{X:Cx}(O:XO w g c E X){op:PySem.BoolOp}{vs:List Expr}{pos:Pos}{ir:EV.E}(h:cBo (n+1) c op vs=some ir):PE X (.BoolOp op vs pos) (tE w g c E ir)/\esc ir=true:=by
 match vs with
 | []=>simp[cBo]at h
 | [a]=>
  simp only[cBo,ay,aw]at h;obtain⟨ia,h1,h⟩:=h;split at h
  ·rename_i he
   cases h;exact⟨xG (ih.e O h1),he⟩
  ·cases h
 |a::b::r=>
  simp only[cBo,ay,aw]at h;obtain⟨ia,h1,ir',h2,h⟩:=h;obtain⟨r1,r2⟩:=ih.bo O (pos:=pos) h2;cases op with
  |And=>cases h;exact⟨yB (ih.e O h1) r1 r2,rfl⟩
  |Or=>cases h;exact⟨uS (ih.e O h1) r1 r2,rfl⟩
theorem Snd.o_succ(ih:Snd w g n){c:Cc}{E:XK}{X:Cx}(O:XO w g c E X){x:Option Expr}{ir:OE}(h:cO (n+1) c x=some ir):PO X x (tOe w g c E ir):=by
 cases x with
 |none=>simp only[cO,cg]at h;subst h;exact A8
 |some e=>
  simp only[cO,bq]at h;obtain⟨ie,h1,rfl⟩:=h;exact wJ (ih.e O h1)
theorem Snd.es_succ(ih:Snd w g n){c:Cc}{E:XK}{X:Cx}(O:XO w g c E X){x:List Expr}{ir:Es}(h:cEs (n+1) c x=some ir):PA X x (tA w g c E ir):=by
 match x with
 | []=>simp only[cEs,cg]at h;subst h;exact xZ
 |e::r=>
  have hs:=ee h e aH;simp only[cEs,hs,bM,if_false,ay,aw]at h;obtain⟨ie,h1,ir',h2,h⟩:=h;cases h;exact BG (ih.e O h1) (ih.es O h2) hs
theorem Snd.ts_succ(ih:Snd w g n){c:Cc}{E:XK}{X:Cx}(O:XO w g c E X){op:PySem.BoolOp}{vs:List Expr}{pos:Pos}{ir:T}(h:cTs (n+1) c op vs=some ir):PW X (.BoolOp op vs pos) (tT w g c E ir):=by
 match vs with
 | []=>simp[cTs]at h
 | [a]=>
  simp only[cTs]at h;cases op with
  |And=>exact Ad (ih.t O h)
  |Or=>exact CZ (ih.t O h)
 |a::b::r=>
  simp only[cTs,ay,aw]at h;obtain⟨ia,h1,ir',h2,h⟩:=h;cases op with
  |And=>cases h;exact BI (ih.t O h1) (ih.ts O h2)
  |Or=>cases h;exact sg (ih.t O h1) (ih.ts O h2)
theorem Snd.t_succ(ih:Snd w g n){c:Cc}{E:XK}{X:Cx}(O:XO w g c E X){x:Expr}{ir:T}(h:cT (n+1) c x=some ir):PT X x (tT w g c E ir):=by
 unfold cT at h;split at h
 ·simp only[bq]at h;obtain⟨ia,h1,rfl⟩:=h;exact sJ (ih.t O h1)
 ·exact(ih.ts O h).pt
 ·cases h
 ·split at h
  ·simp only[ay,aw]at h;obtain⟨ia,h1,ib,h2,h⟩:=h;split at h
   ·rename_i hs;cases h;exact Ce O (ih.e O h1) (ih.e O h2) hs
   ·cases h
  ·simp only[ay,aw]at h;obtain⟨ia,h1,ib,h2,id',h3,h⟩:=h;split at h
   ·rename_i hs
    simp only[aC]at hs;cases h;exact Bv O (ih.e O h1) (ih.e O h2) (ih.e O h3) hs.2
   ·cases h
  ·simp only[ay,aw]at h;obtain⟨ia,h1,ib,h2,id',h3,if',h4,h⟩:=h;split at h
   ·rename_i hs
    simp only[aC]at hs;cases h;exact vw O (ih.e O h1) (ih.e O h2) (ih.e O h3) (ih.e O h4) hs.2
   ·cases h
  ·cases h
 ·rename_i n1 n2 n3 n4
  simp only[bq]at h;obtain⟨ia,h1,rfl⟩:=h;refine CQ O (ih.e O h1) λwhole=>?_
  cases x with
  |UnaryOp op a p=>cases op<;>first|rfl|exact(n1 _ _ rfl).elim
  |BoolOp op vs p=>exact(n2 _ _ _ rfl).elim
  |IfExp a b d p=>exact(n3 _ _ _ _ rfl).elim
  |Compare a ops bs p=>exact(n4 _ _ _ _ rfl).elim
  |_=>rfl
theorem Snd.i_succ(ih:Snd w g n){c:Cc}{E:XK}{X:Cx}(O:XO w g c E X){tg x:Expr}{ir:It}(h:cI (n+1) c x=some ir)(ht:dJ ir tg=true):PI X tg x (tIt w g c E ir):=by
 have sq:∀{x:Expr}{ir:It},(cE n c x).map It.seq=some ir->PI X tg x (tIt w g c E ir):=λ{x ir} h=>by
  simp only[bq]at h;obtain⟨ia,h1,rfl⟩:=h;exact Ap O (ih.e O h1)
 have tup:isTup tg=true->∃es k p,tg=.Tuple es k p:=λh=>by cases tg<;>first|exact⟨_,_,_,rfl⟩|(simp[isTup]at h)
 unfold cI at h;split at h
 ·rename_i f p as q
  split at h
  ·exact sq h
  ·split at h
   ·rename_i hg
    split at h
    ·rename_i a
     split at h
     ·cases h
     ·rename_i hs
      simp only[bq]at h;obtain⟨ia,h1,rfl⟩:=h;exact AF O hg (ih.e O h1) (by simpa using hs)
    ·rename_i a b
     split at h
     ·cases h
     ·rename_i hs
      have hs:isStar a=false/\isStar b=false:=by simpa using hs
      simp only[ay,aw]at h;obtain⟨ia,h1,ib,h2,h⟩:=h;cases h;exact AX O hg (ih.e O h1) (ih.e O h2) hs.1 hs.2
    ·rename_i a b d
     split at h
     ·cases h
     ·rename_i hs
      have hs:(isStar a=false/\isStar b=false)/\isStar d=false:=by simpa[and_assoc]using hs
      simp only[ay,aw]at h;obtain⟨ia,h1,ib,h2,id,h3,h⟩:=h;cases h;exact A_ O hg (ih.e O h1) (ih.e O h2) (ih.e O h3) hs.1.1 hs.1.2 hs.2
    ·cases h
   ·rename_i hg
    split at h
    ·rename_i a
     split at h
     ·cases h
     ·rename_i hs
      simp only[bq]at h;obtain⟨ia,h1,rfl⟩:=h;obtain⟨es,k,p',rfl⟩:=tup ht;exact sj O hg (ih.e O h1) (by simpa using hs)
    ·cases h
   ·rename_i hg
    split at h
    ·rename_i a b
     split at h
     ·cases h
     ·rename_i hs
      have hs:isStar a=false/\isStar b=false:=by simpa using hs
      simp only[ay,aw]at h;obtain⟨ia,h1,ib,h2,h⟩:=h;cases h;obtain⟨es,k,p',rfl⟩:=tup ht;exact u9 O hg (ih.e O h1) (ih.e O h2) hs.1 hs.2
    ·cases h
   ·rename_i hg
    split at h
    ·split at h
     ·rename_i hs
      simp only[aC,beq_iff_eq,aY]at hs;simp only[bq]at h;obtain⟨ia,h1,rfl⟩:=h;exact vE O hg hs.1.2 (ih.e O h1) hs.2
     ·cases h
    ·cases h
   ·exact sq h
 ·exact sq h
end
section
variable{w:W}{g:Gc}{c:Cc}{E:XK}{X:Cx}{a:Expr}{ia:EV.E}{pos p2 p3 pos3:Pos}
theorem BM(O:XO w g c E X){st:Expr}(ha:PE X a (tE w g c E ia))(hs:nI st=true):PE X (.Subscript a (.Slice none none (some st) p2) pos) (tE w g c E (.rev ia)):=λpins s σ H Q I ⟨τ,S,se,kk⟩=>by
 simp only[qW,qX,zb,qZ,zc,za,zf,zg,qY,qB,qr,qC,qA,qw,qJ,qq,qx,qo,qD,qu,qE,qt,qp,qG,qy,qm,qS,qH,qR,qI,qT,qK,qF,qP,qO,qU,qL,qN,qQ]at kk;exact aP kk
end
section
variable{w:W}{g:Gc}{n:Nat}
theorem p_{c:Cc}{t:String}{as:List Expr}{a:Expr}(h:km c t as=some a):∃x p,as=[.Name x p]/\a=.Name x p/\t = "list"/\c.calm=true:=by
 unfold km at h;split at h
 ·split at h
  ·split at h
   ·rename_i hc
    simp only[aC,beq_iff_eq]at hc;cases h;exact⟨_,_,rfl,rfl,hc.1.1,hc.1.2⟩
   ·cases h
  ·cases h
 ·cases h
theorem Snd.call_name(ih:Snd w g n){c:Cc}{E:XK}{X:Cx}(O:XO w g c E X){f:Str}{p pos:Pos}{as:List Expr}{ir:EV.E}(h:cE (n+1) c (.Call (.Name f p) as [] pos)=some ir):PE X (.Call (.Name f p) as [] pos) (tE w g c E ir):=by
 simp only[cE]at h;split at h
 ·rename_i i hl
  simp only[ay,aw]at h;obtain⟨ies,h1,h⟩:=h;split at h
  ·rename_i hc
   simp only[aC,aY]at hc;cases h;obtain⟨⟨hc1,hc2⟩,hc3⟩:=hc
   match as with
   | []=>simp at hc2
   |e::es=>exact m_ O (O.calm hc3) (l_ O hl) (ih.es O h1) hc1 (ee h1) rfl
  ·cases h
 ·split at h
  ·rename_i fr hg
   simp only[ay,aw]at h;obtain⟨ies,h1,h⟩:=h;split at h
   ·rename_i hc
    simp only[aC,aY]at hc;cases h
    match as with
    | []=>simp at hc
    |e::es=>exact rX O hg (ih.es O h1) hc.1 (ee h1)
   ·split at h
    ·rename_i hc
     simp only[aY]at hc;cases h
     match as with
     | []=>simp at hc
     |e::es=>exact Ck O hg (ih.es O h1) (ee h1)
    ·cases h
  ·rename_i b hg
   split at h
   ·rename_i a hs;cases hs
   simp only[ay,aw]at h;obtain⟨ies,h1,h⟩:=h;split at h
   ·rename_i hc
    simp only[aC,aY,bu,beq_iff_eq]at hc;cases h
    match as with
    | []=>simp at hc
    |e::es=>exact BS O hg (by rcases hc.2 with (z|z)|z;exact .inl (O.calm z);exact .inr (.inl z);exact .inr (.inr z)) (ih.es O h1) (ee h1)
   ·cases h
  ·rename_i t b hg
   have plain:∀{ies:Es},cEs n c as=some ies->as.isEmpty=false->PE X (.Call (.Name f p) as [] pos) (tE w g c E (.bi b ies)):=λ{ies} h1 he=>by
    match as with
    | []=>simp at he
    |e::es=>exact tI O hg (ih.es O h1) (ee h1)
   split at h
   ·rename_i y p' as' q
    split at h
    ·rename_i hr
     simp only[aC,beq_iff_eq]at hr;split at h
     ·rename_i hc
      simp only[aC,bu,beq_iff_eq]at hc;split at h
      ·rename_i a
       split at h
       ·cases h
       ·rename_i hs
        have hs:isStar a=false:=by simpa using hs
        simp only[ay,aw]at h;obtain⟨ia,h1,h⟩:=h;cases h;exact pQ O (O.calm hc.1) hg hr.2 (Bz (ih.e O h1) hs) (by intro z hz;simp at hz;rw[hz];exact hs) hc.2 xX
      ·rename_i a d
       split at h
       ·cases h
       ·rename_i hs
        have hs:isStar a=false/\isStar d=false:=by simpa using hs
        simp only[ay,aw]at h;obtain⟨ia,h1,ib,h2,h⟩:=h;cases h;exact pQ O (O.calm hc.1) hg hr.2 (zE (ih.e O h1) (zE (ih.e O h2) cQ (qf hs.2)) (qf hs.1)) (by intro z hz;simp at hz;rcases hz with rfl|rfl;exact hs.1;exact hs.2) hc.2 AM
      ·rename_i a d k
       split at h
       ·cases h
       ·rename_i hs
        have hs:(isStar a=false/\isStar d=false)/\isStar k=false:=by simpa[and_assoc]using hs
        simp only[ay,aw]at h;obtain⟨ia,h1,ib,h2,id,h3,h⟩:=h;split at h
        ·rename_i ht
         have ht:=eq_of_beq ht;subst ht;cases h;exact BE O (O.calm hc.1) hg hr.2 (ih.e O h1) (ih.e O h2) (ih.e O h3) hs.1.1 hs.1.2 hs.2
        ·cases h
      ·cases h
     ·cases h
    ·simp only[ay,aw]at h;obtain⟨ies,h1,h⟩:=h;cases h;exact plain h1 rfl
   ·split at h
    ·rename_i a hs
     obtain⟨x,px,rfl,rfl,rfl,hc⟩:=p_ hs;obtain⟨ia,h1,rfl⟩:=bq.mp h;exact tV O (O.calm hc) hg (ih.e O h1) rfl
    simp only[ay,aw]at h;obtain⟨ies,h1,h⟩:=h;split at h
    ·rename_i hc
     cases h;exact plain h1 (by simpa using hc)
    ·cases h
  ·rename_i hg
   split at h
   ·rename_i a k
    split at h
    ·cases h
    ·rename_i hs
     simp only[ay,aw]at h;obtain⟨ia,h1,cl,h2,h⟩:=h;cases h;exact uz O hg (ih.e O h1) h2 (by simpa using hs)
   ·cases h
  ·cases h
theorem iG:∀{n:Nat}{c:Cc}{l:List Expr}{es:Es},cEs n c l=some es->l.length<=n
 | 0,_,_,_,h=>by simp[cEs]at h
 |n+1,_,[],_,_=>by simp
 |n+1,c,x::l,es,h=>by
  have hs:=ee h x aH;simp only[cEs,hs,bM,if_false,ay,aw]at h;obtain⟨_,_,r,hr,_⟩:=h;have:=iG hr
  simpa using this
theorem mU{c:Cc}{elt:Expr}{gs:List b6}{sc:aO}{p:Pos}{ir:EV.E}(h:cE (n+1) c (.ListComp elt gs sc p)=some ir)(h2:fP (.ListComp elt gs sc p)=false) :
  ∃tgt it ifs iit itg it' ie,gs=[⟨tgt,it,ifs,0⟩]/\(c.calm=true/\zo it=true)/\(eY (λx=>c.nm.lookup x) c.N (zD sc.names) (dE c sc.names) sc=true/\(zD sc.names).Nodup)/\cI n c it=some iit/\cTg (bV c sc) tgt=some itg/\dN n (bV c sc) ifs=some it'/\cE n (bV c sc) elt=some ie/\(esc ie=true/\dJ iit tgt=true)/\ir=.comp iit (dE c sc.names) itg it' ie:=by
 unfold cE at h;dsimp only at h;split at h
 ·rename_i tgt it ifs asy
  split at h
  ·cases h
  ·rename_i hs
   have hs:(asy=0/\c.calm=true)/\zo it=true:=by simpa using hs
   obtain⟨⟨rfl,hs1⟩,hs2⟩:=hs;split at h
   ·cases h
   ·rename_i hk
    have hk:eY (λx=>c.nm.lookup x) c.N (zD sc.names) (dE c sc.names) sc=true/\(zD sc.names).Nodup:=by simpa using hk
    simp only[ay,aw]at h;obtain⟨iit,h1,itg,h2,it',h3,ie,h4,h⟩:=h;split at h
    ·rename_i he
     simp only[aC]at he;cases h;exact⟨tgt,it,ifs,iit,itg,it',ie,rfl,⟨hs1,hs2⟩,hk,h1,h2,h3,h4,he,rfl⟩
    ·cases h
 ·cases h2
 ·cases h
theorem vL{c:Cc}{elt:Expr}{gs:List b6}{sc:aO}{p:Pos}{ir:EV.E}(h:cE (n+1) c (.ListComp elt gs sc p)=some ir)(h2:fP (.ListComp elt gs sc p)=true) :
  ∃tgt it tgt2 it2 ifs2 iit itg ii2 tg2 it' ie,gs=[⟨tgt,it,[],0⟩,⟨tgt2,it2,ifs2,0⟩]/\(c.calm=true/\zo it=true/\zo it2=true)/\(eY (λx=>c.nm.lookup x) c.N (zD sc.names) (dE c sc.names) sc=true/\(zD sc.names).Nodup)/\cI n c it=some iit/\cTg (bV c sc) tgt=some itg/\cI n (bV c sc) it2=some ii2/\cTg (bV c sc) tgt2=some tg2/\dN n (bV c sc) ifs2=some it'/\cE n (bV c sc) elt=some ie/\(((esc ie=true/\dJ iit tgt=true)/\dJ ii2 tgt2=true)/\owned ii2=false)/\ir=.comp2 iit (dE c sc.names) itg ii2 tg2 it' ie:=by
 unfold cE at h;dsimp only at h;split at h
 ·cases h2
 ·rename_i tgt it ifs asy tgt2 it2 ifs2 asy2
  split at h
  ·cases h
  ·rename_i hs
   have hs:((((asy=0/\asy2=0)/\ifs=[])/\c.calm=true)/\zo it=true)/\zo it2=true:=by simpa using hs
   obtain⟨⟨⟨⟨⟨rfl,rfl⟩,rfl⟩,hs1⟩,hs2⟩,hs3⟩:=hs;split at h
   ·cases h
   ·rename_i hk
    have hk:eY (λx=>c.nm.lookup x) c.N (zD sc.names) (dE c sc.names) sc=true/\(zD sc.names).Nodup:=by simpa using hk
    simp only[ay,aw]at h;obtain⟨iit,h1,itg,h2,ii2,h3,tg2,h4,it',h5,ie,h6,h⟩:=h;split at h
    ·rename_i he
     simp only[aC,aY]at he;cases h;exact⟨tgt,it,tgt2,it2,ifs2,iit,itg,ii2,tg2,it',ie,rfl,⟨hs1,hs2,hs3⟩,hk,h1,h2,h3,h4,h5,h6,he,rfl⟩
    ·cases h
 ·cases h
theorem jm{x:Expr}{t:Str}(h:gJ x=some t):∃k p,x=.Constant (.str t) k p:=by
 unfold gJ at h;split at h
 ·split at h
  ·cases h;exact⟨_,_,rfl⟩
  ·cases h
 ·cases h
theorem pk{x a:Expr}(h:i_ x=some a):∃p,x=.FormattedValue a (-1) none p:=by
 unfold i_ at h;split at h
 ·split at h
  ·split at h
   ·rename_i e;cases h;subst e;exact⟨_,rfl⟩
   ·cases h
  ·cases h
 ·cases h
theorem B_{vs:List Expr}{t0 t1 t2:Str}{a b:Expr}(h:kT vs=some (t0,a,t1,b,t2)):∃k0 k1 k2 p0 p1 p2 p3 p4,vs=[.Constant (.str t0) k0 p0,.FormattedValue a (-1) none p1,.Constant (.str t1) k1 p2,.FormattedValue b (-1) none p3,.Constant (.str t2) k2 p4]/\(Str.empty++t0).length<=1000:=by
 unfold kT at h;split at h
 ·simp only[ay,aw]at h;obtain⟨u0,h0,u1,h1,u2,h2,u3,h3,u4,h4,h⟩:=h;split at h
  ·rename_i hz
   cases h;obtain⟨k0,p0,rfl⟩:=jm h0;obtain⟨p1,rfl⟩:=pk h1;obtain⟨k1,p2,rfl⟩:=jm h2;obtain⟨p3,rfl⟩:=pk h3;obtain⟨k2,p4,rfl⟩:=jm h4;exact⟨_,_,_,_,_,_,_,_,rfl,hz⟩
  ·cases h
 ·cases h
theorem Snd.e_succ(ih:Snd w g n)(hn:n<=100000){c:Cc}{E:XK}{X:Cx}(O:XO w g c E X){x:Expr}{ir:EV.E}(h:cE (n+1) c x=some ir):PE X x (tE w g c E ir):=by
 have h0:=h;unfold cE at h;split at h
 ·-- Name
  rename_i y p
  split at h
  ·rename_i i hl
   have:=l_ (w:=w) (E:=E) (pos:=p) O hl;cases ho:c.own.contains y with
   |true=>rw[ho]at h this;cases h;exact this
   |false=>rw[ho]at h this;cases h;exact this
  ·split at h
   ·rename_i hg;cases h;exact Bg O hg
   ·rename_i fr hg;cases h;exact Ae O hg
   ·cases h
 ·split at h
  ·cases h;exact iN mN λ_=>.int _
  ·cases h;exact iN CK λ_=>.bl _
  ·cases h;exact iN CT λ_=>.non
  ·cases h;exact iN x_ λ_=>.str _
  ·cases h
 ·simp only[ay,aw]at h;obtain⟨o,ho,ia,h1,ib,h2,h⟩:=h;cases h;exact vx O ho (ih.e O h1) (ih.e O h2)
 ·rename_i op a p
  simp only[ay,aw]at h;obtain⟨ia,h1,h⟩:=h;cases op with
  |USub=>cases h;exact xA (ih.e O h1)
  |Invert=>cases h;exact Cd (ih.e O h1)
  |Not=>cases h;exact AD (ih.e O h1)
  |UAdd=>cases h
 ·exact(ih.bo O h).1
 ·split at h
  ·simp only[ay,aw]at h;obtain⟨ia,h1,ib,h2,h⟩:=h;split at h
   ·rename_i hs;cases h;exact CN O (ih.e O h1) (ih.e O h2) hs
   ·cases h
  ·simp only[ay,aw]at h;obtain⟨ia,h1,ib,h2,id',h3,h⟩:=h;split at h
   ·rename_i hs
    simp only[aC]at hs;cases h;exact uq O (ih.e O h1) (ih.e O h2) (ih.e O h3) hs.2
   ·cases h
  ·simp only[ay,aw]at h;obtain⟨ia,h1,ib,h2,id',h3,if',h4,h⟩:=h;split at h
   ·rename_i hs
    simp only[aC]at hs;cases h;exact BA O (ih.e O h1) (ih.e O h2) (ih.e O h3) (ih.e O h4) hs.2
   ·cases h
  ·cases h
 ·split at h
  ·split at h
   ·rename_i hk
    rw[List.isEmpty_iff]at hk;subst hk;cases h;exact sx
   ·cases h
  ·split at h
   ·split at h
    ·split at h
     ·rename_i hk
      simp only[aC,List.isEmpty_iff]at hk;obtain⟨rfl,rfl⟩:=hk;simp only[ay,aw]at h;obtain⟨ik,h1,iv,h2,h⟩:=h;cases h;exact Ak (ih.e O h1) (ih.e O h2)
     ·cases h
    ·cases h
   ·cases h
 ·split at h
  ·rename_i hf
   simp only[ay,aw]at h;obtain⟨ia,h1,ib,h2,h⟩:=h;cases h;obtain⟨k0,k1,k2,p0,p1,p2,p3,p4,rfl,hz⟩:=B_ hf;exact ui hz (ih.e O h1) (ih.e O h2)
  ·cases h
 ·simp only[ay,aw]at h;obtain⟨it,h1,ia,h2,ib,h3,h⟩:=h;split at h
  ·rename_i hs
   simp only[aC]at hs;cases h;exact p7 (ih.t O h1) (ih.e O h2) (ih.e O h3) hs.1 hs.2
  ·cases h
 ·simp only[ay,aw]at h;obtain⟨ies,h1,h⟩:=h;split at h
  ·rename_i hs;cases h
   exact sX (ih.es O h1) hs λτ ds e=>by rw[kh h1 e];exact ba (iG h1) hn
  ·cases h
 ·simp only[ay,aw]at h;obtain⟨ies,h1,h⟩:=h;split at h
  ·rename_i hs;cases h
   exact wW (ih.es O h1) hs λτ ds e=>by rw[kh h1 e];exact ba (iG h1) hn
  ·cases h
 ·split at h
  ·rename_i lo hi st' sp
   split at h
   ·split at h
    ·rename_i hq
     simp only[aC,Option.isNone_iff_eq_none]at hq;obtain⟨⟨rfl,rfl⟩,hq⟩:=hq;rw[bq]at h;obtain⟨ia,h1,rfl⟩:=h;exact BM O (ih.e O h1) hq
    ·cases h
   ·simp only[ay,aw]at h;obtain⟨ia,h1,il,h2,ih',h3,h⟩:=h;cases h;exact um O (ih.e O h1) (ih.o O h2) (ih.o O h3)
  ·split at h
   ·cases h
   ·rename_i hs
    simp only[ay,aw]at h;obtain⟨ia,h1,ib,h2,h⟩:=h;cases h;exact ur O (ih.e O h1) (ih.e O h2) (by simpa using hs)
 ·-- ListComp
  rename_i elt gs sc p
  cases htwo:fP (.ListComp elt gs sc p)with
  |true=>
   obtain⟨tgt,it,tgt2,it2,ifs2,iit,itg,ii2,tg2,it',ie,rfl,hs,hk,h1,h2,h3,h4,h5,h6,he,rfl⟩:=vL h0 htwo;have hS:cM X (zD sc.names) (dE c sc.names) sc:=cM.of (by
    have e1:(λx=>c.nm.lookup x)=X.env.kindOf:=by funext x;show _=X.env.scope.names.lookup x;rw[O.nm]
    rw[<-e1,O.N];exact hk.1)
   refine uV O (O.calm hs.1) hS hk.2 (ih.i O h1 he.1.1.2) (λcl C s₀ H₀ fp=>?_) he.1.1.1 he.2 hs.2.1 hs.2.2;have OY:=O.comp hS.kind hk.2 cl C s₀ H₀ fp;exact⟨fA OY h2,ih.i OY h3 he.1.2,fA OY h4,ih.ifs OY h5,ih.e OY h6⟩
  |false=>
  obtain⟨tgt,it,ifs,iit,itg,it',ie,rfl,hs,hk,h1,h2,h3,h4,he,rfl⟩:=mU h0 htwo;have hS:cM X (zD sc.names) (dE c sc.names) sc:=cM.of (by
   have e1:(λx=>c.nm.lookup x)=X.env.kindOf:=by funext x;show _=X.env.scope.names.lookup x;rw[O.nm]
   rw[<-e1,O.N];exact hk.1)
  refine sH O (O.calm hs.1) hS hk.2 (ih.i O h1 he.2) (λcl C s₀ H₀ fp=>?_) he.1 hs.2;have OY:=O.comp hS.kind hk.2 cl C s₀ H₀ fp;exact⟨fA OY h2,ih.ifs OY h3,ih.e OY h4⟩
 ·split at h
  ·split at h
   ·exact ih.call_name O h0
   ·simp only[ay,aw]at h;obtain⟨ifn,h1,ies,h2,h⟩:=h;split at h
    ·rename_i as pos _ _ _ _ _ hc
     simp only[aC,aY]at hc;cases h
     match as with
     | []=>simp at hc
     |e::es=>exact m_ O (O.calm hc.2) (ih.e O h1) (ih.es O h2) hc.1.1 (ee h2) rfl
    ·cases h
   ·split at h
    ·rename_i hm
     cases h;exact vZ O hm
    ·split at h
     ·split at h
      ·cases h
      ·rename_i hc
       simp only[bu,aY,not_or,dm,Bool.not_eq_false]at hc;simp only[ay,aw]at h;obtain⟨io,h1,ia,h2,h⟩:=h;obtain⟨⟨⟨c1,c2⟩,c3⟩,c4⟩:=hc;split at h
       ·rename_i hg
        cases h;have hg:=eq_of_beq hg;subst hg;exact rP O c1 (ih.e O h1) (ih.e O h2) c2 c4
       ·rename_i hg
        split at h
        ·cases h;have c3:=eq_of_beq (c3.resolve_right hg);subst c3;exact uc O c1 (ih.e O h1) (ih.e O h2) c2 c4
        ·cases h
     ·split at h
      ·cases h
      ·rename_i hc
       simp only[bu,aY,not_or,dm,Bool.not_eq_false]at hc;simp only[ay,aw]at h;obtain⟨io,h1,ia,h2,id,h3,h⟩:=h;obtain⟨⟨⟨⟨c1,c2⟩,c3⟩,c4⟩,c5⟩:=hc;have c4:=eq_of_beq c4;subst c4;split at h
       ·rename_i hes
        cases h;exact uj O c1 (ih.e O h1) (ih.e O h2) (ih.e O h3) c2 c3 hes c5
       ·cases h
     ·cases h
   ·cases h
  ·split at h
   ·split at h
    ·split at h
     ·split at h
      ·cases h
      ·rename_i hc
       simp only[bu,aY,not_or,dm,Bool.not_eq_false]at hc;simp only[ay,aw]at h;obtain⟨ia,h1,h⟩:=h;obtain⟨⟨⟨⟨⟨c1,c2⟩,c3⟩,c4⟩,c5⟩,c6⟩:=hc;have c3:=eq_of_beq c3;subst c3;split at h
       ·rename_i hg
        cases h;exact lB O (O.calm c2) true (eq_of_beq hg) (eq_of_beq c5) (ih.e O h1) c1
       ·split at h
        ·rename_i hg
         cases h;exact lB O (O.calm c2) false (eq_of_beq hg) (eq_of_beq c5) (ih.e O h1) c1
        ·cases h
     ·cases h
    ·cases h
   ·cases h
  ·cases h
 ·cases h
theorem Am:Snd w g 0:=⟨λ_ _ _ h=>by simp[cE]at h,λ_ _ _ _ _ h=>by simp[cBo]at h,λ_ _ _ h=>by simp[cO]at h,λ_ _ _ h=>by simp[cEs]at h,λ_ _ _ _ h=>by simp[cI]at h,λ_ _ _ h=>by simp[cT]at h,λ_ _ _ _ _ h=>by simp[cTs]at h,λ_ _ _ h=>by simp[dN]at h⟩
theorem snd:∀n,n<=100000->Snd w g n
 | 0,_=>Am
 |n+1,h=>
  have ih:=snd n (Nat.le_of_succ_le h)
  ⟨λO _ _ q=>ih.e_succ (Nat.le_of_succ_le h) O q,λO _ _ _ _ q=>ih.bo_succ O q,λO _ _ q=>ih.o_succ O q,λO _ _ q=>ih.es_succ O q,λO _ _ _ q t=>ih.i_succ O q t,λO _ _ q=>ih.t_succ O q,λO _ _ _ _ q=>ih.ts_succ O q,λO _ _ q=>ih.ifs_succ O q⟩
end
noncomputable def zm(c:Cc)(i:Nat):Prop:=∃x,c.N[i]? = some x/\c.own.contains x=true
structure SS(g:Gc)(c:Cc)(H0:Hp)(B:Sh)(τ:Env)(σ:L2.St)(H:Hp)(S:Sh):Prop where
 se:SE g c τ σ H S
 lenN:τ.length=c.N.length
 same:qe H0 H
 sub0:Sub B H0
 hd:∀a,S.h a=(B.h a||S.o a)
 new:∀a,S.o a=true->H0 a=none
 own:∀i d,zm c i->τ[i]? = some (some d)->∃a o,σ[i]? = some (some (.ref a))/\S.o a=true/\H a=some o/\cD g (hid H S) d o
 inj:∀i j d e a,zm c i->zm c j->τ[i]? = some (some d)->τ[j]? = some (some e)->σ[i]? = some (some (.ref a))->σ[j]? = some (some (.ref a))->i=j
 frz:c.frz=true->(∀i,zm c i->σ[i]? = B.z[i]?)/\qe B.y H
section
variable{g:Gc}{c:Cc}{H0:Hp}{B:Sh}{τ:Env}{σ:L2.St}{H H':Hp}{S:Sh}
theorem SS.up(s:SS g c H0 B τ σ H S)(e:qe H H'):SS g c H0 B τ σ H' S:=
 ⟨s.se.up e,s.lenN,s.same.trans e,s.sub0,s.hd,s.new,λi d hi h=>let ⟨a,o,h1,h2,h4,h5⟩:=s.own i d hi h;⟨a,o,h1,h2,e _ _ h4,h5.mono (qi e)⟩,s.inj,λz=>⟨(s.frz z).1,(s.frz z).2.trans e⟩⟩
theorem SS.set{i:Nat}{d:D}{v:V}(s:SS g c H0 B τ σ H S)(hi:¬ zm c i)(r:Rep g (hid H S) d v):SS g c H0 B (τ.set i (some d)) (σ.set i (some v)) H S:=by
 refine⟨s.se.set r,by simp[s.lenN],s.same,s.sub0,s.hd,s.new,λj e hj h=>?_,λj k e f a hj hk h1 h2 h3 h4=>?_,λz=>⟨λj hj=>?_,(s.frz z).2⟩⟩
 ·have hij:i≠j:=λz=>hi (z▸hj)
  rw[List.getElem?_set_ne hij]at h ⊢;exact s.own j e hj h
 ·have hij:i≠j:=λz=>hi (z▸hj)
  have hik:i≠k:=λz=>hi (z▸hk)
  rw[List.getElem?_set_ne hij]at h1 h3;rw[List.getElem?_set_ne hik]at h2 h4;exact s.inj j k e f a hj hk h1 h2 h3 h4
 ·rw[List.getElem?_set_ne (λz:i=j=>hi (z▸hj))];exact(s.frz z).1 j hj
theorem SS.setAll{is:List Nat}:∀{ds:List D}{vs:List V}{τ τ':Env}{σ:L2.St}{Q:L2.St->Hp->Prop},SS g c H0 B τ σ H S->(∀i∈is,¬ zm c i)->ze g (hid H S) ds vs->EV.setAll is ds τ=.ok τ'->(∀σ',SS g c H0 B τ' σ' H S->Q σ' H)->gE is vs σ H Q:=by
 induction is with
 |nil=>
  intro ds vs τ τ' σ Q se _ r h k;cases r with
  |nil=>cases (show R.ok τ=R.ok τ' from h);exact⟨rfl,k σ se⟩
  |cons _ _=>cases (show R.no=R.ok τ' from h)
 |cons i is ih=>
  intro ds vs τ τ' σ Q se ho r h k;cases r with
  |nil=>cases (show R.no=R.ok τ' from h)
  |cons r rs=>exact⟨_,_,rfl,ih (se.set (ho i aH) r) (λj hj=>ho j (aI _ hj)) rs h k⟩
theorem Be{tg:Tg}(h:gU c tg):match tg with | .nm i=>¬ zm c i | .tp is=>∀i∈is,¬ zm c i:=by
 cases tg with
 |nm i=>rintro⟨x,h1,h2⟩;rw[h x h1]at h2;cases h2
 |tp is=>rintro i hi ⟨x,h1,h2⟩;rw[h i hi x h1]at h2;cases h2
theorem SS.store{X:Cx}(O:X.K=g.K){tg:Tg}{d:D}{v:V}{τ':Env}{Q:L2.St->Hp->Prop}(s:SS g c H0 B τ σ H S)(hf:gU c tg)(r:Rep g (hid H S) d v)(h:EV.store tg d τ=.ok τ')(k:∀σ',SS g c H0 B τ' σ' H S->Q σ' H):gT X.K tg v σ H Q:=by
 have ho:=Be hf;cases tg with
 |nm i=>
  simp only[EV.store,R.ok.injEq]at h;subst h;exact k _ (s.set ho r)
 |tp is=>
  cases d with
  |tup ds=>
   simp only[EV.store]at h;split at h
   ·rename_i hl
    cases r with
    |tup h1 r1=>exact⟨_,_,rfl,by rw[O];exact zI zM h1,by rw[<-r1.length];exact hl,s.setAll ho r1 h k⟩
   ·cases h
  |_=>simp[EV.store]at h
noncomputable def lJ(S:Sh)(a:Addr):Sh:=⟨λb=>S.o b||b==a,λb=>S.h b||b==a,S.z,S.y⟩
theorem SS.setOwn{i:Nat}{d:D}{v:V}(s:SS g c H0 B τ σ H S)(hz:c.frz=false)(hi:zm c i)(hlt:i<τ.length)(e:qe H H')(f:Fr g H S H' d v):∃S',SS g c H0 B (τ.set i (some d)) (σ.set i (some v)) H' S'/\qe (hid H S) (hid H' S'):=by
 obtain⟨a,oo,rfl,h1,h2,h3⟩:=f;have up:qe (hid H S) (hid H' (lJ S a)):=λb o hb=>by
  obtain⟨z1,z2⟩:=bp.mp hb;refine bp.mpr ⟨?_,e _ _ z2⟩;show (S.h b||b==a)=false;rw[z1]
  simpa using λz:b=a=>by rw[z,h1]at z2;cases z2
 have hlt':i<σ.length:=by rw[<-s.se.len];exact hlt
 refine⟨lJ S a,⟨⟨by simp[s.se.len],λj e' hj=>?_,λb hb n=>?_⟩,by simp[s.lenN],s.same.trans e,s.sub0,λb=>?_,λb hb=>?_,λj e' hj h=>?_,λj k e1 e2 b hj hk q1 q2 q3 q4=>?_,λz=>by rw[hz]at z;cases z⟩,up⟩
 ·by_cases hij:i=j
  ·subst hij;simp[hlt]at hj;subst hj;refine⟨.ref a,by simp[hlt'],.inr ⟨a,oo,by show (S.o a||a==a)=true;simp,rfl,h2,h3⟩,λx hx hn=>?_⟩;obtain⟨y,hy1,hy2⟩:=hi;rw[hy1]at hx;cases hx;rw[hn]at hy2;cases hy2
  ·rw[List.getElem?_set_ne hij]at hj ⊢;obtain⟨u,z1,z2,z3⟩:=s.se.val j e' hj;refine⟨u,z1,?_,λx hx hn=>(z3 x hx hn).mono up⟩;rcases z2 with z2|⟨a',o',y1,y2,y4,y5⟩
   ·exact .inl (z2.mono up)
   ·exact .inr ⟨a',o',by show (S.o a'||a'==a)=true;rw[y1];rfl,y2,e _ _ y4,y5.mono up⟩
 ·have hb:(S.h b||b==a)=true\/(S.o b||b==a)=true:=hb;by_cases hba:b=a
  ·rw[hba,h2]at n;cases n
  ·have:S.h b=true\/S.o b=true:=by
    rcases hb with z|z
    ·exact .inl (by simpa[hba]using z)
    ·exact .inr (by simpa[hba]using z)
   exact(s.se.sub.same e) b this n
 ·show (S.h b||b==a)=(B.h b||(S.o b||b==a))
  rw[s.hd b,Bool.or_assoc]
 ·have hb:(S.o b||b==a)=true:=hb;by_cases hba:b=a
  ·rw[hba];exact s.same.free h1
  ·exact s.new b (by simpa[hba]using hb)
 ·by_cases hij:i=j
  ·subst hij;simp[hlt]at h;subst h;exact⟨a,oo,by simp[hlt'],by show (S.o a||a==a)=true;simp,h2,h3⟩
  ·rw[List.getElem?_set_ne hij]at h ⊢;obtain⟨a',o',y1,y2,y4,y5⟩:=s.own j e' hj h;exact⟨a',o',y1,by show (S.o a'||a'==a)=true;rw[y2];rfl,e _ _ y4,y5.mono up⟩
 ·have other:∀j e1 b,i≠j->zm c j->τ[j]? = some (some e1)->σ[j]? = some (some (.ref b))->b≠a:=λj e1 b hij hj q1 q3 z=>by
   obtain⟨a',o',y1,y2,y4,y5⟩:=s.own j e1 hj q1;rw[q3]at y1;cases y1;rw[z,h1]at y4;cases y4
  by_cases hij:i=j
  ·by_cases hik:i=k
   ·rw[<-hij,<-hik]
   ·subst hij;rw[List.getElem?_set_ne hik]at q2 q4;have q3':b=a:=by
     have:(σ.set i (some (.ref a)))[i]? = some (some (.ref a)):=by simp[hlt']
     rw[this]at q3;cases q3;rfl
    exact absurd q3' (other k e2 b hik hk q2 q4)
  ·by_cases hik:i=k
   ·subst hik;rw[List.getElem?_set_ne hij]at q1 q3;have q4':b=a:=by
     have:(σ.set i (some (.ref a)))[i]? = some (some (.ref a)):=by simp[hlt']
     rw[this]at q4;cases q4;rfl
    exact absurd q4' (other j e1 b hij hj q1 q3)
   ·rw[List.getElem?_set_ne hij]at q1 q3;rw[List.getElem?_set_ne hik]at q2 q4;exact s.inj j k e1 e2 b hj hk q1 q2 q3 q4
theorem SS.changeO{i:Nat}{a:Addr}{d0 d1:D}{o1:HO}(s:SS g c H0 B τ σ H S)(hz:c.frz=false)(hi:zm c i)(h0:τ[i]? = some (some d0))(ha:σ[i]? = some (some (.ref a)))(r:cD g (hid H S) d1 o1):SS g c H0 B (τ.set i (some d1)) σ (upd H a o1) S/\qe (hid H S) (hid (upd H a o1) S):=by
 have hlt:i<τ.length:=(List.getElem?_eq_some_iff.mp h0).1;obtain⟨a',o0,y1,y2,y4,y5⟩:=s.own i d0 hi h0;rw[ha]at y1;cases y1;have hh:S.h a=true:=by rw[s.hd,y2,Bool.or_true]
 have he:hid (upd H a o1) S=hid H S:=gG hh;have other:∀j e,i≠j->zm c j->τ[j]? = some (some e)->∀b,σ[j]? = some (some (.ref b))->b≠a:=λj e hij hj h b hb z=>by
  subst z;exact hij (s.inj i j d0 e b hi hj h0 h ha hb)
 refine⟨⟨⟨by simp[s.se.len],λj e hj=>?_,λb hb n=>?_⟩,by simp[s.lenN],λb o hb=>?_,s.sub0,s.hd,s.new,λj e hj h=>?_,λj k e1 e2 b hj hk q1 q2 q3 q4=>?_,λz=>by rw[hz]at z;cases z⟩,by rw[he];exact qe.refl _⟩
 ·by_cases hij:i=j
  ·subst hij;simp[hlt]at hj;subst hj;refine⟨.ref a,ha,.inr ⟨a,o1,y2,rfl,zB,by rw[he];exact r⟩,λx hx hn=>?_⟩;obtain⟨y,hy1,hy2⟩:=hi;rw[hy1]at hx;cases hx;rw[hn]at hy2;cases hy2
  ·rw[List.getElem?_set_ne hij]at hj;obtain⟨u,z1,z2,z3⟩:=s.se.val j e hj;by_cases ho:zm c j
   ·obtain⟨b,ob,w1,w2,w4,w5⟩:=s.own j e ho hj;rw[z1]at w1;cases w1;refine⟨_,z1,.inr ⟨b,ob,w2,rfl,by rw[qM (other j e hij ho hj b z1)];exact w4,by rw[he];exact w5⟩,λx hx hn=>?_⟩;obtain⟨y,hy1,hy2⟩:=ho;rw[hy1]at hx;cases hx;rw[hn]at hy2;cases hy2
   ·have st:Rep g (hid H S) e u:=by
     cases q:c.N[j]? with
     |some x=>
      refine z3 x q ?_;cases q2:c.own.contains x with
      |false=>rfl
      |true=>exact absurd ⟨x,q,q2⟩ ho
     |none=>
      have h1:=(List.getElem?_eq_some_iff.mp hj).1;have h2:=List.getElem?_eq_none_iff.mp q;have h3:=s.lenN;lia
    exact⟨u,z1,.inl (by rw[he];exact st),λ_ _ _=>by rw[he];exact st⟩
 ·by_cases hba:b=a
  ·subst hba;rw[zB]at n;cases n
  ·rw[qM hba]at n;exact s.se.sub b hb n
 ·by_cases hba:b=a
  ·subst hba;rw[s.new b y2]at hb;cases hb
  ·rw[qM hba];exact s.same _ _ hb
 ·by_cases hij:i=j
  ·subst hij;simp[hlt]at h;subst h;exact⟨a,o1,ha,y2,zB,by rw[he];exact r⟩
  ·rw[List.getElem?_set_ne hij]at h;obtain⟨b,ob,w1,w2,w4,w5⟩:=s.own j e hj h;exact⟨b,ob,w1,w2,by rw[qM (other j e hij hj h b w1)];exact w4,by rw[he];exact w5⟩
 ·have f:∀k e,(τ.set i (some d1))[k]? = some (some e)->∃e',τ[k]? = some (some e'):=λk e h=>by
   by_cases hik:i=k
   ·subst hik;exact⟨d0,h0⟩
   ·rw[List.getElem?_set_ne hik]at h;exact⟨e,h⟩
  obtain⟨e1',q1'⟩:=f j e1 q1;obtain⟨e2',q2'⟩:=f k e2 q2;exact s.inj j k e1' e2' b hj hk q1' q2' q3 q4
theorem SS.change{i:Nat}{a:Addr}{d0:D}{vs:List V}{ds:List D}(s:SS g c H0 B τ σ H S)(hz:c.frz=false)(hi:zm c i)(h0:τ[i]? = some (some d0))(ha:σ[i]? = some (some (.ref a)))(r:ze g (hid H S) ds vs):SS g c H0 B (τ.set i (some (.lst ds))) σ (upd H a (.lst vs)) S/\qe (hid H S) (hid (upd H a (.lst vs)) S):=s.changeO hz hi h0 ha (.lst r)
end
noncomputable def cx(g:Gc)(c:Cc)(E:XK)(fr:Bool)(H0:Hp)(B:Sh)(H:Hp)(S:Sh)(D:Ends):O->Prop
 | .nx τ'=>∀σ' H' S',SS g c H0 B τ' σ' H' S'->qe (hid H S) (hid H' S')->D.nx σ' H'
 | .bk τ'=>∀σ' H' S',SS g c H0 B τ' σ' H' S'->qe (hid H S) (hid H' S')->D.bk σ' H'
 | .ct τ'=>∀σ' H' S',SS g c H0 B τ' σ' H' S'->qe (hid H S) (hid H' S')->D.ct σ' H'
 | .rt d=>∀v H',qe H0 H'->Rep g (hid H' B) d v->(fr=true->Fr g H0 B H' d v)->D.rt v H'
 | .ex k=>∀H' C,qe H0 H'->g.clA k=some C->E (.ref C) none H'
 | .no=>False
section
variable(w:W)(g:Gc)(c:Cc)(E:XK)(fr:Bool)
noncomputable def tS(s:EV.S):TS:=λD σ H=>∃H0 B τ S,SS g c H0 B τ σ H S/\cx g c E fr H0 B H S D (evS w s τ)
noncomputable def tSs(s:Ss):TS:=λD σ H=>∃H0 B τ S,SS g c H0 B τ σ H S/\cx g c E fr H0 B H S D (qa w s τ)
end
structure XS(w:W)(g:Gc)(c:Cc)(E:XK)(X:Cx):Prop extends XO w g c E X where
 thr:c.thr=true->Throws X E
 exc:∀x C,c.G.lookup x=some .exc->g.clA x=some C->mX g.K C
 cat:∀k x,w.cat k x=true->∀C D,g.clA k=some C->g.clA x=some D->PySem.W.exmOne g.K (.ref C) (.ref D)=some true
 frm:X.ex=[]/\X.stack=X.env::X.outer/\X.env.frame=some X.env.locals
 gh:∀x k,c.GH.lookup x=some k->k≠.exc/\∀v,GM w g X.prog X.w X.mg X.base (X.A.mark v) false x k
section
variable{w:W}{g:Gc}{c:Cc}{E:XK}{fr:Bool}{X:Cx}{H0:Hp}{B:Sh}{τ:Env}{σ:L2.St}{H H':Hp}{S:Sh}{Ed:Ends}
theorem cx.up{o:O}{S':Sh}(h:cx g c E fr H0 B H S Ed o)(e:qe (hid H S) (hid H' S')):cx g c E fr H0 B H' S' Ed o:=by
 cases o with
 |nx t=>exact λσ' H2 S2 s e2=>h σ' H2 S2 s (e.trans e2)
 |bk t=>exact λσ' H2 S2 s e2=>h σ' H2 S2 s (e.trans e2)
 |ct t=>exact λσ' H2 S2 s e2=>h σ' H2 S2 s (e.trans e2)
 |rt d=>exact h
 |ex k=>exact h
 |no=>exact h
theorem s_e{e:EV.E}{f:D->O}{Q:VK}(ss:SS g c H0 B τ σ H S)(h:cx g c E fr H0 B H S Ed ((evE w e τ).out f))(k:∀d v H',evE w e τ=.ok d->a_ g c e S H d v H'->cx g c E fr H0 B H S Ed (f d)->Q v H'):tE w g c E e σ H Q:=by
 refine⟨τ,S,ss.se,?_⟩;cases q:evE w e τ with
 |ok d=>rw[q]at h;exact λv H' p=>k d v H' q p h
 |ex x=>rw[q]at h;exact λH' C s hc=>h H' C (ss.same.trans s) hc
 |no=>rw[q]at h;exact h
theorem s_t{t:T}{f:Bool->O}{Q:Bool->Hp->Prop}(ss:SS g c H0 B τ σ H S)(h:cx g c E fr H0 B H S Ed ((evT w t τ).out f))(k:∀b H',evT w t τ=.ok b->qe H H'->cx g c E fr H0 B H S Ed (f b)->Q b H'):tT w g c E t σ H Q:=by
 refine⟨τ,S,ss.se,?_⟩;cases q:evT w t τ with
 |ok d=>rw[q]at h;exact λH' p=>k d H' q p h
 |ex x=>rw[q]at h;exact λH' C s hc=>h H' C (ss.same.trans s) hc
 |no=>rw[q]at h;exact h
theorem nj(ss:SS g c H0 B τ σ H S){b:Addr}(h:S.h b=false):B.h b=false:=by
 have:=ss.hd b;rw[h]at this;cases q:B.h b with
 |false=>rfl
 |true=>rw[q]at this;cases this
theorem yI(ss:SS g c H0 B τ σ H S):qe (hid H' S) (hid H' B):=λb o h=>by
 obtain⟨z1,z2⟩:=bp.mp h;exact bp.mpr ⟨nj ss z1,z2⟩
theorem mj:∀{is:List Nat}{ds:List EV.D}{τ:Env}{x:Str},setAll is ds τ≠.ex x
 | [],[],_,_,h=>by cases h
 | [],_::_,_,_,h=>by cases h
 |_::_,[],_,_,h=>by cases h
 |i::is,d::ds,τ,x,h=>by simp only[setAll]at h;exact mj h
theorem wN{pos:Pos}:PS X (.Pass pos) (tS w g c E fr .pass):=PS.imp ux λD σ H ⟨H0,B,τ,S,ss,h⟩=>h σ H S ss (qe.refl _)
theorem uX{pos:Pos}:PS X (.Break pos) (tS w g c E fr .brk):=PS.imp BC λD σ H ⟨H0,B,τ,S,ss,h⟩=>h σ H S ss (qe.refl _)
theorem wq{pos:Pos}:PS X (.Continue pos) (tS w g c E fr .cnt):=PS.imp sE λD σ H ⟨H0,B,τ,S,ss,h⟩=>h σ H S ss (qe.refl _)
theorem g_{e:Expr}{t:Option Expr}{l:Nat}{env:PySem.Env}(h:eE e=false):swapsWith e t l env=pure false:=by
 cases e<;>first|rfl|(simp[eE]at h)
theorem Ca{e:Expr}{ie:EV.E}{pos:Pos}(he:PE X e (tE w g c E ie))(hc:eE e=false):PS X (.Expr e pos) (tS w g c E fr (.exp ie)):=
 PS.imp (gI he (g_ hc)) λD σ H ⟨H0,B,τ,S,ss,h⟩=>by
  simp only[bW,bP,b8,bU,bS,bX,bT,bQ,b9,zK,zP,zS,zW,zT,zY,zX,zR,zQ,zV,zO,zU]at h;exact s_e ss h λd v H' _ p k=>k σ H' S (ss.up p.same) (qi p.same)
theorem ua{pos:Pos}(hf:fr=false):PS X (.Return none pos) (tS w g c E fr .retN):=PS.imp sM λD σ H ⟨H0,B,τ,S,ss,h⟩=>h _ _ ss.same .non (by rw[hf];intro z;cases z)
theorem ko(ss:SS g c H0 B τ σ H S){a:Addr}{d:EV.D}{o:HO}(h1:H0 a=none)(h2:H' a=some o)(h3:cD g (hid H' (cq S a)) d o):Rep g (hid H' B) d (.ref a)/\Fr g H0 B H' d (.ref a):=by
 have up:qe (hid H' (cq S a)) (hid H' (cq B a)):=λb o hb=>by
  obtain⟨z1,z2⟩:=bp.mp hb;refine bp.mpr ⟨?_,z2⟩;have z1:(S.h b||b==a)=false:=z1;simp only[Bool.or_eq_false_iff]at z1;show (B.h b||b==a)=false;rw[nj ss z1.1,z1.2];rfl
 exact⟨h3.rep (up.trans o8) (bp.mpr ⟨ss.sub0.free h1,h2⟩),⟨a,o,rfl,h1,h2,h3.mono up⟩⟩
theorem lO(ss:SS g c H0 B τ σ H S){a:Addr}{d:EV.D}{o1:HO}(y1:S.o a=true)(y3:cD g (hid H' S) d o1):cD g (hid H' (cq S a)) d o1:=y3.mono λb o hb=>by
 have hh:S.h a=true:=by rw[ss.hd,y1,Bool.or_true]
 obtain⟨z1,z2⟩:=bp.mp hb;refine bp.mpr ⟨?_,z2⟩;show (S.h b||b==a)=false;rw[z1]
 simpa using λz:b=a=>by rw[z,hh]at z1;cases z1
theorem lP{e:Expr}{ie:EV.E}{pos:Pos}(he:PE X e (tE w g c E ie))(hf:fr=true->fresh c ie=true):PS X (.Return (some e) pos) (tS w g c E fr (.ret ie)):=
 PS.imp (lp he) λD σ H ⟨H0,B,τ,S,ss,h⟩=>by
  simp only[bW,bP,b8,bU,bS,bX,bT,bQ,b9,zK,zP,zS,zW,zT,zY,zX,zR,zQ,zV,zO,zU]at h;refine s_e ss h λd v H' _ p k=>?_
  have k:∀v H',qe H0 H'->Rep g (hid H' B) d v->(fr=true->Fr g H0 B H' d v)->D.rt v H':=k;have s1:=ss.up p.same;by_cases hz:fr=true
  ·obtain⟨a,o,rfl,h1,h2,h3⟩:=p.fr (hf hz);obtain⟨r1,r2⟩:=ko (H':=H') ss (ss.same.free h1) h2 h3;exact k _ H' s1.same r1 λ_=>r2
  ·rcases p.rb with r|⟨a,o,y1,rfl,y2,y3⟩
   ·exact k v H' s1.same (r.mono (yI ss)) λz=>absurd z hz
   ·obtain⟨r1,r2⟩:=ko (H':=H') ss (ss.new a y1) y2 (lO ss y1 y3);exact k _ H' s1.same r1 λ_=>r2
theorem wK(O:XO w g c E X){x:Str}{i:Nat}{p pos:Pos}(h:loc c x=some i)(ho:c.own.contains x=true):PS X (.Return (some (.Name x p)) pos) (tS w g c E fr (.ret (.own i))):=by
 obtain⟨h1,h2,h3,h4⟩:=zy h;refine PS.imp (lp (fg (i:=i) (by rw[O.N];exact h1) (by unfold dO;rw[O.nm];exact h2) h3 h4)) λD σ H ⟨H0,B,τ,S,ss,h⟩=>?_
 simp only[bW,bP,b8,bU,bS,bX,bT,bQ,b9,zK,zP,zS,zW,zT,zY,zX,zR,zQ,zV,zO,zU,qW,qX,zb,qZ,zc,za,zf,zg,qY,qB,qr,qC,qA,qw,qJ,qq,qx,qo,qD,qu,qE,qt,qp,qG,qy,qm,qS,qH,qR,qI,qT,qK,qF,qP,qO,qU,qL,qN,qQ,zG]at h;cases q:τ[i]? with
 |none=>rw[q]at h;exact h.elim
 |some o=>
  cases o with
  |none=>rw[q]at h;exact h.elim
  |some d=>
   rw[q]at h;obtain⟨a,o,z1,y1,y2,y3⟩:=ss.own i d ⟨x,h1,ho⟩ q;obtain⟨r1,r2⟩:=ko (H':=H) ss (ss.new a y1) y2 (lO ss y1 y3);exact⟨_,z1,h _ H ss.same r1 λ_=>r2⟩
theorem kR{e:Expr}{ie:EV.E}{i:Nat}{st:Stmt}{te:TE}(hp:PS X st (jb te (eP i)))(hr:∀σ H Q,tE w g c E ie σ H Q->te σ H Q)(hlt:i<c.N.length)(hk:(zm c i/\fresh c ie=true/\c.frz=false)\/(¬ zm c i/\esc ie=true)):PS X st (tS w g c E fr (.set (.nm i) ie)):=
 PS.imp hp λD σ H ⟨H0,B,τ,S,ss,h⟩=>by
  simp only[bW,bP,b8,bU,bS,bX,bT,bQ,b9,zK,zP,zS,zW,zT,zY,zX,zR,zQ,zV,zO,zU,store]at h;refine hr σ H _ (s_e ss h λd v H' _ p k=>?_);have k:∀σ' H2 S2,SS g c H0 B (τ.set i (some d)) σ' H2 S2->qe (hid H S) (hid H2 S2)->D.nx σ' H2:=k;rcases hk with ⟨ho,hf,hfz⟩|⟨ho,he⟩
  ·obtain⟨S',s1,s2⟩:=ss.setOwn hfz ho (by rw[ss.lenN];exact hlt) p.same (p.fr hf);exact k _ _ S' s1 s2
  ·exact k _ _ S ((ss.up p.same).set ho (p.st he)) (qi p.same)
theorem lS(O:XO w g c E X){tg e:Expr}{itg:Tg}{ie:EV.E}{pos:Pos}(he:PE X e (tE w g c E ie))(hg:PG X tg (gT X.K itg))(hf:gU c itg)(hes:esc ie=true)(hs:swapsWithSole [tg] e pos.line X.env=pure false)(hw:swappedStores [tg] e X.env=pure none)(h1:(assignEach [tg] X.env).map (·.2)=[assign tg X.env]) :
  PS X (.Assign [tg] e pos) (tS w g c E fr (.set itg ie)):=
 PS.imp (nG he hg hs hw h1) λD σ H ⟨H0,B,τ,S,ss,h⟩=>by
  simp only[bW,bP,b8,bU,bS,bX,bT,bQ,b9,zK,zP,zS,zW,zT,zY,zX,zR,zQ,zV,zO,zU]at h;refine s_e ss h λd v H' _ p k=>?_
  cases q:store itg d τ with
  |ok τ'=>
   rw[q]at k;exact(ss.up p.same).store O.K hf (p.st hes) q λσ' s1=>k σ' H' S s1 (qi p.same)
  |ex z=>cases itg<;>simp only[store]at q<;>first|cases q|(split at q<;>first|cases q|(split at q<;>first|(exact absurd q (mj))|cases q))
  |no=>rw[q]at k;exact k.elim
theorem tX(O:XO w g c E X)(hc:X.calm=true){x y:Str}{i j:Nat}{a b:Expr}{ia ib:EV.E}{px py pt pos:Pos}{kt k2 pt2}(hx:bJ c x=some i)(hy:bJ c y=some j)(lx:c.nm.lookup x=some .local)(ly:c.nm.lookup y=some .local)(hij:i≠j)
  (ha:PE X a (tE w g c E ia)) (hb:PE X b (tE w g c E ib)) (hsa:isStar a=false) (hsb:isStar b=false) (hfa:[a,b].all (foldedForSure 8)=false) (hca:[a,b].all (constantsAlone 8)=false) (hl:(px.line==py.line)=true) (hi:¬ zm c i) (hea:esc ia=true) (hk:(zm c j/\fresh c ib=true/\c.frz=false)\/(¬ zm c j/\esc ib=true)) :
  PS X (.Assign [.Tuple [.Name x px,.Name y py] kt pt] (.Tuple [a,b] k2 pt2) pos) (tS w g c E fr (.par i j ia ib)):=λpins s σ H D I ⟨H0,B,τ,S,ss,h⟩=>by
 simp only[bW,bP,b8,bU,bS,bX,bT,bQ,b9,zK,zP,zS,zW,zT,zY,zX,zR,zQ,zV,zO,zU]at h;exact aP h
theorem BY(O:XO w g c E X)(hc:X.calm=true){x y z:Str}{i j l:Nat}{a b d:Expr}{ia ib id:EV.E}{px py pz pt pos:Pos}{kt k2 pt2}(hx:bJ c x=some i)(hy:bJ c y=some j)(hz:bJ c z=some l)(lx:c.nm.lookup x=some .local)(ly:c.nm.lookup y=some .local)(lz:c.nm.lookup z=some .local)(hij:i≠j)(hil:i≠l)(hjl:j≠l)
  (ha:PE X a (tE w g c E ia)) (hb:PE X b (tE w g c E ib)) (hd:PE X d (tE w g c E id)) (hsa:isStar a=false) (hsb:isStar b=false) (hsd:isStar d=false) (hfa:[a,b,d].all (foldedForSure 8)=false) (hca:[a,b,d].all (constantsAlone 8)=false) (hl:(px.line==py.line)=true) (hl':(px.line==pz.line)=true) (hi:¬ zm c i) (hj:¬ zm c j) (hk:¬ zm c l) (hea:esc ia=true) (heb:esc ib=true) (hed:esc id=true) :
  PS X (.Assign [.Tuple [.Name x px,.Name y py,.Name z pz] kt pt] (.Tuple [a,b,d] k2 pt2) pos) (tS w g c E fr (.par3 i j l ia ib id)):=λpins s σ H D I ⟨H0,B,τ,S,ss,h⟩=>by
 simp only[bW,bP,b8,bU,bS,bX,bT,bQ,b9,zK,zP,zS,zW,zT,zY,zX,zR,zQ,zV,zO,zU]at h;exact aP h
end
section
variable{w:W}{g:Gc}{c:Cc}{E:XK}{fr:Bool}{X:Cx}{H0:Hp}{B:Sh}{τ:Env}{σ:L2.St}{H H':Hp}{S:Sh}{Ed:Ends}
theorem gn{i:Nat}{d:EV.D}(h:zG τ i=.ok d):τ[i]? = some (some d):=by
 unfold zG at h;split at h
 ·rename_i q;cases h;exact q
 ·cases h
theorem xW(O:XO w g c E X)(hfz:c.frz=false){x:Str}{i:Nat}{a:Expr}{ia:EV.E}{p ap cp pos:Pos}(h:loc c x=some i)(ho:c.own.contains x=true)(ha:PE X a (tE w g c E ia))(hes:esc ia=true)(hs:isStar a=false)(hl:(ap.endLine==cp.line)=true) :
  PS X (.Expr (.Call (.Attribute (.Name x p) "append" ap) [a] [] cp) pos) (tS w g c E fr (.app i ia)):=by
 obtain⟨h1,h2,h3,h4⟩:=zy h;have hv:PE X (.Name x p) (eB i):=fg (i:=i) (by rw[O.N];exact h1) (by unfold dO;rw[O.nm];exact h2) h3 h4;have hst:=qf (es:=[]) (env:=X.env) hs;have hb:=gv (X:=X) (apos:=ap) (cpos:=cp) PySem.F.plainAttrs_list PySem.F.slot_list_append PySem.F.type_list_append mE hv (zE ha cQ hst) rfl (by rw[hst];rfl) hl hst rfl;refine PS.imp (gI hb rfl) λD σ H ⟨H0,B,τ,S,ss,k⟩=>?_
 simp only[bW,bP,b8,bU,bS,bX,bT,bQ,b9,zK,zP,zS,zW,zT,zY,zX,zR,zQ,zV,zO,zU]at k;cases q:zG τ i with
 |ex z=>unfold zG at q;split at q<;>cases q
 |no=>rw[q]at k;exact k.elim
 |ok d0=>
  rw[q]at k;have q':=gn q;have hi:zm c i:=⟨x,h1,ho⟩
  obtain⟨ad,oo,z1,y1,y2,y3⟩:=ss.own i d0 hi q';cases y3 with
  |dic kvs=>exact k.elim
  | @lst ds vs y3=>
  refine⟨_,z1,.inl ⟨rfl,vs,SqL.of y2⟩,s_e ss k λd v H1 _ p1 k1=>?_⟩
  try simp only at k1
  by_cases hz:ds.length<SZ
  ·rw[if_pos hz]at k1;have s1:=ss.up p1.same;have y2':=p1.same _ _ y2;obtain⟨s2,s3⟩:=s1.change (vs:=vs++[v]) (ds:=ds++[d]) hfz hi q' z1 ((y3.mono (qi p1.same)).append (.cons (p1.st hes) .nil));exact⟨ad,vs,v,rfl,rfl,y2',by rw[<-y3.length,aW];unfold SZ at hz;lia,k1 _ _ S s2 ((qi p1.same).trans s3)⟩
  ·rw[if_neg hz]at k1;exact k1.elim
theorem CM(O:XO w g c E X)(hfz:c.frz=false){x:Str}{i:Nat}{a:Expr}{ia:EV.E}{p ap cp pos:Pos}(h:loc c x=some i)(ho:c.own.contains x=true)(ha:PE X a (tE w g c E ia))(hes:esc ia=true)(hs:isStar a=false)(hl:(ap.endLine==cp.line)=true) :
  PS X (.Expr (.Call (.Attribute (.Name x p) "update" ap) [a] [] cp) pos) (tS w g c E fr (.dupd i ia)):=by
 obtain⟨h1,h2,h3,h4⟩:=zy h;have hv:PE X (.Name x p) (eB i):=fg (i:=i) (by rw[O.N];exact h1) (by unfold dO;rw[O.nm];exact h2) h3 h4;have hst:=qf (es:=[]) (env:=X.env) hs;have hb:=gv (X:=X) (apos:=ap) (cpos:=cp) PySem.F.plainAttrs_dict PySem.F.slot_dict_update PySem.F.type_dict_update AW hv (zE ha cQ hst) rfl (by rw[hst];rfl) hl hst rfl;refine PS.imp (gI hb rfl) λD σ H ⟨H0,B,τ,S,ss,k⟩=>?_
 simp only[bW,bP,b8,bU,bS,bX,bT,bQ,b9,zK,zP,zS,zW,zT,zY,zX,zR,zQ,zV,zO,zU]at k;cases q:zG τ i with
 |ex z=>unfold zG at q;split at q<;>cases q
 |no=>rw[q]at k;exact k.elim
 |ok d0=>
  rw[q]at k;have q':=gn q;have hi:zm c i:=⟨x,h1,ho⟩
  obtain⟨ad,oo,z1,y1,y2,y3⟩:=ss.own i d0 hi q';cases y3 with
  |lst r=>exact k.elim
  |dic kvs=>
   refine⟨_,z1,.inr (.inr (.inl ⟨rfl,.inl ⟨_,y2⟩⟩)),s_e ss k λd v H1 _ p1 k1=>?_⟩;cases d with
   |dic ms=>
    simp only at k1;by_cases hz:kvs.length+ms.length<SZ
    ·rw[if_pos hz]at k1;have s1:=ss.up p1.same;have y2':=p1.same _ _ y2;have hr:=p1.st hes;cases hr with
     | @dic b _ hb'=>
      obtain⟨b1,b2⟩:=bp.mp hb';obtain⟨s2,s3⟩:=s1.changeO (d1:=.dic (cL kvs ms)) (o1:=.dK (bh (cL kvs ms))) hfz hi q' z1 (.dic _);have hab:ad≠b:=λz=>by
       have:S.h ad=true:=by rw[ss.hd,y1,Bool.or_true]
       rw[z,b1]at this;cases this
      refine⟨ad,b,bh kvs,bh ms,rfl,rfl,hab,y2',b2,?_,?_⟩
      ·rw[kP,kP,aW];unfold SZ at hz;lia
      ·rw[l0];exact k1 _ _ S s2 ((qi p1.same).trans s3)
    ·rw[if_neg hz]at k1;exact k1.elim
   |_=>exact k1.elim
theorem uA(O:XO w g c E X)(hfz:c.frz=false){x:Str}{i:Nat}{a:Expr}{ia:EV.E}{p ap cp pos:Pos}(h:loc c x=some i)(ho:c.own.contains x=true)(ha:PE X a (tE w g c E ia))(hes:esc ia=true)(hs:isStar a=false)(hl:(ap.endLine==cp.line)=true) :
  PS X (.Expr (.Call (.Attribute (.Name x p) "extend" ap) [a] [] cp) pos) (tS w g c E fr (.ext i ia)):=by
 obtain⟨h1,h2,h3,h4⟩:=zy h;have hv:PE X (.Name x p) (eB i):=fg (i:=i) (by rw[O.N];exact h1) (by unfold dO;rw[O.nm];exact h2) h3 h4;have hst:=qf (es:=[]) (env:=X.env) hs;have hb:=gv (X:=X) (apos:=ap) (cpos:=cp) PySem.F.plainAttrs_list PySem.F.slot_list_extend PySem.F.type_list_extend yz hv (zE ha cQ hst) rfl (by rw[hst];rfl) hl hst rfl;refine PS.imp (gI hb rfl) λD σ H ⟨H0,B,τ,S,ss,k⟩=>?_
 simp only[bW,bP,b8,bU,bS,bX,bT,bQ,b9,zK,zP,zS,zW,zT,zY,zX,zR,zQ,zV,zO,zU]at k;cases q:zG τ i with
 |ex z=>unfold zG at q;split at q<;>cases q
 |no=>rw[q]at k;exact k.elim
 |ok d0=>
  rw[q]at k;have q':=gn q;have hi:zm c i:=⟨x,h1,ho⟩
  obtain⟨ad,oo,z1,y1,y2,y3⟩:=ss.own i d0 hi q';cases y3 with
  |dic kvs=>exact k.elim
  | @lst ds vs y3=>
  refine⟨_,z1,.inl ⟨rfl,vs,SqL.of y2⟩,s_e ss k λd v H1 _ p1 k1=>?_⟩;cases d with
  |tup ys=>
   simp only at k1;by_cases hz:ds.length+ys.length<SZ
   ·rw[if_pos hz]at k1;have s1:=ss.up p1.same;have y2':=p1.same _ _ y2;obtain⟨b,ws,rfl,hb,rw'⟩:∃b ws,v=.ref b/\SqT g.K (hid H1 S) b ws/\ze g (hid H1 S) ys ws:=by
     cases p1.st hes with
     |tup q r=>exact⟨_,_,rfl,q,r⟩
    obtain⟨s2,s3⟩:=s1.change (vs:=vs++ws) (ds:=ds++ys) hfz hi q' z1 ((y3.mono (qi p1.same)).append rw');exact⟨ad,b,vs,ws,rfl,rfl,y2',by rw[O.K];exact zI zM hb,by rw[<-y3.length,<-rw'.length,aW];unfold SZ at hz;lia,k1 _ _ S s2 ((qi p1.same).trans s3)⟩
   ·rw[if_neg hz]at k1;exact k1.elim
  |_=>exact k1.elim
theorem Bh(O:XO w g c E X)(hfz:c.frz=false){x y:Str}{i j:Nat}{p ap cp px q1 pos:Pos}{k0}(hx:bJ c x=some i)(hy:loc c y=some j)(hox:c.own.contains x=false)(hoy:c.own.contains y=true)(hl:(ap.endLine==cp.line)=true) :
  PS X (.Assign [.Name x px] (.Call (.Attribute (.Name y p) "pop" ap) [.Constant (.int 0) k0 q1] [] cp) pos) (tS w g c E fr (.pop0 i j)):=by
 obtain⟨h1,h2,h3,h4⟩:=zy hy;obtain⟨l1,l2⟩:=zz hx;obtain⟨l3,_⟩:=zy l1;have hv:PE X (.Name y p) (eB j):=fg (i:=j) (by rw[O.N];exact h1) (by unfold dO;rw[O.nm];exact h2) h3 h4;have hst:aL [Expr.Constant (.int 0) k0 q1] X.env=(false,eval (Expr.Constant (.int 0) k0 q1) X.env)::aL [] X.env:=rfl;have hb:=gv (X:=X) (apos:=ap) (cpos:=cp) PySem.F.plainAttrs_list PySem.F.slot_list_pop PySem.F.type_list_pop x5 hv (zE mN cQ hst) rfl rfl hl hst rfl;refine PS.imp (k9 (i:=i) (by rw[O.N];exact O.nd) (by rw[O.N];exact l3) (by unfold L2.Loc;rw[O.nm];rcases l2 with z|z;exact .inl z;exact .inr z.1) hb (g_ rfl) (by
  rcases l2 with z|z
  ·exact .inr (by rw[O.nm];exact z)
  ·exact .inl (O.fn x z.2))) λD σ H ⟨H0,B,τ,S,ss,k⟩=>?_
 simp only[bW,bP,b8,bU,bS,bX,bT,bQ,b9,zK,zP,zS,zW,zT,zY,zX,zR,zQ,zV,zO,zU]at k;cases q:zG τ j with
 |ex z=>unfold zG at q;split at q<;>cases q
 |no=>rw[q]at k;exact k.elim
 |ok d0=>
  rw[q]at k;have q':=gn q;have hi:zm c j:=⟨y,h1,hoy⟩
  obtain⟨ad,oo,z1,y1,y2,y3⟩:=ss.own j d0 hi q';cases y3 with
  |dic kvs=>exact k.elim
  | @lst ds vs y3=>
   cases ds with
   |nil=>exact k.elim
   |cons d ds=>
    cases y3 with
    | @cons _ _ v vs r rs=>
     obtain⟨s2,s3⟩:=ss.change (vs:=vs) (ds:=ds) hfz hi q' z1 rs;have hni:¬ zm c i:=λ⟨z,z1,z2⟩=>by rw[l3]at z1;cases z1;rw[hox]at z2;cases z2
     have s4:=s2.set hni (r.mono s3);exact⟨_,z1,.inl ⟨rfl,_,SqL.of y2⟩,ad,v::vs,0,0,v,rfl,rfl,y2,by decide,by decide,by simp[seqIndex?],rfl,k _ _ S s4 s3⟩
theorem tm(O:XO w g c E X)(hfz:c.frz=false){x:Str}{i:Nat}{k e:Expr}{ik ie:EV.E}{p sp pos:Pos}(h:loc c x=some i)(ho:c.own.contains x=true)(hk:PE X k (tE w g c E ik))(he:PE X e (tE w g c E ie))(hes:esc ie=true)(hsl:isSlice k=false)(hc:eE e=false) :
  PS X (.Assign [.Subscript (.Name x p) k sp] e pos) (tS w g c E fr (.seti i ik ie)):=by
 obtain⟨h1,h2,h3,h4⟩:=zy h;have hv:PE X (.Name x p) (eB i):=fg (i:=i) (by rw[O.N];exact h1) (by unfold dO;rw[O.nm];exact h2) h3 h4;have hg:PG X (.Subscript (.Name x p) k sp) (pG (eB i) (tE w g c E ik) (λx y v H Q=>o3 x y v H Q\/oQ x y v H Q)):=rY hv hk (set_list.or (Cf O.units)) (by intro v;cases k<;>first|rfl|(simp[isSlice]at hsl));refine PS.imp (nG he hg (by simp only[swapsWithSole];exact g_ hc) rfl rfl) λD σ H ⟨H0,B,τ,S,ss,k⟩=>?_
 simp only[bW,bP,b8,bU,bS,bX,bT,bQ,b9,zK,zP,zS,zW,zT,zY,zX,zR,zQ,zV,zO,zU]at k;refine s_e ss k λd v H1 _ p1 k1=>?_
 cases q:zG τ i with
 |ex z=>unfold zG at q;split at q<;>cases q
 |no=>rw[q]at k1;exact k1.elim
 |ok d0=>
  rw[q]at k1;have q':=gn q;have hi:zm c i:=⟨x,h1,ho⟩
  have s1:=ss.up p1.same;obtain⟨ad,oo,z1,y1,y2,y3⟩:=s1.own i d0 hi q';refine⟨_,z1,s_e s1 (cx.up k1 (qi p1.same)) λn vn H2 _ p2 k2=>?_⟩;cases y3 with
  | @lst ds vs y3=>
   cases n with
   |int j=>
    simp only at k2;cases qj:ixN ds.length j with
    |none=>rw[qj]at k2;exact k2.elim
    |some m=>
     rw[qj]at k2;have s2:=s1.up p2.same;have y2':=p2.same _ _ y2;obtain⟨s3,s4⟩:=s2.change (vs:=vs.set m v) (ds:=ds.set m d) hfz hi q' z1 ((y3.mono (qi p2.same)).set ((p1.st hes).mono (qi p2.same)) m);exact .inl ⟨ad,vs,j,m,rfl,p2.rb.int,y2',by rw[<-y3.length];exact qj,k2 _ _ S s3 ((qi p2.same).trans s4)⟩
   |_=>exact k2.elim
  |dic kvs=>
   cases n with
   |int j=>
    cases d with
    |int z=>
     simp only at k2;by_cases hz:kvs.length<SZ
     ·rw[if_pos hz]at k2;have s2:=s1.up p2.same;have y2':=p2.same _ _ y2;obtain⟨s3,s4⟩:=s2.changeO (d1:=.dic (cm kvs j z)) (o1:=.dK (bh (cm kvs j z))) hfz hi q' z1 (.dic _);have hv:=p1.rb.int;subst hv;refine .inr ⟨ad,kvs,j,z,rfl,p2.rb.int,rfl,y2',?_,k2 _ _ S s3 ((qi p2.same).trans s4)⟩;rw[aW];unfold SZ at hz;lia
     ·rw[if_neg hz]at k2;exact k2.elim
    |_=>exact k2.elim
   |_=>exact k2.elim
theorem lC:PSs X [] (tSs w g c E fr .nil):=PSs.imp AK λD σ H ⟨H0,B,τ,S,ss,h⟩=>by
 simp only[qa]at h;exact h σ H S ss (qe.refl _)
theorem lQ{s:Stmt}{r:List Stmt}{is:EV.S}{ir:Ss}(h1:PS X s (tS w g c E fr is))(h2:PSs X r (tSs w g c E fr ir)):PSs X (s::r) (tSs w g c E fr (.cons is ir)):=
 PSs.imp (lb h1 h2) λD σ H ⟨H0,B,τ,S,ss,h⟩=>by
  simp only[qa]at h;refine⟨H0,B,τ,S,ss,?_⟩;cases q:evS w is τ with
  |nx τ'=>rw[q]at h;exact λσ' H' S' s' e=>⟨H0,B,τ',S',s',cx.up h e⟩
  |bk τ'=>rw[q]at h;exact h
  |ct τ'=>rw[q]at h;exact h
  |rt d=>rw[q]at h;exact h
  |ex k=>rw[q]at h;exact h
  |no=>rw[q]at h;exact h
theorem BL{t:Expr}{a b:List Stmt}{it:T}{ia ib:Ss}{pos:Pos}(ht:PT X t (tT w g c E it))(ha:PSs X a (tSs w g c E fr ia))(hb:PSs X b (tSs w g c E fr ib)):PS X (.If t a b pos) (tS w g c E fr (.ite it ia ib)):=
 PS.imp (B' ht ha hb) λD σ H ⟨H0,B,τ,S,ss,h⟩=>by
  simp only[bW,bP,b8,bU,bS,bX,bT,bQ,b9,zK,zP,zS,zW,zT,zY,zX,zR,zQ,zV,zO,zU]at h;refine s_t ss h λz H1 _ s1 k1=>?_
  cases z with
  |true=>exact⟨H0,B,τ,S,ss.up s1,cx.up k1 (qi s1)⟩
  |false=>exact⟨H0,B,τ,S,ss.up s1,cx.up k1 (qi s1)⟩
theorem PS.nox'{st:Stmt}{t:TS}(h:PS X.nox st t):PS X st t:=λpins s σ H D I hw=>
 wpAny_mono (h pins s σ H D (I.wish _) hw) (λ_ _ q=>q.unwish) λ_ _ z=>aP z
theorem XO.nox(O:XO w g c E X):XO w g c E0 X.nox:=⟨O.K,O.nm,O.N,O.nd,O.calm,O.units,O.fn,O.kind,jU rfl rfl,O.gok,O.fns,O.sub⟩
theorem XS.nox(O:XS w g c E X):XS w g c E0 X.nox:=⟨O.toXO.nox,λ_ _ _ _ _ _ _ _ _ _ _ z=>aP z,O.exc,O.cat,O.frm,O.gh⟩
theorem nC{o:O}(h:cx g c E fr H0 B H S Ed o.noEx):cx g c E0 fr H0 B H S Ed o/\(∀k,o≠.ex k)/\o≠.no:=by
 cases o with
 |ex k=>exact h.elim
 |no=>exact h.elim
 |nx t=>exact⟨h,(λ_ z=>by cases z),(λz=>by cases z)⟩
 |bk t=>exact⟨h,(λ_ z=>by cases z),(λz=>by cases z)⟩
 |ct t=>exact⟨h,(λ_ z=>by cases z),(λz=>by cases z)⟩
 |rt t=>exact⟨h,(λ_ z=>by cases z),(λz=>by cases z)⟩
noncomputable def frozen(c:Cc)(b:Bool):Cc:={c with frz:=c.frz||b}
theorem XS.froze(O:XS w g c E X){b:Bool}:XS w g (frozen c b) E X:=
 ⟨⟨O.K,O.nm,O.N,O.nd,O.calm,O.units,O.fn,O.kind,O.pass,O.gok,O.fns,O.sub⟩,O.thr,O.exc,O.cat,O.frm,O.gh⟩
noncomputable def dS(B:Sh)(b:Bool)(σ:L2.St)(H:Hp):Sh:=if b=true then ⟨B.o,B.h,σ,H⟩else B
theorem ki{b:Bool}:(dS B b σ H).h=B.h:=by unfold dS;split<;>rfl
theorem rf{b:Bool}{H1:Hp}:hid H1 (dS B b σ H)=hid H1 B:=by funext a;unfold hid;rw[ki]
theorem SS.froze(b:Bool)(ss:SS g c H0 B τ σ H S):SS g (frozen c b) H0 (dS B b σ H) τ σ H S:=by
 refine⟨⟨ss.se.len,ss.se.val,ss.se.sub⟩,ss.lenN,ss.same,?_,?_,ss.new,ss.own,ss.inj,λz=>?_⟩
 ·unfold dS;split
  ·exact ss.sub0
  ·exact ss.sub0
 ·rw[ki];exact ss.hd
 ·cases b with
  |true=>exact⟨λi _=>rfl,qe.refl _⟩
  |false=>
   have z:(c.frz||false)=true:=z;rw[Bool.or_false]at z;exact ss.frz z
theorem SS.thaw{b:Bool}{σ1:L2.St}{H1:Hp}{τ1:Env}{S1:Sh}(s0:SS g c H0 B τ1 σ1 H1 S1)(ss:SS g (frozen c b) H0 (dS B b σ1 H1) τ σ H S):SS g c H0 B τ σ H S:=by
 refine⟨⟨ss.se.len,ss.se.val,ss.se.sub⟩,ss.lenN,ss.same,s0.sub0,?_,ss.new,ss.own,ss.inj,λz=>?_⟩
 ·have:=ss.hd;rw[ki]at this;exact this
 ·have f:=ss.frz (by show (c.frz||b)=true;rw[z];rfl);cases b with
  |true=>exact⟨λi hi=>(f.1 i hi).trans ((s0.frz z).1 i hi),(s0.frz z).2.trans f.2⟩
  |false=>exact f
theorem SS.iced{b:Bool}{σ1:L2.St}{H1:Hp}(hb:b=true)(ss:SS g (frozen c b) H0 (dS B b σ1 H1) τ σ H S):qe H1 H:=by
 subst hb;exact(ss.frz (by show (c.frz||true)=true;rw[Bool.or_true])).2
theorem Ac(O:XO w g c E X)(hc:X.calm=true){tg it:Expr}{b:List Stmt}{itg:Tg}{iit:It}{ib:Ss}{pos:Pos}(hi:PI X.nox tg it (tIt w g c E0 iit))(hg:PG X.nox tg (gT X.K itg))(hf:gU c itg)(hb:PSs X.nox b (tSs w g (frozen c (owned iit)) E0 fr ib))(hs:zo it=true) :
  PS X (.For tg it b [] pos) (tS w g c E fr (.for itg iit ib)):=by
 refine PS.nox' (PS.imp (xY (X:=X.nox) PassesOwn.never hc hi hg hb (λx=>by cases it<;>first|rfl|(simp[zo]at hs))) λD σ H ⟨H0,B,τ,S,ss,h⟩=>?_);simp only[bW,bP,b8,bU,bS,bX,bT,bQ,b9,zK,zP,zS,zW,zT,zY,zX,zR,zQ,zV,zO,zU]at h;obtain⟨h,nex,nno⟩:=nC h;cases q:evI w iit τ with
 |ex z=>rw[q]at nex;exact absurd rfl (nex z)
 |no=>rw[q]at nno;exact absurd rfl nno
 |ok ds=>
  rw[q]at h nex nno;simp only[R.out_ok]at h nex nno;refine⟨τ,S,ss.se,?_⟩;rw[q];intro J H1 s1 kW kS;generalize hr:cY itg (λσ=>qa w ib σ) ds τ=r at h nex nno;refine⟨λi m σ' H'=>m=ds.length-i/\i<=ds.length/\∃τ' S',SS g (frozen c (owned iit)) H0 (dS B (owned iit) σ H1) τ' σ' H' S'/\qe (hid H1 S) (hid H' S')/\cY itg (λσ=>qa w ib σ) (ds.drop i) τ'=r,⟨ds.length,rfl,b7 _,τ,S,(ss.up s1).froze _,qe.refl _,hr⟩,?_⟩;rintro i m σ' H' ⟨rfl,hi',τ',S',ss',e',hl⟩;have gg:Goes g J ds H' S':=by
   cases hw:owned iit with
   |false=>exact kS hw H' S' e' ss'.se.sub
   |true=>exact kW H' S' (ss'.iced hw) e' ss'.se.sub
  obtain⟨g1,g2⟩:=gg;have eH:qe (hid H S) (hid H' S'):=(qi s1).trans e';by_cases hlt:i<ds.length
  ·have hd:ds[i]? = some ds[i]:=List.getElem?_eq_getElem hlt;obtain⟨go1,go2⟩:=g2 i ds[i] hd;refine .inr ⟨go1,λσ2 H2=>∃τ' S',SS g (frozen c (owned iit)) H0 (dS B (owned iit) σ H1) τ' σ2 H2 S'/\qe (hid H1 S) (hid H2 S')/\cY itg (λσ=>qa w ib σ) (ds.drop (i+1)) τ'=r,λσ2 H2 z=>⟨ds.length-(i+1),by lia,rfl,hlt,z⟩,λx H2 hy=>?_⟩;obtain⟨s2,rx⟩:=go2 x H2 hy;rw[List.drop_eq_getElem_cons hlt]at hl;simp only[cY]at hl;cases q1:store itg ds[i] τ' with
   |ex z=>rw[q1]at hl;exact absurd hl.symm (nex z)
   |no=>rw[q1]at hl;exact absurd hl.symm nno
   |ok τ1=>
    rw[q1]at hl;simp only[R.out_ok]at hl;refine(ss'.up s2).store O.K hf rx q1 λσ1 ss1=>⟨H0,_,τ1,S',ss1,?_⟩
    cases q2:qa w ib τ1 with
    |nx τ2=>rw[q2]at hl;exact λσ2 H3 S3 s3 e3=>⟨τ2,S3,s3,(e'.trans (qi s2)).trans e3,hl⟩
    |ct τ2=>rw[q2]at hl;exact λσ2 H3 S3 s3 e3=>⟨τ2,S3,s3,(e'.trans (qi s2)).trans e3,hl⟩
    |bk τ2=>
     rw[q2]at hl;simp only at hl;rw[<-hl]at h;exact λσ2 H3 S3 s3 e3=>h σ2 H3 S3 ((ss.up s1).thaw s3) ((eH.trans (qi s2)).trans e3)
    |rt d=>
     rw[q2]at hl;simp only at hl;rw[<-hl]at h;refine λv H3 s3 r3 f3=>h v H3 s3 (by rw[rf]at r3;exact r3) λz=>?_
     have f3:=f3 z;unfold dS at f3;split at f3
     ·exact f3
     ·exact f3
    |ex z=>rw[q2]at hl;exact absurd hl.symm (nex z)
    |no=>rw[q2]at hl;exact absurd hl.symm nno
  ·have e:i=ds.length:=by lia
   subst e;rw[List.drop_length]at hl;simp only[cY]at hl;rw[<-hl]at h;exact .inl ⟨g1 ds.length (aB _),h σ' H' S' ((ss.up s1).thaw ss') eH⟩
theorem BQ{t:Expr}{b:List Stmt}{it:T}{ib:Ss}{pos:Pos}(ht:PT X.nox t (tT w g c E0 it))(hb:PSs X.nox b (tSs w g c E0 fr ib)):PS X (.While t b [] pos) (tS w g c E fr (.while it ib)):=by
 refine PS.nox' (PS.imp (yO (X:=X.nox) PassesOwn.never ht hb) λD σ H ⟨H0,B,τ,S,ss,h⟩=>?_);simp only[bW,bP,b8,bU,bS,bX,bT,bQ,b9,zK,zP,zS,zW,zT,zY,zX,zR,zQ,zV,zO,zU]at h;obtain⟨h,nex,nno⟩:=nC h;generalize hr:dA (λσ=>evT w it σ) (λσ=>qa w ib σ) fb τ=r at h nex nno;refine⟨λm σ' H'=>∃τ' S',SS g c H0 B τ' σ' H' S'/\qe (hid H S) (hid H' S')/\dA (λσ=>evT w it σ) (λσ=>qa w ib σ) m τ'=r,⟨fb,τ,S,ss,qe.refl _,hr⟩,?_⟩;rintro m σ' H' ⟨τ',S',ss',e',hl⟩;cases m with
 |zero=>simp only[dA]at hl;exact absurd hl.symm nno
 |succ m=>
  simp only[dA]at hl;cases q:evT w it τ' with
  |ex z=>rw[q]at hl;exact absurd hl.symm (nex z)
  |no=>rw[q]at hl;exact absurd hl.symm nno
  |ok z=>
   rw[q]at hl;simp only[R.out_ok]at hl;refine⟨τ',S',ss'.se,?_⟩;rw[q];intro H1 s1;cases z with
   |false=>
    simp only[bM,if_false]at hl;rw[if_neg bK];rw[<-hl]at h;exact h σ' H1 S' (ss'.up s1) (e'.trans (qi s1))
   |true=>
    simp only[if_true]at hl;rw[if_pos rfl];refine⟨λσ2 H2=>∃τ' S',SS g c H0 B τ' σ2 H2 S'/\qe (hid H S) (hid H2 S')/\dA (λσ=>evT w it σ) (λσ=>qa w ib σ) m τ'=r,λσ2 H2 z=>⟨m,Nat.lt_succ_self m,z⟩,H0,B,τ',S',ss'.up s1,?_⟩;have e1:=e'.trans (qi (S:=S') s1);cases q2:qa w ib τ' with
    |nx τ2=>rw[q2]at hl;exact λσ2 H3 S3 s3 e3=>⟨τ2,S3,s3,e1.trans e3,hl⟩
    |ct τ2=>rw[q2]at hl;exact λσ2 H3 S3 s3 e3=>⟨τ2,S3,s3,e1.trans e3,hl⟩
    |bk τ2=>
     rw[q2]at hl;simp only at hl;rw[<-hl]at h;exact λσ2 H3 S3 s3 e3=>h σ2 H3 S3 s3 (e1.trans e3)
    |rt d=>rw[q2]at hl;simp only at hl;rw[<-hl]at h;exact h
    |ex z=>rw[q2]at hl;exact absurd hl.symm (nex z)
    |no=>rw[q2]at hl;exact absurd hl.symm nno
theorem Cw(O:XS w g c E X)(hc:X.calm=true)(ht:c.thr=true){x:Str}{a:Expr}{as:List Expr}{ies:Es}{np cp pos:Pos}{n:Nat}(h:glob c x=some .exc)(ha:PA X (a::as) (tA w g c E ies))(hes:cEs n c (a::as)=some ies)(hn:(a::as).length<=100000) :
  PS X (.Raise (some (.Call (.Name x np) (a::as) [] cp)) none pos) (tS w g c E fr (.raise x ies)):=λpins s σ H D I ⟨H0,B,τ,S,ss,h⟩=>by
 simp only[bW,bP,b8,bU,bS,bX,bT,bQ,b9,zK,zP,zS,zW,zT,zY,zX,zR,zQ,zV,zO,zU]at h;exact aP h
end
section
variable{w:W}{g:Gc}{c:Cc}{E:XK}{fr:Bool}{X:Cx}{H0:Hp}{B:Sh}{τ:Env}{σ:L2.St}{H H':Hp}{S:Sh}{Ed:Ends}
theorem lG{s:Stmt}:PS X s (tS w g c E fr .unk):=λpins s σ H D I ⟨H0,B,τ,S,ss,h⟩=>by
 simp only[bW,bP,b8,bU,bS,bX,bT,bQ,b9,zK,zP,zS,zW,zT,zY,zX,zR,zQ,zV,zO,zU]at h;exact h.elim
theorem xD(O:XO w g c E X)(hfz:c.frz=false){x:Str}{i:Nat}{k a:Expr}{ik ia:EV.E}{p ap cp pos:Pos}(h:loc c x=some i)(ho:c.own.contains x=true)(hk:PE X k (tE w g c E ik))(ha:PE X a (tE w g c E ia))(hes:esc ia=true)(hsk:isStar k=false)(hs:isStar a=false)(hl:(ap.endLine==cp.line)=true) :
  PS X (.Expr (.Call (.Attribute (.Name x p) "insert" ap) [k,a] [] cp) pos) (tS w g c E fr (.ins i ik ia)):=by
 obtain⟨h1,h2,h3,h4⟩:=zy h;have hv:PE X (.Name x p) (eB i):=fg (i:=i) (by rw[O.N];exact h1) (by unfold dO;rw[O.nm];exact h2) h3 h4;have hst:=qf (es:=[]) (env:=X.env) hs;have hst2:=qf (es:=[a]) (env:=X.env) hsk;have hb:=gv (X:=X) (apos:=ap) (cpos:=cp) PySem.F.plainAttrs_list PySem.F.slot_list_insert PySem.F.type_list_insert tZ hv (zE hk (zE ha cQ hst) hst2) rfl (by rw[hst2,hst];rfl) hl hst2 (by rw[hst];rfl);refine PS.imp (gI hb rfl) λD σ H ⟨H0,B,τ,S,ss,z⟩=>?_
 simp only[bW,bP,b8,bU,bS,bX,bT,bQ,b9,zK,zP,zS,zW,zT,zY,zX,zR,zQ,zV,zO,zU]at z;cases q:zG τ i with
 |ex y=>unfold zG at q;split at q<;>cases q
 |no=>rw[q]at z;exact z.elim
 |ok d0=>
  rw[q]at z;have q':=gn q;have hi:zm c i:=⟨x,h1,ho⟩
  obtain⟨ad,oo,z1,y1,y2,y3⟩:=ss.own i d0 hi q';cases y3 with
  |dic kvs=>exact z.elim
  | @lst ds vs y3=>
  refine⟨_,z1,.inl ⟨rfl,vs,SqL.of y2⟩,s_e ss z λn vn H1 _ p1 k1=>?_⟩;have s1:=ss.up p1.same;refine s_e s1 (cx.up k1 (qi p1.same)) λd v H2 _ p2 k2=>?_
  simp only[gY]at k2;cases n with
  |int j=>
   simp only at k2;split at k2
   ·rename_i hj
    have s2:=s1.up p2.same;have y2':=p2.same _ _ (p1.same _ _ y2);have y3':=(y3.mono (qi p1.same)).mono (qi p2.same);obtain⟨s3,s4⟩:=s2.change (vs:=vs.take j.toNat++v::vs.drop j.toNat) (ds:=ds.take j.toNat++d::ds.drop j.toNat) hfz hi q' z1 ((y3'.take _).append (.cons (p2.st hes) (y3'.drop _)));have hn:=y3.length;exact⟨ad,vs,j,v,rfl,by rw[p1.rb.int],y2',by rw[<-hn,aW];have:=hj.2.2;unfold SZ at this;lia,hj.1,by rw[<-hn];exact hj.2.1,k2 _ _ S s3 ((qi p2.same).trans s4)⟩
   ·exact k2.elim
  |_=>exact k2.elim
theorem XS.held(O:XS w g c E X)(x:Addr):XS w g (iq c) E0 (X.held x):=
 ⟨⟨O.K,O.nm,O.N,O.nd,(λz=>by cases z),O.units,O.fn,O.kind,jU rfl rfl,(λy k z=>(O.gh y k z).2 _),(λz=>by cases z),O.sub⟩,(λz=>by cases z),(λy C z _=>absurd rfl (O.gh y .exc z).1),O.cat,O.frm,(λy k z=>by cases z)⟩
theorem As(O:XS w g c E X){x:Str}{b:List Stmt}{b₀:Stmt}{suite:List Stmt}{ib ih:Ss}{np hpos pos:Pos}(hfz:c.frz=false)(he:c.own=[])(hg:glob c x=some .exc\/glob c x=some .exk)
  (hb:∀(Eh:XK) pn Et,XS w g {c with thr:=false} Eh (X.inTry pn Et)->PSs (X.inTry pn Et) b (tSs w g {c with thr:=false} Eh false ib)) (hs:∀y,PSs (X.held y) (b₀::suite) (tSs w g (iq c) E0 false ih)) :
  PS X (.Try b [.ExceptHandler (some (.Name x np)) none (b₀::suite) hpos] [] [] pos) (tS w g c E false (.try ib x none ih)):=λpins s σ H D I ⟨H0,B,τ,S,ss,h⟩=>by
 simp only[bW,bP,b8,bU,bS,bX,bT,bQ,b9,zK,zP,zS,zW,zT,zY,zX,zR,zQ,zV,zO,zU]at h;exact aP h
theorem rW(O:XS w g c E X){x n:Str}{i:Nat}{b:List Stmt}{b₀:Stmt}{suite:List Stmt}{ib ih:Ss}{np hpos pos:Pos}(hfz:c.frz=false)(he:c.own=[])(hg:glob c x=some .exc\/glob c x=some .exk)(hi:c.N[i]? = some n)(hn:c.nm.lookup n=some .local)
  (hb:∀(Eh:XK) pn Et,XS w g {c with thr:=false} Eh (X.inTry pn Et)->PSs (X.inTry pn Et) b (tSs w g {c with thr:=false} Eh false ib)) (hs:∀y,PSs (X.held y) (b₀::suite) (tSs w g (iq c) E0 false ih)) :
  PS X (.Try b [.ExceptHandler (some (.Name x np)) (some n) (b₀::suite) hpos] [] [] pos) (tS w g c E false (.try ib x (some i) ih)):=λpins s σ H D I ⟨H0,B,τ,S,ss,h⟩=>by
 simp only[bW,bP,b8,bU,bS,bX,bT,bQ,b9,zK,zP,zS,zW,zT,zY,zX,zR,zQ,zV,zO,zU]at h;exact aP h
end
theorem C3{e:Expr}{x:Str}{ap cp:Pos}{k a:Expr}(h:kE e=some (x,ap,k,a,cp)):∃p,e=.Call (.Attribute (.Name x p) "insert" ap) [k,a] [] cp:=by
 unfold kE at h;split at h
 ·split at h
  ·split at h
   ·split at h
    ·split at h
     ·rename_i hk
      simp only[aC,List.isEmpty_iff,beq_iff_eq]at hk;obtain⟨rfl,rfl⟩:=hk;cases h;exact⟨_,rfl⟩
     ·cases h
    ·cases h
   ·cases h
  ·cases h
 ·cases h
theorem q_{x y:Str}{px py pt pt2:Pos}{kt k2:Nat}{a b:Expr}{env:PySem.Env}(h:env.kindOf x≠some .local):swappedStores [.Tuple [.Name x px,.Name y py] kt pt] (.Tuple [a,b] k2 pt2) env=pure none:=by
 have hx:(env.kindOf x==some aM.local)=false:=by simpa using h
 unfold swappedStores;simp only;split
 ·rfl
 ·split
  ·rfl
  ·split
   ·rfl
   ·rename_i hq
    exfalso;refine hq ?_;rw[List.filterMap_cons_none (by simp only[hx,Bool.false_and];rfl)];have:∀l:List Expr,∀f:Expr->Option Str,(l.filterMap f).length<=l.length:=λl f=>List.length_filterMap_le f l
    simp only[bu,bne_iff_ne,ne_eq];left;intro z;have q:([Expr.Name x px,Expr.Name y py]:List Expr).length<=([Expr.Name y py]:List Expr).length:=by rw[<-z];exact this _ _
    simp at q
theorem sZ{ts:List Expr}{k:Nat}{p:Pos}{e:Expr}{env:PySem.Env}(h:isTup e=true->jB e=true):swappedStores [.Tuple ts k p] e env=pure none:=by
 cases e<;>first|rfl|skip
 rename_i vs k2 p2
 have h:vs.all (foldedForSure 8)=true:=h rfl;unfold swappedStores;simp only[h,if_true];split
 ·rfl
 ·split
  ·rfl
  ·split
   ·rfl
   ·rfl
theorem mr{ts:List Expr}{e:Expr}{x y:Str}{a b:Expr}(h:mW ts e=some (x,y,a,b)):∃px py k2 pt2,ts=[.Name x px,.Name y py]/\e=.Tuple [a,b] k2 pt2/\isStar a=false/\isStar b=false/\[a,b].all (foldedForSure 8)=false/\[a,b].all (constantsAlone 8)=false/\(px.line==py.line)=true:=by cases h
theorem vX{ts:List Expr}{e:Expr}{x y z:Str}{a b d:Expr}(h:jM ts e=some (x,y,z,a,b,d)):∃px py pz k2 pt2,ts=[.Name x px,.Name y py,.Name z pz]/\e=.Tuple [a,b,d] k2 pt2/\isStar a=false/\isStar b=false/\isStar d=false/\[a,b,d].all (foldedForSure 8)=false/\[a,b,d].all (constantsAlone 8)=false/\(px.line==py.line)=true/\(px.line==pz.line)=true:=by
 unfold jM at h;split at h
 ·split at h
  ·split at h
   ·rename_i hc
    simp only[aC,aY]at hc;cases h;exact⟨_,_,_,_,_,rfl,rfl,hc.1.1.1.1.1.1,hc.1.1.1.1.1.2,hc.1.1.1.1.2,hc.1.1.1.2,hc.1.1.2,hc.1.2,hc.2⟩
   ·cases h
  ·cases h
 ·cases h
section
variable{w:W}{g:Gc}{c:Cc}{E:XK}{fr:Bool}{X:Cx}
theorem B6(O:XO w g c E X){n:Nat}(hn:n<=100000){x:Str}{i:Nat}{elt:Expr}{gs:List b6}{sc:aO}{p p' pos:Pos}{ie:EV.E}(hl:bJ c x=some i)(h:cE n c (.ListComp elt gs sc p)=some ie)(htw:fP (.ListComp elt gs sc p)=false)(hk:(zm c i/\fresh c ie=true/\c.frz=false)\/(¬ zm c i/\esc ie=true)) :
  PS X (.Assign [.Name x p'] (.ListComp elt gs sc p) pos) (tS w g c E fr (.set (.nm i) ie)):=by
 obtain⟨l1,l2⟩:=zz hl;obtain⟨l3,_⟩:=zy l1;have hlt:i<c.N.length:=(List.getElem?_eq_some_iff.mp l3).1;have hN:X.N.Nodup:=by rw[O.N];exact O.nd
 have hix:X.N[i]? = some x:=by rw[O.N];exact l3
 have hx:L2.Loc X.env.scope x:=by unfold L2.Loc;rw[O.nm];rcases l2 with z|z;exact .inl z;exact .inr z.1
 have hf:X.fn x=true\/X.env.scope.names.lookup x=some .local:=by
  rcases l2 with z|z
  ·exact .inr (by rw[O.nm];exact z)
  ·exact .inl (O.fn x z.2)
 cases hb:(X.env.blockKind==.function&&X.env.kindOf x==some .local&&p'.line==p.line && !(sc.names.any λ(n,k)=>n==x&&(k==.local||k==.cell)))with
 |false=>
  have hs:swapsWith (.ListComp elt gs sc p) (some (.Name x p')) pos.line X.env=pure false:=by rw[<-hb];rfl
  exact kR (e:=.ListComp elt gs sc p) (k9 hN hix hx ((snd n hn).e O h) hs hf) (λ_ _ _ z=>z) hlt hk
 |true=>
  have hs:swapsWith (.ListComp elt gs sc p) (some (.Name x p')) pos.line X.env=pure true:=by rw[<-hb];rfl
  match n,h with
  | 0,h=>simp[cE]at h
  |m+1,h=>
   have ih:=snd (w:=w) (g:=g) m (Nat.le_of_succ_le hn);obtain⟨tgt,it,ifs,iit,itg,it',ie',rfl,hs1,hk1,h1,h2,h3,h4,he,rfl⟩:=mU h htw;have hS:cM X (zD sc.names) (dE c sc.names) sc:=cM.of (by
    have e1:(λx=>c.nm.lookup x)=X.env.kindOf:=by funext x;show _=X.env.scope.names.lookup x;rw[O.nm]
    rw[<-e1,O.N];exact hk1.1)
   refine kR (e:=.ListComp elt [⟨tgt,it,ifs,0⟩] sc p) (xO (tb:=λacc=>iE acc (tE w g (bV c sc) E0 ie')) hN hix hx (O.calm hs1.1) hS (ih.i O h1 he.2) (λcl C s₀ H₀ fp=>?_) (by simp) hs hf (λx=>by
    have q:=hs1.2;cases it<;>first|rfl|cases q)) (λσ H Q q=>k_ O hS he.1 q) hlt hk
   have OY:=O.comp hS.kind hk1.2 cl C s₀ H₀ fp;exact⟨fA OY h2,ih.ifs OY h3,λacc=>mZ rfl (ih.e OY h4)⟩
end
structure gK(w:W)(g:Gc)(n:Nat):Prop where
 s:∀{c:Cc}{E:XK}{X:Cx} (O:XS w g c E X) {fr:Bool}{x:Stmt}{ir:EV.S},cS n c fr x=some ir->PS X x (tS w g c E fr ir)
 ss:∀{c:Cc}{E:XK}{X:Cx} (O:XS w g c E X) {fr:Bool}{x:List Stmt}{ir:Ss},cSs n c fr x=some ir->PSs X x (tSs w g c E fr ir)
section
variable{w:W}{g:Gc}{n:Nat}
theorem gK.ss_succ(ih:gK w g n){c:Cc}{E:XK}{X:Cx}(O:XS w g c E X){fr:Bool}{x:List Stmt}{ir:Ss}(h:cSs (n+1) c fr x=some ir):PSs X x (tSs w g c E fr ir):=by
 match x with
 | []=>simp only[cSs,cg]at h;subst h;exact lC
 |s::r=>
  simp only[cSs,ay,aw]at h;obtain⟨ir',h2,h⟩:=h;cases h;cases h1:cS n c fr s with
  |none=>exact lQ lG (ih.ss O h2)
  |some is=>exact lQ (ih.s O h1) (ih.ss O h2)
theorem fR{c:Cc}{x:Str}{i:Nat}(h:c.N[i]? = some x):zm c i↔c.own.contains x=true:=⟨λ⟨y,h1,h2⟩=>by rw[h]at h1;cases h1;exact h2,λh2=>⟨x,h,h2⟩⟩
theorem wB{e:Expr}{x m:Str}{ap cp:Pos}{a:Expr}(h:kA e=some (x,m,ap,a,cp)):∃p,e=.Call (.Attribute (.Name x p) m ap) [a] [] cp:=by
 unfold kA at h;split at h
 ·split at h
  ·split at h
   ·split at h
    ·split at h
     ·rename_i hk;cases h;rw[List.isEmpty_iff]at hk;subst hk;exact⟨_,rfl⟩
     ·cases h
    ·cases h
   ·cases h
  ·cases h
 ·cases h
theorem Cv{e:Expr}{x:Str}{ap cp:Pos}(h:jG e=some (x,ap,cp)):∃p k q,e=.Call (.Attribute (.Name x p) "pop" ap) [.Constant (.int 0) k q] [] cp:=by
 unfold jG at h;split at h
 ·split at h
  ·split at h
   ·split at h
    ·split at h
     ·split at h
      ·split at h
       ·rename_i hk
        simp only[aC,List.isEmpty_iff,beq_iff_eq,decide_eq_true_eq]at hk;obtain⟨⟨rfl,rfl⟩,rfl⟩:=hk;cases h;exact⟨_,_,_,rfl⟩
       ·cases h
      ·cases h
     ·cases h
    ·cases h
   ·cases h
  ·cases h
 ·cases h
theorem tJ{e:Expr}{x:Str}{a:Expr}{as:List Expr}(h:raiseOf e=some (x,a,as)):∃p q,e=.Call (.Name x p) (a::as) [] q:=by
 unfold raiseOf at h;split at h
 ·split at h
  ·split at h
   ·split at h
    ·rename_i hk;cases h;rw[List.isEmpty_iff]at hk;subst hk;exact⟨_,_,rfl⟩
    ·cases h
   ·cases h
  ·cases h
 ·cases h
theorem gK.s_succ(ih:gK w g n)(hn:n<=100000){c:Cc}{E:XK}{X:Cx}(O:XS w g c E X){fr:Bool}{x:Stmt}{ir:EV.S}(h:cS (n+1) c fr x=some ir):PS X x (tS w g c E fr ir):=by
 have K:=snd (w:=w) (g:=g) n hn;unfold cS at h;split at h
 ·rename_i ts0 e pos
  split at h
  ·rename_i t0
   split at h
   ·-- x = e
    rename_i y p
    split at h
    ·rename_i hp
     obtain⟨p0,k0,q0,rfl⟩:=Cv hp;simp only[ay,aw]at h;obtain⟨i,hl,j,hj,h⟩:=h;split at h
     ·rename_i hc
      simp only[aC,aY]at hc;cases h;obtain⟨⟨⟨c1,c2⟩,c3⟩,c4⟩:=hc;exact Bh O.toXO c4 hl hj c2 c1 (by simpa using c3)
     ·cases h
    split at h
    ·cases h
    rename_i htw
    have htw:fP e=false:=by simpa using htw
    simp only[ay,aw]at h;obtain⟨i,hl,ie,h1,h⟩:=h;obtain⟨l1,l2⟩:=zz hl;obtain⟨l3,_⟩:=zy l1;have ho:=fR l3;have hk:((zm c i/\fresh c ie=true/\c.frz=false)\/(¬ zm c i/\esc ie=true))/\ir=.set (.nm i) ie:=by
     split at h
     ·rename_i hy
      split at h
      ·rename_i hf;cases h;exact⟨.inl ⟨ho.mpr hy,by simpa using hf⟩,rfl⟩
      ·cases h
     ·rename_i hy
      split at h
      ·rename_i hf;cases h;exact⟨.inr ⟨λz=>hy (ho.mp z),hf⟩,rfl⟩
      ·cases h
    obtain⟨hk,rfl⟩:=hk;cases hc:eE e with
    |false=>
     refine kR (e:=e) (k9 (i:=i) (by rw[O.N];exact O.nd) (by rw[O.N];exact l3) (by unfold L2.Loc;rw[O.nm];rcases l2 with z|z;exact .inl z;exact .inr z.1) (K.e O.toXO h1) (g_ hc) ?_) (λ_ _ _ z=>z) (List.getElem?_eq_some_iff.mp l3).1 hk;rcases l2 with z|z
     ·exact .inr (by rw[O.nm];exact z)
     ·exact .inl (O.fn y z.2)
    |true=>
     cases e with
     |ListComp elt gs sc p=>exact B6 O.toXO hn hl h1 htw hk
     |SetComp elt gs sc p=>match n,h1 with
      | 0,h1=>cases h1
      |m+1,h1=>cases h1
     |DictComp a b gs sc p=>match n,h1 with
      | 0,h1=>cases h1
      |m+1,h1=>cases h1
     |_=>cases hc
   ·-- (a, b) = e
    rename_i ts k p
    split at h
    ·rename_i x y a b hp
     split at h
     ·rename_i hx
      simp only[ay,aw]at h;obtain⟨tg,h1,ie,h2,h⟩:=h;split at h
      ·cases h
      ·rename_i hc
       cases h;obtain⟨px,py,k2,pt2,rfl,rfl,hsa,hsb,hfa,hca,hl⟩:=mr hp;refine lS O.toXO (K.e O.toXO h2) (fA O.toXO h1) (jP h1) (by simpa using hc) rfl ?_ rfl;refine q_ (λz=>?_);rw[show X.env.kindOf x=X.env.scope.names.lookup x from rfl,O.nm]at z;rw[z]at hx;cases hx
     simp only[ay,aw]at h;obtain⟨i,hx,j,hy,ia,h1,ib,h2,h⟩:=h;obtain⟨px,py,k2,pt2,rfl,rfl,hsa,hsb,hfa,hca,hl⟩:=mr hp;split at h
     ·cases h
     ·rename_i hc
      simp only[bu,aY,not_or,dm,Bool.not_eq_false]at hc;obtain⟨⟨⟨⟨⟨⟨⟨c1,c2⟩,c3⟩,c4⟩,c5⟩,c6⟩,c7⟩,c8⟩:=hc;obtain⟨l1,_⟩:=zz hx;obtain⟨l3,_⟩:=zy l1;obtain⟨m1,_⟩:=zz hy;obtain⟨m3,_⟩:=zy m1;have oi:=fR l3;have oj:=fR m3;have hk:((zm c j/\fresh c ib=true/\c.frz=false)\/(¬ zm c j/\esc ib=true))/\ir=.par i j ia ib:=by
       split at h
       ·rename_i hy'
        split at h
        ·rename_i hf;cases h;exact⟨.inl ⟨oj.mpr hy',by simpa using hf⟩,rfl⟩
        ·cases h
       ·rename_i hy'
        split at h
        ·rename_i hf;cases h;exact⟨.inr ⟨λz=>hy' (oj.mp z),hf⟩,rfl⟩
        ·cases h
      obtain⟨hk,rfl⟩:=hk;exact tX O.toXO (O.calm c1) hx hy (eq_of_beq c2) (eq_of_beq c3) (by simpa using c4) (K.e O.toXO h1) (K.e O.toXO h2) c7 c8 hfa hca hl (λz=>by have:=oi.mp z;rw[c5]at this;cases this) c6 hk
    split at h
    ·rename_i x y z a b d hp
     simp only[ay,aw]at h;obtain⟨i,hx,j,hy,l,hz,ia,h1,ib,h2,id,h3,h⟩:=h;obtain⟨px,py,pz,k2,pt2,rfl,rfl,hsa,hsb,hsd,hfa,hca,hl,hl'⟩:=vX hp;split at h
     ·cases h
     ·rename_i hc
      simp only[bu,aY,not_or,dm,Bool.not_eq_false]at hc;obtain⟨⟨⟨⟨⟨⟨⟨⟨⟨⟨⟨⟨c1,c2⟩,c3⟩,c4⟩,c5⟩,c6⟩,c7⟩,c8⟩,c9⟩,c10⟩,c11⟩,c12⟩,c13⟩:=hc;cases h;have oi:=fR (zy (zz hx).1).1;have oj:=fR (zy (zz hy).1).1;have ol:=fR (zy (zz hz).1).1;exact BY O.toXO (O.calm c1) hx hy hz (eq_of_beq c2) (eq_of_beq c3) (eq_of_beq c4) (by simpa using c5) (by simpa using c6) (by simpa using c7) (K.e O.toXO h1) (K.e O.toXO h2) (K.e O.toXO h3) hsa hsb hsd hfa hca hl hl' (λq=>by have:=oi.mp q;rw[c8]at this;cases this) (λq=>by have:=oj.mp q;rw[c9]at this;cases this) (λq=>by have:=ol.mp q;rw[c10]at this;cases this) c11 c12 c13
    simp only[ay,aw]at h;obtain⟨tg,h1,ie,h2,h⟩:=h;split at h
    ·cases h
    ·rename_i hc
     have hc:((isTup e=true->jB e=true)/\eE e=false)/\esc ie=true:=by simpa using hc
     cases h;refine lS O.toXO (K.e O.toXO h2) (fA O.toXO h1) (jP h1) hc.2 (by simp only[swapsWithSole];exact g_ hc.1.2) ?_ rfl;exact sZ hc.1.1
   ·-- x[k] = e
    split at h
    ·simp only[ay,aw]at h;obtain⟨i,hl,ie,h1,ik,h2,h⟩:=h;split at h
     ·rename_i hc
      simp only[aC,aY]at hc;cases h;exact tm O.toXO hc.2 (zz hl).1 hc.1.1.1.1 (K.e O.toXO h2) (K.e O.toXO h1) hc.1.1.1.2 hc.1.1.2 hc.1.2
     ·cases h
    ·cases h
   ·cases h
  ·cases h
 ·split at h
  ·-- x.insert(k, a)
   rename_i he
   obtain⟨p,rfl⟩:=C3 he;simp only[ay,aw]at h;obtain⟨i,hl,ik,h0,ia,h1,h⟩:=h;split at h
   ·rename_i hc
    simp only[aC,aY,beq_iff_eq]at hc;cases h;obtain⟨⟨⟨⟨⟨c2,c3⟩,c4⟩,c5⟩,c6⟩,c7⟩:=hc;exact xD O.toXO c7 (zz hl).1 c2 (K.e O.toXO h0) (K.e O.toXO h1) c3 c4 c5 (by simpa using c6)
   ·cases h
  split at h
  ·-- x.append(a)
   rename_i he
   obtain⟨p,rfl⟩:=wB he;simp only[ay,aw]at h;obtain⟨i,hl,ia,h1,h⟩:=h;split at h
   ·rename_i hm
    have hm:=eq_of_beq hm;subst hm;split at h
    ·rename_i hc
     simp only[aC,aY]at hc;cases h;obtain⟨⟨⟨⟨c2,c3⟩,c4⟩,c5⟩,c6⟩:=hc;exact CM O.toXO c6 (zz hl).1 c2 (K.e O.toXO h1) c3 c4 (by simpa using c5)
    ·cases h
   split at h
   ·rename_i hm
    have hm:=eq_of_beq hm;subst hm;split at h
    ·rename_i hc
     simp only[aC,aY]at hc;cases h;obtain⟨⟨⟨⟨c2,c3⟩,c4⟩,c5⟩,c6⟩:=hc;exact uA O.toXO c6 (zz hl).1 c2 (K.e O.toXO h1) c3 c4 (by simpa using c5)
    ·cases h
   split at h
   ·rename_i hc
    simp only[aC,aY,beq_iff_eq]at hc;cases h;obtain⟨⟨⟨⟨⟨rfl,c2⟩,c3⟩,c4⟩,c5⟩,c6⟩:=hc;exact xW O.toXO c6 (zz hl).1 c2 (K.e O.toXO h1) c3 c4 (by simpa using c5)
   ·cases h
  ·split at h
   ·cases h
   ·rename_i hc
    simp only[ay,aw]at h;obtain⟨ie,h1,h⟩:=h;cases h;exact Ca (K.e O.toXO h1) (by simpa using hc)
 ·split at h
  ·-- return e
   rename_i e
   simp only[ay,aw]at h;obtain⟨ie,h1,h⟩:=h;split at h
   ·rename_i hf
    split at h
    ·rename_i y p
     split at h
     ·rename_i ho
      simp only[bq]at h;obtain⟨i,hl,rfl⟩:=h;exact wK O.toXO hl ho
     ·cases h
    ·split at h
     ·rename_i hfr
      cases h;exact lP (K.e O.toXO h1) λ_=>hfr
     ·cases h
   ·rename_i hf
    cases h;exact lP (K.e O.toXO h1) λz=>absurd z hf
  ·split at h
   ·cases h
   ·rename_i hf
    cases h;exact ua (by simpa using hf)
 ·simp only[ay,aw]at h;obtain⟨it,h1,ia,h2,ib,h3,h⟩:=h;cases h;exact BL (K.t O.toXO h1) (ih.ss O h2) (ih.ss O h3)
 ·split at h
  ·cases h
  ·rename_i tg0 it0 b0 els0 pos0 hc
   have hc:(els0=[]/\c.calm=true)/\zo it0=true:=by simpa using hc
   obtain⟨⟨rfl,hc1⟩,hc2⟩:=hc;simp only[ay,aw]at h;obtain⟨tg,h1,it,h2,h⟩:=h;split at h
   ·cases h
   ·rename_i ho
    have ho:dJ it tg0=true:=by simpa using ho
    simp only[aw]at h;obtain⟨ib,h3,h⟩:=h;cases h;exact Ac O.toXO (O.calm hc1) (K.i O.toXO.nox h2 ho) (fA O.toXO.nox h1) (jP h1) (ih.ss O.nox.froze h3) hc2
 ·split at h
  ·cases h
  ·rename_i els0 _ hc
   have hc:els0=[]/\c.calm=true:=by simpa using hc
   obtain⟨rfl,hc⟩:=hc;simp only[ay,aw]at h;obtain⟨it,h1,ib,h2,h⟩:=h;cases h;exact BQ (K.t O.toXO.nox h1) (ih.ss O.nox h2)
 ·split at h
  ·split at h
   ·rename_i hr
    obtain⟨p0,q0,rfl⟩:=tJ hr;split at h
    ·cases h
    ·rename_i hc
     simp only[bu,aY,not_or,Bool.not_eq_false,Option.isNone_iff_eq_none]at hc;obtain⟨⟨rfl,hc1⟩,hc2⟩:=hc;split at h
     ·rename_i hg
      simp only[ay,aw]at h;obtain⟨ies,h1,h⟩:=h;cases h;exact Cw O (O.calm hc1) hc2 hg (K.es O.toXO h1) h1 (ba (iG h1) hn)
     ·cases h
   ·cases h
  ·cases h
 ·-- try
  split at h
  ·split at h
   ·rename_i b0 els0 fin0 pos0 hs0 y0 h0 hp0 ty0 x0 np0
    split at h
    ·cases h
    ·rename_i hc
     have hc:(((((((els0=[]/\fin0=[])/\c.calm=true)/\c.fnc=true)/\fr=false)/\h0≠[])/\c.own=[])/\c.frz=false):=by simpa using hc
     obtain⟨⟨⟨⟨⟨⟨⟨rfl,rfl⟩,hc1⟩,hc2⟩,rfl⟩,hc3⟩,hc4⟩,hc5⟩:=hc;simp only[ay,aw]at h;obtain⟨ib,h1,ihd,h2,h⟩:=h;split at h
     ·cases h
     ·rename_i hg
      have hg:glob c x0=some .exc\/glob c x0=some .exk:=by
       by_cases z:glob c x0=some .exc
       ·exact .inl z
       ·exact .inr (by simpa[z]using hg)
      match h0,hc3,h2 with
      | [],hc3,_=>exact absurd rfl hc3
      |b₀::suite,_,h2=>
       split at h
       ·cases h;exact As O hc5 hc4 hg (λEh pn Et O'=>ih.ss O' h1) (λy=>ih.ss (O.held y) h2)
       ·simp only[aw]at h;obtain⟨i,hl,h⟩:=h;split at h
        ·rename_i hn
         cases h;exact rW O hc5 hc4 hg (zy (zz hl).1).1 (by simpa using hn) (λEh pn Et O'=>ih.ss O' h1) (λy=>ih.ss (O.held y) h2)
        ·cases h
   ·cases h
  ·cases h
 ·cases h;exact wN
 ·cases h;exact uX
 ·cases h;exact wq
 ·cases h
theorem jr:∀n,n<=100000->gK w g n
 | 0,_=>⟨λ_ _ _ _ h=>by simp[cS]at h,λ_ _ _ _ h=>by simp[cSs]at h⟩
 |n+1,h=>
  have ih:=jr n (Nat.le_of_succ_le h)
  ⟨λO _ _ _ q=>ih.s_succ (Nat.le_of_succ_le h) O q,λO _ _ _ q=>ih.ss_succ O q⟩
end
section
variable{w:W}{g:Gc}{c:Cc}{E:XK}{fr:Bool}{X:Cx}{H0:Hp}{B:Sh}{τ:Env}{σ:L2.St}{H H':Hp}{S:Sh}{n:Nat}
theorem SS.demote(s:SS g c H0 B τ σ H S){c':Cc}(hN:c'.N=c.N)(ho:c'.own=[])(hz:c'.frz=false):SS g c' H0 B τ σ H ⟨λ_=>false,B.h,B.z,B.y⟩:=by
 have no:∀i,¬ zm c' i:=λi ⟨x,_,h⟩=>by rw[ho]at h;cases h
 have up:qe (hid H S) (hid H ⟨λ_=>false,B.h,B.z,B.y⟩):=λb o h=>by
  obtain⟨h1,h2⟩:=bp.mp h;refine bp.mpr ⟨?_,h2⟩;have:=s.hd b;rw[h1]at this;show B.h b=false;cases q:B.h b with
  |false=>rfl
  |true=>rw[q]at this;cases this
 have val:∀(i:Nat) (d:D),τ[i]? = some (some d)->∃v,σ[i]? = some (some v)/\Rep g (hid H ⟨λ_=>false,B.h,B.z,B.y⟩) d v:=λi d h=>by
  obtain⟨v,h1,h2,_⟩:=s.se.val i d h;refine⟨v,h1,?_⟩;rcases h2 with h2|⟨a,o,z1,rfl,z4,z5⟩
  ·exact h2.mono up
  ·exact z5.rep up (bp.mpr ⟨s.sub0.free (s.new a z1),z4⟩)
 refine⟨⟨s.se.len,λi d h=>?_,λa ha=>?_⟩,by rw[s.lenN,hN],s.same,s.sub0,λa=>by simp,λa ha=>(by cases ha),λi d hi _=>(no i hi).elim,λi j d e a hi _ _ _ _ _=>(no i hi).elim,λz=>by rw[hz]at z;cases z⟩
 ·obtain⟨v,h1,h2⟩:=val i d h;exact⟨v,h1,.inl h2,λ_ _ _=>h2⟩
 ·rcases ha with ha|ha
  ·exact s.sub0.same s.same a (.inl ha)
  ·cases ha
noncomputable def jJ(g:Gc)(E:XK)(fr:Bool)(H0:Hp)(B:Sh)(D:Ends):O->Prop
 | .nx _=>∀σ' H',qe H0 H'->D.nx σ' H'
 | .rt d=>∀v H',qe H0 H'->Rep g (hid H' B) d v->(fr=true->Fr g H0 B H' d v)->D.rt v H'
 | .ex k=>∀H' C,qe H0 H'->g.clA k=some C->E (.ref C) none H'
 |_=>False
theorem jJ.out{D:Ends}{o:O}(h:jJ g E fr H0 B D o):cx g c E fr H0 B H S D o:=by
 cases o with
 |nx t=>exact λσ' H' S' ss _=>h σ' H' ss.same
 |rt d=>exact h
 |ex k=>exact h
 |bk t=>exact h.elim
 |ct t=>exact h.elim
 |no=>exact h.elim
noncomputable def vQ(w:W)(g:Gc)(c:Cc)(E:XK)(fr:Bool)(s:Ss):TS:=λD σ H=>∃H0 B τ S,SS g c H0 B τ σ H S/\jJ g E fr H0 B D (qa w s τ)
theorem ll(hn:n<=100000)(O:XS w g c E X):∀{x:List Stmt}{ir:Ss},fK n c fr x=some ir->PSs X x (vQ w g c E fr ir)
 | [],ir,h=>by
  cases h;exact PSs.imp lC λD σ H ⟨H0,B,τ,S,ss,z⟩=>⟨H0,B,τ,S,ss,z.out⟩
 |s::r,ir,h=>by
  unfold fK at h;split at h
  ·have O':XS w g (noOwn c) E X:=⟨⟨O.K,O.nm,O.N,O.nd,O.calm,O.units,O.fn,O.kind,O.pass,O.gok,O.fns,O.sub⟩,O.thr,O.exc,O.cat,O.frm,O.gh⟩
   exact PSs.imp ((jr n hn).ss O' h) λD σ H ⟨H0,B,τ,S,ss,z⟩=>⟨H0,B,τ,_,ss.demote rfl rfl rfl,z.out⟩
  ·simp only[ay,aw]at h;obtain⟨ir',h1,h⟩:=h;cases h;have hr:=ll hn O h1;have hs:PS X s (tS w g c E fr ((cS n c fr s).getD .unk)):=by
    cases q:cS n c fr s with
    |none=>exact lG
    |some is=>exact(jr n hn).s O q
   refine PSs.imp (lb hs hr) λD σ H ⟨H0,B,τ,S,ss,z⟩=>?_
   simp only[qa]at z;refine⟨H0,B,τ,S,ss,?_⟩;cases q:evS w ((cS n c fr s).getD .unk) τ with
   |nx τ'=>rw[q]at z;exact λσ' H' S' s' e=>⟨H0,B,τ',S',s',z⟩
   |bk τ'=>rw[q]at z;exact z.elim
   |ct τ'=>rw[q]at z;exact z.elim
   |rt d=>rw[q]at z;exact z
   |ex k=>rw[q]at z;exact z
   |no=>rw[q]at z;exact z
end
noncomputable def GM0(p:Pr)(g:Gc)(mg:Str->Option ae)(x:Str):GK->Prop
 | .fn _=>∃f,g.fnA x=some f
 | .val=>∃u v d,mg x=some u/\RelV v u/\p.glb x=some d/\∀H,Rep g H d v
 | .bi b=>mg x=none/\x=b1N b/\∃id,b1V b=.builtin id
 | .rng=>mg x=none/\x = "range"
 | .enum=>mg x=none/\x = "enumerate"
 | .zip=>mg x=none/\x = "zip"
 | .isi=>mg x=none/\x = "isinstance"
 | .ty n b=>mg x=none/\bG x=some (.type n)/\(n∈["int","bool","str","list","tuple"]\/n = "ValueError")/\∀b',b=some b'->x=b1N b'/\b1V b'=.type n
 | .exc=>∃C,mg x=some (.ref C)/\g.clA x=some C/\mX g.K C
 | .exk=>∃C,mg x=some (.ref C)/\g.clA x=some C
 | .set=>mg x=none/\bG x=some (.type "set")
 | .rvd=>mg x=none/\x = "reversed"
structure Ground(p:Pr)(g:Gc)(G GH GU:List (Str×GK))(mg:Str->Option ae):Prop where
 fn:∀x f,g.fnA x=some f->∃st own fr fd fnn,p.fns x=some fnn/\cFn G GH own fr st=some fnn/\Fun g.K x x st f fd/\Binds g.K fd (argNames (zv st)) []/\cA g.K (.ref f)=true/\mg x=some (.ref f)/\G.lookup x=some (.fn fr)
 gl:∀x k,G.lookup x=some k->GM0 p g mg x k
 gu:∀x k,GU.lookup x=some k->(∀fr,k≠.fn fr)/\k≠.exc/\GM0 p g mg x k
 gh:∀x k,GH.lookup x=some k->GU.lookup x=some k
 sub:∀k cl b,p.sub k cl=some b->∃C cv,g.clA k=some C/\dD g.K C/\bL g.K (.ref C) cv=some b/\match cl with
  | .ty n=>n = "ValueError"/\cv=.type n
  | .ex x=>∃D,g.clA x=some D/\cv=.ref D
 cat:∀k x,p.cat k x=true->∀C D,g.clA k=some C->g.clA x=some D->PySem.W.exmOne g.K (.ref C) (.ref D)=some true
abbrev wAt(p:Pr)(k:Nat):W:=⟨qc p k,p.glb,p.sub,p.cat⟩
theorem w8{N ps:List Str}{sc:aO}(h:i6 N ps sc=true):gC N ps sc:=by
 unfold i6 at h;simp only[aC,beq_iff_eq,aY,decide_eq_true_eq,List.all_eq_true,bu,bne_iff_ne,ne_eq]at h;obtain⟨⟨⟨⟨⟨⟨h1,h2⟩,h3⟩,h4⟩,h5⟩,h6⟩,h7⟩:=h;exact⟨h1,h2,h3,h4,h5,h6,h7⟩
theorem u_{G GH:List (Str×GK)}{own:List Str}{fr:Bool}{st:Stmt}{fnn:Fn}(h:cFn G GH own fr st=some fnn):i6 (gW (zv st) (zr st)) (argNames (zv st)) (zr st)=true/\(argNames (zv st)).any own.contains=false /\
  ∃b,fK kr ⟨(zr st).names,gW (zv st) (zr st),own,G,true,true,false,GH,[],false⟩ fr (dB st)=some b/\fnn=⟨(argNames (zv st)).length,(gW (zv st) (zr st)).length,fr,b⟩:=by
 unfold cFn at h;dsimp only at h;split at h
 ·cases h
 ·rename_i hc
  simp only[bu,aY,not_or,Bool.not_eq_false,dm]at hc;simp only[ay,aw,cg]at h;obtain⟨b,h1,h2⟩:=h;exact⟨hc.1,hc.2,b,h1,h2.symm⟩
section
variable{P:aq}{w:ak}{K:ao}{mg:Str->Option ae}{base:Heap}{N:List Str}{qual:Str}{scope:aO}{f:Addr}{cd:ae}{A:au}{outer:List PySem.Env}{s₀:af}{H₀:Hp}{E:XK}
end
theorem GM0.gm{p:Pr}{g:Gc}{mg:Str->Option ae}{x:Str}{k:GK}{P:aq}{wl:ak}{base:Heap}{A:au}{calm:Bool}{n:Nat}(h:GM0 p g mg x k)(hf:∀fr,k≠.fn fr):GM (wAt p n) g P wl mg base A calm x k:=by
 cases k with
 |fn fr'=>exact absurd rfl (hf fr')
 |exc=>obtain⟨C,h1,h2,_⟩:=h;exact⟨C,h1,h2⟩
 |val=>exact h
 |bi b=>exact h
 |rng=>exact h
 |enum=>exact h
 |zip=>exact h
 |isi=>exact h
 |ty n b=>exact h
 |exk=>exact h
 |set=>exact h
 |rvd=>exact h
theorem xB{w:W}{g:Gc}{c:Cc}{E:XK}{X:Cx}{N ps own:List Str}{sc:aO}{fr:Bool}{body:List Stmt}{b:Ss}(hcN:c.N=N)(hco:c.own=own)(hcz:c.frz=false)(FS:gC N ps sc)(c2:ps.any own.contains=false)(c3:fK kr c fr body=some b)
  (O:XS w g c E X) {vs:List V}{ds:List D}{B:Sh}{H:Hp}{Q:VK} (hB:Sub B H) (rv:ze g (hid H B) ds vs) (hl:ds.length=ps.length)
  (h:tR g E H (match qa w b (ds.map some++bN (N.length-ps.length) none)with
   | .nx _=>if fr then .no else .ok .non
   | .rt d=>.ok d
   | .ex c=>.ex c
   |_=>.no) (λd=>∀v H',qe H H'->Rep g (hid H' B) d v->(fr=true->Fr g H B H' d v)->Q v H')) :
  ∃t,PSs X body t/\t {nx:=λ_ H'=>Q .non H',rt:=Q} (start N vs) H:=by
 have hNl:ps.length<=N.length:=by have:=congrArg List.length FS.pre;rw[List.length_take]at this;lia
 refine⟨_,ll (by decide) O c3,H,B,ds.map some++bN (N.length-ps.length) none,⟨λ_=>false,B.h,B.z,B.y⟩,?_,?_⟩
 ·-- at the start
  have hh:hid H ⟨λ_=>false,B.h,B.z,B.y⟩=hid H B:=rfl;have hvl:=rv.length;have par:∀i d,(ds.map some++bN (N.length-ps.length) none)[i]? = some (some d)->i<ps.length/\ds[i]? = some d:=λi d hi=>by
   by_cases hlt:i<ds.length
   ·rw[List.getElem?_append_left (by simpa using hlt),List.getElem?_map]at hi;refine⟨by lia,?_⟩;cases q:ds[i]? with
    |none=>rw[q]at hi;cases hi
    |some e=>rw[q]at hi;simpa using hi
   ·rw[List.getElem?_append_right (by simpa using hlt)]at hi;rw[List.getElem?_replicate]at hi;split at hi<;>cases hi
  have noOwn:∀i d,zm c i->(ds.map some++bN (N.length-ps.length) none)[i]? = some (some d)->False:=λi d ⟨y,h1,h2⟩ hi=>by
   obtain⟨hlt,_⟩:=par i d hi;rw[hcN]at h1;rw[hco]at h2;have:N.take ps.length=ps:=FS.pre;have hy:ps[i]? = some y:=by
    rw[<-this,List.getElem?_take,if_pos hlt];exact h1
   have:=List.any_eq_false.mp c2 y (List.mem_of_getElem? hy);exact this h2
  refine⟨⟨by simp[L2.start];lia,λi d hi=>?_,λa ha=>?_⟩,by simp[hcN];lia,qe.refl _,hB,(λa=>by simp),(λa ha=>by cases ha),(λi d ho hi=>(noOwn i d ho hi).elim),λi j d e a ho _ hi _ _ _=>(noOwn i d ho hi).elim,λz=>by rw[hcz]at z;cases z⟩
  ·obtain⟨hlt,hd⟩:=par i d hi;obtain⟨v,h1,h2⟩:=rv.get hd;have hlt':i<vs.length:=by lia
   refine⟨v,?_,.inl h2,λ_ _ _=>h2⟩;unfold L2.start;rw[List.getElem?_append_left (by simpa using hlt'),List.getElem?_map,h1]
   rfl
  ·refine hB a ?_;rcases ha with ha|ha
   ·exact .inl ha
   ·cases ha
 ·-- at the end
  cases q:qa w b (ds.map some++bN (N.length-ps.length) none)with
  |nx τ'=>
   rw[q]at h;simp only at h;cases fr with
   |true=>exact h.elim
   |false=>exact λσ' H' hs=>h .non H' hs .non (by intro z;cases z)
  |rt d=>rw[q]at h;exact h
  |ex z=>rw[q]at h;exact h
  |bk z=>rw[q]at h;exact h.elim
  |ct z=>rw[q]at h;exact h.elim
  |no=>rw[q]at h;exact h.elim
section
variable{p:Pr}{g:Gc}{G GH GU:List (Str×GK)}{mg:Str->Option ae}{P:aq}{wl:ak}{base:Heap}
theorem Ground.ok(T:Ground p g G GH GU mg):∀(k:Nat) (x:Str) (f:Addr) (st:Stmt) (own:List Str) (fr:Bool) (fd:FuncData) (fnn:Fn),p.fns x=some fnn->cFn G GH own fr st=some fnn->Fun g.K x x st f fd ->
  eO P wl g.K mg base (CX1 P wl) k f fd (argNames (zv st)) (spF (wAt p k) g x fr)
 | 0,x,f,st,own,fr,fd,fnn,_,_,_=>⟨λvs H Q E ⟨S,ds,_,_,h⟩=>h.elim,λA outer s H args us vs Q E _ _ _ _ ⟨S,ds,_,_,h⟩=>h.elim⟩
 |k+1,x,f,st,own,fr,fd,fnn,hf,hc,F=>by
  obtain⟨c1,c2,b,c3,rfl⟩:=u_ hc;have FS:=w8 c1;generalize hN:gW (zv st) (zr st)=N at *;generalize hps:argNames (zv st)=ps at *;have call:∀ds,qc p (k+1) x ds=cC (wAt p k) ⟨ps.length,N.length,fr,b⟩ ds:=λds=>by simp only[qc,hf]
  have lenOf:∀vs H Q E,spF (wAt p (k+1)) g x fr vs H Q E->vs.length=ps.length:=λvs H Q E ⟨S,ds,_,r,h⟩=>by
   have h:tR g E H (qc p (k+1) x ds) _:=h;rw[call]at h;unfold cC at h;by_cases hl:ds.length=ps.length
   ·rw[<-r.length];exact hl
   ·rw[if_neg hl]at h;exact h.elim
  refine F.ok1 FS lenOf λcdv A outer s H vs Q E hr hsp=>?_
  obtain⟨B,ds,hB,rv,h⟩:=hsp;have h:tR g E H (qc p (k+1) x ds) (λd=>∀v H',qe H H'->Rep g (hid H' B) d v->(fr=true->Fr g H B H' d v)->Q v H'):=h;rw[call]at h;unfold cC at h;by_cases hl:ds.length=ps.length
  ·rw[if_pos hl]at h
   -- the ground of the body
   have calls:∀y fy,g.fnA y=some fy->∃fry,G.lookup y=some (.fn fry)/\iR (wAt p k) g P wl mg base (A.deeper (envOfC x (zr st) s.heap.objs.size f cdv)) true y fy fry:=λy fy hy=>by
    obtain⟨sty,owny,fry,fdy,fny,z1,z2,z3,z4,z5,z6,z7⟩:=T.fn y fy hy;exact⟨fry,z7,z6,z5,k,fdy,_,z4,.inl ⟨rfl,Ground.ok T k y fy sty owny fry fdy fny z1 z2 z3,hr⟩⟩
   have O:XS (wAt p k) g ⟨(zr st).names,N,own,G,true,true,false,GH,[],false⟩ E (ez (CX1 P wl) P wl g.K mg base N x (zr st) f cdv A outer s H E):=by
    refine⟨⟨rfl,rfl,rfl,FS.nd,λ_=>rfl,hr.units,λ_ _=>rfl,FS.kind,rN,λy ky hy=>?_,λ_ y fy hy=>?_,T.sub⟩,(λz=>by cases z),λy C hy hC=>?_,T.cat,⟨rfl,rfl,rfl⟩,λy ky hy=>?_⟩
    ·have:=T.gl y ky hy;by_cases hf:∃fr,ky=.fn fr
     ·obtain⟨fr',rfl⟩:=hf;obtain⟨fy,h1⟩:=this;obtain⟨fry,h2,h3⟩:=calls y fy h1;have hy:G.lookup y=some (.fn fr'):=hy;rw[hy]at h2;cases h2;exact⟨fy,h1,h3⟩
     ·exact this.gm λfr z=>hf ⟨fr,z⟩
    ·obtain⟨fry,_,h3⟩:=calls y fy hy;exact⟨fry,h3⟩
    ·obtain⟨C',_,h2,h3⟩:=T.gl y .exc hy;rw[h2]at hC;cases hC;exact h3
    ·obtain⟨u1,u2,u3⟩:=T.gu y ky (T.gh y ky hy);exact⟨u2,λv=>u3.gm u1⟩
   exact xB rfl rfl rfl FS c2 c3 O hB rv hl h
  ·rw[if_neg hl]at h;exact h.elim
end
end EV
namespace WB
open PySem PySem.Spec PyProof.Rows L2
structure Dd(K:ao)(n:Str)(st:Stmt)(f:Addr):Prop where
 a:ax K ar n=some (some (.ref f))
 l:∃oc od an sl kV dc pm cd ct,K.lookup f=some ⟨oc,od,.func (cj n n (zv st) (dB st) (zr st) .none kV dc pm an cd ct),sl⟩/\PySem.W.codeIn K cd n=true
 k:cA K (.ref f)=true
theorem zF{K:ao}{n:Str}{st:Stmt}{f:Addr}{od an:Option Addr}{sl:Array (Option ae)}{oc kV dc pm cd ct:ae}(a:ax K ar n=some (some (.ref f)))
  (l:K.lookup f=some ⟨oc,od,.func (cj n n (zv st) (dB st) (zr st) .none kV dc pm an cd ct),sl⟩) (c:PySem.W.codeIn K cd n=true) (k:cA K (.ref f)=true):Dd K n st f:=
 ⟨a,⟨oc,od,an,sl,kV,dc,pm,cd,ct,l,c⟩,k⟩
theorem Dd.fn{K:ao}{n:Str}{st:Stmt}{f:Addr}(d:Dd K n st f):∃fd,Fun K n n st f fd:=by
 obtain⟨oc,od,an,sl,kV,dc,pm,cd,ct,l,c⟩:=d.l;exact⟨_,nc (st:=st) l c d.k⟩
theorem lR{us:List ae}(h:us.length=1):∃a,us=[a]:=List.length_eq_one_iff.mp h
theorem pC{n:Nat}{us:List ae}(h:us.length=n+1):∃a r,us=a::r/\r.length=n:=by
 cases us with
 |nil=>cases h
 |cons a r=>exact⟨a,r,rfl,Nat.succ.inj h⟩
theorem o9{us:List ae}(h:us.length=2):∃a b,us=[a,b]:=by
 obtain⟨a,r,e,h⟩:=pC h;obtain⟨b,q⟩:=lR h;subst q;exact⟨a,b,e⟩
theorem sF{us:List ae}(h:us.length=3):∃a b c,us=[a,b,c]:=by
 obtain⟨a,r,e,h⟩:=pC h;obtain⟨b,c,q⟩:=o9 h;subst q;exact⟨a,b,c,e⟩
structure Dk(K:ao)(n:Str)(D:Addr):Prop where
 a:ax K ar n=some (some (.ref D))
 c:∃x,PySem.W.clsIn K D=some x
 t:PySem.W.typeIn K (.ref D)=some (.type "type")
end WB
namespace EV
open PySem PySem.Spec PySem.P PyProof.Rows L2
structure Ent where
 x:Str
 st:Stmt
 own:List Str
 fr:Bool
 fn:Fn
noncomputable def prT(tab:List Ent)(vals:List (Str×D))(cH:List (Str×Str))(subs:List ((Str×Cl)×Bool):=[]):Pr:=⟨λx=>(tab.find? (·.x==x)).map (·.fn),λx=>vals.lookup x,λk c=>subs.lookup (k,c),λk x=>cH.contains (k,x)⟩
noncomputable def unx:GK->GK
 | .exc=>.exk
 |k=>k
noncomputable def eF(oth:List (Str×GK)):List (Str×GK):=oth.map λy=>(y.1,unx y.2)
noncomputable def fE(us:List Ent)(oth:List (Str×GK)):List (Str×GK):=us.map (λe=>(e.x,GK.fn e.fr))++eF oth
theorem nW{x:Str}{k:GK}:∀{oth:List (Str×GK)},(eF oth).lookup x=some k->∃k0,oth.lookup x=some k0/\k=unx k0
 | [],h=>by cases h
 | (y,k1)::r,h=>by
  have h:List.lookup x ((y,unx k1)::eF r)=some k:=h;rw[bf]at h;split at h
  ·rename_i q;cases h;exact⟨k1,by rw[bf,q],rfl⟩
  ·rename_i q
   obtain⟨k0,h1,h2⟩:=nW h;exact⟨k0,by rw[bf,q];exact h1,h2⟩
theorem ng{x:Str}{k:GK}{oth:List (Str×GK)}:∀{us:List Ent},(fE us oth).lookup x=some k->(∃e∈us,e.x=x/\k=.fn e.fr)\/(eF oth).lookup x=some k
 | [],h=>.inr h
 |a::r,h=>by
  have h:List.lookup x ((a.x,GK.fn a.fr)::fE r oth)=some k:=h;rw[bf]at h;split at h
  ·rename_i q;cases h;exact .inl ⟨a,aH,(eq_of_beq q).symm,rfl⟩
  ·rcases ng h with ⟨e,h1,h2⟩|h1
   ·exact .inl ⟨e,aI _ h1,h2⟩
   ·exact .inr h1
noncomputable def dR(K:ao)(ns:List Str)(x:Str):Option Addr:=if ns.contains x then (match ax K ar x with
 |some (some (.ref f))=>some f
 |_=>none)else none
noncomputable def gOf(K:ao)(fns cls:List Str):Gc:=⟨K,dR K fns,dR K cls⟩
theorem hZ{K:ao}{ns:List Str}{x:Str}{f:Addr}(h:ax K ar x=some (some (.ref f)))(hx:ns.contains x=true):dR K ns x=some f:=by
 unfold dR;rw[if_pos hx,h]
theorem jL{K:ao}{ns:List Str}{x:Str}{f:Addr}(h:dR K ns x=some f):ns.contains x=true/\ax K ar x=some (some (.ref f)):=by
 unfold dR at h;split at h
 ·rename_i hx
  split at h
  ·rename_i q;cases h;exact⟨hx,q⟩
  ·cases h
 ·cases h
noncomputable def Bnd(e:Ent):Prop:=∀(kV doc pm:ae) (an:Option Addr) (cdv ct:ae) (us:List ae),us.length=(argNames (zv e.st)).length->bindArgs (cj e.x e.x (zv e.st) (dB e.st) (zr e.st) .none kV doc pm an cdv ct) ⟨us,[]⟩=pure ((argNames (zv e.st)).zip us)
structure gz(K:ao)(G:List (Str×GK))(e:Ent):Prop where
 dd:∃f,WB.Dd K e.x e.st f
 bnd:Bnd e
noncomputable def mK(K:ao)(vals:List (Str×D))(x:Str):GK->Prop
 | .fn _=>True
 | .val=>∃u v d,ax K ar x=some (some u)/\RelV v u/\vals.lookup x=some d/\∀g H,g.K=K->Rep g H d v
 | .bi b=>ax K ar x=some none/\x=b1N b/\∃id,b1V b=.builtin id
 | .rng=>ax K ar x=some none/\x = "range"
 | .enum=>ax K ar x=some none/\x = "enumerate"
 | .zip=>ax K ar x=some none/\x = "zip"
 | .isi=>ax K ar x=some none/\x = "isinstance"
 | .ty n b=>ax K ar x=some none/\bG x=some (.type n)/\(n∈["int","bool","str","list","tuple"]\/n = "ValueError")/\∀b',b=some b'->x=b1N b'/\b1V b'=.type n
 | .exc=>∃C,ax K ar x=some (some (.ref C))/\PySem.W.excIn K C eK "ValueError.__new__" = true
 | .exk=>∃C,ax K ar x=some (some (.ref C))
 | .set=>ax K ar x=some none/\bG x=some (.type "set")
 | .rvd=>ax K ar x=some none/\x = "reversed"
noncomputable def oq(K:ao)(cls:List Str)(y:(Str×Cl)×Bool):Prop:=∃C cv,cls.contains y.1.1=true/\ax K ar y.1.1=some (some (.ref C))/\dD K C/\bL K (.ref C) cv=some y.2/\match y.1.2 with
 | .ty n=>n = "ValueError"/\cv=.type n
 | .ex x=>∃D,cls.contains x=true/\ax K ar x=some (some (.ref D))/\cv=.ref D
theorem lM{α β:Type} [BEq α] [LawfulBEq α]{a:α}{b:β}:∀{l:List (α×β)},l.lookup a=some b->(a,b)∈l
 | (c,d)::r,h=>by
  rw[bf]at h;split at h
  ·rename_i q;cases h;rw[eq_of_beq q];exact aH
  ·exact aI _ (lM h)
theorem lW{tab:List Ent}{e:Ent}(hn:(tab.map (·.x)).Nodup)(he:e∈tab):tab.find? (·.x==e.x)=some e:=by
 induction tab with
 |nil=>simp at he
 |cons a r ih=>
  simp only[aR,List.nodup_cons]at hn;rw[List.find?_cons];rcases aF.mp he with rfl|h
  ·simp
  ·have:(a.x==e.x)=false:=by
    cases q:a.x==e.x with
    |false=>rfl
    |true=>
     have:=eq_of_beq q;exact absurd (this▸aN.mpr ⟨e,h,rfl⟩) hn.1
   rw[this];exact ih hn.2 h
theorem rL{K:ao}{h:Heap}{mg:Str->Option ae}(X:K.In h)(N:h.Ns ar mg){tab:List Ent}{oth G:List (Str×GK)}{vals:List (Str×D)}(hG:G=tab.map (λe=>(e.x,GK.fn e.fr))++oth)
  (hnd:(tab.map (·.x)).Nodup) (ho:∀x k,oth.lookup x=some k->mK K vals x k) (hof:∀x fr,oth.lookup x≠some (.fn fr)) {us:List Ent} (hus:∀e∈us,e∈tab) (hcu:∀e∈us,mS (eF oth) e.own e.fr e.st=some e.fn) (hc:∀e∈tab,cFn G (fE us oth) e.own e.fr e.st=some e.fn) (he:∀e∈tab,gz K G e) (cls:List Str) {cH:List (Str×Str)} (hcat:∀y∈cH,∃C D,ax K ar y.1=some (some (.ref C))/\ax K ar y.2=some (some (.ref D))/\PySem.W.exmOne K (.ref C) (.ref D)=some true) (hcl:∀x,(oth.lookup x=some .exc\/oth.lookup x=some .exk)->cls.contains x=true)
  {subs:List ((Str×Cl)×Bool)} (hsub:∀y∈subs,oq K cls y) :
  Ground (prT tab vals cH subs) (gOf K (tab.map (·.x)) cls) G (fE us oth) (eF oth) mg:=by
 have lk:∀x k,G.lookup x=some k->(∃e∈tab,e.x=x/\k=.fn e.fr)\/oth.lookup x=some k:=by
  subst hG;clear hnd hc he hus
  induction tab with
  |nil=>intro x k hx;exact .inr hx
  |cons a r ih=>
   intro x k hx;simp only[aR,List.cons_append,bf]at hx;split at hx
   ·rename_i q;cases hx;exact .inl ⟨a,aH,(eq_of_beq q).symm,rfl⟩
   ·rcases ih x k hx with ⟨e,h1,h2⟩|h1
    ·exact .inl ⟨e,aI _ h1,h2⟩
    ·exact .inr h1
 have lkE:∀e∈tab,G.lookup e.x=some (.fn e.fr):=by
  subst hG;clear hc he lk hus
  induction tab with
  |nil=>intro e h;simp at h
  |cons a r ih=>
   intro e hm;simp only[aR,List.nodup_cons]at hnd;simp only[aR,List.cons_append,bf];rcases aF.mp hm with rfl|hm
   ·rw[beq_self_eq_true]
   ·have:(e.x==a.x)=false:=by
     cases q:e.x==a.x with
     |false=>rfl
     |true=>exact absurd ((eq_of_beq q)▸aN.mpr ⟨e,hm,rfl⟩) hnd.1
    rw[this];exact ih hnd.2 e hm
 have hca:∀k x,cH.contains (k,x)=true->∀C D,dR K cls k=some C->dR K cls x=some D->PySem.W.exmOne K (.ref C) (.ref D)=some true:=λk x z C D h1 h2=>by
  obtain⟨C',D',e1,e2,e3⟩:=hcat (k,x) (by simpa using z);have a1:=(jL h1).2;have a2:=(jL h2).2;rw[e1]at a1;rw[e2]at a2;cases a1;cases a2;exact e3
 have fnd:∀e∈tab,∃f fd,dR K (tab.map (·.x)) e.x=some f/\Fun K e.x e.x e.st f fd/\Binds K fd (argNames (zv e.st)) []/\cA K (.ref f)=true/\mg e.x=some (.ref f):=λe hm=>by
  obtain⟨⟨f',d⟩,hb⟩:=he e hm;obtain⟨fd,F⟩:=d.fn;exact⟨f',fd,hZ d.a (by simpa using aN.mpr ⟨e,hm,rfl⟩),F,F.binds hb,d.k,PySem.W.mg_of X N d.a⟩
 have fne:∀e∈tab,(prT tab vals cH subs).fns e.x=some e.fn:=λe hm=>by show (tab.find? (·.x==e.x)).map (·.fn)=_;rw[lW hnd hm];rfl
 have gl:∀x k,oth.lookup x=some k->GM0 (prT tab vals cH subs) (gOf K (tab.map (·.x)) cls) mg x k:=λx k hk=>by
  have:=ho x k hk;cases k with
  |fn fr=>exact absurd hk (hof x fr)
  |val=>obtain⟨u,v,d,h1,h2,h3,h4⟩:=this;exact⟨u,v,d,PySem.W.mg_of X N h1,h2,h3,λH=>h4 _ H rfl⟩
  |bi b=>exact⟨cR X N this.1,this.2⟩
  |rng=>exact⟨cR X N this.1,this.2⟩
  |enum=>exact⟨cR X N this.1,this.2⟩
  |zip=>exact⟨cR X N this.1,this.2⟩
  |isi=>exact⟨cR X N this.1,this.2⟩
  |ty n b=>exact⟨cR X N this.1,this.2⟩
  |exc=>obtain⟨C,h1,h2⟩:=this;exact⟨C,PySem.W.mg_of X N h1,hZ h1 (hcl x (.inl hk)),h2⟩
  |exk=>obtain⟨C,h1⟩:=this;exact⟨C,PySem.W.mg_of X N h1,hZ h1 (hcl x (.inr hk))⟩
  |set=>exact⟨cR X N this.1,this.2⟩
  |rvd=>exact⟨cR X N this.1,this.2⟩
 refine⟨λx f hf=>?_,λx k hx=>?_,λx k hx=>?_,λx k hx=>?_,λk cl b z=>?_,hca⟩
 ·obtain⟨h1,h2⟩:=jL hf;obtain⟨e,hm,rfl⟩:=aN.mp (by simpa using h1:x∈tab.map (·.x));obtain⟨f',fd,z1,z2,z3,z4,z5⟩:=fnd e hm;have hf:dR K (tab.map (·.x)) e.x=some f:=hf;rw[hf]at z1;cases z1;exact⟨e.st,e.own,e.fr,fd,e.fn,fne e hm,hc e hm,z2,z3,z4,z5,lkE e hm⟩
 ·rcases lk x k hx with ⟨e,hm,rfl,rfl⟩|hk
  ·obtain⟨f',fd,z1,_⟩:=fnd e hm;exact⟨f',z1⟩
  ·exact gl x k hk
 ·obtain⟨k0,h1,rfl⟩:=nW hx;have:=gl x k0 h1;cases k0 with
  |fn fr=>exact absurd h1 (hof x fr)
  |exc=>obtain⟨C,z1,z2,_⟩:=this;exact⟨by simp[unx],by simp[unx],⟨C,z1,z2⟩⟩
  |_=>exact⟨by simp[unx],by simp[unx],this⟩
 ·rcases ng hx with ⟨e,hm,rfl,rfl⟩|hk
  ·have:=hcu e hm;cases this
  ·exact hk
 ·have z:subs.lookup (k,cl)=some b:=z;obtain⟨C,cv,h0,h1,h2,h3,h4⟩:=hsub _ (lM z);refine⟨C,cv,hZ h1 h0,h2,h3,?_⟩;cases cl with
  |ty n=>exact h4
  |ex x=>obtain⟨D,d0,d1,d2⟩:=h4;exact⟨D,hZ d1 d0,d2⟩
theorem yP{l:PySem.W.OpenLaw}{q:aq}{loose:List Str}{XP:(Str->Option ae)->Heap->Prop}{YP:ak->Heap->Prop}{d:DefRec}{K:Params->ao}{tab:List Ent}{G:List (Str×GK)}{vals:List (Str×D)}{cls:List Str}{cH:List (Str×Str)}{subs:List ((Str×Cl)×Bool)}{GH GU:List (Str×GK)}{e:Ent}{k:Nat}
  (hn:l.most=some 63) (hdf:d.params.defaults=[]) (hd:d.name=e.x) (hr:ck k callerA) (hY:∀(w:ak) (h:Heap),YP w h->(K w.params).In h) (hm:e∈tab) (hnd:(tab.map (·.x)).Nodup) (hx:e.x = "law") (hfr:e.fr=false) (hp:argNames (zv e.st)=[("_law_script" : Str)])
  (hG:∀(w:ak) (mg:Str->Option ae) (h:Heap),(K w.params).In h->h.Ns ar mg->Ground (prT tab vals cH subs) (gOf (K w.params) (tab.map (·.x)) cls) G GH GU mg/\gz (K w.params) G e) (hc:cFn G GH e.own e.fr e.st=some e.fn)
  (hlaw:∀ns:List Int,ns.length<=63->qc (prT tab vals cH subs) k "law" [.lst (ns.map D.int)]=.ok (.bl true)) :
  PySem.W.WalkO q loose XP YP l.row.toRowW d [] (λf vs=>PySem.call f vs):=by
 refine L2.AN (n:=63) (k:=k) (x:="_law_script") (CX:=λw=>CX1 l.prog w) (sp:=λw=>spF (wAt (prT tab vals cH subs) k) (gOf (K w.params) (tab.map (·.x)) cls) "law" false) hn (by decide) hdf hr hY (λw mg fa h KX N hfa=>?_) (λw H a ns hl _ hS=>?_) λw H s e s' z=>?_
 ·obtain⟨T,⟨f,dd⟩,hb⟩:=hG w mg h KX N;have e1:=hfa.symm.trans (hd▸PySem.W.mg_of KX N dd.a);cases e1;obtain⟨oc,od,an,sl,kV,dc,pm,cd,ct,lk,hcd⟩:=dd.l;refine⟨cj e.x e.x (zv e.st) (dB e.st) (zr e.st) .none kV dc pm an cd ct,λs u=>.of_eq ?_,λbase _ _=>?_⟩
  ·have:=hb kV dc pm an cd ct [u] (by rw[hp];rfl);rw[hp]at this;exact this
  ·have:=T.ok (P:=l.prog) (wl:=w) (base:=base) k e.x fa e.st e.own e.fr _ e.fn (by show (tab.find? (·.x==e.x)).map (·.fn)=_;rw[lW hnd hm];rfl) hc (nc (st:=e.st) lk hcd dd.k);rw[hp,hx,hfr]at this;rw[hx];exact this
 ·refine⟨⟨λ_=>false,λ_=>false,[],λ_=>none⟩,[.lst (ns.map D.int)],(λa z=>by rcases z with z|z<;>cases z),.cons (.lst (xs:=ns.map V.int) ?_ (ze.ofInts _)) .nil,?_⟩
  ·have:hid H ⟨λ_=>false,λ_=>false,[],λ_=>none⟩=H:=by funext b;unfold hid;rw[if_neg (by simp)]
   rw[this];exact hS
  ·show tR _ _ _ (qc (prT tab vals cH subs) k "law" [.lst (ns.map D.int)]) _;rw[hlaw ns hl];intro v H' _ r _;cases r;rfl
 ·obtain⟨_,_,_,_,_,_,_,_,_,z⟩:=z;exact z
end EV
namespace KG
open EV
open PySem (Str)
open L2 (atI ixN ltP)
abbrev prD:Int×Int->D:=EV.pairD
theorem zL{w:W}{f:Fn}{ds:List D}{d:D}{τ:Env}(hl:ds.length=f.ps)(hτ:ds.map some++bN (f.N-f.ps) none=τ)(h:qa w f.body τ=.rt d):cC w f ds=.ok d:=by
 rw[cC,if_pos hl,hτ,h]
theorem bR{w:W}{s:S}{r:Ss}{τ σ:Env}{o:O}(h:evS w s τ=.nx σ)(h':qa w r σ=o):qa w (.cons s r) τ=o:=by rw[qa,h];exact h'
theorem ju{w:W}{tg:Tg}{it:It}{b r:Ss}{τ:Env}{o:O}{ds:List D}(I:List D->Env->Prop)(h:evI w it τ=.ok ds)(h0:I ds τ)
  (hs:∀x t σ,I (x::t) σ->∃σ1 σ2,store tg x σ=.ok σ1/\qa w b σ1=.nx σ2/\I t σ2) (hn:∀σ,I [] σ->qa w r σ=o):qa w (.cons (.for tg it b) r) τ=o:=by
 have key:∀(l:List D) (σ:Env),I l σ->∃σ',cY tg (λσ=>qa w b σ) l σ=.nx σ'/\I [] σ':=by
  intro l
  induction l with
  |nil=>intro σ q;exact⟨σ,rfl,q⟩
  |cons x t ih=>
   intro σ q;obtain⟨σ1,σ2,a,b',c⟩:=hs x t σ q;obtain⟨σ',d,e⟩:=ih σ2 c;exact⟨σ',by rw[cY,a];simp only[R.out_ok];rw[b'];exact d,e⟩
 obtain⟨σ',a,b'⟩:=key ds τ h0;rw[qa,bQ,h];simp only[R.out_ok];rw[a];exact hn σ' b'
theorem g8{w:W}{it:It}{cap:List (Option Nat)}{t:T}{elt:E}{τ c:Env}{ds:List D}{g:D->List D}(h:evI w it τ=.ok ds)(hz:ds.length<=SZ)(hc:dC cap τ=none::none::c)
  (hb:∀x∈ds,((evT w t (none::some x::c)).bind λr=>if r then (evE w elt (none::some x::c)).bind λd=>.ok [d]else .ok [])=.ok (g x)):evE w (.comp it cap (.nm 1) t elt) τ=.ok (.lst (ds.flatMap g)):=by
 have key:∀(l:List D) (v:Option D) (acc:List D),(∀x∈l,x∈ds)->bY (λx σ=>noEx ((store (.nm 1) x σ).bind λσ'=>(evT w t σ').bind λr=>if r then (evE w elt σ').bind λd=>.ok (σ',[d])else .ok (σ',[]))) l (none::v::c) acc=.ok (acc++l.flatMap g):=by
  intro l
  induction l with
  |nil=>intro v acc _;simp[bY]
  |cons x r ih=>
   intro v acc hm;have q:=hb x (hm x aH);rw[bY];have e:noEx ((store (.nm 1) x (none::v::c)).bind λσ'=>(evT w t σ').bind λr=>if r then (evE w elt σ').bind λd=>.ok (σ',[d])else .ok (σ',[]))=.ok (none::some x::c,g x):=by
    simp only[store,R.bind_ok,List.set_cons_succ,List.set_cons_zero];cases ht:evT w t (none::some x::c)with
    |ok b=>
     rw[ht]at q;simp only[R.bind_ok]at q ⊢;cases b
     ·simp at q ⊢;rw[<-q];rfl
     ·simp only[if_true]at q ⊢;cases he:evE w elt (none::some x::c)with
      |ok d=>rw[he]at q;simp only[R.bind_ok,R.ok.injEq]at q ⊢;rw[<-q];rfl
      |ex=>rw[he]at q;cases q
      |no=>rw[he]at q;cases q
    |ex=>rw[ht]at q;cases q
    |no=>rw[ht]at q;cases q
   rw[e];simp only[R.bind_ok];rw[ih (some x) _ λy hy=>hm y (aI _ hy),dk,List.append_assoc]
 rw[qm,h];simp only[R.bind_ok];rw[if_neg (by lia),hc,key ds none [] λ_ h=>h]
 rfl
theorem wm{w:W}{i:Int}:cb w (.int i) (.ty "int")=.ok (.bl true):=rfl
theorem yr{w:W}{i:Int}:cb w (.int i) (.ty "bool")=.ok (.bl false):=rfl
theorem Cu{w:W}{i:List D}:cb w (.tup i) (.ty "tuple")=.ok (.bl true):=rfl
theorem CA{w:W}{i:List D}:cb w (.tup i) (.ty "bool")=.ok (.bl false)/\cb w (.tup i) (.ty "int")=.ok (.bl false)/\cb w (.tup i) (.ty "str")=.ok (.bl false)/\cb w (.tup i) (.ty "list")=.ok (.bl false):=⟨rfl,rfl,rfl,rfl⟩
theorem vR{w:W}{i:Bool}:cb w (.bl i) (.ty "bool")=.ok (.bl true):=rfl
theorem m8(i:Int):(D.int i).asks=true:=rfl
theorem vt(t:Int×Int):(prD t).asks=true:=rfl
theorem mL:∀ns:List Int,plainAll (ns.map D.int)=true
 | []=>rfl
 |_::r=>mL r
theorem md:∀ns:List Int,eW (ns.map D.int)=0
 | []=>rfl
 |_::r=>by show max 0 (eW _)=0;rw[md r];rfl
theorem pe(ns:List Int):(D.tup (ns.map D.int)).asks=true:=by
 simp[D.asks,D.plain,D.deep,mL,md]
theorem mR:∀ns ms:List Int,eqvAll (ns.map D.int) (ms.map D.int)=decide (ns=ms)
 | [],[]=>rfl
 | [],_::_=>rfl
 |_::_,[]=>rfl
 |a::r,b::t=>by
  show (a==b&&eqvAll (r.map D.int) (t.map D.int))=_;rw[mR r t];simp[Bool.decide_and]
  rfl
noncomputable def mn(a b:Int):Int:=if b<a then b else a
noncomputable def mx(a b:Int):Int:=if a<b then b else a
noncomputable def dj(ts:List (Int×Int))(a b:Int):Bool:=ts.any λt=>t.1==mn a b&&t.2==mx a b
theorem An(ts:List (Int×Int))(u v:Int):qh .isin (.tup [.int u,.int v]) (.tup (ts.map prD))=.ok (ts.any λt=>t.1==u&&t.2==v):=by
 rw[qh];simp only[seq?];rw[if_pos (by simp only[aC,List.all_eq_true,aN];exact⟨rfl,λx ⟨t,_,e⟩=>e▸vt t⟩),inD,List.any_map]
 congr 2;funext t;show ((t.1==u)&&((t.2==v)&&true))=_;rw[Bool.and_true]
theorem pA(ns:List Int)(a:Int):qh .isin (.int a) (.tup (ns.map D.int))=.ok (ns.any λt=>t==a):=by
 rw[qh];simp only[seq?];rw[if_pos (by simp only[aC,List.all_eq_true,aN];exact⟨rfl,λx ⟨t,_,e⟩=>e▸m8 t⟩),inD,List.any_map]
 rfl
theorem tO(ns ms:List Int):qh .eq (.tup (ns.map D.int)) (.tup (ms.map D.int))=.ok (decide (ns=ms)):=by
 rw[qh]
 ·rw[if_pos (by simp only[aC];exact⟨pe _,pe _⟩)];show R.ok (eqvAll _ _)=_;rw[mR]
 all_goals (intros;rintro⟨⟩)
structure GW(m:Int)(ts:List (Int×Int)):Prop where
 lo:1<=m
 hi:m<=8
 lt:ts.Pairwise λs t=>ltP s t=true
 ok:∀t∈ts,0<=t.1/\t.1<t.2/\t.2<m
 len:ts.length<=28
structure GS(m:Int)(s:List Int):Prop where
 lt:s.Pairwise (· < ·)
 ok:∀i∈s,0<=i/\i<m
 len:s.length<=8
abbrev wb(m:Int)(ts:List (Int×Int)):D:=.tup [.int m,.tup (ts.map prD)]
abbrev tu(s:List Int):D:=.tup (s.map D.int)
theorem gy{xs:List D}{i:Nat}(h:i<xs.length):atI xs (i:Int)=some xs[i]:=by
 rw[atI,ixN,if_pos (by lia),if_pos (by lia)];simp[h]
theorem all_true(xs:List D):bools? (xs.flatMap λ_=>[.bl true])=some (bN xs.length true):=by
 induction xs with
 |nil=>rfl
 |cons x r ih=>show (bools? (r.flatMap λ_=>[.bl true])).map (true :: ·)=_;rw[ih];rfl
theorem pS(n:Nat):(bN n true).all id=true:=by simp
theorem wD{s t:Int×Int}(h:ltP s t=true):qh .lt (prD s) (prD t)=.ok true:=by
 show R.ok (dW [s.1,s.2] [t.1,t.2])=_;rw[ltP]at h;simp only[dW];by_cases e:s.1=t.1
 ·rw[if_pos e]at h ⊢;by_cases e2:s.2=t.2
  ·rw[e2]at h;simp at h
  ·rw[if_neg e2,h]
 ·rw[if_neg e]at h ⊢;rw[h]
noncomputable def rng(m:Int):List Int:=(a9 m.toNat).map λ(i:Nat)=>(i:Int)
theorem dG(m:Int):cn 0 m.toNat=(rng m).map D.int:=by
 rw[cn,rng,bz];simp
theorem cG(m:Int):(rng m).length=m.toNat:=by simp[rng]
theorem cP{m i:Int}:i∈rng m↔0<=i/\i<m:=by
 simp only[rng,aN,List.mem_range];constructor
 ·rintro⟨a,h,rfl⟩;lia
 ·intro h;exact⟨i.toNat,by lia,by lia⟩
theorem gQ(m:Int):(rng m).Pairwise (· < ·):=by
 rw[rng,List.pairwise_map];exact List.pairwise_lt_range.imp λh=>by lia
theorem ud(c:Int->Bool)(ns:List Int):(ns.map D.int).flatMap (λx=>match x with | .int i=>if c i then [D.int i]else []|_=>[])=(ns.filter c).map D.int:=by
 induction ns with
 |nil=>rfl
 |cons a r ih=>
  rw[aR,dk,ih,List.filter_cons];show (if c a=true then [D.int a]else [])++_=_;cases c a<;>rfl
theorem yZ(x y:Int)(h:0<y)(h':y<=2^64):small (x%y)=true:=by
 have a:=Int.emod_nonneg x (show y≠0 by lia);have b:=Int.emod_lt_of_pos x h;simp only[small,aC,decide_eq_true_eq];lia
noncomputable def st(c j:Int):Int:=
 ((((c%2147483647+977 * j+1) * 48271%2147483647) * ((c%2147483647+977 * j+1) * 48271%2147483647)%2147483629+40692 * (j+3)) * 69621%2147483647)/8
theorem GW.sub{m:Int}{ts ps:List (Int×Int)}(h:GW m ps)(s:ts.Sublist ps):GW m ts:=
 ⟨h.lo,h.hi,h.lt.sublist s,λt ht=>h.ok t (s.subset ht),ba s.length_le h.len⟩
theorem eq_int(a b:Int):qh .eq (.int a) (.int b)=.ok (decide (a=b)):=by
 show R.ok (a==b)=_;congr 1
theorem lt_int(a b:Int):qh .lt (.int a) (.int b)=.ok (decide (a<b)):=rfl
theorem ints_map(ns:List Int):ints? (ns.map D.int)=some ns:=by
 induction ns with
 |nil=>rfl
 |cons a r ih=>show (ints? (r.map D.int)).map (a :: ·)=_;rw[ih];rfl
theorem AS{f:Int->D}(ns:List Int):(ns.map D.int).flatMap (λx=>match x with | .int i=>[f i]|_=>[])=ns.map f:=by
 induction ns with
 |nil=>rfl
 |cons a r ih=>rw[aR,dk,ih];rfl
noncomputable instance (m:Int) (ts:List (Int×Int)):Decidable (GW m ts):=
 decidable_of_iff (1<=m/\m<=8/\ts.Pairwise (λs t=>ltP s t=true)/\(∀t∈ts,0<=t.1/\t.1<t.2/\t.2<m)/\ts.length<=28) ⟨λ⟨a,b,c,d,e⟩=>⟨a,b,c,d,e⟩,λ⟨a,b,c,d,e⟩=>⟨a,b,c,d,e⟩⟩
noncomputable def Ends(J:Env->Prop)(Q:D->Prop):O->Prop
 | .nx σ=>J σ
 | .rt d=>Q d
 |_=>False
section
variable{w:W}{J K:Env->Prop}{Q:D->Prop}{s:S}{r:Ss}{τ σ:Env}
theorem zx(h:J τ):Ends J Q (qa w .nil τ):=by rw[qa];exact h
theorem zq(h:evS w s τ=.nx σ)(h':Ends J Q (qa w r σ)):Ends J Q (qa w (.cons s r) τ):=by rw[qa,h];exact h'
theorem iY(h:Ends K Q (evS w s τ))(h':∀σ,K σ->Ends J Q (qa w r σ)):Ends J Q (qa w (.cons s r) τ):=by
 rw[qa];cases q:evS w s τ with
 |nx σ=>rw[q]at h;exact h' σ h
 |rt d=>rw[q]at h;exact h
 |_=>rw[q]at h;exact h.elim
theorem fD{e:E}{d:D}(h:evE w e τ=.ok d)(hq:Q d):Ends J Q (qa w (.cons (.ret e) r) τ):=by
 rw[qa,bS,h];exact hq
theorem kY{t:T}{a b:Ss}{v:Bool}(h:evT w t τ=.ok v)(h1:v=true->Ends J Q (qa w a τ))(h2:v=false->Ends J Q (qa w b τ)):Ends J Q (evS w (.ite t a b) τ):=by
 rw[bT,h];cases v
 ·exact h2 rfl
 ·exact h1 rfl
theorem dg{tg:Tg}{it:It}{b:Ss}{ds:List D}(I:List D->Env->Prop)(h:evI w it τ=.ok ds)(h0:I ds τ)(hs:∀x t σ,I (x::t) σ->∃σ1,store tg x σ=.ok σ1/\Ends (I t) Q (qa w b σ1))(hn:∀σ,I [] σ->Ends J Q (qa w r σ)):Ends J Q (qa w (.cons (.for tg it b) r) τ):=by
 have key:∀(l:List D) (σ:Env),I l σ->Ends (I []) Q (cY tg (λσ=>qa w b σ) l σ):=by
  intro l
  induction l with
  |nil=>intro σ q;exact q
  |cons x t ih=>
   intro σ q;obtain⟨σ1,a,b'⟩:=hs x t σ q;rw[cY,a];simp only[R.out_ok];cases z:qa w b σ1 with
   |nx σ2=>rw[z]at b';exact ih σ2 b'
   |rt d=>rw[z]at b';exact b'
   |_=>rw[z]at b';exact b'.elim
 have hk:=key ds τ h0;refine iY (K:=I []) ?_ hn;rw[bQ,h];simp only[R.out_ok];cases z:cY tg (λσ=>qa w b σ) ds τ with
 |nx σ2=>rw[z]at hk;exact hk
 |rt d=>rw[z]at hk;exact hk
 |_=>rw[z]at hk;exact hk.elim
end
theorem AA{s t:Int×Int}(h:ltP t s=false)(hn:s≠t):ltP s t=true:=by
 simp only[ltP]at h ⊢;by_cases e:s.1=t.1
 ·rw[if_pos e.symm]at h;rw[if_pos e];have:s.2≠t.2:=λz=>hn (Prod.ext e z)
  simp at h ⊢;lia
 ·rw[if_neg (λz=>e z.symm)]at h;rw[if_neg e];simp at h ⊢;lia
theorem ue{l:List (Int×Int)}(h:l.Pairwise λa b=>ltP b a=false)(hn:l.Nodup):l.Pairwise λs t=>ltP s t=true:=
 List.Pairwise.imp₂ (λa b h1 h2=>AA h1 h2) h hn
theorem mh:∀ts:List (Int×Int),pairs? (ts.map prD)=some ts
 | []=>rfl
 |t::r=>by show (pairs? (r.map prD)).map (t :: ·)=_;rw[mh r];rfl
theorem mC(xs:List D):b1 .sorted [.lst xs]=(if xs.length<64 then (match ints? xs with
  |some ns=>.ok (.lst ((sortI ns).map D.int))
  |none=>match pairs? xs with
   |some ps=>.ok (.lst ((zw ps).map pairD))
   |none=>dX xs)else dX xs):=rfl
theorem la(ts:List (Int×Int))(h:ts.length<64):b1 .sorted [.lst (ts.map prD)]=.ok (.lst ((zw ts).map prD)):=by
 rw[mC,if_pos (by simpa using h)];cases ts with
 |nil=>rfl
 |cons t r=>
  have e:ints? ((t::r).map prD)=none:=rfl;rw[e];simp only;rw[mh]
noncomputable def hd(m:Int)(ts:List (Int×Int))(a:Int):List Int:=(rng m).filter λb=>b==a||dj ts a b
noncomputable def mk(m:Int)(ts:List (Int×Int))(s:List Int)(a:Int):List Int:=s.filter λx=>(hd m ts a).any λt=>t==x
end KG
noncomputable def KG.Z:=aj @EV.qa.eq_1 (aj @EV.qa.eq_2 (aj @EV.bW (aj @EV.bP (aj @EV.bU (aj @EV.bS (aj @EV.bX (aj @EV.bT (aj @EV.zK (aj @EV.qW (aj @EV.qX (aj @EV.zb (aj @EV.qZ (aj @EV.zc (aj @EV.za (aj @EV.qY (aj @EV.qB (aj @EV.qr (aj @EV.qC (aj @EV.qA (aj @EV.qw (aj @EV.qq (aj @EV.qx (aj @EV.qo (aj @EV.qD (aj @EV.qu (aj @EV.qt (aj @EV.qp (aj @EV.qy (aj @EV.bB.eq_1 (aj @EV.bB.eq_2 (aj @EV.eQ (aj @EV.eT (aj @EV.eR (aj @EV.eU (aj @EV.eZ (aj @EV.fj (aj @EV.fh (aj @EV.evI.eq_1 (aj @EV.evI.eq_2 (aj @EV.evI.eq_3 (aj @EV.evI.eq_4 (aj @EV.evI.eq_5 (aj @EV.evI.eq_6 (aj @EV.evI.eq_7 (aj @EV.evO.eq_1 (aj @EV.evO.eq_2 (aj @EV.opI.eq_1 (aj @EV.opI.eq_2 (aj @EV.opI.eq_3 (aj @EV.opI.eq_4 (aj @EV.opI.eq_5 (aj @EV.opI.eq_6 (aj @EV.opI.eq_7 (aj @EV.opI.eq_8 (aj @EV.opI.eq_9 (aj @EV.opI.eq_10 (aj @EV.opI.eq_11 (aj @EV.b11.eq_1 (aj @EV.b11.eq_2 (aj @EV.b11.eq_3 (aj @EV.b11.eq_4 (aj @EV.b11.eq_5 (aj @EV.b11.eq_6 (aj @EV.b11.eq_7 (aj @EV.b11.eq_8 (aj @EV.b11.eq_9 (aj @EV.b11.eq_10 (aj @EV.b11.eq_11 (aj @EV.b11.eq_12 (aj @EV.b11.eq_13 (aj @EV.b11.eq_14 (aj @EV.b12.eq_1 (aj @EV.b12.eq_2 (aj @EV.b12.eq_3 (aj @EV.cZ.eq_1 (aj @EV.cZ.eq_2 (aj @EV.dY.eq_1 (aj @EV.dY.eq_2 (aj @EV.iiR.eq_1 (aj @EV.iiR.eq_2 (aj @EV.zG.eq_1 (aj @EV.store.eq_1 (aj @EV.store.eq_2 (aj @EV.store.eq_3 (aj @EV.setAll.eq_1 (aj @EV.setAll.eq_2 (aj @EV.setAll.eq_3 (aj @EV.truth.eq_1 (aj @EV.truth.eq_2 (aj @EV.truth.eq_3 (aj @EV.truth.eq_4 (aj @EV.truth.eq_5 (aj @EV.truth.eq_6 (aj @KG.wm (aj @KG.yr (aj @KG.Cu (aj @KG.CA (@KG.vR))))))))))))))))))))))))))))))))))))))))))))))))))))))))))))))))))))))))))))))))))))))))))))))))))
namespace KG
open EV
open PySem (Str)
open L2 (atI ixN ltP)
noncomputable def iz:Fn:=⟨1,1,false,(.cons (.ret (.and (.isi (.var 0) (.ty "int")) (.not (.isi (.var 0) (.ty "bool"))))) .nil)⟩
noncomputable def gH:Fn:=⟨3,3,false,(.cons (.ret (.and (.call "is_whole" (.cons (.var 0) .nil)) (.cmp2 .le .le (.var 1) (.var 0) (.var 2)))) .nil)⟩
noncomputable def gD:Fn:=⟨1,1,false,(.cons (.ret (.and (.isi (.var 0) (.ty "tuple")) (.cmp .eq (.bi .len (.cons (.var 0) .nil)) (.con (.int 2))))) .nil)⟩
noncomputable def hV:Fn:=⟨1,1,false,(.cons (.ret (.bi .all (.cons (.comp (.rng (.op .sub (.bi .len (.cons (.var 0) .nil)) (.con (.int 1)))) [none,none,some 0] (.nm 1) .yes (.cmp .lt (.ix (.var 2) (.var 1)) (.ix (.var 2) (.op .add (.var 1) (.con (.int 1)))))) .nil))) .nil)⟩
noncomputable def gX:Fn:=⟨1,3,false,(.cons (.ite (.not (.val (.call "is_pair" (.cons (.var 0) .nil)))) (.cons (.ret (.con (.bl false))) .nil) .nil) (.cons (.set (.tp [1,2]) (.var 0)) (.cons (.ite (.or (.not (.val (.call "is_between" (.cons (.var 1) (.cons (.con (.int 1)) (.cons (.glb "MOST") .nil)))))) (.not (.val (.isi (.var 2) (.ty "tuple"))))) (.cons (.ret (.con (.bl false))) .nil) .nil) (.cons (.ret (.and (.bi .all (.cons (.comp (.seq (.var 2)) [none,none,some 1] (.nm 1) .yes (.call "is_tie" (.cons (.var 1) (.cons (.var 2) .nil)))) .nil)) (.call "rises" (.cons (.var 2) .nil)))) .nil))))⟩
noncomputable def gR:Fn:=⟨2,4,false,(.cons (.ite (.not (.val (.call "is_pair" (.cons (.var 0) .nil)))) (.cons (.ret (.con (.bl false))) .nil) .nil) (.cons (.set (.tp [2,3]) (.var 0)) (.cons (.ret (.and (.call "is_whole" (.cons (.var 2) .nil)) (.and (.call "is_whole" (.cons (.var 3) .nil)) (.cmp3 .le .lt .lt (.con (.int 0)) (.var 2) (.var 3) (.var 1))))) .nil)))⟩
noncomputable def gP:Fn:=⟨1,1,false,(.cons (.ite (.not (.val (.call "is_web" (.cons (.var 0) .nil)))) (.cons .unk .nil) .nil) .nil)⟩
noncomputable def fO:Fn:=⟨1,1,false,(.cons (.exp (.call "need_web" (.cons (.var 0) .nil))) (.cons (.ret (.bi .tuple (.cons (.comp (.rng (.ix (.var 0) (.con (.int 0)))) [none,none,some 0] (.nm 1) .yes (.call "hood_of" (.cons (.var 2) (.cons (.var 1) .nil)))) .nil))) .nil))⟩
noncomputable def ff:Fn:=⟨2,4,false,(.cons (.set (.tp [2,3]) (.var 0)) (.cons (.ret (.bi .tuple (.cons (.comp (.rng (.var 2)) [none,none,some 1,some 3] (.nm 1) (.or (.cmp .eq (.var 1) (.var 2)) (.val (.call "are_tied" (.cons (.var 3) (.cons (.var 2) (.cons (.var 1) .nil)))))) (.var 1)) .nil))) .nil))⟩
noncomputable def eI:Fn:=⟨3,3,false,(.cons (.ret (.cmp .isin (.tup (.cons (.bi .min (.cons (.var 1) (.cons (.var 2) .nil))) (.cons (.bi .max (.cons (.var 1) (.cons (.var 2) .nil))) .nil))) (.var 0))) .nil)⟩
noncomputable def A7:Fn:=⟨2,2,false,(.cons (.ret (.bi .tuple (.cons (.comp (.seq (.var 1)) [none,none,some 0] (.nm 1) (.cmp .isin (.var 1) (.var 2)) (.var 1)) .nil))) .nil)⟩
noncomputable def uE:Fn:=⟨2,2,false,(.cons (.ret (.comp (.seq (.var 0)) [none,none,some 1] (.nm 1) .yes (.call "mark_of" (.cons (.var 1) (.cons (.var 2) .nil))))) .nil)⟩
noncomputable def r9:Fn:=⟨1,3,false,(.cons (.set (.nm 1) (.lst (.cons (.tup .nil) .nil))) (.cons (.for (.nm 2) (.rng (.ix (.var 0) (.con (.int 0)))) (.cons (.set (.nm 1) (.op .add (.var 1) (.comp (.seq (.var 1)) [none,none,some 2] (.nm 1) .yes (.op .add (.var 1) (.tup (.cons (.var 2) .nil)))))) .nil)) (.cons (.ret (.bi .sorted (.cons (.var 1) .nil))) .nil)))⟩
noncomputable def mH:Fn:=⟨2,2,false,(.cons (.ite (.cmp .lt (.var 1) (.bi .len (.cons (.var 0) .nil))) (.cons (.ret (.ix (.var 0) (.var 1))) .nil) .nil) (.cons (.ret (.con (.int 0))) .nil))⟩
noncomputable def zZ:Fn:=⟨2,3,false,(.cons (.set (.nm 2) (.op .mod (.op .mul (.op .add (.op .add (.op .mod (.var 0) (.con (.int 2147483647))) (.op .mul (.con (.int 977)) (.var 1))) (.con (.int 1))) (.con (.int 48271))) (.con (.int 2147483647)))) (.cons (.set (.nm 2) (.op .mod (.op .mul (.var 2) (.var 2)) (.con (.int 2147483629)))) (.cons (.set (.nm 2) (.op .mod (.op .mul (.op .add (.var 2) (.op .mul (.con (.int 40692)) (.op .add (.var 1) (.con (.int 3))))) (.con (.int 69621))) (.con (.int 2147483647)))) (.cons (.ret (.op .fdiv (.var 2) (.con (.int 8)))) .nil))))⟩
noncomputable def oH:Fn:=⟨2,10,false,(.cons (.set (.nm 2) (.op .add (.con (.int 1)) (.op .mod (.var 0) (.var 1)))) (.cons (.set (.nm 3) (.op .fdiv (.var 0) (.var 1))) (.cons (.set (.nm 4) (.op .mod (.var 3) (.con (.int 6)))) (.cons (.set (.nm 5) (.lst .nil)) (.cons (.for (.nm 6) (.rng2 (.con (.int 1)) (.var 2)) (.cons (.for (.nm 7) (.rng (.var 6)) (.cons (.set (.nm 8) (.op .band (.op .shr (.op .fdiv (.var 3) (.con (.int 6))) (.op .add (.op .fdiv (.op .mul (.var 6) (.op .sub (.var 6) (.con (.int 1)))) (.con (.int 2))) (.var 7))) (.con (.int 1)))) (.cons (.ite (.cmp .eq (.var 4) (.con (.int 3))) (.cons (.set (.nm 8) (.op .fdiv (.op .mod (.call "_law_stir" (.cons (.var 0) (.cons (.op .add (.op .mul (.con (.int 8)) (.var 7)) (.var 6)) .nil))) (.con (.int 3))) (.con (.int 2)))) .nil) .nil) (.cons (.ite (.cmp .eq (.var 4) (.con (.int 4))) (.cons (.set (.nm 8) (.op .fdiv (.op .add (.op .mod (.call "_law_stir" (.cons (.var 0) (.cons (.op .add (.op .mul (.con (.int 8)) (.var 7)) (.var 6)) .nil))) (.con (.int 4))) (.con (.int 2))) (.con (.int 3)))) .nil) .nil) (.cons (.ite (.cmp .eq (.var 4) (.con (.int 5))) (.cons (.set (.nm 9) (.lst (.cons (.cmp .eq (.var 6) (.op .add (.var 7) (.con (.int 1)))) (.cons (.or (.cmp .eq (.var 6) (.op .add (.var 7) (.con (.int 1)))) (.cmp .eq (.op .sub (.var 6) (.var 7)) (.op .sub (.var 2) (.con (.int 1))))) (.cons (.cmp .eq (.var 7) (.con (.int 0))) (.cons (.con (.bl true)) (.cons (.and (.cmp .eq (.var 6) (.op .add (.var 7) (.con (.int 1)))) (.cmp .lt (.op .mod (.var 7) (.con (.int 3))) (.con (.int 2)))) .nil))))))) (.cons (.set (.nm 8) (.bi .int (.cons (.ix (.var 9) (.op .mod (.op .fdiv (.var 3) (.con (.int 6))) (.con (.int 5)))) .nil))) .nil)) .nil) (.cons (.ite (.cmp .eq (.var 8) (.con (.int 1))) (.cons (.app 5 (.tup (.cons (.var 7) (.cons (.var 6) .nil)))) .nil) .nil) .nil)))))) .nil)) (.cons (.ret (.tup (.cons (.var 2) (.cons (.bi .tuple (.cons (.bi .sorted (.cons (.own 5) .nil)) .nil)) .nil)))) .nil))))))⟩
noncomputable def AU:Fn:=⟨1,4,false,(.cons (.set (.nm 1) (.comp (.rng (.ix (.var 0) (.con (.int 0)))) [none,none] (.nm 1) .yes (.op .shl (.con (.int 1)) (.var 1)))) (.cons (.for (.tp [2,3]) (.seq (.ix (.var 0) (.con (.int 1)))) (.cons (.seti 1 (.var 2) (.op .bor (.ix (.own 1) (.var 2)) (.op .shl (.con (.int 1)) (.var 3)))) (.cons (.seti 1 (.var 3) (.op .bor (.ix (.own 1) (.var 3)) (.op .shl (.con (.int 1)) (.var 2)))) .nil))) (.cons (.ret (.own 1)) .nil)))⟩
noncomputable def uo:Fn:=⟨2,2,false,(.cons (.ret (.bi .tuple (.cons (.comp (.rng (.var 0)) [none,none,some 1] (.nm 1) (.cmp .eq (.op .band (.op .shr (.var 2) (.var 1)) (.con (.int 1))) (.con (.int 1))) (.var 1)) .nil))) .nil)⟩
noncomputable def eM:Fn:=⟨2,2,false,(.cons (.ret (.call "is_between" (.cons (.var 1) (.cons (.con (.int 0)) (.cons (.op .sub (.ix (.var 0) (.con (.int 0))) (.con (.int 1))) .nil))))) .nil)⟩
noncomputable def jV:Fn:=⟨2,2,false,(.cons (.ite (.not (.val (.isi (.var 1) (.ty "tuple")))) (.cons (.ret (.con (.bl false))) .nil) .nil) (.cons (.ret (.and (.bi .all (.cons (.comp (.seq (.var 1)) [none,none,some 0] (.nm 1) .yes (.call "is_place" (.cons (.var 2) (.cons (.var 1) .nil)))) .nil)) (.call "rises" (.cons (.var 1) .nil)))) .nil))⟩
noncomputable def nA:Fn:=⟨2,2,false,(.cons (.ite (.not (.val (.call "is_some" (.cons (.var 0) (.cons (.var 1) .nil))))) (.cons .unk .nil) .nil) .nil)⟩
structure Web(p:Pr):Prop where
 is_whole:p.fns "is_whole" = some iz
 is_between:p.fns "is_between" = some gH
 is_pair:p.fns "is_pair" = some gD
 rises:p.fns "rises" = some hV
 is_web:p.fns "is_web" = some gX
 is_tie:p.fns "is_tie" = some gR
 need_web:p.fns "need_web" = some gP
 MOST:p.glb "MOST" = some (.int 8)
structure Base(p:Pr):Prop extends Web p where
 all_some:p.fns "all_some" = some r9
 _law_cell_at:p.fns "_law_cell_at" = some mH
 _law_stir:p.fns "_law_stir" = some zZ
 _law_web:p.fns "_law_web" = some oH
 _law_some:p.fns "_law_some" = some uo
structure jf(p:Pr):Prop where
 _law_cell_at:p.fns "_law_cell_at" = some mH
 _law_stir:p.fns "_law_stir" = some zZ
 _law_web:p.fns "_law_web" = some oH
theorem Base.draw{p:Pr}(B:Base p):jf p:=⟨B._law_cell_at,B._law_stir,B._law_web⟩
structure Hds(p:Pr):Prop where
 hoods:p.fns "hoods" = some fO
 hood_of:p.fns "hood_of" = some ff
 are_tied:p.fns "are_tied" = some eI
structure Nbr(p:Pr):Prop where
 hoods:p.fns "hoods" = some fO
 hood_of:p.fns "hood_of" = some ff
 are_tied:p.fns "are_tied" = some eI
 mark_of:p.fns "mark_of" = some A7
 marks_of:p.fns "marks_of" = some uE
structure AB(p:Pr):Prop extends Nbr p where
 _law_masks:p.fns "_law_masks" = some AU
noncomputable instance {p:Pr}:CoeOut (Base p) (Web p):=⟨λb=>b.toWeb⟩
theorem Nbr.hds{p:Pr}(O:Nbr p):Hds p:=⟨O.hoods,O.hood_of,O.are_tied⟩
noncomputable instance {p:Pr}:CoeOut (Base p) (jf p):=⟨λb=>b.draw⟩
noncomputable instance {p:Pr}:CoeOut (Nbr p) (Hds p):=⟨λb=>b.hds⟩
noncomputable instance {p:Pr}:CoeOut (AB p) (Nbr p):=⟨λb=>b.toNbr⟩
structure j0(p:Pr):Prop where
 is_place:p.fns "is_place" = some eM
 is_some:p.fns "is_some" = some jV
structure fZ(p:Pr):Prop where
 is_place:p.fns "is_place" = some eM
 is_some:p.fns "is_some" = some jV
 need_some:p.fns "need_some" = some nA
theorem fZ.a{p:Pr}(b:fZ p):j0 p:=⟨b.is_place,b.is_some⟩
noncomputable instance {p:Pr}:CoeOut (fZ p) (j0 p):=⟨λb=>b.a⟩
section
variable{p:Pr}
theorem zh{k:Nat}{x:Str}{f:Fn}{ds:List D}(h:p.fns x=some f):qc p (k+1) x ds=cC ⟨qc p k,p.glb,p.sub,p.cat⟩ f ds:=by
 rw[qc,h]
theorem jk{k:Nat}{x:Str}{f:Fn}{ds:List D}{τ:Env}{Q:D->Prop}(hf:p.fns x=some f)(hl:ds.length=f.ps)(hτ:ds.map some++bN (f.N-f.ps) none=τ)(h:Ends (λ_=>False) Q (qa (wAt p k) f.body τ)):∃d,qc p (k+1) x ds=.ok d/\Q d:=by
 rw[zh hf,cC,if_pos hl,hτ];cases z:qa ⟨qc p k,p.glb,p.sub,p.cat⟩ f.body τ with
 |rt d=>rw[z]at h;exact⟨d,rfl,h⟩
 |nx _=>rw[z]at h;exact h.elim
 |_=>rw[z]at h;exact h.elim
section
variable(B:Web p)
include B
theorem is_whole{k:Nat}(i:Int):qc p (k+1) "is_whole" [.int i]=.ok (.bl true):=by rw[zh B.is_whole];rfl
theorem is_between{k:Nat}(i a b:Int)(h:a<=i/\i<=b):qc p (k+2) "is_between" [.int i,.int a,.int b]=.ok (.bl true):=by
 rw[zh B.is_between];refine zL rfl rfl ?_;simp[KG.Z,gH,is_whole B,qh,jg,h.1,h.2]
theorem is_pair{k:Nat}(a b:D):qc p (k+1) "is_pair" [.tup [a,b]]=.ok (.bl true):=by
 rw[zh B.is_pair];refine zL rfl rfl ?_;simp[KG.Z,gD,b1,seq?,qh,D.asks,D.plain,D.deep,D.eqv]
theorem is_tie{k:Nat}(a b m:Int)(h:0<=a/\a<b/\b<m):qc p (k+2) "is_tie" [.tup [.int a,.int b],.int m]=.ok (.bl true):=by
 rw[zh B.is_tie];refine zL rfl rfl ?_;simp[KG.Z,gR,is_pair B,is_whole B,qh,jg,h.1,h.2.1,h.2.2]
theorem rises{k:Nat}(xs:List D)(hz:xs.length<=28)(h:∀(i:Nat) (q:i+1<xs.length),qh .lt xs[i] xs[i+1]=.ok true):qc p (k+1) "rises" [.tup xs]=.ok (.bl true):=by
 rw[zh B.rises];refine zL rfl rfl ?_;have hr:qV ((xs.length:Int)-1)=true:=by simp[qV];lia
 have hc:evE ⟨qc p k,p.glb,p.sub,p.cat⟩ (.comp (.rng (.op .sub (.bi .len (.cons (.var 0) .nil)) (.con (.int 1)))) [none,none,some 0] (.nm 1) .yes (.cmp .lt (.ix (.var 2) (.var 1)) (.ix (.var 2) (.op .add (.var 1) (.con (.int 1)))))) [some (.tup xs)]=.ok (.lst ((cn 0 ((xs.length:Int)-1).toNat).flatMap λ_=>[.bl true])):=by
  refine g8 (c:=[some (.tup xs)]) ?_ ?_ rfl ?_
  ·simp[KG.Z,b1,seq?,op2,hr]
  ·simp[cn,SZ];lia
  ·intro x hx;simp only[cn,aN,List.mem_range]at hx;obtain⟨i,hi,rfl⟩:=hx;have e1:atI xs ((0:Int)+(i:Int))=some xs[i]:=by rw[Int.zero_add];exact gy (by lia)
   have e2:atI xs ((0:Int)+(i:Int)+1)=some xs[i+1]:=by rw[Int.zero_add];exact gy (i:=i+1) (by lia)
   have e3:=h i (by lia);simp only[Int.zero_add]at e1 e2;simp[KG.Z,ixD,op2,e1,e2,e3]
 simp[KG.Z,hV,hc,b1,all_true,pS]
theorem is_web{k:Nat}{m:Int}{ts:List (Int×Int)}(h:GW m ts):qc p (k+3) "is_web" [wb m ts]=.ok (.bl true):=by
 rw[zh B.is_web];refine zL rfl rfl ?_;have hr:=rises B (k:=k+1) (ts.map prD) (by simpa using h.len) (λi q=>by
  rw[List.getElem_map,List.getElem_map];exact wD (List.pairwise_iff_getElem.mp h.lt i (i+1) (by simp at q;lia) (by simpa using q) (by lia)))
 have hc:evE ⟨qc p (k+2),p.glb,p.sub,p.cat⟩ (.comp (.seq (.var 2)) [none,none,some 1] (.nm 1) .yes (.call "is_tie" (.cons (.var 1) (.cons (.var 2) .nil)))) [some (wb m ts),some (.int m),some (.tup (ts.map prD))]=.ok (.lst ((ts.map prD).flatMap λ_=>[.bl true])):=by
  refine g8 (c:=[some (.int m)]) ?_ ?_ rfl ?_
  ·simp[KG.Z,seq?]
  ·simp[SZ];have:=h.len;lia
  ·intro x hx;rw[aN]at hx;obtain⟨t,ht,rfl⟩:=hx;have e:=is_tie B (k:=k) t.1 t.2 m (h.ok t ht);have e':qc p (k+2) "is_tie" [prD t,.int m]=.ok (.bl true):=e;simp[KG.Z,e']
 simp[KG.Z,gX,is_pair B,is_between B m 1 8 ⟨h.lo,h.hi⟩,B.MOST,hc,b1,all_true,hr]
theorem need_web{k:Nat}{m:Int}{ts:List (Int×Int)}(h:GW m ts):qc p (k+4) "need_web" [wb m ts]=.ok .non:=by
 rw[zh B.need_web];simp only[cC];simp[KG.Z,gP,is_web B h]
end
theorem ja(hf:p.fns "_law_stir" = some zZ){k:Nat}(c j:Int):qc p (k+1) "_law_stir" [.int c,.int j]=.ok (.int (st c j)):=by
 have s1:small 977=true:=by decide
 have s2:small 48271=true:=by decide
 have s3:small 40692=true:=by decide
 have s4:small 69621=true:=by decide
 have s5:=yZ ((c%2147483647+977 * j+1) * 48271) 2147483647 (by decide) (by decide);rw[zh hf];refine zL rfl rfl ?_;simp[KG.Z,zZ,op2,s1,s2,s3,s4,s5,st]
section
variable(B:Base p)
include B
end
section
variable(B:Web p)(S:j0 p)
include B S
theorem is_place{k:Nat}(i m:Int)(t:D)(h:0<=i/\i<m):qc p (k+3) "is_place" [.tup [.int m,t],.int i]=.ok (.bl true):=by
 rw[zh S.is_place];refine zL rfl rfl ?_;simp[KG.Z,eM,ixD,atI,ixN,op2,is_between B i 0 (m-1) (by lia)]
theorem is_some{k:Nat}{m:Int}{t:D}{s:List Int}(h:GS m s):qc p (k+4) "is_some" [.tup [.int m,t],tu s]=.ok (.bl true):=by
 rw[zh S.is_some];refine zL rfl rfl ?_;have hr:=rises B (k:=k+2) (s.map D.int) (by simp;have:=h.len;lia) (λi q=>by
  rw[List.getElem_map,List.getElem_map];have:=List.pairwise_iff_getElem.mp h.lt i (i+1) (by simp at q;lia) (by simpa using q) (by lia);simp[qh,jg,this])
 have hc:evE ⟨qc p (k+3),p.glb,p.sub,p.cat⟩ (.comp (.seq (.var 1)) [none,none,some 0] (.nm 1) .yes (.call "is_place" (.cons (.var 2) (.cons (.var 1) .nil)))) [some (.tup [.int m,t]),some (tu s)]=.ok (.lst ((s.map D.int).flatMap λ_=>[.bl true])):=by
  refine g8 (c:=[some (.tup [.int m,t])]) ?_ ?_ rfl ?_
  ·simp[KG.Z,seq?]
  ·simp[SZ];have:=h.len;lia
  ·intro x hx;rw[aN]at hx;obtain⟨i,hi,rfl⟩:=hx;simp[KG.Z,is_place B S i m t (h.ok i hi)]
 simp[KG.Z,jV,hc,b1,all_true,hr]
omit S in
theorem need_some(S:fZ p){k:Nat}{m:Int}{t:D}{s:List Int}(h:GS m s):qc p (k+5) "need_some" [.tup [.int m,t],tu s]=.ok .non:=by
 rw[zh S.need_some];simp only[cC];simp[KG.Z,nA,is_some B S h]
end
theorem om(hA:p.fns "are_tied" = some eI){k:Nat}(ts:List (Int×Int))(a b:Int):qc p (k+1) "are_tied" [.tup (ts.map prD),.int a,.int b]=.ok (.bl (dj ts a b)):=by
 rw[zh hA];refine zL rfl rfl ?_;simp[KG.Z,eI,b1,An,dj,mn,mx]
theorem jN(hH:p.fns "hood_of" = some ff)(hA:p.fns "are_tied" = some eI){k:Nat}{m:Int}{ts:List (Int×Int)}(h:GW m ts)(a:Int):qc p (k+2) "hood_of" [wb m ts,.int a]=.ok (tu (hd m ts a)):=by
 rw[zh hH];refine zL rfl rfl ?_;have h1:=h.lo;have h2:=h.hi;have hc:evE ⟨qc p (k+1),p.glb,p.sub,p.cat⟩ (.comp (.rng (.var 2)) [none,none,some 1,some 3] (.nm 1) (.or (.cmp .eq (.var 1) (.var 2)) (.val (.call "are_tied" (.cons (.var 3) (.cons (.var 2) (.cons (.var 1) .nil)))))) (.var 1)) [some (wb m ts),some (.int a),some (.int m),some (.tup (ts.map prD))]=.ok (.lst ((hd m ts a).map D.int)):=by
  rw[hd,<-ud,<-dG];refine g8 (c:=[some (.int a),some (.tup (ts.map prD))]) ?_ ?_ rfl ?_
  ·have:qV m=true:=by simp[qV];lia
   simp[KG.Z,this]
  ·simp[cn,SZ];lia
  ·intro x hx;rw[dG,aN]at hx;obtain⟨b,hb,rfl⟩:=hx;have e:qh .eq (.int b) (.int a)=.ok (b==a):=rfl;simp[KG.Z,e,om hA];by_cases q:b=a
   ·simp[q]
   ·simp[q];cases dj ts a b<;>simp
 simp[KG.Z,ff,hc,b1,seq?]
section
variable(B:Web p)(O:Hds p)
include O
theorem are_tied{k:Nat}(ts:List (Int×Int))(a b:Int):qc p (k+1) "are_tied" [.tup (ts.map prD),.int a,.int b]=.ok (.bl (dj ts a b)):=om O.are_tied ts a b
theorem hood_of{k:Nat}{m:Int}{ts:List (Int×Int)}(h:GW m ts)(a:Int):qc p (k+2) "hood_of" [wb m ts,.int a]=.ok (tu (hd m ts a)):=jN O.hood_of O.are_tied h a
include B
theorem hoods{k:Nat}{m:Int}{ts:List (Int×Int)}(h:GW m ts):qc p (k+5) "hoods" [wb m ts]=.ok (.tup ((rng m).map λa=>tu (hd m ts a))):=by
 rw[zh O.hoods];refine zL rfl rfl ?_;have h1:=h.lo;have h2:=h.hi;have hc:evE ⟨qc p (k+4),p.glb,p.sub,p.cat⟩ (.comp (.rng (.ix (.var 0) (.con (.int 0)))) [none,none,some 0] (.nm 1) .yes (.call "hood_of" (.cons (.var 2) (.cons (.var 1) .nil)))) [some (wb m ts)]=.ok (.lst ((rng m).map λa=>tu (hd m ts a))):=by
  rw[<-AS,<-dG];refine g8 (c:=[some (wb m ts)]) ?_ ?_ rfl ?_
  ·have:qV m=true:=by simp[qV];lia
   simp[KG.Z,this,ixD,atI,ixN]
  ·simp[cn,SZ];lia
  ·intro x hx;rw[dG,aN]at hx;obtain⟨b,hb,rfl⟩:=hx;simp[KG.Z,hood_of O h]
 simp[KG.Z,fO,need_web B h,hc,b1,seq?]
end
section
variable(O:Nbr p)
include O
end
end
theorem iS{α:Type}{w:W}{it:It}{cap:List (Option Nat)}{t:T}{elt:E}{τ c:Env}{l:List α}{f:α->D}(q:α->Bool)(g:α->D)(h:evI w it τ=.ok (l.map f))(hz:l.length<=SZ)(hc:dC cap τ=none::none::c)
  (hb:∀a∈l,evT w t (none::some (f a)::c)=.ok (q a)/\(q a=true->evE w elt (none::some (f a)::c)=.ok (g a))):evE w (.comp it cap (.nm 1) t elt) τ=.ok (.lst ((l.filter q).map g)):=by
 have key:∀(r:List α) (v:Option D) (acc:List D),(∀x∈r,x∈l)->bY (λx σ=>noEx ((store (.nm 1) x σ).bind λσ'=>(evT w t σ').bind λr=>if r then (evE w elt σ').bind λd=>.ok (σ',[d])else .ok (σ',[]))) (r.map f) (none::v::c) acc=.ok (acc++(r.filter q).map g):=by
  intro r
  induction r with
  |nil=>intro v acc _;simp[bY]
  |cons x r ih=>
   intro v acc hm;obtain⟨h1,h2⟩:=hb x (hm x aH);rw[aR,bY];have e:noEx ((store (.nm 1) (f x) (none::v::c)).bind λσ'=>(evT w t σ').bind λr=>if r then (evE w elt σ').bind λd=>.ok (σ',[d])else .ok (σ',[]))=.ok (none::some (f x)::c,if q x then [g x]else []):=by
    simp only[store,R.bind_ok,List.set_cons_succ,List.set_cons_zero,h1];cases hq:q x with
    |false=>rfl
    |true=>simp only[if_true,h2 hq,R.bind_ok];rfl
   rw[e];simp only[R.bind_ok];rw[ih (some (f x)) _ λy hy=>hm y (aI _ hy),List.filter_cons,List.append_assoc];cases q x<;>simp
 rw[qm,h];simp only[R.bind_ok];rw[if_neg (by simp;lia),hc,key l none [] λ_ h=>h]
 rfl
theorem mi{α:Type}{w:W}{it:It}{cap:List (Option Nat)}{elt:E}{τ c:Env}{l:List α}{f:α->D}(g:α->D)(h:evI w it τ=.ok (l.map f))(hz:l.length<=SZ)(hc:dC cap τ=none::none::c)
  (hb:∀a∈l,evE w elt (none::some (f a)::c)=.ok (g a)):evE w (.comp it cap (.nm 1) .yes elt) τ=.ok (.lst (l.map g)):=by
 have:=iS (t:=.yes) (elt:=elt) (f:=f) (λ_=>true) g h hz hc λa ha=>⟨rfl,λ_=>hb a ha⟩
 rwa[List.filter_eq_self.mpr (λ_ _=>rfl)]at this
theorem kC{w:W}{e:E}{τ:Env}{xs:List D}(h:evE w e τ=.ok (.lst xs)):evI w (.seq e) τ=.ok xs:=by rw[evI.eq_1,h];rfl
theorem k7{w:W}{e:E}{τ:Env}{xs:List D}(h:evE w e τ=.ok (.tup xs)):evI w (.seq e) τ=.ok xs:=by rw[evI.eq_1,h];rfl
theorem tY(xs:List D):b1 .len [.tup xs]=.ok (.int xs.length):=rfl
theorem ne_int(a b:Int):qh .ne (.int a) (.int b)=.ok (!decide (a=b)):=by
 show R.ok (!(a==b))=_
 congr 1
theorem mz(a b:Bool):qh .ne (.bl a) (.bl b)=.ok (!decide (a=b)):=by
 cases a<;>cases b<;>rfl
theorem ix0{α:Type}(f:α->D)(a:α)(r:List α):ixD (.lst ((a::r).map f)) (.int 0)=.ok (f a):=by
 have:=gy (xs:=(a::r).map f) (i:=0) (by simp);simp only[ixD];rw[show (0:Int)=((0:Nat):Int)from rfl,this];rfl
theorem xm(ns:List Int)(lo hi:Option Int):∃cs:List Int,cutD (ns.map D.int) lo hi=cs.map D.int/\cs.length<=ns.length:=by
 refine⟨(ns.drop _).take _,by rw[cutD,<-List.map_drop,<-List.map_take],by simp;lia⟩
theorem fx{α:Type}{f:α->D}{r:List D}{x:D}{l:List α}(e:x::r=l.map f):∃a l',l=a::l'/\x=f a/\r=l'.map f:=by
 cases l with
 |nil=>cases e
 |cons a l'=>rw[aR]at e;injection e with e1 e2;exact⟨a,l',rfl,e1,e2⟩
theorem jt{w:W}{f:Fn}{ds:List D}{τ:Env}{Q:D->Prop}(hl:ds.length=f.ps)(hτ:ds.map some++bN (f.N-f.ps) none=τ)(h:Ends (λ_=>False) Q (qa w f.body τ)):∃d,cC w f ds=.ok d/\Q d:=by
 rw[cC,if_pos hl,hτ];cases z:qa w f.body τ with
 |rt d=>rw[z]at h;exact⟨d,rfl,h⟩
 |nx _=>rw[z]at h;exact h.elim
 |_=>rw[z]at h;exact h.elim
noncomputable def gp:Fn:=⟨2,2,false,(.cons (.ite (.not (.val (.call "is_place" (.cons (.var 0) (.cons (.var 1) .nil))))) (.cons .unk .nil) .nil) .nil)⟩
noncomputable def BK:Fn:=⟨2,2,false,(.cons (.exp (.call "need_web" (.cons (.var 0) .nil))) (.cons (.exp (.call "need_some" (.cons (.var 0) (.cons (.var 1) .nil)))) (.cons (.ret (.call "spare_by" (.cons (.call "marks_of" (.cons (.call "hoods" (.cons (.var 0) .nil)) (.cons (.var 1) .nil))) (.cons (.var 1) .nil)))) .nil)))⟩
noncomputable def AE:Fn:=⟨2,2,false,(.cons (.ret (.bi .tuple (.cons (.comp (.seq (.var 1)) [none,none,some 0] (.nm 1) (.cmp .notin (.tup (.cons (.var 1) .nil)) (.var 2)) (.var 1)) .nil))) .nil)⟩
noncomputable def ei:Fn:=⟨2,5,false,(.cons (.set (.nm 2) (.lst (.cons (.var 1) .nil))) (.cons (.for (.tp [3,4]) (.seq (.ix (.var 0) (.con (.int 1)))) (.cons (.ite (.cmp .isin (.var 1) (.tup (.cons (.var 3) (.cons (.var 4) .nil)))) (.cons (.app 2 (.op .sub (.op .add (.var 3) (.var 4)) (.var 1))) .nil) .nil) .nil)) (.cons (.ret (.bi .tuple (.cons (.bi .sorted (.cons (.own 2) .nil)) .nil))) .nil)))⟩
noncomputable def fM:Fn:=⟨3,3,false,(.cons (.ret (.bi .tuple (.cons (.comp (.seq (.call "_law_hood" (.cons (.var 0) (.cons (.var 2) .nil)))) [none,none,some 1] (.nm 1) (.cmp .isin (.var 1) (.var 2)) (.var 1)) .nil))) .nil)⟩
noncomputable def eV:Fn:=⟨2,4,false,(.cons (.ite (.cmp .is (.var 1) (.con .non)) (.cons (.ret (.cmp .is (.var 0) (.con .non))) .nil) .nil) (.cons (.ite (.val (.isi (.var 1) (.ty "bool"))) (.cons (.ret (.and (.isi (.var 0) (.ty "bool")) (.cmp .eq (.var 0) (.var 1)))) .nil) .nil) (.cons (.ite (.val (.isi (.var 1) (.ty "int"))) (.cons (.ret (.and (.isi (.var 0) (.ty "int")) (.and (.not (.isi (.var 0) (.ty "bool"))) (.cmp .eq (.var 0) (.var 1))))) .nil) .nil) (.cons (.ite (.val (.isi (.var 1) (.ty "str"))) (.cons (.ret (.and (.isi (.var 0) (.ty "str")) (.cmp .eq (.var 0) (.var 1)))) .nil) .nil) (.cons (.ite (.or (.cmp .ne (.isi (.var 1) (.ty "list")) (.isi (.var 0) (.ty "list"))) (.cmp .ne (.isi (.var 1) (.ty "tuple")) (.isi (.var 0) (.ty "tuple")))) (.cons (.ret (.con (.bl false))) .nil) .nil) (.cons (.ite (.cmp .ne (.bi .len (.cons (.var 0) .nil)) (.bi .len (.cons (.var 1) .nil))) (.cons (.ret (.con (.bl false))) .nil) .nil) (.cons (.for (.tp [2,3]) (.zip (.var 0) (.var 1)) (.cons (.ite (.not (.val (.call "_law_same" (.cons (.var 2) (.cons (.var 3) .nil))))) (.cons (.ret (.con (.bl false))) .nil) .nil) .nil)) (.cons (.ret (.con (.bl true))) .nil))))))))⟩
noncomputable def Cn:Fn:=⟨1,3,false,(.cons (.set (.nm 1) (.lst .nil)) (.cons (.for (.nm 2) (.rng (.var 0)) (.cons (.set (.nm 1) (.op .add (.var 1) (.comp (.rng2 (.op .add (.var 2) (.con (.int 1))) (.var 0)) [none,none,some 2] (.nm 1) .yes (.tup (.cons (.var 2) (.cons (.var 1) .nil)))))) .nil)) (.cons (.ret (.var 1)) .nil)))⟩
noncomputable def pT:Fn:=⟨2,5,false,(.cons (.set (.nm 2) (.lst .nil)) (.cons (.for (.tp [3,4]) (.enum (.call "_law_pairs" (.cons (.var 0) .nil))) (.cons (.ite (.and (.cmp .eq (.op .mod (.var 1) (.con (.int 2))) (.con (.int 0))) (.cmp .eq (.op .mod (.op .shr (.op .fdiv (.var 1) (.con (.int 2))) (.var 3)) (.con (.int 2))) (.con (.int 1)))) (.cons (.app 2 (.var 4)) .nil) .nil) (.cons (.ite (.and (.cmp .eq (.op .mod (.var 1) (.con (.int 2))) (.con (.int 1))) (.cmp .lt (.op .mod (.call "_law_stir" (.cons (.var 1) (.cons (.var 3) .nil))) (.con (.int 5))) (.op .add (.con (.int 1)) (.op .mod (.op .fdiv (.var 1) (.con (.int 2))) (.con (.int 3)))))) (.cons (.app 2 (.var 4)) .nil) .nil) .nil))) (.cons (.ret (.tup (.cons (.var 0) (.cons (.bi .tuple (.cons (.own 2) .nil)) .nil)))) .nil)))⟩
noncomputable def Bo:Fn:=⟨2,2,false,(.cons (.ite (.cmp .eq (.op .mod (.var 1) (.con (.int 2))) (.con (.int 0))) (.cons (.ret (.bi .tuple (.cons (.comp (.rng (.var 0)) [none,none,some 1] (.nm 1) (.cmp .eq (.op .mod (.op .shr (.op .fdiv (.var 2) (.con (.int 2))) (.var 1)) (.con (.int 2))) (.con (.int 1))) (.var 1)) .nil))) .nil) .nil) (.cons (.ret (.bi .tuple (.cons (.comp (.rng (.var 0)) [none,none,some 1] (.nm 1) (.cmp .lt (.op .mod (.call "_law_stir" (.cons (.var 2) (.cons (.op .add (.var 1) (.con (.int 60))) .nil))) (.con (.int 4))) (.op .add (.con (.int 1)) (.op .mod (.op .fdiv (.var 2) (.con (.int 2))) (.con (.int 3))))) (.var 1)) .nil))) .nil))⟩
structure Lw(p:Pr):Prop where
 _law_stir:p.fns "_law_stir" = some zZ
 _law_pairs:p.fns "_law_pairs" = some Cn
 _law_web_by:p.fns "_law_web_by" = some pT
 _law_some_by:p.fns "_law_some_by" = some Bo
structure Lh(p:Pr):Prop where
 _law_hood:p.fns "_law_hood" = some ei
 _law_holders:p.fns "_law_holders" = some fM
section
variable{p:Pr}
theorem jW(a:D):qh .is a .non=.ok (el a):=by cases a<;>rfl
theorem same_int(hf:p.fns "_law_same" = some eV){k:Nat}(i:Int):qc p (k+1) "_law_same" [.int i,.int i]=.ok (.bl true):=by
 rw[zh hf];refine zL rfl rfl ?_;simp[KG.Z,eV,jW,el,eq_int]
theorem same_ints(hf:p.fns "_law_same" = some eV){k:Nat}(ns:List Int):qc p (k+2) "_law_same" [tu ns,tu ns]=.ok (.bl true):=by
 rw[zh hf];refine zL (τ:=[some (tu ns),some (tu ns),none,none]) rfl rfl ?_;refine bR (σ:=[some (tu ns),some (tu ns),none,none]) (by simp[KG.Z,jW,el]) ?_;refine bR (σ:=[some (tu ns),some (tu ns),none,none]) (by simp[KG.Z]) ?_;refine bR (σ:=[some (tu ns),some (tu ns),none,none]) (by simp[KG.Z]) ?_;refine bR (σ:=[some (tu ns),some (tu ns),none,none]) (by simp[KG.Z]) ?_;refine bR (σ:=[some (tu ns),some (tu ns),none,none]) (by simp[KG.Z,mz]) ?_;refine bR (σ:=[some (tu ns),some (tu ns),none,none]) (by simp[KG.Z,ne_int,b1,seq?]) ?_;refine ju (ds:=b_ (ns.map D.int) (ns.map D.int)) (λr σ=>∃(ms:List Int) (v u:Option D),r=b_ (ms.map D.int) (ms.map D.int)/\σ=[some (tu ns),some (tu ns),v,u]) (by simp[KG.Z]) ⟨ns,none,none,rfl,rfl⟩ ?_ ?_
 ·rintro x t σ ⟨ms,v,u,e,rfl⟩;cases ms with
  |nil=>cases e
  |cons y ms=>
   rw[aR,b_]at e;injection e with e1 e2
   subst e1 e2;exact⟨[some (tu ns),some (tu ns),some (.int y),some (.int y)],[some (tu ns),some (tu ns),some (.int y),some (.int y)],by simp[KG.Z],by simp[KG.Z,same_int hf],ms,_,_,rfl,rfl⟩
 ·rintro σ ⟨ms,v,u,e,rfl⟩;simp[KG.Z]
theorem lX{i x:Int}{l:List Int}:x∈insI i l↔x=i\/x∈l:=by
 induction l with
 |nil=>simp[insI]
 |cons a r ih=>
  rw[insI];split
  ·simp
  ·simp only[aF,ih];constructor<;>rintro(h|h|h)<;>simp[h]
theorem mm{x:Int}{l:List Int}:x∈sortI l↔x∈l:=by
 induction l with
 |nil=>simp[sortI]
 |cons a r ih=>rw[sortI,lX,ih,aF]
theorem ya{i:Int}{l:List Int}(h:l.Pairwise (· < ·))(hn:i∉l):(insI i l).Pairwise (· < ·):=by
 induction l with
 |nil=>simp[insI]
 |cons a r ih=>
  rw[List.pairwise_cons]at h;have h0:i≠a:=λe=>hn (e▸aH)
  rw[insI];split
  ·rename_i q
   rw[List.pairwise_cons];refine⟨λb hb=>?_,List.pairwise_cons.mpr h⟩;rcases aF.mp hb with rfl|hb
   ·lia
   ·have:=h.1 b hb;lia
  ·rename_i q
   rw[List.pairwise_cons];refine⟨λb hb=>?_,ih h.2 λe=>hn (aI _ e)⟩;rcases lX.mp hb with rfl|hb
   ·lia
   ·exact h.1 b hb
theorem Bj{l:List Int}(h:l.Nodup):(sortI l).Pairwise (· < ·):=by
 induction l with
 |nil=>simp[sortI]
 |cons a r ih=>
  rw[List.nodup_cons]at h;rw[sortI];exact ya (ih h.2) λe=>h.1 (mm.mp e)
theorem nO:∀{a b:List Int},a.Pairwise (· < ·)->b.Pairwise (· < ·)->(∀x,x∈a↔x∈b)->a=b
 | [],[],_,_,_=>rfl
 | [],y::_,_,_,h=>absurd ((h y).mpr aH) (by simp)
 |x::_,[],_,_,h=>absurd ((h x).mp aH) (by simp)
 |x::r,y::t,ha,hb,h=>by
  rw[List.pairwise_cons]at ha hb;have e:x=y:=by
   rcases aF.mp ((h x).mp aH)with q|q
   ·exact q
   ·rcases aF.mp ((h y).mpr aH)with q'|q'
    ·exact q'.symm
    ·have:=hb.1 x q;have:=ha.1 y q';lia
  subst e;rw[nO ha.2 hb.2 λz=>⟨λq=>by
   rcases aF.mp ((h z).mp (aI _ q))with e|e
   ·subst e;have:=ha.1 z q;lia
   ·exact e,λq=>by
   rcases aF.mp ((h z).mpr (aI _ q))with e|e
   ·subst e;have:=hb.1 z q;lia
   ·exact e⟩]
noncomputable def nbf(a:Int)(t:Int×Int):List Int:=if t.1=a\/t.2=a then [t.1+t.2-a]else []
theorem wz{m:Int}{ts:List (Int×Int)}(h:GW m ts){a:Int}(ha:0<=a/\a<m):sortI (a::ts.flatMap (nbf a))=hd m ts a:=by
 have nb_mem:∀x t,t∈ts->x∈nbf a t->(t.1=a/\t.2=x/\a<x\/t.2=a/\t.1=x/\x<a):=by
  intro x t ht hx;have:=h.ok t ht;rw[nbf]at hx;split at hx
  ·simp only[List.mem_singleton]at hx;lia
  ·cases hx
 apply nO
 ·apply Bj;rw[List.nodup_cons];constructor
  ·intro q;obtain⟨t,ht,q⟩:=List.mem_flatMap.mp q;have:=nb_mem a t ht q;lia
  ·rw[List.Nodup,List.pairwise_flatMap];constructor
   ·intro t ht;rw[nbf];split<;>simp
   ·refine List.Pairwise.imp_of_mem ?_ h.lt;intro s t hs ht q x hx y hy e;subst e;have h1:=nb_mem _ s hs hx;have h2:=nb_mem _ t ht hy;have:s=t:=Prod.ext (by lia) (by lia);subst this;rw[ltP]at q;simp at q
 ·exact(gQ m).sublist List.filter_sublist
 ·intro x;rw[mm,aF,List.mem_flatMap,hd,bZ,cP];simp only[bu,beq_iff_eq,dj,cW,aC];constructor
  ·rintro(rfl|⟨t,ht,q⟩)
   ·exact⟨ha,.inl rfl⟩
   ·have h1:=nb_mem x t ht q;have h2:=h.ok t ht;refine⟨by lia,.inr ⟨t,ht,?_⟩⟩;rw[mn,mx];split<;>split<;>lia
  ·rintro⟨hx,rfl|⟨t,ht,q1,q2⟩⟩
   ·exact .inl rfl
   ·by_cases e:x=a
    ·exact .inl e
    ·refine .inr ⟨t,ht,?_⟩;rw[mn]at q1;rw[mx]at q2;rw[nbf];split at q1<;>split at q2<;>first|lia|(rw[if_pos (by lia),List.mem_singleton];lia)
theorem fk{w:W}{i:Nat}{e:E}{τ:Env}{xs:List D}{d:D}(h:zG τ i=.ok (.lst xs))(he:evE w e τ=.ok d)(hz:xs.length<SZ):evS w (.app i e) τ=.nx (τ.set i (some (.lst (xs++[d])))):=by
 rw[bP,h];simp only[R.out_ok];rw[he];simp only[R.out_ok,hz,if_true]
theorem jx(hf:p.fns "_law_hood" = some ei){k:Nat}{m:Int}{ts:List (Int×Int)}(h:GW m ts){a:Int}(ha:0<=a/\a<m):qc p (k+1) "_law_hood" [wb m ts,.int a]=.ok (tu (hd m ts a)):=by
 rw[zh hf];have hl:=h.len;refine zL (τ:=[some (wb m ts),some (.int a),none,none,none]) rfl rfl ?_;refine bR (σ:=[some (wb m ts),some (.int a),some (.lst [.int a]),none,none]) (by simp[KG.Z]) ?_;refine ju (ds:=ts.map prD) (λr σ=>∃(ps:List (Int×Int)) (ns:List Int) (v u:Option D),r=ps.map prD/\ns++ps.flatMap (nbf a)=a::ts.flatMap (nbf a)/\ns.length+ps.length<=29/\σ=[some (wb m ts),some (.int a),some (.lst (ns.map D.int)),v,u]) ?_ ⟨ts,[a],none,none,rfl,rfl,by simp;lia,rfl⟩ ?_ ?_
 ·have e:ixD (wb m ts) (.int 1)=.ok (.tup (ts.map prD)):=rfl;simp[KG.Z,e,seq?]
 ·rintro x t σ ⟨ps,ns,v,u,e,e',hz,rfl⟩;cases ps with
  |nil=>cases e
  |cons y ps=>
   rw[aR]at e;injection e with e1 e2
   subst e1 e2;have hin:=pA [y.1,y.2] a;have hin':qh .isin (.int a) (.tup [.int y.1,.int y.2])=.ok (y.1==a||(y.2==a||false)):=hin;have hs:ns.length<SZ:=by simp at hz;simp[SZ];lia
   by_cases q:y.1=a\/y.2=a
   ·refine⟨[some (wb m ts),some (.int a),some (.lst (ns.map D.int)),some (.int y.1),some (.int y.2)],[some (wb m ts),some (.int a),some (.lst ((ns++[y.1+y.2-a]).map D.int)),some (.int y.1),some (.int y.2)],rfl,?_,ps,ns++[y.1+y.2-a],_,_,rfl,?_,?_,rfl⟩
    ·simp[KG.Z,hin',op2,hs];rw[if_pos q]
    ·rw[<-e',dk,nbf,if_pos q];simp
    ·simp at hz ⊢;lia
   ·refine⟨[some (wb m ts),some (.int a),some (.lst (ns.map D.int)),some (.int y.1),some (.int y.2)],[some (wb m ts),some (.int a),some (.lst (ns.map D.int)),some (.int y.1),some (.int y.2)],rfl,?_,ps,ns,_,_,rfl,?_,?_,rfl⟩
    ·have q1:¬ y.1=a:=λe=>q (.inl e)
     have q2:¬ y.2=a:=λe=>q (.inr e)
     simp[KG.Z,hin',q1,q2]
    ·rw[<-e',dk,nbf,if_neg q];rfl
    ·simp at hz ⊢;lia
 ·rintro σ ⟨ps,ns,v,u,e,e',hz,rfl⟩;cases ps with
  |cons y ps=>cases e
  |nil=>
   simp only[List.flatMap_nil,List.append_nil]at e';subst e';have e1:=ints_map (a::ts.flatMap (nbf a));have e2:=wz h ha;have e3:b1 .sorted [.lst ((a::ts.flatMap (nbf a)).map D.int)]=.ok (.lst ((hd m ts a).map D.int)):=by
    rw[mC,if_pos (by simp at hz ⊢;lia),e1];simp only;rw[e2]
   have e4:b1 .tuple [.lst ((hd m ts a).map D.int)]=.ok (tu (hd m ts a)):=rfl;simp only[aR]at e3;simp[KG.Z,e3,e4]
theorem GS.none{m:Int}:GS m []:=⟨List.Pairwise.nil,by simp,by simp⟩
end
abbrev L(M c:Int)(m:Int)(ts:List (Int×Int))(b a dr ro:Option D):Env:=[some (.int c),some (.int M),some (.int m),some (.int (c/M)),some (.int (c/M%6)),some (.lst (ts.map prD)),b,a,dr,ro]
noncomputable def pP:S:=(.set (.nm 8) (.op .band (.op .shr (.op .fdiv (.var 3) (.con (.int 6))) (.op .add (.op .fdiv (.op .mul (.var 6) (.op .sub (.var 6) (.con (.int 1)))) (.con (.int 2))) (.var 7))) (.con (.int 1))))
noncomputable def sI:S:=(.ite (.cmp .eq (.var 4) (.con (.int 3))) (.cons (.set (.nm 8) (.op .fdiv (.op .mod (.call "_law_stir" (.cons (.var 0) (.cons (.op .add (.op .mul (.con (.int 8)) (.var 7)) (.var 6)) .nil))) (.con (.int 3))) (.con (.int 2)))) .nil) .nil)
noncomputable def B2:S:=(.ite (.cmp .eq (.var 4) (.con (.int 4))) (.cons (.set (.nm 8) (.op .fdiv (.op .add (.op .mod (.call "_law_stir" (.cons (.var 0) (.cons (.op .add (.op .mul (.con (.int 8)) (.var 7)) (.var 6)) .nil))) (.con (.int 4))) (.con (.int 2))) (.con (.int 3)))) .nil) .nil)
noncomputable def x8:S:=(.ite (.cmp .eq (.var 8) (.con (.int 1))) (.cons (.app 5 (.tup (.cons (.var 7) (.cons (.var 6) .nil)))) .nil) .nil)
abbrev LQ(M c:Int)(n:Int)(ts:List (Int×Int))(b a:Int):Env->Prop:=λσ=>∃(i:Int) (v4:Option D),σ=L M c n ts (some (.int b)) (some (.int a)) (some (.int i)) v4
section
variable{p:Pr}{k:Nat}{M c:Int}{n:Int}{ts:List (Int×Int)}{a b:Int}{i:Int}{v3 v4:Option D}{Q:D->Prop}
theorem w0(ha:0<=a)(hb0:0<=b)(hb:b<8):Ends (LQ M c n ts b a) Q (evS (wAt p (k+1)) pP (L M c n ts (some (.int b)) (some (.int a)) v3 v4)):=by
 have hbs:small b=true:=by simp[small];lia
 have hsh:0<=b * (b-1)/2+a:=by
  have:0<=b * (b-1):=by
   by_cases q:b=0
   ·rw[q];decide
   ·exact Int.mul_nonneg (by lia) (by lia)
  lia
 rw[pP];simp[KG.Z,op2,hbs,hsh];exact⟨_,_,rfl⟩
theorem w1(B:jf p):Ends (LQ M c n ts b a) Q (evS (wAt p (k+1)) sI (L M c n ts (some (.int b)) (some (.int a)) (some (.int i)) v4)):=by
 have s8:small 8=true:=by decide
 refine kY (v:=decide (c/M%6=3)) (by simp[KG.Z,eq_int]) (λ_=>iY (K:=LQ M c n ts b a) ?_ λ_ h=>zx h) λ_=>zx ⟨_,_,rfl⟩
 simp[KG.Z,op2,s8,ja B._law_stir];exact⟨_,_,rfl⟩
theorem w2(B:jf p):Ends (LQ M c n ts b a) Q (evS (wAt p (k+1)) B2 (L M c n ts (some (.int b)) (some (.int a)) (some (.int i)) v4)):=by
 have s8:small 8=true:=by decide
 refine kY (v:=decide (c/M%6=4)) (by simp[KG.Z,eq_int]) (λ_=>iY (K:=LQ M c n ts b a) ?_ λ_ h=>zx h) λ_=>zx ⟨_,_,rfl⟩
 simp[KG.Z,op2,s8,ja B._law_stir];exact⟨_,_,rfl⟩
theorem w4(hl:ts.length<SZ):Ends (λσ=>∃(us:List (Int×Int)) (v4:Option D),(us=ts\/us=ts++[(a,b)])/\σ=L M c n us (some (.int b)) (some (.int a)) (some (.int i)) v4) Q (evS (wAt p (k+1)) x8 (L M c n ts (some (.int b)) (some (.int a)) (some (.int i)) v4)):=by
 refine kY (v:=decide (i=1)) (by simp[KG.Z,eq_int]) (λ_=>?_) λ_=>zx ⟨ts,_,.inl rfl,rfl⟩
 refine zq (σ:=L M c n (ts++[(a,b)]) (some (.int b)) (some (.int a)) (some (.int i)) v4) ?_ (zx ⟨_,_,.inr rfl,rfl⟩);simp[KG.Z,hl]
 rfl
end
end KG
namespace KG
open EV
open PySem (Str Builtin.bitAnd Builtin.bitOr)
open L2 (atI ixN ltP)
noncomputable def bs(m:Int)(n:Nat):List Int:=(rng m).filter λi=>n.testBit i.toNat
noncomputable def subs:Nat->List (List Int)
 | 0=>[[]]
 |j+1=>subs j++(subs j).map (· ++ [(j:Int)])
section
variable{p:Pr}(B:Base p)
include B
end
end KG
namespace KG
open EV
open PySem (Str)
open L2 (atI ixN ltP)
section
variable{p:Pr}(B:Base p)
include B
end
abbrev ln(N:List Nat):D:=.lst (N.map λ(x:Nat)=>D.int (x:Int))
theorem xb(ts:List (Int×Int))(a b:Int):dj ts a b=dj ts b a:=by
 rw[dj,dj]
 congr 1;funext t
 rw[Bool.eq_iff_iff];simp only[mn,mx,aC,beq_iff_eq];split<;>split<;>lia
theorem B0{m:Int}{ts:List (Int×Int)}{a b:Int}:b∈hd m ts a↔(0<=b/\b<m)/\(b=a\/dj ts a b=true):=by
 rw[hd,bZ,cP];simp
noncomputable def hz(m:Int)(ts:List (Int×Int))(s:List Int):Bool:=(rng m).all λa=>!(mk m ts s a).isEmpty
noncomputable def hl(m:Int)(ts:List (Int×Int)):List (List Int):=(nQ (subs m.toNat)).filter (hz m ts)
structure Sp(p:Pr):Prop where
 spare:p.fns "spare" = some BK
 spare_by:p.fns "spare_by" = some AE
noncomputable def ow(m:Int)(ts:List (Int×Int))(s:List Int)(x:Int):List Int:=(rng m).filter λa=>decide (mk m ts s a=[x])
noncomputable def sp(m:Int)(ts:List (Int×Int))(s:List Int):List Int:=s.filter λx=>decide (ow m ts s x=[])
section
variable{p:Pr}(B:Web p)(O:Nbr p)(S:fZ p)
include B O S
end
noncomputable def lsm(L:List (List Int)):Int:=match L.map (λs=>(s.length:Int))with
 | []=>0
 |x::r=>oX false x r
noncomputable def few(L:List (List Int)):List (List Int):=L.filter λs=>decide ((s.length:Int)=lsm L)
section
variable{w:W}{τ:Env}{L:List (List Int)}
end
section
variable{p:Pr}(B:Web p)
include B
end
end KG
namespace K41
open PySem PySem.Spec PyProof.Rows L2 EV
noncomputable def top(i:Nat):Stmt:=PySem.Challenge.pw_holdplaces_k41_steps_from_the_ends_in.main.body.getD i (.Pass ⟨0,0,0,0⟩)
abbrev iz:Fn:=KG.iz
abbrev gH:Fn:=KG.gH
abbrev gD:Fn:=KG.gD
abbrev hV:Fn:=KG.hV
abbrev gX:Fn:=KG.gX
abbrev gR:Fn:=KG.gR
abbrev gP:Fn:=KG.gP
abbrev eM:Fn:=KG.eM
abbrev gp:Fn:=KG.gp
abbrev fO:Fn:=KG.fO
abbrev ff:Fn:=KG.ff
abbrev eI:Fn:=KG.eI
noncomputable def fU:Fn:=⟨2,6,false,(.cons (.set (.nm 2) (.dic1 (.var 1) (.con (.int 0)))) (.cons (.set (.nm 3) (.lst (.cons (.var 1) .nil))) (.cons (.while (.val (.own 3)) (.cons (.pop0 4 3) (.cons (.for (.nm 5) (.seq (.call "hood_of" (.cons (.var 0) (.cons (.var 4) .nil)))) (.cons (.ite (.cmp .notin (.var 5) (.own 2)) (.cons (.seti 2 (.var 5) (.op .add (.ix (.own 2) (.var 4)) (.con (.int 1)))) (.cons (.app 3 (.var 5)) .nil)) .nil) .nil)) .nil))) (.cons (.ret (.own 2)) .nil))))⟩
noncomputable def fX:Fn:=⟨1,5,true,(.cons (.exp (.call "need_web" (.cons (.var 0) .nil))) (.cons (.set (.nm 1) (.lst .nil)) (.cons (.set (.nm 2) .dic) (.cons (.for (.nm 3) (.rng (.ix (.var 0) (.con (.int 0)))) (.cons (.ite (.cmp .notin (.var 3) (.own 2)) (.cons (.set (.nm 4) (.call "ways_from" (.cons (.var 0) (.cons (.var 3) .nil)))) (.cons (.dupd 2 (.var 4)) (.cons (.app 1 (.bi .tuple (.cons (.bi .sorted (.cons (.var 4) .nil)) .nil))) .nil))) .nil) .nil)) (.cons (.ret (.own 1)) .nil)))))⟩
noncomputable def ke:Fn:=⟨1,3,false,(.cons (.exp (.call "need_web" (.cons (.var 0) .nil))) (.cons (.set (.tp [1,2]) (.var 0)) (.cons (.ret (.and (.cmp .eq (.bi .len (.cons (.call "pieces" (.cons (.var 0) .nil)) .nil)) (.con (.int 1))) (.cmp .eq (.bi .len (.cons (.var 2) .nil)) (.op .sub (.var 1) (.con (.int 1)))))) .nil)))⟩
noncomputable def iT:Fn:=⟨1,1,false,(.cons (.ite (.not (.val (.call "is_tree" (.cons (.var 0) .nil)))) (.cons .unk .nil) .nil) .nil)⟩
noncomputable def jD:Fn:=⟨2,3,false,(.cons (.exp (.call "need_tree" (.cons (.var 0) .nil))) (.cons (.exp (.call "need_place" (.cons (.var 0) (.cons (.var 1) .nil)))) (.cons (.set (.nm 2) (.call "ways_from" (.cons (.var 0) (.cons (.var 1) .nil)))) (.cons (.ret (.bi .tuple (.cons (.comp (.rng (.ix (.var 0) (.con (.int 0)))) [none,none,some 2,some 0] (.nm 1) .yes (.call "upper" (.cons (.var 3) (.cons (.var 2) (.cons (.var 1) .nil))))) .nil))) .nil))))⟩
noncomputable def kZ:Fn:=⟨3,4,false,(.cons (.set (.nm 3) (.comp (.seq (.call "hood_of" (.cons (.var 0) (.cons (.var 2) .nil)))) [none,none,some 2,some 1] (.nm 1) (.cmp .lt (.ix (.var 3) (.var 1)) (.ix (.var 3) (.var 2))) (.var 1))) (.cons (.ret (.ite (.val (.var 3)) (.ix (.var 3) (.con (.int 0))) (.neg (.con (.int 1))))) .nil))⟩
noncomputable def kL:Fn:=⟨2,3,false,(.cons (.exp (.call "need_tree" (.cons (.var 0) .nil))) (.cons (.exp (.call "need_place" (.cons (.var 0) (.cons (.var 1) .nil)))) (.cons (.set (.nm 2) (.call "ways_from" (.cons (.var 0) (.cons (.var 1) .nil)))) (.cons (.ret (.comp (.seq (.bi .sorted (.cons (.comp (.rng (.ix (.var 0) (.con (.int 0)))) [none,none,some 2] (.nm 1) .yes (.tup (.cons (.neg (.ix (.var 2) (.var 1))) (.cons (.var 1) .nil)))) .nil))) [none,none,none] (.tp [1,2]) .yes (.var 2))) .nil))))⟩
noncomputable def jl:Fn:=⟨2,8,true,(.cons (.set (.nm 2) (.call "above" (.cons (.var 0) (.cons (.var 1) .nil)))) (.cons (.set (.nm 3) (.call "hoods" (.cons (.var 0) .nil))) (.cons (.set (.nm 4) (.lst .nil)) (.cons (.set (.nm 5) (.lst .nil)) (.cons (.for (.nm 6) (.seq (.call "from_far" (.cons (.var 0) (.cons (.var 1) .nil)))) (.cons (.ite (.cmp .notin (.var 6) (.own 4)) (.cons (.set (.nm 7) (.ite (.cmp .eq (.var 6) (.var 1)) (.var 1) (.ix (.var 2) (.var 6)))) (.cons (.app 5 (.tup (.cons (.var 6) (.cons (.var 7) .nil)))) (.cons (.ext 4 (.ix (.var 3) (.var 7))) .nil))) .nil) .nil)) (.cons (.ret (.own 5)) .nil))))))⟩
abbrev ei:Fn:=KG.ei
abbrev fM:Fn:=KG.fM
abbrev zZ:Fn:=KG.zZ
noncomputable def iZ:Fn:=⟨2,6,false,(.cons (.set (.nm 2) (.lst .nil)) (.cons (.for (.nm 3) (.rng (.var 0)) (.cons (.ins 2 (.op .mod (.call "_law_stir" (.cons (.var 1) (.cons (.op .add (.var 3) (.con (.int 40))) .nil))) (.op .add (.var 3) (.con (.int 1)))) (.var 3)) .nil)) (.cons (.set (.nm 4) (.lst .nil)) (.cons (.for (.nm 5) (.rng2 (.con (.int 1)) (.var 0)) (.cons (.app 4 (.bi .tuple (.cons (.bi .sorted (.cons (.lst (.cons (.ix (.own 2) (.var 5)) (.cons (.ix (.own 2) (.op .mod (.call "_law_stir" (.cons (.var 1) (.cons (.var 5) .nil))) (.var 5))) .nil))) .nil)) .nil))) .nil)) (.cons (.ret (.tup (.cons (.var 0) (.cons (.bi .tuple (.cons (.bi .sorted (.cons (.own 4) .nil)) .nil)) .nil)))) .nil)))))⟩
abbrev eV:Fn:=KG.eV
noncomputable def ku:Fn:=⟨2,6,false,(.cons (.set (.nm 2) (.dic1 (.var 1) (.con (.int 0)))) (.cons (.for (.nm 3) (.rng (.ix (.var 0) (.con (.int 0)))) (.cons (.for (.nm 4) (.seq (.lsd (.own 2))) (.cons (.for (.nm 5) (.seq (.call "_law_hood" (.cons (.var 0) (.cons (.var 4) .nil)))) (.cons (.ite (.cmp .notin (.var 5) (.own 2)) (.cons (.seti 2 (.var 5) (.op .add (.ix (.own 2) (.var 4)) (.con (.int 1)))) .nil) .nil) .nil)) .nil)) .nil)) (.cons (.ret (.own 2)) .nil)))⟩
noncomputable def iH:Fn:=⟨2,8,false,(.cons (.set (.nm 2) (.call "_law_ways" (.cons (.var 0) (.cons (.var 1) .nil)))) (.cons (.set (.nm 3) (.lst .nil)) (.cons (.set (.nm 4) (.lst .nil)) (.cons (.for (.nm 5) (.rrev (.ix (.var 0) (.con (.int 0)))) (.cons (.for (.nm 6) (.rng (.ix (.var 0) (.con (.int 0)))) (.cons (.ite (.and (.cmp .eq (.ix (.var 2) (.var 6)) (.var 5)) (.cmp .eq (.callo "_law_holders" (.cons (.var 0) (.cons (.own 4) (.cons (.var 6) .nil)))) (.tup .nil))) (.cons (.set (.nm 7) (.comp (.seq (.call "_law_hood" (.cons (.var 0) (.cons (.var 6) .nil)))) [none,none,some 5,some 2] (.nm 1) (.cmp .eq (.ix (.var 3) (.var 1)) (.op .sub (.var 2) (.con (.int 1)))) (.var 1))) (.cons (.app 4 (.ix (.op .add (.var 7) (.lst (.cons (.var 6) .nil))) (.con (.int 0)))) (.cons (.app 3 (.tup (.cons (.var 6) (.cons (.ix (.own 4) (.neg (.con (.int 1)))) .nil)))) .nil))) .nil) .nil)) .nil)) (.cons (.ret (.own 3)) .nil)))))⟩
noncomputable def fC:Fn:=⟨1,7,false,(.cons (.for (.nm 1) (.seq (.op .add (.sl (.var 0) .none (.some (.con (.int 8)))) (.lst (.cons (.con (.int 0)) (.cons (.con (.int 3)) (.cons (.con (.int 129)) .nil)))))) (.cons (.set (.nm 2) (.op .add (.con (.int 1)) (.op .mod (.op .fdiv (.var 1) (.con (.int 64))) (.con (.int 8))))) (.cons (.set (.nm 3) (.call "_law_tree_by" (.cons (.var 2) (.cons (.op .fdiv (.var 1) (.con (.int 512))) .nil)))) (.cons (.for (.nm 4) (.rng (.var 2)) (.cons (.for (.nm 5) (.rng (.con (.int 2))) (.cons (.set (.nm 6) (.call "steps" (.cons (.var 3) (.cons (.var 4) .nil)))) (.cons (.ite (.not (.val (.callo "_law_same" (.cons (.own 6) (.cons (.call "_law_due" (.cons (.var 3) (.cons (.var 4) .nil))) .nil))))) (.cons (.ret (.con (.bl false))) .nil) .nil) (.cons (.app 6 (.tup (.cons (.con (.int 0)) (.cons (.con (.int 0)) .nil)))) .nil)))) .nil)) .nil)))) (.cons (.ret (.and (.cmp .eq (.call "steps" (.cons (.tup (.cons (.con (.int 2)) (.cons (.tup (.cons (.tup (.cons (.con (.int 0)) (.cons (.con (.int 1)) .nil))) .nil)) .nil))) (.cons (.con (.int 0)) .nil))) (.lst (.cons (.tup (.cons (.con (.int 1)) (.cons (.con (.int 0)) .nil))) .nil))) (.cmp .eq (.call "steps" (.cons (.tup (.cons (.con (.int 1)) (.cons (.tup .nil) .nil))) (.cons (.con (.int 0)) .nil))) (.lst (.cons (.tup (.cons (.con (.int 0)) (.cons (.con (.int 0)) .nil))) .nil))))) .nil))⟩
abbrev yH:Ent:=⟨"is_whole",top 6,[],false,iz⟩
abbrev sy:Ent:=⟨"is_between",top 7,[],false,gH⟩
abbrev rm:Ent:=⟨"is_pair",top 8,[],false,gD⟩
abbrev vB:Ent:=⟨"rises",top 9,[],false,hV⟩
abbrev CF:Ent:=⟨"is_web",top 12,[],false,gX⟩
abbrev vo:Ent:=⟨"is_tie",top 13,[],false,gR⟩
abbrev Cs:Ent:=⟨"need_web",top 14,[],false,gP⟩
abbrev rT:Ent:=⟨"is_place",top 15,[],false,eM⟩
abbrev AY:Ent:=⟨"need_place",top 16,[],false,gp⟩
abbrev yj:Ent:=⟨"hoods",top 17,[],false,fO⟩
abbrev xj:Ent:=⟨"hood_of",top 18,[],false,ff⟩
abbrev uh:Ent:=⟨"are_tied",top 19,[],false,eI⟩
abbrev AL:Ent:=⟨"ways_from",top 20,[aG "ways",aG "waiting"],false,fU⟩
abbrev Bp:Ent:=⟨"pieces",top 21,[aG "seen",aG "found"],true,fX⟩
abbrev yR:Ent:=⟨"is_tree",top 22,[],false,ke⟩
abbrev tG:Ent:=⟨"need_tree",top 24,[],false,iT⟩
abbrev t6:Ent:=⟨"above",top 25,[],false,jD⟩
abbrev xu:Ent:=⟨"upper",top 26,[],false,kZ⟩
abbrev y8:Ent:=⟨"from_far",top 27,[],false,kL⟩
abbrev vi:Ent:=⟨"steps",top 28,[aG "told",aG "held"],true,jl⟩
abbrev tU:Ent:=⟨"_law_hood",top 30,[aG "_law_found"],false,ei⟩
abbrev wL:Ent:=⟨"_law_holders",top 31,[],false,fM⟩
abbrev xy:Ent:=⟨"_law_stir",top 32,[],false,zZ⟩
abbrev AI:Ent:=⟨"_law_tree_by",top 33,[aG "_law_order",aG "_law_ties"],false,iZ⟩
abbrev sO:Ent:=⟨"_law_same",top 34,[],false,eV⟩
abbrev rp:Ent:=⟨"_law_ways",top 35,[aG "_law_found"],false,ku⟩
abbrev wF:Ent:=⟨"_law_due",top 36,[aG "_law_some",aG "_law_found"],false,iH⟩
abbrev fS:Ent:=⟨"law",top 37,[aG "_law_found"],false,fC⟩
abbrev tab:List Ent:=[yH,sy,rm,vB,CF,vo,Cs,rT,AY,yj,xj,uh,AL,Bp,yR,tG,t6,xu,y8,vi,tU,wL,xy,AI,sO,rp,wF,fS]
abbrev oth:List (Str×GK):=[(aG "NoWeb",GK.exc),(aG "NoPlace",GK.exc),(aG "NotTree",GK.exc),(aG "MOST",GK.val),(aG "len",GK.bi .len),(aG "tuple",GK.ty "tuple" (some .tuple)),(aG "list",GK.ty "list" (some .list)),(aG "int",GK.ty "int" (some .int)),(aG "bool",GK.ty "bool" (some .bool)),(aG "str",GK.ty "str" none),(aG "sorted",GK.bi .sorted),(aG "all",GK.bi .all),(aG "min",GK.bi .min),(aG "max",GK.bi .max),(aG "range",GK.rng),(aG "reversed",GK.rvd),(aG "zip",GK.zip),(aG "isinstance",GK.isi)]
abbrev vals:List (Str×D):=[(aG "MOST",(.int 8))]
abbrev G:List (Str×GK):=tab.map (λe=>(e.x,GK.fn e.fr))++oth
abbrev cH:List (Str×Str):=[]
abbrev us:List Ent:=[]
abbrev subs:List ((Str×Cl)×Bool):=[]
abbrev p:Pr:=prT tab vals cH subs
theorem Bi:p.fns "law" = some fC:=by kernel_rfl
end K41
namespace KG
open EV
open PySem (Str)
open L2 (atI ixN ltP)
section
variable(m:Int)(ts:List (Int×Int))
noncomputable def fr(h:List Int)(a:Int):Bool:=decide (((hd m ts a).filter λx=>h.any λt=>t==x)=[])
end
section
variable{m:Int}{ts:List (Int×Int)}
end
noncomputable def both(s:List Int)(t:Int×Int):Bool:=(s.any λx=>x==t.1)&&(s.any λx=>x==t.2)
theorem pZ(ns:List Int)(a:Int):qh .isin (.int a) (.lst (ns.map D.int))=.ok (ns.any λt=>t==a):=by
 have:=pA ns a;simp only[qh,seq?]at this ⊢;exact this
section
variable{m:Int}{ts:List (Int×Int)}
end
theorem xv{p:Pr}(hf:p.fns "_law_same" = some eV){k:Nat}(L:List (List Int)):qc p (k+3) "_law_same" [.lst (L.map tu),.lst (L.map tu)]=.ok (.bl true):=by
 rw[zh hf];have i1:cb ⟨qc p (k+2),p.glb,p.sub,p.cat⟩ (.lst (L.map tu)) (.ty "list")=.ok (.bl true):=rfl;have i2:cb ⟨qc p (k+2),p.glb,p.sub,p.cat⟩ (.lst (L.map tu)) (.ty "bool")=.ok (.bl false):=rfl;have i3:cb ⟨qc p (k+2),p.glb,p.sub,p.cat⟩ (.lst (L.map tu)) (.ty "int")=.ok (.bl false):=rfl;have i4:cb ⟨qc p (k+2),p.glb,p.sub,p.cat⟩ (.lst (L.map tu)) (.ty "str")=.ok (.bl false):=rfl;have i5:cb ⟨qc p (k+2),p.glb,p.sub,p.cat⟩ (.lst (L.map tu)) (.ty "tuple")=.ok (.bl false):=rfl;refine zL (τ:=[some (.lst (L.map tu)),some (.lst (L.map tu)),none,none]) rfl rfl ?_;refine bR (σ:=[some (.lst (L.map tu)),some (.lst (L.map tu)),none,none]) (by simp[KG.Z,jW,el]) ?_;refine bR (σ:=[some (.lst (L.map tu)),some (.lst (L.map tu)),none,none]) (by simp[KG.Z,i1,i2,i3,i4,i5]) ?_;refine bR (σ:=[some (.lst (L.map tu)),some (.lst (L.map tu)),none,none]) (by simp[KG.Z,i1,i2,i3,i4,i5]) ?_;refine bR (σ:=[some (.lst (L.map tu)),some (.lst (L.map tu)),none,none]) (by simp[KG.Z,i1,i2,i3,i4,i5]) ?_;refine bR (σ:=[some (.lst (L.map tu)),some (.lst (L.map tu)),none,none]) (by simp[KG.Z,mz,i1,i2,i3,i4,i5]) ?_;refine bR (σ:=[some (.lst (L.map tu)),some (.lst (L.map tu)),none,none]) (by simp[KG.Z,ne_int,b1,seq?]) ?_;refine ju (ds:=b_ (L.map tu) (L.map tu)) (λr σ=>∃(M:List (List Int)) (v u:Option D),r=b_ (M.map tu) (M.map tu)/\σ=[some (.lst (L.map tu)),some (.lst (L.map tu)),v,u]) (by simp[KG.Z,i1,i2,i3,i4,i5]) ⟨L,none,none,rfl,rfl⟩ ?_ ?_
 ·rintro x t σ ⟨M,v,u,e,rfl⟩;cases M with
  |nil=>cases e
  |cons y M=>
   rw[aR,b_]at e;injection e with e1 e2
   subst e1 e2;have q:=same_ints hf (k:=k) y;refine⟨[some (.lst (L.map tu)),some (.lst (L.map tu)),some (tu y),some (tu y)],[some (.lst (L.map tu)),some (.lst (L.map tu)),some (tu y),some (tu y)],by simp[KG.Z],?_,M,_,_,rfl,rfl⟩;generalize tu y=TY at *;generalize L.map tu=LT at *;simp[KG.Z,q]
 ·rintro σ ⟨M,v,u,e,rfl⟩;simp[KG.Z]
noncomputable def uT:Fn:=⟨3,3,false,(.cons (.exp (.call "need_web" (.cons (.var 0) .nil))) (.cons (.exp (.call "need_some" (.cons (.var 0) (.cons (.var 1) .nil)))) (.cons (.exp (.call "need_place" (.cons (.var 0) (.cons (.var 2) .nil)))) (.cons (.ite (.cmp .notin (.var 2) (.var 1)) (.cons .unk .nil) .nil) (.cons (.ret (.call "places_marked" (.cons (.call "marks_of" (.cons (.call "hoods" (.cons (.var 0) .nil)) (.cons (.var 1) .nil))) (.cons (.tup (.cons (.var 2) .nil)) .nil)))) .nil)))))⟩
noncomputable def v8:Fn:=⟨2,4,false,(.cons (.exp (.call "need_web" (.cons (.var 0) .nil))) (.cons (.exp (.call "need_some" (.cons (.var 0) (.cons (.var 1) .nil)))) (.cons (.exp (.call "need_all" (.cons (.var 0) (.cons (.var 1) .nil)))) (.cons (.set (.nm 2) (.var 1)) (.cons (.set (.nm 3) (.call "spare" (.cons (.var 0) (.cons (.var 2) .nil)))) (.cons (.while (.val (.var 3)) (.cons (.set (.nm 2) (.call "without" (.cons (.var 2) (.cons (.ix (.var 3) (.neg (.con (.int 1)))) .nil)))) (.cons (.set (.nm 3) (.call "spare" (.cons (.var 0) (.cons (.var 2) .nil)))) .nil))) (.cons (.ret (.var 2)) .nil)))))))⟩
noncomputable def Ai:Fn:=⟨2,2,false,(.cons (.ret (.bi .tuple (.cons (.comp (.seq (.var 0)) [none,none,some 1] (.nm 1) (.cmp .ne (.var 1) (.var 2)) (.var 1)) .nil))) .nil)⟩
structure Ld(p:Pr):Prop where
 leaned:p.fns "leaned" = some v8
 without:p.fns "without" = some Ai
structure Ln(p:Pr):Prop extends Ld p where
 own:p.fns "own" = some uT
 need_place:p.fns "need_place" = some gp
section
variable{m:Int}{ts:List (Int×Int)}
end
section
variable{p:Pr}(B:Web p)(O:Nbr p)(S:fZ p)
include B O S
end
end KG
namespace KG
open EV
open PySem (Str)
open L2 (atI ixN ltP atK cm cL)
noncomputable def inR(m:Int)(ts:List (Int×Int))(r:Int):Nat->Int->Prop
 | 0,v=>v=r
 |k+1,v=>inR m ts r k v\/∃u,inR m ts r k u/\v∈hd m ts u
noncomputable def bC(m:Int)(ts:List (Int×Int))(r v d:Int):Prop:=∃k:Nat,d=k/\inR m ts r k v/\∀j,j<k->¬ inR m ts r j v
noncomputable def Key(kvs:List (Int×Int))(v:Int):Prop:=∃d,(v,d)∈kvs
section
variable{m:Int}{ts:List (Int×Int)}{r:Int}
theorem oV{j k:Nat}{v:Int}(h:j<=k)(q:inR m ts r j v):inR m ts r k v:=by
 induction k with
 |zero=>
  have:j=0:=by lia
  subst this;exact q
 |succ k ih=>
  by_cases e:j=k+1
  ·subst e;exact q
  ·exact .inl (ih (by lia))
theorem bC.uniq{v d e:Int}(h:bC m ts r v d)(h':bC m ts r v e):d=e:=by
 obtain⟨j,rfl,a1,a2⟩:=h;obtain⟨k,rfl,b1,b2⟩:=h';rcases Nat.lt_trichotomy j k with z|z|z
 ·exact absurd a1 (b2 j z)
 ·rw[z]
 ·exact absurd b1 (a2 k z)
theorem bC.le{v d:Int}(h:bC m ts r v d){k:Nat}(q:inR m ts r k v):d<=k:=by
 obtain⟨j,rfl,a1,a2⟩:=h;by_cases z:j<=k
 ·lia
 ·exact absurd q (a2 k (by lia))
theorem m6{k:Nat}{v:Int}(q:inR m ts r k v):∃d,bC m ts r v d:=by
 induction k with
 |zero=>exact⟨0,0,rfl,q,λj z=>by lia⟩
 |succ k ih=>
  by_cases z:inR m ts r k v
  ·exact ih z
  ·exact⟨((k+1:Nat):Int),k+1,rfl,q,λj hj y=>z (oV (by lia) y)⟩
theorem dU{u w:Int}(h:w∈hd m ts u):0<=w/\w<m:=cP.mp (bZ.mp h).1
structure Bfs(m:Int)(ts:List (Int×Int))(r:Int)(kvs:List (Int×Int))(q:List Int):Prop where
 nd:(kvs.map (·.1)).Nodup
 ok:∀p∈kvs,bC m ts r p.1 p.2/\0<=p.1/\p.1<m
 rt:Key kvs r
 qk:∀u∈q,Key kvs u
 dn:∀p∈kvs,p.1∉q->∀w∈hd m ts p.1,Key kvs w
 so:∀v rr,q=v::rr->∃dv,(v,dv)∈kvs/\(∀u∈rr,∀du,(u,du)∈kvs->du<=dv+1)/\∀(k:Nat) w,(k:Int)<=dv->inR m ts r k w->Key kvs w
 sr:q.Pairwise λa b=>∀da db,(a,da)∈kvs->(b,db)∈kvs->da<=db
structure Bin(m:Int)(ts:List (Int×Int))(r v dv:Int)(kvs:List (Int×Int))(q l:List Int):Prop where
 nd:(kvs.map (·.1)).Nodup
 ok:∀p∈kvs,bC m ts r p.1 p.2/\0<=p.1/\p.1<m
 rt:Key kvs r
 vk:(v,dv)∈kvs
 qk:∀u∈q,Key kvs u
 dn:∀p∈kvs,p.1∉q->p.1≠v->∀w∈hd m ts p.1,Key kvs w
 pr:∀u∈hd m ts v,u∈l\/Key kvs u
 lh:∀u∈l,u∈hd m ts v
 bd:∀u∈q,∀du,(u,du)∈kvs->dv<=du/\du<=dv+1
 ev:∀(k:Nat) w,(k:Int)<=dv->inR m ts r k w->Key kvs w
 sr:q.Pairwise λa b=>∀da db,(a,da)∈kvs->(b,db)∈kvs->da<=db
theorem Bfs.start(h0:0<=r)(h:r<m):Bfs m ts r [(r,0)] [r]:=by
 have d0:bC m ts r r 0:=⟨0,rfl,rfl,λj z=>by lia⟩
 refine⟨by simp,λp hp=>?_,⟨0,by simp⟩,λu hu=>?_,λp hp hn=>?_,λv rr e=>?_,by simp⟩
 ·simp at hp;subst hp;exact⟨d0,h0,h⟩
 ·simp at hu;subst hu;exact⟨0,by simp⟩
 ·simp at hp;subst hp;simp at hn
 ·cases e;refine⟨0,by simp,λu hu=>by simp at hu,λk w hk q=>?_⟩;have:k=0:=by lia
  subst this;have q:w=r:=q;subst q;exact⟨0,by simp⟩
theorem Bfs.take{kvs:List (Int×Int)}{v:Int}{q:List Int}(b:Bfs m ts r kvs (v::q)):∃dv,Bin m ts r v dv kvs q (hd m ts v):=by
 obtain⟨dv,h1,h2,h3⟩:=b.so v q rfl;have sr:=List.pairwise_cons.mp b.sr;refine⟨dv,b.nd,b.ok,b.rt,h1,λu hu=>b.qk u (by simp[hu]),λp hp hn hv=>b.dn p hp (by simp[hn,hv]),λu hu=>.inl hu,λu hu=>hu,λu hu du hd'=>⟨sr.1 u hu dv du h1 hd',h2 u hu du hd'⟩,h3,sr.2⟩
theorem fq{kvs:List (Int×Int)}{u d w:Int}(h:Key kvs w):Key (kvs++[(u,d)]) w:=by
 obtain⟨e,h⟩:=h;exact⟨e,by simp[h]⟩
theorem Bin.old{v dv u:Int}{kvs:List (Int×Int)}{q l:List Int}(b:Bin m ts r v dv kvs q (u::l))(h:Key kvs u):Bin m ts r v dv kvs q l:=
 ⟨b.nd,b.ok,b.rt,b.vk,b.qk,b.dn,λw hw=>by
  rcases b.pr w hw with z|z
  ·rcases aF.mp z with rfl|z
   ·exact .inr h
   ·exact .inl z
  ·exact .inr z,λw hw=>b.lh w (by simp[hw]),b.bd,b.ev,b.sr⟩
theorem Bin.new{v dv u:Int}{kvs:List (Int×Int)}{q l:List Int}(b:Bin m ts r v dv kvs q (u::l))(h:¬ Key kvs u):Bin m ts r v dv (kvs++[(u,dv+1)]) (q++[u]) l:=by
 have hu:=b.lh u aH;obtain⟨u0,u1⟩:=dU hu;have dvd:=(b.ok _ b.vk).1;obtain⟨kv,rfl,k1,k2⟩:=dvd;have du:bC m ts r u ((kv:Int)+1):=⟨kv+1,by lia,.inr ⟨v,k1,hu⟩,λj hj y=>h (b.ev j u (by lia) y)⟩
 have nu:u∉kvs.map (·.1):=λz=>by
  obtain⟨p,hp,e⟩:=aN.mp z;exact h ⟨p.2,by rw[<-e];exact hp⟩
 have old:∀{w d:Int},(w,d)∈kvs++[(u,(kv:Int)+1)]->w≠u->(w,d)∈kvs:=λ{w d} hw hn=>by
  rcases List.mem_append.mp hw with z|z
  ·exact z
  ·simp at z;exact absurd z.1 hn
 have new:∀{d:Int},(u,d)∈kvs++[(u,(kv:Int)+1)]->d=kv+1:=λ{d} hw=>by
  rcases List.mem_append.mp hw with z|z
  ·exact absurd ⟨d,z⟩ h
  ·simp at z;exact z
 refine⟨?_,λp hp=>?_,fq b.rt,by simp[b.vk],λw hw=>?_,λp hp hn hv w hw=>?_,λw hw=>?_,λw hw=>b.lh w (by simp[hw]),λw hw d hd'=>?_,λk w hk y=>fq (b.ev k w hk y),?_⟩
 ·rw[List.map_append];refine List.nodup_append.mpr ⟨b.nd,by simp,λa ha c hc e=>?_⟩;simp at hc;subst hc e;exact nu ha
 ·rcases List.mem_append.mp hp with z|z
  ·exact b.ok p z
  ·simp at z;subst z;exact⟨du,u0,u1⟩
 ·rcases List.mem_append.mp hw with z|z
  ·exact fq (b.qk w z)
  ·simp at z;subst z;exact⟨(kv:Int)+1,by simp⟩
 ·have hpu:p.1≠u:=λe=>hn (by simp[e])
  have hp':=old (w:=p.1) (d:=p.2) hp hpu;exact fq (b.dn p hp' (λz=>hn (by simp[z])) hv w hw)
 ·rcases b.pr w hw with z|z
  ·rcases aF.mp z with rfl|z
   ·exact .inr ⟨(kv:Int)+1,by simp⟩
   ·exact .inl z
  ·exact .inr (fq z)
 ·by_cases e:w=u
  ·subst e;have:=new hd';lia
  ·rcases List.mem_append.mp hw with z|z
   ·exact b.bd w z d (old hd' e)
   ·simp at z;exact absurd z e
 ·refine List.pairwise_append.mpr ⟨?_,by simp,?_⟩
  ·refine(List.Pairwise.and_mem.mp b.sr).imp λ{x y} ⟨hx,hy,z⟩ dx dy h1 h2=>?_
   have nx:x≠u:=λe=>h (e▸b.qk x hx)
   have ny:y≠u:=λe=>h (e▸b.qk y hy)
   exact z dx dy (old h1 nx) (old h2 ny)
  ·intro x hx y hy dx dy h1 h2;simp at hy;subst hy;have nx:x≠y:=λe=>h (e▸b.qk x hx)
   have:=(b.bd x hx dx (old h1 nx)).2;have:=new h2;lia
theorem Bin.done{v dv:Int}{kvs:List (Int×Int)}{q:List Int}(b:Bin m ts r v dv kvs q []):Bfs m ts r kvs q:=by
 have dn:∀p∈kvs,p.1∉q->∀w∈hd m ts p.1,Key kvs w:=λp hp hn w hw=>by
  by_cases e:p.1=v
  ·rw[e]at hw;rcases b.pr w hw with z|z
   ·cases z
   ·exact z
  ·exact b.dn p hp hn e w hw
 refine⟨b.nd,b.ok,b.rt,b.qk,dn,λv2 rr e=>?_,b.sr⟩;subst e;obtain⟨d2,h2⟩:=b.qk v2 aH;have b2:=b.bd v2 aH d2 h2;have sr:=List.pairwise_cons.mp b.sr;refine⟨d2,h2,λu hu du hd'=>by have:=(b.bd u (by simp[hu]) du hd').2;lia,λk w hk y=>?_⟩;by_cases z:(k:Int)<=dv
 ·exact b.ev k w z y
 ·have dvd:=(b.ok _ b.vk).1;obtain⟨kv,rfl,k1,k2⟩:=dvd;have:k=kv+1:=by lia
  subst this;rcases y with y|⟨u,y,hw⟩
  ·exact b.ev kv w (by lia) y
  ·obtain⟨du,hdu⟩:=b.ev kv u (by lia) y;have le:=(b.ok _ hdu).1.le y;have le:du<=kv:=le;refine dn (u,du) hdu (λhq=>?_) w hw;rcases aF.mp hq with e|hq
   ·have e:u=v2:=e;subst e;have:=((b.ok _ hdu).1).uniq (b.ok _ h2).1;have:du=d2:=this;lia
   ·have:=sr.1 u hq d2 du h2 hdu;lia
structure zN(m:Int)(ts:List (Int×Int))(r:Int)(kvs:List (Int×Int)):Prop where
 nd:(kvs.map (·.1)).Nodup
 ok:∀p∈kvs,bC m ts r p.1 p.2/\0<=p.1/\p.1<m
 all:∀k w,inR m ts r k w->Key kvs w
theorem Bfs.ways{kvs:List (Int×Int)}(b:Bfs m ts r kvs []):zN m ts r kvs:=by
 refine⟨b.nd,b.ok,λk=>?_⟩
 induction k with
 |zero=>intro w h;have h:w=r:=h;subst h;exact b.rt
 |succ k ih=>
  rintro w (h|⟨u,h,hw⟩)
  ·exact ih w h
  ·obtain⟨d,hu⟩:=ih u h;exact b.dn (u,d) hu (by simp) w hw
theorem gB{kvs:List (Int×Int)}(nd:(kvs.map (·.1)).Nodup){v d:Int}:atK kvs v=some d↔(v,d)∈kvs:=by
 rw[atK]
 induction kvs with
 |nil=>simp
 |cons p l ih=>
  rw[aR,List.nodup_cons]at nd;rw[List.find?_cons];by_cases e:p.1=v
  ·rw[decide_eq_true e];constructor
   ·intro h;cases h;rw[<-e];exact aH
   ·intro h;rcases aF.mp h with z|z
    ·rw[<-z];rfl
    ·exact absurd (aN.mpr ⟨(v,d),z,e.symm⟩) nd.1
  ·rw[decide_eq_false e];rw[ih nd.2];constructor
   ·intro h;exact aI _ h
   ·intro h;rcases aF.mp h with z|z
    ·exact absurd (by rw[<-z]) e
    ·exact z
theorem fw(kvs:List (Int×Int))(v:Int):(kvs.any λp=>decide (p.1=v))=true↔Key kvs v:=by
 rw[cW];constructor
 ·rintro⟨p,hp,e⟩;exact⟨p.2,by rw[<-of_decide_eq_true e];exact hp⟩
 ·rintro⟨d,h⟩;exact⟨(v,d),h,by simp⟩
theorem zN.get{kvs kvs':List (Int×Int)}(a:zN m ts r kvs)(b:zN m ts r kvs')(v:Int):atK kvs v=atK kvs' v:=by
 have key:∀{x y:List (Int×Int)},zN m ts r x->zN m ts r y->∀d,atK x v=some d->atK y v=some d:=λ{x y} a b d h=>by
  rw[gB a.nd]at h;rw[gB b.nd];have h1:=(a.ok _ h).1;obtain⟨k,_,i,_⟩:=h1;obtain⟨e,he⟩:=b.all k v i;have:=bC.uniq (a.ok _ h).1 (b.ok _ he).1;have:d=e:=this;rw[this];exact he
 cases h:atK kvs v with
 |some d=>exact(key a b d h).symm
 |none=>
  cases h':atK kvs' v with
  |none=>rfl
  |some d=>rw[key b a d h']at h;cases h
theorem zN.mem{kvs:List (Int×Int)}(a:zN m ts r kvs){v:Int}:v∈kvs.map (·.1)↔∃k,inR m ts r k v:=by
 constructor
 ·intro h;obtain⟨p,hp,rfl⟩:=aN.mp h;obtain⟨k,_,i,_⟩:=(a.ok p hp).1;exact⟨k,i⟩
 ·rintro⟨k,h⟩;obtain⟨d,hd'⟩:=a.all k v h;exact aN.mpr ⟨(v,d),hd',rfl⟩
end
theorem vv{w:W}{τ:Env}{J K:Env->Prop}{Q:D->Prop}{t:T}{b r:Ss}(I:Nat->Env->Prop){n:Nat}(h0:I n τ)(hn:n<fb)
  (ht:∀n σ,I n σ->∃v,evT w t σ=.ok v/\(v=true->∃k,n=k+1/\Ends (I k) Q (qa w b σ))/\(v=false->K σ)) (hr:∀σ,K σ->Ends J Q (qa w r σ)):Ends J Q (qa w (.cons (.while t b) r) τ):=by
 have key:∀(f n:Nat) (σ:Env),I n σ->n<f->Ends K Q (dA (λσ=>evT w t σ) (λσ=>qa w b σ) f σ):=by
  intro f
  induction f with
  |zero=>intro n σ _ h;lia
  |succ f ih=>
   intro n σ hi hf;obtain⟨v,e,a1,a2⟩:=ht n σ hi;rw[dA,e];simp only[R.out_ok];cases v with
   |false=>simp only[bM,if_false];exact a2 rfl
   |true=>
    obtain⟨k,rfl,hb⟩:=a1 rfl;simp only[if_true];cases z:qa w b σ with
    |nx σ2=>rw[z]at hb;exact ih k σ2 hb (by lia)
    |rt d=>rw[z]at hb;exact hb
    |_=>rw[z]at hb;exact hb.elim
 refine iY (K:=K) ?_ hr;have hk:=key fb n τ h0 hn;rw[evS.eq_9];cases z:dA (λσ=>evT w t σ) (λσ=>qa w b σ) fb τ with
 |nx σ2=>rw[z]at hk;exact hk
 |rt d=>rw[z]at hk;exact hk
 |_=>rw[z]at hk;exact hk.elim
noncomputable def fU:Fn:=⟨2,6,false,(.cons (.set (.nm 2) (.dic1 (.var 1) (.con (.int 0)))) (.cons (.set (.nm 3) (.lst (.cons (.var 1) .nil))) (.cons (.while (.val (.own 3)) (.cons (.pop0 4 3) (.cons (.for (.nm 5) (.seq (.call "hood_of" (.cons (.var 0) (.cons (.var 4) .nil)))) (.cons (.ite (.cmp .notin (.var 5) (.own 2)) (.cons (.seti 2 (.var 5) (.op .add (.ix (.own 2) (.var 4)) (.con (.int 1)))) (.cons (.app 3 (.var 5)) .nil)) .nil) .nil)) .nil))) (.cons (.ret (.own 2)) .nil))))⟩
theorem fN{m:Int}{l:List Int}(nd:l.Nodup)(h:∀x∈l,0<=x/\x<m):l.length<=m.toNat:=by
 have s:∀x∈l,x∈rng m:=λx hx=>cP.mpr (h x hx)
 have key:∀{L M:List Int},L.Nodup->(∀x∈L,x∈M)->L.length<=M.length:=by
  intro L
  induction L with
  |nil=>intros;exact b7 _
  |cons x L ih=>
   intro M h s;have hx:=s x aH;have h1:=List.nodup_cons.mp h;have:=ih (M:=M.erase x) h1.2 λy hy=>(List.mem_erase_of_ne (a:=y) (b:=x) (λe=>h1.1 (by rw[<-e];exact hy))).mpr (s y (aI _ hy))
   rw[List.length_erase_of_mem hx]at this;have:0<M.length:=List.length_pos_of_mem hx;rw[aU];lia
 have:=key nd s
 rwa[cG]at this
theorem mD{kvs:List (Int×Int)}{u d:Int}(h:¬ Key kvs u):cm kvs u d=kvs++[(u,d)]:=by
 rw[cm,if_neg (λz=>h ((fw kvs u).mp z))]
section
variable{p:Pr}(hHo:p.fns "hood_of" = some ff)(hAt:p.fns "are_tied" = some eI)(hf:p.fns "ways_from" = some fU)
include hHo hAt hf
theorem ways_from{k:Nat}{m:Int}{ts:List (Int×Int)}(h:GW m ts){r:Int}(h0:0<=r)(h1:r<m):∃kvs,zN m ts r kvs/\qc p (k+3) "ways_from" [wb m ts,.int r]=.ok (.dic kvs):=by
 have h8:=h.hi;have hood:∀a:Int,0<=a->a<m->qc p (k+2) "hood_of" [wb m ts,.int a]=.ok (tu (hd m ts a)):=λa _ _=>jN hHo hAt (k:=k) h a
 rw[zh hf];have main:Ends (λ_=>False) (λd=>∃kvs,zN m ts r kvs/\d=.dic kvs) (qa (wAt p (k+2)) fU.body [some (wb m ts),some (.int r),none,none,none,none]):=by
  refine zq (σ:=[some (wb m ts),some (.int r),some (.dic [(r,0)]),none,none,none]) rfl ?_;refine zq (σ:=[some (wb m ts),some (.int r),some (.dic [(r,0)]),some (.lst ([r].map D.int)),none,none]) rfl ?_;refine vv (K:=λσ=>∃kvs v5 v6,zN m ts r kvs/\σ=[some (wb m ts),some (.int r),some (.dic kvs),some (.lst []),v5,v6])
   (λn σ=>∃kvs q v5 v6,Bfs m ts r kvs q/\n=q.length+(m.toNat-kvs.length)/\n<=8/\σ=[some (wb m ts),some (.int r),some (.dic kvs),some (.lst (q.map D.int)),v5,v6]) ⟨[(r,0)],[r],none,none,.start h0 h1,rfl,by simp;lia,rfl⟩ (by simp[fb];lia) ?_ ?_
  ·rintro n σ ⟨kvs,q,v5,v6,b,rfl,hn8,rfl⟩;cases q with
   |nil=>exact⟨false,rfl,λz=>(by cases z),λ_=>⟨kvs,v5,v6,b.ways,rfl⟩⟩
   |cons v q=>
    refine⟨true,rfl,λ_=>⟨q.length+(m.toNat-kvs.length),by rw[aU];lia,?_⟩,λz=>(by cases z)⟩;obtain⟨dv,hv⟩:=b.qk v aH;obtain⟨dv',bin⟩:=b.take;obtain⟨_,v0,v1⟩:=b.ok _ hv;refine zq (σ:=[some (wb m ts),some (.int r),some (.dic kvs),some (.lst (q.map D.int)),some (.int v),v6]) rfl ?_;have hh:=hood v v0 v1;refine dg (ds:=(hd m ts v).map D.int) (λl σ=>∃(us:List Int) (kvs':List (Int×Int)) (q':List Int) (v6:Option D),l=us.map D.int/\Bin m ts r v dv' kvs' q' us/\q'.length+(m.toNat-kvs'.length)=q.length+(m.toNat-kvs.length)/\σ=[some (wb m ts),some (.int r),some (.dic kvs'),some (.lst (q'.map D.int)),some (.int v),v6]) ?_ ⟨_,kvs,q,v6,rfl,bin,rfl,rfl⟩ ?_ ?_
    ·generalize wb m ts=WB at *;have e:seq? (tu (hd m ts v))=some ((hd m ts v).map D.int):=rfl;generalize tu (hd m ts v)=TH at *;simp[KG.Z,hh,e]
    ·rintro x t σ ⟨us,kvs',q',v6',e,bn,hm,rfl⟩;obtain⟨u,us,rfl,rfl,rfl⟩:=fx e;refine⟨[some (wb m ts),some (.int r),some (.dic kvs'),some (.lst (q'.map D.int)),some (.int v),some (.int u)],rfl,?_⟩;have kl:=fN bn.nd λy hy=>by
      obtain⟨p,hp,rfl⟩:=aN.mp hy;exact(bn.ok p hp).2
     rw[aD]at kl;have at1:ixD (.dic kvs') (.int v)=.ok (.int dv'):=by
      simp only[ixD,(gB bn.nd).mpr bn.vk]
     by_cases z:Key kvs' u
     ·have c1:qh .notin (.int u) (.dic kvs')=.ok false:=by
       simp only[qh,seq?,cN,R.bind_ok,(fw kvs' u).mpr z];rfl
      refine zq (σ:=[some (wb m ts),some (.int r),some (.dic kvs'),some (.lst (q'.map D.int)),some (.int v),some (.int u)]) ?_ (zx ⟨us,kvs',q',_,rfl,bn.old z,hm,rfl⟩);generalize wb m ts=WB at *;generalize D.dic kvs'=DK at *;generalize D.lst (q'.map D.int)=LQ at *;simp[KG.Z,c1]
     ·have c1:qh .notin (.int u) (.dic kvs')=.ok true:=by
       have:(kvs'.any λp=>decide (p.1=u))=false:=by
        cases q:(kvs'.any λp=>decide (p.1=u))with
        |false=>rfl
        |true=>exact absurd ((fw kvs' u).mp q) z
       simp only[qh,seq?,cN,R.bind_ok,this];rfl
      have bw:=bn.new z;have kl2:=fN bw.nd λy hy=>by
       obtain⟨p,hp,rfl⟩:=aN.mp hy;exact(bw.ok p hp).2
      rw[aD,br]at kl2;simp only[aU,List.length_nil]at kl2;have ql:q'.length<=8:=by rw[aU]at hn8;lia
      have qz:(q'.map D.int).length<SZ:=by rw[aD];simp[SZ];lia
      have kz:kvs'.length<SZ:=by simp[SZ];lia
      have pn:=mD (d:=dv'+1) z;have a1:op2 .add (.int dv') (.int 1)=.ok (.int (dv'+1)):=rfl;refine zq (σ:=[some (wb m ts),some (.int r),some (.dic (kvs'++[(u,dv'+1)])),some (.lst ((q'++[u]).map D.int)),some (.int v),some (.int u)]) ?_ (zx ⟨us,_,_,_,rfl,bw,by rw[br,br];simp only[aU,List.length_nil];lia,rfl⟩);rw[List.map_append];have st1:evS (wAt p (k+2)) (.seti 2 (.var 5) (.op .add (.ix (.own 2) (.var 4)) (.con (.int 1)))) [some (wb m ts),some (.int r),some (.dic kvs'),some (.lst (q'.map D.int)),some (.int v),some (.int u)]=.nx [some (wb m ts),some (.int r),some (.dic (kvs'++[(u,dv'+1)])),some (.lst (q'.map D.int)),some (.int v),some (.int u)]:=by
       have e1:evE (wAt p (k+2)) (.op .add (.ix (.own 2) (.var 4)) (.con (.int 1))) [some (wb m ts),some (.int r),some (.dic kvs'),some (.lst (q'.map D.int)),some (.int v),some (.int u)]=.ok (.int (dv'+1)):=by
        generalize wb m ts=WB at *;generalize D.dic kvs'=DK at *;generalize D.lst (q'.map D.int)=LQ at *;simp[KG.Z,at1,a1]
       rw[evS.eq_3,e1];show (if kvs'.length<SZ then EV.O.nx _ else EV.O.no)=_;rw[if_pos kz,pn];rfl
      have st2:evS (wAt p (k+2)) (.app 3 (.var 5)) [some (wb m ts),some (.int r),some (.dic (kvs'++[(u,dv'+1)])),some (.lst (q'.map D.int)),some (.int v),some (.int u)]=.nx [some (wb m ts),some (.int r),some (.dic (kvs'++[(u,dv'+1)])),some (.lst (q'.map D.int++[.int u])),some (.int v),some (.int u)]:=by
       rw[fk (xs:=q'.map D.int) (d:=.int u) rfl rfl qz];rfl
      have t1:evT (wAt p (k+2)) (.cmp .notin (.var 5) (.own 2)) [some (wb m ts),some (.int r),some (.dic kvs'),some (.lst (q'.map D.int)),some (.int v),some (.int u)]=.ok true:=by
       generalize wb m ts=WB at *;generalize D.dic kvs'=DK at *;generalize D.lst (q'.map D.int)=LQ at *;simp[KG.Z,c1]
      rw[evS.eq_7,t1];simp only[R.out_ok,if_true];rw[qa,st1];show qa _ (.cons _ .nil) _=_;rw[qa,st2];rfl
    ·rintro σ ⟨us,kvs',q',v6',e,bn,hm,rfl⟩;cases us with
     |nil=>exact zx ⟨kvs',q',_,_,bn.done,hm.symm,by rw[aU]at hn8;lia,rfl⟩
     |cons _ _=>cases e
  ·rintro σ ⟨kvs,v5,v6,wy,rfl⟩;exact fD (d:=.dic kvs) rfl ⟨kvs,wy,rfl⟩
 obtain⟨d,e,kvs,wy,rfl⟩:=jt (w:=wAt p (k+2)) (f:=fU) (ds:=[wb m ts,.int r]) rfl rfl main;exact⟨kvs,wy,e⟩
end
theorem nX{kvs:List (Int×Int)}{u d:Int}:(cm kvs u d).map (·.1)=if (kvs.any λp=>decide (p.1=u))=true then kvs.map (·.1)else kvs.map (·.1)++[u]:=by
 rw[cm];split
 ·rw[bz];refine List.map_congr_left λp _=>?_
  show (if p.1=u then (p.1,d)else p).1=p.1;split<;>rfl
 ·rw[List.map_append];rfl
theorem xp{kvs:List (Int×Int)}{u d:Int}(h:(kvs.map (·.1)).Nodup):((cm kvs u d).map (·.1)).Nodup:=by
 rw[nX];split
 ·exact h
 ·rename_i z
  refine List.nodup_append.mpr ⟨h,by simp,λa ha c hc e=>?_⟩;simp at hc;subst hc e;obtain⟨p,hp,e⟩:=aN.mp ha;exact z (cW.mpr ⟨p,hp,by simpa using e⟩)
section
variable{m:Int}{ts:List (Int×Int)}{r:Int}
noncomputable def Lss(kvs kvs':List (Int×Int)):Prop:=∀x e,atK kvs x=some e->∃e',atK kvs' x=some e'/\e'<=e
theorem Lss.refl(kvs:List (Int×Int)):Lss kvs kvs:=λx e h=>⟨e,h,Int.le_refl _⟩
theorem nF{v d:Int}(h0:0<=r)(h1:r<m)(h:bC m ts r v d):d<m:=by
 have key:∀(k:Nat) (v:Int),bC m ts r v k->0<=v/\v<m:=by
  intro k v h;obtain⟨j,e,i,mn⟩:=h;have:j=k:=by lia
  subst this;cases j with
  |zero=>
   have i:v=r:=i;subst i;exact⟨h0,h1⟩
  |succ j=>
   rcases i with i|⟨u,_,hw⟩
   ·exact absurd i (mn j (by lia))
   ·exact dU hw
 have chain:∀(k:Nat) (v:Int),bC m ts r v k->∃l:List Int,l.length=k+1/\l.Nodup/\(∀x∈l,0<=x/\x<m)/\∀x∈l,∃j:Nat,j<=k/\bC m ts r x j:=by
  intro k
  induction k with
  |zero=>intro v h;exact⟨[v],rfl,by simp,(λx hx=>by simp at hx;subst hx;exact key 0 x h),(λx hx=>by simp at hx;subst hx;exact⟨0,aB _,h⟩)⟩
  |succ k ih=>
   intro v h;have hv:=key (k+1) v h;obtain⟨j,e,i,mn⟩:=id h;have:j=k+1:=by lia
   subst this;rcases i with i|⟨u,i,hw⟩
   ·exact absurd i (mn k (by lia))
   ·have du:bC m ts r u k:=⟨k,rfl,i,λj hj y=>mn (j+1) (by lia) (.inr ⟨u,y,hw⟩)⟩
    obtain⟨l,l1,l2,l3,l4⟩:=ih u du;refine⟨v::l,by simp[l1],List.nodup_cons.mpr ⟨λz=>?_,l2⟩,λx hx=>?_,λx hx=>?_⟩
    ·obtain⟨j,j1,j2⟩:=l4 v z;have:=bC.uniq j2 h;lia
    ·rcases aF.mp hx with rfl|hx
     ·exact hv
     ·exact l3 x hx
    ·rcases aF.mp hx with rfl|hx
     ·exact⟨k+1,aB _,h⟩
     ·obtain⟨j,j1,j2⟩:=l4 x hx;exact⟨j,by lia,j2⟩
 obtain⟨k,rfl,_⟩:=id h;obtain⟨l,l1,l2,l3,_⟩:=chain k v h;have:=fN l2 l3;lia
end
noncomputable def ku:Fn:=⟨2,6,false,(.cons (.set (.nm 2) (.dic1 (.var 1) (.con (.int 0)))) (.cons (.for (.nm 3) (.rng (.ix (.var 0) (.con (.int 0)))) (.cons (.for (.nm 4) (.seq (.lsd (.own 2))) (.cons (.for (.nm 5) (.seq (.call "_law_hood" (.cons (.var 0) (.cons (.var 4) .nil)))) (.cons (.seti 2 (.var 5) (.ite (.cmp .ne (.var 5) (.var 4)) (.bi .min (.cons (.dget2 (.own 2) (.var 5) (.con (.int 99))) (.cons (.op .add (.ix (.own 2) (.var 4)) (.con (.int 1))) .nil))) (.ix (.own 2) (.var 5)))) .nil)) .nil)) .nil)) (.cons (.ret (.own 2)) .nil)))⟩
section
variable{p:Pr}(hH:p.fns "_law_hood" = some ei)(hf:p.fns "_law_ways" = some ku)
include hH hf
end
section
variable{m:Int}{ts:List (Int×Int)}
theorem gS{a x:Int}(ha:0<=a/\a<m)(h:x∈hd m ts a):a∈hd m ts x:=by
 rw[B0]at h ⊢;exact⟨ha,h.2.imp Eq.symm λe=>by rw[xb];exact e⟩
noncomputable def Rch(m:Int)(ts:List (Int×Int))(r v:Int):Prop:=∃k,inR m ts r k v
theorem Rch.refl(r:Int):Rch m ts r r:=⟨0,rfl⟩
theorem Rch.step{r u v:Int}(h:Rch m ts r u)(q:v∈hd m ts u):Rch m ts r v:=by
 obtain⟨k,h⟩:=h;exact⟨k+1,.inr ⟨u,h,q⟩⟩
theorem Rch.trans{a b c:Int}(h:Rch m ts a b)(h':Rch m ts b c):Rch m ts a c:=by
 obtain⟨k,h'⟩:=h'
 induction k generalizing c with
 |zero=>
  have e:c=b:=h';rw[e];exact h
 |succ k ih=>
  rcases h' with q|⟨u,q,hw⟩
  ·exact ih q
  ·exact(ih q).step hw
theorem Rch.symm{a b:Int}(ha:0<=a/\a<m)(h:Rch m ts a b):Rch m ts b a/\0<=b/\b<m:=by
 obtain⟨k,h⟩:=h
 induction k generalizing b with
 |zero=>
  have e:b=a:=h;rw[e];exact⟨.refl a,ha⟩
 |succ k ih=>
  rcases h with q|⟨u,q,hw⟩
  ·exact ih q
  ·obtain⟨i1,i2⟩:=ih q;have:=gS (m:=m) (ts:=ts) i2 hw;exact⟨Rch.trans (Rch.step (.refl b) this) i1,dU hw⟩
theorem zN.key{r v:Int}{kvs:List (Int×Int)}(a:zN m ts r kvs):Key kvs v↔Rch m ts r v:=by
 constructor
 ·rintro⟨d,h⟩;obtain⟨k,_,i,_⟩:=(a.ok _ h).1;exact⟨k,i⟩
 ·rintro⟨k,h⟩;exact a.all k v h
noncomputable def ks(kvs:List (Int×Int)):List Int:=sortI (kvs.map (·.1))
theorem nE{kvs:List (Int×Int)}{v:Int}:v∈ks kvs↔Key kvs v:=by
 rw[ks,(sortI_perm _).mem_iff,aN];constructor
 ·rintro⟨p,hp,rfl⟩;exact⟨p.2,hp⟩
 ·rintro⟨d,h⟩;exact⟨(v,d),h,rfl⟩
theorem m7{a b:Int}{x y:List (Int×Int)}(ha:0<=a/\a<m)(hx:zN m ts a x)(hy:zN m ts b y)(h:Rch m ts a b):ks x=ks y:=by
 have hs:=(h.symm ha).1;have pm:(x.map (·.1)).Perm (y.map (·.1)):=(List.perm_ext_iff_of_nodup hx.nd hy.nd).mpr λv=>by
  rw[hx.mem,hy.mem];exact⟨λq=>hs.trans q,λq=>h.trans q⟩
 exact jc ((sortI_perm _).trans pm) (k5 _)
noncomputable def ddp(S:Int->List Int):List Int->List (List Int)->List (List Int)
 | [],acc=>acc
 |a::l,acc=>ddp S l (if S a∈acc then acc else acc++[S a])
theorem vm{kvs:List (Int×Int)}{u d x:Int}:Key (cm kvs u d) x↔Key kvs x\/x=u:=by
 have e:∀l:List (Int×Int),Key l x↔x∈l.map (·.1):=λl=>by
  rw[aN];constructor
  ·rintro⟨d,h⟩;exact⟨(x,d),h,rfl⟩
  ·rintro⟨p,hp,rfl⟩;exact⟨p.2,hp⟩
 rw[e,e,nX];split
 ·rename_i h
  obtain⟨p,hp,f⟩:=cW.mp h;constructor
  ·exact .inl
  ·rintro(h|rfl)
   ·exact h
   ·exact aN.mpr ⟨p,hp,by simpa using f⟩
 ·simp
theorem j9{x:Int}:∀(ms kvs:List (Int×Int)),Key (cL kvs ms) x↔Key kvs x\/Key ms x
 | [],kvs=>by
  show Key kvs x↔_;constructor
  ·exact .inl
  ·rintro(h|⟨d,h⟩)
   ·exact h
   ·cases h
 |p::l,kvs=>by
  show Key (cL (cm kvs p.1 p.2) l) x↔_;rw[j9 l,vm];constructor
  ·rintro((h|rfl)|⟨d,h⟩)
   ·exact .inl h
   ·exact .inr ⟨p.2,aH⟩
   ·exact .inr ⟨d,aI _ h⟩
  ·rintro(h|⟨d,h⟩)
   ·exact .inl (.inl h)
   ·rcases aF.mp h with e|h
    ·exact .inl (.inr (by rw[<-e]))
    ·exact .inr ⟨d,h⟩
theorem oy:∀(ms kvs:List (Int×Int)),(kvs.map (·.1)).Nodup->((cL kvs ms).map (·.1)).Nodup
 | [],kvs,h=>h
 |p::l,kvs,h=>oy l (cm kvs p.1 p.2) (xp h)
end
noncomputable def fX(b:Bool):Fn:=⟨1,5,b,(.cons (.exp (.call "need_web" (.cons (.var 0) .nil))) (.cons (.set (.nm 1) (.lst .nil)) (.cons (.set (.nm 2) .dic) (.cons (.for (.nm 3) (.rng (.ix (.var 0) (.con (.int 0)))) (.cons (.ite (.cmp .notin (.var 3) (.own 2)) (.cons (.set (.nm 4) (.call "ways_from" (.cons (.var 0) (.cons (.var 3) .nil)))) (.cons (.dupd 2 (.var 4)) (.cons (.app 1 (.bi .tuple (.cons (.bi .sorted (.cons (.var 4) .nil)) .nil))) .nil))) .nil) .nil)) (.cons (.ret (.own 1)) .nil)))))⟩
theorem xU{kvs:List (Int×Int)}(h:kvs.length<64):b1 .sorted [.dic kvs]=.ok (.lst ((ks kvs).map D.int)):=by
 show (if kvs.length<64 then R.ok (D.lst ((sortI (kvs.map (·.1))).map D.int))else .no)=_;rw[if_pos h];rfl
section
variable{p:Pr}{b:Bool}(B:Web p)(hf:p.fns "pieces" = some (fX b))
include B hf
theorem pieces{k:Nat}{m:Int}{ts:List (Int×Int)}(h:GW m ts){W:Int->List (Int×Int)}(hW:∀a,0<=a->a<m->zN m ts a (W a)/\qc p (k+4) "ways_from" [wb m ts,.int a]=.ok (.dic (W a))) :
  qc p (k+5) "pieces" [wb m ts]=.ok (.lst ((ddp (λa=>ks (W a)) (rng m) []).map tu)):=by
 have h8:=h.hi;have hl:=h.lo;have hx:ixD (wb m ts) (.int 0)=.ok (.int m):=rfl;have hm:qV m=true:=by simp[qV];lia
 have e1:=need_web B (k:=k) h;have wl:∀a,0<=a->a<m->(W a).length<=8:=λa a0 a1=>by
  have w:=(hW a a0 a1).1;have:=fN w.nd λy hy=>by
   obtain⟨q,hq,rfl⟩:=aN.mp hy;exact(w.ok q hq).2
  rw[aD]at this;lia
 rw[zh hf];have main:Ends (λ_=>False) (λd=>d=.lst ((ddp (λa=>ks (W a)) (rng m) []).map tu)) (qa (wAt p (k+4)) (fX b).body [some (wb m ts),none,none,none,none]):=by
  refine zq (σ:=[some (wb m ts),none,none,none,none]) (by generalize wb m ts=WB at *;simp[KG.Z,e1]) ?_;refine zq (σ:=[some (wb m ts),some (.lst []),none,none,none]) rfl ?_;refine zq (σ:=[some (wb m ts),some (.lst []),some (.dic []),none,none]) rfl ?_;refine dg (ds:=(rng m).map D.int) (λl σ=>∃(as:List Int) (acc:List (List Int)) (seen:List (Int×Int)) (v3 v4:Option D),l=as.map D.int/\(∀a∈as,0<=a/\a<m)/\ddp (λa=>ks (W a)) as acc=ddp (λa=>ks (W a)) (rng m) []/\acc.length+as.length<=8/\(seen.map (·.1)).Nodup/\(∀x,Key seen x->0<=x/\x<m)/\(∀x,0<=x->x<m->(Key seen x↔ks (W x)∈acc))/\σ=[some (wb m ts),some (.lst (acc.map tu)),some (.dic seen),v3,v4]) ?_ ⟨rng m,[],[],none,none,rfl,λa ha=>cP.mp ha,rfl,by rw[cG];simp;lia,by simp,λx ⟨d,z⟩=>(by cases z),λx _ _=>⟨λ⟨d,z⟩=>(by cases z),λz=>(by cases z)⟩,rfl⟩ ?_ ?_
  ·rw[<-dG];generalize wb m ts=WB at *;simp[KG.Z,hx,hm]
  ·rintro x l σ ⟨as,acc,seen,v3,v4,e,has,hd',hlen,nd,rg,iff,rfl⟩;obtain⟨a,as,rfl,rfl,rfl⟩:=fx e;obtain⟨a0,a1⟩:=has a aH;refine⟨[some (wb m ts),some (.lst (acc.map tu)),some (.dic seen),some (.int a),v4],rfl,?_⟩;rw[ddp]at hd';rw[aU]at hlen;by_cases z:Key seen a
   ·have c1:qh .notin (.int a) (.dic seen)=.ok false:=by
     simp only[qh,seq?,cN,R.bind_ok,(fw seen a).mpr z];rfl
    rw[if_pos ((iff a a0 a1).mp z)]at hd';refine zq (σ:=[some (wb m ts),some (.lst (acc.map tu)),some (.dic seen),some (.int a),v4]) ?_ (zx ⟨as,acc,seen,_,_,rfl,λy hy=>has y (aI _ hy),hd',by lia,nd,rg,iff,rfl⟩);generalize wb m ts=WB at *;generalize D.dic seen=DK at *;generalize D.lst (acc.map tu)=LQ at *;simp[KG.Z,c1]
   ·have c1:qh .notin (.int a) (.dic seen)=.ok true:=by
     have:(seen.any λp=>decide (p.1=a))=false:=by
      cases q:(seen.any λp=>decide (p.1=a))with
      |false=>rfl
      |true=>exact absurd ((fw seen a).mp q) z
     simp only[qh,seq?,cN,R.bind_ok,this];rfl
    have nz:ks (W a)∉acc:=λq=>z ((iff a a0 a1).mpr q)
    rw[if_neg nz]at hd';obtain⟨wa,ca⟩:=hW a a0 a1;have sl:=fN nd λy hy=>by
     obtain⟨q,hq,rfl⟩:=aN.mp hy;exact rg q.1 ⟨q.2,hq⟩
    rw[aD]at sl;have wl':=wl a a0 a1;have kz:seen.length+(W a).length<SZ:=by simp[SZ];lia
    have sd:=xU (kvs:=W a) (by lia);have az:(acc.map tu).length<SZ:=by rw[aD];simp[SZ];lia
    refine zq (σ:=[some (wb m ts),some (.lst ((acc++[ks (W a)]).map tu)),some (.dic (cL seen (W a))),some (.int a),some (.dic (W a))]) ?_ (zx ⟨as,_,_,_,_,rfl,λy hy=>has y (aI _ hy),hd',by rw[br];simp only[aU,List.length_nil];lia,oy _ _ nd,λx hx=>?_,λx x0 x1=>?_,rfl⟩)
    ·have s1:evS (wAt p (k+4)) (.set (.nm 4) (.call "ways_from" (.cons (.var 0) (.cons (.var 3) .nil)))) [some (wb m ts),some (.lst (acc.map tu)),some (.dic seen),some (.int a),v4]=.nx [some (wb m ts),some (.lst (acc.map tu)),some (.dic seen),some (.int a),some (.dic (W a))]:=by
      generalize wb m ts=WB at *;generalize D.dic seen=DK at *;generalize D.dic (W a)=DW at *;generalize D.lst (acc.map tu)=LQ at *;simp[KG.Z,ca]
     have s2:evS (wAt p (k+4)) (.dupd 2 (.var 4)) [some (wb m ts),some (.lst (acc.map tu)),some (.dic seen),some (.int a),some (.dic (W a))]=.nx [some (wb m ts),some (.lst (acc.map tu)),some (.dic (cL seen (W a))),some (.int a),some (.dic (W a))]:=by
      show (if seen.length+(W a).length<SZ then EV.O.nx _ else EV.O.no)=_;rw[if_pos kz];rfl
     have s3:evS (wAt p (k+4)) (.app 1 (.bi .tuple (.cons (.bi .sorted (.cons (.var 4) .nil)) .nil))) [some (wb m ts),some (.lst (acc.map tu)),some (.dic (cL seen (W a))),some (.int a),some (.dic (W a))]=.nx [some (wb m ts),some (.lst (acc.map tu++[tu (ks (W a))])),some (.dic (cL seen (W a))),some (.int a),some (.dic (W a))]:=by
      have t1:evE (wAt p (k+4)) (.bi .tuple (.cons (.bi .sorted (.cons (.var 4) .nil)) .nil)) [some (wb m ts),some (.lst (acc.map tu)),some (.dic (cL seen (W a))),some (.int a),some (.dic (W a))]=.ok (tu (ks (W a))):=by
       have t2:b1 .tuple [.lst ((ks (W a)).map D.int)]=.ok (tu (ks (W a))):=rfl;generalize wb m ts=WB at *;generalize D.dic (cL seen (W a))=DK at *;generalize D.dic (W a)=DW at *;generalize D.lst (acc.map tu)=LQ at *;generalize tu (ks (W a))=TT at *;simp[KG.Z,sd,t2]
      rw[fk (xs:=acc.map tu) (d:=tu (ks (W a))) rfl t1 az];rfl
     have t1:evT (wAt p (k+4)) (.cmp .notin (.var 3) (.own 2)) [some (wb m ts),some (.lst (acc.map tu)),some (.dic seen),some (.int a),v4]=.ok true:=by
      generalize wb m ts=WB at *;generalize D.dic seen=DK at *;generalize D.lst (acc.map tu)=LQ at *;simp[KG.Z,c1]
     rw[evS.eq_7,t1];simp only[R.out_ok,if_true];rw[qa,s1];show qa _ (.cons _ (.cons _ .nil)) _=_;rw[qa,s2];show qa _ (.cons _ .nil) _=_;rw[qa,s3,List.map_append];rfl
    ·rcases(j9 (W a) seen).mp hx with q|⟨d,q⟩
     ·exact rg x q
     ·exact(wa.ok _ q).2
    ·rw[j9,iff x x0 x1,wa.key,List.mem_append];constructor
     ·rintro(q|q)
      ·exact .inl q
      ·exact .inr (by rw[m7 ⟨a0,a1⟩ wa (hW x x0 x1).1 q];simp)
     ·rintro(q|q)
      ·exact .inl q
      ·simp only[aF,cV,or_false]at q;have:x∈ks (W x):=nE.mpr ((hW x x0 x1).1.key.mpr (.refl x));rw[q]at this;exact .inr (wa.key.mp (nE.mp this))
  ·rintro σ ⟨as,acc,seen,v3,v4,e,has,hd',hlen,nd,rg,iff,rfl⟩;cases as with
   |cons _ _=>cases e
   |nil=>
    rw[ddp]at hd';subst hd';exact fD (d:=.lst ((ddp (λa=>ks (W a)) (rng m) []).map tu)) rfl rfl
 obtain⟨d,e,rfl⟩:=jt (w:=wAt p (k+4)) (f:=fX b) (ds:=[wb m ts]) rfl rfl main;exact e
end
end KG
namespace KG
open EV
open PySem (Str)
open L2 (atI ixN ltP)
noncomputable def rg2(lo hi:Int):List Int:=(a9 (hi-lo).toNat).map λ(i:Nat)=>lo+(i:Int)
theorem iw{lo hi i:Int}:i∈rg2 lo hi↔lo<=i/\i<hi:=by
 simp only[rg2,aN,List.mem_range];constructor
 ·rintro⟨a,h,rfl⟩;lia
 ·intro h;exact⟨(i-lo).toNat,by lia,by lia⟩
theorem AQ(lo hi:Int):cn lo (hi-lo).toNat=(rg2 lo hi).map D.int:=by
 rw[cn,rg2,bz];rfl
section
variable{p:Pr}
end
noncomputable def srt(t:Int×Int):Int×Int:=if t.1<=t.2 then t else (t.2,t.1)
theorem B5(a b:Int):sortI [a,b]=[(srt (a,b)).1,(srt (a,b)).2]:=by
 show insI a [b]=_;rw[insI,srt];by_cases h:a<=b
 ·rw[if_pos h,if_pos h]
 ·rw[if_neg h,if_neg h];rfl
theorem rQ{a b c d:Int}(h:srt (a,b)=srt (c,d)):(a=c/\b=d)\/(a=d/\b=c):=by
 unfold srt at h;split at h<;>split at h<;>(injection h with h1 h2;lia)
structure Iok(m:Int)(I:List (Int×Int)):Prop where
 ok:∀t∈I,0<=t.1/\t.1<m/\0<=t.2/\t.2<m/\t.1≠t.2
 pw:I.Pairwise λs t=>¬ (s.1=t.1/\s.2=t.2)/\¬ (s.1=t.2/\s.2=t.1)
 len:I.length<=8
noncomputable instance (m:Int) (I:List (Int×Int)):Decidable (Iok m I):=
 decidable_of_iff ((∀t∈I,0<=t.1/\t.1<m/\0<=t.2/\t.2<m/\t.1≠t.2)/\I.Pairwise (λs t=>¬ (s.1=t.1/\s.2=t.2)/\¬ (s.1=t.2/\s.2=t.1))/\I.length<=8) ⟨λ⟨a,b,c⟩=>⟨a,b,c⟩,λ⟨a,b,c⟩=>⟨a,b,c⟩⟩
section
variable{m:Int}{o:List Int}
theorem iC(hp:o.Perm (rng m)){i:Int}(h0:0<=i)(h:i<m):0<=o.getD i.toNat 0/\o.getD i.toNat 0<m:=by
 have hl:i.toNat<o.length:=by rw[hp.length_eq,cG];lia
 have e:o.getD i.toNat 0=o[i.toNat]:=by simp[List.getD,hl]
 rw[e];exact cP.mp (hp.mem_iff.mp (List.getElem_mem hl))
theorem g9(hp:o.Perm (rng m)){i j:Int}(h0:0<=i)(h:i<m)(g0:0<=j)(g:j<m)(e:o.getD i.toNat 0=o.getD j.toNat 0):i=j:=by
 have nd:o.Nodup:=hp.nodup_iff.mpr ((gQ m).imp λh=>Int.ne_of_lt h);have hl:i.toNat<o.length:=by rw[hp.length_eq,cG];lia
 have gl:j.toNat<o.length:=by rw[hp.length_eq,cG];lia
 have e1:o.getD i.toNat 0=o[i.toNat]:=by simp[List.getD,hl]
 have e2:o.getD j.toNat 0=o[j.toNat]:=by simp[List.getD,gl]
 rw[e1,e2]at e;have key:=List.pairwise_iff_getElem.mp nd;rcases Nat.lt_trichotomy i.toNat j.toNat with z|z|z
 ·exact absurd e (key _ _ hl gl z)
 ·lia
 ·exact absurd e.symm (key _ _ gl hl z)
noncomputable def zu(o:List Int)(t:Int×Int):Int×Int:=srt (o.getD t.1.toNat 0,o.getD t.2.toNat 0)
theorem ug(h1:1<=m)(h2:m<=8)(hp:o.Perm (rng m)){I:List (Int×Int)}(hI:Iok m I):GW m (zw (I.map (zu o))):=by
 have pm:=f_ (I.map (zu o));have nd:(I.map (zu o)).Nodup:=by
  rw[List.Nodup,List.pairwise_map];refine hI.pw.imp_of_mem λ{s t} hs ht h e=>?_
  obtain⟨a1,a2,a3,a4,_⟩:=hI.ok s hs;obtain⟨b1,b2,b3,b4,_⟩:=hI.ok t ht;rcases rQ e with ⟨e1,e2⟩|⟨e1,e2⟩
  ·exact h.1 ⟨g9 hp a1 a2 b1 b2 e1,g9 hp a3 a4 b3 b4 e2⟩
  ·exact h.2 ⟨g9 hp a1 a2 b3 b4 e1,g9 hp a3 a4 b1 b2 e2⟩
 refine⟨h1,h2,ue (jE _) (pm.nodup_iff.mpr nd),λt ht=>?_,?_⟩
 ·obtain⟨s,hs,rfl⟩:=aN.mp (pm.mem_iff.mp ht);obtain⟨a1,a2,a3,a4,a5⟩:=hI.ok s hs;have b1:=iC hp a1 a2;have b2:=iC hp a3 a4;have b3:o.getD s.1.toNat 0≠o.getD s.2.toNat 0:=λe=>a5 (g9 hp a1 a2 a3 a4 e)
  rw[zu,srt];split<;>(simp only;simp only at *;lia)
 ·rw[pm.length_eq,aD];have:=hI.len;lia
theorem sR(hl:(o.length:Int)=m){i:Int}(h0:0<=i)(h:i<m):ixD (.lst (o.map D.int)) (.int i)=.ok (.int (o.getD i.toNat 0)):=by
 obtain⟨j,rfl⟩:∃j:Nat,i=j:=⟨i.toNat,by lia⟩
 have hj:j<o.length:=by lia
 have:=gy (xs:=o.map D.int) (i:=j) (by simpa using hj);simp only[ixD];rw[this];simp[hj]
end
theorem yp(j:Nat):rng ((j:Int)+1)=rng (j:Int)++[(j:Int)]:=by
 rw[rng,rng,show ((j:Int)+1).toNat=j+1 by lia,show ((j:Int)).toNat=j by lia,List.range_succ,List.map_append];rfl
theorem pK(m:Int):rng m=rg2 0 m:=by
 rw[rng,rg2,Int.sub_zero];simp
theorem jo{lo hi:Int}(h:lo<hi):rg2 lo hi=lo::rg2 (lo+1) hi:=by
 rw[rg2,rg2,show (hi-lo).toNat=(hi-(lo+1)).toNat+1 by lia,List.range_succ_eq_map,aR,bz]
 congr 1
 ·simp
 ·refine List.map_congr_left λi _=>?_
  simp only[Function.comp];lia
abbrev TE(m c:Int)(o:List Int)(v3 v4:Option D):Env:=[some (.int m),some (.int c),some (.lst (o.map D.int)),v3,v4]
noncomputable def iZ:Fn:=⟨2,6,false,(.cons (.set (.nm 2) (.lst .nil)) (.cons (.for (.nm 3) (.rng (.var 0)) (.cons (.ins 2 (.op .mod (.call "_law_stir" (.cons (.var 1) (.cons (.op .add (.var 3) (.con (.int 40))) .nil))) (.op .add (.var 3) (.con (.int 1)))) (.var 3)) .nil)) (.cons (.set (.nm 4) (.lst .nil)) (.cons (.for (.nm 5) (.rng2 (.con (.int 1)) (.var 0)) (.cons (.app 4 (.bi .tuple (.cons (.bi .sorted (.cons (.lst (.cons (.ix (.own 2) (.var 5)) (.cons (.ix (.own 2) (.op .mod (.call "_law_stir" (.cons (.var 1) (.cons (.var 5) .nil))) (.var 5))) .nil))) .nil)) .nil))) .nil)) (.cons (.ret (.tup (.cons (.var 0) (.cons (.bi .tuple (.cons (.bi .sorted (.cons (.own 4) .nil)) .nil)) .nil)))) .nil)))))⟩
abbrev TB(m c:Int)(o:List Int)(v3 v4 v5:Option D):Env:=[some (.int m),some (.int c),some (.lst (o.map D.int)),v3,v4,v5]
noncomputable def It(c m:Int):List (Int×Int):=(rg2 1 m).map λi=>(i,st c i%i)
theorem yT(lo hi:Int):(rg2 lo hi).Pairwise (· < ·):=by
 rw[rg2,List.pairwise_map];exact List.pairwise_lt_range.imp λz=>by lia
theorem mG(c m:Int)(h2:m<=8):Iok m (It c m):=by
 have hm:∀i,i∈rg2 1 m->1<=i/\i<m/\0<=st c i%i/\st c i%i<i:=λi hi=>by
  obtain⟨a,b⟩:=iw.mp hi;exact⟨a,b,Int.emod_nonneg _ (by lia),Int.emod_lt_of_pos _ (by lia)⟩
 refine⟨λt ht=>?_,?_,?_⟩
 ·obtain⟨i,hi,rfl⟩:=aN.mp ht;obtain⟨a,b,c1,d⟩:=hm i hi;refine⟨?_,?_,?_,?_,?_⟩<;>(simp only;lia)
 ·rw[It,List.pairwise_map];refine(List.Pairwise.and_mem.mp (yT 1 m)).imp λ{i j} ⟨hi,hj,z⟩=>?_
  obtain⟨a,b,c1,d⟩:=hm i hi;obtain⟨a',b',c',d'⟩:=hm j hj;constructor
  ·rintro⟨e1,e2⟩;simp only at e1 e2;lia
  ·rintro⟨e1,e2⟩;simp only at e1 e2;lia
 ·rw[It,aD,rg2,aD,List.length_range];lia
theorem uN{p:Pr}(hS:p.fns "_law_stir" = some zZ)(hf:p.fns "_law_tree_by" = some iZ){k:Nat}(m c:Int)(h1:1<=m)(h2:m<=8):∃o,o.Perm (rng m)/\qc p (k+2) "_law_tree_by" [.int m,.int c]=.ok (wb m (zw ((It c m).map (zu o)))):=by
 suffices hs:∃d,qc p (k+2) "_law_tree_by" [.int m,.int c]=.ok d/\∃o,o.Perm (rng m)/\d=wb m (zw ((It c m).map (zu o)))by
  obtain⟨d,e,o,g,rfl⟩:=hs;exact⟨o,g,e⟩
 refine jk (k:=k+1) (τ:=[some (.int m),some (.int c),none,none,none,none]) hf rfl rfl ?_;refine zq (σ:=TB m c [] none none none) rfl ?_;have hm:qV m=true:=by simp[qV];lia
 refine dg (ds:=(rng m).map D.int) (λr σ=>∃(j:Nat) (o:List Int) (v3:Option D),(j:Int)<=m/\r=(rg2 (j:Int) m).map D.int/\o.Perm (rng (j:Int))/\σ=TB m c o v3 none none) (by rw[<-dG];simp[KG.Z,hm]) ⟨0,[],none,by lia,by rw[pK];rfl,by simp[rng],rfl⟩ ?_ ?_
 ·rintro x t σ ⟨j,o,v3,hj,e,hp,rfl⟩;have hlt:(j:Int)<m:=by
   by_cases z:(j:Int)<m
   ·exact z
   ·rw[rg2,show (m-(j:Int)).toNat=0 by lia]at e;cases e
  rw[jo hlt,aR]at e;injection e with e1 e2
  subst e1 e2;refine⟨TB m c o (some (.int (j:Nat))) none none,rfl,?_⟩;have e5:=ja hS (k:=k) c ((j:Int)+40);have z1:op2 .add (.int (j:Nat)) (.int 40)=.ok (.int ((j:Int)+40)):=rfl;have z2:op2 .add (.int (j:Nat)) (.int 1)=.ok (.int ((j:Int)+1)):=rfl;have z3:op2 .mod (.int (st c ((j:Int)+40))) (.int ((j:Int)+1))=.ok (.int (st c ((j:Int)+40)%((j:Int)+1))):=by
   show opI .mod _ _=_;rw[opI,if_pos (by lia)]
  have q0:=Int.emod_nonneg (st c ((j:Int)+40)) (show ((j:Int)+1)≠0 by lia);have q1:=Int.emod_lt_of_pos (st c ((j:Int)+40)) (show (0:Int)<(j:Int)+1 by lia);have hl:o.length=j:=by rw[hp.length_eq,cG];lia
  generalize st c ((j:Int)+40)%((j:Int)+1)=q at *;have hk:evE (wAt p (k+1)) (.op .mod (.call "_law_stir" (.cons (.var 1) (.cons (.op .add (.var 3) (.con (.int 40))) .nil))) (.op .add (.var 3) (.con (.int 1)))) (TB m c o (some (.int (j:Nat))) none none)=.ok (.int q):=by
   dsimp only[TB];generalize st c ((j:Int)+40)=QQ at *;generalize (j:Int)+40=J1 at *;generalize (j:Int)+1=J2 at *;generalize (j:Int)=J at *;simp[KG.Z,z1,z2,z3,e5]
  refine zq (σ:=TB m c (o.take q.toNat++(j:Int)::o.drop q.toNat) (some (.int (j:Nat))) none none) ?_ (zx ⟨j+1,_,_,by lia,by rw[show (((j+1:Nat)):Int)=(j:Int)+1 by lia],?_,rfl⟩)
  ·rw[evS.eq_12];show ((evE (wAt p (k+1)) _ (TB m c o (some (.int (j:Nat))) none none)).out _)=_;rw[hk];show gY (.lst (o.map D.int)) (.int q) (.int (j:Nat)) 2 (TB m c o (some (.int (j:Nat))) none none)=_;rw[gY];rw[if_pos ⟨q0,by rw[aD,hl];lia,by simp[SZ,hl];lia⟩,<-List.map_take,<-List.map_drop,<-aR,<-List.map_append]
   rfl
  ·rw[show (((j+1:Nat)):Int)=(j:Int)+1 by lia,yp];have a1:(o.take q.toNat++(j:Int)::o.drop q.toNat).Perm ((j:Int)::o):=by
    have:=List.perm_middle (a:=(j:Int)) (l₁:=o.take q.toNat) (l₂:=o.drop q.toNat)
    rwa[List.take_append_drop]at this
   exact a1.trans ((hp.cons _).trans (List.perm_append_comm (l₁:=[(j:Int)]) (l₂:=rng (j:Int))))
 ·rintro σ ⟨j,o,v3,hj,e,hp,rfl⟩;have hjm:(j:Int)=m:=by
   by_cases z:(j:Int)<m
   ·rw[jo z]at e;cases e
   ·lia
  rw[hjm]at hp;have hl:(o.length:Int)=m:=by rw[hp.length_eq,cG];lia
  have ho:=λ(i:Int) (h0:0<=i) (h:i<m)=>sR (o:=o) hl h0 h
  refine zq (σ:=TB m c o v3 (some (.lst [])) none) rfl ?_;have iok:=mG c m h2;refine dg (ds:=(rg2 1 m).map D.int) (λr σ=>∃(pre us:List Int) (v5:Option D),r=us.map D.int/\pre++us=rg2 1 m/\σ=TB m c o v3 (some (.lst (((pre.map λi=>(i,st c i%i)).map (zu o)).map prD))) v5) ?_ ⟨[],rg2 1 m,none,rfl,rfl,rfl⟩ ?_ ?_
  ·have s1:qV (1:Int)=true:=by decide
   rw[<-AQ];dsimp only[TB];generalize D.lst (o.map D.int)=OL at *;simp[KG.Z,hm,s1]
  ·rintro x t σ ⟨pre,us,v5,e,hus,rfl⟩;obtain⟨i,us,rfl,rfl,rfl⟩:=fx e;have hi:i∈rg2 1 m:=by rw[<-hus];simp
   obtain⟨i1,i2⟩:=iw.mp hi;have t0:0<=st c i%i:=Int.emod_nonneg _ (by lia);have t1:st c i%i<i:=Int.emod_lt_of_pos _ (by lia);refine⟨TB m c o v3 (some (.lst (((pre.map λi=>(i,st c i%i)).map (zu o)).map prD))) (some (.int i)),rfl,?_⟩;have a0:=ho i (by lia) i2;have a1:=ho (st c i%i) t0 (by lia);have e5:=ja hS (k:=k) c i;have z3:op2 .mod (.int (st c i)) (.int i)=.ok (.int (st c i%i)):=by
    show opI .mod _ _=_;rw[opI,if_pos (by lia)]
   have pl:pre.length<=8:=by
    have:=congrArg List.length hus;rw[br,rg2,aD,List.length_range]at this;lia
   have pz:((((pre.map λi=>(i,st c i%i)).map (zu o)).map prD)).length<SZ:=by simp[SZ];lia
   have hE:evE (wAt p (k+1)) (.bi .tuple (.cons (.bi .sorted (.cons (.lst (.cons (.ix (.own 2) (.var 5)) (.cons (.ix (.own 2) (.op .mod (.call "_law_stir" (.cons (.var 1) (.cons (.var 5) .nil))) (.var 5))) .nil))) .nil)) .nil)) (TB m c o v3 (some (.lst (((pre.map λi=>(i,st c i%i)).map (zu o)).map prD))) (some (.int i)))=.ok (prD (zu o (i,st c i%i))):=by
    have b1':b1 .sorted [.lst [.int (o.getD i.toNat 0),.int (o.getD (st c i%i).toNat 0)]]=.ok (.lst ((sortI [o.getD i.toNat 0,o.getD (st c i%i).toNat 0]).map D.int)):=rfl;have b2':b1 .tuple [.lst ((sortI [o.getD i.toNat 0,o.getD (st c i%i).toNat 0]).map D.int)]=.ok (prD (zu o (i,st c i%i))):=by rw[B5];rfl
    dsimp only[TB];generalize D.lst ((sortI [o.getD i.toNat 0,o.getD (st c i%i).toNat 0]).map D.int)=Y at *;generalize prD (zu o (i,st c i%i))=Z at *;generalize D.lst (((pre.map λi=>(i,st c i%i)).map (zu o)).map prD)=L4 at *;generalize D.lst (o.map D.int)=OL at *;generalize o.getD (st c i%i).toNat 0=A2 at *;generalize o.getD i.toNat 0=A1 at *;generalize st c i%i=R1 at *;generalize st c i=S1 at *;simp[KG.Z,a0,a1,e5,z3,b1',b2']
   refine zq (σ:=TB m c o v3 (some (.lst ((((pre++[i]).map λi=>(i,st c i%i)).map (zu o)).map prD))) (some (.int i))) ?_ (zx ⟨pre++[i],us,_,rfl,by simpa using hus,rfl⟩);rw[fk (xs:=(((pre.map λi=>(i,st c i%i)).map (zu o)).map prD)) (d:=prD (zu o (i,st c i%i))) rfl hE pz];simp only[List.map_append,aR,List.map_nil]
   rfl
  ·rintro σ ⟨pre,us,v5,e,hus,rfl⟩;cases us with
   |cons _ _=>cases e
   |nil=>
    rw[List.append_nil]at hus;subst hus;show Ends _ _ (qa (wAt p (k+1)) (.cons (.ret _) .nil) (TB m c o v3 (some (.lst (((It c m).map (zu o)).map prD))) v5));refine fD (d:=wb m (zw ((It c m).map (zu o)))) ?_ ⟨o,hp,rfl⟩;have t2:=la ((It c m).map (zu o)) (by rw[aD];have:=iok.len;lia);have t3:b1 .tuple [.lst ((zw ((It c m).map (zu o))).map prD)]=.ok (.tup ((zw ((It c m).map (zu o))).map prD)):=rfl;dsimp only[TB];show _=R.ok (D.tup [.int m,.tup ((zw ((It c m).map (zu o))).map prD)]);generalize D.lst (((It c m).map (zu o)).map prD)=L1 at *;generalize D.lst ((zw ((It c m).map (zu o))).map prD)=L2 at *;generalize D.tup ((zw ((It c m).map (zu o))).map prD)=L3 at *;generalize D.lst (o.map D.int)=OL at *;simp[KG.Z,t2,t3]
end KG
namespace KG
open EV
open PySem (Str)
open L2 (atI ixN ltP atK cm cL)
section
variable{m:Int}{ts:List (Int×Int)}
structure Tree(m:Int)(ts:List (Int×Int)):Prop where
 gw:GW m ts
 len:(ts.length:Int)=m-1
 con:∀a b,0<=a->a<m->0<=b->b<m->Rch m ts a b
theorem xH{a b:Int}(h:srt (a,b)∈ts)(ha:0<=a/\a<m):a∈hd m ts b:=by
 refine bZ.mpr ⟨cP.mpr ha,?_⟩;rw[bu];right;rw[dj,cW];refine⟨_,h,?_⟩;rw[srt,mn,mx,aC,beq_iff_eq,beq_iff_eq];split<;>split<;>split<;>(constructor<;>first|lia|rfl|(simp only;lia))
theorem sW{c:Int}{o:List Int}(h1:1<=m)(h2:m<=8)(hp:o.Perm (rng m)):Tree m (zw ((It c m).map (zu o))):=by
 have pm:=f_ ((It c m).map (zu o));have up:∀n:Nat,(n:Int)<m->Rch m (zw ((It c m).map (zu o))) (o.getD 0 0) (o.getD n 0):=by
  intro n
  induction n using Nat.strongRecOn with
  |ind n ih=>
   intro hn;by_cases z:n=0
   ·subst z;exact .refl _
   ·have t0:0<=st c (n:Int)%(n:Int):=Int.emod_nonneg _ (by lia);have t1:st c (n:Int)%(n:Int)<n:=Int.emod_lt_of_pos _ (by lia);have ht:zu o ((n:Int),st c (n:Int)%(n:Int))∈zw ((It c m).map (zu o)):=by
     refine pm.mem_iff.mpr (aN.mpr ⟨_,aN.mpr ⟨(n:Int),iw.mpr ⟨by lia,hn⟩,rfl⟩,rfl⟩)
    generalize st c (n:Int)%(n:Int)=q at *;have:=ih q.toNat (by lia) (by lia);refine this.step ?_;have hm:=iC hp (i:=(n:Int)) (by lia) hn;have hm':0<=o.getD n 0/\o.getD n 0<m:=by simpa using hm
    refine xH ?_ hm';have e:zu o ((n:Int),q)=srt (o.getD n 0,o.getD q.toNat 0):=by simp[zu]
    rwa[e]at ht
 have at_:∀a,0<=a->a<m->∃n:Nat,(n:Int)<m/\o.getD n 0=a:=λa a0 a1=>by
  obtain⟨n,hn,e⟩:=List.getElem_of_mem (hp.mem_iff.mpr (cP.mpr ⟨a0,a1⟩));refine⟨n,by rw[hp.length_eq,cG]at hn;lia,?_⟩;simp[List.getD,hn,e]
 have g:=ug h1 h2 hp (mG c m h2);have z0:0<=o.getD 0 0/\o.getD 0 0<m:=by simpa using iC hp (i:=0) (by lia) (by lia)
 refine⟨g,?_,λa b a0 a1 b0 b1=>?_⟩
 ·rw[pm.length_eq,aD,It,aD,rg2,aD,List.length_range];lia
 ·obtain⟨i,hi,rfl⟩:=at_ a a0 a1;obtain⟨j,hj,rfl⟩:=at_ b b0 b1;exact((up i hi).symm z0).1.trans (up j hj)
noncomputable def dv(kvs:List (Int×Int))(v:Int):Int:=(atK kvs v).getD 0
theorem Tree.at(T:Tree m ts){r:Int}(h0:0<=r)(h1:r<m){kvs:List (Int×Int)}(w:zN m ts r kvs){v:Int}(v0:0<=v)(v1:v<m):atK kvs v=some (dv kvs v)/\bC m ts r v (dv kvs v):=by
 obtain⟨k,hk⟩:=T.con r v h0 h1 v0 v1;obtain⟨d,hd'⟩:=w.all k v hk;have e:=(gB w.nd).mpr hd';have e2:dv kvs v=d:=by rw[dv,e];rfl
 rw[e2];exact⟨e,(w.ok _ hd').1⟩
theorem pH{r:Int}{kvs kvs':List (Int×Int)}(w:zN m ts r kvs)(w':zN m ts r kvs')(v:Int):dv kvs v=dv kvs' v:=by
 rw[dv,dv,w.get w' v]
theorem nS{r u v d e:Int}(hu:bC m ts r u d)(hv:bC m ts r v e)(h:v∈hd m ts u):e<=d+1:=by
 obtain⟨k,rfl,a1,a2⟩:=hu;have:=hv.le (k:=k+1) (.inr ⟨u,a1,h⟩);lia
theorem Aj{r v:Int}{d:Int}(hv:bC m ts r v d)(h:v≠r):∃u,v∈hd m ts u/\bC m ts r u (d-1):=by
 obtain⟨k,rfl,a1,a2⟩:=hv;cases k with
 |zero=>exact absurd a1 h
 |succ k=>
  rcases a1 with z|⟨u,z,hu⟩
  ·exact absurd z (a2 k (by lia))
  ·refine⟨u,hu,k,by lia,z,λj hj y=>a2 (j+1) (by lia) (.inr ⟨u,y,hu⟩)⟩
theorem tj{r d:Int}(h:bC m ts r r d):d=0:=by
 have:=h.le (k:=0) rfl;obtain⟨k,rfl,_⟩:=h;lia
noncomputable def nrr(m:Int)(ts kvs:List (Int×Int))(v:Int):List Int:=(hd m ts v).filter λo=>decide (dv kvs o<dv kvs v)
theorem nk{r:Int}(h0:0<=r/\r<m):∀{k:Nat}{v:Int},inR m ts r k v->0<=v/\v<m
 | 0,v,h=>by have h:v=r:=h;subst h;exact h0
 |k+1,v,.inl h=>nk h0 h
 |k+1,v,.inr ⟨u,_,h⟩=>dU h
theorem t4(T:Tree m ts){r:Int}(h0:0<=r)(h1:r<m){kvs:List (Int×Int)}(w:zN m ts r kvs){v:Int}(v0:0<=v)(v1:v<m):nrr m ts kvs v=(hd m ts v).filter λo=>decide (dv kvs o=dv kvs v-1):=by
 refine List.filter_congr λo ho=>?_
 obtain⟨o0,o1⟩:=dU ho;have a:=(T.at h0 h1 w v0 v1).2;have b:=(T.at h0 h1 w o0 o1).2;have:=nS b a (gS ⟨v0,v1⟩ ho);exact decide_eq_decide.mpr ⟨λ_=>by lia,λ_=>by lia⟩
noncomputable def hlr(m:Int)(ts kvs:List (Int×Int))(v:Int):Int:=(nrr m ts kvs v++[v]).headD 0
theorem yi(T:Tree m ts){r:Int}(h0:0<=r)(h1:r<m){kvs:List (Int×Int)}(w:zN m ts r kvs):hlr m ts kvs r=r:=by
 have e:nrr m ts kvs r=[]:=by
  rw[nrr,List.filter_eq_nil_iff];intro o ho;obtain⟨o0,o1⟩:=dU ho;have a:=tj (T.at h0 h1 w h0 h1).2;obtain⟨k,e,_⟩:=(T.at h0 h1 w o0 o1).2;simp only[decide_eq_true_eq];lia
 rw[hlr,e];rfl
theorem BX(T:Tree m ts){r:Int}(h0:0<=r)(h1:r<m){kvs:List (Int×Int)}(w:zN m ts r kvs){v:Int}(v0:0<=v)(v1:v<m)(hv:v≠r):∃x l,nrr m ts kvs v=x::l:=by
 obtain⟨u,hu,du⟩:=Aj (T.at h0 h1 w v0 v1).2 hv;obtain⟨k,_,hk,_⟩:=id du;obtain⟨u0,u1⟩:=nk ⟨h0,h1⟩ hk;have e:=(T.at h0 h1 w u0 u1).2.uniq du;have:u∈nrr m ts kvs v:=bZ.mpr ⟨gS ⟨u0,u1⟩ hu,by simp only[decide_eq_true_eq];lia⟩;cases q:nrr m ts kvs v with
 |nil=>rw[q]at this;cases this
 |cons x l=>exact⟨x,l,rfl⟩
theorem oF{kvs:List (Int×Int)}{v:Int}(v0:0<=v)(v1:v<m):0<=hlr m ts kvs v/\hlr m ts kvs v<m:=by
 rw[hlr];cases q:nrr m ts kvs v with
 |nil=>exact⟨v0,v1⟩
 |cons x l=>
  have:x∈nrr m ts kvs v:=by rw[q];exact aH
  exact dU (bZ.mp this).1
noncomputable def stp(m:Int)(ts kvs:List (Int×Int)):List Int->List (Int×Int)->List (Int×Int)
 | [],acc=>acc
 |v::l,acc=>stp m ts kvs l (if (acc.flatMap λq=>hd m ts q.2).any (· == v)then acc else acc++[(v,hlr m ts kvs v)])
theorem mq{kvs:List (Int×Int)}:∀(l:List Int) (acc:List (Int×Int)),(stp m ts kvs l acc).length<=acc.length+l.length
 | [],acc=>aB _
 |v::l,acc=>by
  rw[stp];have:=mq (kvs:=kvs) l (if (acc.flatMap λq=>hd m ts q.2).any (· == v)then acc else acc++[(v,hlr m ts kvs v)]);split at this
  ·rw[if_pos ‹_›,aU];lia
  ·rw[if_neg ‹_›,aU];rw[br]at this;simp only[aU,List.length_nil]at this;lia
noncomputable def frf(m:Int)(kvs:List (Int×Int)):List Int:=(rng m).reverse.flatMap λd=>(rng m).filter λv=>decide (dv kvs v=d)
theorem oz{kvs:List (Int×Int)}(h:∀v,0<=v->v<m->0<=dv kvs v/\dv kvs v<m):(zw ((rng m).map λv=>(- dv kvs v,v))).map (·.2)=frf m kvs:=by
 have e:(rng m).reverse.flatMap (λd=>((rng m).filter λv=>decide (dv kvs v=d)).map λv=>(-d,v))=zw ((rng m).map λv=>(- dv kvs v,v)):=by
  have mem:∀x:Int×Int,x∈(rng m).reverse.flatMap (λd=>((rng m).filter λv=>decide (dv kvs v=d)).map λv=>(-d,v))↔x∈(rng m).map λv=>(- dv kvs v,v):=λx=>by
   simp only[List.mem_flatMap,List.mem_reverse,aN,bZ,decide_eq_true_eq];constructor
   ·rintro⟨d,_,v,⟨hv,e⟩,rfl⟩;exact⟨v,hv,by rw[e]⟩
   ·rintro⟨v,hv,rfl⟩;obtain⟨v0,v1⟩:=cP.mp hv;exact⟨dv kvs v,cP.mpr (h v v0 v1),v,⟨hv,rfl⟩,rfl⟩
  have pw:((rng m).reverse.flatMap (λd=>((rng m).filter λv=>decide (dv kvs v=d)).map λv=>(-d,v))).Pairwise λa b=>ltP a b=true:=by
   rw[List.pairwise_flatMap];refine⟨λd _=>?_,?_⟩
   ·rw[List.pairwise_map];exact((gQ m).filter _).imp λ{a b} z=>by simp[ltP,z]
   ·rw[List.pairwise_reverse];refine(gQ m).imp λ{a b} z x hx y hy=>?_
    obtain⟨v,_,rfl⟩:=aN.mp hx;obtain⟨u,_,rfl⟩:=aN.mp hy;have z1:-b < -a:=by lia
    rw[ltP,if_neg (by simp only;lia)];exact decide_eq_true z1
  have nd1:((rng m).reverse.flatMap (λd=>((rng m).filter λv=>decide (dv kvs v=d)).map λv=>(-d,v))).Nodup:=pw.imp λ{a b} z e=>by
   subst e;rw[show ltP a a=false by simp[ltP]]at z;cases z
  have nd2:((rng m).map λv=>(- dv kvs v,v)).Nodup:=by
   rw[List.Nodup,List.pairwise_map];exact(gQ m).imp λ{a b} z e=>by injection e with _ e;lia
  refine lI ((List.perm_ext_iff_of_nodup nd1 nd2).mpr mem) (pw.imp λ{a b} z=>?_);cases q:ltP b a with
  |false=>rfl
  |true=>
   rw[ltP]at z q;split at z<;>split at q<;>(have z:=of_decide_eq_true z;have q:=of_decide_eq_true q;lia)
 rw[<-e,frf,List.map_flatMap];refine congrArg (λf=>List.flatMap f (rng m).reverse) (funext λd=>?_);rw[bz];exact List.map_id _
end
noncomputable def ke:Fn:=⟨1,3,false,(.cons (.exp (.call "need_web" (.cons (.var 0) .nil))) (.cons (.set (.tp [1,2]) (.var 0)) (.cons (.ret (.and (.cmp .eq (.bi .len (.cons (.call "pieces" (.cons (.var 0) .nil)) .nil)) (.con (.int 1))) (.cmp .eq (.bi .len (.cons (.var 2) .nil)) (.op .sub (.var 1) (.con (.int 1)))))) .nil)))⟩
noncomputable def iT:Fn:=⟨1,1,false,(.cons (.ite (.not (.val (.call "is_tree" (.cons (.var 0) .nil)))) (.cons .unk .nil) .nil) .nil)⟩
noncomputable def jD:Fn:=⟨2,3,false,(.cons (.exp (.call "need_tree" (.cons (.var 0) .nil))) (.cons (.exp (.call "need_place" (.cons (.var 0) (.cons (.var 1) .nil)))) (.cons (.set (.nm 2) (.call "ways_from" (.cons (.var 0) (.cons (.var 1) .nil)))) (.cons (.ret (.bi .tuple (.cons (.comp (.rng (.ix (.var 0) (.con (.int 0)))) [none,none,some 2,some 0] (.nm 1) .yes (.call "upper" (.cons (.var 3) (.cons (.var 2) (.cons (.var 1) .nil))))) .nil))) .nil))))⟩
noncomputable def kZ:Fn:=⟨3,4,false,(.cons (.set (.nm 3) (.comp (.seq (.call "hood_of" (.cons (.var 0) (.cons (.var 2) .nil)))) [none,none,some 2,some 1] (.nm 1) (.cmp .lt (.ix (.var 3) (.var 1)) (.ix (.var 3) (.var 2))) (.var 1))) (.cons (.ret (.ite (.val (.var 3)) (.ix (.var 3) (.con (.int 0))) (.neg (.con (.int 1))))) .nil))⟩
noncomputable def kL:Fn:=⟨2,3,false,(.cons (.exp (.call "need_tree" (.cons (.var 0) .nil))) (.cons (.exp (.call "need_place" (.cons (.var 0) (.cons (.var 1) .nil)))) (.cons (.set (.nm 2) (.call "ways_from" (.cons (.var 0) (.cons (.var 1) .nil)))) (.cons (.ret (.comp (.seq (.bi .sorted (.cons (.comp (.rng (.ix (.var 0) (.con (.int 0)))) [none,none,some 2] (.nm 1) .yes (.tup (.cons (.neg (.ix (.var 2) (.var 1))) (.cons (.var 1) .nil)))) .nil))) [none,none,none] (.tp [1,2]) .yes (.var 2))) .nil))))⟩
structure Trs(p:Pr)(b:Bool):Prop where
 web:Web p
 hds:Hds p
 ways_from:p.fns "ways_from" = some fU
 pieces:p.fns "pieces" = some (fX b)
 is_tree:p.fns "is_tree" = some ke
 need_tree:p.fns "need_tree" = some iT
 is_place:p.fns "is_place" = some eM
 need_place:p.fns "need_place" = some gp
 above:p.fns "above" = some jD
 upper:p.fns "upper" = some kZ
 from_far:p.fns "from_far" = some kL
theorem pv{S:Int->List Int}{s:List Int}:∀l:List Int,(∀a∈l,S a=s)->ddp S l [s]=[s]
 | [],_=>rfl
 |a::l,h=>by
  rw[ddp,h a aH,if_pos (by simp)];exact pv l λx hx=>h x (aI _ hx)
theorem s_{w:W}{it:EV.It}{cap:List (Option Nat)}{τ:Env}{l:List (Int×Int)}(h:evI w it τ=.ok (l.map prD))(hz:l.length<=SZ)(hc:dC cap τ=[none,none,none]):evE w (.comp it cap (.tp [1,2]) .yes (.var 2)) τ=.ok (.lst ((l.map (·.2)).map D.int)):=by
 have key:∀(r:List (Int×Int)) (v v':Option D) (acc:List D),bY (λx σ=>noEx ((store (.tp [1,2]) x σ).bind λσ'=>(evT w .yes σ').bind λr=>if r then (evE w (.var 2) σ').bind λd=>.ok (σ',[d])else .ok (σ',[]))) (r.map prD) [none,v,v'] acc=.ok (acc++(r.map (·.2)).map D.int):=by
  intro r
  induction r with
  |nil=>intro v v' acc;simp[bY]
  |cons x r ih=>
   intro v v' acc;rw[aR,bY];show bY _ (r.map prD) [none,some (.int x.1),some (.int x.2)] (acc++[.int x.2])=_;rw[ih];simp
 rw[evE,h];simp only[R.bind_ok];rw[if_neg (by simp;lia),hc,key l none none []]
 rfl
section
variable{p:Pr}{b:Bool}(P:Trs p b){m:Int}{ts:List (Int×Int)}(T:Tree m ts)
include P T
theorem yY{k:Nat}:qc p (k+6) "is_tree" [wb m ts]=.ok (.bl true):=by
 have h:=T.gw;have ex:∀a,∃kvs,0<=a->a<m->zN m ts a kvs/\qc p (k+4) "ways_from" [wb m ts,.int a]=.ok (.dic kvs):=λa=>by
  by_cases z:0<=a/\a<m
  ·obtain⟨kvs,w,e⟩:=ways_from P.hds.hood_of P.hds.are_tied P.ways_from (k:=k+1) h z.1 z.2;exact⟨kvs,λ_ _=>⟨w,e⟩⟩
  ·exact⟨[],λh1 h2=>absurd ⟨h1,h2⟩ z⟩
 have hW:=λa=>Classical.choose_spec (ex a)
 have e2:=KG.pieces P.web P.pieces h hW;have one:ddp (λa=>ks (Classical.choose (ex a))) (rng m) []=[ks (Classical.choose (ex 0))]:=by
  have h1:=h.lo;have e:rng m=0::rg2 1 m:=by rw[pK,jo (by lia)];rfl
  rw[e,ddp,if_neg (by simp),List.nil_append];refine pv _ λa ha=>?_
  obtain⟨a1,a2⟩:=iw.mp ha;exact(m7 ⟨Int.le_refl 0,by lia⟩ (hW 0 (by lia) (by lia)).1 (hW a (by lia) a2).1 (T.con 0 a (by lia) (by lia) (by lia) a2)).symm
 rw[one]at e2;have e1:=need_web P.web (k:=k+1) h;have l1:b1 .len [.lst ([ks (Classical.choose (ex 0))].map tu)]=.ok (.int 1):=rfl;have l2:b1 .len [.tup (ts.map prD)]=.ok (.int (ts.length)):=by rw[tY,aD]
 rw[T.len]at l2;have c1:=eq_int 1 1;have c2:=eq_int (m-1) (m-1);have o1:op2 .sub (.int m) (.int 1)=.ok (.int (m-1)):=rfl;rw[zh P.is_tree];refine zL (τ:=[some (wb m ts),none,none]) rfl rfl ?_;refine bR (σ:=[some (wb m ts),none,none]) (by generalize wb m ts=WB at *;simp[KG.Z,e1]) ?_;refine bR (σ:=[some (wb m ts),some (.int m),some (.tup (ts.map prD))]) rfl ?_;generalize D.tup (ts.map prD)=TT at *;generalize D.lst ([ks (Classical.choose (ex 0))].map tu)=PL at *;generalize wb m ts=WB at *;generalize m-1=M1 at *;simp[KG.Z,e2,l1,l2,c1,c2,o1]
theorem nZ{k:Nat}:qc p (k+7) "need_tree" [wb m ts]=.ok .non:=by
 have e:=yY P T (k:=k);generalize wb m ts=WB at *;rw[zh P.need_tree];simp only[cC];simp[KG.Z,iT,e]
omit T in
theorem mv{k:Nat}{i:Int}(h:0<=i/\i<m):qc p (k+4) "need_place" [wb m ts,.int i]=.ok .non:=by
 have e:qc p (k+3) "is_place" [wb m ts,.int i]=.ok (.bl true):=by
  rw[zh P.is_place];refine zL rfl rfl ?_;simp[KG.Z,KG.eM,ixD,atI,ixN,op2,is_between P.web i 0 (m-1) (by lia)]
 generalize wb m ts=WB at *;rw[zh P.need_place];simp only[cC];simp[KG.Z,KG.gp,e]
noncomputable def upv(m:Int)(ts kvs:List (Int×Int))(v:Int):Int:=(nrr m ts kvs v++[-1]).headD 0
theorem Cr{k:Nat}{r:Int}(h0:0<=r)(h1:r<m){kvs:List (Int×Int)}(w:zN m ts r kvs){v:Int}(v0:0<=v)(v1:v<m):qc p (k+3) "upper" [wb m ts,.dic kvs,.int v]=.ok (.int (upv m ts kvs v)):=by
 have hh:=KG.jN P.hds.hood_of P.hds.are_tied (k:=k) T.gw v;have ix:∀{o:Int},0<=o->o<m->ixD (.dic kvs) (.int o)=.ok (.int (dv kvs o)):=λ{o} o0 o1=>by
  simp only[ixD,(T.at h0 h1 w o0 o1).1]
 have hc:evE (wAt p (k+2)) (.comp (.seq (.call "hood_of" (.cons (.var 0) (.cons (.var 2) .nil)))) [none,none,some 2,some 1] (.nm 1) (.cmp .lt (.ix (.var 3) (.var 1)) (.ix (.var 3) (.var 2))) (.var 1)) [some (wb m ts),some (.dic kvs),some (.int v),none]=.ok (.lst ((nrr m ts kvs v).map D.int)):=by
  refine iS (f:=D.int) (l:=hd m ts v) (c:=[some (.int v),some (.dic kvs)]) (λo=>decide (dv kvs o<dv kvs v)) D.int ?_ ?_ rfl λo ho=>⟨?_,λ_=>rfl⟩
  ·refine k7 ?_;generalize wb m ts=WB at *;generalize D.dic kvs=DK at *;simp[KG.Z,hh]
  ·have:=List.length_filter_le (λb=>b==v||dj ts v b) (rng m);rw[cG]at this;have:=T.gw.hi;simp only[hd,SZ];lia
  ·obtain⟨o0,o1⟩:=dU ho;have a:=ix o0 o1;have c:=ix v0 v1;have l:=lt_int (dv kvs o) (dv kvs v);generalize D.dic kvs=DK at *;simp[KG.Z,a,c,l]
 rw[zh P.upper];refine zL (τ:=[some (wb m ts),some (.dic kvs),some (.int v),none]) rfl rfl ?_;refine bR (σ:=[some (wb m ts),some (.dic kvs),some (.int v),some (.lst ((nrr m ts kvs v).map D.int))]) (by
  show ((evE (wAt p (k+2)) _ _).out _)=_;rw[hc];rfl) ?_
 rw[upv];cases nrr m ts kvs v with
 |nil=>rfl
 |cons x l=>
  have a:=ix0 D.int x l;have te:evT (wAt p (k+2)) (.val (.var 3)) [some (wb m ts),some (.dic kvs),some (.int v),some (.lst ((x::l).map D.int))]=.ok true:=rfl;have xe:evE (wAt p (k+2)) (.ix (.var 3) (.con (.int 0))) [some (wb m ts),some (.dic kvs),some (.int v),some (.lst ((x::l).map D.int))]=.ok (.int x):=a;show qa (wAt p (k+2)) _ _=O.rt (.int x);rw[qa,evS.eq_5,evE.eq_15,te];simp only[R.bind_ok,if_true];rw[xe];rfl
theorem ye{k:Nat}{r:Int}(h0:0<=r)(h1:r<m):∃kvs,zN m ts r kvs/\qc p (k+8) "above" [wb m ts,.int r]=.ok (.tup ((rng m).map λv=>.int (upv m ts kvs v))):=by
 obtain⟨kvs,w,e⟩:=ways_from P.hds.hood_of P.hds.are_tied P.ways_from (k:=k+4) T.gw h0 h1;refine⟨kvs,w,?_⟩;have e1:=nZ P T (k:=k);have e2:=mv P (ts:=ts) (k:=k+3) ⟨h0,h1⟩;have hm:qV m=true:=by have:=T.gw.lo;have:=T.gw.hi;simp[qV];lia
 have hx:ixD (wb m ts) (.int 0)=.ok (.int m):=rfl;have hc:evE (wAt p (k+7)) (.comp (.rng (.ix (.var 0) (.con (.int 0)))) [none,none,some 2,some 0] (.nm 1) .yes (.call "upper" (.cons (.var 3) (.cons (.var 2) (.cons (.var 1) .nil))))) [some (wb m ts),some (.int r),some (.dic kvs)]=.ok (.lst ((rng m).map λv=>.int (upv m ts kvs v))):=by
  refine mi (f:=D.int) (c:=[some (.dic kvs),some (wb m ts)]) (λv=>.int (upv m ts kvs v)) ?_ ?_ rfl λv hv=>?_
  ·rw[<-dG];generalize wb m ts=WB at *;simp[KG.Z,hx,hm]
  ·have:=T.gw.hi;rw[cG];simp only[SZ];lia
  ·obtain⟨v0,v1⟩:=cP.mp hv;have u:=Cr P T (k:=k+4) h0 h1 w v0 v1;generalize wb m ts=WB at *;generalize D.dic kvs=DK at *;simp[KG.Z,u]
 rw[zh P.above];refine zL (τ:=[some (wb m ts),some (.int r),none]) rfl rfl ?_;refine bR (σ:=[some (wb m ts),some (.int r),none]) (by generalize wb m ts=WB at *;simp[KG.Z,e1]) ?_;refine bR (σ:=[some (wb m ts),some (.int r),none]) (by generalize wb m ts=WB at *;simp[KG.Z,e2]) ?_;refine bR (σ:=[some (wb m ts),some (.int r),some (.dic kvs)]) (by generalize wb m ts=WB at *;generalize D.dic kvs=DK at *;simp[KG.Z,e]) ?_;show qa (wAt p (k+7)) (.cons (.ret _) .nil) _=_;rw[qa,evS.eq_5,evE.eq_22,bB,hc]
 rfl
omit P in
theorem iI{r:Int}(h0:0<=r)(h1:r<m){kvs:List (Int×Int)}(w:zN m ts r kvs):∀v,0<=v->v<m->0<=dv kvs v/\dv kvs v<m:=λv v0 v1=>by
 have d:=(T.at h0 h1 w v0 v1).2;have:=nF h0 h1 d;obtain⟨k,e,_⟩:=d;lia
theorem vJ{k:Nat}{r:Int}(h0:0<=r)(h1:r<m){kvs:List (Int×Int)}(w:zN m ts r kvs):qc p (k+8) "from_far" [wb m ts,.int r]=.ok (.lst ((frf m kvs).map D.int)):=by
 obtain⟨kv2,w2,e⟩:=ways_from P.hds.hood_of P.hds.are_tied P.ways_from (k:=k+4) T.gw h0 h1;have e1:=nZ P T (k:=k);have e2:=mv P (ts:=ts) (k:=k+3) ⟨h0,h1⟩;have hm:qV m=true:=by have:=T.gw.lo;have:=T.gw.hi;simp[qV];lia
 have hx:ixD (wb m ts) (.int 0)=.ok (.int m):=rfl;have fe:frf m kvs=frf m kv2:=by
  rw[frf,frf];refine congrArg (λf=>List.flatMap f (rng m).reverse) (funext λd=>List.filter_congr λv _=>?_);rw[pH w w2]
 rw[fe,<-oz (iI T h0 h1 w2)];have hc:evE (wAt p (k+7)) (.comp (.rng (.ix (.var 0) (.con (.int 0)))) [none,none,some 2] (.nm 1) .yes (.tup (.cons (.neg (.ix (.var 2) (.var 1))) (.cons (.var 1) .nil)))) [some (wb m ts),some (.int r),some (.dic kv2)]=.ok (.lst (((rng m).map λv=>(- dv kv2 v,v)).map prD)):=by
  rw[bz];refine mi (f:=D.int) (c:=[some (.dic kv2)]) (λv=>prD (- dv kv2 v,v)) ?_ ?_ rfl λv hv=>?_
  ·rw[<-dG];generalize wb m ts=WB at *;simp[KG.Z,hx,hm]
  ·have:=T.gw.hi;rw[cG];simp only[SZ];lia
  ·obtain⟨v0,v1⟩:=cP.mp hv;have a:ixD (.dic kv2) (.int v)=.ok (.int (dv kv2 v)):=by simp only[ixD,(T.at h0 h1 w2 v0 v1).1]
   generalize D.dic kv2=DK at *;simp[KG.Z,a,evE.eq_7,prD,pairD]
 have l8:((rng m).map λv=>(- dv kv2 v,v)).length<=8:=by have:=T.gw.hi;rw[aD,cG];lia
 have hs:=la ((rng m).map λv=>(- dv kv2 v,v)) (by lia);have l9:(zw ((rng m).map λv=>(- dv kv2 v,v))).length<=8:=by rw[(f_ _).length_eq];exact l8
 rw[zh P.from_far];refine zL (τ:=[some (wb m ts),some (.int r),none]) rfl rfl ?_;refine bR (σ:=[some (wb m ts),some (.int r),none]) (by generalize wb m ts=WB at *;simp[KG.Z,e1]) ?_;refine bR (σ:=[some (wb m ts),some (.int r),none]) (by generalize wb m ts=WB at *;simp[KG.Z,e2]) ?_;refine bR (σ:=[some (wb m ts),some (.int r),some (.dic kv2)]) (by generalize wb m ts=WB at *;generalize D.dic kv2=DK at *;simp[KG.Z,e]) ?_;show qa (wAt p (k+7)) (.cons (.ret _) .nil) _=_;rw[qa,evS.eq_5,s_ (l:=zw ((rng m).map λv=>(- dv kv2 v,v))) (kC ?_) (by simp only[SZ];lia) rfl]
 ·rfl
 ·rw[evE.eq_22,bB,hc];exact hs
end
noncomputable def jl:Fn:=⟨2,8,true,(.cons (.set (.nm 2) (.call "above" (.cons (.var 0) (.cons (.var 1) .nil)))) (.cons (.set (.nm 3) (.call "hoods" (.cons (.var 0) .nil))) (.cons (.set (.nm 4) (.lst .nil)) (.cons (.set (.nm 5) (.lst .nil)) (.cons (.for (.nm 6) (.seq (.call "from_far" (.cons (.var 0) (.cons (.var 1) .nil)))) (.cons (.ite (.cmp .notin (.var 6) (.own 4)) (.cons (.set (.nm 7) (.ite (.cmp .eq (.var 6) (.var 1)) (.var 1) (.ix (.var 2) (.var 6)))) (.cons (.app 5 (.tup (.cons (.var 6) (.cons (.var 7) .nil)))) (.cons (.ext 4 (.ix (.var 3) (.var 7))) .nil))) .nil) .nil)) (.cons (.ret (.own 5)) .nil))))))⟩
noncomputable def k6:Fn:=⟨2,6,false,(.cons (.set (.nm 2) (.dic1 (.var 1) (.con (.int 0)))) (.cons (.for (.nm 3) (.rng (.ix (.var 0) (.con (.int 0)))) (.cons (.for (.nm 4) (.seq (.lsd (.own 2))) (.cons (.for (.nm 5) (.seq (.call "_law_hood" (.cons (.var 0) (.cons (.var 4) .nil)))) (.cons (.ite (.cmp .notin (.var 5) (.own 2)) (.cons (.seti 2 (.var 5) (.op .add (.ix (.own 2) (.var 4)) (.con (.int 1)))) .nil) .nil) .nil)) .nil)) .nil)) (.cons (.ret (.own 2)) .nil)))⟩
noncomputable def iH:Fn:=⟨2,8,false,(.cons (.set (.nm 2) (.call "_law_ways" (.cons (.var 0) (.cons (.var 1) .nil)))) (.cons (.set (.nm 3) (.lst .nil)) (.cons (.set (.nm 4) (.lst .nil)) (.cons (.for (.nm 5) (.rrev (.ix (.var 0) (.con (.int 0)))) (.cons (.for (.nm 6) (.rng (.ix (.var 0) (.con (.int 0)))) (.cons (.ite (.and (.cmp .eq (.ix (.var 2) (.var 6)) (.var 5)) (.cmp .eq (.callo "_law_holders" (.cons (.var 0) (.cons (.own 4) (.cons (.var 6) .nil)))) (.tup .nil))) (.cons (.set (.nm 7) (.comp (.seq (.call "_law_hood" (.cons (.var 0) (.cons (.var 6) .nil)))) [none,none,some 5,some 2] (.nm 1) (.cmp .eq (.ix (.var 3) (.var 1)) (.op .sub (.var 2) (.con (.int 1)))) (.var 1))) (.cons (.app 4 (.ix (.op .add (.var 7) (.lst (.cons (.var 6) .nil))) (.con (.int 0)))) (.cons (.app 3 (.tup (.cons (.var 6) (.cons (.ix (.own 4) (.neg (.con (.int 1)))) .nil)))) .nil))) .nil) .nil)) .nil)) (.cons (.ret (.own 3)) .nil)))))⟩
theorem BU(ns:List Int)(a:Int):qh .notin (.int a) (.lst (ns.map D.int))=.ok (!ns.any λt=>t==a):=by
 rw[qh];simp only[seq?];rw[if_pos (by simp only[aC,List.all_eq_true,aN];exact⟨rfl,λx ⟨t,_,e⟩=>e▸m8 t⟩),inD,List.any_map]
 rfl
theorem pL{m:Int}(f:Int->D){a:Int}(h0:0<=a)(h:a<m):ixD (.tup ((rng m).map f)) (.int a)=.ok (f a):=by
 obtain⟨j,rfl⟩:∃j:Nat,a=j:=⟨a.toNat,by lia⟩
 have hj:j<((rng m).map f).length:=by rw[aD,cG];lia
 have:=gy (xs:=(rng m).map f) (i:=j) hj;simp only[ixD];rw[this];simp[rng]
theorem yv(s:List Int)(x:Int):ixD (.lst ((s++[x]).map D.int)) (.int (-1))=.ok (.int x):=by
 have e:atI ((s++[x]).map D.int) (-1)=some (.int x):=by
  rw[atI,ixN,if_neg (by decide),if_pos (by rw[aD,br];simp only[aU,List.length_nil];lia)];show ((s++[x]).map D.int)[_]? = _;rw[show ((-1:Int)+(((s++[x]).map D.int).length:Nat)).toNat=s.length by rw[aD,br];simp only[aU,List.length_nil];lia];simp
 simp only[ixD];rw[e]
theorem we(ns:List Int):(tu ns).noL=true:=by
 show gO (ns.map D.int)=true
 induction ns with
 |nil=>rfl
 |cons a r ih=>rw[aR,gO,ih];rfl
theorem CJ(m:Int)(h:0<=m):fQ (m-1) (-1) m.toNat=(rng m).reverse.map D.int:=by
 rw[fQ,rng,<-List.map_reverse,bz];refine List.ext_getElem (by simp) λi h1 h2=>?_
 simp at h1 h2 ⊢;lia
section
variable{m:Int}{ts:List (Int×Int)}
theorem Aw{kvs:List (Int×Int)}{v:Int}(h:v∈frf m kvs):0<=v/\v<m:=by
 obtain⟨d,_,h⟩:=List.mem_flatMap.mp h;exact cP.mp (bZ.mp h).1
theorem jv{kvs:List (Int×Int)}(h:∀v,0<=v->v<m->0<=dv kvs v/\dv kvs v<m):(frf m kvs).length=m.toNat:=by
 rw[<-oz h,aD,(f_ _).length_eq,aD,cG]
theorem hU(h:m<=8)(a:Int):(hd m ts a).length<=8:=ba (List.length_filter_le _ _) (by rw[cG];lia)
theorem o6(h:m<=8):∀acc:List (Int×Int),(acc.flatMap λq=>hd m ts q.2).length<=8 * acc.length
 | []=>aB _
 |q::l=>by
  rw[dk,br,aU];have:=hU (ts:=ts) h q.2;have:=o6 h l;lia
theorem BW{acc:List (Int×Int)}(ha:∀q∈acc,0<=q.2/\q.2<m){v:Int}(hv:0<=v/\v<m):((acc.flatMap λq=>hd m ts q.2).any (· == v)) = !decide (((hd m ts v).filter λx=>(acc.map (·.2)).any λt=>t==x)=[]):=by
 rw[Bool.eq_iff_iff,aY,decide_eq_false_iff_not,List.filter_eq_nil_iff];simp only[cW,List.mem_flatMap,beq_iff_eq,aN];constructor
 ·rintro⟨x,⟨q,hq,hx⟩,rfl⟩ h;exact h q.2 (gS (ha q hq) hx) ⟨q.2,⟨q,hq,rfl⟩,rfl⟩
 ·intro h;refine Classical.byContradiction λz=>h λx hx=>?_
  rintro⟨y,⟨q,hq,rfl⟩,rfl⟩;exact z ⟨v,⟨q,hq,gS hv hx⟩,rfl⟩
end
theorem ot{m:Int}{ts kvs:List (Int×Int)}{v:Int}{l:List Int}{acc:List (Int×Int)}:stp m ts kvs (v::l) acc=stp m ts kvs l (if (acc.flatMap λq=>hd m ts q.2).any (· == v)then acc else acc++[(v,hlr m ts kvs v)]):=rfl
abbrev SE8(m:Int)(ts kvs:List (Int×Int))(r:Int)(acc:List (Int×Int))(v6 v7:Option D):Env:=[some (wb m ts),some (.int r),some (.tup ((rng m).map λv=>.int (upv m ts kvs v))),some (.tup ((rng m).map λa=>tu (hd m ts a))),some (.lst ((acc.flatMap λq=>hd m ts q.2).map D.int)),some (.lst (acc.map prD)),v6,v7]
section
variable{p:Pr}{b:Bool}(P:Trs p b)(hf:p.fns "steps" = some jl){m:Int}{ts:List (Int×Int)}(T:Tree m ts)
include P hf T
theorem xP{k:Nat}{r:Int}(h0:0<=r)(h1:r<m):∃kvs,zN m ts r kvs/\qc p (k+9) "steps" [wb m ts,.int r]=.ok (.lst ((stp m ts kvs (frf m kvs) []).map prD)):=by
 have h8:=T.gw.hi;obtain⟨kvs,w,ea⟩:=ye P T (k:=k) h0 h1;have ef:=vJ P T (k:=k) h0 h1 w;have eh:=KG.hoods P.web P.hds (k:=k+3) T.gw;refine⟨kvs,w,?_⟩
 suffices hs:∃d,qc p (k+9) "steps" [wb m ts,.int r]=.ok d/\d=.lst ((stp m ts kvs (frf m kvs) []).map prD)by
  obtain⟨d,e,rfl⟩:=hs;exact e
 refine jk (k:=k+8) (τ:=[some (wb m ts),some (.int r),none,none,none,none,none,none]) hf rfl rfl ?_;refine zq (σ:=[some (wb m ts),some (.int r),some (.tup ((rng m).map λv=>.int (upv m ts kvs v))),none,none,none,none,none]) (by
  generalize D.tup ((rng m).map λv=>.int (upv m ts kvs v))=UV at *;generalize wb m ts=WB at *;simp[KG.Z,ea]) ?_
 refine zq (σ:=[some (wb m ts),some (.int r),some (.tup ((rng m).map λv=>.int (upv m ts kvs v))),some (.tup ((rng m).map λa=>tu (hd m ts a))),none,none,none,none]) (by
  generalize D.tup ((rng m).map λv=>.int (upv m ts kvs v))=UV at *;generalize D.tup ((rng m).map λa=>tu (hd m ts a))=HS at *;generalize wb m ts=WB at *;simp[KG.Z,eh]) ?_
 refine zq (σ:=[some (wb m ts),some (.int r),some (.tup ((rng m).map λv=>.int (upv m ts kvs v))),some (.tup ((rng m).map λa=>tu (hd m ts a))),some (.lst []),none,none,none]) rfl ?_;refine zq (σ:=SE8 m ts kvs r [] none none) rfl ?_;have fl:=jv (iI T h0 h1 w);refine dg (ds:=(frf m kvs).map D.int) (λl σ=>∃(vs:List Int) (acc:List (Int×Int)) (v6 v7:Option D),l=vs.map D.int/\(∀v∈vs,0<=v/\v<m)/\stp m ts kvs vs acc=stp m ts kvs (frf m kvs) []/\acc.length+vs.length<=8/\σ=SE8 m ts kvs r acc v6 v7) ?_ ⟨frf m kvs,[],none,none,rfl,λv hv=>Aw hv,rfl,by rw[fl];simp;lia,rfl⟩ ?_ ?_
 ·refine kC ?_;dsimp only[SE8];generalize D.lst ((frf m kvs).map D.int)=FF at *;generalize wb m ts=WB at *;generalize D.tup ((rng m).map λv=>.int (upv m ts kvs v))=UV at *;generalize D.tup ((rng m).map λa=>tu (hd m ts a))=HS at *;simp[KG.Z,ef]
 ·rintro x l σ ⟨vs,acc,v6,v7,e,hvs,hst,hlen,rfl⟩;obtain⟨v,vs,rfl,rfl,rfl⟩:=fx e;obtain⟨v0,v1⟩:=hvs v aH;rw[ot]at hst;rw[aU]at hlen;refine⟨SE8 m ts kvs r acc (some (.int v)) v7,rfl,?_⟩;have c1:=BU (acc.flatMap λq=>hd m ts q.2) v;have hl:=o6 (ts:=ts) h8 acc;have t1:evT (wAt p (k+8)) (.cmp .notin (.var 6) (.own 4)) (SE8 m ts kvs r acc (some (.int v)) v7)=.ok (!(acc.flatMap λq=>hd m ts q.2).any λt=>t==v):=by
   dsimp only[SE8];generalize D.lst ((acc.flatMap λq=>hd m ts q.2).map D.int)=HL at *;generalize (!(acc.flatMap λq=>hd m ts q.2).any λt=>t==v)=bb at *;generalize wb m ts=WB at *;simp[KG.Z,c1]
  cases q:(acc.flatMap λq=>hd m ts q.2).any (· == v)with
  |true=>
   rw[q]at t1 hst;rw[if_pos rfl]at hst;refine zq (σ:=SE8 m ts kvs r acc (some (.int v)) v7) ?_ (zx ⟨vs,acc,_,_,rfl,λy hy=>hvs y (aI _ hy),hst,by lia,rfl⟩);rw[evS.eq_7,t1]
   rfl
  |false=>
   rw[q]at t1 hst;rw[if_neg (by decide)]at hst;obtain⟨w0,w1⟩:=oF (ts:=ts) (kvs:=kvs) v0 v1;have hv:evE (wAt p (k+8)) (.ite (.cmp .eq (.var 6) (.var 1)) (.var 1) (.ix (.var 2) (.var 6))) (SE8 m ts kvs r acc (some (.int v)) v7)=.ok (.int (hlr m ts kvs v)):=by
    have ce:=eq_int v r;have te:evT (wAt p (k+8)) (.cmp .eq (.var 6) (.var 1)) (SE8 m ts kvs r acc (some (.int v)) v7)=.ok (decide (v=r)):=ce;rw[evE.eq_15,te];simp only[R.bind_ok];by_cases z:v=r
    ·rw[decide_eq_true z,if_pos rfl,z,yi T h0 h1 w]
     rfl
    ·rw[decide_eq_false z,if_neg (by decide)];have a:=pL (λv=>.int (upv m ts kvs v)) v0 v1;obtain⟨x,l,e⟩:=BX T h0 h1 w v0 v1 z;have e2:upv m ts kvs v=hlr m ts kvs v:=by rw[upv,hlr,e];rfl
     simp only[e2]at a;exact a
   have hx:=pL (λa=>tu (hd m ts a)) w0 w1;have s1:evS (wAt p (k+8)) (.set (.nm 7) (.ite (.cmp .eq (.var 6) (.var 1)) (.var 1) (.ix (.var 2) (.var 6)))) (SE8 m ts kvs r acc (some (.int v)) v7)=.nx (SE8 m ts kvs r acc (some (.int v)) (some (.int (hlr m ts kvs v)))):=by
    rw[evS.eq_1,hv];rfl
   have az:(acc.map prD).length<SZ:=by rw[aD];simp only[SZ];lia
   have s2:evS (wAt p (k+8)) (.app 5 (.tup (.cons (.var 6) (.cons (.var 7) .nil)))) (SE8 m ts kvs r acc (some (.int v)) (some (.int (hlr m ts kvs v))))=.nx ((SE8 m ts kvs r acc (some (.int v)) (some (.int (hlr m ts kvs v)))).set 5 (some (.lst ((acc++[(v,hlr m ts kvs v)]).map prD)))):=by
    rw[fk (xs:=acc.map prD) (d:=prD (v,hlr m ts kvs v)) rfl rfl az,List.map_append];rfl
   have s3:evS (wAt p (k+8)) (.ext 4 (.ix (.var 3) (.var 7))) ((SE8 m ts kvs r acc (some (.int v)) (some (.int (hlr m ts kvs v)))).set 5 (some (.lst ((acc++[(v,hlr m ts kvs v)]).map prD))))=.nx (SE8 m ts kvs r (acc++[(v,hlr m ts kvs v)]) (some (.int v)) (some (.int (hlr m ts kvs v)))):=by
    have xe:evE (wAt p (k+8)) (.ix (.var 3) (.var 7)) ((SE8 m ts kvs r acc (some (.int v)) (some (.int (hlr m ts kvs v)))).set 5 (some (.lst ((acc++[(v,hlr m ts kvs v)]).map prD))))=.ok (tu (hd m ts (hlr m ts kvs v))):=hx;rw[evS.eq_21];show ((evE (wAt p (k+8)) (.ix (.var 3) (.var 7)) _).out _)=_;rw[xe];have hh:=hU (ts:=ts) h8 (hlr m ts kvs v);show (if ((acc.flatMap λq=>hd m ts q.2).map D.int).length+((hd m ts (hlr m ts kvs v)).map D.int).length<SZ then EV.O.nx _ else EV.O.no)=_;rw[if_pos (by rw[aD,aD];simp only[SZ];lia),<-List.map_append];have e:(acc.flatMap λq=>hd m ts q.2)++hd m ts (hlr m ts kvs v)=(acc++[(v,hlr m ts kvs v)]).flatMap λq=>hd m ts q.2:=by rw[List.flatMap_append];simp
    rw[e]
    rfl
   refine zq (σ:=SE8 m ts kvs r (acc++[(v,hlr m ts kvs v)]) (some (.int v)) (some (.int (hlr m ts kvs v)))) ?_ (zx ⟨vs,_,_,_,rfl,λy hy=>hvs y (aI _ hy),hst,by rw[br];simp only[aU,List.length_nil];lia,rfl⟩);rw[evS.eq_7,t1];show qa (wAt p (k+8)) (.cons _ (.cons _ (.cons _ .nil))) _=_;rw[qa,s1];show qa (wAt p (k+8)) (.cons _ (.cons _ .nil)) _=_;rw[qa,s2];show qa (wAt p (k+8)) (.cons _ .nil) _=_;rw[qa,s3]
   rfl
 ·rintro σ ⟨vs,acc,v6,v7,e,hvs,hst,hlen,rfl⟩;cases vs with
  |cons _ _=>cases e
  |nil=>
   have e:acc=stp m ts kvs (frf m kvs) []:=hst;refine fD (d:=.lst (acc.map prD)) rfl ?_;rw[e]
end
section
variable{m:Int}{ts:List (Int×Int)}{r:Int}
structure Ex(m:Int)(ts:List (Int×Int))(r:Int)(t:Nat)(kvs:List (Int×Int)):Prop where
 nd:(kvs.map (·.1)).Nodup
 ok:∀q∈kvs,bC m ts r q.1 q.2/\0<=q.1/\q.1<m
 bd:∀q∈kvs,q.2<=t
 all:∀(k:Nat) v,k<=t->inR m ts r k v->Key kvs v
structure Ey(m:Int)(ts:List (Int×Int))(r:Int)(t:Nat)(old kvs:List (Int×Int)):Prop where
 nd:(kvs.map (·.1)).Nodup
 ok:∀q∈kvs,bC m ts r q.1 q.2/\0<=q.1/\q.1<m
 bd:∀q∈kvs,q.2<=(t:Int)+1
 sub:∀q∈old,q∈kvs
theorem Ex.start(h0:0<=r)(h1:r<m):Ex m ts r 0 [(r,0)]:=by
 refine⟨by simp,λq hq=>?_,λq hq=>?_,λk v hk q=>?_⟩
 ·have:q=(r,0):=by simpa using hq
  subst this;exact⟨⟨0,rfl,rfl,λj z=>by lia⟩,h0,h1⟩
 ·have:q=(r,0):=by simpa using hq
  subst this;exact Int.le_refl _
 ·have:k=0:=by lia
  subst this;have q:v=r:=q;subst q;exact⟨0,by simp⟩
theorem Ey.add{t:Nat}{old kvs:List (Int×Int)}(x:Ex m ts r t old)(y:Ey m ts r t old kvs){u du w:Int}(hu:(u,du)∈old)(hw:w∈hd m ts u)(hn:¬ Key kvs w):Ey m ts r t old (kvs++[(w,du+1)]):=by
 have dw:bC m ts r w (du+1):=by
  obtain⟨⟨k,e,a1,a2⟩,u0,u1⟩:=x.ok _ hu;obtain⟨e',he⟩:=m6 (m:=m) (ts:=ts) (r:=r) (k:=k+1) (.inr ⟨u,a1,hw⟩);have l1:=nS ⟨k,e,a1,a2⟩ he hw;have l2:=x.bd _ hu;obtain⟨j,ej,b1,b2⟩:=id he;by_cases z:j<=t
  ·obtain⟨d,hd'⟩:=x.all j w z b1;exact absurd ⟨d,y.sub _ hd'⟩ hn
  ·have:e'=du+1:=by simp only at e l2 ⊢;lia
   rw[<-this];exact he
 refine⟨?_,λq hq=>?_,λq hq=>?_,λq hq=>List.mem_append_left _ (y.sub q hq)⟩
 ·rw[List.map_append,List.nodup_append];refine⟨y.nd,by simp,λa ha b hb e=>?_⟩;have:b=w:=by simpa using hb
  subst this e;obtain⟨q,hq,rfl⟩:=aN.mp ha;exact hn ⟨q.2,hq⟩
 ·rcases List.mem_append.mp hq with z|z
  ·exact y.ok q z
  ·have:q=(w,du+1):=by simpa using z
   subst this;exact⟨dw,dU hw⟩
 ·rcases List.mem_append.mp hq with z|z
  ·exact y.bd q z
  ·have:q=(w,du+1):=by simpa using z
   subst this;have:=x.bd _ hu;simp only at this ⊢;lia
theorem Ey.done{t:Nat}{old kvs:List (Int×Int)}(x:Ex m ts r t old)(y:Ey m ts r t old kvs)(h:∀q∈old,∀w∈hd m ts q.1,Key kvs w):Ex m ts r (t+1) kvs:=by
 refine⟨y.nd,y.ok,λq hq=>by have:=y.bd q hq;lia,λk v hk q=>?_⟩;have old':∀k v,k<=t->inR m ts r k v->Key kvs v:=λk v hk q=>by
  obtain⟨d,hd'⟩:=x.all k v hk q;exact⟨d,y.sub _ hd'⟩
 have q:=oV hk q;rcases q with z|⟨u,z,hu⟩
 ·exact old' t v (aB _) z
 ·obtain⟨d,hd'⟩:=x.all t u (aB _) z;exact h _ hd' v hu
theorem Ex.ways{t:Nat}{kvs:List (Int×Int)}(h0:0<=r)(h1:r<m)(x:Ex m ts r t kvs)(ht:m<=t):zN m ts r kvs:=by
 refine⟨x.nd,x.ok,λk w q=>?_⟩;obtain⟨d,hd'⟩:=m6 q;have:=nF h0 h1 hd';obtain⟨j,e,a1,_⟩:=hd';exact x.all j w (by lia) a1
end
abbrev WX(m:Int)(ts:List (Int×Int))(r:Int)(kvs:List (Int×Int))(v3 v4 v5:Option D):Env:=[some (wb m ts),some (.int r),some (.dic kvs),v3,v4,v5]
section
variable{p:Pr}(hH:p.fns "_law_hood" = some ei)(hf:p.fns "_law_ways" = some k6)
include hH hf
theorem xN{k:Nat}{m:Int}{ts:List (Int×Int)}(h:GW m ts){r:Int}(h0:0<=r)(h1:r<m):∃kvs,zN m ts r kvs/\qc p (k+2) "_law_ways" [wb m ts,.int r]=.ok (.dic kvs):=by
 have h8:=h.hi;have hx:ixD (wb m ts) (.int 0)=.ok (.int m):=rfl;have hm:qV m=true:=by have:=h.lo;simp[qV];lia
 have hood:∀a:Int,0<=a->a<m->qc p (k+1) "_law_hood" [wb m ts,.int a]=.ok (tu (hd m ts a)):=λa a0 a1=>jx hH (k:=k) h ⟨a0,a1⟩
 suffices hs:∃d,qc p (k+2) "_law_ways" [wb m ts,.int r]=.ok d/\∃kvs,zN m ts r kvs/\d=.dic kvs by
  obtain⟨d,e,kvs,w,rfl⟩:=hs;exact⟨kvs,w,e⟩
 refine jk (k:=k+1) (τ:=[some (wb m ts),some (.int r),none,none,none,none]) hf rfl rfl ?_;refine zq (σ:=WX m ts r [(r,0)] none none none) rfl ?_;refine dg (ds:=(rng m).map D.int) (λl σ=>∃(t:Nat) (kvs:List (Int×Int)) (v3 v4 v5:Option D),l.length=m.toNat-t/\(t:Int)<=m/\Ex m ts r t kvs/\σ=WX m ts r kvs v3 v4 v5) ?_ ⟨0,[(r,0)],none,none,none,by rw[aD,cG];rfl,by lia,.start h0 h1,rfl⟩ ?_ ?_
 ·rw[<-dG];dsimp only[WX];generalize wb m ts=WB at *;simp[KG.Z,hx,hm]
 ·rintro x l σ ⟨t,kvs,v3,v4,v5,hl,htm,X,rfl⟩;refine⟨WX m ts r kvs (some x) v4 v5,rfl,?_⟩;have htl:(t:Int)+1<=m:=by rw[aU]at hl;lia
  refine dg (ds:=(kvs.map (·.1)).map D.int) (λl σ=>∃(us:List (Int×Int)) (kv2:List (Int×Int)) (v4 v5:Option D),l=(us.map (·.1)).map D.int/\(∀q∈us,q∈kvs)/\Ey m ts r t kvs kv2/\(∀q∈kvs,q∈us\/∀w∈hd m ts q.1,Key kv2 w)/\σ=WX m ts r kv2 (some x) v4 v5) ?_ ⟨kvs,kvs,v4,v5,rfl,λ_ h=>h,⟨X.nd,X.ok,λq hq=>by have:=X.bd q hq;lia,λ_ h=>h⟩,λ_ h=>.inl h,rfl⟩ ?_ ?_
  ·refine kC ?_;show R.ok (D.lst (kvs.map λp=>.int p.1))=_;rw[bz];rfl
  ·rintro y l' σ ⟨us,kv2,v4',v5',e,hus,Y,lk,rfl⟩;cases us with
   |nil=>cases e
   |cons q us=>
    simp only[aR,List.cons.injEq]at e;obtain⟨rfl,rfl⟩:=e;have hq:=hus q aH;obtain⟨_,u0,u1⟩:=X.ok q hq;have hh:=hood q.1 u0 u1;refine⟨WX m ts r kv2 (some x) (some (.int q.1)) v5',rfl,?_⟩;refine dg (ds:=(hd m ts q.1).map D.int) (λl σ=>∃(ws:List Int) (kv3:List (Int×Int)) (v5:Option D),l=ws.map D.int/\(∀w∈ws,w∈hd m ts q.1)/\Ey m ts r t kvs kv3/\(∀w,Key kv2 w->Key kv3 w)/\(∀w∈hd m ts q.1,w∈ws\/Key kv3 w)/\σ=WX m ts r kv3 (some x) (some (.int q.1)) v5) ?_ ⟨hd m ts q.1,kv2,v5',rfl,λ_ h=>h,Y,λ_ h=>h,λ_ h=>.inl h,rfl⟩ ?_ ?_
    ·dsimp only[WX];have e:seq? (tu (hd m ts q.1))=some ((hd m ts q.1).map D.int):=rfl;generalize tu (hd m ts q.1)=TH at *;generalize wb m ts=WB at *;generalize D.dic kv2=DK at *;simp[KG.Z,hh,e]
    ·rintro y l2 σ ⟨ws,kv3,v5'',e,hws,Z,ls,pr,rfl⟩;obtain⟨w,ws,rfl,rfl,rfl⟩:=fx e;refine⟨WX m ts r kv3 (some x) (some (.int q.1)) (some (.int w)),rfl,?_⟩;by_cases z:Key kv3 w
     ·have c1:qh .notin (.int w) (.dic kv3)=.ok false:=by
       simp only[qh,seq?,cN,R.bind_ok,(fw kv3 w).mpr z];rfl
      refine zq (σ:=WX m ts r kv3 (some x) (some (.int q.1)) (some (.int w))) ?_ (zx ⟨ws,kv3,_,rfl,λy hy=>hws y (aI _ hy),Z,ls,λy hy=>?_,rfl⟩)
      ·dsimp only[WX];generalize wb m ts=WB at *;generalize D.dic kv3=DK at *;simp[KG.Z,c1]
      ·rcases pr y hy with z'|z'
       ·rcases aF.mp z' with rfl|z'
        ·exact .inr z
        ·exact .inl z'
       ·exact .inr z'
     ·have c1:qh .notin (.int w) (.dic kv3)=.ok true:=by
       have:(kv3.any λp=>decide (p.1=w))=false:=by
        cases q:(kv3.any λp=>decide (p.1=w))with
        |false=>rfl
        |true=>exact absurd ((fw kv3 w).mp q) z
       simp only[qh,seq?,cN,R.bind_ok,this];rfl
      have Z':=Z.add X (u:=q.1) (du:=q.2) hq (hws w aH) z;have kl:=fN Z.nd λy hy=>by
       obtain⟨p,hp,rfl⟩:=aN.mp hy;exact(Z.ok p hp).2
      rw[aD]at kl;have kz:kv3.length<SZ:=by simp only[SZ];lia
      have pn:=mD (d:=q.2+1) z;have at1:ixD (.dic kv3) (.int q.1)=.ok (.int q.2):=by
       simp only[ixD,(gB Z.nd).mpr (Z.sub q hq)]
      have a1:op2 .add (.int q.2) (.int 1)=.ok (.int (q.2+1)):=rfl;have st1:evS (wAt p (k+1)) (.seti 2 (.var 5) (.op .add (.ix (.own 2) (.var 4)) (.con (.int 1)))) (WX m ts r kv3 (some x) (some (.int q.1)) (some (.int w)))=.nx (WX m ts r (kv3++[(w,q.2+1)]) (some x) (some (.int q.1)) (some (.int w))):=by
       have e1:evE (wAt p (k+1)) (.op .add (.ix (.own 2) (.var 4)) (.con (.int 1))) (WX m ts r kv3 (some x) (some (.int q.1)) (some (.int w)))=.ok (.int (q.2+1)):=by
        dsimp only[WX];generalize wb m ts=WB at *;generalize D.dic kv3=DK at *;generalize q.2+1=Q1 at *;simp[KG.Z,at1,a1]
       rw[evS.eq_3,e1];show (if kv3.length<SZ then EV.O.nx _ else EV.O.no)=_;rw[if_pos kz,pn];rfl
      have t1:evT (wAt p (k+1)) (.cmp .notin (.var 5) (.own 2)) (WX m ts r kv3 (some x) (some (.int q.1)) (some (.int w)))=.ok true:=by
       dsimp only[WX];generalize wb m ts=WB at *;generalize D.dic kv3=DK at *;simp[KG.Z,c1]
      refine zq (σ:=WX m ts r (kv3++[(w,q.2+1)]) (some x) (some (.int q.1)) (some (.int w))) ?_ (zx ⟨ws,_,_,rfl,λy hy=>hws y (aI _ hy),Z',λy hy=>fq (ls y hy),λy hy=>?_,rfl⟩)
      ·rw[evS.eq_7,t1];simp only[R.out_ok,if_true];rw[qa,st1];rfl
      ·rcases pr y hy with z'|z'
       ·rcases aF.mp z' with rfl|z'
        ·exact .inr ⟨q.2+1,by simp⟩
        ·exact .inl z'
       ·exact .inr (fq z')
    ·rintro σ ⟨ws,kv3,v5'',e,hws,Z,ls,pr,rfl⟩;cases ws with
     |cons _ _=>cases e
     |nil=>
      refine zx ⟨us,kv3,_,_,rfl,λy hy=>hus y (aI _ hy),Z,λy hy=>?_,rfl⟩;rcases lk y hy with z|z
      ·rcases aF.mp z with rfl|z
       ·refine .inr λw hw=>?_
        rcases pr w hw with z|z
        ·cases z
        ·exact z
       ·exact .inl z
      ·exact .inr λw hw=>ls w (z w hw)
  ·rintro σ ⟨us,kv2,v4',v5',e,hus,Y,lk,rfl⟩;cases us with
   |cons _ _=>cases e
   |nil=>
    refine zx ⟨t+1,kv2,_,_,_,by rw[aU]at hl;lia,by lia,Y.done X λq hq w hw=>?_,rfl⟩;rcases lk q hq with z|z
    ·cases z
    ·exact z w hw
 ·rintro σ ⟨t,kvs,v3,v4,v5,hl,htm,X,rfl⟩;have e:m<=(t:Int):=by simp only[List.length_nil]at hl;lia
  exact fD (d:=.dic kvs) rfl ⟨kvs,X.ways h0 h1 e,rfl⟩
end
theorem wI{m r:Int}{ts kvs kv2:List (Int×Int)}(w:zN m ts r kvs)(w2:zN m ts r kv2):stp m ts kvs (frf m kvs) []=stp m ts kv2 (frf m kv2) []:=by
 have e:dv kvs=dv kv2:=funext λv=>pH w w2 v
 have e1:frf m kvs=frf m kv2:=by rw[frf,frf,e]
 have e2:hlr m ts kvs=hlr m ts kv2:=funext λv=>by rw[hlr,hlr,nrr,nrr,e]
 rw[e1];generalize frf m kv2=l;generalize ([]:List (Int×Int))=acc
 induction l generalizing acc with
 |nil=>rfl
 |cons v l ih=>rw[stp,stp,ih,e2]
abbrev DE(m:Int)(ts kvs:List (Int×Int))(r:Int)(acc:List (Int×Int))(v5 v6 v7:Option D):Env:=[some (wb m ts),some (.int r),some (.dic kvs),some (.lst (acc.map prD)),some (.lst ((acc.map (·.2)).map D.int)),v5,v6,v7]
section
variable{p:Pr}(hH:p.fns "_law_hood" = some ei)(hW:p.fns "_law_ways" = some k6)(hO:p.fns "_law_holders" = some fM)(hf:p.fns "_law_due" = some iH){m:Int}{ts:List (Int×Int)}
include hH hO in
theorem yU{k:Nat}(h:GW m ts)(s:List Int){a:Int}(ha:0<=a/\a<m):qc p (k+2) "_law_holders" [wb m ts,.lst (s.map D.int),.int a]=.ok (tu ((hd m ts a).filter λx=>s.any λt=>t==x)):=by
 have hh:=jx hH (k:=k) h ha;rw[zh hO];refine zL (τ:=[some (wb m ts),some (.lst (s.map D.int)),some (.int a)]) rfl rfl ?_;have hc:evE (wAt p (k+1)) (.comp (.seq (.call "_law_hood" (.cons (.var 0) (.cons (.var 2) .nil)))) [none,none,some 1] (.nm 1) (.cmp .isin (.var 1) (.var 2)) (.var 1)) [some (wb m ts),some (.lst (s.map D.int)),some (.int a)]=.ok (.lst (((hd m ts a).filter λx=>s.any λt=>t==x).map D.int)):=by
  refine iS (f:=D.int) (l:=hd m ts a) (c:=[some (.lst (s.map D.int))]) (λx=>s.any λt=>t==x) D.int ?_ ?_ rfl λx _=>⟨pZ s x,λ_=>rfl⟩
  ·refine k7 ?_;generalize wb m ts=WB at *;generalize D.lst (s.map D.int)=SL at *;simp[KG.Z,hh]
  ·have:=hU (ts:=ts) h.hi a;simp only[SZ];lia
 show qa (wAt p (k+1)) (.cons (.ret _) .nil) _=_;rw[qa,evS.eq_5,evE.eq_22,bB,hc]
 rfl
include hH hW hO hf
theorem wO{k:Nat}(T:Tree m ts){r:Int}(h0:0<=r)(h1:r<m){kvs:List (Int×Int)}(wk:zN m ts r kvs):qc p (k+3) "_law_due" [wb m ts,.int r]=.ok (.lst ((stp m ts kvs (frf m kvs) []).map prD)):=by
 have h8:=T.gw.hi;have hl:=T.gw.lo;have hx:ixD (wb m ts) (.int 0)=.ok (.int m):=rfl;have hm:qV m=true:=by simp[qV];lia
 have hm0:0<=m:=by lia
 obtain⟨kv2,w,ew⟩:=xN hH hW (k:=k) T.gw h0 h1;rw[wI wk w];have fl:=jv (iI T h0 h1 w);have ix:∀{o:Int},0<=o->o<m->ixD (.dic kv2) (.int o)=.ok (.int (dv kv2 o)):=λ{o} o0 o1=>by
  simp only[ixD,(T.at h0 h1 w o0 o1).1]
 suffices hs:∃d,qc p (k+3) "_law_due" [wb m ts,.int r]=.ok d/\d=.lst ((stp m ts kv2 (frf m kv2) []).map prD)by
  obtain⟨d,e,rfl⟩:=hs;exact e
 refine jk (k:=k+2) (τ:=[some (wb m ts),some (.int r),none,none,none,none,none,none]) hf rfl rfl ?_;refine zq (σ:=[some (wb m ts),some (.int r),some (.dic kv2),none,none,none,none,none]) (by
  generalize D.dic kv2=DK at *;generalize wb m ts=WB at *;simp[KG.Z,ew]) ?_
 refine zq (σ:=[some (wb m ts),some (.int r),some (.dic kv2),some (.lst []),none,none,none,none]) rfl ?_;refine zq (σ:=DE m ts kv2 r [] none none none) rfl ?_;refine dg (ds:=(rng m).reverse.map D.int) (λl σ=>∃(ws:List Int) (acc:List (Int×Int)) (v5 v6 v7:Option D),l=ws.map D.int/\stp m ts kv2 (ws.flatMap λd=>(rng m).filter λv=>decide (dv kv2 v=d)) acc=stp m ts kv2 (frf m kv2) []/\acc.length+(ws.flatMap λd=>(rng m).filter λv=>decide (dv kv2 v=d)).length<=8/\(∀q∈acc,0<=q.2/\q.2<m)/\σ=DE m ts kv2 r acc v5 v6 v7) ?_ ⟨(rng m).reverse,[],none,none,none,rfl,rfl,by have:=fl;rw[frf]at this;rw[this];simp;lia,λq h=>(by cases h),rfl⟩ ?_ ?_
 ·rw[<-CJ m (by lia)];dsimp only[DE];generalize wb m ts=WB at *;generalize D.dic kv2=DK at *;simp[KG.Z,hx,hm,hm0]
 ·rintro x l σ ⟨ws,acc,v5,v6,v7,e,hst,hlen,hq,rfl⟩;obtain⟨d,ws,rfl,rfl,rfl⟩:=fx e;refine⟨DE m ts kv2 r acc (some (.int d)) v6 v7,rfl,?_⟩;rw[dk]at hst hlen;refine dg (ds:=(rng m).map D.int) (λl σ=>∃(vs:List Int) (acc:List (Int×Int)) (v6 v7:Option D),l=vs.map D.int/\(∀v∈vs,0<=v/\v<m)/\stp m ts kv2 ((vs.filter λv=>decide (dv kv2 v=d))++ws.flatMap λd=>(rng m).filter λv=>decide (dv kv2 v=d)) acc=stp m ts kv2 (frf m kv2) []/\acc.length+((vs.filter λv=>decide (dv kv2 v=d))++ws.flatMap λd=>(rng m).filter λv=>decide (dv kv2 v=d)).length<=8/\(∀q∈acc,0<=q.2/\q.2<m)/\σ=DE m ts kv2 r acc (some (.int d)) v6 v7) ?_ ⟨rng m,acc,v6,v7,rfl,λv hv=>cP.mp hv,hst,hlen,hq,rfl⟩ ?_ ?_
  ·rw[<-dG];dsimp only[DE];generalize wb m ts=WB at *;generalize D.dic kv2=DK at *;generalize D.lst (acc.map prD)=L3 at *;generalize D.lst ((acc.map (·.2)).map D.int)=L4 at *;simp[KG.Z,hx,hm]
  ·rintro x l σ ⟨vs,acc,v6,v7,e,hvs,hst,hlen,hq,rfl⟩;obtain⟨v,vs,rfl,rfl,rfl⟩:=fx e;obtain⟨v0,v1⟩:=hvs v aH;have hvs':∀y∈vs,0<=y/\y<m:=λy hy=>hvs y (aI _ hy)
   refine⟨DE m ts kv2 r acc (some (.int d)) (some (.int v)) v7,rfl,?_⟩;have a1:=ix v0 v1;have c1:=eq_int (dv kv2 v) d;have t1:evT (wAt p (k+2)) (.cmp .eq (.ix (.var 2) (.var 6)) (.var 5)) (DE m ts kv2 r acc (some (.int d)) (some (.int v)) v7)=.ok (decide (dv kv2 v=d)):=by
    dsimp only[DE];generalize wb m ts=WB at *;generalize D.dic kv2=DK at *;generalize D.lst (acc.map prD)=L3 at *;generalize D.lst ((acc.map (·.2)).map D.int)=L4 at *;simp[KG.Z,a1,c1]
   by_cases z:dv kv2 v=d
   ·rw[List.filter_cons,if_pos (decide_eq_true z),List.cons_append]at hst hlen;rw[ot,BW hq ⟨v0,v1⟩]at hst;rw[aU]at hlen;have eo:=yU hH hO (k:=k) T.gw (acc.map (·.2)) ⟨v0,v1⟩;generalize hF:((hd m ts v).filter λx=>(acc.map (·.2)).any λt=>t==x)=F at *;have t2:evT (wAt p (k+2)) (.and (.cmp .eq (.ix (.var 2) (.var 6)) (.var 5)) (.cmp .eq (.callo "_law_holders" (.cons (.var 0) (.cons (.own 4) (.cons (.var 6) .nil)))) (.tup .nil))) (DE m ts kv2 r acc (some (.int d)) (some (.int v)) v7)=.ok (decide (F=[])):=by
     have n1:=we F;have c2:qh .eq (tu F) (.tup [])=.ok (decide (F=[])):=tO F [];rw[evT.eq_5,t1,decide_eq_true z];simp only[R.bind_ok,if_true];dsimp only[DE];generalize tu F=TF at *;generalize wb m ts=WB at *;generalize D.dic kv2=DK at *;generalize D.lst (acc.map prD)=L3 at *;generalize D.lst ((acc.map (·.2)).map D.int)=L4 at *;simp[KG.Z,eo,n1,c2,evE.eq_31]
    by_cases y:F=[]
    ·rw[decide_eq_true y]at t2 hst;rw[if_neg (by decide)]at hst;have hh:=jx hH (k:=k+1) T.gw ⟨v0,v1⟩;have hc:evE (wAt p (k+2)) (.comp (.seq (.call "_law_hood" (.cons (.var 0) (.cons (.var 6) .nil)))) [none,none,some 5,some 2] (.nm 1) (.cmp .eq (.ix (.var 3) (.var 1)) (.op .sub (.var 2) (.con (.int 1)))) (.var 1)) (DE m ts kv2 r acc (some (.int d)) (some (.int v)) v7)=.ok (.lst ((nrr m ts kv2 v).map D.int)):=by
      rw[t4 T h0 h1 w v0 v1,z];refine iS (f:=D.int) (l:=hd m ts v) (c:=[some (.int d),some (.dic kv2)]) (λo=>decide (dv kv2 o=d-1)) D.int ?_ ?_ rfl λo ho=>⟨?_,λ_=>rfl⟩
      ·refine k7 ?_;dsimp only[DE];generalize wb m ts=WB at *;generalize D.dic kv2=DK at *;generalize D.lst (acc.map prD)=L3 at *;generalize D.lst ((acc.map (·.2)).map D.int)=L4 at *;simp[KG.Z,hh]
      ·have:=hU (ts:=ts) h8 v;simp only[SZ];lia
      ·obtain⟨o0,o1⟩:=dU ho;have a:=ix o0 o1;have s:op2 .sub (.int d) (.int 1)=.ok (.int (d-1)):=rfl;have c:=eq_int (dv kv2 o) (d-1);generalize D.dic kv2=DK at *;generalize d-1=D1 at *;simp[KG.Z,a,s,c]
     have s1:evS (wAt p (k+2)) (.set (.nm 7) (.comp (.seq (.call "_law_hood" (.cons (.var 0) (.cons (.var 6) .nil)))) [none,none,some 5,some 2] (.nm 1) (.cmp .eq (.ix (.var 3) (.var 1)) (.op .sub (.var 2) (.con (.int 1)))) (.var 1))) (DE m ts kv2 r acc (some (.int d)) (some (.int v)) v7)=.nx (DE m ts kv2 r acc (some (.int d)) (some (.int v)) (some (.lst ((nrr m ts kv2 v).map D.int)))):=by
      rw[evS.eq_1,hc];rfl
     have nl:(nrr m ts kv2 v).length<=8:=ba (List.length_filter_le _ _) (hU h8 v);have s2:evS (wAt p (k+2)) (.app 4 (.ix (.op .add (.var 7) (.lst (.cons (.var 6) .nil))) (.con (.int 0)))) (DE m ts kv2 r acc (some (.int d)) (some (.int v)) (some (.lst ((nrr m ts kv2 v).map D.int))))=.nx ((DE m ts kv2 r acc (some (.int d)) (some (.int v)) (some (.lst ((nrr m ts kv2 v).map D.int)))).set 4 (some (.lst ((acc.map (·.2)++[hlr m ts kv2 v]).map D.int)))):=by
      have o1:op2 .add (.lst ((nrr m ts kv2 v).map D.int)) (.lst [.int v])=.ok (.lst ((nrr m ts kv2 v++[v]).map D.int)):=by
       rw[op2,if_pos ⟨rfl,by rw[aD];simp only[SZ,aU,List.length_nil];lia⟩,List.map_append];rfl
      have o2:ixD (.lst ((nrr m ts kv2 v++[v]).map D.int)) (.int 0)=.ok (.int (hlr m ts kv2 v)):=by
       rw[hlr];cases nrr m ts kv2 v with
       |nil=>exact ix0 D.int v []
       |cons x l=>exact ix0 D.int x (l++[v])
      have xe:evE (wAt p (k+2)) (.ix (.op .add (.var 7) (.lst (.cons (.var 6) .nil))) (.con (.int 0))) (DE m ts kv2 r acc (some (.int d)) (some (.int v)) (some (.lst ((nrr m ts kv2 v).map D.int))))=.ok (.int (hlr m ts kv2 v)):=by
       dsimp only[DE];generalize D.lst ((nrr m ts kv2 v++[v]).map D.int)=NV at *;generalize D.lst ((nrr m ts kv2 v).map D.int)=NN at *;generalize wb m ts=WB at *;generalize D.dic kv2=DK at *;generalize D.lst (acc.map prD)=L3 at *;generalize D.lst ((acc.map (·.2)).map D.int)=L4 at *;simp[KG.Z,o1,o2]
      rw[fk (xs:=(acc.map (·.2)).map D.int) (d:=.int (hlr m ts kv2 v)) rfl xe (by rw[aD,aD];simp only[SZ];lia),List.map_append]
      rfl
     have s3:evS (wAt p (k+2)) (.app 3 (.tup (.cons (.var 6) (.cons (.ix (.own 4) (.neg (.con (.int 1)))) .nil)))) ((DE m ts kv2 r acc (some (.int d)) (some (.int v)) (some (.lst ((nrr m ts kv2 v).map D.int)))).set 4 (some (.lst ((acc.map (·.2)++[hlr m ts kv2 v]).map D.int))))=.nx (DE m ts kv2 r (acc++[(v,hlr m ts kv2 v)]) (some (.int d)) (some (.int v)) (some (.lst ((nrr m ts kv2 v).map D.int)))):=by
      have o1:=yv (acc.map (·.2)) (hlr m ts kv2 v);have xe:evE (wAt p (k+2)) (.tup (.cons (.var 6) (.cons (.ix (.own 4) (.neg (.con (.int 1)))) .nil))) ((DE m ts kv2 r acc (some (.int d)) (some (.int v)) (some (.lst ((nrr m ts kv2 v).map D.int)))).set 4 (some (.lst ((acc.map (·.2)++[hlr m ts kv2 v]).map D.int))))=.ok (prD (v,hlr m ts kv2 v)):=by
       show evE _ _ [some (wb m ts),some (.int r),some (.dic kv2),some (.lst (acc.map prD)),some (.lst ((acc.map (·.2)++[hlr m ts kv2 v]).map D.int)),some (.int d),some (.int v),some (.lst ((nrr m ts kv2 v).map D.int))]=.ok (.tup [.int v,.int (hlr m ts kv2 v)]);generalize D.lst ((acc.map (·.2)++[hlr m ts kv2 v]).map D.int)=NV at *;generalize D.lst ((nrr m ts kv2 v).map D.int)=NN at *;generalize wb m ts=WB at *;generalize D.dic kv2=DK at *;generalize D.lst (acc.map prD)=L3 at *;simp[KG.Z,o1,evE.eq_7]
      rw[fk (xs:=acc.map prD) (d:=prD (v,hlr m ts kv2 v)) rfl xe (by rw[aD];simp only[SZ];lia)];have e1:(acc++[(v,hlr m ts kv2 v)]).map (·.2)=acc.map (·.2)++[hlr m ts kv2 v]:=by rw[List.map_append];rfl
      have e2:(acc++[(v,hlr m ts kv2 v)]).map prD=acc.map prD++[prD (v,hlr m ts kv2 v)]:=by rw[List.map_append];rfl
      dsimp only[DE];rw[e1,e2]
      rfl
     refine zq (σ:=DE m ts kv2 r (acc++[(v,hlr m ts kv2 v)]) (some (.int d)) (some (.int v)) (some (.lst ((nrr m ts kv2 v).map D.int)))) ?_ (zx ⟨vs,_,_,_,rfl,hvs',hst,by rw[br];simp only[aU,List.length_nil];lia,λq hq'=>?_,rfl⟩)
     ·rw[evS.eq_7,t2];show qa (wAt p (k+2)) (.cons _ (.cons _ (.cons _ .nil))) _=_;rw[qa,s1];show qa (wAt p (k+2)) (.cons _ (.cons _ .nil)) _=_;rw[qa,s2];show qa (wAt p (k+2)) (.cons _ .nil) _=_;rw[qa,s3]
      rfl
     ·rcases List.mem_append.mp hq' with a|a
      ·exact hq q a
      ·have:q=(v,hlr m ts kv2 v):=by simpa using a
       subst this;exact oF v0 v1
    ·rw[decide_eq_false y]at t2 hst;rw[if_pos (by decide)]at hst;refine zq (σ:=DE m ts kv2 r acc (some (.int d)) (some (.int v)) v7) ?_ (zx ⟨vs,acc,_,_,rfl,hvs',hst,by lia,hq,rfl⟩);rw[evS.eq_7,t2]
     rfl
   ·rw[List.filter_cons,if_neg (by simpa using z)]at hst hlen;rw[decide_eq_false z]at t1;refine zq (σ:=DE m ts kv2 r acc (some (.int d)) (some (.int v)) v7) ?_ (zx ⟨vs,acc,_,_,rfl,hvs',hst,hlen,hq,rfl⟩);rw[evS.eq_7,evT.eq_5,t1]
    rfl
  ·rintro σ ⟨vs,acc,v6,v7,e,hvs,hst,hlen,hq,rfl⟩;cases vs with
   |cons _ _=>cases e
   |nil=>exact zx ⟨ws,acc,_,_,_,rfl,hst,hlen,hq,rfl⟩
 ·rintro σ ⟨ws,acc,v5,v6,v7,e,hst,hlen,hq,rfl⟩;cases ws with
  |cons _ _=>cases e
  |nil=>
   have e:acc=stp m ts kv2 (frf m kv2) []:=hst;refine fD (d:=.lst (acc.map prD)) rfl ?_;rw[e]
end
end KG
namespace K41
open EV KG
open PySem (Str)
open L2 (atI ixN ltP atK)
noncomputable def depth:Nat:=12
theorem B:Web p:=⟨by kernel_rfl,by kernel_rfl,by kernel_rfl,by kernel_rfl,by kernel_rfl,by kernel_rfl,by kernel_rfl,by kernel_rfl⟩
theorem P:Trs p true:=⟨B,⟨by kernel_rfl,by kernel_rfl,by kernel_rfl⟩,by kernel_rfl,by kernel_rfl,by kernel_rfl,by kernel_rfl,by kernel_rfl,by kernel_rfl,by kernel_rfl,by kernel_rfl,by kernel_rfl⟩
theorem hSp:p.fns "steps" = some KG.jl:=by kernel_rfl
theorem hLH:p.fns "_law_hood" = some KG.ei:=by kernel_rfl
theorem hLW:p.fns "_law_ways" = some KG.k6:=by kernel_rfl
theorem hLO:p.fns "_law_holders" = some KG.fM:=by kernel_rfl
theorem hLD:p.fns "_law_due" = some KG.iH:=by kernel_rfl
theorem hTB:p.fns "_law_tree_by" = some KG.iZ:=by kernel_rfl
theorem hSt:p.fns "_law_stir" = some KG.zZ:=by kernel_rfl
theorem hSm:p.fns "_law_same" = some KG.eV:=by kernel_rfl
theorem told{m:Int}{ts:List (Int×Int)}(T:Tree m ts){r:Int}(h0:0<=r)(h1:r<m):∃ds:List D,ds.length<SZ/\qc p 11 "steps" [wb m ts,.int r]=.ok (.lst ds)/\qc p 11 "_law_due" [wb m ts,.int r]=.ok (.lst ds)/\qc p 11 "_law_same" [.lst ds,.lst ds]=.ok (.bl true):=by
 obtain⟨kvs,w,e⟩:=xP P hSp T (k:=2) h0 h1;have d:=wO hLH hLW hLO hLD (k:=8) T h0 h1 w;have l1:=mq (m:=m) (ts:=ts) (kvs:=kvs) (frf m kvs) [];have l2:=jv (iI T h0 h1 w);have h8:=T.gw.hi;refine⟨_,?_,e,d,?_⟩
 ·rw[aD];simp only[List.length_nil]at l1;simp only[SZ];lia
 ·have:=xv hSm (k:=8) ((stp m ts kvs (frf m kvs) []).map λq=>[q.1,q.2])
  rwa[bz]at this
abbrev LS(ns:List Int)(v1 v2 v3 v4 v5 v6:Option D):Env:=[some (.lst (ns.map D.int)),v1,v2,v3,v4,v5,v6]
theorem CW{w:W}(ns:List Int)(hn:ns.length<=63)
  (ht:∀m c:Int,1<=m->m<=8->∃ts,Tree m ts/\w.call "_law_tree_by" [.int m,.int c]=.ok (wb m ts))
  (hs:∀m ts (r:Int),Tree m ts->0<=r->r<m->∃ds:List D,ds.length<SZ/\w.call "steps" [wb m ts,.int r]=.ok (.lst ds)/\w.call "_law_due" [wb m ts,.int r]=.ok (.lst ds)/\w.call "_law_same" [.lst ds,.lst ds]=.ok (.bl true))
  (e1:w.call "steps" [.tup [.int 2,.tup [.tup [.int 0,.int 1]]],.int 0]=.ok (.lst [.tup [.int 1,.int 0]]))
  (e2:w.call "steps" [.tup [.int 1,.tup []],.int 0]=.ok (.lst [.tup [.int 0,.int 0]])) :
  Ends (λ_=>False) (λd=>d=.bl true) (qa w fC.body (LS ns none none none none none none)):=by
 obtain⟨cs,hcs,hcl⟩:=xm ns none (some 8);refine dg (ds:=(cs++[0,3,129]).map D.int) (λr σ=>∃(ms:List Int) (v1 v2 v3 v4 v5 v6:Option D),r=ms.map D.int/\σ=LS ns v1 v2 v3 v4 v5 v6) ?_ ⟨_,none,none,none,none,none,none,rfl,rfl⟩ ?_ ?_
 ·have e:op2 .add (.lst (cs.map D.int)) (.lst [.int 0,.int 3,.int 129])=.ok (.lst ((cs++[0,3,129]).map D.int)):=by
   rw[op2,if_pos (by simp[SZ];lia)];simp
  simp[KG.Z,slD,hcs,e,seq?]
 ·rintro x t σ ⟨ms,v1,v2,v3,v4,v5,v6,e,rfl⟩;obtain⟨c,ms,rfl,rfl,rfl⟩:=fx e;have m1:1<=1+c/64%8:=by lia
  have m2:1+c/64%8<=8:=by lia
  obtain⟨ts,T,et⟩:=ht (1+c/64%8) (c/512) m1 m2;refine⟨LS ns (some (.int c)) v2 v3 v4 v5 v6,rfl,?_⟩;refine zq (σ:=LS ns (some (.int c)) (some (.int (1+c/64%8))) v3 v4 v5 v6) (by simp[KG.Z,op2]) ?_;generalize hM:1+c/64%8=M at *;have zd:op2 .fdiv (.int c) (.int 512)=.ok (.int (c/512)):=rfl;refine zq (σ:=LS ns (some (.int c)) (some (.int M)) (some (wb M ts)) v4 v5 v6) (by
   generalize wb M ts=WT at *;generalize c/512=C1 at *;simp[KG.Z,zd,et]) ?_
  have hm:qV M=true:=by simp[qV];lia
  refine dg (ds:=(rng M).map D.int) (λr σ=>∃(rs:List Int) (v4 v5 v6:Option D),r=rs.map D.int/\(∀r∈rs,0<=r/\r<M)/\σ=LS ns (some (.int c)) (some (.int M)) (some (wb M ts)) v4 v5 v6) ?_ ⟨rng M,v4,v5,v6,rfl,λr hr=>cP.mp hr,rfl⟩ ?_ ?_
  ·rw[<-dG];dsimp only[LS];generalize wb M ts=WT at *;simp[KG.Z,hm]
  ·rintro x t σ ⟨rs,v4,v5,v6,e,hrs,rfl⟩;obtain⟨r,rs,rfl,rfl,rfl⟩:=fx e;obtain⟨r0,r1⟩:=hrs r aH;obtain⟨ds,dl,d1,d2,d3⟩:=hs M ts r T r0 r1;refine⟨LS ns (some (.int c)) (some (.int M)) (some (wb M ts)) (some (.int r)) v5 v6,rfl,?_⟩;refine dg (ds:=[.int 0,.int 1]) (λl σ=>∃(v5 v6:Option D),σ=LS ns (some (.int c)) (some (.int M)) (some (wb M ts)) (some (.int r)) v5 v6) rfl ⟨v5,v6,rfl⟩ ?_ ?_
   ·rintro x t σ ⟨v5,v6,rfl⟩;refine⟨LS ns (some (.int c)) (some (.int M)) (some (wb M ts)) (some (.int r)) (some x) v6,rfl,?_⟩;have nz:(D.bl true).noL=true:=rfl;refine zq (σ:=LS ns (some (.int c)) (some (.int M)) (some (wb M ts)) (some (.int r)) (some x) (some (.lst ds))) (by
     dsimp only[LS];generalize D.lst ds=LD at *;generalize wb M ts=WT at *;simp[KG.Z,d1]) ?_
    refine zq (σ:=LS ns (some (.int c)) (some (.int M)) (some (wb M ts)) (some (.int r)) (some x) (some (.lst ds))) (by
     dsimp only[LS];generalize D.lst ds=LD at *;generalize wb M ts=WT at *;simp[KG.Z,d2,d3,nz,evE.eq_31]) ?_
    refine zq (σ:=LS ns (some (.int c)) (some (.int M)) (some (wb M ts)) (some (.int r)) (some x) (some (.lst (ds++[.tup [.int 0,.int 0]])))) (by
     rw[fk (xs:=ds) (d:=.tup [.int 0,.int 0]) rfl rfl dl];rfl) (zx ⟨_,_,rfl⟩)
   ·rintro σ ⟨v5,v6,rfl⟩;exact zx ⟨rs,_,_,_,rfl,λy hy=>hrs y (aI _ hy),rfl⟩
  ·rintro σ ⟨rs,v4,v5,v6,e,hrs,rfl⟩;exact zx ⟨ms,_,_,_,_,_,_,rfl,rfl⟩
 ·rintro σ ⟨ms,v1,v2,v3,v4,v5,v6,e,rfl⟩;refine fD (d:=.bl true) ?_ rfl;have q1:qh .eq (.lst [.tup [.int 1,.int 0]]) (.lst [.tup [.int 1,.int 0]])=.ok true:=by kernel_rfl
  have q2:qh .eq (.lst [.tup [.int 0,.int 0]]) (.lst [.tup [.int 0,.int 0]])=.ok true:=by kernel_rfl
  generalize hA:D.lst [.tup [.int 1,.int 0]]=LA at *;generalize hB:D.lst [.tup [.int 0,.int 0]]=LB at *;simp[KG.Z,e1,e2,q1,q2,hA,hB]
theorem Bn{F:Str->List D->R D}(ns:List Int)(h:Ends (λ_=>False) (λd=>d=.bl true) (qa ⟨F,p.glb,p.sub,p.cat⟩ fC.body (LS ns none none none none none none))):cC ⟨F,p.glb,p.sub,p.cat⟩ fC [.lst (ns.map D.int)]=.ok (.bl true):=by
 obtain⟨d,e,rfl⟩:=jt (w:=⟨F,p.glb,p.sub,p.cat⟩) (f:=fC) (ds:=[.lst (ns.map D.int)]) rfl rfl h;exact e
theorem two:qc p 11 "steps" [.tup [.int 2,.tup [.tup [.int 0,.int 1]]],.int 0]=.ok (.lst [.tup [.int 1,.int 0]]):=by kernel_rfl
theorem one:qc p 11 "steps" [.tup [.int 1,.tup []],.int 0]=.ok (.lst [.tup [.int 0,.int 0]]):=by kernel_rfl
theorem BZ{F:Str->List D->R D}(hF:F=qc p 11)(ns:List Int)(hn:ns.length<=63):cC ⟨F,p.glb,p.sub,p.cat⟩ fC [.lst (ns.map D.int)]=.ok (.bl true):=by
 refine Bn ns (CW (w:=⟨F,p.glb,p.sub,p.cat⟩) ns hn ?_ ?_ ?_ ?_)<;>rw[hF]
 ·exact λm c h1 h2=>by
   obtain⟨o,hp,e⟩:=uN hSt hTB (k:=9) m c h1 h2;exact⟨_,sW h1 h2 hp,e⟩
 ·exact λm ts r T h0 h1=>told T h0 h1
 ·exact two
 ·exact one
theorem sT:∀ns:List Int,ns.length<=63->qc p depth "law" [.lst (ns.map D.int)]=.ok (.bl true):=by
 intro ns hn;rw[show depth=11+1 from rfl,zh Bi];exact BZ rfl ns hn
end K41
namespace K41
open PySem PySem.Spec PyProof.Rows L2 EV
theorem oU:∀e∈tab,cFn G (fE us oth) e.own e.fr e.st=some e.fn:=by
 intro e he;simp only[tab,aF,cV,or_false]at he;rcases he with rfl|rfl|rfl|rfl|rfl|rfl|rfl|rfl|rfl|rfl|rfl|rfl|rfl|rfl|rfl|rfl|rfl|rfl|rfl|rfl|rfl|rfl|rfl|rfl|rfl|rfl|rfl|rfl<;>kernel_rfl
theorem CG:∀e∈us,e∈tab:=by
 intro e he;cases he
theorem y6:∀e∈us,mS (eF oth) e.own e.fr e.st=some e.fn:=by
 intro e he;cases he
theorem nd:(tab.map (·.x)).Nodup:=by decide +kernel
section
variable{K:ao}{h:Heap}{mg:Str->Option ae}{f0:Addr}(d0:WB.Dd K "is_whole" (top 6) f0){f1:Addr}(d1:WB.Dd K "is_between" (top 7) f1){f2:Addr}(d2:WB.Dd K "is_pair" (top 8) f2){f3:Addr}(d3:WB.Dd K "rises" (top 9) f3){f4:Addr}(d4:WB.Dd K "is_web" (top 12) f4){f5:Addr}(d5:WB.Dd K "is_tie" (top 13) f5){f6:Addr}(d6:WB.Dd K "need_web" (top 14) f6){f7:Addr}(d7:WB.Dd K "is_place" (top 15) f7){f8:Addr}(d8:WB.Dd K "need_place" (top 16) f8){f9:Addr}(d9:WB.Dd K "hoods" (top 17) f9){f10:Addr}(d10:WB.Dd K "hood_of" (top 18) f10){f11:Addr}(d11:WB.Dd K "are_tied" (top 19) f11){f12:Addr}(d12:WB.Dd K "ways_from" (top 20) f12){f13:Addr}(d13:WB.Dd K "pieces" (top 21) f13){f14:Addr}(d14:WB.Dd K "is_tree" (top 22) f14){f15:Addr}(d15:WB.Dd K "need_tree" (top 24) f15){f16:Addr}(d16:WB.Dd K "above" (top 25) f16){f17:Addr}(d17:WB.Dd K "upper" (top 26) f17){f18:Addr}(d18:WB.Dd K "from_far" (top 27) f18){f19:Addr}(d19:WB.Dd K "steps" (top 28) f19){f20:Addr}(d20:WB.Dd K "_law_hood" (top 30) f20){f21:Addr}(d21:WB.Dd K "_law_holders" (top 31) f21){f22:Addr}(d22:WB.Dd K "_law_stir" (top 32) f22){f23:Addr}(d23:WB.Dd K "_law_tree_by" (top 33) f23){f24:Addr}(d24:WB.Dd K "_law_same" (top 34) f24){f25:Addr}(d25:WB.Dd K "_law_ways" (top 35) f25){f26:Addr}(d26:WB.Dd K "_law_due" (top 36) f26){f27:Addr}(d27:WB.Dd K "law" (top 37) f27)
include d0 d1 d2 d3 d4 d5 d6 d7 d8 d9 d10 d11 d12 d13 d14 d15 d16 d17 d18 d19 d20 d21 d22 d23 d24 d25 d26 d27
theorem rG:∀e∈tab,gz K G e:=by
 intro e he;simp only[tab,aF,cV,or_false]at he;rcases he with rfl|rfl|rfl|rfl|rfl|rfl|rfl|rfl|rfl|rfl|rfl|rfl|rfl|rfl|rfl|rfl|rfl|rfl|rfl|rfl|rfl|rfl|rfl|rfl|rfl|rfl|rfl|rfl<;>refine⟨⟨_,by assumption⟩,λ_ _ _ _ _ _ us hl=>?_⟩<;>first|(obtain⟨_,rfl⟩:=WB.lR hl;rfl)|(obtain⟨_,_,rfl⟩:=WB.o9 hl;rfl)|(obtain⟨_,_,_,rfl⟩:=WB.sF hl;rfl)
omit d0 d1 d2 d3 d4 d5 d6 d7 d8 d9 d10 d11 d12 d13 d14 d15 d16 d17 d18 d19 d20 d21 d22 d23 d24 d25 d26 d27
theorem j_{x:Str}{k:GK}(h:oth.lookup x=some k):∃y∈oth,x=y.1/\k=y.2:=by
 generalize oth=l at h ⊢
 induction l with
 |nil=>cases h
 |cons a r ih=>
  rw[bf]at h;split at h
  ·rename_i q;cases h;exact⟨a,aH,eq_of_beq q,rfl⟩
  ·obtain⟨y,h1,h2⟩:=ih h;exact⟨y,aI _ h1,h2⟩
theorem Ao{K:ao}{C0:Addr}(k0:ax K ar "NoWeb" = some (some (.ref C0)))(x0:PySem.W.excIn K C0 eK "ValueError.__new__" = true){C1:Addr}(k1:ax K ar "NoPlace" = some (some (.ref C1)))(x1:PySem.W.excIn K C1 eK "ValueError.__new__" = true){C2:Addr}(k2:ax K ar "NotTree" = some (some (.ref C2)))(x2:PySem.W.excIn K C2 eK "ValueError.__new__" = true){tk0:Tok}(u0:ax K ar "MOST" = some (some (.int 8 tk0)))(z0:ax K ar "len" = some none)(z1:ax K ar "tuple" = some none)(z2:ax K ar "list" = some none)(z3:ax K ar "int" = some none)(z4:ax K ar "bool" = some none)(z5:ax K ar "str" = some none)(z6:ax K ar "sorted" = some none)(z7:ax K ar "all" = some none)(z8:ax K ar "min" = some none)(z9:ax K ar "max" = some none)(z10:ax K ar "range" = some none)(z11:ax K ar "reversed" = some none)(z12:ax K ar "zip" = some none)(z13:ax K ar "isinstance" = some none):∀x k,oth.lookup x=some k->mK K vals x k:=by
 intro x k h;obtain⟨y,h1,rfl,rfl⟩:=j_ h;simp only[oth,aF,cV,or_false]at h1;rcases h1 with rfl|rfl|rfl|rfl|rfl|rfl|rfl|rfl|rfl|rfl|rfl|rfl|rfl|rfl|rfl|rfl|rfl|rfl
 ·exact⟨_,k0,x0⟩
 ·exact⟨_,k1,x1⟩
 ·exact⟨_,k2,x2⟩
 ·exact⟨_,.int 8,.int 8,u0,⟨_,rfl⟩,rfl,λg H _=>.int _⟩
 ·exact⟨z0,rfl,_,rfl⟩
 ·exact⟨z1,by decide +kernel,by simp,by simp[b1N,b1V]⟩
 ·exact⟨z2,by decide +kernel,by simp,by simp[b1N,b1V]⟩
 ·exact⟨z3,by decide +kernel,by simp,by simp[b1N,b1V]⟩
 ·exact⟨z4,by decide +kernel,by simp,by simp[b1N,b1V]⟩
 ·exact⟨z5,by decide +kernel,by simp,by simp⟩
 ·exact⟨z6,rfl,_,rfl⟩
 ·exact⟨z7,rfl,_,rfl⟩
 ·exact⟨z8,rfl,_,rfl⟩
 ·exact⟨z9,rfl,_,rfl⟩
 ·exact⟨z10,rfl⟩
 ·exact⟨z11,rfl⟩
 ·exact⟨z12,rfl⟩
 ·exact⟨z13,rfl⟩
theorem xw:∀x fr,oth.lookup x≠some (.fn fr):=by
 intro x fr h;obtain⟨y,h1,rfl,h2⟩:=j_ h;simp only[oth,aF,cV,or_false]at h1;rcases h1 with rfl|rfl|rfl|rfl|rfl|rfl|rfl|rfl|rfl|rfl|rfl|rfl|rfl|rfl|rfl|rfl|rfl|rfl<;>cases h2
theorem w6:∀x,(oth.lookup x=some .exc\/oth.lookup x=some .exk)->([aG "NoWeb",aG "NoPlace",aG "NotTree"]:List Str).contains x=true:=by
 intro x h;rcases h with h|h<;>obtain⟨y,h1,rfl,h2⟩:=j_ h<;>simp only[oth,aF,cV,or_false]at h1<;>rcases h1 with rfl|rfl|rfl|rfl|rfl|rfl|rfl|rfl|rfl|rfl|rfl|rfl|rfl|rfl|rfl|rfl|rfl|rfl<;>first|(cases h2;done)|decide +kernel
theorem yq{K:ao}{C0:Addr}(k0:ax K ar "NoWeb" = some (some (.ref C0))){C1:Addr}(k1:ax K ar "NoPlace" = some (some (.ref C1))){C2:Addr}(k2:ax K ar "NotTree" = some (some (.ref C2)))  : ∀y∈cH,∃C D,ax K ar y.1=some (some (.ref C))/\ax K ar y.2=some (some (.ref D))/\PySem.W.exmOne K (.ref C) (.ref D)=some true:=by
 intro y h1;simp only[cH,aF,cV,or_false]at h1
 skip
theorem B9{K:ao}{C0:Addr}(k0:ax K ar "NoWeb" = some (some (.ref C0))){C1:Addr}(k1:ax K ar "NoPlace" = some (some (.ref C1))){C2:Addr}(k2:ax K ar "NotTree" = some (some (.ref C2)))  : ∀y∈subs,oq K [aG "NoWeb",aG "NoPlace",aG "NotTree"] y:=by
 intro y h1;cases h1
include d0 d1 d2 d3 d4 d5 d6 d7 d8 d9 d10 d11 d12 d13 d14 d15 d16 d17 d18 d19 d20 d21 d22 d23 d24 d25 d26 d27
theorem all_mk(X:K.In h)(N:h.Ns ar mg){C0:Addr}(k0:ax K ar "NoWeb" = some (some (.ref C0)))(x0:PySem.W.excIn K C0 eK "ValueError.__new__" = true){C1:Addr}(k1:ax K ar "NoPlace" = some (some (.ref C1)))(x1:PySem.W.excIn K C1 eK "ValueError.__new__" = true){C2:Addr}(k2:ax K ar "NotTree" = some (some (.ref C2)))(x2:PySem.W.excIn K C2 eK "ValueError.__new__" = true){tk0:Tok}(u0:ax K ar "MOST" = some (some (.int 8 tk0)))(z0:ax K ar "len" = some none)(z1:ax K ar "tuple" = some none)(z2:ax K ar "list" = some none)(z3:ax K ar "int" = some none)(z4:ax K ar "bool" = some none)(z5:ax K ar "str" = some none)(z6:ax K ar "sorted" = some none)(z7:ax K ar "all" = some none)(z8:ax K ar "min" = some none)(z9:ax K ar "max" = some none)(z10:ax K ar "range" = some none)(z11:ax K ar "reversed" = some none)(z12:ax K ar "zip" = some none)(z13:ax K ar "isinstance" = some none)   : Ground p (gOf K (tab.map (·.x)) [aG "NoWeb",aG "NoPlace",aG "NotTree"]) G (fE us oth) (eF oth) mg/\gz K G fS:=
 have A:=rG d0 d1 d2 d3 d4 d5 d6 d7 d8 d9 d10 d11 d12 d13 d14 d15 d16 d17 d18 d19 d20 d21 d22 d23 d24 d25 d26 d27
 ⟨rL X N rfl nd (Ao k0 x0 k1 x1 k2 x2 u0 z0 z1 z2 z3 z4 z5 z6 z7 z8 z9 z10 z11 z12 z13) xw CG y6 oU A _ (yq k0 k1 k2) w6 (B9 k0 k1 k2 ),A fS (by simp[tab])⟩
end
theorem walk{l:PySem.W.OpenLaw}{q:aq}{loose:List Str}{XP:(Str->Option ae)->Heap->Prop}{YP:ak->Heap->Prop}{d:DefRec}{K:Params->ao}(hn:l.most=some 63)(hdf:d.params.defaults=[])(hd:d.name = "law")(hY:∀(w:ak) (h:Heap),YP w h->(K w.params).In h)
  (hG:∀(w:ak) (mg:Str->Option ae) (h:Heap),(K w.params).In h->h.Ns ar mg->Ground p (gOf (K w.params) (tab.map (·.x)) [aG "NoWeb",aG "NoPlace",aG "NotTree"]) G (fE us oth) (eF oth) mg/\gz (K w.params) G fS):PySem.W.WalkO q loose XP YP l.row.toRowW d [] (λf vs=>PySem.call f vs):=
 yP (e:=fS) (k:=depth) hn hdf hd ⟨rfl,by decide,by decide⟩ hY (by simp[tab]) nd rfl rfl (by kernel_rfl) hG (oU fS (by simp[tab])) sT
end K41
end
open PySem PySem.W PyProof.Rows
namespace PySem.W.Fast
def tw2232099745918513216:Nat:=0
theorem te2232099745918513216:tw2232099745918513216=0:=rfl
def tw183536599126110042:Nat:=0
theorem te183536599126110042:tw183536599126110042=0:=rfl
def tw15155676659302790309:Nat:=0
theorem te15155676659302790309:tw15155676659302790309=0:=rfl
def tw8093319302960415971:Nat:=0
theorem te8093319302960415971:tw8093319302960415971=0:=rfl
def tw17875391188169286816:Nat:=0
theorem te17875391188169286816:tw17875391188169286816=0:=rfl
def tw8466175447985845510:Nat:=0
theorem te8466175447985845510:tw8466175447985845510=0:=rfl
def tw5144555299292092712:Nat:=0
theorem te5144555299292092712:tw5144555299292092712=0:=rfl
def tw7364062345202762394:Nat:=0
theorem te7364062345202762394:tw7364062345202762394=0:=rfl
def tw2795894614549617363:Nat:=0
theorem te2795894614549617363:tw2795894614549617363=0:=rfl
def tw5030427464413186469:Nat:=0
theorem te5030427464413186469:tw5030427464413186469=0:=rfl
def tw16772424684414856640:Nat:=0
theorem te16772424684414856640:tw16772424684414856640=0:=rfl
def tw1427750829036003766:Nat:=0
theorem te1427750829036003766:tw1427750829036003766=0:=rfl
def tw2520166423413924736:Nat:=0
theorem te2520166423413924736:tw2520166423413924736=0:=rfl
def tw7264914255255479133:Nat:=0
theorem te7264914255255479133:tw7264914255255479133=0:=rfl
def tw6795059927200121462:Nat:=0
theorem te6795059927200121462:tw6795059927200121462=0:=rfl
def tw13041958802691237430:Nat:=0
theorem te13041958802691237430:tw13041958802691237430=0:=rfl
def tw13772836991575840837:Nat:=0
theorem te13772836991575840837:tw13772836991575840837=0:=rfl
def tw2519577478697809336:Nat:=0
theorem te2519577478697809336:tw2519577478697809336=0:=rfl
def tw17442882718720866426:Nat:=0
theorem te17442882718720866426:tw17442882718720866426=0:=rfl
def tw7272963412950865149:Nat:=0
theorem te7272963412950865149:tw7272963412950865149=0:=rfl
def tw14236794475511419644:Nat:=0
theorem te14236794475511419644:tw14236794475511419644=0:=rfl
def tw10276868445166423645:Nat:=0
theorem te10276868445166423645:tw10276868445166423645=0:=rfl
def tw866948068612918187:Nat:=0
theorem te866948068612918187:tw866948068612918187=0:=rfl
def tw5540055976269242291:Nat:=0
theorem te5540055976269242291:tw5540055976269242291=0:=rfl
def tw9807167990976321089:Nat:=0
theorem te9807167990976321089:tw9807167990976321089=0:=rfl
def tw8657617504380072790:Nat:=0
theorem te8657617504380072790:tw8657617504380072790=0:=rfl
def tw3509671813204525210:Nat:=0
theorem te3509671813204525210:tw3509671813204525210=0:=rfl
def tw4220857472184359463:Nat:=0
theorem te4220857472184359463:tw4220857472184359463=0:=rfl
def tw7964090613935446092:Nat:=0
theorem te7964090613935446092:tw7964090613935446092=0:=rfl
def tw7217390606617254543:Nat:=0
theorem te7217390606617254543:tw7217390606617254543=0:=rfl
def tw18189624544791980389:Nat:=0
theorem te18189624544791980389:tw18189624544791980389=0:=rfl
def tw1452468131645957533:Nat:=0
theorem te1452468131645957533:tw1452468131645957533=0:=rfl
def tw2285923386125688947:Nat:=0
theorem te2285923386125688947:tw2285923386125688947=0:=rfl
def tw9796284451846853488:Nat:=0
theorem te9796284451846853488:tw9796284451846853488=0:=rfl
def tw6724169309259148716:Nat:=0
theorem te6724169309259148716:tw6724169309259148716=0:=rfl
def tw10572935323440018510:Nat:=0
theorem te10572935323440018510:tw10572935323440018510=0:=rfl
def tw14186769057423529018:Nat:=0
theorem te14186769057423529018:tw14186769057423529018=0:=rfl
def tw10056658491818486134:Nat:=0
theorem te10056658491818486134:tw10056658491818486134=0:=rfl
def tw10302578624137935343:Nat:=0
theorem te10302578624137935343:tw10302578624137935343=0:=rfl
def tw10449781486454319685:Nat:=0
theorem te10449781486454319685:tw10449781486454319685=0:=rfl
def tw13201002844989338066:Nat:=0
theorem te13201002844989338066:tw13201002844989338066=0:=rfl
def tw4553841701451824824:Nat:=0
theorem te4553841701451824824:tw4553841701451824824=0:=rfl
def tw5173645867265446323:Nat:=0
theorem te5173645867265446323:tw5173645867265446323=0:=rfl
def tw5714269067222271975:Nat:=0
theorem te5714269067222271975:tw5714269067222271975=0:=rfl
def tw9540166936660363397:Nat:=0
theorem te9540166936660363397:tw9540166936660363397=0:=rfl
def tw3622086438894132773:Nat:=0
theorem te3622086438894132773:tw3622086438894132773=0:=rfl
def tw6684218291298508713:Nat:=0
theorem te6684218291298508713:tw6684218291298508713=0:=rfl
def tw6609743660272620804:Nat:=0
theorem te6609743660272620804:tw6609743660272620804=0:=rfl
def tw1820566145872681490:Nat:=0
theorem te1820566145872681490:tw1820566145872681490=0:=rfl
def tw4688676305072436483:Nat:=0
theorem te4688676305072436483:tw4688676305072436483=0:=rfl
def tw16110437047102812820:Nat:=0
theorem te16110437047102812820:tw16110437047102812820=0:=rfl
def tw16394466557444857942:Nat:=0
theorem te16394466557444857942:tw16394466557444857942=0:=rfl
def tw15038552604920073151:Nat:=0
theorem te15038552604920073151:tw15038552604920073151=0:=rfl
def tw14474642029637243383:Nat:=0
theorem te14474642029637243383:tw14474642029637243383=0:=rfl
def tw1010031018140829302:Nat:=0
theorem te1010031018140829302:tw1010031018140829302=0:=rfl
def tw5180279449069259083:Nat:=0
theorem te5180279449069259083:tw5180279449069259083=0:=rfl
def tw2214441071448117686:Nat:=0
theorem te2214441071448117686:tw2214441071448117686=0:=rfl
def tw11822885397000399808:Nat:=0
theorem te11822885397000399808:tw11822885397000399808=0:=rfl
def tw17171970117322534348:Nat:=0
theorem te17171970117322534348:tw17171970117322534348=0:=rfl
def tw15898204959405523367:Nat:=0
theorem te15898204959405523367:tw15898204959405523367=0:=rfl
def tw13034455792209914782:Nat:=0
theorem te13034455792209914782:tw13034455792209914782=0:=rfl
def tw13164451300345736665:Nat:=0
theorem te13164451300345736665:tw13164451300345736665=0:=rfl
def tw16851981138973623055:Nat:=0
theorem te16851981138973623055:tw16851981138973623055=0:=rfl
def tw4928957934121081976:Nat:=0
theorem te4928957934121081976:tw4928957934121081976=0:=rfl
def tw2757649026580512588:Nat:=0
theorem te2757649026580512588:tw2757649026580512588=0:=rfl
def tw4839673049128771853:Nat:=0
theorem te4839673049128771853:tw4839673049128771853=0:=rfl
def tw14329310241144401381:Nat:=0
theorem te14329310241144401381:tw14329310241144401381=0:=rfl
def tw5480514768815770192:Nat:=0
theorem te5480514768815770192:tw5480514768815770192=0:=rfl
def tw17595377585098918832:Nat:=0
theorem te17595377585098918832:tw17595377585098918832=0:=rfl
def tw18163690119592381696:Nat:=0
theorem te18163690119592381696:tw18163690119592381696=0:=rfl
def tw12008176518960311571:Nat:=0
theorem te12008176518960311571:tw12008176518960311571=0:=rfl
def tw6284201819818756239:Nat:=0
theorem te6284201819818756239:tw6284201819818756239=0:=rfl
def tw5654624597378105721:Nat:=0
theorem te5654624597378105721:tw5654624597378105721=0:=rfl
def tw6094905802548181035:Nat:=0
theorem te6094905802548181035:tw6094905802548181035=0:=rfl
def tw9335204662509454318:Nat:=0
theorem te9335204662509454318:tw9335204662509454318=0:=rfl
def tw1203734413942482920:Nat:=0
theorem te1203734413942482920:tw1203734413942482920=0:=rfl
def tw17784510841789093070:Nat:=0
theorem te17784510841789093070:tw17784510841789093070=0:=rfl
def tw7639966119126505532:Nat:=0
theorem te7639966119126505532:tw7639966119126505532=0:=rfl
def tw7292409459401685301:Nat:=0
theorem te7292409459401685301:tw7292409459401685301=0:=rfl
def tw16460007868201324179:Nat:=0
theorem te16460007868201324179:tw16460007868201324179=0:=rfl
def tw10846152896006685367:Nat:=0
theorem te10846152896006685367:tw10846152896006685367=0:=rfl
def tw3357290424538072928:Nat:=0
theorem te3357290424538072928:tw3357290424538072928=0:=rfl
def tw15504530569193820849:Nat:=0
theorem te15504530569193820849:tw15504530569193820849=0:=rfl
def tw1889286213752230532:Nat:=0
theorem te1889286213752230532:tw1889286213752230532=0:=rfl
def tw7047035107310243072:Nat:=0
theorem te7047035107310243072:tw7047035107310243072=0:=rfl
end PySem.W.Fast
set_option maxRecDepth 100000 in
set_option maxHeartbeats 0 in
theorem PySem.Challenge.cw_holdplaces_k41_steps_from_the_ends_in_holds : PySem.Challenge.rw_holdplaces_k41_steps_from_the_ends_in.Holds := by
 w_on;o_law;k_head;(case hw=>w_witness2)
 k_fill
 refine K41.walk (l:=PySem.Challenge.rw_holdplaces_k41_steps_from_the_ends_in) rfl rfl rfl (λw h Y=>PySem.W.kIn_of Y) ?F
 case F=>
  intro w mg h KX N
  refine' K41.all_mk (WB.zF ?_ ?_ ?_ ?_) (WB.zF ?_ ?_ ?_ ?_) (WB.zF ?_ ?_ ?_ ?_) (WB.zF ?_ ?_ ?_ ?_) (WB.zF ?_ ?_ ?_ ?_) (WB.zF ?_ ?_ ?_ ?_) (WB.zF ?_ ?_ ?_ ?_) (WB.zF ?_ ?_ ?_ ?_) (WB.zF ?_ ?_ ?_ ?_) (WB.zF ?_ ?_ ?_ ?_) (WB.zF ?_ ?_ ?_ ?_) (WB.zF ?_ ?_ ?_ ?_) (WB.zF ?_ ?_ ?_ ?_) (WB.zF ?_ ?_ ?_ ?_) (WB.zF ?_ ?_ ?_ ?_) (WB.zF ?_ ?_ ?_ ?_) (WB.zF ?_ ?_ ?_ ?_) (WB.zF ?_ ?_ ?_ ?_) (WB.zF ?_ ?_ ?_ ?_) (WB.zF ?_ ?_ ?_ ?_) (WB.zF ?_ ?_ ?_ ?_) (WB.zF ?_ ?_ ?_ ?_) (WB.zF ?_ ?_ ?_ ?_) (WB.zF ?_ ?_ ?_ ?_) (WB.zF ?_ ?_ ?_ ?_) (WB.zF ?_ ?_ ?_ ?_) (WB.zF ?_ ?_ ?_ ?_) (WB.zF ?_ ?_ ?_ ?_) KX N ?_ ?_ ?_ ?_ ?_ ?_ ?_ ?_ ?_ ?_ ?_ ?_ ?_ ?_ ?_ ?_ ?_ ?_ ?_ ?_ ?_
  any_goals k_is
  any_goals k_exc
#print axioms PySem.Challenge.cw_holdplaces_k41_steps_from_the_ends_in_holds
