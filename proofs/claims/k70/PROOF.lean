import PyProof.Rows.All
import Wide.All
import OpenK.AllK
import Wide.FinOn
import Lean
import PyProof.EqAt
import PyProof.EqKinds
import PyProof.TupleCall
import PyProof.Rows.Range3
import PyProof.Rows.FStr
import KE.KDictSum
import PyProof.DictUpdate
import PyProof.Rows.ListMulArg
import KE.KSortTup
import KE.LcSums
import PyProof.SeqI3
import KE.KMinBuiltin
import KE.KRevIter
import PyProof.ListRange
import PyProof.TupleOfSeq
import PySem.Challenge.RW_holdplaces_k70_moves_of_guards
set_option Elab.async false
set_option bootstrap.genMatcherCode false
set_option maxHeartbeats 8000000
set_option maxRecDepth 100000
set_option linter.all false
noncomputable section
open Option renaming bind_eq_some_iff→az,map_eq_some_iff→bu,bind_eq_bind→aB
open List renaming mem_append_right→bW,mem_cons_of_mem→aP,mem_cons_self→aR,size_toArray→aW,lookup_cons→br,not_mem_nil→cK,all_eq_true→cY,getElem_map→cZ,length_map→bc,mem_filter→b4,replicate→bK,mem_cons→aL,map_cons→aU,mem_map→bg,map_map→bE,range→a9
open PySem.Builtin renaming bitNot→bQ,bitAnd→ck
open PySem renaming mem_of_lookup→bX,wpAny_truthy_bool→bB,Comprehension→bV,swappedStores→b6,wpAny_holding→cq,foldedForSure→cw,bootBuiltins→bF,mainGlobals→ax,sizeLine_eq→bt,wpAny_bind→ao,wpAny_pure→aC,wpAny_mono→bC,compareOp→aV,cellsFrom→a_,sizeLine→aH,NameKind→aM,starEach→aO,binaryOp→bz,Program→aw,Shared→af,Around→ay,Value→ae,model→ah,wpAny→ak,World→av,Scope→aS
open PySem.W renaming hideAll_get→cX,mg_none_of→cH,kia_one→bD,kitOne→bf,exmOne→bx,keepIn→cm,subIn→bA,Frag→ar,nsIn→aA,fnOf→b7
open Array renaming length_toList→dv
open Nat renaming lt_of_lt_of_le→bw,lt_succ_of_lt→cJ,lt_irrefl→bL,ne_of_lt→aX,le_trans→bp,le_refl→aI,zero_le→bM
open Bool renaming false_eq_true→bI,false_ne_true→bY,not_eq_true'→ba,and_eq_true→aF,not_eq_true→c0,or_eq_true→bh
open Option.some renaming injEq→bZ,inj→bJ
open ForInStep renaming yield→cL
open PySem.NameKind renaming free→bR
open PySem.Str renaming ofString→aG
open PySem.Heap renaming lt_size→aJ
open False renaming elim→aK
open PySem.Obj renaming mapSeq→a7
open And renaming intro→aq
open PySem.Value renaming ref→a8
open PyProof.Rows renaming wpS_bind→aE,wpS_pure→aQ,IntsAre→aY,seqObj→aD,mirror→aN,SortSt→aZ,arrOf→ag,Keyed→au
set_option Elab.async false
namespace L2
open PySem PySem.Spec PyProof.Rows
abbrev Key:=Sum Int Str
noncomputable def fN:Key->ae->Bool
 | .inl k,v=>ae.isInt k v
 | .inr x,v=>ae.isStrOf x v
noncomputable def uk(w:av):Key->Int
 | .inl k=>hashInt k
 | .inr x=>hashStr w x
theorem dY:∀{k:Key}{v:ae},fN k v=true->(∃i t,k=Sum.inl i/\v=ae.int i t)\/(∃x t,k=Sum.inr x/\v=ae.str x t)
 | .inl i,v,h=>by
  obtain⟨t,e⟩:=ae.isInt_shape (k:=i) (v:=v) h;exact .inl ⟨i,t,rfl,e⟩
 | .inr x,v,h=>by
  obtain⟨t,e⟩:=ae.isStrOf_shape (x:=x) (v:=v) h;exact .inr ⟨x,t,rfl,e⟩
theorem sV(i:Int)(t:Tok):fN (.inl i) (.int i t)=true:=by simp[fN,ae.isInt]
theorem BL(x:Str)(t:Tok):fN (.inr x) (.str x t)=true:=by simp[fN,ae.isStrOf]
theorem B6(a b:Int):decide ((Sum.inl a:Key)=Sum.inl b)=(a==b):=by
 by_cases e:a=b
 ·subst e;simp
 ·have h:¬ (Sum.inl a:Key)=Sum.inl b:=λq=>e (Sum.inl.inj q)
  rw[decide_eq_false h];exact(beq_eq_false_iff_ne.mpr e).symm
theorem yp(a b:Str):decide ((Sum.inr a:Key)=Sum.inr b)=decide (a=b):=by
 by_cases e:a=b
 ·subst e;simp
 ·have h:¬ (Sum.inr a:Key)=Sum.inr b:=λq=>e (Sum.inr.inj q)
  rw[decide_eq_false h,decide_eq_false e]
theorem rD(a:Int)(b:Str):decide ((Sum.inl a:Key)=Sum.inr b)=false:=decide_eq_false (λq=>nomatch q)
theorem B'(a:Str)(b:Int):decide ((Sum.inr a:Key)=Sum.inl b)=false:=decide_eq_false (λq=>nomatch q)
noncomputable def cB(prog:aw)(w:av):PySem.KeyKind prog w Key where
 is:=fN
 hash:=uk w
 inj:=λv a b ha hb=>by
  rcases dY ha with ⟨i,t,rfl,rfl⟩|⟨x,t,rfl,rfl⟩
  ·rcases dY hb with ⟨j,u,rfl,e⟩|⟨y,u,rfl,e⟩
   ·injection e with e1 _;rw[e1]
   ·exact nomatch e
  ·rcases dY hb with ⟨j,u,rfl,e⟩|⟨y,u,rfl,e⟩
   ·exact nomatch e
   ·injection e with e1 _;rw[e1]
 byValue:=λk v h=>by
  rcases dY h with ⟨i,t,rfl,rfl⟩|⟨x,t,rfl,rfl⟩<;>rfl
 pyHash:=λhv h=>by
  rcases dY hv with ⟨i,t,rfl,rfl⟩|⟨x,t,rfl,rfl⟩
  ·exact wpAny_pyHash_int h
  ·exact wpAny_pyHash_str h
 eqBool:=λhu hv h=>by
  rcases dY hu with ⟨i,t,rfl,rfl⟩|⟨x,t,rfl,rfl⟩
  ·rcases dY hv with ⟨j,u,rfl,rfl⟩|⟨y,u,rfl,rfl⟩
   ·rw[B6]at h;exact wpAny_eqBool_int h
   ·rw[rD]at h;exact SeqAt.EqAt.int_str i t y u _ _ _ _ h
  ·rcases dY hv with ⟨j,u,rfl,rfl⟩|⟨y,u,rfl,rfl⟩
   ·rw[B']at h;exact SeqAt.EqAt.str_int x t j u _ _ _ _ h
   ·rw[yp]at h;exact wpAny_eqBool_str h
 «strs»:=λk x t v h=>by
  rcases dY h with ⟨i,u,rfl,e⟩|⟨y,u,rfl,e⟩
  ·exact nomatch e
  ·injection e with e1 _
   subst e1;cases v<;>rfl
theorem BH(prog:aw)(w:av)(i:Int)(t:Tok):(cB prog w).is (.inl i) (.int i t)=true:=sV i t
theorem yo(prog:aw)(w:av)(x:Str)(t:Tok):(cB prog w).is (.inr x) (.str x t)=true:=BL x t
inductive V where
 |non|bl (b:Bool)|int (i:Int)|str (x:Str)|byt (b:Array UInt8)|flt (b:UInt64)|ref (a:Addr)|ty (n:String)
 deriving DecidableEq
noncomputable def RelV:V->ae->Prop
 | .non,u=>u=ae.none
 | .bl b,u=>u=ae.bool b
 | .int i,u=>∃t,u=ae.int i t
 | .str x,u=>∃t,u=ae.str x t
 | .byt b,u=>∃t,u=ae.bytes b t
 | .flt b,u=>∃t,u=ae.float b t
 | .ref a,u=>u=a8 a
 | .ty n,u=>u=ae.type n
abbrev Vals:List V->List ae->Prop:=Paired RelV
theorem Vals.length{xs:List V}{us:List ae}(r:Vals xs us):xs.length=us.length:=Paired.length r
theorem Vals.get:∀{xs:List V}{us:List ae}{i:Nat}{x:V},Vals xs us->xs[i]? = some x->∃u,us[i]? = some u/\RelV x u
 |_,_,_,_,.nil,e=>by simp at e
 |_,_,0,_,.cons r _,e=>by simp at e;subst e;exact⟨_,rfl,r⟩
 |_,_,i+1,x,.cons _ t,e=>by
  obtain⟨u,h1,h2⟩:=Vals.get (i:=i) (x:=x) t (by simpa using e);exact⟨u,by simpa using h1,h2⟩
theorem Vals.set{x:V}{u:ae}(r:RelV x u):∀{xs:List V}{us:List ae} (i:Nat),Vals xs us->Vals (xs.set i x) (us.set i u)
 |_,_,_,.nil=>.nil
 |_,_,0,.cons _ t=>.cons r t
 |_,_,i+1,.cons q t=>.cons q (Vals.set r i t)
theorem Vals.append:∀{xs ys:List V}{us ws:List ae},Vals xs us->Vals ys ws->Vals (xs++ys) (us++ws)
 |_,_,_,_,.nil,s=>s
 |_,_,_,_,.cons r t,s=>.cons r (Vals.append t s)
theorem Vals.take:∀{xs:List V}{us:List ae} (n:Nat),Vals xs us->Vals (xs.take n) (us.take n)
 |_,_,0,_=>.nil
 |_,_,_+1,.nil=>.nil
 |_,_,n+1,.cons r t=>.cons r (Vals.take n t)
theorem Vals.drop:∀{xs:List V}{us:List ae} (n:Nat),Vals xs us->Vals (xs.drop n) (us.drop n)
 |_,_,0,r=>r
 |_,_,_+1,.nil=>.nil
 |_,_,n+1,.cons _ t=>Vals.drop n t
noncomputable def dm:Option V->Option ae->Prop
 |some v,some u=>RelV v u
 |none,none=>True
 |_,_=>False
noncomputable def KV{κ:Type}:List (κ×V)->List (κ×ae)->Prop:=Paired λ(p:κ×V) (q:κ×ae)=>p.1=q.1/\RelV p.2 q.2
noncomputable def kV:Key->V
 | .inl i=>.int i
 | .inr x=>.str x
inductive HO where
 |lst (xs:List V)
 |tup (xs:List V)
 |dK (kvs:List (Key×V))|dT (kvs:List (List Key×V))
 |set (S:Int->Bool) (n:Nat)
 |ins (C dx:Addr) (fs:List (Str×V))
 |own (x:Addr)
 |xd (fs:List (Str×V))
 |met (f x:Addr)
 |rng (lo hi:Int)
 |frz (o:Obj) (u:HO)
 |tbl (ps:Array ae)
 |ext (φ:Heap->Prop)
abbrev Hp:=Addr->Option HO
noncomputable def upd(H:Hp)(a:Addr)(o:HO):Hp:=λb=>if b=a then some o else H b
theorem zP{H:Hp}{a:Addr}{o:HO}:upd H a o a=some o:=by unfold upd;rw[if_pos rfl]
theorem qg{H:Hp}{a b:Addr}{o:HO}(h:b≠a):upd H a o b=H b:=by unfold upd;rw[if_neg h]
theorem BG{H:Hp}{a b:Addr}{o u:HO}(h:H a=some o)(h':H b=some u)(d:o≠u):a≠b:=by
 intro e;subst e;rw[h]at h';exact d (bJ h')
theorem gC{H:Hp}{a b:Addr}{o:HO}(h:H a=some o)(h':H b=none):a≠b:=by
 intro e;subst e;rw[h]at h';cases h'
section
variable(P:aw)(w:av)
noncomputable def zN(H:Hp)(h:Heap)(a:Addr):HO->Prop
 | .lst xs=>xs.length<=aH/\∃(its:List ae) (n:Nat),Vals xs its/\h.get? a=some {cls:=.type "list",data:=.seq its.toArray n}
 | .tup xs=>xs.length<=aH/\∃its:List ae,Vals xs its/\IsTup h a its.toArray
 | .dK kvs=>kvs.length<=aH/\(a==sysModules)=false/\∃vs,KV kvs vs/\h.DictOf (cB P w) a vs
 | .dT kvs=>kvs.length<=aH/\(a==sysModules)=false/\∃xs:List (List Key×Addr×ae),
   Paired (λ(p:List Key×V) (q:List Key×Addr×ae)=>p.1=q.1/\H q.2.1=some (.tup (p.1.map kV))/\RelV p.2 q.2.2) kvs xs /\
   ∃o es ep,h.get? a=some o/\o.ExactDict/\o.data=.dict es ep/\es.toList=xs.map (entryOfKey (tupleKind (cB P w)))/\(xs.map (·.1)).Nodup
 | .set S n=>h.SetOf (intKind P w) a S n
 | .ins C dx fs=>H dx=some (.own a)/\fs.length<=1000/\dx≠a/\h.get? a=some (PySem.W.instObj C dx) /\
   ∃mA,h.Ns1 dx mA/\(∀f,dm (fs.lookup f) (mA f))/\PySem.Within mA (fs.map (·.1))
 | .own _=>∃o,h.get? a=some o
 | .xd fs=>∃mA,h.Ns1 a mA/\∀f,dm (fs.lookup f) (mA f)
 | .rng lo hi=>∃t u v,h.get? a=some {cls:=.type "range",data:=.fields #[.int lo t,.int hi u,.int 1 v]}
 | .frz o u=>h.get? a=some o/\zN H h a u
 | .tbl ps=>h.get? a=some {cls:=.none,data:=.fields ps}
 | .met f x=>h.get? a=some (PySem.W.methodObj (.ref f) (.ref x))
 | .ext φ=>φ h/\(∃o,h.get? a=some o)/\∀h1 h2:Heap,φ h1->(∀o,h1.get? a=some o->h2.get? a=some o)->φ h2
noncomputable def HOk(H:Hp)(h:Heap):Prop:=∀a o,H a=some o->zN P w H h a o
end
section
variable{P:aw}{w:av}{H H':Hp}{h h':Heap}{a:Addr}{o:HO}
theorem zN.lt(x:zN P w H h a o):a<h.objs.size:=by
 cases o with
 |lst xs=>obtain⟨_,_,_,_,e⟩:=x;exact aJ e
 |tup xs=>obtain⟨_,_,_,p⟩:=x;exact p.lt
 |dK kvs=>obtain⟨_,_,_,_,o,_,_,e,_⟩:=x;exact aJ e
 |dT kvs=>obtain⟨_,_,_,_,o,_,_,e,_⟩:=x;exact aJ e
 |set S n=>obtain⟨o,_,_,_,e,_⟩:=x;exact aJ e
 |ins C dx fs=>obtain⟨_,_,_,e,_⟩:=x;exact aJ e
 |own y=>obtain⟨_,e⟩:=x;exact aJ e
 |xd fs=>obtain⟨_,⟨_,_,_,e,_⟩,_⟩:=x;exact aJ e
 |rng lo hi=>obtain⟨_,_,_,e⟩:=x;exact aJ e
 |frz ob u=>obtain⟨e,_⟩:=x;exact aJ e
 |tbl ps=>exact aJ (show h.get? a=some _ from x)
 |met f y=>exact aJ (show h.get? a=some _ from x)
 |ext φ=>obtain⟨_,⟨_,e⟩,_⟩:=x;exact aJ e
theorem Paired.mapP{α β:Type}{F G:α->β->Prop}:∀{l₁:List α}{l₂:List β},Paired F l₁ l₂->(∀a b,F a b->G a b)->Paired G l₁ l₂
 |_,_,.nil,_=>.nil
 |_,_,.cons r t,f=>.cons (f _ _ r) (Paired.mapP t f)
theorem zN.stay(x:zN P w H h a o)(k:∀b u,(b=a\/H b=some (.own a))->h.get? b=some u->h'.get? b=some u)
  (ho:∀b,H b=some (.own a)->H' b=some (.own a)) (ht:∀b xs,H b=some (.tup xs)->H' b=some (.tup xs)):zN P w H' h' a o:=by
 induction o with
 |lst xs=>obtain⟨z,its,n,r,e⟩:=x;exact⟨z,its,n,r,k _ _ (.inl rfl) e⟩
 |tup xs=>obtain⟨z,its,r,ob,e,c⟩:=x;exact⟨z,its,r,ob,k _ _ (.inl rfl) e,c⟩
 |dK kvs=>obtain⟨z,y,vs,r,ob,es,ep,e,c⟩:=x;exact⟨z,y,vs,r,ob,es,ep,k _ _ (.inl rfl) e,c⟩
 |dT kvs=>
  obtain⟨z,y,xs,r,ob,es,ep,e,c⟩:=x;exact⟨z,y,xs,Paired.mapP r λp q z=>⟨z.1,ht _ _ z.2.1,z.2.2⟩,ob,es,ep,k _ _ (.inl rfl) e,c⟩
 |set S n=>obtain⟨ob,es,ep,t,e,c⟩:=x;exact⟨ob,es,ep,t,k _ _ (.inl rfl) e,c⟩
 |ins C dx fs=>
  obtain⟨d,z,ne,e,mA,⟨od,es,ep,e2,c⟩,r⟩:=x;exact⟨ho _ d,z,ne,k _ _ (.inl rfl) e,mA,⟨od,es,ep,k _ _ (.inr d) e2,c⟩,r⟩
 |own y=>obtain⟨ob,e⟩:=x;exact⟨ob,k _ _ (.inl rfl) e⟩
 |xd fs=>obtain⟨mA,⟨od,es,ep,e,c⟩,r⟩:=x;exact⟨mA,⟨od,es,ep,k _ _ (.inl rfl) e,c⟩,r⟩
 |rng lo hi=>obtain⟨t,u,v,e⟩:=x;exact⟨t,u,v,k _ _ (.inl rfl) e⟩
 |frz ob u ih=>obtain⟨e,q⟩:=x;exact⟨k _ _ (.inl rfl) e,ih q⟩
 |tbl ps=>
  have e:h.get? a=some {cls:=.none,data:=.fields ps}:=x;show h'.get? a=some {cls:=.none,data:=.fields ps};exact k a _ (.inl rfl) e
 |met f y=>
  have e:h.get? a=some (PySem.W.methodObj (.ref f) (.ref y)):=x;show h'.get? a=some (PySem.W.methodObj (.ref f) (.ref y));exact k a _ (.inl rfl) e
 |ext φ=>obtain⟨p,⟨o,e⟩,st⟩:=x;exact⟨st _ _ p λo q=>k _ _ (.inl rfl) q,⟨o,k _ _ (.inl rfl) e⟩,st⟩
theorem HOk.lt(x:HOk P w H h)(e:H a=some o):a<h.objs.size:=(x a o e).lt
theorem HOk.fresh(x:HOk P w H h)(e:h.objs.size<=a):H a=none:=by
 cases q:H a with
 |none=>rfl
 |some u=>exact absurd (bw (x.lt q) e) (bL _)
theorem HOk.kept(x:HOk P w H h)(k:∀b u,h.get? b=some u->h'.get? b=some u):HOk P w H h':=λa o e=>
 (x a o e).stay (λb u _ q=>k b u q) (λ_ q=>q) λ_ _ q=>q
theorem HOk.laid(x:HOk P w H h)(k:∀b u,h.get? b=some u->h'.get? b=some u)(hp:h.objs.size<=a)(new:zN P w (upd H a o) h' a o):HOk P w (upd H a o) h':=λb u e=>by
 have hn:=x.fresh hp;by_cases hb:b=a
 ·subst hb;rw[zP]at e;cases e;exact new
 ·rw[qg hb]at e;exact(x b u e).stay (λc v _ q=>k c v q) (λc q=>by rw[qg (gC q hn)];exact q) λc xs q=>by rw[qg (gC q hn)];exact q
end
noncomputable def Rd(H:Hp)(a:Addr)(u:HO):Prop:=H a=some u\/∃o,H a=some (.frz o u)
theorem Rd.of{H:Hp}{a:Addr}{u:HO}(h:H a=some u):Rd H a u:=.inl h
theorem Rd.ok{P:aw}{w:av}{H:Hp}{h:Heap}{a:Addr}{u:HO}(r:Rd H a u)(x:HOk P w H h):zN P w H h a u:=by
 rcases r with r|⟨o,r⟩
 ·exact x a u r
 ·obtain⟨_,q⟩:=x a _ r;exact q
noncomputable def Mut:Option HO->Prop
 |some (.lst _)=>True
 |some (.dK _)=>True
 |some (.dT _)=>True
 |some (.set _ _)=>True
 |some (.ins _ _ _)=>True
 |some (.ext _)=>True
 |_=>False
section
variable{P:aw}{w:av}{H:Hp}{h h':Heap}{x e:Addr}{o':HO}
theorem HOk.write(ok:HOk P w H h)(mu:Mut (H x))(he:e=x\/H e=some (.own x))(k:∀b u,b≠e->h.get? b=some u->h'.get? b=some u)(heo:∃u,h'.get? e=some u)
  (new:zN P w (upd H x o') h' x o'):HOk P w (upd H x o') h':=λb u q=>by
 have nown:∀c y,H c=some (.own y)->c≠x:=λc y r z=>by subst z;rw[r]at mu;exact mu
 have ntup:∀c xs,H c=some (.tup xs)->c≠x:=λc xs r z=>by subst z;rw[r]at mu;exact mu
 by_cases hb:b=x
 ·subst hb;rw[zP]at q;cases q;exact new
 ·rw[qg hb]at q;by_cases hbe:b=e
  ·have q':H b=some (.own x):=by
    rcases he with z|z
    ·exact absurd (hbe.trans z) hb
    ·rw[hbe];exact z
   rw[q]at q';cases q';obtain⟨v,hv⟩:=heo;exact⟨v,by rw[hbe];exact hv⟩
  ·refine(ok b u q).stay (λc v hc r=>k c v ?_ r) (λc r=>by rw[qg (nown c b r)];exact r) λc xs r=>by rw[qg (ntup c xs r)];exact r
   rcases hc with rfl|hc
   ·exact hbe
   ·rintro rfl;rcases he with z|z
    ·exact nown c b hc z
    ·rw[hc]at z;cases z;exact hb rfl
end
structure Un(fs ex:List Addr)(H H':Hp)(h h':Heap):Prop where
 keep:∀b o,h.get? b=some o->H b=none->b∉fs->b∉ex->h'.get? b=some o
 slot:∀b o,h.get? b=some o->H b=none->b∈fs->b∉ex->∃sl,h'.get? b=some {o with slots:=sl}
 free:∀b o,h.get? b=some o->H b=none->b∉ex->H' b=none
 there:∀b o,h.get? b=some o->b∉ex->∃o',h'.get? b=some o'
 tups:∀b xs,H b=some (.tup xs)->H' b=some (.tup xs)
 frzs:∀b o u,H b=some (.frz o u)->H' b=some (.frz o u)
 tbls:∀b ps,H b=some (.tbl ps)->∃more,H' b=some (.tbl (ps++more))
section
variable{fs fs' ex ex':List Addr}{H H1 H2:Hp}{h h1 h2 h':Heap}{a x e:Addr}{o:HO}
theorem Un.any(u:Un fs ex H H1 h h1){b:Addr}{ob:Obj}(q:h.get? b=some ob)(n:H b=none)(hx:b∉ex):∃sl,h1.get? b=some {ob with slots:=sl}:=by
 by_cases hb:b∈fs
 ·exact u.slot b ob q n hb hx
 ·exact⟨ob.slots,u.keep b ob q n hb hx⟩
theorem Un.kept(k:∀b u,h.get? b=some u->h'.get? b=some u):Un fs ex H H h h':=
 ⟨λb ob q _ _ _=>k b ob q,λb ob q _ _ _=>⟨ob.slots,k b ob q⟩,λ_ _ _ n _=>n,λb ob q _=>⟨ob,k b ob q⟩,λ_ _ q=>q,λ_ _ _ q=>q,λ_ ps q=>⟨#[],by rw[q];simp⟩⟩
theorem Un.refl:Un fs ex H H h h:=Un.kept λ_ _ q=>q
theorem Un.laid(k:∀b u,h.get? b=some u->h'.get? b=some u)(hp:h.objs.size<=a)(hn:H a=none):Un fs ex H (upd H a o) h h' where
 keep:=λb u q _ _ _=>k b u q
 slot:=λb u q _ _ _=>⟨u.slots,k b u q⟩
 free:=λb u q n _=>by rw[qg (aX (bw (aJ q) hp))];exact n
 there:=λb u q _=>⟨u,k b u q⟩
 tups:=λb xs q=>by rw[qg (gC q hn)];exact q
 frzs:=λb u xs q=>by rw[qg (gC q hn)];exact q
 tbls:=λb ps q=>⟨#[],by rw[qg (gC q hn),q];simp⟩
theorem Un.write(mu:Mut (H x))(he:e=x\/H e=some (.own x))(k:∀b u,b≠e->h.get? b=some u->h'.get? b=some u)(heo:∃u,h'.get? e=some u):Un fs ex H (upd H x o) h h':=by
 have hx:∀b,H b=none->b≠x:=λb n z=>by subst z;rw[n]at mu;exact mu
 have hb:∀b,H b=none->b≠e:=λb n z=>by
  subst z;rcases he with r|r
  ·exact hx b n r
  ·rw[n]at r;cases r
 have hm:∀b u,H b=some u->¬ Mut (some u)->b≠x:=λb u q nm z=>by subst z;rw[q]at mu;exact nm mu
 refine⟨λb u q n _ _=>k b u (hb b n) q,λb u q n _ _=>⟨u.slots,k b u (hb b n) q⟩,λb u q n _=>by rw[qg (hx b n)];exact n,λb u q _=>?_,
  λb xs q=>by rw[qg (hm b _ q λz=>z)];exact q,λb u xs q=>by rw[qg (hm b _ q λz=>z)];exact q,λb ps q=>⟨#[],by rw[qg (hm b _ q λz=>z),q];simp⟩⟩
 by_cases hbe:b=e
 ·subst hbe;exact heo
 ·exact⟨u,k b u hbe q⟩
end
noncomputable def trk(h:Heap)(H:Hp):List Addr:=(a9 h.objs.size).filter λa=>(H a).isSome
noncomputable def dJ(h:Heap)(H:Hp):Heap:=PySem.W.hideAll h (trk h H)
theorem so(h:Heap)(H:Hp):(dJ h H).objs.size=h.objs.size:=PySem.W.hideAll_size _ _
theorem wB{h:Heap}{H:Hp}{b:Addr}{o:Obj}(e:h.get? b=some o)(n:H b=none):(dJ h H).get? b=some o:=
 cX _ e λhm=>by
  have q:(H b).isSome=true:=(b4.mp hm).2;rw[n]at q;simp at q
theorem B8{h:Heap}{H:Hp}{b:Addr}{o:Obj}(e:(dJ h H).get? b=some o):h.get? b=some o/\H b=none:=by
 have e':h.get? b=some o:=PySem.W.of_hideAll (trk h H) e;refine⟨e',?_⟩;cases q:H b with
 |none=>rfl
 |some x=>
  have hm:b∈trk h H:=b4.mpr ⟨List.mem_range.mpr (aJ e'),by simp[q]⟩;have z:(dJ h H).get? b=none:=PySem.W.hideAll_none (trk h H) hm;rw[z]at e;cases e
noncomputable def iC(g h:Heap)(L:Addr):List (Addr×Obj):=(a9 h.objs.size).filterMap λa=>if a=L\/(g.get? a).isSome=true then none else (h.get? a).map λo=>(a,o)
theorem mD{g h:Heap}{L a:Addr}{o:Obj}(h1:a≠L)(h2:g.get? a=none)(h3:h.get? a=some o):(a,o)∈iC g h L:=
 List.mem_filterMap.mpr ⟨a,List.mem_range.mpr (aJ h3),by simp[h1,h2,h3]⟩
theorem pR{g h:Heap}{L:Addr}{p:Addr×Obj}(hp:p∈iC g h L):p.1≠L/\g.get? p.1=none/\h.get? p.1=some p.2:=by
 obtain⟨b,_,e⟩:=List.mem_filterMap.mp hp;split at e
 ·cases e
 ·rename_i hn
  cases q:h.get? b with
  |none=>rw[q]at e;simp at e
  |some u=>
   rw[q]at e;simp only[Option.map_some,bZ]at e;subst e;refine⟨λz=>hn (.inl z),?_,q⟩;show g.get? b=none;cases r:g.get? b with
   |none=>rfl
   |some v=>exact(hn (.inr (by simp[r]))).elim
noncomputable def rest(g h:Heap)(L d:Addr):List (Addr×Obj):=(iC g h L).filter λp=>decide (p.1≠d)
theorem tO{g h:Heap}{L:Addr}:News g L h (iC g h L):=λp hp=>let ⟨a,b,c⟩:=pR hp;⟨c,a,b⟩
structure Mod(K:ar)(mg:Str->Option ae)(base:Heap):Prop where
 kin:K.In base
 glob:base.Ns ax mg
 blt:∃mb,base.Ns builtinsNs mb/\∀x:Str,x≠"__name__"->mb x=bF x
 nolimit:base.NoLimit
structure Cx where
 prog:aw
 w:av
 K:ar
 mg:Str->Option ae
 base:Heap
 A:ay
 N:List Str
 s₀:af
 H₀:Hp
 env:Env
 outer:List Env
 stack:List Env
 ex:List Addr
 fn:Str->Bool
 calm:Bool
 pn:List (Addr×Obj)
 xe:ae->af->Prop
noncomputable def frs(l:List Env):List Addr:=l.filterMap (·.frame)
abbrev Cx.fs(X:Cx):List Addr:=frs X.outer
noncomputable def fX(sc:aS)(x:Str):Prop:=sc.names.lookup x=some .local\/sc.names.lookup x=some .cell\/sc.names.lookup x=some .free
noncomputable def Loc(sc:aS)(x:Str):Prop:=sc.names.lookup x=some .local\/sc.names.lookup x=some .cell
noncomputable def Look(env:Env)(h:Heap)(m:Str->Option ae)(x:Str)(u:ae):Prop:=
 (env.kindOf x=some .local/\m x=some u)\/((env.kindOf x=some .cell\/env.kindOf x=some .free)/\∃c,env.cells.lookup x=some c/\h.IsCell c (some u))
structure Cx.Ok(X:Cx):Prop where
 mod:Mod X.K X.mg X.base
 kind:X.env.scope.kind=.function
 glob:X.env.globals=ax
 blt:X.env.builtins=builtinsNs
 above:X.s₀.heap.objs.size<=X.env.locals
 inj:∀x y c,X.env.cells.lookup x=some c->X.env.cells.lookup y=some c->x=y
 has:∀x,(X.env.kindOf x=some .cell\/X.env.kindOf x=some .free)->∃c,X.env.cells.lookup x=some c
 cab:∀x c,X.fn x=true->X.env.cells.lookup x=some c->X.s₀.heap.objs.size<=c
 hd:X.calm=true->X.A.handled=none
 frames:X.A.frames=some X.stack
 stk:X.stack=X.outer\/(X.stack=X.env::X.outer/\X.env.frame=some X.env.locals)
 exf:∀b∈X.ex,b≠X.env.locals/\∀x c,X.env.cells.lookup x=some c->c≠b
 bs:∀b o,X.base.get? b=some o->X.s₀.heap.get? b=some o/\X.H₀ b=none
 bsz:X.base.objs.size<=X.s₀.heap.objs.size
 noex:∀b o,X.base.get? b=some o->b∉X.ex
 exfs:∀b∈X.ex,b∉X.fs
 funs:X.s₀.heap.FunFrames X.base X.outer
 frf:∀b∈X.fs,X.H₀ b=none
structure Inv(X:Cx)(pins:List (Addr×Obj))(σ:List (Option V))(H:Hp)(s:af):Prop where
 ok:X.Ok
 os:s.os=X.s₀.os
 bare:AllBare s.gens
 base:Un X.fs X.ex X.H₀ H X.s₀.heap s.heap
 loc:∃m,s.heap.Ns X.env.locals m/\∀(i:Nat) (x:Str) (v:V),X.N[i]? = some x->σ[i]? = some (some v)->fX X.env.scope x->∃u,RelV v u/\Look X.env s.heap m x u
 cell:∀x c,X.env.cells.lookup x=some c->∃v,s.heap.IsCell c v
 free:H X.env.locals=none
 freeC:∀x c,X.env.cells.lookup x=some c->H c=none
 pin:∀p∈X.pn++pins,s.heap.get? p.1=some p.2/\H p.1=none/\p.1≠X.env.locals/\p.1∉X.fs/\∀v,p.2.data≠.cell v
 hok:HOk X.prog X.w H s.heap
 len:σ.length=X.N.length
section
variable{X:Cx}{pins:List (Addr×Obj)}{σ:List (Option V)}{H H':Hp}{s:af}{h':Heap}
theorem Cx.Ok.nofr(ok:X.Ok){b:Addr}{o:Obj}(e:X.base.get? b=some o):b∉X.fs:=λhb=>by
 have:=(ok.funs.mem hb).1;rw[e]at this;cases this
theorem Inv.bs(I:Inv X pins σ H s):∀b o,X.base.get? b=some o->s.heap.get? b=some o/\H b=none:=λb o e=>
 ⟨I.base.keep b o (I.ok.bs b o e).1 (I.ok.bs b o e).2 (I.ok.nofr e) (I.ok.noex b o e),I.base.free b o (I.ok.bs b o e).1 (I.ok.bs b o e).2 (I.ok.noex b o e)⟩
theorem Inv.bk(I:Inv X pins σ H s):∀b o,X.base.get? b=some o->s.heap.get? b=some o:=λb o e=>(I.bs b o e).1
theorem Inv.mod(I:Inv X pins σ H s):Mod X.K X.mg X.base:=I.ok.mod
theorem Inv.kIn(I:Inv X pins σ H s):X.K.In s.heap:=I.ok.mod.kin.keeps I.bk
theorem Inv.nolimit(I:Inv X pins σ H s):s.heap.NoLimit:=I.ok.mod.nolimit.keeps I.bk
theorem Inv.fr(I:Inv X pins σ H s):∃m,Fr X.base X.env.locals s.heap m:=
 let ⟨m,hn,_⟩:=I.loc
 ⟨m,hn,I.bk,bp I.ok.bsz I.ok.above⟩
theorem Inv.lt(I:Inv X pins σ H s):X.env.locals<s.heap.objs.size:=let ⟨_,hn,_⟩:=I.loc;hn.lt
theorem Inv.sz(I:Inv X pins σ H s):X.s₀.heap.objs.size<=s.heap.objs.size:=bp I.ok.above (Nat.le_of_lt I.lt)
theorem Inv.nofs(I:Inv X pins σ H s){a:Addr}(h:s.heap.objs.size<=a):a∉X.fs:=λhb=>by
 obtain⟨_,o,ho,_⟩:=I.ok.funs.mem hb;exact absurd (bw (aJ ho) (bp I.sz h)) (bL _)
theorem Inv.cne(I:Inv X pins σ H s):∀x c,X.env.cells.lookup x=some c->c≠X.env.locals:=λx c e z=>by
 obtain⟨v,o,ho,hd⟩:=I.cell x c e;obtain⟨m,⟨o',es,ep,ho',hd',_⟩,_⟩:=I.loc;rw[z,ho']at ho;cases ho;rw[hd']at hd;cases hd
theorem Inv.funs(I:Inv X pins σ H s):s.heap.FunFrames X.base X.outer:=by
 have all:∀(l:List Env),(∀b∈frs l,b∈X.fs)->X.s₀.heap.FunFrames X.base l->s.heap.FunFrames X.base l:=by
  intro l
  induction l with
  |nil=>intro _ _;trivial
  |cons env r ih=>
   intro hs hl;obtain⟨hk,⟨L,o,hf,hn,ho,hd⟩,hr⟩:=hl;have hL:L∈X.fs:=hs L (by unfold frs;rw[List.filterMap_cons,hf];exact aR);obtain⟨sl,e⟩:=I.base.slot L o ho (I.ok.frf L hL) hL λz=>I.ok.exfs L z hL
   exact⟨hk,⟨L,_,hf,hn,e,hd⟩,ih (λb hb=>hs b (by unfold frs;rw[List.filterMap_cons,hf];exact aP _ hb)) hr⟩
 exact all X.outer (λ_ hb=>hb) I.ok.funs
theorem Inv.stack(I:Inv X pins σ H s):s.heap.FunFrames X.base X.stack:=by
 rcases I.ok.stk with e|⟨e,hf⟩
 ·rw[e];exact I.funs
 ·rw[e];obtain⟨m,hn,_⟩:=I.loc;refine .cons (by rw[I.ok.kind];decide) hf hn ?_ I.funs;exact Heap.get?_none_of_le (bp I.ok.bsz I.ok.above)
theorem Inv.stkSub(I:Inv X pins σ H s):∀b∈frs X.stack,b∈X.env.locals::X.fs:=λb hb=>by
 rcases I.ok.stk with e|⟨e,hf⟩
 ·rw[e]at hb;exact aP _ hb
 ·rw[e]at hb;unfold frs at hb;rw[List.filterMap_cons,hf]at hb;exact hb
theorem Inv.stkFree(I:Inv X pins σ H s):∀b∈frs X.stack,H b=none:=λb hb=>by
 rcases aL.mp (I.stkSub b hb)with e|hb
 ·rw[e];exact I.free
 ·obtain⟨_,o,ho,_⟩:=I.ok.funs.mem hb;exact I.base.free b o ho (I.ok.frf b hb) λz=>I.ok.exfs b z hb
theorem Inv.step{g':Array GenState}{t':Nat}{d':Drawn}{ch:List Addr}(I:Inv X pins σ H s)
  (hch:∀b∈ch,(b∈X.ex\/X.s₀.heap.objs.size<=b)/\b≠X.env.locals/\(∀x c,X.env.cells.lookup x=some c->c≠b)/\∀p∈X.pn++pins,p.1≠b)
  (keep:∀b o,b≠X.env.locals->b∉X.fs->b∉ch->s.heap.get? b=some o->H b=none->h'.get? b=some o)
  (slot:∀b o,b≠X.env.locals->b∈X.fs->b∉ch->s.heap.get? b=some o->H b=none->∃sl,h'.get? b=some {o with slots:=sl}) (free:∀b o,b∉ch->s.heap.get? b=some o->H b=none->H' b=none)
  (there:∀b o,b∉ch->s.heap.get? b=some o->∃o',h'.get? b=some o')
  (tups:∀b xs,H b=some (.tup xs)->H' b=some (.tup xs)) (frzs:∀b o u,H b=some (.frz o u)->H' b=some (.frz o u)) (tbls:∀b ps,H b=some (.tbl ps)->∃more,H' b=some (.tbl (ps++more)))
  (ns:∀m,s.heap.Ns X.env.locals m->h'.Ns X.env.locals m) (hok:HOk X.prog X.w H' h') (hg:AllBare g') :
  Inv X pins σ H' {s with heap:=h',gens:=g',drawn:=d',toks:=t'}:=by
 have neL:∀b o,X.s₀.heap.get? b=some o->b≠X.env.locals:=λb o e=>aX (bw (aJ e) I.ok.above)
 have neC:∀b o,X.s₀.heap.get? b=some o->b∉X.ex->b∉ch:=λb o e hx hb=>by
  rcases(hch b hb).1 with z|z
  ·exact hx z
  ·exact absurd (bw (aJ e) z) (bL _)
 have cellK:∀x c,X.env.cells.lookup x=some c->∀v,s.heap.IsCell c v->h'.IsCell c v:=λx c e v ⟨o,ho,hd⟩=>by
  have nch:c∉ch:=λz=>(hch c z).2.2.1 x c e rfl
  by_cases hc:c∈X.fs
  ·obtain⟨sl,q⟩:=slot c o (I.cne x c e) hc nch ho (I.freeC x c e);exact⟨_,q,hd⟩
  ·exact⟨o,keep c o (I.cne x c e) hc nch ho (I.freeC x c e),hd⟩
 refine⟨I.ok,I.os,hg,⟨λb o e n hb hx=>?_,λb o e n hb hx=>?_,λb o e n hx=>?_,λb o e hx=>?_,λb xs e=>tups b xs (I.base.tups b xs e),λb o xs e=>frzs b o xs (I.base.frzs b o xs e),λb ps e=>?_⟩,?_,λx c e=>?_,?_,λx c e=>?_,λp hp=>?_,hok,I.len⟩
 ·exact keep b o (neL b o e) hb (neC b o e hx) (I.base.keep b o e n hb hx) (I.base.free b o e n hx)
 ·obtain⟨sl,e1⟩:=I.base.slot b o e n hb hx;obtain⟨sl',e2⟩:=slot b _ (neL b o e) hb (neC b o e hx) e1 (I.base.free b o e n hx);exact⟨sl',e2⟩
 ·obtain⟨o',e1⟩:=I.base.there b o e hx;exact free b o' (neC b o e hx) e1 (I.base.free b o e n hx)
 ·obtain⟨o',e1⟩:=I.base.there b o e hx;exact there b o' (neC b o e hx) e1
 ·obtain⟨m1,e1⟩:=I.base.tbls b ps e;obtain⟨m2,e2⟩:=tbls b _ e1;exact⟨m1++m2,by rw[e2,Array.append_assoc]⟩
 ·obtain⟨m,hn,hl⟩:=I.loc;refine⟨m,ns m hn,λi x v e1 e2 e3=>?_⟩;obtain⟨u,r,l⟩:=hl i x v e1 e2 e3;refine⟨u,r,?_⟩;rcases l with l|⟨k,c,e,z⟩
  ·exact .inl l
  ·exact .inr ⟨k,c,e,cellK x c e _ z⟩
 ·obtain⟨v,z⟩:=I.cell x c e;exact⟨v,cellK x c e v z⟩
 ·obtain⟨m,⟨o,_,_,ho,_⟩,_⟩:=I.loc;exact free _ o (λz=>(hch _ z).2.1 rfl) ho I.free
 ·obtain⟨v,o,ho,hd⟩:=I.cell x c e;exact free c o (λz=>(hch c z).2.2.1 x c e rfl) ho (I.freeC x c e)
 ·obtain⟨e,n,ne,nf,d⟩:=I.pin p hp;have nch:p.1∉ch:=λz=>(hch p.1 z).2.2.2 p hp rfl
  exact⟨keep p.1 p.2 ne nf nch e n,free p.1 p.2 nch e n,ne,nf,d⟩
theorem Inv.un{t':Nat}(I:Inv X pins σ H s)(u:Un X.fs [] H H' s.heap h')(hok:HOk X.prog X.w H' h'):Inv X pins σ H' {s with heap:=h',toks:=t'}:=by
 obtain⟨m,⟨o,es,ep,ho,r⟩,_⟩:=id I.loc;obtain⟨sl,hL⟩:=u.any ho I.free (by simp);exact I.step (g':=s.gens) (d':=s.drawn) (ch:=[]) (λ_ z=>nomatch z) (λb o _ hb _ e n=>u.keep b o e n hb (by simp)) (λb o _ hb _ e n=>u.slot b o e n hb (by simp)) (λb o _ e n=>u.free b o e n (by simp)) (λb o _ e=>u.there b o e (by simp)) u.tups u.frzs u.tbls (λm' hm=>by
  obtain⟨o',es',ep',ho',r'⟩:=hm;rw[ho]at ho';cases ho';exact⟨_,es',ep',hL,r'⟩) hok I.bare
theorem Inv.call{g':Array GenState}{t':Nat}{d':Drawn}{ch:List Addr}(I:Inv X pins σ H s)(u:Un (frs X.stack) ch H H' s.heap h')(hok:HOk X.prog X.w H' h')(hg:AllBare g')
  (hch:∀b∈ch,(b∈X.ex\/X.s₀.heap.objs.size<=b)/\b≠X.env.locals/\(∀x c,X.env.cells.lookup x=some c->c≠b)/\∀p∈X.pn++pins,p.1≠b) :
  Inv X pins σ H' {s with heap:=h',gens:=g',drawn:=d',toks:=t'}:=by
 obtain⟨m,⟨o,es,ep,ho,r⟩,_⟩:=id I.loc;obtain⟨sl,hL⟩:=u.any ho I.free λz=>(hch _ z).2.1 rfl
 exact I.step (ch:=ch) hch (λb o hL hb hc e n=>u.keep b o e n (λz=>(aL.mp (I.stkSub b z)).elim hL hb) hc) (λb o _ _ hc e n=>u.any e n hc) (λb o hc e n=>u.free b o e n hc) (λb o hc e=>u.there b o e hc) u.tups u.frzs u.tbls (λm' hm=>by
  obtain⟨o',es',ep',ho',r'⟩:=hm;rw[ho]at ho';cases ho';exact⟨_,es',ep',hL,r'⟩) hok hg
theorem Inv.turned{t':Nat}{it:Addr}(I:Inv X pins σ H s)(k:∀b o,b≠it->s.heap.get? b=some o->h'.get? b=some o)(hn:H it=none)(hL:it≠X.env.locals)
  (h1:it∈X.ex\/X.s₀.heap.objs.size<=it) (h2:∀x c,X.env.cells.lookup x=some c->c≠it) (h3:∀p∈X.pn++pins,p.1≠it):Inv X pins σ H {s with heap:=h',toks:=t'}:=by
 have nit:∀b u,H b=some u->b≠it:=λb u e z=>by rw[z,hn]at e;cases e
 refine I.step (g':=s.gens) (d':=s.drawn) (ch:=[it]) (λb hb=>?_) (λb o _ _ hc e _=>k b o (λz=>hc (by simp[z])) e) (λb o _ _ hc e _=>⟨o.slots,k b o (λz=>hc (by simp[z])) e⟩) (λ_ _ _ _ n=>n)
  (λb o hc e=>⟨o,k b o (λz=>hc (by simp[z])) e⟩) (λ_ _ e=>e) (λ_ _ _ e=>e) (λb ps e=>⟨#[],by rw[e];simp⟩) (λm hm=>?_) (λb u e=>?_) I.bare
 ·have e:b=it:=by simpa using hb
  subst e;exact⟨h1,hL,h2,h3⟩
 ·obtain⟨o,es,ep,ho,r⟩:=hm;exact⟨o,es,ep,k _ o (Ne.symm hL) ho,r⟩
 ·refine(I.hok b u e).stay (λc v hc q=>k c v ?_ q) (λ_ q=>q) λ_ _ q=>q
  rcases hc with z|z
  ·rw[z];exact nit b u e
  ·exact nit c _ z
theorem Inv.tok(I:Inv X pins σ H s)(t:Nat):Inv X pins σ H {s with toks:=t}:=I.un (h':=s.heap) (t':=t) Un.refl I.hok
theorem Inv.kept{t':Nat}(I:Inv X pins σ H s)(k:∀b u,s.heap.get? b=some u->h'.get? b=some u):Inv X pins σ H {s with heap:=h',toks:=t'}:=I.un (Un.kept k) (I.hok.kept k)
theorem Inv.laid{a:Addr}{o:HO}{t':Nat}(I:Inv X pins σ H s)(k:∀b u,s.heap.get? b=some u->h'.get? b=some u)(hp:s.heap.objs.size<=a)(new:zN X.prog X.w (upd H a o) h' a o) :
  Inv X pins σ (upd H a o) {s with heap:=h',toks:=t'}:=I.un (Un.laid k hp (I.hok.fresh hp)) (I.hok.laid k hp new)
theorem Inv.write{x e:Addr}{o:HO}{t':Nat}(I:Inv X pins σ H s)(mu:Mut (H x))(he:e=x\/H e=some (.own x))(k:∀b u,b≠e->s.heap.get? b=some u->h'.get? b=some u)(heo:∃u,h'.get? e=some u)
  (new:zN X.prog X.w (upd H x o) h' x o):Inv X pins σ (upd H x o) {s with heap:=h',toks:=t'}:=I.un (Un.write mu he k heo) (I.hok.write mu he k heo new)
theorem Inv.pins_of{pins':List (Addr×Obj)}(I:Inv X pins σ H s)(h:∀p∈pins',s.heap.get? p.1=some p.2/\H p.1=none/\p.1≠X.env.locals/\p.1∉X.fs/\∀v,p.2.data≠.cell v):Inv X pins' σ H s:=
 ⟨I.ok,I.os,I.bare,I.base,I.loc,I.cell,I.free,I.freeC,λp hp=>(List.mem_append.mp hp).elim (λz=>I.pin p (List.mem_append_left _ z)) (h p),I.hok,I.len⟩
theorem nG{N:List Str}(hN:N.Nodup){i j:Nat}{x:Str}(a:N[i]? = some x)(b:N[j]? = some x):i=j:=by
 obtain⟨h1,e1⟩:=List.getElem?_eq_some_iff.mp a;obtain⟨h2,e2⟩:=List.getElem?_eq_some_iff.mp b;exact(List.getElem_inj hN).mp (e1.trans e2.symm)
theorem nK{M:Model}{A:ay}{E:ae->af->Prop}{i:Nat}{x:Str}{v:V}{u:ae}{Q:Unit->af->Prop}(I:Inv X pins σ H s)(hN:X.N.Nodup)(hi:X.N[i]? = some x)(hx:Loc X.env.scope x)(r:RelV v u)
  (h:∀s',Inv X pins (σ.set i (some v)) H s'->(∃a,Heap.SameBut a s.heap s'.heap/\(a=X.env.locals\/X.env.cells.lookup x=some a))->Q () s') (hf:X.fn x=true\/X.env.scope.names.lookup x=some .local:=by first|exact .inl rfl|exact .inr rfl|assumption):ak M A (storeName X.env x u) Q E s:=by
 obtain⟨m,hn,hl⟩:=id I.loc;have hcls:(X.env.scope.kind==.class||(X.env.scope.kind==.module&&X.env.locals != X.env.globals))=false:=by rw[I.ok.kind];rfl
 have hiσ:i<σ.length:=by rw[I.len];exact(List.getElem?_eq_some_iff.mp hi).1
 have cne:=I.cne;have tracked:∀{a:Addr}{h':Heap},(∃o,s.heap.get? a=some o/\H a=none)->Heap.SameBut a s.heap h'->HOk X.prog X.w H h':=λ{a h'} ha hs b ob e=>by
  obtain⟨_,_,hfree⟩:=ha;refine(I.hok b ob e).stay (λc w' hc q=>(hs.2 c ?_).trans q) (λ_ q=>q) λ_ _ q=>q
  rintro rfl;rcases hc with rfl|hc
  ·rw[hfree]at e;cases e
  ·rw[hfree]at hc;cases hc
 rcases hx with hk|hk
 ·refine wpAny_storeName_local hk hn (λh' hn' hs=>?_) hcls;obtain⟨oL,_,_,hoL,_⟩:=id hn;refine h _ ⟨I.ok,I.os,I.bare,⟨λb o e n hb hx=>?_,λb o e n hb hx=>?_,I.base.free,λb o e hx=>?_,I.base.tups,I.base.frzs,I.base.tbls⟩,⟨_,hn',λj y v' e1 e2 e3=>?_⟩,λy c e=>?_,I.free,I.freeC,λp hp=>?_,tracked ⟨oL,hoL,I.free⟩ hs,by simpa using I.len⟩ ⟨_,hs,.inl rfl⟩
  ·exact(hs.2 b (aX (bw (aJ e) I.ok.above))).trans (I.base.keep b o e n hb hx)
  ·obtain⟨sl,e1⟩:=I.base.slot b o e n hb hx;exact⟨sl,(hs.2 b (aX (bw (aJ e) I.ok.above))).trans e1⟩
  ·obtain⟨o',e1⟩:=I.base.there b o e hx;exact⟨o',(hs.2 b (aX (bw (aJ e) I.ok.above))).trans e1⟩
  ·by_cases hj:j=i
   ·subst hj;rw[hi]at e1;cases e1;rw[List.getElem?_set_self hiσ]at e2;cases e2;exact⟨u,r,.inl ⟨hk,by simp⟩⟩
   ·rw[List.getElem?_set_ne (Ne.symm hj)]at e2;obtain⟨u',r',q⟩:=hl j y v' e1 e2 e3;refine⟨u',r',?_⟩;rcases q with ⟨k,e⟩|⟨k,c,e,z⟩
    ·refine .inl ⟨k,?_⟩;have:y≠x:=λe=>hj (nG hN e1 (e▸hi))
     simp[this,e]
    ·exact .inr ⟨k,c,e,z.sameBut hs (cne y c e)⟩
  ·obtain⟨w',z⟩:=I.cell y c e;exact⟨w',z.sameBut hs (cne y c e)⟩
  ·obtain⟨e,n,ne,nf,d⟩:=I.pin p hp;exact⟨(hs.2 p.1 ne).trans e,n,ne,nf,d⟩
 ·have hfn:X.fn x=true:=by
   rcases hf with z|z
   ·exact z
   ·rw[z]at hk;cases hk
  obtain⟨c,hc⟩:=I.ok.has x (.inl hk);obtain⟨w',z⟩:=I.cell x c hc;refine wpAny_storeName_cell I.ok.kind hk hc z (λh' hc' hs=>?_);obtain⟨oc,hoc,hocd⟩:=id z;refine h {s with heap:=h'} ⟨I.ok,I.os,I.bare,⟨λb o e n hb hx=>?_,λb o e n hb hx=>?_,I.base.free,λb o e hx=>?_,I.base.tups,I.base.frzs,I.base.tbls⟩,⟨m,hn.sameBut hs (Ne.symm (cne x c hc)),λj y v' e1 e2 e3=>?_⟩,λy c' e=>?_,I.free,I.freeC,λp hp=>?_,tracked ⟨oc,hoc,I.freeC x c hc⟩ hs,by simpa using I.len⟩ ⟨c,hs,.inr hc⟩
  ·exact(hs.2 b (aX (bw (aJ e) (I.ok.cab x c hfn hc)))).trans (I.base.keep b o e n hb hx)
  ·obtain⟨sl,e1⟩:=I.base.slot b o e n hb hx;exact⟨sl,(hs.2 b (aX (bw (aJ e) (I.ok.cab x c hfn hc)))).trans e1⟩
  ·obtain⟨o',e1⟩:=I.base.there b o e hx;exact⟨o',(hs.2 b (aX (bw (aJ e) (I.ok.cab x c hfn hc)))).trans e1⟩
  ·by_cases hj:j=i
   ·subst hj;rw[hi]at e1;cases e1;rw[List.getElem?_set_self hiσ]at e2;cases e2;exact⟨u,r,.inr ⟨.inl hk,c,hc,hc'⟩⟩
   ·rw[List.getElem?_set_ne (Ne.symm hj)]at e2;obtain⟨u',r',q⟩:=hl j y v' e1 e2 e3;refine⟨u',r',?_⟩;rcases q with q|⟨k,c',e,z'⟩
    ·exact .inl q
    ·refine .inr ⟨k,c',e,z'.sameBut hs ?_⟩;rintro rfl;exact hj (nG hN e1 (I.ok.inj _ _ _ e hc▸hi))
  ·by_cases hcc:c'=c
   ·subst hcc;exact⟨_,hc'⟩
   ·obtain⟨w2,z2⟩:=I.cell y c' e;exact⟨w2,z2.sameBut hs hcc⟩
  ·obtain⟨e,n,ne,nf,d⟩:=I.pin p hp;refine⟨(hs.2 p.1 ?_).trans e,n,ne,nf,d⟩;intro q;rw[q,hoc]at e;have q':oc=p.2:=bJ e;exact d w' (by rw[<-q'];exact hocd)
theorem hW{M:Model}{A:ay}{E:ae->af->Prop}{i:Nat}{x:Str}{v:V}{u:ae}{Q:Unit->af->Prop}(I:Inv X pins σ H s)(hN:X.N.Nodup)(hi:X.N[i]? = some x)(hx:Loc X.env.scope x)(r:RelV v u)
  (h:∀s',Inv X pins (σ.set i (some v)) H s'->Q () s') (hf:X.fn x=true\/X.env.scope.names.lookup x=some .local:=by first|exact .inl rfl|exact .inr rfl|assumption):ak M A (storeName X.env x u) Q E s:=
 nK I hN hi hx r (λs' I' _=>h s' I') hf
theorem Inv.call'{s':af}{ch:List Addr}(I:Inv X pins σ H s)(ho:s'.os=s.os)(u:Un (frs X.stack) ch H H' s.heap s'.heap)(hok:HOk X.prog X.w H' s'.heap)(hg:AllBare s'.gens)
  (hch:∀b∈ch,(b∈X.ex\/X.s₀.heap.objs.size<=b)/\b≠X.env.locals/\(∀x c,X.env.cells.lookup x=some c->c≠b)/\∀p∈X.pn++pins,p.1≠b):Inv X pins σ H' s':=by
 obtain⟨h',g',d',t',o'⟩:=s';have e:o'=s.os:=ho;subst e;exact I.call (g':=g') (t':=t') (d':=d') u hok hg hch
end
abbrev XK:=ae->Option Addr->Hp->Prop
abbrev St:=List (Option V)
abbrev VK:=V->Hp->Prop
abbrev TE:=St->Hp->VK->Prop
abbrev TT:=St->Hp->(Bool->Hp->Prop)->Prop
abbrev TA:=St->Hp->(List V->Hp->Prop)->Prop
structure Ends where
 nx:St->Hp->Prop
 rt:VK
 bk:St->Hp->Prop:=λ_ _=>False
 ct:St->Hp->Prop:=λ_ _=>False
abbrev TS:=Ends->St->Hp->Prop
noncomputable def EP(X:Cx)(pins:List (Addr×Obj))(σ:St)(Q:VK)(u:ae)(s':af):Prop:=∃v H',Inv X pins σ H' s'/\RelV v u/\Q v H'
noncomputable def TP(X:Cx)(pins:List (Addr×Obj))(σ:St)(Q:Bool->Hp->Prop)(b:Bool)(s':af):Prop:=∃H',Inv X pins σ H' s'/\Q b H'
noncomputable def AP(X:Cx)(pins:List (Addr×Obj))(σ:St)(Q:List V->Hp->Prop)(us:List ae)(s':af):Prop:=∃vs H',Inv X pins σ H' s'/\Vals vs us/\Q vs H'
noncomputable def SP(X:Cx)(pins:List (Addr×Obj))(D:Ends)(f:Flow)(s':af):Prop:=
 match f with
 | .next=>∃σ' H',Inv X pins σ' H' s'/\D.nx σ' H'
 | .brk=>∃σ' H',Inv X pins σ' H' s'/\D.bk σ' H'
 | .cont=>∃σ' H',Inv X pins σ' H' s'/\D.ct σ' H'
 | .ret u=>∃v σ' H',Inv X pins σ' H' s'/\RelV v u/\D.rt v H'
noncomputable def PE(X:Cx)(e:Expr)(t:TE):Prop:=
 ∀(pins:List (Addr×Obj)) (s:af) (σ:St) (H:Hp) (Q:VK),Inv X pins σ H s->t σ H Q->ak (ah X.prog X.w) X.A (eval e X.env) (EP X pins σ Q) X.xe s
noncomputable def PT(X:Cx)(e:Expr)(t:TT):Prop:=
 ∀(pins:List (Addr×Obj)) (s:af) (σ:St) (H:Hp) (Q:Bool->Hp->Prop),Inv X pins σ H s->t σ H Q->ak (ah X.prog X.w) X.A (isTrue e X.env (eval e X.env)) (TP X pins σ Q) X.xe s
noncomputable def PW(X:Cx)(e:Expr)(t:TT):Prop:=
 ∀(whole:Sem ae) (pins:List (Addr×Obj)) (s:af) (σ:St) (H:Hp) (Q:Bool->Hp->Prop),Inv X pins σ H s->t σ H Q->ak (ah X.prog X.w) X.A (isTrue e X.env whole) (TP X pins σ Q) X.xe s
theorem PW.pt{X:Cx}{e:Expr}{t:TT}(h:PW X e t):PT X e t:=h _
noncomputable def PA(X:Cx)(es:List Expr)(t:TA):Prop:=
 ∀(pos:Pos) (pins:List (Addr×Obj)) (s:af) (σ:St) (H:Hp) (Q:List V->Hp->Prop),Inv X pins σ H s->t σ H Q->ak (ah X.prog X.w) X.A (spliced (backTo pos (aO es X.env))) (AP X pins σ Q) X.xe s
noncomputable def PS(X:Cx)(st:Stmt)(t:TS):Prop:=
 ∀(pins:List (Addr×Obj)) (s:af) (σ:St) (H:Hp) (D:Ends),Inv X pins σ H s->t D σ H->ak (ah X.prog X.w) X.A (exec st X.env) (SP X pins D) X.xe s
noncomputable def PSs(X:Cx)(st:List Stmt)(t:TS):Prop:=
 ∀(pins:List (Addr×Obj)) (s:af) (σ:St) (H:Hp) (D:Ends),Inv X pins σ H s->t D σ H->ak (ah X.prog X.w) X.A (execs st X.env) (SP X pins D) X.xe s
theorem thn{α:Type}{t:Sem α}{Q Q':α->af->Prop}{M:Model}{A:ay}{E:ae->af->Prop}{s:af}(h:ak M A t Q E s)(hQ:∀a s,Q a s->Q' a s):ak M A t Q' E s:=bC h hQ λ_ _ x=>x
section
variable{X:Cx}
theorem bin{a b:Expr}{ta tb:TE}(ha:PE X a ta)(hb:PE X b tb){pins:List (Addr×Obj)}{s:af}{σ:St}{H:Hp}{R:V->V->Hp->Prop}(I:Inv X pins σ H s)(h:ta σ H λx H1=>tb σ H1 λy H2=>R x y H2)
  {α:Type}{Q:α->af->Prop}{f:ae->ae->Sem α}
  (hf:∀v u s2 x y H2,Inv X pins σ H2 s2->RelV x v->RelV y u->R x y H2->ak (ah X.prog X.w) X.A (f v u) Q X.xe s2) :
  ak (ah X.prog X.w) X.A (eval a X.env) (λv s₁=>ak (ah X.prog X.w) X.A (eval b X.env) (λu s₂=>ak (ah X.prog X.w) X.A (f v u) Q X.xe s₂) X.xe s₁) X.xe s:=by
 refine thn (ha pins s σ H _ I h) λv s1 ⟨x,H1,I1,r1,q1⟩=>?_
 refine thn (hb pins s1 σ H1 _ I1 q1) λu s2 ⟨y,H2,I2,r2,q2⟩=>?_
 exact hf v u s2 x y H2 I2 r1 r2 q2
noncomputable def gJ(i:Nat):TE:=λσ H Q=>∃v,σ[i]? = some (some v)/\Q v H
noncomputable def tC(v:V):TE:=λ_ H Q=>Q v H
theorem iM{i:Nat}{x:Str}{pos:Pos}(hN:X.N[i]? = some x)(hv:fX X.env.scope x)(hd:(x==("__debug__" : Str))=false:=by decide)(hcd:(x==("__classdict__" : Str))=false:=by decide):PE X (.Name x pos) (gJ i):=by
 intro pins s σ H Q I h;obtain⟨v,e,h⟩:=h;obtain⟨m,hn,hl⟩:=I.loc;obtain⟨u,r,l⟩:=hl i x v hN e hv;have fin:EP X pins σ Q u s:=⟨v,H,I,r,h⟩
 rcases l with ⟨hk,hm⟩|⟨hk,c,hc,hcell⟩
 ·exact wpAny_Name (wpAny_loadName_local I.ok.kind hk hn hm fin) hd
 ·rcases hk with hk|hk
  ·exact wpAny_Name (wpAny_loadName_cell I.ok.kind hk hc hcell fin) hd
  ·exact wpAny_Name (wpAny_loadName_free I.ok.kind hk hc hcell fin hcd) hd
theorem ue{i j pos}:PE X (.Constant (.int i) j pos) (tC (.int i)):=λ_ _ _ H _ I h=>wpAny_Constant_int ⟨.int i,H,I.tok _,⟨_,rfl⟩,h⟩
theorem yU{b j pos}:PE X (.Constant (.bool b) j pos) (tC (.bl b)):=λ_ _ _ H _ I h=>Constant_bool ⟨.bl b,H,I,rfl,h⟩
theorem wc{j pos}:PE X (.Constant .none j pos) (tC .non):=λ_ _ _ H _ I h=>Constant_none ⟨.non,H,I,rfl,h⟩
theorem xr{x j pos}:PE X (.Constant (.str x) j pos) (tC (.str x)):=λ_ _ _ H _ I h=>Calls.Constant_str ⟨.str x,H,I.tok _,⟨_,rfl⟩,h⟩
noncomputable def Gl(X:Cx)(x:Str):Prop:=X.env.kindOf x=some .globalImplicit
theorem fJ{E:ae->af->Prop}{pins:List (Addr×Obj)}{s:af}{σ:St}{H:Hp}{x:Str}{u:ae}{pos:Pos}{Q:ae->af->Prop}(I:Inv X pins σ H s)(hg:Gl X x)(hm:X.mg x=some u)(h:Q u s)
  (hd:(x==("__debug__" : Str))=false:=by decide):ak (ah X.prog X.w) X.A (eval (.Name x pos) X.env) Q E s:=
 Calls.Name_function_global I.ok.kind hg (Calls.loadGlobal_global (by rw[I.ok.glob];exact I.mod.glob.keeps I.bk) hm h) hd
theorem fR{E:ae->af->Prop}{pins:List (Addr×Obj)}{s:af}{σ:St}{H:Hp}{x:Str}{u:ae}{pos:Pos}{Q:ae->af->Prop}(I:Inv X pins σ H s)(hg:Gl X x)(hm:X.mg x=none)(hv:bF x=some u)(h:Q u s)
  (hn:x≠"__name__":=by decide) (hd:(x==("__debug__" : Str))=false:=by decide):ak (ah X.prog X.w) X.A (eval (.Name x pos) X.env) Q E s:=by
 obtain⟨mb,h1,h2⟩:=I.mod.blt;exact Calls.Name_function_global I.ok.kind hg (Calls.loadGlobal_builtin (by rw[I.ok.glob];exact I.mod.glob.keeps I.bk) hm (by rw[I.ok.blt];exact h1.keeps I.bk) ((h2 x hn).trans hv) h) hd
theorem ki{x:Str}{v:V}{u:ae}{pos:Pos}(hg:Gl X x)(hm:X.mg x=some u)(r:RelV v u)(hd:(x==("__debug__" : Str))=false:=by decide):PE X (.Name x pos) (tC v):=
 λ_ _ _ H _ I h=>fJ I hg hm ⟨v,H,I,r,h⟩ hd
theorem uK{x:Str}{v:V}{u:ae}{pos:Pos}(hg:Gl X x)(hm:X.mg x=none)(hv:bF x=some u)(r:RelV v u)(hn:x≠"__name__":=by decide)(hd:(x==("__debug__" : Str))=false:=by decide):PE X (.Name x pos) (tC v):=
 λ_ _ _ H _ I h=>fR I hg hm hv ⟨v,H,I,r,h⟩ hn hd
variable{a b:Expr}{ta tb:TE}{pos:Pos}
variable{tA tB':TT}{rest:List Expr}
noncomputable def Br(t u:TT):TT:=λσ H Q=>t σ H λc H1=>if c=true then u σ H1 Q else Q false H1
noncomputable def tOr(t u:TT):TT:=λσ H Q=>t σ H λc H1=>if c=true then Q true H1 else u σ H1 Q
noncomputable def yG(t:TT):TT:=λσ H Q=>t σ H λc H1=>Q (!c) H1
theorem Az(ha:PT X a tA):PW X (.BoolOp .And [a] pos) tA:=by
 intro wh pins s σ H Q I h;refine isTrue_and (thn (ha pins s σ H Q I h) λc s1 e=>?_);cases c with
 |true=>exact isTrue_and_nil e
 |false=>exact e
theorem xj(ha:PT X a tA):PW X (.BoolOp .Or [a] pos) tA:=by
 intro wh pins s σ H Q I h;refine isTrue_or (thn (ha pins s σ H Q I h) λc s1 e=>?_);cases c with
 |false=>exact isTrue_or_nil e
 |true=>exact e
theorem x_(ha:PT X a tA)(hb:PW X (.BoolOp .And (b::rest) pos) tB'):PW X (.BoolOp .And (a::b::rest) pos) (Br tA tB'):=by
 intro wh pins s σ H Q I h;refine isTrue_and (thn (ha pins s σ H _ I h) λc s1 ⟨H1,I1,q1⟩=>?_);cases c with
 |true=>exact hb wh pins s1 σ H1 Q I1 q1
 |false=>exact⟨H1,I1,q1⟩
theorem rW(ha:PT X a tA)(hb:PW X (.BoolOp .Or (b::rest) pos) tB'):PW X (.BoolOp .Or (a::b::rest) pos) (tOr tA tB'):=by
 intro wh pins s σ H Q I h;refine isTrue_or (thn (ha pins s σ H _ I h) λc s1 ⟨H1,I1,q1⟩=>?_);cases c with
 |true=>exact⟨H1,I1,q1⟩
 |false=>exact hb wh pins s1 σ H1 Q I1 q1
theorem wt(ha:PT X a tA):PT X (.UnaryOp .Not a pos) (yG tA):=by
 intro pins s σ H Q I h;exact isTrue_not (ha pins s σ H (λc H1=>Q (!c) H1) I h)
noncomputable def pL(ta tb:TE):TE:=λσ H Q=>ta σ H λx H1=>∃c,x=.bl c/\if c=true then tb σ H1 Q else Q (.bl false) H1
noncomputable def yY(ta tb:TE):TE:=λσ H Q=>ta σ H λx H1=>∃c,x=.bl c/\if c=true then Q (.bl true) H1 else tb σ H1 Q
noncomputable def pC(ta:TE):TE:=λσ H Q=>ta σ H λx H1=>∃c,x=.bl c/\Q (.bl (!c)) H1
theorem Ck{op}{t:TE}(h:PE X a t):PE X (.BoolOp op [a] pos) t:=λpins s σ H Q I hw=>BoolOp_one (h pins s σ H Q I hw)
theorem u9(ha:PE X a ta)(hb:PE X (.BoolOp .And (b::rest) pos) tb):PE X (.BoolOp .And (a::b::rest) pos) (pL ta tb):=by
 intro pins s σ H Q I h;refine BoolOp_and (thn (ha pins s σ H _ I h) λv s1 ⟨x,H1,I1,r1,q1⟩=>?_);obtain⟨c,rfl,q1⟩:=q1;cases r1;refine bB ?_;cases c with
 |true=>exact hb pins s1 σ H1 Q I1 q1
 |false=>exact⟨.bl false,H1,I1,rfl,q1⟩
theorem BM(ha:PE X a ta)(hb:PE X (.BoolOp .Or (b::rest) pos) tb):PE X (.BoolOp .Or (a::b::rest) pos) (yY ta tb):=by
 intro pins s σ H Q I h;refine BoolOp_or (thn (ha pins s σ H _ I h) λv s1 ⟨x,H1,I1,r1,q1⟩=>?_);obtain⟨c,rfl,q1⟩:=q1;cases r1;refine bB ?_;cases c with
 |false=>exact hb pins s1 σ H1 Q I1 q1
 |true=>exact⟨.bl true,H1,I1,rfl,q1⟩
theorem w_(ha:PE X a ta):PE X (.UnaryOp .Not a pos) (pC ta):=by
 intro pins s σ H Q I h;refine UnaryOp_ (thn (ha pins s σ H _ I h) λv s1 ⟨x,H1,I1,r1,q1⟩=>?_);obtain⟨c,rfl,q1⟩:=q1;cases r1;exact not_of (bB ⟨.bl (!c),H1,I1,rfl,q1⟩)
noncomputable def tIf(t:TT)(ta tb:TE):TE:=λσ H Q=>t σ H λc H1=>if c=true then ta σ H1 Q else tb σ H1 Q
theorem B4{c:Expr}(hc:PT X c tA)(ha:PE X a ta)(hb:PE X b tb):PE X (.IfExp c a b pos) (tIf tA ta tb):=by
 intro pins s σ H Q I h;refine wpAny_IfExp (thn (hc pins s σ H _ I h) λd s1 ⟨H1,I1,q1⟩=>?_);cases d with
 |true=>exact ha pins s1 σ H1 Q I1 q1
 |false=>exact hb pins s1 σ H1 Q I1 q1
end
noncomputable def SqL(K:ar)(H:Hp)(a:Addr)(xs:List V):Prop:=
 Rd H a (.lst xs) \/
  ∃(o:Obj) (its:Array ae) (n:Nat),K.lookup a=some o/\o.cls=.type "list"/\o.dict=none/\o.data=.seq its n/\its.size<=aH/\Vals xs its.toList
noncomputable def SqT(K:ar)(H:Hp)(a:Addr)(xs:List V):Prop:=
 Rd H a (.tup xs) \/
  ∃(o:Obj) (its:Array ae) (n:Nat),K.lookup a=some o/\o.cls=.type "tuple"/\o.data=.seq its n/\its.size<=aH/\Vals xs its.toList
noncomputable def wC:ae->Option V
 | .none=>some .non
 | .bool b=>some (.bl b)
 | .int i _=>some (.int i)
 | .str x _=>some (.str x)
 | .bytes b _=>some (.byt b)
 | .float b _=>some (.flt b)
 | .ref a=>some (.ref a)
 | .type n=>some (.ty n)
 |_=>none
theorem RelV.abs{x:V}{u:ae}(r:RelV x u):wC u=some x:=by
 cases x with
 |non=>cases r;rfl
 |bl _=>cases r;rfl
 |int _=>obtain⟨t,rfl⟩:=r;rfl
 |str _=>obtain⟨t,rfl⟩:=r;rfl
 |byt _=>obtain⟨t,rfl⟩:=r;rfl
 |flt _=>obtain⟨t,rfl⟩:=r;rfl
 |ref _=>cases r;rfl
 |ty _=>cases r;rfl
theorem RelV.inj{x y:V}{u:ae}(r:RelV x u)(q:RelV y u):x=y:=bJ (r.abs.symm.trans q.abs)
theorem Vals.inj{xs ys:List V}{us:List ae}(h:Vals xs us)(h':Vals ys us):xs=ys:=by
 induction h generalizing ys with
 |nil=>cases h';rfl
 |cons r t ih=>cases h' with
  |cons r' t'=>rw[r.inj r',ih t']
section
variable{X:Cx}{pins:List (Addr×Obj)}{σ:St}{H:Hp}{s:af}{a:Addr}{xs ys:List V}
theorem SqL.of{K:ar}(h:H a=some (.lst xs)):SqL K H a xs:=.inl (.inl h)
theorem SqT.of{K:ar}(h:H a=some (.tup xs)):SqT K H a xs:=.inl (.inl h)
theorem Inv.list(I:Inv X pins σ H s)(h:SqL X.K H a xs):∃its:List ae,Vals xs its/\PlainL s.heap a its.toArray/\xs.length<=sizeLine:=by
 rcases h with h|⟨o,its,n,hk,hc,hd,hs,hz,r⟩
 ·obtain⟨z,its,n,r,e⟩:=h.ok I.hok;exact⟨its,r,⟨_,n,e,rfl,rfl,rfl⟩,z⟩
 ·refine⟨its.toList,r,⟨o,n,I.kIn a o hk,hc,hd,by simpa using hs⟩,?_⟩;have e:=r.length;simp only[dv]at e;lia
theorem Inv.tuple(I:Inv X pins σ H s)(h:SqT X.K H a xs):∃its:List ae,Vals xs its/\IsTup s.heap a its.toArray/\xs.length<=sizeLine:=by
 rcases h with h|⟨o,its,n,hk,hc,hs,hz,r⟩
 ·obtain⟨z,its,r,p⟩:=h.ok I.hok;exact⟨its,r,p,z⟩
 ·refine⟨its.toList,r,⟨o,I.kIn a o hk,hc,n,by simpa using hs⟩,?_⟩;have e:=r.length;simp only[dv]at e;lia
theorem Inv.list_inj(I:Inv X pins σ H s)(h:SqL X.K H a xs)(h':SqL X.K H a ys):xs=ys:=by
 obtain⟨its,r,⟨o,n,e,_,_,d⟩,_⟩:=I.list h;obtain⟨its',r',⟨o',n',e',_,_,d'⟩,_⟩:=I.list h';rw[e]at e';cases e';rw[d]at d';injection d' with d1 _
 have:its=its':=by simpa using congrArg Array.toList d1
 subst this;exact r.inj r'
theorem Inv.tuple_inj(I:Inv X pins σ H s)(h:SqT X.K H a xs)(h':SqT X.K H a ys):xs=ys:=by
 obtain⟨its,r,⟨o,e,_,n,d⟩,_⟩:=I.tuple h;obtain⟨its',r',⟨o',e',_,n',d'⟩,_⟩:=I.tuple h';rw[e]at e';cases e';rw[d]at d';injection d' with d1 _
 have:its=its':=by simpa using congrArg Array.toList d1
 subst this;exact r.inj r'
end
abbrev Cx.wish(X:Cx)(E:ae->af->Prop):Cx:={X with xe:=E}
abbrev Cx.nox(X:Cx):Cx:=X.wish λ_ _=>False
theorem Cx.Ok.wish{X:Cx}(ok:X.Ok)(E:ae->af->Prop):(X.wish E).Ok:=
 ⟨ok.mod,ok.kind,ok.glob,ok.blt,ok.above,ok.inj,ok.has,ok.cab,ok.hd,ok.frames,ok.stk,ok.exf,ok.bs,ok.bsz,ok.noex,ok.exfs,ok.funs,ok.frf⟩
theorem Cx.Ok.unwish{X:Cx}{E:ae->af->Prop}(ok:(X.wish E).Ok):X.Ok:=
 ⟨ok.mod,ok.kind,ok.glob,ok.blt,ok.above,ok.inj,ok.has,ok.cab,ok.hd,ok.frames,ok.stk,ok.exf,ok.bs,ok.bsz,ok.noex,ok.exfs,ok.funs,ok.frf⟩
section
variable{X:Cx}{pins:List (Addr×Obj)}{σ:St}{H:Hp}{s:af}{E:ae->af->Prop}
theorem Inv.wish(I:Inv X pins σ H s)(E:ae->af->Prop):Inv (X.wish E) pins σ H s:=⟨I.ok.wish E,I.os,I.bare,I.base,I.loc,I.cell,I.free,I.freeC,I.pin,I.hok,I.len⟩
theorem Inv.unwish(I:Inv (X.wish E) pins σ H s):Inv X pins σ H s:=⟨I.ok.unwish,I.os,I.bare,I.base,I.loc,I.cell,I.free,I.freeC,I.pin,I.hok,I.len⟩
theorem SP.unwish{D:Ends}{f:Flow}{s':af}(h:SP (X.wish E) pins D f s'):SP X pins D f s':=by
 cases f with
 |next=>obtain⟨σ',H',I,q⟩:=h;exact⟨σ',H',I.unwish,q⟩
 |brk=>obtain⟨σ',H',I,q⟩:=h;exact⟨σ',H',I.unwish,q⟩
 |cont=>obtain⟨σ',H',I,q⟩:=h;exact⟨σ',H',I.unwish,q⟩
 |ret u=>obtain⟨v,σ',H',I,r,q⟩:=h;exact⟨v,σ',H',I.unwish,r,q⟩
end
section
variable{X:Cx}{st:Stmt}{rest:List Stmt}{t u:TS}{e:Expr}{te:TE}{pos:Pos}
noncomputable def hZ:TS:=λD σ H=>D.nx σ H
noncomputable def xy(t u:TS):TS:=λD σ H=>t {D with nx:=u D} σ H
theorem B7:PSs X [] hZ:=λ_ _ σ H _ I h=>wpAny_execs_nil ⟨σ,H,I,h⟩
theorem pW(h1:PS X st t)(h2:PSs X rest u):PSs X (st::rest) (xy t u):=by
 intro pins s σ H D I h;refine wpAny_execs_cons (thn (h1 pins s σ H {D with nx:=u D} I h) λf s1 q=>?_);cases f with
 |next=>
  obtain⟨σ',H',I',q⟩:=q;exact h2 pins s1 σ' H' D I' q
 |ret v=>exact q
 |brk=>exact q
 |cont=>exact q
noncomputable def pB:TS:=λD σ H=>D.bk σ H
noncomputable def AK:TS:=λD σ H=>D.ct σ H
theorem uB:PS X (.Pass pos) hZ:=λ_ _ σ H _ I h=>wpAny_Pass ⟨σ,H,I,h⟩
theorem xY:PS X (.Break pos) pB:=λ_ _ σ H _ I h=>wpAny_Break ⟨σ,H,I,h⟩
theorem yb:PS X (.Continue pos) AK:=λ_ _ σ H _ I h=>wpAny_Continue ⟨σ,H,I,h⟩
theorem Inv.quiet{pins:List (Addr×Obj)}{σ:St}{H:Hp}{s:af}(I:Inv X pins σ H s):interactive X.env=false:=by simp[interactive,I.ok.kind]
noncomputable def sR(te:TE):TS:=λD σ H=>te σ H λ_ H1=>D.nx σ H1
theorem oR(he:PE X e te)(hs:swapsWith e none pos.line X.env=pure false:=by rfl):PS X (.Expr e pos) (sR te):=by
 intro pins s σ H D I h;exact wpAny_Expr_any (thn (he pins s σ H _ I h) λv s1 ⟨x,H1,I1,r1,q1⟩=>⟨σ,H1,I1,q1⟩) I.quiet hs
noncomputable def rX(te:TE):TS:=λD σ H=>te σ H D.rt
theorem jf(he:PE X e te):PS X (.Return (some e) pos) (rX te):=by
 intro pins s σ H D I h;exact wpAny_Return_some (thn (he pins s σ H _ I h) λv s1 ⟨x,H1,I1,r1,q1⟩=>⟨x,σ,H1,I1,r1,q1⟩)
noncomputable def vB:TS:=λD _ H=>D.rt .non H
theorem rM:PS X (.Return none pos) vB:=λ_ _ σ H _ I h=>wpAny_Return_none ⟨.non,σ,H,I,rfl,h⟩
noncomputable def iT(c:TT)(t u:TS):TS:=λD σ H=>c σ H λb H1=>if b=true then t D σ H1 else u D σ H1
theorem BA{c:Expr}{a b:List Stmt}{tc:TT}(hc:PT X c tc)(ha:PSs X a t)(hb:PSs X b u):PS X (.If c a b pos) (iT tc t u):=by
 intro pins s σ H D I h;refine wpAny_If (thn (hc pins s σ H _ I h) λd s1 ⟨H1,I1,q1⟩=>?_);cases d with
 |true=>exact ha pins s1 σ H1 D I1 q1
 |false=>exact hb pins s1 σ H1 D I1 q1
end
abbrev TG:=V->St->Hp->(St->Hp->Prop)->Prop
abbrev TGs:=List V->St->Hp->(St->Hp->Prop)->Prop
noncomputable def PG(X:Cx)(target:Expr)(t:TG):Prop:=
 ∀(pins:List (Addr×Obj)) (s:af) (σ:St) (H:Hp) (v:V) (u:ae) (Q:St->Hp->Prop),Inv X pins σ H s->RelV v u->t v σ H Q ->
  ak (ah X.prog X.w) X.A (assign target X.env u) (λ_ s'=>∃σ' H',Inv X pins σ' H' s'/\Q σ' H') X.xe s
noncomputable def PGs(X:Cx)(ts:List Expr)(t:TGs):Prop:=
 ∀(pins:List (Addr×Obj)) (s:af) (σ:St) (H:Hp) (vs:List V) (us:List ae) (Q:St->Hp->Prop),Inv X pins σ H s->Vals vs us->t vs σ H Q ->
  ak (ah X.prog X.w) X.A (assignInOrder ((assignEach ts X.env).map (·.2)) us) (λ_ s'=>∃σ' H',Inv X pins σ' H' s'/\Q σ' H') X.xe s
abbrev jI:=V->V->V->Hp->(Hp->Prop)->Prop
noncomputable def fB(X:Cx)(t:jI):Prop:=
 ∀(pins:List (Addr×Obj)) (s:af) (σ:St) (H:Hp) (o i v:V) (ov iv u:ae) (Q:Hp->Prop),Inv X pins σ H s->RelV o ov->RelV i iv->RelV v u->t o i v H Q ->
  ak (ah X.prog X.w) X.A (setItem ov iv u) (λ_ s'=>∃H',Inv X pins σ H' s'/\Q H') X.xe s
section
variable{X:Cx}{pos:Pos}
noncomputable def eJ(i:Nat):TG:=λv σ H Q=>Q (σ.set i (some v)) H
theorem xB{i:Nat}{x:Str}(hN:X.N.Nodup)(hi:X.N[i]? = some x)(hx:Loc X.env.scope x)(hf:X.fn x=true\/X.env.scope.names.lookup x=some .local:=by first|exact .inl rfl|exact .inr rfl|assumption):PG X (.Name x pos) (eJ i):=by
 intro pins s σ H v u Q I r h;exact wpAny_assign_Name (hW I hN hi hx r (λs' I'=>⟨_,H,I',h⟩) hf)
noncomputable def lZ:TGs:=λvs σ H Q=>vs=[]/\Q σ H
noncomputable def mw(t:TG)(u:TGs):TGs:=λvs σ H Q=>∃v r,vs=v::r/\t v σ H λσ' H'=>u r σ' H' Q
theorem xG:PGs X [] lZ:=by
 intro pins s σ H vs us Q I r h;obtain⟨e,h⟩:=h;subst e;cases r;exact assignInOrder_nil ⟨σ,H,I,h⟩
theorem vW{e:Expr}{es:List Expr}{t:TG}{u:TGs}(h1:PG X e t)(h2:PGs X es u)
  (hs:(assignEach (e::es) X.env).map (·.2)=assign e X.env::(assignEach es X.env).map (·.2):=by rfl):PGs X (e::es) (mw t u):=by
 intro pins s σ H vs us Q I r h;obtain⟨v,vr,e1,h⟩:=h;subst e1;cases r with
 |cons r rr=>
  rw[hs];refine assignInOrder_cons (thn (h1 pins s σ H _ _ _ I r h) λ_ s1 ⟨σ1,H1,I1,q1⟩=>?_);exact h2 pins s1 σ1 H1 _ _ Q I1 rr q1
noncomputable def kY(K:ar)(n:Nat)(t:TGs):TG:=λv σ H Q=>∃a xs,v=.ref a/\SqT K H a xs/\xs.length=n/\t xs σ H Q
theorem vj{es:List Expr}{k:Nat}{t:TGs}{n:Nat}(hc:X.calm=true)(h:PGs X es t)
  (hn:(assignEach es X.env).length=n:=by rfl) (hst:(assignEach es X.env).findIdx? (·.1)=none:=by rfl):PG X (.Tuple es k pos) (kY X.K n t):=by
 intro pins s σ H v u Q I r hw;obtain⟨a,xs,e1,hq,hl,hw⟩:=hw;subst e1;cases r;obtain⟨its,rv,ht,hz⟩:=I.tuple hq;refine assign_Tuple_tuple (I.ok.hd hc) ht (by simp[hn,<-hl,rv.length]) hst λh' hx=>?_
 have I1:Inv X pins σ H {s with heap:=h'}:=I.kept (t':=s.toks) λb o e=>hx b o (aX (aJ e)) e
 exact h pins _ σ H xs _ Q I1 (by simpa using rv) hw
noncomputable def k_(to ti:TE)(t:jI):TG:=λv σ H Q=>to σ H λo H1=>ti σ H1 λi H2=>t o i v H2 λH3=>Q σ H3
theorem tf{o i:Expr}{to ti:TE}{t:jI}(ho:PE X o to)(hi:PE X i ti)(hs:fB X t)
  (ha:∀v,assign (.Subscript o i pos) X.env v=(do
   let ov <-holding [v] (eval o X.env)
   let iv <-holding [v,ov] (eval i X.env)
   standAt pos
   holding [v,ov,iv] (setItem ov iv v)
   release [v,ov,iv] []):=by intro _;rfl):PG X (.Subscript o i pos) (k_ to ti t):=by
 intro pins s σ H v u Q I r h;rw[ha];refine ao (cq (thn (ho pins s σ H _ I h) λov s1 ⟨x,H1,I1,r1,q1⟩=>?_));refine ao (cq (thn (hi pins s1 σ H1 _ I1 q1) λiv s2 ⟨y,H2,I2,r2,q2⟩=>?_));refine ao (wpAny_standAt (ao (cq (thn (hs pins s2 σ H2 x y v ov iv u _ I2 r1 r2 r q2) λ_ s3 ⟨H3,I3,q3⟩=>?_))));exact wpAny_release ⟨σ,H3,I3,q3⟩
noncomputable def i5(te:TE)(g:TG):TS:=λD σ H=>te σ H λx H1=>g x σ H1 D.nx
theorem md{tg e:Expr}{te:TE}{g:TG}(he:PE X e te)(hg:PG X tg g)(hs:swapsWithSole [tg] e pos.line X.env=pure false:=by rfl)(hw:b6 [tg] e X.env=pure none:=by rfl)
  (h1:(assignEach [tg] X.env).map (·.2)=[assign tg X.env]:=by rfl):PS X (.Assign [tg] e pos) (i5 te g):=by
 intro pins s σ H D I h;refine wpAny_Assign_stores (thn (he pins s σ H _ I h) λv s1 ⟨x,H1,I1,r1,q1⟩=>?_) hs hw;rw[h1];exact thn (hg pins s1 σ H1 x v _ I1 r1 q1) λ_ s2 q=>q
theorem n6{i:Nat}{x:Str}{e:Expr}{te:TE}{pos':Pos}(hN:X.N.Nodup)(hi:X.N[i]? = some x)(hx:Loc X.env.scope x)(he:PE X e te)(hs:swapsWith e (some (.Name x pos')) pos.line X.env=pure false:=by rfl)(hf:X.fn x=true\/X.env.scope.names.lookup x=some .local:=by first|exact .inl rfl|exact .inr rfl|assumption) :
  PS X (.Assign [.Name x pos'] e pos) (i5 te (eJ i)):=by
 intro pins s σ H D I h;refine wpAny_Assign_Name (thn (he pins s σ H _ I h) λv s1 ⟨y,H1,I1,r1,q1⟩=>?_) hs;exact hW I1 hN hi hx r1 (λs2 I2=>⟨_,H1,I2,q1⟩) hf
noncomputable def pv(i j:Nat)(ta:TA):TS:=λD σ H=>ta σ H λvs H1=>∃v w,vs=[v,w]/\D.nx ((σ.set i (some v)).set j (some w)) H1
theorem sy{i j:Nat}{x y:Str}{a b:Expr}{ta:TA}{px py pt:Pos}{kt k2 pt2}(hc:X.calm=true)(hN:X.N.Nodup)(hi:X.N[i]? = some x)(hj:X.N[j]? = some y)(hij:i≠j)
  (hx:X.env.scope.names.lookup x=some .local) (hy:X.env.scope.names.lookup y=some .local) (ha:PA X [a,b] ta)
  (hw:b6 [.Tuple [.Name x px,.Name y py] kt pt] (.Tuple [a,b] k2 pt2) X.env=pure (some [x,y]))
  (hs:swapsWithSole [.Tuple [.Name x px,.Name y py] kt pt] (.Tuple [a,b] k2 pt2) pos.line X.env=pure false:=by rfl) :
  PS X (.Assign [.Tuple [.Name x px,.Name y py] kt pt] (.Tuple [a,b] k2 pt2) pos) (pv i j ta):=by
 intro pins s σ H D I h;rw[exec_Assign_arm];refine ao (wpAny_standAt ?_);rw[hs];refine ao (aC ?_);rw[if_neg (by decide)];refine ao (Tuple_ (thn (ha _ pins s σ H _ I h) λus s1 ⟨vs,H1,I1,r1,q1⟩=>?_));obtain⟨v,w,e1,q1⟩:=q1;subst e1;obtain⟨u1,u2,rfl,rv,rw'⟩:∃u1 u2,us=[u1,u2]/\RelV v u1/\RelV w u2:=by
  cases r1 with
  |cons p q=>
   cases q with
   |cons p' q'=>
    cases q';exact⟨_,_,rfl,p,p'⟩
 refine wpAny_newObj_type ?_ (by show 2<=aH;decide);have I2:Inv X pins σ H1 {s1 with heap:=s1.heap.push {cls:=.type "tuple",data:=.seq [u1,u2].toArray}}:=I1.kept (t':=s1.toks) λb o e=>Heap.get?_push_of_some _ e
 rw[hw];refine ao (aC ?_);show ak (ah X.prog X.w) X.A (do rule "assign.swapped-stores";let items <-unpackItems (.ref s1.heap.objs.size) 2 none;assignInOrder [λv=>bindName X.env y v,λv=>bindName X.env x v] items.reverse;pure Flow.next) _ _ _;refine ao (wpAny_rule (ao (unpackItems_tuple (items:=#[u1,u2]) (I.ok.hd hc) (IsTup.new s1.heap _) λh' hx'=>?_)));have I3:=I2.kept (h':=h') (t':=s1.toks) λb o e=>hx' b o (aX (aJ e)) e
 show ak _ _ (assignInOrder [λv=>bindName X.env y v,λv=>bindName X.env x v] [u2,u1]>>=λ_=>pure Flow.next) _ _ _;refine ao (assignInOrder_cons (wpAny_bindName (hW I3 hN hj (.inl hy) rw' (λs2 I4=>?_) (.inr hy))));refine assignInOrder_cons (wpAny_bindName (hW I4 hN hi (.inl hx) rv (λs3 I5=>assignInOrder_nil (aC ?_)) (.inr hx)));rw[List.set_comm _ _ (Ne.symm hij)]at I5;exact⟨_,H1,I5,q1⟩
end
section
variable{X:Cx}{pos:Pos}
end
structure It where
 go:Nat->Hp->Prop
 yld:Nat->Hp->V->Hp->Prop
 stop:Nat->Hp->Prop
noncomputable def cR(X:Cx)(pins:List (Addr×Obj))(H:Hp)(b:Addr):Prop:=
 H b=none/\b≠X.env.locals/\b∉X.fs/\(b∈X.ex\/X.s₀.heap.objs.size<=b)/\(∀x c,X.env.cells.lookup x=some c->c≠b)/\∀p∈X.pn++pins,p.1≠b
theorem Inv.fpOk{X:Cx}{pins:List (Addr×Obj)}{σ:St}{H H':Hp}{s:af}{b:Addr}(I:Inv X pins σ H s)(hb:s.heap.objs.size<=b)(hn:H' b=none):cR X pins H' b:=by
 refine⟨hn,Nat.ne_of_gt (bw I.lt hb),I.nofs hb,.inr (bp I.sz hb),λx c e z=>?_,λp hp z=>?_⟩
 ·obtain⟨v,q⟩:=I.cell x c e;exact absurd (bw q.lt (by rw[z];exact hb)) (bL _)
 ·exact absurd (bw (aJ (I.pin p hp).1) (by rw[z];exact hb)) (bL _)
structure Turn(P:aw)(w:av)(K:ar)(tg:Expr)(J:It)(fp:List Addr)(it:Addr)(tn:Nat->Heap->Prop):Prop where
 mem:it∈fp
 obj:∀i h,tn i h->∀b∈fp,∃o,h.get? b=some o/\∀v,o.data≠.cell v
 keep:∀i h h',tn i h->(∀b∈fp,∀o,h.get? b=some o->h'.get? b=some o)->tn i h'
 item:∀(X:Cx),X.prog=P->X.w=w->X.K=K->X.calm=true->∀(i:Nat) (pins:List (Addr×Obj)) (s:af) (σ:St) (H:Hp) (E:ae->af->Prop),Inv X pins σ H s->(∀b∈fp,cR X pins H b)->tn i s.heap->J.go i H ->
  ak (ah P w) X.A (pyNext (.ref it)) (λr s1=>∃u,r=some u /\
   ak (ah P w) X.A (letOwnedTupleGo tg (.ref it) u) (λ_ s2=>∃x H',Inv X pins σ H' s2/\RelV x u/\J.yld i H x H'/\tn (i+1) s2.heap/\∀b∈fp,H' b=none) E s1) E s
 done:∀(X:Cx),X.prog=P->X.w=w->X.K=K->X.calm=true->∀(i:Nat) (pins:List (Addr×Obj)) (s:af) (σ:St) (H:Hp) (E:ae->af->Prop),Inv X pins σ H s->(∀b∈fp,cR X pins H b)->tn i s.heap->J.stop i H ->
  ak (ah P w) X.A (pyNext (.ref it)) (λr s1=>r=none/\Inv X pins σ H s1) E s
 self:∀(A:ay) (i:Nat) (s:af) (Q:ae->af->Prop) (E:ae->af->Prop),tn i s.heap->Q (.ref it) s->ak (ah P w) A (pyIter (.ref it)) Q E s
abbrev TI:=St->Hp->(It->Hp->Prop)->Prop
noncomputable def PIE(X:Cx)(pins:List (Addr×Obj))(σ:St)(tg:Expr)(R:It->Hp->Prop)(itv:ae)(s2:af):Prop:=
 ∃(it:Addr) (fp:List Addr) (tn:Nat->Heap->Prop) (J:It) (H':Hp),itv=.ref it/\Inv X pins σ H' s2/\Turn X.prog X.w X.K tg J fp it tn/\tn 0 s2.heap/\(∀b∈fp,cR X pins H' b)/\R J H'
noncomputable def PI(X:Cx)(tg iter:Expr)(wi:TI):Prop:=
 ∀(pins:List (Addr×Obj)) (s:af) (σ:St) (H:Hp) (R:It->Hp->Prop),Inv X pins σ H s->wi σ H R ->
  ak (ah X.prog X.w) X.A (eval iter X.env) (λv s1=>ak (ah X.prog X.w) X.A (pyIter v) (PIE X pins σ tg R) X.xe s1) X.xe s
theorem jo{M:Model}{A:ay}{E:ae->af->Prop}{s:af}{tg:Expr}{it:Addr}{u:ae}{o:Obj}{n:String}{vs:Array ae}{Q:Unit->af->Prop}(ho:s.heap.get? it=some o)(hc:o.cls=.type n)(hd:o.data=.fields vs)
  (hn:["enumerate","zip","dict_itemiterator","dict_reverseitemiterator","odict_iterator","itertools.zip_longest","itertools.pairwise"].contains n=false) (hQ:Q () s):ak M A (letOwnedTupleGo tg (.ref it) u) Q E s:=by
 unfold letOwnedTupleGo;cases tg<;>first
  |exact aC hQ
  | (cases u<;>first
    |exact aC hQ
    | (refine ao (wpAny_load ho ?_)
       rw[hc,hd];show ak M A (if (["enumerate","zip","dict_itemiterator","dict_reverseitemiterator","odict_iterator","itertools.zip_longest","itertools.pairwise"].contains n&&vs[0]? == some (rawInt _))=true then _ else _) Q E s;rw[if_neg (by intro h;rw[hn,Bool.false_and]at h;cases h)];exact aC hQ))
noncomputable def Itl(K:ar)(a:Addr):It:=
 ⟨λi H=>∃xs x,SqL K H a xs/\xs[i]? = some x,λi H x H'=>H'=H/\∀xs,SqL K H a xs->xs[i]? = some x,λi H=>∃xs,SqL K H a xs/\xs.length<=i⟩
noncomputable def Itt(K:ar)(a:Addr):It:=
 ⟨λi H=>∃xs x,SqT K H a xs/\xs[i]? = some x,λi H x H'=>H'=H/\∀xs,SqT K H a xs->xs[i]? = some x,λi H=>∃xs,SqT K H a xs/\xs.length<=i⟩
noncomputable def Itr(lo:Int)(n:Nat):It:=⟨λi _=>i<n,λi H x H'=>H'=H/\x=.int (lo+i),λi _=>n<=i⟩
theorem sx{P:aw}{w:av}{K:ar}{tg:Expr}(a it:Addr):Turn P w K tg (Itl K a) [it] it (λi h=>h.IsListIter it a i) where
 mem:=by simp
 obj:=λi h st b hb=>by
  have e:b=it:=by simpa using hb
  subst e;obtain⟨o,e,c,d⟩:=st;exact⟨o,e,λv z=>by rw[d]at z;cases z⟩
 keep:=λi h h' st k=>st.at λo e=>k it (by simp) o e
 item:=by
  intro X hP hw hK hc i pins s σ H E I hf st hg;subst hP hw hK;obtain⟨xs,x,hq,hx⟩:=hg;obtain⟨its,rv,p,hz⟩:=I.list hq;obtain⟨u,hu,ru⟩:=rv.get hx;obtain⟨f0,f1,f2,f3,f4,f5⟩:=hf it (by simp);refine wpAny_pyNext_list_item st p.isList (x:=u) (by simpa using hu) λh' st' sb=>?_
  have I1:Inv X pins σ H {s with heap:=h'}:=I.turned (t':=s.toks) (λb o hb e=>(sb.2 b hb).trans e) f0 f1 f3 f4 f5;obtain⟨o,e,c,d⟩:=id st';exact⟨u,rfl,jo (s:={s with heap:=h'}) e c d (by decide) ⟨x,H,I1,ru,⟨rfl,λys hy=>by rw[I.list_inj hy hq];exact hx⟩,st',λb hb=>(hf b hb).1⟩⟩
 done:=by
  intro X hP hw hK hc i pins s σ H E I hf st hg;subst hP hw hK;obtain⟨xs,hq,hx⟩:=hg;obtain⟨its,rv,p,hz⟩:=I.list hq;obtain⟨f0,f1,f2,f3,f4,f5⟩:=hf it (by simp);have hl:=rv.length;exact wpAny_pyNext_list_end (I.ok.hd hc) st p.isList (by simp;lia) λh' eb=>⟨rfl,I.turned (t':=s.toks) (λb o hb e=>eb b o hb e) f0 f1 f3 f4 f5⟩
 self:=λ_ _ _ _ _ st h=>wpAny_pyIter_listiter st h
theorem xl{P:aw}{w:av}{K:ar}{tg:Expr}(a it:Addr):Turn P w K tg (Itt K a) [it] it (λi h=>h.IsTupleIter it a i) where
 mem:=by simp
 obj:=λi h st b hb=>by
  have e:b=it:=by simpa using hb
  subst e;obtain⟨o,e,c,d⟩:=st;exact⟨o,e,λv z=>by rw[d]at z;cases z⟩
 keep:=λi h h' st k=>st.at λo e=>k it (by simp) o e
 item:=by
  intro X hP hw hK hc i pins s σ H E I hf st hg;subst hP hw hK;obtain⟨xs,x,hq,hx⟩:=hg;obtain⟨its,rv,p,hz⟩:=I.tuple hq;obtain⟨u,hu,ru⟩:=rv.get hx;obtain⟨f0,f1,f2,f3,f4,f5⟩:=hf it (by simp);refine wpAny_pyNext_tuple_item st (show s.heap.IsTuple a its.toArray from p) (x:=u) (by simpa using hu) λh' st' sb=>?_
  have I1:Inv X pins σ H {s with heap:=h'}:=I.turned (t':=s.toks) (λb o hb e=>(sb.2 b hb).trans e) f0 f1 f3 f4 f5;obtain⟨o,e,c,d⟩:=id st';exact⟨u,rfl,jo (s:={s with heap:=h'}) e c d (by decide) ⟨x,H,I1,ru,⟨rfl,λys hy=>by rw[I.tuple_inj hy hq];exact hx⟩,st',λb hb=>(hf b hb).1⟩⟩
 done:=by
  intro X hP hw hK hc i pins s σ H E I hf st hg;subst hP hw hK;obtain⟨xs,hq,hx⟩:=hg;obtain⟨its,rv,p,hz⟩:=I.tuple hq;obtain⟨f0,f1,f2,f3,f4,f5⟩:=hf it (by simp);have hl:=rv.length;exact wpAny_pyNext_tuple_end (I.ok.hd hc) st (show s.heap.IsTuple a its.toArray from p) (by simp;lia) λh' eb=>⟨rfl,I.turned (t':=s.toks) (λb o hb e=>eb b o hb e) f0 f1 f3 f4 f5⟩
 self:=λ_ _ _ _ _ st h=>wpAny_pyIter_tupleiter st h
theorem yX{P:aw}{w:av}{K:ar}{tg:Expr}(it:Addr)(lo:Int)(n:Nat):Turn P w K tg (Itr lo n) [it] it (λi h=>IsRangeIter h it (lo+(i:Nat) * 1) ((n:Int)-(i:Nat)) 1) where
 mem:=by simp
 obj:=λi h st b hb=>by
  have e:b=it:=by simpa using hb
  subst e;exact⟨_,st,λv z=>by
   have z':Data.fields _=Data.cell v:=z;cases z'⟩
 keep:=λi h h' st k=>k it (by simp) _ st
 item:=by
  intro X hP hw hK hc i pins s σ H E I hf st hg;subst hP hw hK;obtain⟨f0,f1,f2,f3,f4,f5⟩:=hf it (by simp);have W:=Walks.range (prog:=X.prog) (w:=X.w) (I.ok.hd hc) it lo 1 n;refine W.item i s _ _ hg st λv h' tk hv st' kk=>?_
  obtain⟨t,rfl⟩:=hv;have I1:Inv X pins σ H {s with heap:=h',toks:=tk}:=I.turned (λb o hb e=>kk b o (by simpa using hb) e) f0 f1 f3 f4 f5;refine⟨_,rfl,jo (s:={s with heap:=h',toks:=tk}) (n:="range_iterator") st' rfl rfl (by decide) ⟨.int (lo+i),H,I1,⟨t,?_⟩,⟨rfl,rfl⟩,st',λb hb=>(hf b hb).1⟩⟩;rw[Int.mul_one]
 done:=by
  intro X hP hw hK hc i pins s σ H E I hf st hg;subst hP hw hK;obtain⟨f0,f1,f2,f3,f4,f5⟩:=hf it (by simp);exact wpAny_pyNext_range_end (I.ok.hd hc) st (by have:n<=i:=hg;lia) λh' eb=>⟨rfl,I.turned (t':=s.toks) (λb o hb e=>eb b o hb e) f0 f1 f3 f4 f5⟩
 self:=λ_ _ _ _ _ st h=>wpAny_pyIter_rangeiter st h
section
variable{X:Cx}{tg:Expr}
noncomputable def tw(K:ar)(tl:TE):TI:=λσ H R=>tl σ H λx H1=>∃a,x=.ref a/\(∃xs,SqL K H1 a xs)/\R (Itl K a) H1
noncomputable def xv(K:ar)(tl:TE):TI:=λσ H R=>tl σ H λx H1=>∃a,x=.ref a/\(∃xs,SqT K H1 a xs)/\R (Itt K a) H1
theorem xu{l:Expr}{tl:TE}(hl:PE X l tl):PI X tg l (tw X.K tl):=by
 intro pins s σ H R I h;refine thn (hl pins s σ H _ I h) λv s1 ⟨x,H1,I1,r1,q1⟩=>?_
 obtain⟨a,e,⟨xs,hq⟩,q⟩:=q1;subst e;cases r1;obtain⟨its,rv,p,hz⟩:=I1.list hq;refine wpAny_pyIter_list p.isList ?_;refine⟨s1.heap.objs.size,[s1.heap.objs.size],_,_,H1,rfl,I1.kept (t':=s1.toks) λb o e=>Heap.get?_push_of_some _ e,sx a _,⟨_,Heap.get?_push_size _ rfl,rfl,rfl⟩,λb hb=>?_,q⟩;have e:b=s1.heap.objs.size:=by simpa using hb
 subst e;exact I1.fpOk (aI _) (I1.hok.fresh (aI _))
theorem Cb{l:Expr}{tl:TE}(hl:PE X l tl):PI X tg l (xv X.K tl):=by
 intro pins s σ H R I h;refine thn (hl pins s σ H _ I h) λv s1 ⟨x,H1,I1,r1,q1⟩=>?_
 obtain⟨a,e,⟨xs,hq⟩,q⟩:=q1;subst e;cases r1;obtain⟨its,rv,p,hz⟩:=I1.tuple hq;refine wpAny_pyIter_tuple (show s1.heap.IsTuple a its.toArray from p) ?_;refine⟨s1.heap.objs.size,[s1.heap.objs.size],_,_,H1,rfl,I1.kept (t':=s1.toks) λb o e=>Heap.get?_push_of_some _ e,xl a _,⟨_,Heap.get?_push_size _ rfl,rfl,rfl⟩,λb hb=>?_,q⟩;have e:b=s1.heap.objs.size:=by simpa using hb
 subst e;exact I1.fpOk (aI _) (I1.hok.fresh (aI _))
theorem m8{pins:List (Addr×Obj)}{σ:St}{H:Hp}{s:af}{R:It->Hp->Prop}{E:ae->af->Prop}{lo hi:Int}{t u v:Tok}{tk:Nat}(I:Inv X pins σ H s)(h1:-(2^62)<=lo)(h2:lo<2^62)(h3:-(2^62)<=hi)(h4:hi<2^62)
  (q:R (Itr lo (hi-lo).toNat) H):ak (ah X.prog X.w) X.A (pyIter (.ref s.heap.objs.size)) (PIE X pins σ tg R) E {s with heap:=s.heap.push {cls:=.type "range",data:=.fields #[.int lo t,.int hi u,.int 1 v]},toks:=tk}:=by
 refine wpAny_pyIter_range (IsRange.new ..) (small_one h1 h2 h3 h4) ?_;have I1:Inv X pins σ H {s with heap:=s.heap.push {cls:=.type "range",data:=.fields #[.int lo t,.int hi u,.int 1 v]},toks:=tk}:=I.kept λb o e=>Heap.get?_push_of_some _ e
 refine⟨(s.heap.push {cls:=.type "range",data:=.fields #[.int lo t,.int hi u,.int 1 v]}).objs.size,[(s.heap.push {cls:=.type "range",data:=.fields #[.int lo t,.int hi u,.int 1 v]}).objs.size],_,_,H,rfl,
  I1.kept (t':=tk) λb o e=>Heap.get?_push_of_some _ e,yX _ lo (hi-lo).toNat,?_,λb hb=>?_,q⟩
 ·have e1:lo+((0:Nat):Int) * 1=lo:=by simp
  have e2:(((hi-lo).toNat:Nat):Int)-((0:Nat):Int)=Builtin.Range.rangeSize lo hi 1:=by rw[rangeSize_one];split<;>lia
  show IsRangeIter _ _ (lo+((0:Nat):Int) * 1) ((((hi-lo).toNat:Nat):Int)-((0:Nat):Int)) 1;rw[e1,e2];exact Heap.get?_push_size _ rfl
 ·have e:b=(s.heap.push {cls:=.type "range",data:=.fields #[.int lo t,.int hi u,.int 1 v]}).objs.size:=by simpa using hb
  subst e;exact I1.fpOk (aI _) (I1.hok.fresh (aI _))
noncomputable def Bb(ta:TA):TI:=λσ H R=>ta σ H λvs H1=>∃j:Int,vs=[.int j]/\-(2^62)<=j/\j<2^62/\R (Itr 0 j.toNat) H1
noncomputable def tU(ta:TA):TI:=λσ H R=>ta σ H λvs H1=>∃i j:Int,vs=[.int i,.int j]/\(-(2^62)<=i/\i<2^62/\-(2^62)<=j/\j<2^62)/\R (Itr i (j-i).toNat) H1
theorem ux{a:Expr}{ta:TA}{p pos:Pos}(hg:Gl X "range")(hm:X.mg "range" = none)(ha:PA X [a] ta)(hs:aO [a] X.env=[(false,eval a X.env)]:=by rfl):PI X tg (.Call (.Name "range" p) [a] [] pos) (Bb ta):=by
 intro pins s σ H R I h;refine Call_ (fR I hg hm boot_range (PyProof.Rows.callWith_type1 (thn (ha pos pins s σ H _ I h) λus s1 ⟨vs,H1,I1,r1,q1⟩=>?_) hs rfl));obtain⟨j,e,q1,q2,q⟩:=q1;subst e;cases r1 with
 |cons r rr=>
  cases rr;obtain⟨t,rfl⟩:=r;exact call_range_1 (m8 I1 (by lia) (by lia) q1 q2 (by simpa using q))
theorem sT{a b:Expr}{ta:TA}{p pos:Pos}(hg:Gl X "range")(hm:X.mg "range" = none)(ha:PA X [a,b] ta)(hs:aO [a,b] X.env=[(false,eval a X.env),(false,eval b X.env)]:=by rfl)(hs2:aO [b] X.env=[(false,eval b X.env)]:=by rfl) :
  PI X tg (.Call (.Name "range" p) [a,b] [] pos) (tU ta):=by
 intro pins s σ H R I h;refine Call_ (fR I hg hm boot_range (PyProof.Rows.callWith_type1 (thn (ha pos pins s σ H _ I h) λus s1 ⟨vs,H1,I1,r1,q1⟩=>?_) (by rw[hs,hs2]) (by rw[hs2];rfl)));obtain⟨i,j,e,⟨q1,q2,q3,q4⟩,q⟩:=q1;subst e;cases r1 with
 |cons r rr=>
  cases rr with
  |cons r' rr=>
   cases rr;obtain⟨t,rfl⟩:=r;obtain⟨t',rfl⟩:=r';exact call_range_2 (m8 I1 q1 q2 q3 q4 q)
noncomputable def sE(wi:TI)(g:TG)(tb:TS):TS:=λD σ H=>wi σ H λJ H1=>∃W:Nat->Nat->St->Hp->Prop,(∃m,W 0 m σ H1)/\∀i m σ H,W i m σ H ->
 (J.stop i H/\D.nx σ H)\/(J.go i H/\∃N:St->Hp->Prop,(∀σ' H',N σ' H'->∃m',m'<m/\W (i+1) m' σ' H')/\∀x H',J.yld i H x H'->g x σ H' λσ2 H2=>tb {D with nx:=N,ct:=N,bk:=D.nx} σ2 H2)
noncomputable def gj(fp:List Addr)(h:Heap):List (Addr×Obj):=fp.filterMap λb=>(h.get? b).map λo=>(b,o)
theorem iF{fp:List Addr}{h:Heap}{b:Addr}{o:Obj}(hb:b∈fp)(e:h.get? b=some o):(b,o)∈gj fp h:=List.mem_filterMap.mpr ⟨b,hb,by rw[e];rfl⟩
theorem wG{fp:List Addr}{h:Heap}{p:Addr×Obj}(hp:p∈gj fp h):p.1∈fp/\h.get? p.1=some p.2:=by
 obtain⟨b,hb,e⟩:=List.mem_filterMap.mp hp;cases q:h.get? b with
 |none=>rw[q]at e;cases e
 |some o=>
  rw[q]at e;have e':(b,o)=p:=bJ e;subst e';exact⟨hb,q⟩
theorem Inv.pinned{pins:List (Addr×Obj)}{σ:St}{H:Hp}{s:af}{fp:List Addr}(I:Inv X pins σ H s)(hf:∀b∈fp,cR X pins H b)(ho:∀b∈fp,∃o,s.heap.get? b=some o/\∀v,o.data≠.cell v):Inv X (pins++gj fp s.heap) σ H s:=
 I.pins_of λp hp=>(List.mem_append.mp hp).elim (λz=>I.pin p (bW _ z)) λz=>by
  obtain⟨hb,e⟩:=wG z;obtain⟨f0,f1,f2,_⟩:=hf p.1 hb;obtain⟨o,e',d⟩:=ho p.1 hb;rw[e]at e';cases e';exact⟨e,f0,f1,f2,d⟩
theorem Inv.unpinned{pins pl:List (Addr×Obj)}{σ:St}{H:Hp}{s:af}(I:Inv X (pins++pl) σ H s):Inv X pins σ H s:=I.pins_of λp hp=>I.pin p (bW _ (List.mem_append_left _ hp))
theorem BO{iter:Expr}{body:List Stmt}{wi:TI}{g:TG}{tb:TS}{pos:Pos}(hp:PassesOwn (ah X.prog X.w) X.A X.env X.xe)(hc:X.calm=true)(hi:PI X tg iter wi)(hg:PG X tg g)(hb:PSs X body tb)
  (hs:∀x,foldedSetIterable iter X.env x=pure x:=by intro _;rfl):PS X (.For tg iter body [] pos) (sE wi g tb):=by
 intro pins s σ H D I h;refine wpAny_For (thn (hi pins s σ H _ I h) λv s1 h1=>thn h1 λitv s2 h2=>?_) hs;obtain⟨it,fp,tn,J,H2,e,I2,T,st2,f2,W,⟨m0,w0⟩,turn⟩:=h2;subst e
 -- what stays true of the iterator's objects through the loop
 have stat:∀{H':Hp},(∀b∈fp,H' b=none)->∀b∈fp,cR X pins H' b:=λhn b hb=>⟨hn b hb,(f2 b hb).2⟩
 refine codeAny_forLoop_any (λn s'=>∃i σ' H',Inv X pins σ' H' s'/\tn i s'.heap/\(∀b∈fp,H' b=none)/\W i n σ' H') ?_ m0 ⟨0,σ,H2,I2,st2,λb hb=>(f2 b hb).1,w0⟩;rintro n s3 ⟨i,σ3,H3,I3,st3,fr3,w3⟩;rcases turn i n σ3 H3 w3 with ⟨stop,qn⟩|⟨go,N,hN,step⟩
 ·refine wpAny_passesOwn hp (thn (T.done X rfl rfl rfl hc i pins s3 σ3 H3 X.xe I3 (stat fr3) st3 stop) λr s4 ⟨hr,I4⟩=>?_);subst hr;exact wpAny_execs_nil ⟨σ3,H3,I4,qn⟩
 ·refine wpAny_passesOwn hp (thn (T.item X rfl rfl rfl hc i pins s3 σ3 H3 X.xe I3 (stat fr3) st3 go) λr s4 ⟨u,hr,h4⟩=>?_);subst hr;refine wpAny_passesOwn hp (thn h4 λ_ s5 ⟨x,H5,I5,r5,y5,st5,fr5⟩=>?_);have I5':=I5.pinned (stat fr5) (T.obj _ _ st5);refine wpAny_passesOwn hp (thn (hg _ s5 σ3 H5 x u _ I5' r5 (step x H5 y5)) λ_ s6 ⟨σ6,H6,I6,q6⟩=>?_);refine wpAny_passesOwn hp (thn (hb _ s6 σ6 H6 _ I6 q6) λf s7 q7=>?_);have again:∀{σ7:St}{H7:Hp},Inv X (pins++gj fp s5.heap) σ7 H7 s7->N σ7 H7->∃m,m<n/\∃i σ' H',Inv X pins σ' H' s7/\tn i s7.heap/\(∀b∈fp,H' b=none)/\W i m σ' H':=λ{σ7 H7} I7 n7=>by
   obtain⟨m',hm,w7⟩:=hN σ7 H7 n7;refine⟨m',hm,i+1,σ7,H7,I7.unpinned,T.keep _ _ _ st5 λb hb o e=>(I7.pin (b,o) (bW _ (bW _ (iF hb e)))).1,λb hb=>?_,w7⟩;obtain⟨o,e,d⟩:=T.obj _ _ st5 b hb;exact(I7.pin (b,o) (bW _ (bW _ (iF hb e)))).2.1
  cases f with
  |next=>obtain⟨σ7,H7,I7,n7⟩:=q7;exact again I7 n7
  |cont=>obtain⟨σ7,H7,I7,n7⟩:=q7;exact again I7 n7
  |brk=>obtain⟨σ7,H7,I7,q7⟩:=q7;exact⟨σ7,H7,I7.unpinned,q7⟩
  |ret v=>obtain⟨x7,σ7,H7,I7,r7,q7⟩:=q7;exact⟨x7,σ7,H7,I7.unpinned,r7,q7⟩
end
abbrev R2:=V->V->Hp->VK->Prop
noncomputable def OpR(X:Cx)(f:ae->ae->Sem ae)(r:R2):Prop:=
 ∀(pins:List (Addr×Obj)) (s:af) (σ:St) (H:Hp) (x y:V) (v u:ae) (Q:VK),Inv X pins σ H s->RelV x v->RelV y u->r x y H Q ->
  ak (ah X.prog X.w) X.A (f v u) (EP X pins σ Q) X.xe s
noncomputable def UnR(X:Cx)(f:ae->Sem ae)(r:V->Hp->VK->Prop):Prop:=
 ∀(pins:List (Addr×Obj)) (s:af) (σ:St) (H:Hp) (x:V) (v:ae) (Q:VK),Inv X pins σ H s->RelV x v->r x H Q ->
  ak (ah X.prog X.w) X.A (f v) (EP X pins σ Q) X.xe s
noncomputable def zh(X:Cx)(f:ae)(r:List V->Hp->VK->Prop):Prop:=
 ∀(pins:List (Addr×Obj)) (s:af) (σ:St) (H:Hp) (xs:List V) (us:List ae) (Q:VK),Inv X pins σ H s->Vals xs us->r xs H Q ->
  ak (ah X.prog X.w) X.A (call f us) (EP X pins σ Q) X.xe s
noncomputable def yP(X:Cx)(r:V->Hp->(Bool->Hp->Prop)->Prop):Prop:=
 ∀(pins:List (Addr×Obj)) (s:af) (σ:St) (H:Hp) (x:V) (v:ae) (Q:Bool->Hp->Prop),Inv X pins σ H s->RelV x v->r x H Q ->
  ak (ah X.prog X.w) X.A (truthy v) (TP X pins σ Q) X.xe s
noncomputable def tOp(r:R2)(ta tb:TE):TE:=λσ H Q=>ta σ H λx H1=>tb σ H1 λy H2=>r x y H2 Q
noncomputable def tUn(r:V->Hp->VK->Prop)(ta:TE):TE:=λσ H Q=>ta σ H λx H1=>r x H1 Q
noncomputable def rI(C:Int->Int->Prop)(g:Int->Int->V):R2:=λx y H Q=>∃i j,x=.int i/\y=.int j/\C i j/\Q (g i j) H
noncomputable def rI0(g:Int->Int->V):R2:=λx y H Q=>∃i j,x=.int i/\y=.int j/\Q (g i j) H
noncomputable def rU(g:Int->V):V->Hp->VK->Prop:=λx H Q=>∃i,x=.int i/\Q (g i) H
section
variable{X:Cx}{a b c:Expr}{ta tb tc:TE}{pos:Pos}
theorem jr(ha:PE X a ta)(hb:PE X b tb){pins:List (Addr×Obj)}{s:af}{σ:St}{H:Hp}{R:V->V->Hp->Prop}(I:Inv X pins σ H s)
  (h:ta σ H λx H1=>tb σ H1 λy H2=>R x y H2) {Q:ae->af->Prop}{f:ae->ae->Sem ae}
  (hf:∀v u s2 x y H2,Inv X pins σ H2 s2->RelV x v->RelV y u->R x y H2->ak (ah X.prog X.w) X.A (f v u) Q X.xe s2) :
  ak (ah X.prog X.w) X.A (eval a X.env) (λv s₁=>ak (ah X.prog X.w) X.A (eval b X.env) (λu s₂=>ak (ah X.prog X.w) X.A (f v u) Q X.xe s₂) X.xe s₁) X.xe s:=by
 refine thn (ha pins s σ H _ I h) λv s1 ⟨x,H1,I1,r1,q1⟩=>?_
 refine thn (hb pins s1 σ H1 _ I1 q1) λu s2 ⟨y,H2,I2,r2,q2⟩=>?_
 exact hf v u s2 x y H2 I2 r1 r2 q2
theorem pM{op:Operator}{r:R2}(ho:OpR X (bz op) r)(ha:PE X a ta)(hb:PE X b tb):PE X (.BinOp a op b pos) (tOp r ta tb):=by
 intro pins s σ H Q I h;exact wpAny_BinOp (jr ha hb I h λv u s2 x y H2 I2 rx ry q=>ho pins s2 σ H2 x y v u Q I2 rx ry q)
theorem rq{op:UnaryOp}{r:V->Hp->VK->Prop}(ho:UnR X (unaryOp op) r)(ha:PE X a ta):PE X (.UnaryOp op a pos) (tUn r ta):=by
 intro pins s σ H Q I h;exact UnaryOp_ (thn (ha pins s σ H _ I h) λv s1 ⟨x,H1,I1,r1,q1⟩=>ho pins s1 σ H1 x v Q I1 r1 q1)
theorem opI{f:ae->ae->Sem ae}{C:Int->Int->Prop}{g:Int->Int->Int}
  (rule:∀(i j:Int) (t u:Tok) (s:af) (Q:ae->af->Prop) (E:ae->af->Prop),C i j->Q (.int (g i j) s.toks) {s with toks:=s.toks+1}->ak (ah X.prog X.w) X.A (f (.int i t) (.int j u)) Q E s) :
  OpR X f (rI C λi j=>.int (g i j)):=by
 intro pins s σ H x y v u Q I rx ry h;obtain⟨i,j,rfl,rfl,hc,q⟩:=h;obtain⟨t,rfl⟩:=rx;obtain⟨t',rfl⟩:=ry;exact rule i j t t' s _ _ hc ⟨.int (g i j),H,I.tok _,⟨_,rfl⟩,q⟩
theorem gW{f:ae->ae->Sem ae}{g:Int->Int->Int}
  (rule:∀(i j:Int) (t u:Tok) (s:af) (Q:ae->af->Prop) (E:ae->af->Prop),Q (.int (g i j) s.toks) {s with toks:=s.toks+1}->ak (ah X.prog X.w) X.A (f (.int i t) (.int j u)) Q E s) :
  OpR X f (rI0 λi j=>.int (g i j)):=by
 intro pins s σ H x y v u Q I rx ry h;obtain⟨i,j,rfl,rfl,q⟩:=h;obtain⟨t,rfl⟩:=rx;obtain⟨t',rfl⟩:=ry;exact rule i j t t' s _ _ ⟨.int (g i j),H,I.tok _,⟨_,rfl⟩,q⟩
theorem iQ{f:ae->ae->Sem ae}{g:Int->Int->Bool}
  (rule:∀(i j:Int) (t u:Tok) (s:af) (Q:ae->af->Prop) (E:ae->af->Prop),Q (.bool (g i j)) s->ak (ah X.prog X.w) X.A (f (.int i t) (.int j u)) Q E s) :
  OpR X f (rI0 λi j=>.bl (g i j)):=by
 intro pins s σ H x y v u Q I rx ry h;obtain⟨i,j,rfl,rfl,q⟩:=h;obtain⟨t,rfl⟩:=rx;obtain⟨t',rfl⟩:=ry;exact rule i j t t' s _ _ ⟨.bl (g i j),H,I,rfl,q⟩
noncomputable def mT(i j:Int):Prop:=0<=j/\j<=1000000/\i.natAbs<2^64
noncomputable def jS(i j:Int):Prop:=(-(2^64)<i/\i<2^64)\/(-(2^64)<j/\j<2^64)
theorem jS.ok{i j:Int}(h:jS i j):IntMulOk i j:=by
 rcases h with ⟨h1,h2⟩|⟨h1,h2⟩
 ·exact .of_left (intBits_le_64 h1 h2)
 ·exact .of_right (intBits_le_64 h1 h2)
theorem w9(k:Nat):(0:Int)<=2^k:=by
 rw[two_pow_cast];exact Int.natCast_nonneg _
theorem rV:OpR X (bz .Add) (rI0 λi j=>.int (i+j)):=gW λ_ _ _ _ _ _ _ q=>add_int q
theorem sC:OpR X (bz .Sub) (rI0 λi j=>.int (i-j)):=gW λ_ _ _ _ _ _ _ q=>sub_int q
theorem wZ:OpR X (bz .Mult) (rI jS λi j=>.int (i * j)):=opI λ_ _ _ _ _ _ _ hc q=>mul_int q hc.ok
theorem AQ:OpR X (bz .Mod) (rI (λ_ j=>0<j) λi j=>.int (i%j)):=opI λi j _ _ _ _ _ hc q=>by
 have h1:(0:Int)<j:=hc;exact mod_int' (by lia) (by rw[Int.fmod_eq_emod_of_nonneg i (by lia)];exact q)
theorem Aj:OpR X (bz .Pow) (rI mT λi j=>.int (i^j.toNat)):=opI λ_ _ _ _ _ _ _ hc q=>pow_int_small hc.1 hc.2.1 hc.2.2 q
theorem BV:OpR X (bz .LShift) (rI mT λi j=>.int (i * 2^j.toNat)):=opI λ_ _ _ _ _ _ _ hc q=>lshift_int_small hc.1 hc.2.1 hc.2.2 q
theorem BC:OpR X (bz .RShift) (rI (λ_ j=>0<=j) λi j=>.int (i/2^j.toNat)):=opI λi j _ _ _ _ _ hc q=>
 rshift_int hc (by rw[Int.fdiv_eq_ediv_of_nonneg i (w9 _)];exact q)
theorem uD:OpR X (bz .BitAnd) (rI0 λi j=>.int (Builtin.bitAnd i j)):=gW λ_ _ _ _ _ _ _ q=>and_int q
theorem t_:OpR X (bz .BitOr) (rI0 λi j=>.int (Builtin.bitOr i j)):=gW λ_ _ _ _ _ _ _ q=>or_int q
theorem xX:OpR X (bz .BitXor) (rI0 λi j=>.int (Builtin.bitXor i j)):=gW λ_ _ _ _ _ _ _ q=>xor_int q
theorem unI{f:ae->Sem ae}{g:Int->Int}
  (rule:∀(i:Int) (t:Tok) (s:af) (Q:ae->af->Prop) (E:ae->af->Prop),Q (.int (g i) s.toks) {s with toks:=s.toks+1}->ak (ah X.prog X.w) X.A (f (.int i t)) Q E s) :
  UnR X f (rU λi=>.int (g i)):=by
 intro pins s σ H x v Q I rx h;obtain⟨i,rfl,q⟩:=h;obtain⟨t,rfl⟩:=rx;exact rule i t s _ _ ⟨.int (g i),H,I.tok _,⟨_,rfl⟩,q⟩
theorem xf:UnR X (unaryOp .USub) (rU λi=>.int (-i)):=unI λ_ _ _ _ _ q=>neg_int q
end
section
variable{X:Cx}{a b c:Expr}{ta tb tc:TE}{pos:Pos}
theorem iH{pins:List (Addr×Obj)}{σ:St}{H:Hp}{s:af}{Q:VK}{k k':Bool}(I:Inv X pins σ H s)(q:Q (.bl k) H)(e:k=k'):EP X pins σ Q (.bool k') s:=by
 subst e;exact⟨.bl k,H,I,rfl,q⟩
theorem uM:OpR X (aV .Lt) (rI0 λi j=>.bl (decide (i<j))):=iQ λ_ _ _ _ _ _ _ q=>lt_int q
theorem rR:OpR X (aV .LtE) (rI0 λi j=>.bl (decide (i<=j))):=iQ λ_ _ _ _ _ _ _ q=>le_int q
theorem uR:OpR X (aV .Gt) (rI0 λi j=>.bl (decide (j<i))):=iQ λ_ _ _ _ _ _ _ q=>gt_int q
theorem Ce:OpR X (aV .GtE) (rI0 λi j=>.bl (decide (j<=i))):=iQ λ_ _ _ _ _ _ _ q=>ge_int q
theorem uN:OpR X (aV .Is) (λx y H Q=>y=.non/\Q (.bl (decide (x=.non))) H):=by
 intro pins s σ H x y v u Q I rx ry h;obtain⟨rfl,q⟩:=h;cases ry;refine is_none_gen (iH I q ?_);cases x<;>first
  | (cases rx;rfl)
  | (obtain⟨t,rfl⟩:=rx;rfl)
theorem uu:OpR X (aV .IsNot) (λx y H Q=>y=.non/\Q (.bl (!decide (x=.non))) H):=by
 intro pins s σ H x y v u Q I rx ry h;obtain⟨rfl,q⟩:=h;cases ry;refine isnot_none_gen (iH I q ?_);cases x<;>first
  | (cases rx;rfl)
  | (obtain⟨t,rfl⟩:=rx;rfl)
theorem OpR.or{f:ae->ae->Sem ae}{r r':R2}(h:OpR X f r)(h':OpR X f r'):OpR X f (λx y H Q=>r x y H Q\/r' x y H Q):=by
 intro pins s σ H x y v u Q I rx ry q;rcases q with q|q
 ·exact h pins s σ H x y v u Q I rx ry q
 ·exact h' pins s σ H x y v u Q I rx ry q
theorem uZ{op:CmpOp}{r:R2}(ho:OpR X (aV op) r)(ha:PE X a ta)(hb:PE X b tb)(hm:behindInMarks op b=false):PE X (.Compare a [op] [b] pos) (tOp r ta tb):=by
 intro pins s σ H Q I h;exact wpAny_Compare1 (jr ha hb I h λv u s2 x y H2 I2 rx ry q=>ho pins s2 σ H2 x y v u Q I2 rx ry q) hm
noncomputable def jE(t:TE):TT:=λσ H Q=>t σ H λx H'=>∃k,x=.bl k/\Q k H'
theorem sZ{op:CmpOp}{r:R2}(ho:OpR X (aV op) r)(ha:PE X a ta)(hb:PE X b tb)(hm:behindInMarks op b=false):PT X (.Compare a [op] [b] pos) (jE (tOp r ta tb)):=by
 intro pins s σ H Q I h;refine wpAny_isTrue_Compare1 (thn (ha pins s σ H _ I h) λv s1 ⟨x,H1,I1,r1,q1⟩=>thn (hb pins s1 σ H1 _ I1 q1) λu s2 ⟨y,H2,I2,r2,q2⟩=>
  thn (ho pins s2 σ H2 x y v u _ I2 r1 r2 q2) λc s3 ⟨z,H3,I3,r3,k,e,q3⟩=>?_) hm
 subst e;cases r3;exact bB ⟨H3,I3,q3⟩
noncomputable def oI(r r':R2)(ta tb tc:TE):TE:=λσ H Q=>ta σ H λx H1=>tb σ H1 λy H2=>r x y H2 λz H3=>∃k,z=.bl k /\
 (if k=true then tc σ H3 λw' H4=>r' y w' H4 Q else Q (.bl false) H3)
theorem xR{op op':CmpOp}{r r':R2}(ho:OpR X (aV op) r)(ho':OpR X (aV op') r')(ha:PE X a ta)(hb:PE X b tb)(hc:PE X c tc)
  (hm:lastMarks [op,op'] [b,c]=false:=by with_unfolding_all rfl):PE X (.Compare a [op,op'] [b,c] pos) (oI r r' ta tb tc):=by
 intro pins s σ H Q I h;refine Compare_chain (thn (ha pins s σ H _ I h) λv s1 ⟨x,H1,I1,r1,q1⟩=>chain_link (thn (hb pins s1 σ H1 _ I1 q1) λu s2 ⟨y,H2,I2,r2,q2⟩=>
  thn (ho pins s2 σ H2 x y v u _ I2 r1 r2 q2) λd s3 ⟨z,H3,I3,r3,k,e,q3⟩=>?_)) hm
 subst e;cases r3;refine bB ?_;cases k with
 |false=>exact ite_ff ⟨.bl false,H3,I3,rfl,q3⟩
 |true=>exact ite_tt (chain_last (thn (hc pins s3 σ H3 _ I3 q3) λw' s4 ⟨z',H4,I4,r4,q4⟩=>ho' pins s4 σ H4 y z' u w' Q I4 r2 r4 q4))
theorem w8{op op':CmpOp}{r r':R2}(ho:OpR X (aV op) r)(ho':OpR X (aV op') r')(ha:PE X a ta)(hb:PE X b tb)(hc:PE X c tc)
  (hm:lastMarks [op,op'] [b,c]=false:=by with_unfolding_all rfl):PT X (.Compare a [op,op'] [b,c] pos) (jE (oI r r' ta tb tc)):=by
 intro pins s σ H Q I h;refine isTrue_chain (thn (ha pins s σ H _ I h) λv s1 ⟨x,H1,I1,r1,q1⟩=>test_link (thn (hb pins s1 σ H1 _ I1 q1) λu s2 ⟨y,H2,I2,r2,q2⟩=>
  thn (ho pins s2 σ H2 x y v u _ I2 r1 r2 q2) λd s3 ⟨z,H3,I3,r3,k,e,q3⟩=>?_)) hm
 subst e;cases r3;refine bB ?_;cases k with
 |false=>
  obtain⟨k',e',q'⟩:=q3;cases e';exact ite_ff ⟨H3,I3,q'⟩
 |true=>
  refine ite_tt (test_last (thn (hc pins s3 σ H3 _ I3 q3) λw' s4 ⟨z',H4,I4,r4,q4⟩=>thn (ho' pins s4 σ H4 y z' u w' _ I4 r2 r4 q4) λd' s5 ⟨z2,H5,I5,r5,k2,e2,q5⟩=>?_));subst e2;cases r5;exact bB ⟨H5,I5,q5⟩
noncomputable def kl(K:ar)(x:V)(H:Hp)(k:Bool):Prop:=
 match x with
 | .non=>k=false
 | .bl b=>k=b
 | .int i=>k=(i != 0)
 | .str y=>y.length<=aH/\k=((y.length:Int) != 0)
 | .byt y=>y.size<=aH/\k=((y.size:Int) != 0)
 | .ref p=>(∃xs,SqL K H p xs/\k = !xs.isEmpty)\/(∃xs,SqT K H p xs/\k = !xs.isEmpty)\/∃kvs,H p=some (.dK kvs)/\k = !kvs.isEmpty
 |_=>False
theorem wu{κ:Type}{kvs:List (κ×V)}{vs:List (κ×ae)}(r:KV kvs vs):(!vs.isEmpty) = !kvs.isEmpty:=by
 cases r<;>rfl
theorem nC{xs:List V}{its:List ae}(r:Vals xs its):(!its.toArray.isEmpty) = !xs.isEmpty:=by
 cases r<;>simp
theorem gw:(aH:Nat)<2^63:=by rw[bt];decide
theorem yj:yP X (λx H Q=>∃k,kl X.K x H k/\Q k H):=by
 intro pins s σ H x v Q I rx h;obtain⟨k,e,q⟩:=h;have hl:=gw;have hs:aH=16777216:=bt;cases x with
 |non=>
  cases rx;have e':k=false:=e;subst e';exact truthy_none ⟨H,I,q⟩
 |bl b=>
  cases rx;have e':k=b:=e;subst e';exact bB ⟨H,I,q⟩
 |int i=>
  obtain⟨t,rfl⟩:=rx;have e':k=(i != 0):=e;subst e';exact PySem.P.truthy_int ⟨H,I,q⟩
 |str y=>
  obtain⟨t,rfl⟩:=rx;obtain⟨hy,e'⟩:y.length<=aH/\k=((y.length:Int) != 0):=e;subst e';exact PySem.P.truthy_str (by lia) ⟨H,I.tok _,q⟩
 |byt y=>
  obtain⟨t,rfl⟩:=rx;obtain⟨hy,e'⟩:y.size<=aH/\k=((y.size:Int) != 0):=e;subst e';exact PySem.W.truthy_bytes (by lia) ⟨H,I.tok _,q⟩
 |ref p=>
  cases rx;have e':(∃xs,SqL X.K H p xs/\k = !xs.isEmpty)\/(∃xs,SqT X.K H p xs/\k = !xs.isEmpty)\/∃kvs,H p=some (.dK kvs)/\k = !kvs.isEmpty:=e;rcases e' with ⟨xs,hx,e'⟩|⟨xs,hx,e'⟩|⟨kvs,hx,e'⟩
  ·subst e';obtain⟨its,r,pl,hz⟩:=I.list hx;have hlen:=r.length;exact wpAny_truthy_list pl.isList (by simp only[aW];lia) ⟨H,I.tok _,by rw[nC r];exact q⟩
  ·subst e';obtain⟨its,r,pl,hz⟩:=I.tuple hx;have hlen:=r.length;exact truthy_tuple pl (by simp only[aW];lia) ⟨H,I.tok _,by rw[nC r];exact q⟩
  ·subst e';obtain⟨hz,hS,vs,r,m⟩:kvs.length<=aH/\(p==sysModules)=false/\∃vs,KV kvs vs/\s.heap.DictOf (cB X.prog X.w) p vs:=I.hok p _ hx;have hlen:kvs.length=vs.length:=Paired.length r;exact wpAny_truthy_dict hS m (by lia) ⟨H,I.tok _,by rw[wu r];exact q⟩
 |_=>exact(show False from e).elim
theorem ud(ha:PE X a ta)(he:∀whole,isTrue a X.env whole=(do let v <-whole;standAt a.pos;holding [v] (truthy v))) :
  PT X a (λσ H Q=>ta σ H λx H'=>∃k,kl X.K x H' k/\Q k H'):=by
 intro pins s σ H Q I h;exact isTrue_plain (thn (ha pins s σ H _ I h) λv s1 ⟨x,H1,I1,r1,q1⟩=>yj pins s1 σ H1 x v Q I1 r1 q1) (he _)
theorem vals1{x:V}{us:List ae}(r:Vals [x] us):∃u,us=[u]/\RelV x u:=by
 cases r with
 |cons r1 r2=>cases r2;exact⟨_,rfl,r1⟩
theorem vals2{x y:V}{us:List ae}(r:Vals [x,y] us):∃u w',us=[u,w']/\RelV x u/\RelV y w':=by
 cases r with
 |cons r1 r2=>
  cases r2 with
  |cons r3 r4=>cases r4;exact⟨_,_,rfl,r1,r3⟩
theorem Cn(hc:X.calm=true):zh X (.builtin "max") (λxs H Q=>∃i j,xs=[.int i,.int j]/\Q (.int (if j>i then j else i)) H):=by
 intro pins s σ H xs us Q I r h;obtain⟨i,j,rfl,q⟩:=h;obtain⟨u,w',rfl,⟨t,rfl⟩,⟨t',rfl⟩⟩:=vals2 r;refine max_two_ints (I.ok.hd hc) λh' tk k=>⟨_,H,I.kept k,?_,q⟩
 by_cases hj:j>i
 ·rw[if_pos hj,if_pos hj];exact⟨_,rfl⟩
 ·rw[if_neg hj,if_neg hj];exact⟨_,rfl⟩
theorem A4(hc:X.calm=true):zh X (.builtin "min") (λxs H Q=>∃i j,xs=[.int i,.int j]/\Q (.int (if j<i then j else i)) H):=by
 intro pins s σ H xs us Q I r h;obtain⟨i,j,rfl,q⟩:=h;obtain⟨u,w',rfl,⟨t,rfl⟩,⟨t',rfl⟩⟩:=vals2 r;refine min_two_ints (I.ok.hd hc) λh' tk k=>⟨_,H,I.kept k,?_,q⟩
 by_cases hj:j<i
 ·rw[if_pos hj,if_pos hj];exact⟨_,rfl⟩
 ·rw[if_neg hj,if_neg hj];exact⟨_,rfl⟩
theorem r_:zh X (.type "int") (λxs H Q=>(∃i,xs=[.int i]/\Q (.int i) H)\/∃k,xs=[.bl k]/\Q (.int (if k then 1 else 0)) H):=by
 intro pins s σ H xs us Q I r h;rcases h with ⟨i,rfl,q⟩|⟨k,rfl,q⟩
 ·obtain⟨u,rfl,t,rfl⟩:=vals1 r;exact call_int_int ⟨.int i,H,I,⟨_,rfl⟩,q⟩
 ·obtain⟨u,rfl,r1⟩:=vals1 r;cases r1;exact call_int_bool ⟨.int (if k then 1 else 0),H,I.tok _,⟨_,rfl⟩,q⟩
end
structure jy(h:Heap)(x dx C:Addr)(mA:Str->Option ae):Prop where
 obj:h.get? x=some (PySem.W.instObj C dx)
 ns:h.Ns1 dx mA
 ne:dx≠x
theorem sX{h:Heap}{dx:Addr}{mA:Str->Option ae}(n:h.Ns1 dx mA):∃od,h.get? dx=some od/\∀name,PySem.W.lookIn name od=some (mA name):=by
 obtain⟨o,es,ep,ho,hd,hk,_,hm⟩:=n;refine⟨o,ho,λname=>?_⟩;have e:=hm name;unfold nsFind findBy at e;rw[<-Array.find?_toList]at e;unfold PySem.W.lookIn;rw[hd];dsimp only;split
 ·rename_i y q
  rw[q]at e;exact congrArg some e
 ·rename_i q
  rw[q]at e;have a:es.toList.any (·.refKey)=false:=by
   rw[List.any_eq_false];intro y hy;obtain⟨z,t,hkey⟩:=hk y (Array.mem_toList_iff.mp hy);simp[DictEntry.refKey,hkey]
  have a':¬ es.toList.any (·.refKey)=true:=by rw[a];exact bY
  rw[if_neg a'];exact congrArg some e
theorem jy.look{h:Heap}{x dx C:Addr}{mA:Str->Option ae}(I:jy h x dx C mA):∃od,PySem.W.InstAt h x (PySem.W.instObj C dx) C (some od)/\∀name,PySem.W.lookIn name od=some (mA name):=
 let ⟨od,ho,hl⟩:=sX I.ns
 ⟨od,⟨I.obj,rfl,rfl,ho⟩,hl⟩
section
variable{prog:aw}{w:av}{A:ay}{E:ae->af->Prop}{s:af}{K:ar}{x dx C f:Addr}{mA:Str->Option ae}{name:Str}{v:ae}
end
theorem dm.some_of{v:V}{o:Option ae}(r:dm (some v) o):∃u,o=some u/\RelV v u:=by
 cases o with
 |none=>exact(show False from r).elim
 |some u=>exact⟨u,rfl,r⟩
section
variable{P:aw}{w:av}{H H':Hp}{h h':Heap}{a C dx:Addr}{fs fs':List (Str×V)}
theorem Ac(hok:HOk P w H h)(e:H a=some (.ins C dx fs)):∃mA,jy h a dx C mA/\(∀f,dm (fs.lookup f) (mA f))/\PySem.Within mA (fs.map (·.1))/\fs.length<=1000/\H dx=some (.own a):=by
 obtain⟨d,z,ne,ob,mA,n,r,q⟩:=(show zN P w H h a (.ins C dx fs)from hok a _ e)
 exact⟨mA,⟨ob,n,ne⟩,r,q,z,d⟩
end
structure Cls(K:ar)(C:Addr):Prop where
 pg:PySem.W.plainGet K C Str.empty=true
 hd:PySem.W.hasDictIn K C=true
 po:PySem.W.plainOver K C=true
 sa:PySem.W.findIn K (.ref C) "__setattr__" = some (some (.builtin "object.__setattr__"))
theorem Cls.get{K:ar}{C:Addr}(c:Cls K C)(f:Str):PySem.W.plainGet K C f=true:=c.pg
section
variable{X:Cx}{pins:List (Addr×Obj)}{σ:St}{H:Hp}{s:af}{a C dx:Addr}{fs:List (Str×V)}{f:Str}{v:V}{A:ay}{E:ae->af->Prop}
end
section
variable{X:Cx}{o e value:Expr}{f:Str}{pos pos' tpos:Pos}{ta tv:TE}
end
section
variable{X:Cx}{pins:List (Addr×Obj)}{σ:St}{H:Hp}{s:af}{A:ay}{E:ae->af->Prop}{Q:ae->af->Prop}{c:ae}{b:Bool}
inductive cQ(K:ar)(H:Hp):V->ae->Prop where
 |non:cQ K H .non (.type "NoneType")
 |bl (x:Bool):cQ K H (.bl x) (.type "bool")
 |int (i:Int):cQ K H (.int i) (.type "int")
 |str (x:Str):cQ K H (.str x) (.type "str")
 |flt (x:UInt64):cQ K H (.flt x) (.type "float")
 |lst {a:Addr}{xs:List V} (e:H a=some (.lst xs)):cQ K H (.ref a) (.type "list")
 |frz {a:Addr}{o:Obj}{xs:List V} (e:H a=some (.frz o (.lst xs))):cQ K H (.ref a) (.type "list")
 |tup {a:Addr}{xs:List V} (e:H a=some (.tup xs)):cQ K H (.ref a) (.type "tuple")
 |dK {a:Addr}{kvs:List (Key×V)} (e:H a=some (.dK kvs)):cQ K H (.ref a) (.type "dict")
 |dT {a:Addr}{kvs:List (List Key×V)} (e:H a=some (.dT kvs)):cQ K H (.ref a) (.type "dict")
 |ins {a C dx:Addr}{fs:List (Str×V)} (e:H a=some (.ins C dx fs)) (cl:Cls K C) (ha:PySem.W.findIn K (.ref C) "__class__" = some (some (.builtin "object.__class__")))
   (hn:PySem.W.specialIn K (.builtin "object.__class__") "__get__" = some (some (.builtin "getset_descriptor.__get__"))) (htk:PySem.W.takesIn K (.builtin "object.__class__")=some true)
   (hm:PySem.W.mroIn K C (.type "object")=some true):cQ K H (.ref a) (.ref C)
theorem fO{x:V}{u t:ae}(I:Inv X pins σ H s)(rx:RelV x u)(ty:cQ X.K H x t)(e:bf X.K t c=some b)(h:∀tk,Q (.bool b) {s with toks:=tk}) :
  ak (ah X.prog X.w) A (call (.builtin "isinstance") [u,c]) Q E s:=by
 cases ty with
 |non=>cases (show u=ae.none from rx);exact bD PySem.W.kitx_none I.kIn True.intro e (λz=>nomatch z) h
 |bl y=>cases (show u=ae.bool y from rx);exact bD PySem.W.kitx_bool I.kIn True.intro e (λz=>nomatch z) h
 |int i=>obtain⟨t,q⟩:=(show ∃t,u=ae.int i t from rx);cases q;exact bD PySem.W.kitx_int I.kIn True.intro e (λz=>nomatch z) h
 |str y=>obtain⟨t,q⟩:=(show ∃t,u=ae.str y t from rx);cases q;exact bD PySem.W.kitx_str I.kIn True.intro e (λz=>nomatch z) h
 |flt y=>obtain⟨t,q⟩:=(show ∃t,u=ae.float y t from rx);cases q;exact bD PySem.W.kitx_float I.kIn True.intro e (λz=>nomatch z) h
 | @lst a xs ea=>
  cases (show u=a8 a from rx);obtain⟨_,_,n,_,h1⟩:=(show zN X.prog X.w H s.heap a (.lst xs)from I.hok a _ ea)
  exact bD PySem.W.kitx_list I.kIn ⟨_,h1,rfl⟩ e (λz=>nomatch z) h
 | @frz a ob xs ea=>
  cases (show u=a8 a from rx);obtain⟨_,_,_,n,_,h1⟩:=(show zN X.prog X.w H s.heap a (.frz ob (.lst xs))from I.hok a _ ea)
  exact bD PySem.W.kitx_list I.kIn ⟨_,h1,rfl⟩ e (λz=>nomatch z) h
 | @tup a xs ea=>
  cases (show u=a8 a from rx);obtain⟨_,_,_,p⟩:=(show zN X.prog X.w H s.heap a (.tup xs)from I.hok a _ ea)
  obtain⟨o,h1,h2,_⟩:=p;exact bD PySem.W.kitx_tuple I.kIn ⟨o,h1,h2⟩ e (λz=>nomatch z) h
 | @dK a kvs ea=>
  cases (show u=a8 a from rx);obtain⟨_,_,vs,_,p⟩:=(show zN X.prog X.w H s.heap a (.dK kvs)from I.hok a _ ea)
  obtain⟨o,es,ep,h1,h2,_⟩:=p;exact bD PySem.W.kitx_dict I.kIn ⟨o,h1,h2.1⟩ e (λz=>nomatch z) h
 | @dT a kvs ea=>
  cases (show u=a8 a from rx);obtain⟨_,_,xs,_,o,es,ep,h1,h2,_⟩:=(show zN X.prog X.w H s.heap a (.dT kvs)from I.hok a _ ea)
  exact bD PySem.W.kitx_dict I.kIn ⟨o,h1,h2.1⟩ e (λz=>nomatch z) h
 | @ins a C dx fs ea cl ha hn htk hm=>
  cases (show u=a8 a from rx);obtain⟨mA,O,_⟩:=Ac I.hok ea;obtain⟨od,J,_⟩:=O.look;exact bD (PySem.W.kitx_own (cl.get _) cl.hd ha hn htk hm) I.kIn J e (λz=>nomatch z) h
end
structure b8(k:Nat)(A:ay):Prop where
 hd:A.handled=none
 dp:A.depth+3 * k+5<recursionLimit
 un:A.units+16 * k+200<cLine
theorem b8.deeper{k:Nat}{A:ay}(r:b8 (k+1) A)(env:Env):b8 k (A.deeper env):=
 ⟨r.hd,by have:=r.dp;show A.depth+1+3 * k+5<_;lia,by have:=r.un;show A.units+3+16 * k+200<_;lia⟩
theorem b8.depth{k:Nat}{A:ay}(r:b8 k A):A.depth<recursionLimit:=by have:=r.dp;lia
theorem b8.units{k:Nat}{A:ay}(r:b8 k A):A.units+64<cLine:=by have:=r.un;lia
noncomputable def iR:TA:=λ_ H Q=>Q [] H
noncomputable def gI(ta:TE)(tr:TA):TA:=λσ H Q=>ta σ H λx H1=>tr σ H1 λxs H2=>Q (x::xs) H2
section
variable{X:Cx}{e:Expr}{es:List Expr}{te:TE}{t:TA}{pos:Pos}
theorem dP:PA X [] iR:=λ_ _ _ _ H Q I h=>Calls.spliced_nil ⟨[],H,I,.nil,h⟩
theorem cU(ha:PE X e te)(hr:PA X es t)(hs:aO (e::es) X.env=(false,eval e X.env)::aO es X.env:=by rfl):PA X (e::es) (gI te t):=by
 intro pos pins s σ H Q I h;rw[hs];show ak _ _ (spliced ((false,eval e X.env)::backTo pos (aO es X.env))) _ _ s;refine Calls.spliced_cons (thn (ha pins s σ H _ I h) λu s1 ⟨x,H1,I1,r1,q1⟩=>?_);exact thn (hr pos pins s1 σ H1 _ I1 q1) λus s2 ⟨xs,H2,I2,r2,q2⟩=>⟨x::xs,H2,I2,.cons r1 r2,q2⟩
noncomputable def wU(t:TA):TE:=λσ H Q=>t σ H λxs H1=>xs.length<=aH/\∀p,H1 p=none->Q (.ref p) (upd H1 p (.tup xs))
noncomputable def ua(t:TA):TE:=λσ H Q=>t σ H λxs H1=>xs.length<=aH/\∀p,H1 p=none->Q (.ref p) (upd H1 p (.lst xs))
theorem AG{x1}(h:PA X es t):PE X (.Tuple es x1 pos) (wU t):=by
 intro pins s σ H Q I hq;refine wpAny_Tuple_spliced (thn (h pos pins s σ H _ I hq) λus s1 ⟨xs,H1,I1,r,z,q⟩=>⟨by rw[<-r.length];exact z,?_⟩);have hf:H1 s1.heap.objs.size=none:=I1.hok.fresh (aI _);refine⟨.ref s1.heap.objs.size,upd H1 s1.heap.objs.size (.tup xs),I1.laid (t':=s1.toks) (λb u e=>Heap.get?_push_of_some _ e) (aI _) ?_,rfl,q _ hf⟩;exact⟨z,us,r,⟨_,Heap.get?_push_size _ rfl,rfl,_,rfl⟩⟩
theorem wx(h:PA X es t):PE X (.List es pos) (ua t):=by
 intro pins s σ H Q I hq;refine wpAny_List_spliced (thn (h pos pins s σ H _ I hq) λus s1 ⟨xs,H1,I1,r,z,q⟩=>⟨by rw[<-r.length];exact z,?_⟩);have hf:H1 s1.heap.objs.size=none:=I1.hok.fresh (aI _);refine⟨.ref s1.heap.objs.size,upd H1 s1.heap.objs.size (.lst xs),I1.laid (t':=s1.toks) (λb u e=>Heap.get?_push_of_some _ e) (aI _) ?_,rfl,q _ hf⟩;exact⟨z,us,0,r,Heap.get?_push_size _ rfl⟩
end
abbrev Sp:=List V->Hp->VK->XK->Prop
abbrev CXT:=List Env->Hp->af->XK->ae->af->Prop
structure iq(P:aw)(w:av)(K:ar)(mg:Str->Option ae)(base:Heap)(A:ay)(outer:List Env)(s:af)(H:Hp):Prop where
 frames:A.frames=some outer
 mod:Mod K mg base
 bs:∀b o,base.get? b=some o->s.heap.get? b=some o/\H b=none
 bsz:base.objs.size<=s.heap.objs.size
 funs:s.heap.FunFrames base outer
 frf:∀b∈frs outer,H b=none
 hok:HOk P w H s.heap
 bare:AllBare s.gens
noncomputable def CE(outer:List Env)(P:aw)(w:av)(H:Hp)(s:af)(Q:VK)(u:ae)(s':af):Prop:=
 ∃v H',s'.os=s.os/\AllBare s'.gens/\Un (frs outer) [] H H' s.heap s'.heap/\HOk P w H' s'.heap/\RelV v u/\Q v H'
noncomputable def CR(CX:CXT)(outer:List Env)(P:aw)(w:av)(H:Hp)(s:af)(Q:VK)(E:XK)(r:Result)(s':af):Prop:=
 match r with
 | .ok (.ret u)=>CE outer P w H s Q u s'
 | .ok _=>False
 | .error e=>CX outer H s E e s'
structure eO(P:aw)(w:av)(K:ar)(mg:Str->Option ae)(base:Heap)(CX:CXT)(k:Nat)(f:Addr)(fd:FuncData)(ps:List Str)(sp:Sp):Prop where
 len:∀vs H Q E,sp vs H Q E->vs.length=ps.length
 run:∀(A:ay) (outer:List Env) (s:af) (H:Hp) (args:Args) (us:List ae) (vs:List V) (Q:VK) (E:XK),b8 k A->iq P w K mg base A outer s H->BindsTo s fd args (ps.zip us)->Vals vs us->sp vs H Q E ->
  codeAny (ah P w) A (.call (.ref f) args) (CR CX outer P w H s Q E) s
section
variable{X:Cx}{pins:List (Addr×Obj)}{σ:St}{H:Hp}{s s':af}
theorem Inv.env0(I:Inv X pins σ H s):iq X.prog X.w X.K X.mg X.base X.A X.stack s H:=
 ⟨I.ok.frames,I.ok.mod,I.bs,bp I.ok.bsz I.sz,I.stack,I.stkFree,I.hok,I.bare⟩
theorem Inv.after{Q:VK}{u:ae}(I:Inv X pins σ H s)(h:CE X.stack X.prog X.w H s Q u s'):EP X pins σ Q u s':=by
 obtain⟨v,H',os,bare,un,hok,r,q⟩:=h;obtain⟨hh,g,d,t,os'⟩:=s';obtain rfl:os'=s.os:=os;exact⟨v,H',I.call (h':=hh) (g':=g) (d':=d) (t':=t) (ch:=[]) un hok bare (λb z=>absurd z (by simp)),r,q⟩
end
noncomputable def kc(sp:Sp)(dvs:List V)(E:XK)(t:TA):TE:=λσ H Q=>t σ H λvs H1=>sp (vs++dvs) H1 Q E
noncomputable def Binds(K:ar)(fd:FuncData)(ps:List Str)(ds:List ae):Prop:=
 ∀(s:af) (us:List ae),K.In s.heap->(us++ds).length=ps.length->BindsTo s fd ⟨us,[]⟩ (ps.zip (us++ds))
theorem Binds.all{K:ar}{fd:FuncData}{ps:List Str}(h:∀us:List ae,us.length=ps.length->bindArgs fd ⟨us,[]⟩=pure (ps.zip us)):Binds K fd ps []:=λs us _ hl=>by
 rw[List.append_nil]at hl ⊢;exact .of_eq (h us hl)
noncomputable def Passes(CX:CXT)(X:Cx)(E:XK):Prop:=∀(pins:List (Addr×Obj)) (σ:St) (H:Hp) (s:af) (e:ae) (s':af),Inv X pins σ H s->CX X.stack H s E e s'->X.xe e s'
section
variable{X:Cx}{CX:CXT}{k:Nat}{f C:Addr}{fd:FuncData}{ps:List Str}{sp:Sp}{dvs:List V}{ds:List ae}{E:XK}{x m:Str}{p pos apos:Pos}{e o:Expr}{es:List Expr}{ta:TE}{t:TA}
theorem vv{pins:List (Addr×Obj)}{σ:St}{H:Hp}{s:af}{Q:VK}{us:List ae}{vs:List V}(F:eO X.prog X.w X.K X.mg X.base CX k f fd ps sp)(hr:b8 k X.A)(hb:Binds X.K fd ps ds)(hd:Vals dvs ds)(hx:Passes CX X E)
  (I:Inv X pins σ H s) (r:Vals vs us) (h:sp (vs++dvs) H Q E):ak (ah X.prog X.w) X.A (call (.ref f) us) (EP X pins σ Q) X.xe s:=by
 have r2:Vals (vs++dvs) (us++ds):=r.append hd;have hl:(us++ds).length=ps.length:=by rw[<-r2.length];exact F.len _ _ _ _ h
 refine wpAny_call (codeAny_mono (F.run X.A X.stack s H ⟨us,[]⟩ (us++ds) (vs++dvs) Q E hr I.env0 (hb s us I.kIn hl) r2 h) λr s' hq=>?_);cases r with
 |error e=>exact hx pins σ H s e s' I hq
 |ok fl=>
  cases fl with
  |ret u=>exact I.after hq
  |next=>exact aK hq
  |brk=>exact aK hq
  |cont=>exact aK hq
theorem Ae(F:eO X.prog X.w X.K X.mg X.base CX k f fd ps sp)(hr:b8 k X.A)(hg:Gl X x)(hm:X.mg x=some (.ref f))(hk:cm X.K (.ref f)=true)(hb:Binds X.K fd ps ds)(hd:Vals dvs ds)(hx:Passes CX X E)
  (ha:PA X (e::es) t) (hdb:(x==("__debug__" : Str))=false:=by decide) (he:aO (e::es) X.env=(false,eval e X.env)::aO es X.env:=by rfl) (hpl:(backTo pos (aO es X.env)).any (·.1)=false:=by rfl) :
  PE X (.Call (.Name x p) (e::es) [] pos) (kc sp dvs E t):=by
 intro pins s σ H Q I h;refine wpAny_Call_Name_kw (fJ I hg hm ?_ hdb);refine PySem.W.callWith_K (h₀:=X.base) I.ok.mod.kin hk (thn (ha pos pins s σ H _ I h) λus s1 ⟨vs,H1,I1,r,q⟩=>⟨I1.kIn,?_⟩) he hpl;exact vv F hr hb hd hx I1 r q
end
section
variable{X:Cx}{CX:CXT}{k:Nat}{f C:Addr}{fd:FuncData}{ps ks:List Str}{sp:Sp}{E:XK}{x m:Str}{p pos apos kpos:Pos}{e o:Expr}{es:List Expr}{kws:List Keyword}{te ta:TE}{t tk:TA}{nm:Option Str}
variable{g:List ae->List ae->List ae}{gV:List V->List V->List V}
end
structure gD(N P:List Str)(sc:aS):Prop where
 kind:sc.kind=.function
 co:sc.isCoroutine=false
 gen:sc.isGenerator=false
 nd:N.Nodup
 pre:N.take P.length=P
 par:∀x∈P,sc.names.lookup x=some .local\/sc.names.lookup x=some .cell
 nofree:∀y∈sc.names,y.2≠.free
theorem ma{kindOf:Str->Option aM}{x:Str}:∀{binds:List (Str×ae)}{m:Str->Option ae},(∀v,(x,v)∉binds)->bindL kindOf binds m x=m x
 | [],_,_=>rfl
 | (n,v)::r,m,h=>by
  unfold bindL;rw[ma λw hw=>h w (aP _ hw)];split
  ·have:x≠n:=by rintro rfl;exact h v aR
   simp[this]
  ·rfl
theorem oA{kindOf:Str->Option aM}{x:Str}:∀{binds:List (Str×ae)}{m:Str->Option ae},(∀v,(x,v)∉binds)->bindC kindOf binds m x=m x
 | [],_,_=>rfl
 | (n,v)::r,m,h=>by
  unfold bindC;rw[oA λw hw=>h w (aP _ hw)];split
  ·rfl
  ·have:x≠n:=by rintro rfl;exact h v aR
   simp[this]
theorem lW{kindOf:Str->Option aM}{x:Str}{v:ae}:∀{P:List Str}{vs:List ae}{i:Nat}{m:Str->Option ae},P.Nodup->P[i]? = some x->vs[i]? = some v->kindOf x=some .local ->
  bindL kindOf (P.zip vs) m x=some v
 | [],_,_,_,_,h,_,_=>by simp at h
 |_::_,[],_,_,_,_,h,_=>by simp at h
 |p::P,w::vs,0,m,nd,h1,h2,hk=>by
  simp at h1 h2;subst h1;subst h2;show bindL kindOf ((p,w)::P.zip vs) m p=_;unfold bindL;rw[ma λv hv=>(List.nodup_cons.mp nd).1 (List.of_mem_zip hv).1,if_pos hk];simp
 |p::P,w::vs,i+1,m,nd,h1,h2,hk=>by
  show bindL kindOf ((p,w)::P.zip vs) m x=_;unfold bindL;exact lW (i:=i) (List.nodup_cons.mp nd).2 (by simpa using h1) (by simpa using h2) hk
theorem nF{kindOf:Str->Option aM}{x:Str}{v:ae}:∀{P:List Str}{vs:List ae}{i:Nat}{m:Str->Option ae},P.Nodup->P[i]? = some x->vs[i]? = some v->kindOf x≠some .local ->
  bindC kindOf (P.zip vs) m x=some v
 | [],_,_,_,_,h,_,_=>by simp at h
 |_::_,[],_,_,_,_,h,_=>by simp at h
 |p::P,w::vs,0,m,nd,h1,h2,hk=>by
  simp at h1 h2;subst h1;subst h2;show bindC kindOf ((p,w)::P.zip vs) m p=_;unfold bindC;rw[oA λv hv=>(List.nodup_cons.mp nd).1 (List.of_mem_zip hv).1,if_neg hk];simp
 |p::P,w::vs,i+1,m,nd,h1,h2,hk=>by
  show bindC kindOf ((p,w)::P.zip vs) m x=_;unfold bindC;exact nF (i:=i) (List.nodup_cons.mp nd).2 (by simpa using h1) (by simpa using h2) hk
noncomputable def start(N:List Str)(vs:List V):St:=vs.map some++bK (N.length-vs.length) none
noncomputable def dk(CX:CXT)(P:aw)(w:av)(K:ar)(mg:Str->Option ae)(base:Heap)(N:List Str)(qual:Str)(scope:aS)(f:Addr)(cd:ae)(A:ay)(outer:List Env)(s:af)(H:Hp)(E:XK):Cx where
 prog:=P
 w:=w
 K:=K
 mg:=mg
 base:=base
 A:=A.deeper (envOfC qual scope s.heap.objs.size f cd)
 N:=N
 s₀:=s
 H₀:=H
 env:=envOfC qual scope s.heap.objs.size f cd
 outer:=outer
 stack:=envOfC qual scope s.heap.objs.size f cd::outer
 ex:=[]
 calm:=true
 fn:=λ_=>true
 pn:=[]
 xe:=λe s'=>ak (ah P w) (A.deeper (envOfC qual scope s.heap.objs.size f cd)) (leaving (envOfC qual scope s.heap.objs.size f cd) e) (λ_ s''=>CX outer H s E e s'') (λe' s''=>CX outer H s E e' s'') s'
theorem i_{sc:aS}{n:Nat}{x:Str}(h:sc.names.lookup x=some .cell):∃c,(a_ n sc.names []).lookup x=some c:=by
 have q:=PySem.W.cellsFrom_some sc.names n [] (.inl h);exact Option.isSome_iff_exists.mp q
theorem xH{CX:CXT}{P:aw}{w:av}{K:ar}{mg:Str->Option ae}{base:Heap}{N ps:List Str}{qual:Str}{scope:aS}{f:Addr}{cd:ae}{A:ay}{outer:List Env}{s s1:af}{H:Hp}{E:XK}{us:List ae}{vs:List V}
  (S:gD N ps scope) (hd:A.handled=none) (e0:iq P w K mg base A outer s H) (hl:vs.length=ps.length) (r:Vals vs us)
  (x:InCallC s s.heap.objs.size (bindL (envOfC qual scope s.heap.objs.size f cd).kindOf (ps.zip us) λ_=>none) (a_ (s.heap.objs.size+1) scope.names []) (bindC (envOfC qual scope s.heap.objs.size f cd).kindOf (ps.zip us) λ_=>none) s1) :
  Inv (dk CX P w K mg base N qual scope f cd A outer s H E) [] (start N vs) H s1:=by
 have hpl:ps.length<=N.length:=by have:=congrArg List.length S.pre;rw[List.length_take]at this;lia
 obtain⟨h1,tk,rfl,hk⟩:=x.done;have noA:∀b:Addr,b∉(dk CX P w K mg base N qual scope f cd A outer s H E).ex:=λb z=>absurd (show b∈([]:List Addr)from z) (by simp)
 refine⟨⟨e0.mod,S.kind,rfl,rfl,aI _,λy z c h1 h2=>?_,λy hy=>?_,λy c _ h=>?_,λ_=>hd,ay.frames_deeper e0.frames,.inr ⟨rfl,rfl⟩,λb z=>absurd z (noA b),e0.bs,e0.bsz,λb _ _=>noA b,λb z=>absurd z (noA b),e0.funs,e0.frf⟩,
  rfl,e0.bare,Un.kept hk,⟨_,x.toInCall.ns,λi y v h1 h2 h3=>?_⟩,λy c h=>⟨_,x.cell y c h⟩,e0.hok.fresh (aI _),λy c h=>?_,λp hp=>absurd (show p∈([]:List (Addr×Obj))from hp) (by simp),e0.hok.kept hk,?_⟩
 ·exact name_of_addr x.apart (bX h1) (bX h2)
 ·have hy:scope.names.lookup y=some .cell\/scope.names.lookup y=some .free:=hy;rcases hy with hy|hy
  ·exact i_ hy
  ·exact absurd rfl (S.nofree _ (bX hy))
 ·exact Nat.le_of_lt (x.above y c (bX h))
 ·have hi:i<vs.length:=by
   unfold start at h2;by_cases hi:i<vs.length
   ·exact hi
   ·rw[List.getElem?_append_right (by simpa using hi)]at h2;rw[List.getElem?_replicate]at h2;split at h2<;>cases h2
  have ha:vs[i]? = some v:=by
   unfold start at h2;rw[List.getElem?_append_left (by simpa using hi),List.getElem?_map]at h2;cases e:vs[i]? with
   |none=>rw[e]at h2;cases h2
   |some a=>rw[e]at h2;cases h2;rfl
  obtain⟨u,hu,rv⟩:=r.get ha;have hp:ps[i]? = some y:=by
   rw[<-S.pre,List.getElem?_take_of_lt (by lia)];exact h1
  have ndP:ps.Nodup:=by rw[<-S.pre];exact S.nd.sublist (List.take_sublist _ _)
  refine⟨u,rv,?_⟩;rcases S.par y (List.mem_of_getElem? hp)with k|k
  ·exact .inl ⟨k,lW ndP hp hu k⟩
  ·obtain⟨c,e⟩:=i_ (n:=s.heap.objs.size+1) k;refine .inr ⟨.inl k,c,e,?_⟩;have q:=x.cell y c e;rw[nF ndP hp hu (by show scope.names.lookup y≠_;rw[k];decide)]at q;exact q
 ·exact e0.hok.fresh (Nat.le_of_lt (x.above y c (bX h)))
 ·unfold start;show _=N.length;rw[List.length_append,bc,List.length_replicate];lia
theorem BY{CX:CXT}{P:aw}{w:av}{K:ar}{mg:Str->Option ae}{base:Heap}{k:Nat}{f:Addr}{name qual:Str}{params:Arguments}{body:List Stmt}{scope:aS}{dV kV doc pm cdv ct oc:ae}{an od:Option Addr}
  {osl:Array (Option ae)}{N ps:List Str}{sp:Sp} (lk:K.lookup f=some ⟨oc,od,.func (b7 name qual params body scope dV kV doc pm an cdv ct),osl⟩) (hcd:PySem.W.codeIn K cdv qual=true) (S:gD N ps scope)
  (len:∀vs H Q E,sp vs H Q E->vs.length=ps.length)
  (hbody:∀(A:ay) (outer:List Env) (s:af) (H:Hp) (vs:List V) (Q:VK) (E:XK),b8 k (A.deeper (envOfC qual scope s.heap.objs.size f cdv))->sp vs H Q E ->
   ∃t,PSs (dk CX P w K mg base N qual scope f cdv A outer s H E) body t/\t {nx:=λ_ H'=>Q .non H',rt:=Q} (start N vs) H) :
  eO P w K mg base CX (k+1) f (b7 name qual params body scope dV kV doc pm an cdv ct) ps sp:=by
 refine⟨len,λA outer s H args us vs Q E hr e0 hb r hsp=>?_⟩;have hl:=len _ _ _ _ hsp;have KX:K.In s.heap:=e0.mod.kin.keeps λb o e=>(e0.bs b o e).1
 have lim:s.heap.NoLimit:=e0.mod.nolimit.keeps λb o e=>(e0.bs b o e).1
 have hkind:∀y∈ps.zip us,scope.names.lookup y.1=some .local\/(scope.names.lookup y.1=some .cell/\((a_ (s.heap.objs.size+1) scope.names []).lookup y.1).isSome=true):=λ⟨n,v⟩ hy=>by
  rcases S.par n (List.of_mem_zip hy).1 with q|q
  ·exact .inl q
  ·exact .inr ⟨q,PySem.W.cellsFrom_some _ _ _ (.inl q)⟩
 refine codeAny_call_function hr.depth (KX _ _ lk) rfl S.co S.gen rfl (PySem.W.codeRec_of KX hcd) (hb _ _ _ _ ?_);refine wpAny_newFunctionEnv_cells S.kind hkind λenv he s1 x=>?_
 subst he;refine⟨lim.keeps x.toInCall.keep,codeAny_func ?_⟩;obtain⟨t,ht,hq⟩:=hbody A outer s H vs Q E (hr.deeper _) hsp;have I:Inv (dk CX P w K mg base N qual scope f cdv A outer s H E) [] (start N vs) H s1:=xH S hr.hd e0 hl r x;refine bC (ht [] s1 (start N vs) H _ I hq) (λfl s' hs=>?_) λe s' hs=>hs
 have fin:∀{σ':St}{H':Hp}{v:V}{u:ae},Inv (dk CX P w K mg base N qual scope f cdv A outer s H E) [] σ' H' s'->RelV v u->Q v H'->CE outer P w H s Q u s':=
  λ{σ' H' v u} J rv q=>⟨v,H',J.os,J.bare,J.base,J.hok,rv,q⟩
 cases fl with
 |ret u=>
  obtain⟨v,σ',H',J,rv,q⟩:=hs;exact fin J rv q
 |next=>
  obtain⟨σ',H',J,q⟩:=hs;exact fin (v:=V.non) (u:=ae.none) J rfl q
 |brk=>
  obtain⟨_,_,_,q⟩:=hs;exact aK q
 |cont=>
  obtain⟨_,_,_,q⟩:=hs;exact aK q
section
variable{X:Cx}{x:Str}{p pos:Pos}{e:Expr}{es:List Expr}{t:TA}{id T:String}{r:List V->Hp->VK->Prop}
noncomputable def tCB(r:List V->Hp->VK->Prop)(t:TA):TE:=λσ H Q=>t σ H λvs H1=>r vs H1 Q
theorem kB(hc:zh X (.builtin id) r)(hg:Gl X x)(hm:X.mg x=none)(hv:bF x=some (.builtin id))(ha:PA X (e::es) t)(hn:x≠"__name__":=by decide)(hdb:(x==("__debug__" : Str))=false:=by decide)
  (he:aO (e::es) X.env=(false,eval e X.env)::aO es X.env:=by rfl) (hpl:(backTo pos (aO es X.env)).any (·.1)=false:=by rfl):PE X (.Call (.Name x p) (e::es) [] pos) (tCB r t):=by
 intro pins s σ H Q I h;refine wpAny_Call_Name_kw (fR I hg hm hv ?_ hn hdb);exact PyProof.Rows.callWith_builtin1 (thn (ha pos pins s σ H _ I h) λus s1 ⟨vs,H1,I1,r1,q1⟩=>hc pins s1 σ H1 vs us Q I1 r1 q1) he hpl
theorem wM(hc:zh X (.type T) r)(hg:Gl X x)(hm:X.mg x=none)(hv:bF x=some (.type T))(ha:PA X (e::es) t)(hn:x≠"__name__":=by decide)(hdb:(x==("__debug__" : Str))=false:=by decide)
  (he:aO (e::es) X.env=(false,eval e X.env)::aO es X.env:=by rfl) (hpl:(backTo pos (aO es X.env)).any (·.1)=false:=by rfl):PE X (.Call (.Name x p) (e::es) [] pos) (tCB r t):=by
 intro pins s σ H Q I h;refine wpAny_Call_Name_kw (fR I hg hm hv ?_ hn hdb);exact PyProof.Rows.callWith_type1 (thn (ha pos pins s σ H _ I h) λus s1 ⟨vs,H1,I1,r1,q1⟩=>hc pins s1 σ H1 vs us Q I1 r1 q1) he hpl
end
end L2
namespace HT
open PySem PyProof.Rows
noncomputable def lexLt:List Int->List Int->Bool
 | [],[]=>false
 | [],_::_=>true
 |_::_,[]=>false
 |x::xs,y::ys=>if x=y then lexLt xs ys else decide (x<y)
theorem kO(x y:Int)(xs ys:List Int):lexLt (x::xs) (y::ys)=if x=y then lexLt xs ys else decide (x<y):=rfl
theorem kU:lexLt [] []=false:=rfl
theorem mB(y:Int)(ys:List Int):lexLt [] (y::ys)=true:=rfl
theorem nI(x:Int)(xs:List Int):lexLt (x::xs) []=false:=rfl
theorem Bd(A:ay)(s:af)(a:Int)(t:Tok)(c:Int)(u:Tok):∃e,SeqAt.EqAt A s (.int a t) (.int c u) e/\(e=true↔a=c):=
 ⟨(a==c),SeqAt.EqAt.int_int a t c u,by simp⟩
theorem tQ(A:ay)(s:af)(a:Int)(t:Tok)(c:Int)(u:Tok)(prog:aw)(w:av)(E:ae->af->Prop)(Q:ae->af->Prop)(h:Q (.bool (decide (a<c))) s) :
  ak (ah prog w) A (richCompare .Lt (.int a t) (.int c u)) Q E s:=
 (PyProof.Rows.lt_int h:ak (ah prog w) A (aV .Lt (.int a t) (.int c u)) Q E s)
section
open PySem.SeqAt
open PySem.AutoSeq1 (wpAny_loadPart')
open PySem.MeetsSeq PySem.MeetsSeq2 PySem.MeetsSeq3
theorem mS(l b:Addr)(items items2:Array ae)(n n2:Nat)(dd dd2:Option Addr)(sl sl2:Array (Option ae))(ns ms:List Int)(hi:aY items.toList ns)(hj:aY items2.toList ms) :
  Meets (Builtin.«tuple.__lt__» ⟨[.ref l,.ref b],[]⟩)
   (λ_ R s=>s.heap.get? l=some {cls:=.type "tuple",dict:=dd,data:=.seq items n,slots:=sl}/\s.heap.get? b=some {cls:=.type "tuple",dict:=dd2,data:=.seq items2 n2,slots:=sl2} /\
    R (.ok (.ret (.bool (lexLt ns ms)))) s):=
 .of_wp λprog w A R s h=>by
  obtain⟨hp,g,d,tk,os⟩:=s;obtain⟨hl,hb,h⟩:=h;have f2:=AutoSeq1.sub_tuple_tuple;have z1:items.size=ns.length:=by rw[<-hi.length];simp
  have z2:items2.size=ms.length:=by rw[<-hj.length];simp
  wp_walk using wpAny_loadPart' hl,wpAny_loadPart' hb,wpAny_forIn_list _ (λrest b s'=>b.1=none/\s'=⟨hp,g,d,tk,os⟩/\∃(vs ws:List ae) (ns' ms':List Int),rest=vs.zip ws /\
   aY vs ns'/\aY ws ms'/\ns'.length+items2.size=ms'.length+items.size/\R (.ok (.ret (.bool (lexLt ns' ms')))) ⟨hp,g,d,tk,os⟩) _
  case turn=>
   rintro⟨y,x⟩ rest b s' ⟨hb',rfl,vs,ws,ns',ms',hz,hvi,hwi,hlen,hR⟩;cases hvi with
   |nil=>rw[List.zip_nil_left]at hz;cases hz
   |cons a t hvi'=>
    cases hwi with
    |nil=>rw[List.zip_nil_right]at hz;cases hz
    |cons c u hwi'=>
     rw[List.zip_cons_cons]at hz;injection hz with hyx hrest
     injection hyx with hy hx
     subst hy hx;rw[kO]at hR;simp only[List.length_cons]at hlen;obtain⟨e,he,hiff⟩:=Bd A.in1 ⟨hp,g,d,tk,os⟩ a t c u;refine ao (he prog w _ _ ?_);cases e with
     |true=>
      rw[if_pos (hiff.mp rfl)]at hR
      wp_walk
      exact⟨rfl,rfl,_,_,_,_,hrest,hvi',hwi',by lia,hR⟩
     |false=>
      rw[if_neg (λq=>absurd (hiff.mpr q) bY)]at hR;have hri:=tQ A.in1 ⟨hp,g,d,tk,os⟩ a t c u prog w
      wp_walk using hri
      exact⟨_,rfl,by simpa using hR⟩
  case fin=>
   rintro⟨b1,b2⟩ s' ⟨hb',rfl,vs,ws,ns',ms',hz,hvi,hwi,hlen,hR⟩;simp only at hb';subst hb';have hv:lexLt ns' ms'=decide (items.size<items2.size):=by
    cases hvi with
    |nil=>
     cases hwi with
     |nil=>
      simp only[List.length_nil]at hlen;rw[kU];exact(decide_eq_false (by lia)).symm
     |cons c u hw=>
      simp only[List.length_nil,List.length_cons]at hlen;rw[mB];exact(decide_eq_true (by lia)).symm
    |cons a t hv=>
     cases hwi with
     |nil=>
      simp only[List.length_nil,List.length_cons]at hlen;rw[nI];exact(decide_eq_false (by lia)).symm
     |cons c u hw=>
      rw[List.zip_cons_cons]at hz;cases hz
   rw[hv]at hR
   wp_walk
   exact⟨_,rfl,by simpa[Builtin.Tuple.tupleCompareSizes]using hR⟩
  case h=>
   exact⟨rfl,rfl,items.toList,items2.toList,ns,ms,rfl,hi,hj,by lia,h⟩
end
section
variable{prog:aw}{w:av}{A:ay}{E:ae->af->Prop}{s:af}
theorem p6{l b:Addr}{items items2:Array ae}{ns ms:List Int}{Q:ae->af->Prop}(hl:IsTup s.heap l items)(hb:IsTup s.heap b items2)(hi:aY items.toList ns)(hj:aY items2.toList ms)
  (hu:A.units<cLine) (h:Q (.bool (lexLt ns ms)) s):ak (ah prog w) A (aV .Lt (.ref l) (.ref b)) Q E s:=by
 obtain⟨⟨cls,dd,data,sl⟩,ho,hc,n,hd⟩:=id hl;obtain⟨⟨cls2,dd2,data2,sl2⟩,ho2,hc2,n2,hd2⟩:=id hb;simp only at hc hd hc2 hd2;subst hc hd hc2 hd2;exact richCompare_meets_room (op:=.Lt) ⟨_,ho,rfl⟩ ⟨_,ho2,rfl⟩ PySem.F.slot_tuple_lt PySem.F.entry_tuple_lt (PySem.F.args_tuple_lt_2 _ _) (mS l b items items2 n n2 dd dd2 sl sl2 ns ms hi hj)
  ⟨ho,ho2,show ae.bool (lexLt ns ms)≠ae.notImplemented/\Q (.bool (lexLt ns ms)) s from ⟨(λx=>nomatch x),h⟩⟩ hu
theorem AL{t b:Addr}{vs ws:List ae}{Q:ae->af->Prop}(ht:IsTup s.heap t vs.toArray)(hb:IsTup s.heap b ws.toArray)(hv:vs≠[])
  (h1:ws=[]->Q (.ref t) s) (h2:ws≠[]->Q (.ref s.heap.objs.size) {s with heap:=s.heap.push {cls:=.type "tuple",data:=.seq (vs++ws).toArray}})
  (hsz:vs.length+ws.length<=aH):ak (ah prog w) A (bz .Add (.ref t) (.ref b)) Q E s:=by
 obtain⟨⟨cls,dd,data,sl⟩,ho,hc,n,hd⟩:=id ht;obtain⟨⟨cls2,dd2,data2,sl2⟩,ho2,hc2,n2,hd2⟩:=id hb;simp only at hc hd hc2 hd2;subst hc hd hc2 hd2;have e:vs.toArray++ws.toArray=(vs++ws).toArray:=by simp
 by_cases hw:ws=[]
 ·exact concat_meets ⟨_,ho,rfl⟩ ⟨_,ho2,rfl⟩ noFill_tuple_add seq_tuple_add PySem.F.slot_tuple_add PySem.F.entry_tuple_add (PySem.F.args_tuple_add_2 _ _)
   (tuple_addW1 t b vs.toArray ws.toArray n n2 dd dd2 sl sl2 (by simpa using hv) (by simp[hw])) ⟨ho,ho2,h1 hw⟩
 ·refine concat_meets ⟨_,ho,rfl⟩ ⟨_,ho2,rfl⟩ noFill_tuple_add seq_tuple_add PySem.F.slot_tuple_add PySem.F.entry_tuple_add (PySem.F.args_tuple_add_2 _ _)
   (tuple_addW2 t b vs.toArray ws.toArray n n2 dd dd2 sl sl2 (by simpa using hv) (by simpa using hw) (by rw[aW,aW];exact hsz)) ⟨ho,ho2,?_⟩
  rw[e];exact h2 hw
noncomputable def sIx(n d:Nat):Option Int->Nat
 |none=>d
 |some v=>if v<0 then (v+(n:Int)).toNat else min v.toNat n
end
end HT
namespace L2
open PySem PySem.Spec PyProof.Rows
abbrev TO:=St->Hp->(Option Int->Hp->Prop)->Prop
noncomputable def PO(X:Cx)(e:Option Expr)(t:TO):Prop:=
 ∀(pins:List (Addr×Obj)) (s:af) (σ:St) (H:Hp) (Q:Option Int->Hp->Prop),Inv X pins σ H s->t σ H Q ->
  ak (ah X.prog X.w) X.A (evalPart e X.env) (λu s'=>∃o H',Inv X pins σ H' s'/\IsPart u o/\Q o H') X.xe s
noncomputable def xx:TO:=λ_ H Q=>Q none H
noncomputable def sv(t:TE):TO:=λσ H Q=>t σ H λx H1=>∃i,x=.int i/\Q (some i) H1
theorem intsAre_of{ns:List Int}:∀{us:List ae},Vals (ns.map V.int) us->aY us ns:=by
 induction ns with
 |nil=>intro us r;rw[List.map_nil]at r;cases r;exact .nil
 |cons n ns ih=>
  intro us r;rw[aU]at r;cases r with
  |cons r1 r2=>
   obtain⟨t,e⟩:=r1;subst e;exact .cons n t (ih r2)
section
variable{X:Cx}{e:Expr}{te:TE}{lo hi:Option Expr}{tl th:TO}{pos p2:Pos}
theorem rL:PO X none xx:=by
 intro pins s σ H Q I h;rw[evalPart_none];exact aC ⟨none,H,I,.none,h⟩
theorem AB(h:PE X e te):PO X (some e) (sv te):=by
 intro pins s σ H Q I hw;rw[evalPart_some];refine thn (h pins s σ H _ I hw) λu s1 ⟨x,H1,I1,r1,q1⟩=>?_
 obtain⟨i,rfl,q⟩:=q1;obtain⟨t,rfl⟩:=r1;exact⟨some i,H1,I1,.int i t,q⟩
noncomputable def SlR(X:Cx)(r:V->Option Int->Option Int->Hp->VK->Prop):Prop:=
 ∀(pins:List (Addr×Obj)) (s:af) (σ:St) (H:Hp) (x:V) (v vl vu:ae) (lo hi:Option Int) (sl:Addr) (Q:VK),Inv X pins σ H s->RelV x v->s.heap.IsSliceOf sl vl vu .none->IsPart vl lo->IsPart vu hi->r x lo hi H Q ->
  ∃T id,typeLookup (.type T) "__getitem__" = pure (some (.builtin id))/\s.TypeIs v T/\ak (ah X.prog X.w) X.A (getItem v (.ref sl)) (EP X pins σ Q) X.xe s
noncomputable def tSl(r:V->Option Int->Option Int->Hp->VK->Prop)(te:TE)(tl th:TO):TE:=λσ H Q=>te σ H λx H1=>tl σ H1 λl H2=>th σ H2 λu H3=>r x l u H3 Q
theorem t8{r:V->Option Int->Option Int->Hp->VK->Prop}(hr:SlR X r)(he:PE X e te)(hl:PO X lo tl)(hu:PO X hi th):PE X (.Subscript e (.Slice lo hi none p2) pos) (tSl r te tl th):=by
 intro pins s σ H Q I h;refine Subscript_ (thn (he pins s σ H _ I h) λv s1 ⟨x,H1,I1,r1,q1⟩=>?_);refine wpAny_Slice (thn (hl pins s1 σ H1 _ I1 q1) λvl s2 ⟨l,H2,I2,pl,q2⟩=>thn (hu pins s2 σ H2 _ I2 q2) λvu s3 ⟨u,H3,I3,pu,q3⟩=>?_);rw[evalPart_none];refine aC ?_;have I4:Inv X pins σ H3 {s3 with heap:=s3.heap.push {cls:=.type "slice",data:=.fields #[vl,vu,.none]}}:=I3.kept (t':=s3.toks) λb ob q=>Heap.get?_push_of_some _ q
 obtain⟨T,id,hT,ht,hg⟩:=hr pins {s3 with heap:=s3.heap.push {cls:=.type "slice",data:=.fields #[vl,vu,.none]}} σ H3 x v vl vu l u s3.heap.objs.size Q I4 r1 (Heap.IsSliceOf.new ..) pl pu q3;show ak (ah X.prog X.w) X.A (subscriptTail e (.Slice lo hi none p2) v (.ref s3.heap.objs.size)) (EP X pins σ Q) X.xe {s3 with heap:=s3.heap.push {cls:=.type "slice",data:=.fields #[vl,vu,.none]}};exact tail_any (ops:=[.ref s3.heap.objs.size,v]) ht hT hg (by with_unfolding_all rfl)
noncomputable def fQ(xs:List V)(lo hi:Option Int):List V:=(xs.drop (HT.sIx xs.length 0 lo)).take (HT.sIx xs.length xs.length hi-HT.sIx xs.length 0 lo)
theorem yB(xs:List V)(lo hi:Option Int):(fQ xs lo hi).length<=xs.length:=by
 unfold fQ;rw[List.length_take,List.length_drop];lia
noncomputable def yq(K:ar):R2:=λx y H Q=>∃a b ns ms,x=.ref a/\y=.ref b/\SqT K H a (ns.map V.int)/\SqT K H b (ms.map V.int)/\Q (.bl (HT.lexLt ns ms)) H
theorem pE(hu:X.A.units<cLine):OpR X (aV .Lt) (yq X.K):=by
 intro pins s σ H x y v u Q I rx ry h;obtain⟨a,b,ns,ms,rfl,rfl,ha,hb,q⟩:=h;cases rx;cases ry;obtain⟨its,r1,p1,_⟩:=I.tuple ha;obtain⟨its2,r2,p2,_⟩:=I.tuple hb;have i1:aY its.toArray.toList ns:=intsAre_of r1;have i2:aY its2.toArray.toList ms:=intsAre_of r2;exact HT.p6 p1 p2 i1 i2 hu ⟨.bl (HT.lexLt ns ms),H,I,rfl,q⟩
noncomputable def wj(K:ar):R2:=λx y H Q=>∃a b xs ys,x=.ref a/\y=.ref b/\SqT K H a xs/\SqT K H b ys/\xs≠[]/\xs.length+ys.length<=aH /\
 (ys=[]->Q (.ref a) H)/\(ys≠[]->∀p,H p=none->Q (.ref p) (upd H p (.tup (xs++ys))))
theorem Vals.nil_iff{xs:List V}{us:List ae}(r:Vals xs us):us=[]↔xs=[]:=by
 cases r with
 |nil=>simp
 |cons _ _=>simp
theorem pP:OpR X (bz .Add) (wj X.K):=by
 intro pins s σ H x y v u Q I rx ry h;obtain⟨a,b,xs,ys,rfl,rfl,ha,hb,hx,hz,q1,q2⟩:=h;cases rx;cases ry;obtain⟨its,r1,p1,_⟩:=I.tuple ha;obtain⟨its2,r2,p2,_⟩:=I.tuple hb;refine HT.AL p1 p2 (λz=>hx (r1.nil_iff.mp z)) (λz=>⟨.ref a,H,I,rfl,q1 (r2.nil_iff.mp z)⟩) (λz=>?_) (by rw[<-r1.length,<-r2.length];exact hz);refine⟨.ref s.heap.objs.size,_,I.laid (t':=s.toks) (o:=.tup (xs++ys)) (λb ob q=>Heap.get?_push_of_some _ q) (aI _) ?_,rfl,q2 (λw=>z (r2.nil_iff.mpr w)) _ (I.hok.fresh (aI _))⟩;exact⟨by rw[List.length_append];exact hz,_,r1.append r2,IsTup.new _ _⟩
end
noncomputable def ixN(n:Nat)(i:Int):Option Nat:=if 0<=i then (if i<n then some i.toNat else none)else if -(n:Int)<=i then some (i+n).toNat else none
noncomputable def atI{α:Type}(xs:List α)(i:Int):Option α:=(ixN xs.length i).bind λj=>xs[j]?
theorem ou{n:Nat}{i:Int}{j:Nat}(h:ixN n i=some j):seqIndex? i n=some j/\j<n/\-(n:Int)<=i/\i<n:=by
 unfold ixN at h;by_cases h0:0<=i
 ·rw[if_pos h0]at h;by_cases h1:i<n
  ·rw[if_pos h1]at h;have e:i.toNat=j:=bJ h;exact⟨by rw[seqIndex_of h0 h1,e],by lia,by lia,h1⟩
  ·rw[if_neg h1]at h;cases h
 ·rw[if_neg h0]at h;by_cases h1:-(n:Int)<=i
  ·rw[if_pos h1]at h;have e:(i+n).toNat=j:=bJ h;exact⟨by rw[seqIndex_neg (by lia) h1,e],by lia,h1,by lia⟩
  ·rw[if_neg h1]at h;cases h
theorem n9{α:Type}{xs:List α}{i:Int}{v:α}(h:atI xs i=some v):∃j,seqIndex? i xs.length=some j/\xs[j]? = some v/\j<xs.length/\-(xs.length:Int)<=i/\i<xs.length:=by
 unfold atI at h;cases e:ixN xs.length i with
 |none=>rw[e]at h;cases h
 |some j=>
  rw[e]at h;obtain⟨h1,h2,h3,h4⟩:=ou e;exact⟨j,h1,h,h2,h3,h4⟩
noncomputable def oG(b:Expr):Prop:=∀o i,subscripted b false o i=operate [o,i] (getItem o i)
noncomputable def IxR(X:Cx)(r:R2):Prop:=
 ∀(value slice:Expr) (pins:List (Addr×Obj)) (s:af) (σ:St) (H:Hp) (x y:V) (v u:ae) (Q:VK),Inv X pins σ H s->RelV x v->RelV y u->r x y H Q ->
  subscripted slice false v u=operate [v,u] (getItem v u)->ak (ah X.prog X.w) X.A (subscriptTail value slice v u) (EP X pins σ Q) X.xe s
noncomputable def MtR(X:Cx)(id:String)(r:V->List V->Hp->VK->Prop):Prop:=
 ∀(pins:List (Addr×Obj)) (s:af) (σ:St) (H:Hp) (x:V) (xs:List V) (v:ae) (us:List ae) (Q:VK),Inv X pins σ H s->RelV x v->Vals xs us->r x xs H Q ->
  ak (ah X.prog X.w) X.A (call (.builtin id) (v::us)) (EP X pins σ Q) X.xe s
section
variable{X:Cx}{a b:Expr}{ta tb:TE}{pos:Pos}
theorem IxR.or{r r':R2}(h:IxR X r)(h':IxR X r'):IxR X (λx y H Q=>r x y H Q\/r' x y H Q):=by
 intro value slice pins s σ H x y v u Q I rx ry q hs;rcases q with q|q
 ·exact h value slice pins s σ H x y v u Q I rx ry q hs
 ·exact h' value slice pins s σ H x y v u Q I rx ry q hs
theorem A3{r:R2}(hr:IxR X r)(ha:PE X a ta)(hb:PE X b tb)(hs:oG b):PE X (.Subscript a b pos) (tOp r ta tb):=by
 intro pins s σ H Q I h;exact Subscript_ (jr ha hb I h λv u s2 x y H2 I2 rx ry q=>hr a b pins s2 σ H2 x y v u Q I2 rx ry q (hs _ _))
noncomputable def o3(K:ar):R2:=λx y H Q=>∃p xs i v,x=.ref p/\y=.int i/\SqL K H p xs/\atI xs i=some v/\Q v H
noncomputable def nr(K:ar):R2:=λx y H Q=>∃p xs i v,x=.ref p/\y=.int i/\SqT K H p xs/\atI xs i=some v/\Q v H
theorem vD:IxR X (o3 X.K):=by
 intro value slice pins s σ H x y v u Q I rx ry h hs;obtain⟨p,xs,i,z,rfl,rfl,hq,he,q⟩:=h;cases rx;obtain⟨t,rfl⟩:=ry;obtain⟨its,r,pl,hz⟩:=I.list hq;obtain⟨j,h1,h2,h3,h4,h5⟩:=n9 he;obtain⟨w,ew,rw'⟩:=r.get h2;have hl:=r.length;have hn:=gw;have fin:EP X pins σ Q w s:=⟨z,H,I,rw',q⟩
 by_cases h0:0<=i
 ·have hj:i.toNat=j:=by
   rw[seqIndex_of h0 h5]at h1;exact bJ h1
  exact item_listR pl.isList h0 (by lia) (by rw[hj];simpa using ew) fin hs
 ·have hj:(i+(its.toArray.size:Int)).toNat=j:=by
   rw[seqIndex_neg (by lia) h4]at h1;rw[aW,<-hl];exact bJ h1
  exact subscriptTail_builtinR (x:=w) pl.isList.typeIs slot_list_getitem.lookup
   (wpAny_getItem_list_neg (Q:=λr s'=>r=w/\EP X pins σ Q r s') pl.isList (by lia) (by rw[aW]<;>lia) (by lia) (by rw[hj];simpa using ew) ⟨rfl,fin⟩) hs
theorem vU:IxR X (nr X.K):=by
 intro value slice pins s σ H x y v u Q I rx ry h hs;obtain⟨p,xs,i,z,rfl,rfl,hq,he,q⟩:=h;cases rx;obtain⟨t,rfl⟩:=ry;obtain⟨its,r,pl,hz⟩:=I.tuple hq;obtain⟨j,h1,h2,h3,h4,h5⟩:=n9 he;obtain⟨w,ew,rw'⟩:=r.get h2;have hl:=r.length;have hn:=gw;have fin:EP X pins σ Q w s:=⟨z,H,I,rw',q⟩
 exact subscriptTail_builtinR (x:=w) pl.typeIs slot_tuple_getitem.lookup
  (getItem_tuple (j:=j) (Q:=λr s'=>r=w/\EP X pins σ Q r s') pl (by lia) (by lia) (by rw[aW,<-hl];exact h1) (by simpa using ew) ⟨rfl,fin⟩) hs
theorem si(its:List ae)(n j:Nat)(u:ae):a7 (·.setIfInBounds j u) {cls:=.type "list",data:=.seq its.toArray n}={cls:=.type "list",data:=.seq (its.set j u).toArray n}:=by
 simp[a7]
theorem Inv.lst{pins:List (Addr×Obj)}{σ:St}{H:Hp}{s:af}{p:Addr}{xs:List V}(I:Inv X pins σ H s)(h:H p=some (.lst xs)) :
  ∃(its:List ae) (n:Nat),Vals xs its/\s.heap.get? p=some {cls:=.type "list",data:=.seq its.toArray n}/\xs.length<=sizeLine:=by
 obtain⟨z,its,n,r,e⟩:=I.hok p _ h;exact⟨its,n,r,e,z⟩
theorem Inv.lstUpd{pins:List (Addr×Obj)}{σ:St}{H:Hp}{s:af}{p:Addr}{xs ys:List V}{its its':List ae}{n n':Nat}{f:Obj->Obj}(I:Inv X pins σ H s)(h:H p=some (.lst xs))
  (ho:s.heap.get? p=some {cls:=.type "list",data:=.seq its.toArray n}) (hf:f {cls:=.type "list",data:=.seq its.toArray n}={cls:=.type "list",data:=.seq its'.toArray n'}) (r:Vals ys its') (hz:ys.length<=aH) (t:Nat) :
  Inv X pins σ (upd H p (.lst ys)) {s with heap:=s.heap.update p f,toks:=t}:=by
 have e:(s.heap.update p f).get? p=some {cls:=.type "list",data:=.seq its'.toArray n'}:=by
  rw[Heap.get?_update_self f ho (by rw[hf]<;>rfl),hf]
 refine I.write (x:=p) (e:=p) (by rw[h];trivial) (.inl rfl) (λb u hb q=>(Heap.get?_update_other _ _ (Ne.symm hb)).trans q) ⟨_,e⟩ ?_;exact⟨hz,its',n',r,e⟩
noncomputable def kL:V->V->V->Hp->(Hp->Prop)->Prop:=λo i v H Q=>∃p xs k j,o=.ref p/\i=.int k/\H p=some (.lst xs)/\ixN xs.length k=some j/\Q (upd H p (.lst (xs.set j v)))
theorem set_list:fB X kL:=by
 intro pins s σ H o i v ov iv u Q I ro ri rv h;obtain⟨p,xs,k,j,rfl,rfl,hp,hj,q⟩:=h;cases ro;obtain⟨t,rfl⟩:=ri;obtain⟨its,n,r,ho,hz⟩:=I.lst hp;obtain⟨h1,h2,h3,h4⟩:=ou hj;have hl:=r.length;have hn:=gw;have I':Inv X pins σ (upd H p (.lst (xs.set j v))) {s with heap:=s.heap.update p (a7 (·.setIfInBounds j u))}:=
  I.lstUpd hp ho (si its n j u) (r.set rv j) (by rw[List.length_set];exact hz) s.toks
 by_cases h0:0<=k
 ·have hk:k.toNat=j:=by
   rw[seqIndex_of h0 h4]at h1;exact bJ h1
  exact PySem.W.ki_setAt ho h0 (by lia) (by rw[aW,<-hl];exact h4) (by rw[hk];exact⟨_,I',q⟩)
 ·have hk:(k+(its.toArray.size:Int)).toNat=j:=by
   rw[seqIndex_neg (by lia) h3]at h1;rw[aW,<-hl];exact bJ h1
  exact PySem.W.ki_setBack ho (by lia) (by rw[aW,<-hl];exact h3) (by lia) (by rw[hk];exact⟨_,I',q⟩)
theorem Be(lo hi:Option Int)(n:Nat):(sliceBounds lo hi none n).1=((HT.sIx n 0 lo:Nat):Int)/\(sliceBounds lo hi none n).2.1=((HT.sIx n n hi:Nat):Int)/\(sliceBounds lo hi none n).2.2=1:=by
 refine⟨?_,?_,rfl⟩
 ·cases lo with
  |none=>simp[sliceBounds,HT.sIx]
  |some i=>
   simp only[sliceBounds,HT.sIx,Option.getD_none,show (1:Int)>0 by decide,if_true];by_cases h:i<0
   ·simp only[h,if_true]<;>lia
   ·simp only[h,if_false]<;>lia
 ·cases hi with
  |none=>simp[sliceBounds,HT.sIx]
  |some i=>
   simp only[sliceBounds,HT.sIx,Option.getD_none,show (1:Int)>0 by decide,if_true];by_cases h:i<0
   ·simp only[h,if_true]<;>lia
   ·simp only[h,if_false]<;>lia
theorem Ag(its:List ae)(lo hi:Option Int):slicePick its.toArray lo hi none=((its.drop (HT.sIx its.length 0 lo)).take (HT.sIx its.length its.length hi-HT.sIx its.length 0 lo)).toArray:=by
 obtain⟨h1,h2,h3⟩:=Be lo hi its.toArray.size;unfold slicePick;rw[h1,h2,h3];simp only[sliceRange_one,pick_run,aW]<;>rfl
noncomputable def yz(K:ar):V->Option Int->Option Int->Hp->VK->Prop:=λx lo hi H Q=>∃a xs,x=.ref a/\SqL K H a xs/\∀p,H p=none->Q (.ref p) (upd H p (.lst (fQ xs lo hi)))
theorem B_:SlR X (yz X.K):=by
 intro pins s σ H x v vl vu lo hi sl Q I rx hs pl pu h;obtain⟨a,xs,rfl,hx,q⟩:=h;cases rx;obtain⟨its,r,ht,hz⟩:=I.list hx;have hlen:=r.length;refine⟨"list",_,slot_list_getitem.lookup,ht.isList.typeIs,?_⟩;refine wpAny_getItem_list_slice ht.isList hs pl pu .none (by simp) ?_ (by rw[aW]<;>lia);rw[Ag,<-hlen];refine⟨.ref s.heap.objs.size,_,I.laid (t':=s.toks) (o:=.lst (fQ xs lo hi)) (λb ob q=>Heap.get?_push_of_some _ q) (aI _) ?_,rfl,q _ (I.hok.fresh (aI _))⟩;exact⟨bp (yB xs lo hi) hz,_,0,(r.drop (HT.sIx xs.length 0 lo)).take (HT.sIx xs.length xs.length hi-HT.sIx xs.length 0 lo),Heap.get?_push_size _ rfl⟩
theorem wz:zh X (.builtin "len") (λxs H Q=>∃p ys,xs=[.ref p]/\(SqL X.K H p ys\/SqT X.K H p ys)/\Q (.int ys.length) H):=by
 intro pins s σ H xs us Q I r h;obtain⟨p,ys,rfl,hq,q⟩:=h;obtain⟨u,rfl,rx⟩:=vals1 r;cases rx;have hn:=gw;rcases hq with hq|hq
 ·obtain⟨its,r',pl,hz⟩:=I.list hq;have hlen:=r'.length;exact Calls.call_len_list pl.isList (by simp only[aW]<;>lia) ⟨.int ys.length,H,I.tok _,⟨s.toks+1,by rw[aW,hlen]⟩,q⟩
 ·obtain⟨its,r',pl,hz⟩:=I.tuple hq;have hlen:=r'.length;exact len_tuple pl (by simp only[aW]<;>lia) ⟨.int ys.length,H,I.tok _,⟨s.toks+1,by rw[aW,hlen]⟩,q⟩
theorem zh.or{f:ae}{r r':List V->Hp->VK->Prop}(h:zh X f r)(h':zh X f r'):zh X f (λxs H Q=>r xs H Q\/r' xs H Q):=by
 intro pins s σ H xs us Q I rs q;rcases q with q|q
 ·exact h pins s σ H xs us Q I rs q
 ·exact h' pins s σ H xs us Q I rs q
theorem yc:zh X (.type "tuple") (λxs H Q=>∃p ys,xs=[.ref p]/\((SqL X.K H p ys/\∀l,H l=none->Q (.ref l) (upd H l (.tup ys)))\/(SqT X.K H p ys/\Q (.ref p) H))):=by
 intro pins s σ H xs us Q I r h;obtain⟨p,ys,rfl,h⟩:=h;obtain⟨u,rfl,rx⟩:=vals1 r;cases rx;rcases h with ⟨hq,q⟩|⟨hq,q⟩
 ·obtain⟨its,r',pl,hz⟩:=I.list hq;have hlen:=r'.length;refine call_tuple_list pl.isList (λh' kp=>?_) (by simp only[aW]<;>lia);have I1:Inv X pins σ H {s with heap:=h'}:=I.kept (t':=s.toks) kp;have I2:Inv X pins σ (upd H h'.objs.size (.tup ys)) {s with heap:=h'.push {cls:=.type "tuple",data:=.seq its.toArray}}:=
   I1.laid (t':=s.toks) (λb o e=>Heap.get?_push_of_some _ e) (aI _) (show zN X.prog X.w _ _ _ (.tup ys)from ⟨hz,its,r',IsTup.new _ _⟩)
  exact⟨.ref h'.objs.size,_,I2,rfl,q _ (I1.hok.fresh (aI _))⟩
 ·obtain⟨its,r',pl,hz⟩:=I.tuple hq;exact call_tuple_same pl ⟨.ref p,H,I,rfl,q⟩
noncomputable def tyV(K:ar)(T:String)(x:V)(H:Hp):Prop:=match x with
 | .str _=>T = "str"
 | .int _=>T = "int"
 | .ref p=>(T = "list"/\∃xs,SqL K H p xs)\/(T = "tuple"/\∃o,K.lookup p=some o/\o.cls=.type "tuple"/\o.dict=none) \/
   (T = "dict"/\((∃kvs,H p=some (.dK kvs))\/∃kvs,H p=some (.dT kvs)))\/(T = "set"/\∃S n,H p=some (.set S n))
 |_=>False
theorem wH{pins:List (Addr×Obj)}{σ:St}{H:Hp}{s:af}{T:String}{x:V}{v:ae}(I:Inv X pins σ H s)(r:RelV x v)(ty:tyV X.K T x H) :
  s.TypeIs v T/\∀a,v=.ref a->∃ob,s.heap.get? a=some ob/\ob.dict=none:=by
 cases x with
 |str z=>
  obtain⟨t,rfl⟩:=r;cases (show T = "str" from ty);exact⟨typeIs_str s z t,λ_ e=>nomatch e⟩
 |int i=>
  obtain⟨t,rfl⟩:=r;cases (show T = "int" from ty);exact⟨typeIs_int s i t,λ_ e=>nomatch e⟩
 |ref p=>
  cases r;rcases ty with ⟨rfl,xs,hq⟩|⟨rfl,o,hk,hc,hd⟩|⟨rfl,hk⟩|⟨rfl,S,n,hk⟩
  ·obtain⟨its,_,pl,_⟩:=I.list hq;refine⟨pl.isList.typeIs,λa e=>?_⟩;cases e;obtain⟨o,n,e,c,hd,_⟩:=pl;exact⟨o,e,hd⟩
  ·refine⟨⟨o,I.kIn p o hk,hc⟩,λa e=>?_⟩;cases e;exact⟨o,I.kIn _ o hk,hd⟩
  ·have z:∃o,s.heap.get? p=some o/\o.ExactDict:=by
    rcases hk with ⟨kvs,hk⟩|⟨kvs,hk⟩
    ·obtain⟨_,_,_,_,o,_,_,e,ex,_⟩:=I.hok p _ hk;exact⟨o,e,ex⟩
    ·obtain⟨_,_,_,_,o,_,_,e,ex,_⟩:=I.hok p _ hk;exact⟨o,e,ex⟩
   obtain⟨o,e,ex⟩:=z;refine⟨⟨o,e,ex.1⟩,λa e2=>?_⟩;cases e2;exact⟨o,e,ex.2.1⟩
  ·obtain⟨o,_,_,_,e,ex,_⟩:=I.hok p _ hk;refine⟨⟨o,e,ex.1⟩,λa e2=>?_⟩;cases e2;exact⟨o,e,ex.2.1⟩
 |_=>exact aK ty
noncomputable def tBM(K:ar)(T:String)(r:V->List V->Hp->VK->Prop)(to:TE)(t:TA):TE:=λσ H Q=>to σ H λx H1=>tyV K T x H1/\t σ H1 λxs H2=>r x xs H2 Q
variable{o e:Expr}{es:List Expr}{to:TE}{t:TA}{name:Str}{apos cpos:Pos}{T id:String}{r:V->List V->Hp->VK->Prop}
theorem Bt(pa:PlainAttrs T)(slot:Slot T name id)(hty:typeOf (.builtin id)=pure (.type "method_descriptor"))(hm:MtR X id r)(ho:PE X o to)(ha:PA X (e::es) t)
  (hbase:attributeBase o name X.env (eval o X.env)=eval o X.env:=by rfl)
  (hfew:((backTo cpos (aO (e::es) X.env)).all (λx=>!x.1)&&(backToKw cpos (keywordEach [] X.env)).all (λx=>x.1.isSome)
   && decide ((e::es).length+([]:List Keyword).length+(if ([]:List Keyword).isEmpty then 0 else 1)<30))=true:=by rfl)
  (hline:(apos.endLine==cpos.line)=true:=by rfl) (hs:aO (e::es) X.env=(false,eval e X.env)::aO es X.env:=by rfl) (hplain:(backTo cpos (aO es X.env)).any (·.1)=false:=by rfl) :
  PE X (.Call (.Attribute o name apos) (e::es) [] cpos) (tBM X.K T r to t):=by
 intro pins s σ H Q I h;refine wpAny_Call_method_late hbase hfew hline rfl (thn (ho pins s σ H _ I h) λv s1 ⟨x,H1,I1,r1,ty,q1⟩=>?_);obtain⟨h1,h2⟩:=wH I1 r1 ty;refine⟨T,id,pa,slot,hty,h1,h2,?_⟩;have hA:=ha cpos pins s1 σ H1 _ I1 q1;rw[hs]at hA ⊢;refine Calls.callWith_builtin (by show (false||(backTo cpos (aO es X.env)).any (·.1))=false;rw[hplain]<;>rfl) (Calls.evalArgs_plain ?_);exact thn hA λus s2 ⟨vs,H2,I2,r2,q2⟩=>hm pins s2 σ H2 x vs v us Q I2 r1 r2 q2
/- xs.append(e), list.index on a module's tuple .. are MtR facts of 06m -/
end
noncomputable def MtM(X:Cx)(id:String)(r:V->List V->Hp->VK->Prop):Prop:=
 ∀(pins:List (Addr×Obj)) (s:af) (σ:St) (H:Hp) (x:V) (xs:List V) (v:ae) (us:List ae) (Q:VK),Inv X pins σ H s->RelV x v->Vals xs us->r x xs H Q ->
  ak (ah X.prog X.w) X.A (call (.builtin id) (v::us)) (EP X pins σ Q) X.xe s
theorem Vals.one{x:V}{us:List ae}(h:Vals [x] us):∃u,us=[u]/\RelV x u:=by
 cases h with
 |cons r h=>cases h;exact⟨_,rfl,r⟩
theorem Vals.two{x y:V}{us:List ae}(h:Vals [x,y] us):∃u v,us=[u,v]/\RelV x u/\RelV y v:=by
 cases h with
 |cons r h=>cases h with
  |cons q h=>cases h;exact⟨_,_,rfl,r,q⟩
theorem Vals.zero:∀{us:List ae},Vals [] us->us=[]
 |_,.nil=>rfl
section
variable{X:Cx}{pins:List (Addr×Obj)}{σ:St}{H:Hp}{s:af}{l b:Addr}{xs ys zs:List V}
theorem Inv.lset{its its':List ae}{n:Nat}{f:Array ae->Array ae}{t':Nat}(I:Inv X pins σ H s)(hH:H l=some (.lst xs))
  (e:s.heap.get? l=some {cls:=.type "list",data:=.seq its.toArray n}) (hf:f its.toArray=its'.toArray) (hv:Vals ys its') (hz:ys.length<=aH) :
  Inv X pins σ (upd H l (.lst ys)) {s with heap:=s.heap.update l (a7 f),toks:=t'}:=by
 have q:=PySem.IsL.update e f;rw[hf]at q;refine I.write (x:=l) (e:=l) (by rw[hH];exact trivial) (.inl rfl) (λb' u hb hu=>(Heap.get?_update_other s.heap (a7 f) (Ne.symm hb)).trans hu) ⟨_,q⟩ ?_;exact⟨hz,its',_,hv,q⟩
theorem Inv.lnew{its:List ae}{t':Nat}(I:Inv X pins σ H s)(hv:Vals ys its)(hz:ys.length<=aH) :
  Inv X pins σ (upd H s.heap.objs.size (.lst ys)) {s with heap:=s.heap.push {cls:=.type "list",data:=.seq its.toArray},toks:=t'}:=
 I.laid (λ_ _ q=>Heap.get?_push_of_some _ q) (aI _) ⟨hz,its,0,hv,Heap.get?_push_size _ rfl⟩
theorem Inv.fresh(I:Inv X pins σ H s):H s.heap.objs.size=none:=I.hok.fresh (aI _)
theorem Inv.lstM(I:Inv X pins σ H s)(hH:H l=some (.lst xs)):xs.length<=aH/\∃(its:List ae) (n:Nat),Vals xs its/\xs.length=its.length/\s.heap.get? l=some {cls:=.type "list",data:=.seq its.toArray n}:=by
 obtain⟨z,its,n,r,e⟩:=I.hok l _ hH;exact⟨z,its,n,r,r.length,e⟩
end
section
variable{X:Cx}
noncomputable def BB:V->List V->Hp->VK->Prop:=λx vs H Q=>∃l xs y,x=.ref l/\vs=[y]/\H l=some (.lst xs)/\xs.length<aH/\Q .non (upd H l (.lst (xs++[y])))
theorem mY:MtM X "list.append" BB:=by
 intro pins s σ H x vs v us Q I rx rv h;obtain⟨l,xs,y,rfl,rfl,hH,hz,q⟩:=h;cases rx;obtain⟨u,rfl,ru⟩:=rv.one;obtain⟨z,its,n,r,hl,e⟩:=I.lstM hH;refine call_meets F.slot_list_append ⟨_,e,rfl⟩ F.entry_list_append (F.args_list_append_2 _ _) (PySem.list_append l its.toArray n u (by rw[aW];lia)) ⟨e,?_⟩;refine⟨.non,_,I.lset (its':=its++[u]) hH e (by simp) (r.append (.cons ru .nil)) ?_,rfl,q⟩;rw[List.length_append,List.length_singleton];lia
end
section
variable{prog:aw}{w:av}{A:ay}{E:ae->af->Prop}{s:af}
set_option maxRecDepth 100000 in
end
section
variable{X:Cx}
end
end L2
namespace Att
open PySem PySem.W PySem.Calls PyProof.Rows
theorem tX{P:Params}{h:Heap}:∀(ns:List Int) (vs:List ae),WellAll P h vs (ns.map WData.int)->aY vs ns:=by
 intro ns
 induction ns with
 |nil=>
  intro vs w;rw[List.map_nil]at w;cases w;exact .nil
 |cons n ns ih=>
  intro vs w;rw[aU]at w;cases w with
  |cons a b=>
   cases a;exact .cons _ _ (ih _ b)
theorem wA{l:OpenLaw}{n:Nat}(hn:l.most=some n){P:Params}{h:Heap}{args:List WData}{vals:List ae}
  (hpre:l.row.toRowW.claim.pre args=true) (hwl:WellAll P h vals args) :
  ∃a vs ns,vals=[a8 a]/\args=[WData.list (ns.map WData.int)]/\h.get? a=some {cls:=.type "list",data:=.seq vs.toArray}/\aY vs ns/\ns.length<=n:=by
 have hsh:WShape.hasAll [] args [.list .int]=true:=(pre_splitW hpre).1;have hc:l.pre.holds [] {args:=args}=true:=(pre_splitW hpre).2;obtain⟨d,r,rfl,h1,h2⟩:=hasAllW_cons hsh;obtain rfl:=hasAllW_nil h2;obtain⟨xs,rfl,h3⟩:=hasW_list h1;obtain⟨ns,rfl⟩:=items_int h3;have hlen:ns.length<=n:=by
  unfold OpenLaw.pre at hc;have h4:(WTm.not (.lt (.lit (.int (n:Int))) (.len (.arg 0)))).holds [] {args:=[.list (ns.map .int)]}=true:=by
   have h4:=(holds_andW hc).1;rw[hn]at h4;exact h4
  have h5:=condW_of h4 (w_not (w_lt w_lit (w_len_list (w_arg rfl))));rw[bc]at h5;refine Nat.le_of_not_lt λq=>?_
  have q':(n:Int)<((ns.length:Nat):Int):=by lia
  first
   | (rw[decide_eq_true q']at h5;exact absurd h5 (by decide))
   | (simp at h5;lia)
 cases hwl with
 |cons w1 w2=>
  cases w2;cases w1 with
  |list ho hall=>exact⟨_,_,ns,rfl,rfl,ho,tX ns _ hall,hlen⟩
theorem yu(l:OpenLaw)(args:List WData):l.row.toRowW.claim.post args (.bool true) args=true:=
 postW_of (r:=l.row.toRowW) (X:=(true==true))
  (show WShape.has [] (.bool true) .bool=true by first|rfl|decide|simp[WShape.has,WShape.arms,WShape.armsAll])
  (show (WTm.eq .res (.lit (.bool true))).value [] {args:=args,res:=some (.bool true),after:=args}=some (.bool (true==true))from w_eq_bool (w_res rfl) w_lit) rfl
theorem pd{l:OpenLaw}{n:Nat}{q:aw}{loose:List Str}{XP:(Str->Option ae)->Heap->Prop}{YP:av->Heap->Prop}{d:DefRec}
  (hn:l.most=some n) (hdf:d.params.defaults=[])
  (call:∀(w:av) (s₀ s₁:af) (mg mb:Str->Option ae) (fa:Addr) (o:Obj) (pm cd doc:ae) (a:Addr) (vs:List ae) (ns:List Int),
   Ground q loose [] XP w s₀ mg mb s₁.heap->YP w s₁.heap ->
   s₁.heap.get? fa=some o->o.data=.func (docDef d.name d.params d.body d.scope pm cd doc)->s₁.heap.CodeRec cd d.name->mg d.name=some (.ref fa) ->
   s₁.heap.get? a=some {cls:=.type "list",data:=.seq vs.toArray}->aY vs ns->ns.length<=n->s₁.gens = #[] ->
   codeAny (ah l.prog w) callerA (.call (.ref fa) ⟨[.ref a],[]⟩) (λr s'=>r=.ok (.ret (.bool true))/\OldK s₁.heap s'.heap/\s'.os=s₁.os/\AllBare s'.gens) s₁) :
  WalkO q loose XP YP l.row.toRowW d [] (λf vs=>PySem.call f vs):=by
 intro w s₀ s₁ mg mb G Y fa o pm cd doc dV kV ho hd hcd hD hmg hg args vals as hpre hlay hrd hwl hlo;obtain rfl:dV=.none:=Dflts.none hD hdf;obtain rfl:kV=.none:=Dflts.noKw hD;obtain⟨a,vs,ns,rfl,rfl,hobj,hints,hlen⟩:=wA hn hpre hwl;refine enter_call (codeAny_mono (call w s₀ s₁ mg mb fa o pm cd doc a vs ns G Y ho (fd_plain hd) hcd hmg hobj hints hlen hg) λr s' hq=>?_);obtain⟨rfl,h2,h3,h4⟩:=hq;exact⟨.inl ⟨.bool true,.bool true,[],rfl,λ_=>rfl,.bool true,yu l _,λ_=>⟨List.Pairwise.nil,λ_ hm=>(nomatch hm)⟩⟩,h2,h3,h4⟩
section
variable{prog:aw}{w:av}{A:ay}{E:ae->af->Prop}{s:af}{K:Frag}
end
end Att
namespace L2
open PySem PySem.Spec PyProof.Rows
theorem mK:∀{vs:List ae}{ns:List Int},aY vs ns->Vals (ns.map V.int) vs
 |_,_,.nil=>.nil
 |_,_,.cons n t h=>.cons ⟨t,rfl⟩ (mK h)
noncomputable def jL(H:Hp):Prop:=∀b,H b=none\/∃o xs,H b=some (.frz o (.lst xs))
theorem yM{P:aw}{w:av}{K:ar}{mg mb:Str->Option ae}{CX:CXT}{k:Nat}{fa a:Addr}{fd:FuncData}{x:Str}{sp:Sp}{s₁:af}{vs:List ae}{ns:List Int}
  (KX:K.In s₁.heap) (hns:s₁.heap.Ns ax mg) (hb:s₁.heap.Ns builtinsNs mb) (hbb:∀x:Str,x≠"__name__"->mb x=bF x) (hlim:s₁.heap.NoLimit) (hg:s₁.gens = #[])
  (ha:s₁.heap.get? a=some {cls:=.type "list",data:=.seq vs.toArray}) (hi:aY vs ns) (hl:ns.length<=aH) (hr:b8 k callerA)
  (F:∀base:Heap,K.In base->base.Ns ax mg->eO P w K mg base CX k fa fd [x] sp) (hbind:∀(s:af) (u:ae),BindsTo s fd ⟨[u],[]⟩ [(x,u)])
  (hsp:∀H:Hp,jL H->SqL K H a (ns.map V.int)->sp [.ref a] H (λv _=>v=.bl true) λ_ _ _=>False)
  (hCX:∀H e s',CX [] H s₁ (λ_ _ _=>False) e s'->False) :
  codeAny (ah P w) callerA (.call (.ref fa) ⟨[.ref a],[]⟩) (λr s'=>r=.ok (.ret (.bool true))/\OldK s₁.heap s'.heap/\s'.os=s₁.os/\AllBare s'.gens) s₁:=by
 have rv:=mK hi;have lenV:=hi.length
 -- from an abstract heap in which nothing but the script may be tracked
 have core:∀H:Hp,jL H->SqL K H a (ns.map V.int)->HOk P w H s₁.heap->(∀b,H b≠none->b=a)->(H a≠none->K.lookup a=none) ->
   codeAny (ah P w) callerA (.call (.ref fa) ⟨[.ref a],[]⟩) (λr s'=>r=.ok (.ret (.bool true))/\OldK s₁.heap s'.heap/\s'.os=s₁.os/\AllBare s'.gens) s₁:=by
  intro H hO hS hok hA hK;have base_of:∀{b:Addr}{o:Obj},s₁.heap.get? b=some o->H b=none->(dJ s₁.heap H).get? b=some o:=λe n=>wB e n
  have noA:∀{b:Addr}{o:Obj}{es:Array DictEntry}{ep:Nat},s₁.heap.get? b=some o->o.data=.dict es ep->H b=none:=λ{b o es ep} e d=>by
   cases q:H b with
   |none=>rfl
   |some u=>
    have e':b=a:=hA b (by rw[q];simp);subst e';rw[ha]at e;cases e;have d':Data.seq vs.toArray _=Data.dict es ep:=d;cases d'
  have nsK:∀{b:Addr}{m:Str->Option ae},s₁.heap.Ns b m->(dJ s₁.heap H).Ns b m:=λ{b m} ⟨o,es,ep,e,d,r⟩=>⟨o,es,ep,base_of e (noA e d),d,r⟩
  have hKb:K.In (dJ s₁.heap H):=λb o e=>base_of (KX b o e) (by
   cases q:H b with
   |none=>rfl
   |some u=>
    have e':b=a:=hA b (by rw[q];simp);subst e';rw[hK (by rw[q];simp)]at e;cases e)
  have hM:Mod K mg (dJ s₁.heap H):=⟨hKb,nsK hns,⟨mb,nsK hb,hbb⟩,let ⟨mc,h1,h2⟩:=hlim;⟨mc,nsK h1,h2⟩⟩
  have e0:iq P w K mg (dJ s₁.heap H) callerA [] s₁ H:=⟨rfl,hM,λb o e=>B8 e,Nat.le_of_eq (so _ _),trivial,λb hb=>absurd (show b∈([]:List Addr)from hb) (by simp),hok,.of_eq hg⟩
  refine codeAny_mono ((F _ hKb (nsK hns)).run callerA [] s₁ H ⟨[.ref a],[]⟩ [.ref a] [.ref a] _ _ hr e0 (hbind s₁ (.ref a)) (.cons rfl .nil) (hsp H hO hS)) λr s' h=>?_
  cases r with
  |error e=>exact(hCX H e s' h).elim
  |ok fl=>
   cases fl with
   |next=>exact aK h
   |brk=>exact aK h
   |cont=>exact aK h
   |ret u=>
    obtain⟨v,H',os,bare,un,hok',r',q⟩:=h;have q':v=.bl true:=q;subst q';obtain rfl:u=ae.bool true:=r';refine⟨rfl,OldK.of_keep λb o e=>?_,os,bare⟩;cases q:H b with
    |none=>exact un.keep b o e q (by intro z;exact absurd (show b∈([]:List Addr)from z) (by simp)) (by simp)
    |some u=>
     rcases hO b with z|⟨ob,xs,z⟩
     ·rw[q]at z;cases z
     ·have z2:=un.frzs b ob _ z;obtain⟨e1,_⟩:=hok b _ z;obtain⟨e2,_⟩:=hok' b _ z2;rw[e]at e1;cases e1;exact e2
 cases hk:K.lookup a with
 |some o=>
  -- the script is one of the module's own objects
  have e:=KX a o hk;rw[ha]at e;cases e;refine core (λ_=>none) (λ_=>.inl rfl) (.inr ⟨_,vs.toArray,_,hk,rfl,rfl,rfl,by rw[aW,lenV];exact hl,by simpa using rv⟩) (λb u z=>by have z':(none:Option HO)=some u:=z;cases z') (λb z=>absurd rfl z) λz=>absurd rfl z
 |none=>
  refine core (λb=>if b=a then some (.frz {cls:=.type "list",data:=.seq vs.toArray} (.lst (ns.map V.int)))else none) (λb=>?_) (.inl (.inr ⟨{cls:=.type "list",data:=.seq vs.toArray},if_pos rfl⟩)) (λb u z=>?_) (λb z=>?_) λ_=>hk
  ·by_cases hb:b=a
   ·exact .inr ⟨_,_,if_pos hb⟩
   ·exact .inl (if_neg hb)
  ·by_cases hb:b=a
   ·have z':=(if_pos hb).symm.trans z;cases z';subst hb;exact⟨ha,by rw[bc];exact hl,vs,_,rv,ha⟩
   ·have z':=(if_neg hb).symm.trans z;cases z'
  ·by_cases hb:b=a
   ·exact hb
   ·exact absurd (if_neg hb) z
theorem vX{l:PySem.W.OpenLaw}{n k:Nat}{q:aw}{loose:List Str}{XP:(Str->Option ae)->Heap->Prop}{YP:av->Heap->Prop}{d:DefRec}{K:Params->ar}{CX:av->CXT}{sp:av->Sp}{x:Str}
  (hn:l.most=some n) (hn2:n<=aH) (hdf:d.params.defaults=[]) (hr:b8 k callerA)
  (hY:∀(w:av) (h:Heap),YP w h->(K w.params).In h)
  (F:∀(w:av) (mg:Str->Option ae) (fa:Addr) (h:Heap),(K w.params).In h->h.Ns ax mg->mg d.name=some (.ref fa) ->
   ∃fd:FuncData,(∀(s:af) (u:ae),BindsTo s fd ⟨[u],[]⟩ [(x,u)]) /\
    ∀base:Heap,(K w.params).In base->base.Ns ax mg->eO l.prog w (K w.params) mg base (CX w) k fa fd [x] (sp w))
  (hsp:∀(w:av) (H:Hp) (a:Addr) (ns:List Int),ns.length<=n->jL H->SqL (K w.params) H a (ns.map V.int)->sp w [.ref a] H (λv _=>v=.bl true) λ_ _ _=>False)
  (hCX:∀(w:av) (H:Hp) (s:af) (e:ae) (s':af),CX w [] H s (λ_ _ _=>False) e s'->False) :
  PySem.W.WalkO q loose XP YP l.row.toRowW d [] (λf vs=>PySem.call f vs):=by
 refine Att.pd hn hdf λw s₀ s₁ mg mb fa o pm cd doc a vs ns G Y ho hd hcd hmg hobj hints hlen hg=>?_
 have KX:=hY w _ Y;obtain⟨fd,hb,hF⟩:=F w mg fa _ KX G.T.g hmg;exact yM KX G.T.g G.T.b G.T.builtins G.T.nolimit hg hobj hints (bp hlen hn2) hr hF hb (λH hO hS=>hsp w H a ns hlen hO hS) λH e s'=>hCX w H s₁ e s'
end L2
/- THE LAST THEOREM (shape; LID, My.* are yours):
   My.Adr: a structure of the addresses that your layer names (classes, functions); My.Txt K t: a structure (Prop) of the equations over K;
   My.txt_mk : {K} {implicit addresses ..} (e1 : nsIn K mainGlobals "law" = some (some (.ref f))) (e2 : K.lookup f = some ⟨oc, od, .func (fnOf "law" "law" params body scope dV kV doc pm an cdv ct), sl⟩) (e3 : codeIn K cdv "law" = true) .. : ∃ t, My.Txt K t
set_option maxRecDepth 100000 in
set_option maxHeartbeats 0 in
theorem PySem.Challenge.cw_LID_holds : PySem.Challenge.rw_LID.Holds := by
 w_on; o_law; k_head; (case hw => w_witness2)
 k_fill
 refine L2.walk_of (l := PySem.Challenge.rw_LID) (n := 63) (k := 40) (x := "script") (CX := fun w => ..) (sp := fun _ => My.sp_law) rfl (by decide) rfl ⟨rfl, by decide, by decide⟩ (fun w h Y => PySem.W.kIn_of Y) ?F ?S ?C
 case F =>
  intro w mg fa h KX G hmg;have T : ∃ t, My.Txt (L2.KOf KX) t := by
   dsimp only [L2.KOf]                          -- K must stand as «<heap const> w.params» for k_is
   refine' My.txt_mk ?e1 ?e2 ?e3 ..
   (case e1 => PySem.W.k_is)                    -- in the order: a name -> its address -> its object -> its parts
   (case e2 => PySem.W.k_is)
   ..
  obtain ⟨t, T⟩ := T;have e0 := hmg.symm.trans (PySem.W.mg_of KX G T.law);cases e0                                       -- fa is the law's own address
  exact ⟨_, fun s u => .of_eq rfl, fun base kb nb => My.law_fn T kb nb⟩     -- if «.of_eq rfl» comes too early: refine' ⟨_, ?b, fun base kb nb => My.law_fn T kb nb⟩; exact fun s u => .of_eq rfl
 case S => exact fun w H a ns hl hO hS => ..
 case C => exact ..
(the tactic k_is has no namespace: write k_is) -/
namespace L2
open PySem PySem.Spec PyProof.Rows
noncomputable def zm(s:Stmt):Arguments:=match s with
 | .FunctionDef _ a _ _ _ _ _ _ _ _=>a
 |_=>{posonlyargs:=[],args:=[],vararg:=none,kwonlyargs:=[],kw_defaults:=[],kwarg:=none,defaults:=[]}
noncomputable def dn(s:Stmt):List Stmt:=match s with
 | .FunctionDef _ _ b _ _ _ _ _ _ _=>b
 |_=>[]
noncomputable def zj(s:Stmt):Scope:=match s with
 | .FunctionDef _ _ _ _ _ _ sc _ _ _=>sc
 |_=>{kind:=.function,names:=[],isGenerator:=false,isCoroutine:=false}
abbrev E0:XK:=λ_ _ _=>False
structure Fun(K:ar)(x qual:Str)(st:Stmt)(f:Addr)(fd:FuncData):Prop where
 ex:∃(oc:ae) (od:Option Addr) (kV doc pm:ae) (an:Option Addr) (cdv ct:ae) (osl:Array (Option ae)),
  fd=b7 x qual (zm st) (dn st) (zj st) .none kV doc pm an cdv ct/\K.lookup f=some ⟨oc,od,.func fd,osl⟩/\PySem.W.codeIn K cdv qual=true
 kp:cm K (.ref f)=true
section
variable{P:aw}{w:av}{K:ar}{mg:Str->Option ae}{base:Heap}
theorem Fun.binds{x qual:Str}{st:Stmt}{f:Addr}{fd:FuncData}{ps:List Str}(F:Fun K x qual st f fd)
  (h:∀(kV doc pm:ae) (an:Option Addr) (cdv ct:ae) (us:List ae),us.length=ps.length->bindArgs (b7 x qual (zm st) (dn st) (zj st) .none kV doc pm an cdv ct) ⟨us,[]⟩=pure (ps.zip us)):Binds K fd ps []:=by
 obtain⟨oc,od,kV,doc,pm,an,cdv,ct,osl,rfl,lk,hcd⟩:=F.ex;exact .all (h kV doc pm an cdv ct)
theorem n5{x qual:Str}{st:Stmt}{f:Addr}{oc:ae}{od an:Option Addr}{osl:Array (Option ae)}{kV doc pm cdv ct:ae}(l:K.lookup f=some ⟨oc,od,.func (b7 x qual (zm st) (dn st) (zj st) .none kV doc pm an cdv ct),osl⟩)
  (c:PySem.W.codeIn K cdv qual=true) (k:cm K (.ref f)=true):Fun K x qual st f (b7 x qual (zm st) (dn st) (zj st) .none kV doc pm an cdv ct):=⟨⟨oc,od,kV,doc,pm,an,cdv,ct,osl,rfl,l,c⟩,k⟩
end
section
variable{X:Cx}
end
noncomputable def qe(H H':Hp):Prop:=∀b o,H b=some o->H' b=some o
theorem qe.refl(H:Hp):qe H H:=λ_ _ h=>h
theorem qe.trans{H H1 H2:Hp}(a:qe H H1)(b:qe H1 H2):qe H H2:=λc o h=>b c o (a c o h)
theorem qe.free{H H':Hp}(e:qe H H'){l:Addr}(h:H' l=Option.none):H l=Option.none:=by
 cases q:H l with
 |none=>rfl
 |some o=>
  rw[e l o q]at h;cases h
theorem qe.seq{K:ar}{H H':Hp}{a:Addr}{xs:List V}(e:qe H H')(h:SqL K H a xs):SqL K H' a xs:=by
 rcases h with (h|⟨o,h⟩)|h
 ·exact .inl (.inl (e _ _ h))
 ·exact .inl (.inr ⟨o,e _ _ h⟩)
 ·exact .inr h
noncomputable def ef(elt:Expr)(gens:List bV)(scope:aS)(pos:Pos)(d:Nat)(acc:ae)(env:Env):Sem Unit:=
 match gens[d+1]? with
 |some g'=>do
  let x <-eval g'.iter env
  standAt g'.iter.pos
  let x <-foldedSetIterable g'.iter env x
  let _ <-runOwn (.compStart (.ListComp elt gens scope pos) (d+1) (<-holding [x] (pyIter x)) acc env) env
  pure ()
 |none=>do
  let _ <-call (.builtin "list.append") [acc,<-eval elt env]
  pure ()
theorem B5{elt:Expr}{gens:List bV}{scope:aS}{pos:Pos}{d:Nat}{g:bV}{it acc:ae}{env:Env}(hg:gens[d]? = some g)(ha:g.is_async=0)
  (hn:∀g',gens[d+1]? = some g'->g'.is_async=0) :
  compTurn (.ListComp elt gens scope pos) d it acc env=(do
   standAt g.iter.pos
   match <-pyNext it with
   |none=>pure (.done .next)
   |some v=>
    letOwnedTupleGo g.target it v
    assign g.target env v
    let ok <-(forIn g.ifs true λc r=>if r=true then do let ok <-isTrue c env (eval c env);pure (cL ok)else pure (cL r))
    if ok then
     ef elt gens scope pos d acc env
     again (.compLoop (.ListComp elt gens scope pos) d it acc env)
    else again (.compLoop (.ListComp elt gens scope pos) d it acc env)):=by
 unfold compTurn;cases e:gens[d+1]? with
 |none=>
  simp only[hg,ha,e,ef]
  rfl
 |some g'=>
  have ha':=hn g' e;simp only[hg,ha,e,ha',ef];simp only[bne_self_eq_false,bI,if_false,bind_assoc,pure_bind]
  rfl
theorem BS{prog:aw}{w:av}{A:ay}{R:Result->af->Prop}{s:af}{elt:Expr}{gens:List bV}{scope:aS}{pos:Pos}{d:Nat}{g:bV}{it acc:ae}{env:Env}
  (hg:gens[d]? = some g) (ha:g.is_async=0)
  (h0:codeAny (ah prog w) A (.compLoop (.ListComp elt gens scope pos) d it acc env) R s)
  (h:ak (ah prog w) A (pyIter it) (λit' s'=>codeAny (ah prog w) A (.compLoop (.ListComp elt gens scope pos) d it' acc env) R s')
   (notedBy (ah prog w) A env λx s'=>R (.error x) s') s) :
  codeAny (ah prog w) A (.compStart (.ListComp elt gens scope pos) d it acc env) R s:=by
 refine codeAny_of_tree ?_;show ak _ _ ((compStart (.ListComp elt gens scope pos) d it acc env).onRaise (λx=>do noteFrame x env;standAt theWindowsPlace)) _ _ s;refine wpAny_notedAt ?_;unfold compStart;have e2:(clausesOf (.ListComp elt gens scope pos))[d]? = some g:=hg;simp only[e2];rw[if_neg (by show ¬ (g.is_async != 0)=true;simp[ha])];show ak _ _ (ask>>=_) _ _ s;refine ao (wpAny_askSetting (wpAny_ite ?_));split
 ·first
   |exact ao (aC (aC (aq rfl h0)))
   |exact aC (aq rfl h0)
 ·first
   |exact ao (wpAny_rule (ao (wpAny_standAt (ao (bC h (λit' s' h'=>aC (aq rfl h')) λ_ _ x=>x)))))
   | (refine ao (wpAny_rule ?_);show ak _ _ (standAt g.iter.pos>>=_) _ _ s;exact ao (wpAny_standAt (ao (bC h (λit' s' h'=>aC (aq rfl h')) λ_ _ x=>x))))
noncomputable def PTs(Y:Cx)(ifs:List Expr)(t:TT):Prop:=
 ∀(pins:List (Addr×Obj)) (s:af) (σ:St) (H:Hp) (Q:Bool->Hp->Prop),Inv Y pins σ H s->t σ H Q ->
  ak (ah Y.prog Y.w) Y.A (forIn ifs true λc r=>if r=true then do let ok <-isTrue c Y.env (eval c Y.env);pure (cL ok)else pure (cL r)) (TP Y pins σ Q) Y.xe s
noncomputable def pA:TT:=λ_ H Q=>Q true H
theorem BD{Y:Cx}:PTs Y [] pA:=λ_ _ _ H _ I h=>wpAny_tests_nil ⟨H,I,h⟩
theorem pJ{Y:Cx}{c:Expr}{t:TT}(hc:PT Y c t):PTs Y [c] t:=λpins s σ H Q I h=>wpAny_tests_one (hc pins s σ H Q I h)
noncomputable def PB(Y:Cx)(m:Sem Unit)(t:TS):Prop:=
 ∀(pins:List (Addr×Obj)) (s:af) (σ:St) (H:Hp) (D:Ends),Inv Y pins σ H s->t D σ H ->
  ak (ah Y.prog Y.w) Y.A m (λ_ s'=>∃σ' H',Inv Y pins σ' H' s'/\D.nx σ' H') Y.xe s
section
variable{Y:Cx}{elt:Expr}{gens:List bV}{scope:aS}{pos:Pos}{d:Nat}
noncomputable def iA(acc:Addr)(te:TE):TS:=λD σ H=>te σ H λy H1=>∃xs,H1 acc=some (.lst xs)/\xs.length<aH/\D.nx σ (upd H1 acc (.lst (xs++[y])))
theorem nu{acc:Addr}{te:TE}(hn:gens[d+1]? = none)(he:PE Y elt te):PB Y (ef elt gens scope pos d (.ref acc) Y.env) (iA acc te):=by
 intro pins s σ H D I h;unfold ef;rw[hn];refine ao (thn (he pins s σ H _ I h) λu s1 ⟨y,H1,I1,r1,xs,hx,hz,q⟩=>?_);refine ao (thn (mY pins s1 σ H1 (.ref acc) [y] (.ref acc) [u] (λ_ H'=>D.nx σ H') I1 rfl (.cons r1 .nil) ⟨acc,xs,y,rfl,rfl,hx,hz,q⟩) λ_ s2 ⟨_,H2,I2,_,q2⟩=>?_);exact aC ⟨σ,H2,I2,q2⟩
theorem Af{g:bV}{it:Addr}{acc:ae}{fp:List Addr}{tn:Nat->Heap->Prop}{J:It}{tg:TG}{tt:TT}{tb:TS}(hc:Y.calm=true)(hx:∀e s,¬ Y.xe e s)(hg:gens[d]? = some g)(ha:g.is_async=0)
  (hn:∀g',gens[d+1]? = some g'->g'.is_async=0) (T:Turn Y.prog Y.w Y.K g.target J fp it tn) (pg:PG Y g.target tg) (pt:PTs Y g.ifs tt) (pb:PB Y (ef elt gens scope pos d acc Y.env) tb)
  {pins:List (Addr×Obj)}{s:af}{σ:St}{H:Hp}{D:Ends} (I:Inv Y pins σ H s) (st:tn 0 s.heap) (fr:∀b∈fp,cR Y pins H b)
  (h:∃W:Nat->Nat->St->Hp->Prop,(∃m,W 0 m σ H)/\∀i m σ H,W i m σ H ->
   (J.stop i H/\D.nx σ H)\/(J.go i H/\∃N:St->Hp->Prop,(∀σ' H',N σ' H'->∃m',m'<m/\W (i+1) m' σ' H')/\∀x H',J.yld i H x H'->tg x σ H' λσ2 H2=>iT tt tb hZ {D with nx:=N,ct:=N,bk:=D.nx} σ2 H2)) :
  codeAny (ah Y.prog Y.w) Y.A (.compLoop (.ListComp elt gens scope pos) d (.ref it) acc Y.env) (λr s'=>r=.ok .next/\∃σ' H',Inv Y pins σ' H' s'/\D.nx σ' H') s:=by
 obtain⟨W,⟨m0,w0⟩,turn⟩:=h;have stat:∀{H':Hp},(∀b∈fp,H' b=none)->∀b∈fp,cR Y pins H' b:=λhn b hb=>⟨hn b hb,(fr b hb).2⟩
 refine codeAny_loop rfl (λn s'=>∃i σ' H',Inv Y pins σ' H' s'/\tn i s'.heap/\(∀b∈fp,H' b=none)/\W i n σ' H') ?_ m0 ⟨0,σ,H,I,st,λb hb=>(fr b hb).1,w0⟩;rintro n s3 ⟨i,σ3,H3,I3,st3,fr3,w3⟩;show ak _ Y.A ((compTurn (.ListComp elt gens scope pos) d (.ref it) acc Y.env).onRaise (λx=>do noteFrame x Y.env;theTreesLotGoes x)) _ _ s3;refine wpAny_noted ?_;rw[B5 hg ha hn];have nox:∀{E:ae->af->Prop} (e:ae) (s:af),Y.xe e s->E e s:=λe s z=>absurd z (hx e s)
 refine ao (wpAny_standAt ?_);rcases turn i n σ3 H3 w3 with ⟨stop,qn⟩|⟨go,N,hN,step⟩
 ·refine ao (thn (T.done Y rfl rfl rfl hc i pins s3 σ3 H3 _ I3 (stat fr3) st3 stop) λr s4 ⟨hr,I4⟩=>?_);subst hr;exact aC ⟨rfl,σ3,H3,I4,qn⟩
 ·refine ao (thn (T.item Y rfl rfl rfl hc i pins s3 σ3 H3 _ I3 (stat fr3) st3 go) λr s4 ⟨u,hr,h4⟩=>?_);subst hr;refine ao (thn h4 λ_ s5 ⟨x,H5,I5,r5,y5,st5,fr5⟩=>?_);have I5':=I5.pinned (stat fr5) (T.obj _ _ st5);refine ao (bC (pg _ s5 σ3 H5 x u _ I5' r5 (step x H5 y5)) (λ_ s6 ⟨σ6,H6,I6,q6⟩=>?_) nox);have again:∀{s7:af}{σ7:St}{H7:Hp},Inv Y (pins++gj fp s5.heap) σ7 H7 s7->N σ7 H7->∃m,m<n/\∃i σ' H',Inv Y pins σ' H' s7/\tn i s7.heap/\(∀b∈fp,H' b=none)/\W i m σ' H':=λ{s7 σ7 H7} I7 n7=>by
   obtain⟨m',hm,w7⟩:=hN σ7 H7 n7;refine⟨m',hm,i+1,σ7,H7,I7.unpinned,T.keep _ _ _ st5 λb hb o e=>(I7.pin (b,o) (bW _ (bW _ (iF hb e)))).1,λb hb=>?_,w7⟩;obtain⟨o,e,d⟩:=T.obj _ _ st5 b hb;exact(I7.pin (b,o) (bW _ (bW _ (iF hb e)))).2.1
  refine ao (bC (pt _ s6 σ6 H6 _ I6 q6) (λb s7 ⟨H7,I7,q7⟩=>?_) nox);cases b with
  |true=>
   rw[if_pos rfl];rw[if_pos rfl]at q7;refine ao (bC (pb _ s7 σ6 H7 _ I7 q7) (λ_ s8 ⟨σ8,H8,I8,q8⟩=>?_) nox);exact aC ⟨rfl,again I8 q8⟩
  |false=>
   rw[if_neg bY];rw[if_neg bY]at q7;exact aC ⟨rfl,again I7 q7⟩
end
theorem jx{env:Env}:∀{names:List (Str×aM)}{cs:List (Str×Addr)},(∀x∈names,x.2=.free->∃c,env.cells.lookup x.1=some c) ->
  ∃cl,(forIn names cs (λ(x:Str×aM) (cs:List (Str×Addr))=>if (x.2==bR)=true then do let c <-cellOf env x.1;pure (cL ((x.1,c)::cs))else pure (cL cs)):Sem (List (Str×Addr)))=pure cl /\
   (∀x c,cl.lookup x=some c->env.cells.lookup x=some c\/cs.lookup x=some c)/\(∀x,(∃c,cs.lookup x=some c)->∃c,cl.lookup x=some c)/\∀x∈names,x.2=.free->∃c,cl.lookup x.1=some c
 | [],cs,_=>⟨cs,by rw[List.forIn_nil],λ_ _ h=>.inr h,λ_ h=>h,λ_ h=>nomatch h⟩
 | (n,k)::r,cs,h=>by
  rw[List.forIn_cons];by_cases hk:k=.free
  ·subst hk;obtain⟨c,hc⟩:=h (n,.free) aR rfl;have e:cellOf env n=pure c:=by
    have hc':env.cells.lookup n=some c:=hc;unfold cellOf;rw[hc']
   obtain⟨cl,e1,e2,e3,e4⟩:=jx (names:=r) (cs:=(n,c)::cs) λx hx=>h x (aP _ hx)
   refine⟨cl,?_,λx c' q=>?_,λx q=>e3 x ?_,λx hx hf=>?_⟩
   ·simp only[beq_self_eq_true,if_true,e,pure_bind];exact e1
   ·rcases e2 x c' q with z|z
    ·exact .inl z
    ·rw[br]at z;by_cases hxn:(x==n)=true
     ·rw[hxn]at z;have:x=n:=by simpa using hxn
      subst this;cases z;exact .inl hc
     ·have hxn':(x==n)=false:=by simpa using hxn
      rw[hxn']at z;exact .inr z
   ·rw[br];by_cases hxn:(x==n)=true
    ·rw[hxn];exact⟨c,rfl⟩
    ·have hxn':(x==n)=false:=by simpa using hxn
     rw[hxn'];exact q
   ·rcases aL.mp hx with z|z
    ·subst z;exact e3 n ⟨c,by rw[br,beq_self_eq_true]⟩
    ·exact e4 x z hf
  ·have hk':(k==bR)=false:=by simpa using hk
   obtain⟨cl,e1,e2,e3,e4⟩:=jx (names:=r) (cs:=cs) λx hx=>h x (aP _ hx)
   refine⟨cl,?_,e2,e3,λx hx hf=>?_⟩
   ·simp only[hk',bI,if_false,pure_bind];exact e1
   ·rcases aL.mp hx with z|z
    ·subst z;exact absurd hf hk
    ·exact e4 x z hf
theorem nW{env:Env}{scope:aS}(h:∀x∈scope.names,x.2=.free->∃c,env.cells.lookup x.1=some c) :
  ∃cl,closureFor scope env=pure cl/\(∀x c,cl.lookup x=some c->env.cells.lookup x=some c)/\∀x∈scope.names,x.2=.free->∃c,cl.lookup x.1=some c:=by
 obtain⟨cl,e1,e2,_,e4⟩:=jx (env:=env) (names:=scope.names) (cs:=[]) h;refine⟨cl,?_,λx c q=>(e2 x c q).elim (λz=>z) (λz=>by simp at z),e4⟩;have e:closureFor scope env=(forIn scope.names [] (λ(x:Str×aM) (cs:List (Str×Addr))=>if (x.2==bR)=true then do let c <-cellOf env x.1;pure (cL ((x.1,c)::cs))else pure (cL cs))>>=λcs=>pure cs):=rfl;rw[e,e1,pure_bind]
theorem i6{env:Env}:∀{names:List (Str×aM)}{x:Str}{k:aM},
  (names.map λ(n,k)=>if (k==bR&&env.scope.kind==.function&&env.kindOf n==some .cell)then (n,aM.cell)else (n,k)).lookup x=some k ->
  names.lookup x=some k\/(k=.cell/\names.lookup x=some .free)
 | [],_,_,h=>by simp at h
 | (n,k')::r,x,k,h=>by
  have ih:=@i6 env r x k;have h':List.lookup x ((if (k'==bR&&env.scope.kind==.function&&env.kindOf n==some .cell)=true then (n,aM.cell)else (n,k'))::r.map (λ(n,k)=>if (k==bR&&env.scope.kind==.function&&env.kindOf n==some .cell)then (n,aM.cell)else (n,k)))=some k:=h;cases hx:x==n with
  |true=>
   by_cases hc:(k'==bR&&env.scope.kind==.function&&env.kindOf n==some .cell)=true
   ·rw[if_pos hc]at h';simp only[br,hx]at h';cases h';have:k'=.free:=by
     have z:(k'==bR)=true:=by
      cases q:(k'==bR)with
      |true=>rfl
      |false=>rw[q]at hc;simp at hc
     simpa using z
    subst this;exact .inr ⟨rfl,by simp[br,hx]⟩
   ·rw[if_neg hc]at h';simp only[br,hx]at h';cases h';exact .inl (by simp[br,hx])
  |false=>
   have h2:(r.map (λ(n,k)=>if (k==bR&&env.scope.kind==.function&&env.kindOf n==some .cell)then (n,aM.cell)else (n,k))).lookup x=some k:=by
    by_cases hc:(k'==bR&&env.scope.kind==.function&&env.kindOf n==some .cell)=true
    ·rw[if_pos hc]at h';simpa only[br,hx]using h'
    ·rw[if_neg hc]at h';simpa only[br,hx]using h'
   rcases ih h2 with z|z
   ·exact .inl (by simpa only[br,hx]using z)
   ·exact .inr ⟨z.1,by simpa only[br,hx]using z.2⟩
noncomputable def gr(names:List (Str×aM)):List Str:=(names.filter λy=>y.2==.cell).map (·.1)
theorem jC:∀(names:List (Str×aM)) (n:Nat) (a b:List (Str×Addr)),a_ n names (a++b)=a_ n names a++b
 | [],_,_,_=>rfl
 | (x,k)::r,n,a,b=>by
  unfold a_;split
  ·exact jC r (n+1) ((x,n)::a) b
  ·exact jC r n a b
theorem jl{x:Str}{c:Addr}:∀{names:List (Str×aM)}{n:Nat}{a:List (Str×Addr)},(x,c)∈a_ n names a->(x,c)∈a\/(x,aM.cell)∈names
 | [],_,_,h=>.inl h
 | (y,k)::r,n,a,h=>by
  unfold a_ at h;split at h
  ·rename_i hk
   rcases jl h with z|z
   ·rcases aL.mp z with q|q
    ·have hk:k=.cell:=by simpa using hk
     cases q;exact .inr (by rw[hk];exact aR)
    ·exact .inl q
   ·exact .inr (aP _ z)
  ·rcases jl h with z|z
   ·exact .inl z
   ·exact .inr (aP _ z)
theorem v_{M:Model}{A:ay}{E:ae->af->Prop}{s:af}{scope:aS}{globals:Addr}{cl:List (Str×Addr)}{qual:Str}{env:Env}{Q:Env->af->Prop}
  (hQ:∀h₁,h₁.Ns s.heap.objs.size (λ_=>none)->(∀b o,s.heap.get? b=some o->h₁.get? b=some o)->CellsOk h₁ (s.heap.objs.size+1) (a_ (s.heap.objs.size+1) scope.names []) ->
   Q (newEnv scope s.heap.objs.size globals (a_ (s.heap.objs.size+1) scope.names []++cl) qual none .none (some env) builtinsNs) {s with heap:=h₁}) :
  ak M A (newFunctionEnv scope globals cl [] qual none .none (some env)) Q E s:=by
 simp only[newFunctionEnv,Option.isSome_some,if_true];refine ao (wpAny_alloc ?_);refine ao (wpAny_layCells _ (λname kind cells=>by cases hkc:kind==aM.cell<;>simp[hkc]) _ _ _ _ ?_);have ok:=cellsFrom_ok scope.names (s.heap.push {cls:=.type "dict",data:=.dict #[]}) (s.heap.objs.size+1) [] ⟨λ_ _ hm=>(nomatch hm),List.Pairwise.nil⟩ (by rw[Heap.size_push];exact aI _);rw[Heap.size_push]at ok;rw[show ({s with heap:=s.heap.push {cls:=.type "dict",data:=.dict #[]}}:af).heap.objs.size=s.heap.objs.size+1 from Heap.size_push ..];rw[show cl=[]++cl from rfl,jC];rw[List.forIn_nil];exact ao (aC (aC (hQ _ ((Heap.Ns.new s.heap (.type "dict")).keeps (pushCells_keeps _ _)) (λb o e=>pushCells_keeps _ _ b o (Heap.get?_push_of_some _ e)) ok)))
noncomputable def zY(X:Cx)(NY:List Str)(scope:aS)(cl:List (Str×Addr))(C:Addr)(s₀:af)(H₀:Hp)(fp:List Addr):Cx where
 prog:=X.prog
 w:=X.w
 K:=X.K
 mg:=X.mg
 base:=X.base
 A:=X.A
 N:=NY
 s₀:=s₀
 H₀:=H₀
 env:=compEnvC scope (a_ (C+1) scope.names []++cl) C X.env
 outer:=X.stack
 stack:=X.stack
 ex:=fp
 fn:=λx=>(gr scope.names).contains x
 calm:=X.calm
 pn:=[]
 xe:=λ_ _=>False
noncomputable def caps(cap:List (Option Nat))(σ:St):St:=cap.map λo=>o.bind λj=>(σ[j]?).join
noncomputable def my(X:Cx)(NY:List Str)(cap:List (Option Nat))(scope:aS):Prop:=
 cap.length=NY.length/\∀(i j:Nat),cap[i]? = some (some j)->∃x,NY[i]? = some x/\X.N[j]? = some x/\scope.names.lookup x=some .free/\(X.env.kindOf x=some .cell\/X.env.kindOf x=some .free)
structure dg(X:Cx)(NY:List Str)(cap:List (Option Nat))(scope:aS):Prop where
 kind:scope.kind=.function
 cells:∀y∈scope.names,y.2=.cell->scope.names.lookup y.1=some .cell
 names:∀y∈scope.names,y.2=.local->scope.names.lookup y.1=some .local
 free:∀y∈scope.names,y.2=.free->X.env.kindOf y.1=some .cell\/X.env.kindOf y.1=some .free
 cap:my X NY cap scope
theorem A9{cap:List (Option Nat)}{σ:St}{i:Nat}{v:V}(h:(caps cap σ)[i]? = some (some v)):∃j,cap[i]? = some (some j)/\σ[j]? = some (some v):=by
 unfold caps at h;rw[List.getElem?_map]at h;cases e:cap[i]? with
 |none=>rw[e]at h;simp at h
 |some o=>
  rw[e]at h;cases o with
  |none=>simp at h
  |some j=>
   refine⟨j,rfl,?_⟩;have h':(σ[j]?).join=some v:=by simpa using h
   cases q:σ[j]? with
   |none=>rw[q]at h';cases h'
   |some z=>rw[q]at h';exact congrArg some h'
theorem uc{X:Cx}{pins:List (Addr×Obj)}{σ:St}{H:Hp}{s:af}{NY:List Str}{cap:List (Option Nat)}{scope:aS}{cl:List (Str×Addr)}{fp:List Addr}{h₁:Heap}{m:Str->Option ae}
  (I:Inv X pins σ H s) (S:dg X NY cap scope) (hsub:∀x c,cl.lookup x=some c->X.env.cells.lookup x=some c) (hall:∀x∈scope.names,x.2=.free->∃c,cl.lookup x.1=some c)
  (hf:∀b∈fp,cR X pins H b) (hlt:∀b∈fp,b<s.heap.objs.size) (hn:h₁.Ns s.heap.objs.size m) (hk:∀b o,s.heap.get? b=some o->h₁.get? b=some o) (hcs:CellsOk h₁ (s.heap.objs.size+1) (a_ (s.heap.objs.size+1) scope.names [])) {tk:Nat} :
  Inv (zY X NY scope cl s.heap.objs.size s H fp) [] (caps cap σ) H {s with heap:=h₁,toks:=tk}:=by
 have relx:∀x,(compEnvC scope (a_ (s.heap.objs.size+1) scope.names []++cl) s.heap.objs.size X.env).kindOf x=some .cell\/(compEnvC scope (a_ (s.heap.objs.size+1) scope.names []++cl) s.heap.objs.size X.env).kindOf x=some .free->scope.names.lookup x=some .free\/scope.names.lookup x=some .cell:=λx hx=>by
  rcases hx with q|q
  ·rcases i6 (env:=X.env) (names:=scope.names) (x:=x) (k:=.cell) q with z|z
   ·exact .inr z
   ·exact .inl z.2
  ·rcases i6 (env:=X.env) (names:=scope.names) (x:=x) (k:=.free) q with z|z
   ·exact .inl z
   ·exact .inl z.2
 have cnew:∀x c,cl.lookup x=some c->c<s.heap.objs.size:=λx c e=>by
  obtain⟨v,q⟩:=I.cell x c (hsub x c e);exact q.lt
 -- a cell is one of its own, or one from around
 have two:∀x c,(a_ (s.heap.objs.size+1) scope.names []++cl).lookup x=some c->(x,c)∈a_ (s.heap.objs.size+1) scope.names []\/cl.lookup x=some c:=λx c e=>by
  rw[List.lookup_append]at e;cases q:(a_ (s.heap.objs.size+1) scope.names []).lookup x with
  |none=>rw[q]at e;exact .inr e
  |some c'=>rw[q]at e;cases e;exact .inl (bX q)
 have own1:∀x c,(x,c)∈a_ (s.heap.objs.size+1) scope.names []->scope.names.lookup x=some .cell:=λx c e=>by
  rcases jl e with z|z
  ·cases z
  ·exact S.cells _ z rfl
 have ownA:∀x c,(x,c)∈a_ (s.heap.objs.size+1) scope.names []->s.heap.objs.size<c:=λx c e=>(hcs.empty x c e).2
 have frl:∀x c,scope.names.lookup x=some .free->cl.lookup x=some c->(a_ (s.heap.objs.size+1) scope.names []++cl).lookup x=some c:=λx c e1 e2=>by
  rw[List.lookup_append];cases q:(a_ (s.heap.objs.size+1) scope.names []).lookup x with
  |none=>rw[e2];rfl
  |some c'=>have:=own1 x c' (bX q);rw[e1]at this;cases this
 refine⟨⟨I.ok.mod,S.kind,I.ok.glob,I.ok.blt,aI _,λx y c e1 e2=>?_,λx hx=>?_,λx c e e2=>?_,I.ok.hd,I.ok.frames,.inl rfl,λb hb=>?_,λb o e=>I.bs b o e,bp I.ok.bsz I.sz,λb o e hb=>?_,λb hb z=>?_,I.stack,I.stkFree⟩,
  rfl,I.bare,Un.kept hk,⟨m,hn,λi x v e1 e2 e3=>?_⟩,λx c e=>?_,I.hok.fresh (aI _),λx c e=>?_,λp hp=>absurd (show p∈([]:List (Addr×Obj))from hp) (by simp),I.hok.kept hk,?_⟩
 ·rcases two x c e1 with z1|z1<;>rcases two y c e2 with z2|z2
  ·exact name_of_addr hcs.apart z1 z2
  ·exact absurd (Nat.lt_trans (cnew y c z2) (ownA x c z1)) (bL _)
  ·exact absurd (Nat.lt_trans (cnew x c z1) (ownA y c z2)) (bL _)
  ·exact I.ok.inj x y c (hsub x c z1) (hsub y c z2)
 ·rcases relx x hx with z|z
  ·obtain⟨c,hc⟩:=hall (x,.free) (bX z) rfl;exact⟨c,frl x c z hc⟩
  ·obtain⟨c,hc⟩:=i_ (n:=s.heap.objs.size+1) z;refine⟨c,?_⟩;show (a_ (s.heap.objs.size+1) scope.names []++cl).lookup x=some c;rw[List.lookup_append,hc];rfl
 ·have e:(gr scope.names).contains x=true:=e;have hm:scope.names.lookup x=some .cell:=by
   simp only[gr,List.contains_iff_mem,bg,b4,beq_iff_eq]at e;obtain⟨y,⟨y1,y2⟩,rfl⟩:=e;exact S.cells y y1 y2
  rcases two x c e2 with z|z
  ·exact Nat.le_of_lt (ownA x c z)
  ·obtain⟨c',hc⟩:=i_ (n:=s.heap.objs.size+1) hm;have e2:(a_ (s.heap.objs.size+1) scope.names []++cl).lookup x=some c:=e2;rw[List.lookup_append,hc]at e2;cases e2;exact Nat.le_of_lt (ownA x _ (bX hc))
 ·obtain⟨f0,f1,f2,f3,f4,f5⟩:=hf b hb;refine⟨aX (hlt b hb),λx c e=>?_⟩;rcases two x c e with z|z
  ·exact λw=>absurd (Nat.lt_trans (ownA x c z) (w▸hlt b hb)) (bL _)
  ·exact f4 x c (hsub x c z)
 ·obtain⟨f0,f1,f2,f3,f4,f5⟩:=hf b hb;rcases f3 with z|z
  ·exact I.ok.noex b o e z
  ·exact absurd (bw (aJ e) (bp I.ok.bsz z)) (bL _)
 ·obtain⟨f0,f1,f2,f3,f4,f5⟩:=hf b hb;rcases aL.mp (I.stkSub b z)with q|q
  ·exact f1 q
  ·exact f2 q
 ·obtain⟨j,c1,c2⟩:=A9 e2;obtain⟨x',n1,n2,n3,n4⟩:=S.cap.2 i j c1;have ex:x'=x:=bJ (n1.symm.trans e1);subst ex;obtain⟨m',_,hl⟩:=I.loc;obtain⟨u,r,l⟩:=hl j x' v n2 c2 (n4.elim (λz=>.inr (.inl z)) λz=>.inr (.inr z));refine⟨u,r,.inr ⟨?_,?_⟩⟩
  ·rcases e3 with z|z|z
   ·rcases i6 (env:=X.env) (names:=scope.names) (x:=x') (k:=.local) z with q|q
    ·rw[n3]at q;cases q
    ·cases q.1
   ·exact .inl z
   ·exact .inr z
  ·rcases l with ⟨kk,_⟩|⟨_,c,ec,ic⟩
   ·rcases n4 with z|z
    ·rw[kk]at z;cases z
    ·rw[kk]at z;cases z
   ·obtain⟨c',ec'⟩:=hall (x',.free) (bX n3) rfl;have:=hsub x' c' ec';rw[ec]at this;cases this;obtain⟨o,ho,hd⟩:=ic;exact⟨c,frl x' c n3 ec',o,hk _ _ ho,hd⟩
 ·rcases two x c e with z|z
  ·exact⟨_,(hcs.empty x c z).1⟩
  ·obtain⟨v,o,ho,hd⟩:=I.cell x c (hsub x c z);exact⟨v,o,hk _ _ ho,hd⟩
 ·rcases two x c e with z|z
  ·exact I.hok.fresh (Nat.le_of_lt (ownA x c z))
  ·exact I.freeC x c (hsub x c z)
 ·show (caps cap σ).length=NY.length;unfold caps;rw[bc];exact S.cap.1
noncomputable def jD(cap:List (Option Nat))(wi:TI)(tg:TG)(tt:TT)(tb:Addr->TS):TE:=λσ H Q=>wi σ H λJ H1=>∀acc,H1 acc=none ->
 ∃W:Nat->Nat->St->Hp->Prop,(∃m,W 0 m (caps cap σ) (upd H1 acc (.lst [])))/\∀i m τ H,W i m τ H ->
  (J.stop i H/\(Ends.mk (λ_ H=>Q (.ref acc) H) (λ_ _=>False) (λ_ _=>False) (λ_ _=>False)).nx τ H)\/(J.go i H/\∃N:St->Hp->Prop,(∀σ' H',N σ' H'->∃m',m'<m/\W (i+1) m' σ' H')/\∀x H',J.yld i H x H' ->
   tg x τ H' λσ2 H2=>iT tt (tb acc) hZ {(Ends.mk (λ_ H=>Q (.ref acc) H) (λ_ _=>False) (λ_ _=>False) (λ_ _=>False))with nx:=N,ct:=N,bk:=(Ends.mk (λ_ H=>Q (.ref acc) H) (λ_ _=>False) (λ_ _=>False) (λ_ _=>False)).nx} σ2 H2)
structure Loose(X:Cx)(pins:List (Addr×Obj))(C:Addr):Prop where
 loc:C≠X.env.locals
 cell:∀x c,X.env.cells.lookup x=some c->c≠C
 up:X.s₀.heap.objs.size<=C
 pin:∀p∈X.pn++pins,p.1≠C
theorem Loose.turn{X:Cx}{pins:List (Addr×Obj)}{C:Addr}{σ:St}{H:Hp}{s:af}{h':Heap}(L:Loose X pins C)(I:Inv X pins σ H s)(hn:H C=none)(hs:Heap.SameBut C s.heap h'):Inv X pins σ H {s with heap:=h'}:=
 I.turned (t':=s.toks) (it:=C) (λb o hb e=>(hs.2 b hb).trans e) hn L.loc (.inr L.up) L.cell L.pin
section
variable{X:Cx}{elt tgt it:Expr}{ifs:List Expr}{gs:List bV}{scope:aS}{pos:Pos}{NY:List Str}{cap:List (Option Nat)}{wi:TI}{tg:TG}{tt:TT}{tb:Addr->TS}
theorem lq{Q:VK}{pins:List (Addr×Obj)}{σ:St}{H:Hp}{s s2:af}{cl:List (Str×Addr)}{itv:ae}{E:ae->af->Prop}{use:Option (ae->Sem Unit)}{QQ:ae->af->Prop}
  (hc:X.calm=true) (S:dg X NY cap scope) (hng:∀g'∈gs,g'.is_async=0)
  (hsub:∀x c,cl.lookup x=some c->X.env.cells.lookup x=some c) (hall:∀x∈scope.names,x.2=.free->∃c,cl.lookup x.1=some c)
  (hb:∀cl C s₀ H₀ fp,PG (zY X NY scope cl C s₀ H₀ fp) tgt tg/\PTs (zY X NY scope cl C s₀ H₀ fp) ifs tt/\∀acc,PB (zY X NY scope cl C s₀ H₀ fp) (ef elt (⟨tgt,it,ifs,0⟩::gs) scope pos 0 (.ref acc) (zY X NY scope cl C s₀ H₀ fp).env) (tb acc))
  (h2:PIE X pins σ tgt (λJ H1=>∀acc,H1 acc=none ->
   ∃W:Nat->Nat->St->Hp->Prop,(∃m,W 0 m (caps cap σ) (upd H1 acc (.lst [])))/\∀i m τ H,W i m τ H ->
    (J.stop i H/\(Ends.mk (λ_ H=>Q (.ref acc) H) (λ_ _=>False) (λ_ _=>False) (λ_ _=>False)).nx τ H)\/(J.go i H/\∃N:St->Hp->Prop,(∀σ' H',N σ' H'->∃m',m'<m/\W (i+1) m' σ' H')/\∀x H',J.yld i H x H' ->
     tg x τ H' λσ2 H2=>iT tt (tb acc) hZ {(Ends.mk (λ_ H=>Q (.ref acc) H) (λ_ _=>False) (λ_ _=>False) (λ_ _=>False))with nx:=N,ct:=N,bk:=(Ends.mk (λ_ H=>Q (.ref acc) H) (λ_ _=>False) (λ_ _=>False) (λ_ _=>False)).nx} σ2 H2)) itv s2)
  (fin:∀(acc C:Addr) (s':af) (m:Str->Option ae) (H':Hp),s'.heap.Ns C m->Loose X pins C->Inv X pins σ H' s'->H' C=none->Q (.ref acc) H'->compPost (ah X.prog X.w) X.A E use QQ (.ref acc) C (.ok .next) s') :
  ak (ah X.prog X.w) X.A (newList []) (λacc s₃=>ak (ah X.prog X.w) X.A (newFunctionEnv scope X.env.globals cl [] X.env.qual none .none (some X.env)) (λcenv s₄=>
   codeAny (ah X.prog X.w) X.A (.compStart (.ListComp elt (⟨tgt,it,ifs,0⟩::gs) scope pos) 0 itv acc {cenv with scope:=relabel scope X.env}) (compPost (ah X.prog X.w) X.A E use QQ acc cenv.locals) s₄) E s₃) E s2:=by
 obtain⟨ia,fp,tn,J,H2,e,I2,T,st2,f2,q⟩:=h2;subst e;have hlt2:∀b∈fp,b<s2.heap.objs.size:=λb hb=>by
  obtain⟨o,ho,_⟩:=T.obj _ _ st2 b hb;exact aJ ho
 refine wpAny_newObj_type ?_;have hacc:H2 s2.heap.objs.size=none:=I2.hok.fresh (aI _);have I3:Inv X pins σ (upd H2 s2.heap.objs.size (.lst [])) {s2 with heap:=s2.heap.push {cls:=.type "list",dict:=none,data:=.seq ([]:List ae).toArray}}:=
  I2.laid (t':=s2.toks) (λb u e=>Heap.get?_push_of_some _ e) (aI _) ⟨bM _,[],0,.nil,Heap.get?_push_size _ rfl⟩
 have hsz3:(s2.heap.push {cls:=.type "list",dict:=none,data:=.seq ([]:List ae).toArray}).objs.size=s2.heap.objs.size+1:=Heap.size_push ..;generalize hs3:({s2 with heap:=s2.heap.push {cls:=.type "list",dict:=none,data:=.seq ([]:List ae).toArray}}:af)=s3 at I3 ⊢;have hsz:s3.heap.objs.size=s2.heap.objs.size+1:=by rw[<-hs3];exact hsz3
 have st3:tn 0 s3.heap:=T.keep _ _ _ st2 λb hb o e=>by rw[<-hs3];exact Heap.get?_push_of_some _ e
 have f3:∀b∈fp,cR X pins (upd H2 s2.heap.objs.size (.lst [])) b:=λb hb=>⟨by rw[qg (aX (hlt2 b hb))];exact(f2 b hb).1,(f2 b hb).2⟩
 have hlt3:∀b∈fp,b<s3.heap.objs.size:=λb hb=>by rw[hsz];exact cJ (hlt2 b hb)
 refine v_ λh₁ hns₁ hk1 hcs=>?_
 have IY:=uc (tk:=s3.toks) I3 S hsub hall f3 hlt3 hns₁ hk1 hcs;have stY:tn 0 h₁:=T.keep _ _ _ st3 λb hb o e=>hk1 b o e
 obtain⟨pg,pt,pb⟩:=hb cl s3.heap.objs.size s3 (upd H2 s2.heap.objs.size (.lst [])) fp;have fY:∀b∈fp,cR (zY X NY scope cl s3.heap.objs.size s3 (upd H2 s2.heap.objs.size (.lst [])) fp) [] (upd H2 s2.heap.objs.size (.lst [])) b:=λb hb=>by
  obtain⟨g0,g1,g2,g3,g4,g5⟩:=f3 b hb;refine⟨g0,aX (hlt3 b hb),λz=>?_,.inl hb,(IY.ok.exf b hb).2,λp hp=>absurd (show p∈([]:List (Addr×Obj))from hp) (by simp)⟩;rcases aL.mp (I3.stkSub b z)with w|w
  ·exact g1 w
  ·exact g2 w
 have L:=Af (elt:=elt) (gens:=⟨tgt,it,ifs,0⟩::gs) (scope:=scope) (pos:=pos) (d:=0) (Y:=zY X NY scope cl s3.heap.objs.size s3 (upd H2 s2.heap.objs.size (.lst [])) fp) (acc:=.ref s2.heap.objs.size) hc (λ_ _ z=>z) rfl rfl
  (λg' hg'=>hng g' (List.mem_of_getElem? (i:=0) (by simpa using hg'))) T pg pt (pb s2.heap.objs.size) IY stY fY (q s2.heap.objs.size hacc)
 refine codeAny_mono (BS (elt:=elt) (gens:=⟨tgt,it,ifs,0⟩::gs) (scope:=scope) (pos:=pos) (d:=0) (env:=compEnvC scope (a_ (s3.heap.objs.size+1) scope.names []++cl) s3.heap.objs.size X.env) rfl rfl L (T.self _ 0 _ _ _ stY L)) λr s' ⟨e,τ',H',I',q'⟩=>?_
 subst e;obtain⟨m',hn',_⟩:=id I'.loc;have hLne:s3.heap.objs.size≠X.env.locals:=Nat.ne_of_gt I3.lt;have hCne:∀x c,X.env.cells.lookup x=some c->c≠s3.heap.objs.size:=λx c e z=>by
  obtain⟨v,qv⟩:=I3.cell x c e;exact absurd qv.lt (by rw[z];exact bL _)
 have J1:Inv X pins σ H' s':=by
  refine I3.call' (ch:=fp) I'.os I'.base I'.hok I'.bare λb hb=>?_
  obtain⟨g0,g1,g2,g3,g4,g5⟩:=f3 b hb;exact⟨g3,g1,g4,g5⟩
 refine fin s2.heap.objs.size s3.heap.objs.size s' m' H' hn' ⟨hLne,hCne,I3.sz,λp hp z=>?_⟩ J1 I'.free q';have:=aJ (I3.pin p hp).1;rw[z]at this;exact bL _ this
theorem xW(hc:X.calm=true)(S:dg X NY cap scope)(hi:PI X tgt it wi)
  (hb:∀cl C s₀ H₀ fp,PG (zY X NY scope cl C s₀ H₀ fp) tgt tg/\PTs (zY X NY scope cl C s₀ H₀ fp) ifs tt/\∀acc,PB (zY X NY scope cl C s₀ H₀ fp) (ef elt (⟨tgt,it,ifs,0⟩::gs) scope pos 0 (.ref acc) (zY X NY scope cl C s₀ H₀ fp).env) (tb acc))
  (hng:∀g'∈gs,g'.is_async=0:=by simp)
  (hs:∀x,foldedSetIterable it X.env x=pure x:=by intro _;rfl):PE X (.ListComp elt (⟨tgt,it,ifs,0⟩::gs) scope pos) (jD cap wi tg tt tb):=by
 intro pins s σ H Q I h;obtain⟨cl,hcl,hsub,hall⟩:=nW (env:=X.env) (scope:=scope) λx hx hf=>I.ok.has x.1 (S.free x hx hf)
 rw[eval_ListComp];refine wpAny_comprehension_free (use:=none) rfl hs hcl S.kind S.names (thn (hi pins s σ H _ I h) λv s1 h1=>thn h1 λitv s2 h2=>?_);exact lq (s:=s) (H:=H) (use:=none) hc S hng hsub hall hb h2 λacc C s' m H' hn L I' hC q=>⟨m,hn,λh' hs'=>⟨.ref acc,H',L.turn I' hC hs',rfl,q⟩⟩
theorem uL{i:Nat}{x:Str}{pos' spos:Pos}(hN:X.N.Nodup)(hix:X.N[i]? = some x)(hx:Loc X.env.scope x)(hc:X.calm=true)(S:dg X NY cap scope)(hi:PI X tgt it wi)
  (hb:∀cl C s₀ H₀ fp,PG (zY X NY scope cl C s₀ H₀ fp) tgt tg/\PTs (zY X NY scope cl C s₀ H₀ fp) ifs tt/\∀acc,PB (zY X NY scope cl C s₀ H₀ fp) (ef elt (⟨tgt,it,ifs,0⟩::gs) scope pos 0 (.ref acc) (zY X NY scope cl C s₀ H₀ fp).env) (tb acc))
  (hng:∀g'∈gs,g'.is_async=0:=by simp)
  (hsw:swapsWith (.ListComp elt (⟨tgt,it,ifs,0⟩::gs) scope pos) (some (.Name x pos')) spos.line X.env=pure true:=by rfl)
  (hf:X.fn x=true\/X.env.scope.names.lookup x=some .local:=by first|exact .inl rfl|exact .inr rfl|assumption)
  (hs:∀x,foldedSetIterable it X.env x=pure x:=by intro _;rfl) :
  PS X (.Assign [.Name x pos'] (.ListComp elt (⟨tgt,it,ifs,0⟩::gs) scope pos) spos) (i5 (jD cap wi tg tt tb) (eJ i)):=by
 intro pins s σ H D I h;obtain⟨cl,hcl,hsub,hall⟩:=nW (env:=X.env) (scope:=scope) λx hx hf=>I.ok.has x.1 (S.free x hx hf)
 rw[exec_Assign_Name_used _ _ _ _ hsw];refine ao (wpAny_standAt (ao ?_));show ak _ _ (do let _ <-comprehension (.ListComp elt (⟨tgt,it,ifs,0⟩::gs) scope pos) scope X.env _ (newList []) false (eval it X.env) (some (assign (.Name x pos') X.env))) _ _ s;refine ao (bC (wpAny_comprehension_free (use:=some (assign (.Name x pos') X.env)) (Q:=λ_ s'=>SP X pins D .next s') rfl hs hcl S.kind S.names (thn (hi pins s σ H _ I h) λv s1 h1=>thn h1 λitv s2 h2=>?_)) (λ_ s' q=>aC (aC q)) λ_ _ e=>e);refine lq (s:=s) (H:=H) (Q:=λx H1=>eJ i x σ H1 D.nx) (use:=some (assign (.Name x pos') X.env)) hc S hng hsub hall hb h2 λacc C s' m H' hn L I1 hC q1=>?_
 show ak _ _ (assign (.Name x pos') X.env (.ref acc)) _ _ _;refine wpAny_assign_Name (nK (v:=.ref acc) I1 hN hix hx rfl (λs3 I3 ⟨a,hsa,ha⟩=>?_) hf);have hCa:C≠a:=by
  rcases ha with z|z
  ·rw[z];exact L.loc
  ·exact Ne.symm (L.cell x a z)
 exact⟨m,hn.sameBut hsa hCa,λh' hsb=>⟨_,H',L.turn I3 hC hsb,q1⟩⟩
end
theorem zN.there{P:aw}{w:av}{H:Hp}{h:Heap}{a:Addr}{o:HO}(x:zN P w H h a o):∃u,h.get? a=some u:=by
 cases o with
 |lst xs=>obtain⟨_,_,_,_,e⟩:=x;exact⟨_,e⟩
 |tup xs=>obtain⟨_,_,_,o,e,_⟩:=x;exact⟨_,e⟩
 |dK kvs=>obtain⟨_,_,_,_,o,_,_,e,_⟩:=x;exact⟨_,e⟩
 |dT kvs=>obtain⟨_,_,_,_,o,_,_,e,_⟩:=x;exact⟨_,e⟩
 |set S n=>obtain⟨o,_,_,_,e,_⟩:=x;exact⟨_,e⟩
 |ins C dx fs=>obtain⟨_,_,_,e,_⟩:=x;exact⟨_,e⟩
 |own y=>obtain⟨_,e⟩:=x;exact⟨_,e⟩
 |xd fs=>obtain⟨_,⟨_,_,_,e,_⟩,_⟩:=x;exact⟨_,e⟩
 |rng lo hi=>obtain⟨_,_,_,e⟩:=x;exact⟨_,e⟩
 |frz ob u=>obtain⟨e,_⟩:=x;exact⟨_,e⟩
 |tbl ps=>exact⟨_,(show h.get? a=some _ from x)⟩
 |met f y=>exact⟨_,(show h.get? a=some _ from x)⟩
 |ext φ=>obtain⟨_,e,_⟩:=x;exact e
theorem HOk.free_of{P:aw}{w:av}{H:Hp}{h:Heap}{a:Addr}(x:HOk P w H h)(e:h.get? a=none):H a=none:=by
 cases q:H a with
 |none=>rfl
 |some o=>obtain⟨u,z⟩:=(x a o q).there;rw[e]at z;cases z
structure Apart(X:Cx)(pins:List (Addr×Obj))(H:Hp)(b:Addr):Prop where
 new:X.s₀.heap.get? b=none
 free:H b=none
 pin:∀p∈X.pn++pins,p.1≠b
structure cg(X:Cx)(pins:List (Addr×Obj))(H:Hp)(h:Heap)(x:Addr)(cls:ae):Prop where
 me:Apart X pins H x
 tr:∃oe vs T oT ts a0,h.get? x=some oe/\oe.cls=cls/\vs[0]? = some a0/\oe.data=.fields vs/\vs[1]? = some (.ref T)/\T≠x/\h.get? T=some oT/\oT.data=.fields ts/\ts[3]? = some .none/\Apart X pins H T
structure Fly(h₀ h:Heap)(H:Hp)(x:Addr)(cls:ae):Prop where
 new:h₀.get? x=none
 free:H x=none
 tr:∃oe vs T oT ts a0,h.get? x=some oe/\oe.cls=cls/\vs[0]? = some a0/\oe.data=.fields vs/\vs[1]? = some (.ref T)/\T≠x/\h.get? T=some oT/\oT.data=.fields ts/\ts[3]? = some .none/\h₀.get? T=none/\H T=none
noncomputable def CX1(P:aw)(w:av):CXT:=λouter H s E e s'=>
 ∃x cls H',e=.ref x/\s'.os=s.os/\AllBare s'.gens/\Un (frs outer) [] H H' s.heap s'.heap/\HOk P w H' s'.heap/\Fly s.heap s'.heap H' x cls/\E cls none H'
section
variable{X:Cx}{pins:List (Addr×Obj)}{σ:St}{H:Hp}{s:af}{x T:Addr}{cls:ae}
theorem Inv.stepN{h':Heap}{t':Nat}{ch:List Addr}(I:Inv X pins σ H s)(hex:X.ex=[])(hch:∀b∈ch,Apart X pins H b/\b≠X.env.locals/\(∀x c,X.env.cells.lookup x=some c->c≠b)/\b∉X.fs)
  (keep:∀b o,b∉frs X.stack->b≠X.env.locals->b∉X.fs->b∉ch->s.heap.get? b=some o->h'.get? b=some o)
  (slot:∀b o,(b∈frs X.stack\/b=X.env.locals\/b∈X.fs)->s.heap.get? b=some o->∃sl,h'.get? b=some {o with slots:=sl}) (there:∀b o,b∉ch->s.heap.get? b=some o->∃o',h'.get? b=some o') :
  Inv X pins σ H {s with heap:=h',toks:=t'}:=by
 have sub:∀b,b∈frs X.stack->b=X.env.locals\/b∈X.fs:=λb hb=>aL.mp (I.stkSub b hb)
 have keep':∀b o,b≠X.env.locals->b∉X.fs->b∉ch->s.heap.get? b=some o->h'.get? b=some o:=λb o h1 h2 h3 e=>keep b o (λz=>(sub b z).elim h1 h2) h1 h2 h3 e
 have neL:∀b o,X.s₀.heap.get? b=some o->b≠X.env.locals:=λb o e=>aX (bw (aJ e) I.ok.above)
 have neC:∀b o,X.s₀.heap.get? b=some o->b∉ch:=λb o e hb=>by
  have:=(hch b hb).1.new;rw[e]at this;cases this
 have cellK:∀x c,X.env.cells.lookup x=some c->∀v,s.heap.IsCell c v->h'.IsCell c v:=λx c e v ⟨o,ho,hd⟩=>by
  have nch:c∉ch:=λz=>(hch c z).2.2.1 x c e rfl
  by_cases hc:c∈X.fs
  ·obtain⟨sl,q⟩:=slot c o (.inr (.inr hc)) ho;exact⟨_,q,hd⟩
  ·exact⟨o,keep' c o (I.cne x c e) hc nch ho,hd⟩
 have nex:∀b,b∉X.ex:=λb=>by rw[hex];simp
 refine⟨I.ok,I.os,I.bare,⟨λb o e n hb hx=>?_,λb o e n hb hx=>?_,I.base.free,λb o e hx=>?_,I.base.tups,I.base.frzs,I.base.tbls⟩,?_,λx c e=>?_,I.free,I.freeC,λp hp=>?_,λb u e=>?_,I.len⟩
 ·exact keep' b o (neL b o e) hb (neC b o e) (I.base.keep b o e n hb hx)
 ·obtain⟨sl,e1⟩:=I.base.slot b o e n hb hx;obtain⟨sl',e2⟩:=slot b _ (.inr (.inr hb)) e1;exact⟨sl',e2⟩
 ·obtain⟨o',e1⟩:=I.base.there b o e hx;exact there b o' (neC b o e) e1
 ·obtain⟨m,hn,hl⟩:=I.loc;obtain⟨oL,es,ep,hoL,hdL,r⟩:=id hn;obtain⟨sl,eL⟩:=slot _ _ (.inr (.inl rfl)) hoL;refine⟨m,⟨_,es,ep,eL,hdL,r⟩,λi x v e1 e2 e3=>?_⟩;obtain⟨u,ru,l⟩:=hl i x v e1 e2 e3;refine⟨u,ru,?_⟩;rcases l with l|⟨k,c,e,z⟩
  ·exact .inl l
  ·exact .inr ⟨k,c,e,cellK x c e _ z⟩
 ·obtain⟨v,z⟩:=I.cell x c e;exact⟨v,cellK x c e v z⟩
 ·obtain⟨e,n,ne,nf,d⟩:=I.pin p hp;exact⟨keep' p.1 p.2 ne nf (λz=>(hch p.1 z).1.pin p hp rfl) e,n,ne,nf,d⟩
 ·have nfr:∀b,(∃u,H b=some u)->b≠X.env.locals/\b∉X.fs/\b∉ch:=λb ⟨u,e⟩=>by
   refine⟨λz=>?_,λz=>?_,λz=>?_⟩
   ·rw[z,I.free]at e;cases e
   ·obtain⟨_,o,ho,_⟩:=I.ok.funs.mem z;have:=I.base.free b o ho (I.ok.frf b z) (nex b);rw[e]at this;cases this
   ·have:=(hch b z).1.free;rw[e]at this;cases this
  refine(I.hok b u e).stay (λc v hc q=>?_) (λ_ q=>q) λ_ _ q=>q
  have hc':∃u,H c=some u:=by
   rcases hc with z|z
   ·exact⟨u,by rw[z];exact e⟩
   ·exact⟨_,z⟩
  obtain⟨n1,n2,n3⟩:=nfr c hc';exact keep' c v n1 n2 n3 q
theorem Inv.rec_ne(I:Inv X pins σ H s){b:Addr}{o:Obj}{vs:Array ae}(e:s.heap.get? b=some o)(d:o.data=.fields vs):b≠X.env.locals/\(∀x c,X.env.cells.lookup x=some c->c≠b)/\b∉X.fs/\b∉frs X.stack:=by
 have h1:b≠X.env.locals:=λz=>by
  obtain⟨m,⟨o',es,ep,ho,hd,_⟩,_⟩:=I.loc;rw[<-z,e]at ho;cases ho;rw[d]at hd;cases hd
 have h3:b∉X.fs:=λz=>by
  obtain⟨_,o',ho,hn⟩:=I.funs.mem z;rw[e]at ho;cases ho;exact hn vs d
 refine⟨h1,λx c ec z=>?_,h3,λz=>(aL.mp (I.stkSub b z)).elim h1 h3⟩;obtain⟨v,o',ho,hd⟩:=I.cell x c ec;rw[z,e]at ho;cases ho;rw[d]at hd;cases hd
theorem cg.flying(I:Inv X pins σ H s)(F:cg X pins H s.heap x cls):∃T oT ts a0,Heap.FlyingW (PySem.W.hideAll s.heap (x::T::frs X.stack)) X.stack x cls a0 s.heap/\s.heap.get? T=some oT/\oT.data=.fields ts/\Apart X pins H T:=by
 obtain⟨oe,vs,T,oT,ts,a0,e1,e2,e3,e4,e5,e6,e7,e8,e9,e10⟩:=F.tr;refine⟨T,oT,ts,a0,⟨λb o q=>PySem.W.of_hideAll _ q,PySem.W.hideAll_none _ aR,?_,oe,vs,T,oT,ts,e1,⟨e2,e3⟩,e4,e5,PySem.W.hideAll_none _ (aP _ aR),e6,e7,e8,e9⟩,e7,e8,e10⟩;exact PySem.W.funFrames_hide I.stack λenv he a ha=>aP _ (aP _ (List.mem_filterMap.mpr ⟨env,he,ha⟩))
theorem cg.back(I:Inv X pins σ H s)(hex:X.ex=[])(me:Apart X pins H x){ox:Obj}{vs:Array ae}(hx:s.heap.get? x=some ox)(hxd:ox.data=.fields vs){oT:Obj}{ts:Array ae}(hT:s.heap.get? T=some oT)(hTd:oT.data=.fields ts)(aT:Apart X pins H T)
  {l:List Env}{a0:ae}{h':Heap} (W:Heap.FlyingW (PySem.W.hideAll s.heap (x::T::frs X.stack)) l x cls a0 h') (u:s.heap.UpToSlots h') :
  Inv X pins σ H {s with heap:=h'}/\cg X pins H h' x cls:=by
 obtain⟨w1,w2,w3,oe',vs',T',oT',ts',f1,⟨f2,f3⟩,f4,f5,f6,f7,f8,f9,f10⟩:=W;obtain⟨nx1,nx2,nx3,nx4⟩:=I.rec_ne hx hxd;obtain⟨nt1,nt2,nt3,nt4⟩:=I.rec_ne hT hTd;have frd:∀b o,(b∈frs X.stack\/b=X.env.locals\/b∈X.fs)->s.heap.get? b=some o->∀ws,o.data≠.fields ws:=λb o hb e ws d=>by
  obtain⟨n1,n2,n3,n4⟩:=I.rec_ne e d;rcases hb with z|z|z
  ·exact n4 z
  ·exact n1 z
  ·exact n3 z
 have nch:∀b,b∉[x,T]->b∉frs X.stack->b∉(x::T::frs X.stack):=λb h1 h2 h3=>by
  rcases aL.mp h3 with z|h3
  ·exact h1 (by simp[z])
  ·rcases aL.mp h3 with z|h3
   ·exact h1 (by simp[z])
   ·exact h2 h3
 refine⟨?_,me,oe',vs',T',oT',ts',a0,f1,f2,f3,f4,f5,f7,f8,f9,f10,?_⟩
 ·refine I.stepN (t':=s.toks) (ch:=[x,T]) hex (λb hb=>?_) (λb o h1 h2 h3 h4 e=>w1 b o (cX _ e (nch b h4 h1))) (λb o hb e=>u b o e (frd b o hb e)) λb o h4 e=>?_
  ·rcases aL.mp hb with z|hb
   ·subst z;exact⟨me,nx1,nx2,nx3⟩
   ·have z:b=T:=by simpa using hb
    subst z;exact⟨aT,nt1,nt2,nt3⟩
  ·by_cases hb:b∈frs X.stack
   ·obtain⟨sl,q⟩:=u b o e (frd b o (.inl hb) e);exact⟨_,q⟩
   ·exact⟨o,w1 b o (cX _ e (nch b h4 hb))⟩
 ·by_cases hTT:T'=T
  ·rw[hTT];exact aT
  ·by_cases hTf:T'∈frs X.stack
   ·obtain⟨_,o,ho,hn⟩:=I.stack.mem hTf;obtain⟨sl,q⟩:=u T' o ho hn;rw[q]at f8;have z:({o with slots:=sl}:Obj)=oT':=bJ f8;subst z;exact absurd f9 (hn ts')
   ·have hnone:s.heap.get? T'=none:=by
     cases q:s.heap.get? T' with
     |none=>rfl
     |some o=>
      have:(PySem.W.hideAll s.heap (x::T::frs X.stack)).get? T'=some o:=cX _ q (nch T' (by simp[f7,hTT]) hTf);rw[f6]at this;cases this
    refine⟨?_,I.hok.free_of hnone,λp hp z=>?_⟩
    ·cases q:X.s₀.heap.get? T' with
     |none=>rfl
     |some o=>
      obtain⟨o',e'⟩:=I.base.there T' o q (by rw[hex];simp);rw[hnone]at e';cases e'
    ·have:=(I.pin p hp).1;rw[z,hnone]at this;cases this
theorem mH{P:aw}{w:av}(hP:X.prog=P)(hw:X.w=w)(I:Inv X pins σ H s)(hex:X.ex=[]){E:XK}{e:ae}{s':af}(h:CX1 P w X.stack H s E e s') :
  ∃x cls H',e=.ref x/\Inv X pins σ H' s'/\cg X pins H' s'.heap x cls/\E cls none H':=by
 subst hP hw;obtain⟨x,cls,H',rfl,os,bare,un,hok,F,q⟩:=h;have ap:∀b,s.heap.get? b=none->H' b=none->Apart X pins H' b:=λb h1 h2=>by
  refine⟨?_,h2,λp hp z=>?_⟩
  ·cases q:X.s₀.heap.get? b with
   |none=>rfl
   |some o=>
    obtain⟨o',e'⟩:=I.base.there b o q (by rw[hex];simp);rw[h1]at e';cases e'
  ·have:=(I.pin p hp).1;rw[z,h1]at this;cases this
 obtain⟨oe,vs,T,oT,ts,a0,e1,e2,e3,e4,e5,e6,e7,e8,e9,e10,e11⟩:=F.tr;exact⟨x,cls,H',rfl,I.call' (ch:=[]) os un hok bare (λb z=>absurd z (by simp)),⟨ap x F.new F.free,oe,vs,T,oT,ts,a0,e1,e2,e3,e4,e5,e6,e7,e8,e9,ap T e10 e11⟩,q⟩
theorem cg.leaves(I:Inv X pins σ H s)(hex:X.ex=[]){env:Env}{outer:List Env}(hst:X.stack=X.env::X.outer)(hfr:X.env.frame=some X.env.locals)(F:cg X pins H s.heap x cls){E:XK}(q:E cls none H)
  {EE:ae->af->Prop}:ak (ah X.prog X.w) X.A (leaving X.env (.ref x)) (λ_ s''=>CX1 X.prog X.w X.outer X.H₀ X.s₀ E (.ref x) s'') EE s:=by
 obtain⟨oe,vs,_,_,_,_,e1,_,_,e4,_⟩:=id F.tr;obtain⟨T,oT,ts,a0,W,hT,hTd,aT⟩:=cg.flying I F;have hfrm:=I.ok.frames;rw[hst]at hfrm W;refine wpAny_leaves_onW hfrm hfr W λh' W' u=>?_
 rw[<-hst]at W';obtain⟨I',F'⟩:=cg.back I hex F.me e1 e4 hT hTd aT W' u;obtain⟨oe',vs',T',oT',ts',a0',f1,f2,f3,f4,f5,f6,f7,f8,f9,f10⟩:=F'.tr;have hb:=I'.base;rw[hex]at hb;exact⟨x,cls,H,rfl,I'.os,I'.bare,hb,I'.hok,⟨F'.me.new,F'.me.free,oe',vs',T',oT',ts',a0',f1,f2,f3,f4,f5,f6,f7,f8,f9,f10.new,f10.free⟩,q⟩
end
section
variable{P:aw}{w:av}{K:ar}{mg:Str->Option ae}{base:Heap}{N:List Str}{qual:Str}{scope:aS}{f:Addr}{cd:ae}{A:ay}{outer:List Env}{s₀:af}{H₀:Hp}{E:XK}
theorem wN:Passes (CX1 P w) (dk (CX1 P w) P w K mg base N qual scope f cd A outer s₀ H₀ E) E:=by
 intro pins σ H s e s' I h;obtain⟨x,cls,H',rfl,I',F,q⟩:=mH rfl rfl I rfl h;exact cg.leaves (env:=(dk (CX1 P w) P w K mg base N qual scope f cd A outer s₀ H₀ E).env) (outer:=outer) I' rfl rfl rfl F q
theorem kq{X:Cx}(hP:X.prog=P)(hw:X.w=w):Passes (CX1 P w) X E0:=by
 intro pins σ H s e s' I h;obtain⟨x,cls,H',rfl,_,_,_,_,_,q⟩:=h;exact q.elim
noncomputable def Throws(X:Cx)(E:XK):Prop:=∀(pins:List (Addr×Obj)) (σ:St) (H:Hp) (s:af) (h':Heap) (e:Addr) (cls:ae) (args:List ae),Inv X pins σ H s->Heap.MadeExcOf s.heap h' e cls args->E cls none H->X.xe (.ref e) {s with heap:=h'}
theorem pX:Throws (dk (CX1 P w) P w K mg base N qual scope f cd A outer s₀ H₀ E) E:=by
 intro pins σ H s h' e cls args I M q;generalize hX:dk (CX1 P w) P w K mg base N qual scope f cd A outer s₀ H₀ E=X at I;have hex:X.ex=[]:=by rw[<-hX];rfl
 have hst:X.stack=X.env::X.outer:=by rw[<-hX];rfl
 have hfr:X.env.frame=some X.env.locals:=by rw[<-hX];rfl
 have hxe:X.xe=λe s'=>ak (ah X.prog X.w) X.A (leaving X.env e) (λ_ s''=>CX1 X.prog X.w X.outer X.H₀ X.s₀ E e s'') (λe' s''=>CX1 X.prog X.w X.outer X.H₀ X.s₀ E e' s'') s':=by rw[<-hX];rfl
 rw[hxe];have hfrm:=I.ok.frames;have hstk:=I.stack;have hB:(PySem.W.hideAll s.heap (frs X.stack)).StaysIn s.heap:=λb o q=>PySem.W.of_hideAll _ q
 have hF:=PySem.W.funFrames_hide (as:=frs X.stack) hstk λenv he a ha=>List.mem_filterMap.mpr ⟨env,he,ha⟩
 rw[hst]at hfrm;have hF':s.heap.FunFrames (PySem.W.hideAll s.heap (frs X.stack)) (X.env::X.outer):=by rw[<-hst];exact hF
 refine wpAny_leaves_madeW (s:={s with heap:=h'}) hfrm hfr hB hF' M λh'' t W ht ht0 u=>?_
 obtain⟨w1,w2,w3,oe',vs',T',oT',ts',f1,⟨f2,f3⟩,f4,f5,f6,f7,f8,f9,f10⟩:=W;have frd:∀b o,(b∈frs X.stack\/b=X.env.locals\/b∈X.fs)->s.heap.get? b=some o->∀ws,o.data≠.fields ws:=λb o hb e ws d=>by
  obtain⟨n1,n2,n3,n4⟩:=I.rec_ne e d;rcases hb with z|z|z
  ·exact n4 z
  ·exact n1 z
  ·exact n3 z
 have slot:∀b o,(b∈frs X.stack\/b=X.env.locals\/b∈X.fs)->s.heap.get? b=some o->∃sl,h''.get? b=some {o with slots:=sl}:=λb o hb e=>u b o (M.keeps b o e) (frd b o hb e)
 have I':Inv X pins σ H {s with heap:=h''}:=I.stepN (t':=s.toks) (ch:=[]) hex (λb hb=>absurd hb (by simp)) (λb o h1 _ _ _ e=>w1 b o (cX _ e h1)) slot λb o _ e=>by
  by_cases hb:b∈frs X.stack
  ·obtain⟨sl,q⟩:=slot b o (.inl hb) e;exact⟨_,q⟩
  ·exact⟨o,w1 b o (cX _ e hb)⟩
 have ap:∀b,s.heap.get? b=none->X.s₀.heap.get? b=none/\H b=none:=λb h1=>by
  refine⟨?_,I.hok.free_of h1⟩;cases q:X.s₀.heap.get? b with
  |none=>rfl
  |some o=>
   obtain⟨o',e'⟩:=I.base.there b o q (by rw[hex];simp);rw[h1]at e';cases e'
 have hT:s.heap.get? T'=none:=by
  by_cases hTf:T'∈frs X.stack
  ·obtain⟨_,o,ho,hn⟩:=hstk.mem hTf;obtain⟨sl,q⟩:=slot T' o (.inl hTf) ho;rw[q]at f8;have z:({o with slots:=sl}:Obj)=oT':=bJ f8;subst z;exact absurd f9 (hn ts')
  ·cases q:s.heap.get? T' with
   |none=>rfl
   |some o=>
    have:(PySem.W.hideAll s.heap (frs X.stack)).get? T'=some o:=cX _ q hTf;rw[f6]at this;cases this
 have hb:=I'.base;rw[hex]at hb;exact⟨e,cls,H,rfl,I'.os,I'.bare,hb,I'.hok,⟨(ap e M.new).1,(ap e M.new).2,oe',vs',T',oT',ts',.ref t,f1,f2,f3,f4,f5,f7,f8,f9,f10,(ap T' hT).1,(ap T' hT).2⟩,q⟩
end
abbrev el:List Value:=[.type "ValueError",.type "Exception",.type "BaseException",.type "object"]
noncomputable def jd(K:ar)(C:Addr):Prop:=PySem.W.excIn K C el "ValueError.__new__" = true
theorem An{K:ar}{h:Heap}{C:Addr}{bmB:List ae}{newId:String}(Z:K.In h)(q:PySem.W.excIn K C bmB newId=true) :
  ∃bm N nm qn bs hdct sn sub ab col dd k0 k1 k2 k3 k5 mN,h.get? C=some (excClassObj nm qn C N bs bm hdct sn sub ab col dd k0 k1 k2 k3 k5 newId)/\h.Ns N mN/\mN "__init__" = none/\OwnTail h bmB bm:=by
 unfold PySem.W.excIn at q;split at q
 ·rename_i dict cdat slots look
  split at q
  ·rename_i C2 bm2 j0 j1 j2 j3 nid j5 hmro hslots
   simp only[aF,beq_iff_eq,ba]at q;obtain⟨⟨⟨⟨⟨rfl,rfl⟩,nodel⟩,tl⟩,nsok⟩,noinit⟩:=q;obtain⟨c1,c2,c3,c4,c5,c6,c7,c8,c9,c10,c11⟩:=cdat;dsimp only at hmro nodel nsok noinit;subst hmro nodel;have hsl:slots = #[j0,j1,j2,j3,some (.builtin nid),j5]:=by
    obtain⟨sl⟩:=slots;simp only at hslots;rw[hslots]
   subst hsl;exact⟨bm2,c4,c1,c5,c2,c6,c7,c8,c9,c10,dict,j0,j1,j2,j3,j5,_,Z _ _ look,.of_isNs (PySem.W.isNs_of_in Z nsok),PySem.W.nsMap_none_of_in Z nsok noinit,PySem.W.tail_of_in Z tl⟩
  ·cases q
 ·cases q
section
variable{X:Cx}{C:Addr}{x:Str}{E:XK}{t:TA}{e:Expr}{es:List Expr}{np cpos pos:Pos}
noncomputable def Bv(C:Addr)(E:XK)(t:TA):TS:=λ_ σ H=>t σ H λvs H1=>vs.length<=aH/\E (.ref C) none H1
theorem sJ(hc:X.calm=true)(hT:Throws X E)(hC:jd X.K C)(hg:Gl X x)(hm:X.mg x=some (.ref C))(ha:PA X (e::es) t)(hd:(x==("__debug__" : Str))=false:=by decide)
  (he:aO (e::es) X.env=(false,eval e X.env)::aO es X.env:=by rfl) (hpl:(backTo cpos (aO es X.env)).any (·.1)=false:=by rfl) :
  PS X (.Raise (some (.Call (.Name x np) (e::es) [] cpos)) none pos) (Bv C E t):=by
 intro pins s σ H D I h;obtain⟨bm,N,nm,q,bs,hdct,sn,sub,ab,col,dd,k0,k1,k2,k3,k5,mN,hO,hN,hni,T⟩:=An I.mod.kin hC;refine wpAny_Raise_call_subT (C:=C) (nm:=nm) (q:=q) (N:=N) (bs:=bs) (bm:=bm) (hdct:=hdct) (sn:=sn) (sub:=sub) (ab:=ab) (col:=col) (dd:=dd) (k0:=k0) (k1:=k1) (k2:=k2) (k3:=k3) (k5:=k5)
  PySem.F.excBase_ValueError (mN:=mN) (T.hasType PySem.F.excBase_ValueError.hasBase) (I.ok.hd hc) ?_ hni (fJ I hg hm ⟨rfl,?_⟩ hd)
 ·rw[he];show (false||(backTo cpos (aO es X.env)).any (·.1))=false;rw[hpl];rfl
 ·have ha':=ha cpos pins s σ H _ I h;rw[he]at ha' ⊢;exact Calls.evalArgs_plain (thn ha' λus s1 ⟨vs,H1,I1,r,z,q⟩=>⟨rfl,by rw[<-r.length];exact z,I1.bk _ _ hO,hN.keeps I1.bk,T.keeps I1.bk,λh' e' M=>hT pins σ H1 s1 h' e' _ _ I1 M q⟩)
end
structure gO(k:Nat)(A:ay):Prop where
 dp:A.depth+3 * k+5<recursionLimit
 un:A.units+16 * k+200<cLine
theorem b8.u{k:Nat}{A:ay}(r:b8 k A):gO k A:=⟨r.dp,r.un⟩
structure jN(P:aw)(w:av)(K:ar)(mg:Str->Option ae)(base:Heap)(CX:CXT)(k:Nat)(f:Addr)(fd:FuncData)(ps:List Str)(sp:Sp):Prop where
 len:∀vs H Q E,sp vs H Q E->vs.length=ps.length
 run:∀(A:ay) (outer:List Env) (s:af) (H:Hp) (args:Args) (us:List ae) (vs:List V) (Q:VK) (E:XK),gO k A->iq P w K mg base A outer s H->BindsTo s fd args (ps.zip us)->Vals vs us->sp vs H Q E ->
  codeAny (ah P w) A (.call (.ref f) args) (CR CX outer P w H s Q E) s
section
variable{CX:CXT}{P:aw}{w:av}{K:ar}{mg:Str->Option ae}{base:Heap}{k:Nat}{f:Addr}{fd:FuncData}{ps:List Str}{sp:Sp}
end
section
variable{X:Cx}{CX:CXT}{k:Nat}{f:Addr}{fd:FuncData}{ps:List Str}{sp:Sp}{dvs:List V}{ds:List ae}{E:XK}{x:Str}{p pos:Pos}{e:Expr}{es:List Expr}{t:TA}
theorem uo{pins:List (Addr×Obj)}{σ:St}{H:Hp}{s:af}{Q:VK}{us:List ae}{vs:List V}(F:jN X.prog X.w X.K X.mg X.base CX k f fd ps sp)(hr:gO k X.A)(hb:Binds X.K fd ps ds)(hd:Vals dvs ds)(hx:Passes CX X E)
  (I:Inv X pins σ H s) (r:Vals vs us) (h:sp (vs++dvs) H Q E):ak (ah X.prog X.w) X.A (call (.ref f) us) (EP X pins σ Q) X.xe s:=by
 have r2:Vals (vs++dvs) (us++ds):=r.append hd;have hl:(us++ds).length=ps.length:=by rw[<-r2.length];exact F.len _ _ _ _ h
 refine wpAny_call (codeAny_mono (F.run X.A X.stack s H ⟨us,[]⟩ (us++ds) (vs++dvs) Q E hr I.env0 (hb s us I.kIn hl) r2 h) λr s' hq=>?_);cases r with
 |error e=>exact hx pins σ H s e s' I hq
 |ok fl=>
  cases fl with
  |ret u=>exact I.after hq
  |next=>exact aK hq
  |brk=>exact aK hq
  |cont=>exact aK hq
theorem yE(F:jN X.prog X.w X.K X.mg X.base CX k f fd ps sp)(hr:gO k X.A)(hg:Gl X x)(hm:X.mg x=some (.ref f))(hk:cm X.K (.ref f)=true)(hb:Binds X.K fd ps ds)(hd:Vals dvs ds)(hx:Passes CX X E)
  (ha:PA X (e::es) t) (hdb:(x==("__debug__" : Str))=false:=by decide) (he:aO (e::es) X.env=(false,eval e X.env)::aO es X.env:=by rfl) (hpl:(backTo pos (aO es X.env)).any (·.1)=false:=by rfl) :
  PE X (.Call (.Name x p) (e::es) [] pos) (kc sp dvs E t):=by
 intro pins s σ H Q I h;refine wpAny_Call_Name_kw (fJ I hg hm ?_ hdb);refine PySem.W.callWith_K (h₀:=X.base) I.ok.mod.kin hk (thn (ha pos pins s σ H _ I h) λus s1 ⟨vs,H1,I1,r,q⟩=>⟨I1.kIn,?_⟩) he hpl;exact uo F hr hb hd hx I1 r q
end
noncomputable def fG(x:Addr)(cls:ae):HO:=.ext λh=>∃o vs,h.get? x=some o/\o.cls=cls/\o.data=.fields vs
abbrev Cx.held(X:Cx)(x:Addr):Cx:={X with A:=X.A.mark (some (.ref x)),calm:=false,xe:=λ_ _=>False}
section
variable{X:Cx}{pins:List (Addr×Obj)}{σ:St}{H:Hp}{s:af}
theorem Inv.hold(I:Inv X pins σ H s)(x:Addr):Inv (X.held x) pins σ H s:=
 ⟨⟨I.ok.mod,I.ok.kind,I.ok.glob,I.ok.blt,I.ok.above,I.ok.inj,I.ok.has,I.ok.cab,λz=>absurd z bY,I.ok.frames,I.ok.stk,I.ok.exf,I.ok.bs,I.ok.bsz,I.ok.noex,I.ok.exfs,I.ok.funs,I.ok.frf⟩,
  I.os,I.bare,I.base,I.loc,I.cell,I.free,I.freeC,I.pin,I.hok,I.len⟩
theorem Inv.unhold{x:Addr}(ok:X.Ok)(I:Inv (X.held x) pins σ H s):Inv X pins σ H s:=⟨ok,I.os,I.bare,I.base,I.loc,I.cell,I.free,I.freeC,I.pin,I.hok,I.len⟩
theorem Inv.track(I:Inv X pins σ H s){x:Addr}{o:HO}(hex:X.ex=[])(a:Apart X pins H x)(hl:x≠X.env.locals)(hc:∀y c,X.env.cells.lookup y=some c->c≠x)(ok:zN X.prog X.w (upd H x o) s.heap x o):Inv X pins σ (upd H x o) s:=by
 have nx:∀b u,H b=some u->b≠x:=λb u e z=>by rw[z,a.free]at e;cases e
 refine⟨I.ok,I.os,I.bare,⟨I.base.keep,I.base.slot,λb ob e n h=>?_,I.base.there,λb xs e=>?_,λb ob u e=>?_,λb ps e=>?_⟩,I.loc,I.cell,?_,λy c e=>?_,λp hp=>?_,λb u e=>?_,I.len⟩
 ·rw[qg (λz=>by rw[z,a.new]at e;cases e)];exact I.base.free b ob e n h
 ·have:=I.base.tups b xs e;rw[qg (nx b _ this)];exact this
 ·have:=I.base.frzs b ob u e;rw[qg (nx b _ this)];exact this
 ·obtain⟨more,q⟩:=I.base.tbls b ps e;exact⟨more,by rw[qg (nx b _ q)];exact q⟩
 ·rw[qg (Ne.symm hl)];exact I.free
 ·rw[qg (hc y c e)];exact I.freeC y c e
 ·obtain⟨e,n,r⟩:=I.pin p hp;exact⟨e,by rw[qg (a.pin p hp)];exact n,r⟩
 ·by_cases hb:b=x
  ·subst hb;rw[zP]at e;cases e;exact ok
  ·rw[qg hb]at e;refine(I.hok b u e).stay (λc v _ q=>q) (λc q=>?_) λc xs q=>?_
   ·rw[qg (nx c _ q)];exact q
   ·rw[qg (nx c _ q)];exact q
theorem Inv.forget{h':Heap}{m':Str->Option ae}{t':Nat}(I:Inv X pins σ H s)(hn:h'.Ns X.env.locals m')(hs:Heap.SameBut X.env.locals s.heap h'):Inv X pins (σ.map λ_=>none) H {s with heap:=h',toks:=t'}:=by
 have up:∀b o,X.s₀.heap.get? b=some o->b≠X.env.locals:=λb o e=>aX (bw (aJ e) I.ok.above)
 refine⟨I.ok,I.os,I.bare,⟨λb o e n hb hx=>?_,λb o e n hb hx=>?_,I.base.free,λb o e hx=>?_,I.base.tups,I.base.frzs,I.base.tbls⟩,⟨m',hn,λj y v' e1 e2 e3=>?_⟩,λy c e=>?_,I.free,I.freeC,λp hp=>?_,λb ob e=>?_,by simpa using I.len⟩
 ·exact(hs.2 b (up b o e)).trans (I.base.keep b o e n hb hx)
 ·obtain⟨sl,e1⟩:=I.base.slot b o e n hb hx;exact⟨sl,(hs.2 b (up b o e)).trans e1⟩
 ·obtain⟨o',e1⟩:=I.base.there b o e hx;exact⟨o',(hs.2 b (up b o e)).trans e1⟩
 ·rw[List.getElem?_map]at e2;cases q:σ[j]? with
  |none=>rw[q]at e2;cases e2
  |some z=>rw[q]at e2;cases e2
 ·obtain⟨w',z⟩:=I.cell y c e;exact⟨w',z.sameBut hs (I.cne y c e)⟩
 ·obtain⟨e,n,ne,nf,d⟩:=I.pin p hp;exact⟨(hs.2 p.1 ne).trans e,n,ne,nf,d⟩
 ·refine(I.hok b ob e).stay (λc w' hc q=>(hs.2 c ?_).trans q) (λ_ q=>q) λ_ _ q=>q
  rintro rfl;rcases hc with rfl|hc
  ·rw[I.free]at e;cases e
  ·rw[I.free]at hc;cases hc
end
abbrev Cx.inTry(X:Cx)(pn:List (Addr×Obj))(Et:ae->af->Prop):Cx:={X with pn:=pn,xe:=Et}
end L2
namespace L2
open PySem PySem.Spec PyProof.Rows PySem.W PySem.Calls Builtin Builtin.ObjectAttr Builtin.Getset_descriptor
structure cD(K:Frag)(C:Addr):Prop where
 ga:findIn K (.ref C) "__getattribute__" = some (some (.builtin "BaseException.__getattribute__"))
 gt:findIn K (.ref C) "__getattr__" = some none
 gc:findIn K (.ref C) "__class__" = some (some (.builtin "object.__class__"))
 mb:mroIn K C (.type "BaseException")=some true
 mo:mroIn K C (.type "object")=some true
 cl:∃c dd cd sl,K.lookup C=some ⟨c,dd,.cls cd,sl⟩
section
variable{prog:aw}{w:av}{A:ay}{E:ae->af->Prop}{h:Heap}{g:Array GenState}{d:Drawn}{t:Nat}{os:OsState}{x C:Addr}{K:Frag}
theorem rA{R:Result->af->Prop}{tp:ae}(Z:K.In h)(S:cD K C)(L0:Looks (ah prog w) h (typeOf (.ref x)) (.ref C))(hx:∃o,h.get? x=some o/\o.cls=.ref C)(hq:R (.ok (.ret (.ref C))) ⟨h,g,d,t,os⟩) :
  codeAny (ah prog w) A (.call (.builtin "getset_descriptor.__get__") ⟨[.builtin "object.__class__",.ref x,tp],[]⟩) R ⟨h,g,d,t,os⟩:=by
 have L1:=looks_mroIn (M:=ah prog w) Z S.mo;obtain⟨o,ho,hc⟩:=hx;refine codeAny_call_builtin KF.slot_gs.plain KF.entry_gs (KF.slot_gs.check _ _ _ _ _ _ _ _ KF.type_class (KF.args_gs _ _ _) ?_);unfold Builtin.«getset_descriptor.__get__» descrGet;rw[dga_obj];refine ao (aC ?_);unfold descrGetter descrCheckInstance descrNameAndClass isInstance;simp only[KF.owner_class]
 repeat lk
 refine⟨Code.quiet_builtin _ (by decide +kernel),codeAny_builtin KF.entry_class ?_⟩;unfold Builtin.«object.__class__» shownTypeOf
 repeat lk
 exact hq
theorem vg{M:Model}{nameV:ae}{Q:Unit->af->Prop}(Z:K.In h)(S:cD K C)(L0:Looks M h (typeOf (.ref x)) (.ref C))(hq:Q () ⟨h,g,d,t,os⟩) :
  ak M A (checkBuiltinCall "BaseException.__getattribute__" ⟨[.ref x,nameV],[]⟩) Q E ⟨h,g,d,t,os⟩:=by
 have hk:builtinKind "BaseException.__getattribute__" = some .slot:=by decide +kernel
 have hsplit:splitId "BaseException.__getattribute__" = some ("BaseException","__getattribute__"):=by decide +kernel
 have L1:=looks_mroIn (M:=M) Z S.mb;have ha:=F.args_bexc_ga (.ref x) nameV;simp only[checkBuiltinCall,hk,hsplit];refine ao ?_;unfold isInstance
 repeat (first|assumption|lk|wp_step)
theorem vC{tk:Tok}{Q:Fin->af->Prop}(Z:K.In h)(S:cD K C)(L0:Looks (ah prog w) h (typeOf (.ref x)) (.ref C))(hx:∃o,h.get? x=some o/\o.cls=.ref C)(hq:Q (.done (.ret (.ref C))) ⟨h,g,d,t,os⟩) :
  ak (ah prog w) A (Builtin.«object.__getattribute__» ⟨[.ref x,.str "__class__" tk],[]⟩) Q E ⟨h,g,d,t,os⟩:=by
 have hT5:(⟨h,g,d,t,os⟩:af).TypeIs (.builtin "object.__class__") "getset_descriptor":=F.typeOf_object_class;have L2:=looks_findIn (M:=ah prog w) Z S.gc;have f5:=F.typeOf_object_class;have f6:=F.slot_gs_get.lookup;have f7:=F.slot_gs_set.lookup
 repeat (any_goals (first|assumption|with_reducible refine L0.at ?_|with_reducible refine ao (L0.at ?_)|with_reducible refine L2.at ?_|with_reducible refine ao (L2.at ?_)|wp_step))
 refine rA Z S L0 hx ?_
 repeat (any_goals (first|assumption|wp_step))
theorem Ap{tk:Tok}{Q:ae->af->Prop}(Z:K.In h)(S:cD K C)(L0:Looks (ah prog w) h (typeOf (.ref x)) (.ref C))(hx:∃o,h.get? x=some o/\o.cls=.ref C)(hq:Q (.ref C) ⟨h,g,d,t,os⟩) :
  ak (ah prog w) A (getAttrBy (.ref x) (.str "__class__" tk) false) Q E ⟨h,g,d,t,os⟩:=by
 have f3:=F.attr_ValueError.ga.bind (.ref x);have hx2:(ae.builtin "BaseException.__getattribute__" == ae.builtin "object.__getattribute__")=false:=by decide +kernel
 have hx1:(onTheHeap (a8 C)&&ae.builtin "BaseException.__getattribute__" == ae.builtin "object.__getattribute__")=false:=by rw[hx2];rfl
 have L2:=looks_findIn (M:=ah prog w) Z S.ga;have L3:=looks_findIn (M:=ah prog w) Z S.gt
 repeat (any_goals (first|assumption|with_reducible refine L0.at ?_|with_reducible refine ao (L0.at ?_)|with_reducible refine L2.at ?_|with_reducible refine ao (L2.at ?_)|with_reducible refine L3.at ?_|with_reducible refine ao (L3.at ?_)|wp_step))
 refine codeAny_call_builtin F.attr_ValueError.ga.plain F.entry_bexc_ga (vg Z S L0 (vC Z S L0 hx ?_))
 repeat (any_goals (first|assumption|wp_step))
theorem AF{Q:Option ae->af->Prop}(Z:K.In h)(S:cD K C)(L0:Looks (ah prog w) h (typeOf (.ref x)) (.ref C))(hx:∃o,h.get? x=some o/\o.cls=.ref C)(hq:Q (some (.ref C)) ⟨h,g,d,t+1,os⟩) :
  ak (ah prog w) A (getAttr? (.ref x) "__class__") Q E ⟨h,g,d,t,os⟩:=by
 unfold getAttr? getAttrBy?
 repeat (any_goals (first|assumption|with_reducible apply Ap Z S L0 hx|wp_step))
end
end L2
namespace L2
open PySem PySem.Spec PyProof.Rows
structure Cu(prog:aw)(w:av)(xs:Array ae)(i l:Addr)(P:Nat->Heap->Prop):Prop where
 fr:∀k h h',P k h->(∀o,h.get? i=some o->h'.get? i=some o)->(∀o,h.get? l=some o->h'.get? l=some o)->P k h'
 nx:∀{A:ay} (k:Nat) (x:ae) (s:af) (Q:ae->af->Prop) (E:ae->af->Prop),P k s.heap->xs[k]? = some x->(∀h',P (k+1) h'->Heap.SameBut i s.heap h'->Q x {s with heap:=h'})->ak (ah prog w) A (Builtin.SmallTypes.nextOf (.ref i)) Q E s
 en:∀{A:ay} (k:Nat) (s:af) (Q:ae->af->Prop) (E:ae->af->Prop),A.handled=none->P k s.heap->xs[k]? = none ->
  (∀h' e,Heap.ExtBut i s.heap h'->(∃o,h'.get? e=some o/\o.cls=.type "StopIteration")->E (.ref e) {s with heap:=h'})->ak (ah prog w) A (Builtin.SmallTypes.nextOf (.ref i)) Q E s
 at_:∀k h,P k h->∃o,h.get? i=some o/\∃vs,o.data=.fields vs
section
variable{prog:aw}{w:av}{A:ay}{E:ae->af->Prop}{s:af}
end
section
variable{prog:aw}{w:av}{A:ay}{E:ae->af->Prop}{s:af}{z TI TO i1 i2 l1 l2:Addr}{k:Nat}{xs ys:Array ae}{P1 P2:Nat->Heap->Prop}
structure Cr(z TI TO i1 i2 l1 l2:Addr):Prop where
 d:ZipApart z TI TO i1 i2 l1 l2
end
section
variable{X:Cx}{pins:List (Addr×Obj)}{σ:St}{H:Hp}{s:af}{h':Heap}{tk:Nat}
theorem Inv.turnNew{ch:List Addr}{p:Addr}{vs:List V}{its:List ae}(I:Inv X pins σ H s)(hf:∀b∈ch,cR X pins H b)(k:∀b o,b∉ch->s.heap.get? b=some o->h'.get? b=some o)
  (hp:s.heap.objs.size<=p) (ht:IsTup h' p its.toArray) (r:Vals vs its) (hz:vs.length<=aH):Inv X pins σ (upd H p (.tup vs)) {s with heap:=h',toks:=tk}:=by
 have hpn:H p=none:=I.hok.fresh hp;have nch:∀b u,H b=some u->b∉ch:=λb u e z=>by have:=(hf b z).1;rw[e]at this;cases this
 have np:∀b u,H b=some u->b≠p:=λb u e z=>by rw[z,hpn]at e;cases e
 refine I.step (g':=s.gens) (d':=s.drawn) (ch:=ch) (λb hb=>?_) (λb o _ _ hc e _=>k b o hc e) (λb o _ _ hc e _=>⟨o.slots,k b o hc e⟩) (λb o hc e n=>?_) (λb o hc e=>⟨o,k b o hc e⟩)
  (λb xs e=>by rw[qg (np b _ e)];exact e) (λb o u e=>by rw[qg (np b _ e)];exact e) (λb ps e=>⟨#[],by rw[qg (np b _ e),e];simp⟩) (λm hm=>?_) (λb u e=>?_) I.bare
 ·obtain⟨f0,f1,f2,f3,f4,f5⟩:=hf b hb;exact⟨f3,f1,f4,f5⟩
 ·rw[qg (aX (bw (aJ e) hp))];exact n
 ·obtain⟨o,es,ep,ho,r⟩:=hm;exact⟨o,es,ep,k _ o (λz=>(hf _ z).2.1 rfl) ho,r⟩
 ·by_cases hb:b=p
  ·subst hb;rw[zP]at e;cases e;exact⟨hz,its,r,ht⟩
  ·rw[qg hb]at e;refine(I.hok b u e).stay (λc v hc q=>k c v ?_ q) (λc q=>by rw[qg (np c _ q)];exact q) λc xs q=>by rw[qg (np c _ q)];exact q
   rcases hc with z|z
   ·rw[z];exact nch b u e
   ·exact nch c _ z
theorem Inv.turnAll{ch:List Addr}(I:Inv X pins σ H s)(hf:∀b∈ch,cR X pins H b)(k:∀b o,b∉ch->s.heap.get? b=some o->h'.get? b=some o):Inv X pins σ H {s with heap:=h',toks:=tk}:=by
 have nch:∀b u,H b=some u->b∉ch:=λb u e z=>by have:=(hf b z).1;rw[e]at this;cases this
 refine I.step (g':=s.gens) (d':=s.drawn) (ch:=ch) (λb hb=>?_) (λb o _ _ hc e _=>k b o hc e) (λb o _ _ hc e _=>⟨o.slots,k b o hc e⟩) (λb o hc e n=>n) (λb o hc e=>⟨o,k b o hc e⟩)
  (λb xs e=>e) (λb o u e=>e) (λb ps e=>⟨#[],by rw[e];simp⟩) (λm hm=>?_) (λb u e=>?_) I.bare
 ·obtain⟨f0,f1,f2,f3,f4,f5⟩:=hf b hb;exact⟨f3,f1,f4,f5⟩
 ·obtain⟨o,es,ep,ho,r⟩:=hm;exact⟨o,es,ep,k _ o (λz=>(hf _ z).2.1 rfl) ho,r⟩
 ·refine(I.hok b u e).stay (λc v hc q=>k c v ?_ q) (λc q=>q) λc xs q=>q
  rcases hc with z|z
  ·rw[z];exact nch b u e
  ·exact nch c _ z
end
section
variable{prog:aw}{w:av}{A:ay}{E:ae->af->Prop}{s:af}
end
theorem Ar{K:ar}{x C:Addr}(S:cD K C):PySem.W.KitX K (.ref x) (.ref C) (λh=>∃o,h.get? x=some o/\o.cls=.ref C) where
 ty:=λM h _ ⟨o,e,c⟩=>c▸(PySem.W.Looks.ld e).andThen .now
 it:=λ_ _ Z _=>by
  obtain⟨c,dd,cd,sl,e⟩:=S.cl;intro A' Q' E' s' k q;unfold isType loadHead;exact ao (wpAny_loadPart (k _ _ (Z _ _ e)) (aC q))
 ne:=λh tp dd its n sl Z htp=>by
  obtain⟨c,dd',cd,sl',e⟩:=S.cl;refine Bool.eq_false_iff.mpr λq=>?_
  have e1:C=tp:=a8.inj (beq_iff_eq.mp q);subst e1;have z:=(Z _ _ e).symm.trans htp;cases z
 ca:=λ{prog w A E Q s} Z ⟨o,e,c⟩ k=>by
  obtain⟨hh,g,d,t,os⟩:=s;exact AF Z S (c▸(PySem.W.Looks.ld e).andThen .now) ⟨o,e,c⟩ k
noncomputable def ji:V->Option ae
 | .ty n=>some (.type n)
 | .ref a=>some (.ref a)
 |_=>none
noncomputable def TyX(K:ar)(H:Hp)(x:V)(t:ae):Prop:=cQ K H x t\/∃a C,x=.ref a/\t=.ref C/\H a=some (fG a (.ref C))/\cD K C
theorem w6{X:Cx}:zh X (.builtin "isinstance") (λxs H Q=>∃x c cv t b,xs=[x,c]/\ji c=some cv/\TyX X.K H x t/\bf X.K t cv=some b/\Q (.bl b) H):=by
 intro pins s σ H xs us Q I r h;obtain⟨x,c,cv,t,b,rfl,hc,ty,hk,q⟩:=h;obtain⟨u,cu,rfl,rx,rc⟩:=r.two;have e:cu=cv:=by
  cases c with
  |ty n=>cases hc;exact rc
  |ref a=>cases hc;exact rc
  |_=>cases hc
 subst e;rcases ty with ty|⟨a,C,rfl,rfl,ha,S⟩
 ·exact fO I rx ty hk λtk=>⟨.bl b,H,I.tok tk,rfl,q⟩
 ·cases rx;obtain⟨⟨o,vs,e1,e2,e3⟩,_⟩:=(show zN X.prog X.w H s.heap a (fG a (.ref C))from I.hok a _ ha)
  exact bD (Ar S) I.kIn ⟨o,e1,e2⟩ hk (λz=>nomatch z) λtk=>⟨.bl b,H,I.tok tk,rfl,q⟩
theorem Au{K:ar}{T:String}:bf K (.type T) (.type T)=some true:=by unfold bf;rw[if_pos (by simp)]
theorem yS{K:ar}{a T:String}{b:Bool}(hne:(ae.type a==ae.type T)=false)(hm:PySem.W.kitMeta T=true)(hf:(fastBuiltinMro a).map (·.contains (.type T))=some b):bf K (.type a) (.type T)=some b:=by
 unfold bf PySem.W.kitCls bA;rw[if_neg (by rw[hne];exact bY)];dsimp only;rw[if_pos hm];exact hf
noncomputable def fh(a T:String):Bool:=a==T||(a == "bool" && T == "int")
theorem tj{K:ar}{a T:String}(ha:a∈["NoneType","bool","int","str","list","tuple","dict"])(hT:T∈["int","bool","str","list","tuple"]):bf K (.type a) (.type T)=some (fh a T):=by
 simp only[aL,cK,or_false]at ha hT;rcases ha with rfl|rfl|rfl|rfl|rfl|rfl|rfl<;>rcases hT with rfl|rfl|rfl|rfl|rfl<;>first|exact Au|exact yS (by decide +kernel) (by decide +kernel) (by decide +kernel)
noncomputable def ltP(p q:Int×Int):Bool:=if p.1=q.1 then decide (p.2<q.2)else decide (p.1<q.1)
section
variable{prog:aw}{w:av}{A:ay}{E:ae->af->Prop}{s:af}
end
theorem Aq{h:Heap}{a:Addr}{m m':Str->Option ae}(x:h.Ns a m)(y:h.Ns a m'):m=m':=by
 obtain⟨o,es,ep,e1,e2,_,e4⟩:=x;obtain⟨o',es',ep',f1,f2,_,f4⟩:=y;rw[e1]at f1;cases f1;rw[e2]at f2;cases f2;funext n;rw[<-e4,<-f4]
theorem Inv.newList{X:Cx}{pins:List (Addr×Obj)}{σ:St}{H:Hp}{s s':af}{D:Addr}{out:List V}{its:List ae}{c:Nat}(I:Inv X pins σ H s)(hos:s'.os=s.os)(hg:s'.gens=s.gens)
  (k:∀b o,b≠X.env.locals->s.heap.get? b=some o->s'.heap.get? b=some o) (ns:∀m,s.heap.Ns X.env.locals m->s'.heap.Ns X.env.locals m) (hD:s.heap.get? D=none) (hDL:D≠X.env.locals)
  (hl:s'.heap.get? D=some {cls:=.type "list",data:=.seq its.toArray c}) (r:Vals out its) (hz:out.length<=aH):Inv X pins σ (upd H D (.lst out)) s':=by
 obtain⟨h',g',d',t',o'⟩:=s';have eo:o'=s.os:=hos;have eg:g'=s.gens:=hg;subst eo eg;have hpn:H D=none:=I.hok.free_of hD;have np:∀b u,H b=some u->b≠D:=λb u e z=>by rw[z,hpn]at e;cases e
 obtain⟨m0,n0,_⟩:=id I.loc;obtain⟨oL,es,ep,hoL,_⟩:=id n0;obtain⟨oL',es',ep',hoL',_⟩:=ns _ n0;refine I.step (g':=s.gens) (d':=d') (ch:=[]) (λb hb=>absurd hb (by simp)) (λb o hL _ _ e _=>k b o hL e) (λb o hL _ _ e _=>⟨o.slots,k b o hL e⟩) (λb o _ e n=>?_) (λb o _ e=>?_)
  (λb xs e=>by rw[qg (np b _ e)];exact e) (λb o u e=>by rw[qg (np b _ e)];exact e) (λb ps e=>⟨#[],by rw[qg (np b _ e),e];simp⟩) ns (λb u e=>?_) I.bare
 ·rw[qg (λz=>by rw[z,hD]at e;cases e)];exact n
 ·by_cases hL:b=X.env.locals
  ·exact⟨oL',by rw[hL];exact hoL'⟩
  ·exact⟨o,k b o hL e⟩
 ·by_cases hb:b=D
  ·subst hb;rw[zP]at e;cases e;exact⟨hz,its,c,r,hl⟩
  ·rw[qg hb]at e;have nl:∀c,(∃u,H c=some u)->c≠X.env.locals:=λc ⟨u,e⟩ z=>by rw[z,I.free]at e;cases e
   refine(I.hok b u e).stay (λc v hc q=>k c v (nl c ?_) q) (λc q=>by rw[qg (np c _ q)];exact q) λc xs q=>by rw[qg (np c _ q)];exact q
   rcases hc with z|z
   ·exact⟨u,by rw[z];exact e⟩
   ·exact⟨_,z⟩
section
variable{prog:aw}{w:av}{A:ay}{E:ae->af->Prop}{s:af}
theorem v9{a:Addr}{vs:List ae}{P:Fin->af->Prop}(hoL:s.heap.get? a=some (aD "list" vs.toArray 0))(h2:vs.length<2)(h:P (.done (.ret .none)) {s with heap:=sortedHeap s.heap a vs vs.toArray}) :
  ak (ah prog w) A (Builtin.«list.sort» ⟨[.ref a],[]⟩) P E s:=by
 rw[list_sort_plain];refine ao (listItems_at  hoL rfl ?_);refine ao (listUpdate_at  hoL rfl ?_ (by rw[aW,bt];lia) (bM _));obtain⟨e1,ho1⟩:∃e1,(s.heap.update a (a7 λ_=>#[])).get? a=some (aD "list" #[] e1):=⟨_,get?_update_seq hoL (λ_=>#[])⟩
 refine ao (seqEpoch_at ho1 rfl ?_);refine ao (wpAny_newTuple ?_ (by show vs.length<=_;rw[bt];lia));refine ao (wpAny_newList ?_ (bM _));refine cq ?_;have hlt:a<s.heap.objs.size:=aJ hoL;have ho6:(((s.heap.update a (a7 λ_=>#[])).push (aD "tuple" vs.toArray 0)).push (aD "list" #[] 0)).get? a=some (aD "list" #[] e1):=by
  rw[Heap.get?_push_ne _ _ _ (by rw[size_push',Heap.size_update];exact aX (cJ hlt)),Heap.get?_push_ne _ _ _ (by rw[Heap.size_update];exact aX hlt)];exact ho1
 show ak (ah prog w) _ _ _ _ {s with heap:=((s.heap.update a (a7 λ_=>#[])).push (aD "tuple" vs.toArray 0)).push (aD "list" #[] 0)};dsimp only;have h2':vs.toArray.size<2:=by rw[aW];exact h2
 rw[if_pos h2',if_pos h2'];refine ao (aC ?_);rw[StateT.run_pure];refine ao (aC ?_);dsimp only;refine ao (seqEpoch_at ho6 rfl ?_);have hout:(ag (aZ.mk' general' (vs.toArray.zip vs.toArray) #[] 7 none)).map (·.2)=vs.toArray:=by
  show (vs.toArray.zip vs.toArray).map (·.2)=vs.toArray;apply Array.toList_inj.mp;simp[List.map_snd_zip]
 refine ao (listUpdate_at ho6 rfl ?_ (bM _) (by rw[hout,aW,bt];lia));simp only[bne_self_eq_false,bI,if_false];refine aC ?_;rw[hout];exact h
theorem uq{l:Addr}{vs:List ae}{Q:ae->af->Prop}(hl:s.heap.IsList l vs.toArray)(h2:vs.length<2)(h:Q (.ref (s.heap.objs.size+1)) {s with heap:=sortedAll s.heap vs vs.toArray}):ak (ah prog w) A (call (.builtin "sorted") [.ref l]) Q E s:=by
 refine Calls.call_function_entry kind_sorted plain_sorted entry_sorted (args_sorted1 _) ?_;unfold Builtin.«sorted»;refine ao (m:=checkCount "sorted" 1 1 _) (aC ?_);refine ao (collect_list hl ?_ (by rw[bt];lia));refine ao (wpAny_newList ?_ (by rw[bt];lia));have hsz:((s.heap.push (aD "list" #[] 0)).update s.heap.objs.size (a7 (· ++ vs.toArray))).objs.size=s.heap.objs.size+1:=by rw[Heap.size_update,size_push']
 have hoL:(((s.heap.push (aD "list" #[] 0)).update s.heap.objs.size (a7 (· ++ vs.toArray))).push (aD "list" vs.toArray 0)).get? (s.heap.objs.size+1)=some (aD "list" vs.toArray 0):=by rw[<-hsz];exact Heap.get?_push_size _ rfl
 show ak _ _ _ _ _ {s with heap:=((s.heap.push (aD "list" #[] 0)).update s.heap.objs.size (a7 (· ++ vs.toArray))).push (aD "list" vs.toArray 0)};rw[hsz];refine ao (cq (wpAny_call_entry slot_list_sort ⟨_,hoL,rfl⟩ entry_list_sort ?body (args_list_sort _)))
 case body=>
  exact v9 hoL h2 ⟨_,rfl,aC ⟨_,rfl,h⟩⟩
end
section
variable{X:Cx}{pins:List (Addr×Obj)}{σ:St}{H:Hp}{s:af}
theorem pS{A:ay}{bs:List Bool}{us:List ae}(r:Vals (bs.map V.bl) us):us=bs.map ae.bool:=by
 induction bs generalizing us with
 |nil=>cases r;rfl
 |cons b bs ih=>cases r with
  |cons h t=>rw[ih t,show _=ae.bool b from h];rfl
end
section
variable{X:Cx}
noncomputable def kF(r r' r'':R2)(ta tb tc td:TE):TE:=λσ H Q=>ta σ H λx H1=>tb σ H1 λy H2=>r x y H2 λz H3=>∃k,z=.bl k /\
 (if k=true then tc σ H3 λw' H4=>r' y w' H4 λz H5=>∃k,z=.bl k/\(if k=true then td σ H5 λw'' H6=>r'' w' w'' H6 Q else Q (.bl false) H5)else Q (.bl false) H3)
theorem uO{a b c d:Expr}{ta tb tc td:TE}{pos:Pos}{op op' op'':CmpOp}{r r' r'':R2}(ho:OpR X (aV op) r)(ho':OpR X (aV op') r')(ho'':OpR X (aV op'') r'')(ha:PE X a ta)(hb:PE X b tb)(hc:PE X c tc)(hd:PE X d td)
  (hm:lastMarks [op,op',op''] [b,c,d]=false:=by with_unfolding_all rfl):PE X (.Compare a [op,op',op''] [b,c,d] pos) (kF r r' r'' ta tb tc td):=by
 intro pins s σ H Q I h;refine Compare_chain (thn (ha pins s σ H _ I h) λv s1 ⟨x,H1,I1,r1,q1⟩=>chain_link (thn (hb pins s1 σ H1 _ I1 q1) λu s2 ⟨y,H2,I2,r2,q2⟩=>
  thn (ho pins s2 σ H2 x y v u _ I2 r1 r2 q2) λd s3 ⟨z,H3,I3,r3,k,e,q3⟩=>?_)) hm
 subst e;cases r3;refine bB ?_;cases k with
 |false=>exact ite_ff ⟨.bl false,H3,I3,rfl,q3⟩
 |true=>
  refine ite_tt (chain_link (thn (hc pins s3 σ H3 _ I3 q3) λw' s4 ⟨z',H4,I4,r4,q4⟩=>thn (ho' pins s4 σ H4 y z' u w' _ I4 r2 r4 q4) λd' s5 ⟨z2,H5,I5,r5,k2,e2,q5⟩=>?_));subst e2;cases r5;refine bB ?_;cases k2 with
  |false=>exact ite_ff ⟨.bl false,H5,I5,rfl,q5⟩
  |true=>exact ite_tt (chain_last (thn (hd pins s5 σ H5 _ I5 q5) λw'' s6 ⟨z3,H6,I6,r6,q6⟩=>ho'' pins s6 σ H6 z' z3 w' w'' Q I6 r4 r6 q6))
noncomputable def rP(K:ar):R2:=λx y H Q=>∃a b xs ys,x=.ref a/\y=.ref b/\SqT K H a xs/\SqT K H b ys/\xs.length+ys.length<=aH /\
 (xs=[]->Q (.ref b) H)/\(xs≠[]->ys=[]->Q (.ref a) H)/\(xs≠[]->ys≠[]->∀p,H p=none->Q (.ref p) (upd H p (.tup (xs++ys))))
theorem xT:OpR X (bz .Add) (rP X.K):=by
 intro pins s σ H x y v u Q I rx ry h;obtain⟨a,b,xs,ys,rfl,rfl,ha,hb,hz,q0,q1,q2⟩:=h;by_cases hx:xs=[]
 ·subst hx;cases rx;cases ry;obtain⟨its,r1,p1,_⟩:=I.tuple ha;obtain⟨its2,r2,p2,_⟩:=I.tuple hb;cases r1;obtain⟨⟨cls,dd,data,sl⟩,ho,hc,n,hd⟩:=id p1;obtain⟨⟨cls2,dd2,data2,sl2⟩,ho2,hc2,n2,hd2⟩:=id p2;simp only at hc hd hc2 hd2;subst hc hd hc2 hd2;exact concat_meets ⟨_,ho,rfl⟩ ⟨_,ho2,rfl⟩ noFill_tuple_add seq_tuple_add PySem.F.slot_tuple_add PySem.F.entry_tuple_add (PySem.F.args_tuple_add_2 _ _)
   (tuple_addW0 a b _ its2.toArray n n2 dd dd2 sl sl2 (by simp)) ⟨ho,ho2,⟨.ref b,H,I,rfl,q0 rfl⟩⟩
 ·exact pP pins s σ H (.ref a) (.ref b) v u Q I rx ry ⟨a,b,xs,ys,rfl,rfl,ha,hb,hx,hz,q1 hx,q2 hx⟩
theorem jk{vs:List ae}{ns:List Int}(h:aY vs ns):Vals (ns.map V.int) vs:=by
 induction h with
 |nil=>exact .nil
 |cons n t _ ih=>exact .cons ⟨t,rfl⟩ ih
noncomputable def wL(K:ar):List V->Hp->VK->Prop:=λvs H Q=>∃(l:Addr) (ns:List Int),vs=[.ref l]/\SqL K H l (ns.map V.int)/\ns.length<64/\∀(D:Addr) (ms:List Int),H D=none->ms.Perm ns->ms.Pairwise (·<=·)->Q (.ref D) (upd H D (.lst (ms.map V.int)))
theorem yL:zh X (.builtin "sorted") (wL X.K):=by
 intro pins s σ H xs us Q I r h;obtain⟨l,ns,rfl,hl,h64,q⟩:=h;obtain⟨u,rfl,ru⟩:=r.one;cases ru;obtain⟨its,rv,pl,hz⟩:=I.list hl;obtain⟨m,F⟩:=I.fr;refine PySem.W.kso_sorted F (tO (g:=X.base) (h:=s.heap) (L:=X.env.locals)) pl.isList (intsAre_of rv) h64 λD vs' ns' c h' F' N' hlt hi he hp ho _=>?_
 have keep:∀b o,b≠X.env.locals->s.heap.get? b=some o->h'.get? b=some o:=λb o hb e=>by
  cases qb:X.base.get? b with
  |some ob=>have:=I.bk b ob qb;rw[e]at this;cases this;exact F'.keep b _ qb
  |none=>exact(N' (b,o) (aP _ (mD hb qb e))).1
 have hDn:=N' (D,_) aR;have hD0:s.heap.get? D=none:=by
  cases qd:s.heap.get? D with
  |none=>rfl
  |some o=>exact absurd (hlt (D,o) (mD hDn.2.1 hDn.2.2 qd)) (bL _)
 refine⟨.ref D,_,I.newList (s':={s with heap:=h'}) (c:=c) rfl rfl keep (λm' hm'=>?_) hD0 hDn.2.1 hDn.1 (jk hi) (by rw[bc,he,bt];lia),rfl,q D ns' (I.hok.free_of hD0) hp ho⟩;rw[Aq hm' F.ns];exact F'.ns
end
noncomputable def Ite(K:ar)(l:Addr):It:=
 ⟨λi H=>∃xs x,SqL K H l xs/\xs[i]? = some x,
  λi H v H'=>∃p x,H p=none/\v=.ref p/\H'=upd H p (.tup [.int i,x])/\∀xs,SqL K H l xs->xs[i]? = some x,
  λi H=>∃xs,SqL K H l xs/\xs.length<=i⟩
theorem yt{P:aw}{w:av}{K:ar}{es:List Expr}{ek:Nat}{epos:Pos}{e it l:Addr}(n1:e≠it)(n2:l≠e)(n3:l≠it) :
  Turn P w K (.Tuple es ek epos) (Ite K l) [e,it] e (λi h=>(∃old,IsEnum h e it ((i:Nat):Int) old)/\h.IsListIter it l i) where
 mem:=by simp
 obj:=λi h st b hb=>by
  obtain⟨⟨old,hz⟩,o1,e1,_,d1⟩:=st;have hb':b=e\/b=it:=by simpa using hb
  rcases hb' with q|q
  ·subst q;exact⟨_,hz,λv q=>by cases q⟩
  ·subst q;exact⟨o1,e1,λv q=>by rw[d1]at q;cases q⟩
 keep:=λi h h' st k=>by
  obtain⟨⟨old,hz⟩,h1⟩:=st;exact⟨⟨old,k e (by simp) _ hz⟩,h1.at λo q=>k it (by simp) o q⟩
 item:=by
  intro X hP hw hK hc i pins s σ H E I hf st hg;subst hP hw hK;obtain⟨⟨old,hz⟩,h1⟩:=st;obtain⟨xs,x,q1,hx⟩:=hg;obtain⟨its,r1,p1,z1⟩:=I.list q1;obtain⟨u1,hu1,ru1⟩:=r1.get hx;refine wpAny_pyNext_enum_item hz h1 p1.isList (x:=u1) (by simpa using hu1) n1 λh' a1 a2 a3 a4 hk=>?_
  have hkc:∀b o,b∉[e,it]->s.heap.get? b=some o->h'.get? b=some o:=λb o hb q=>hk b o (λz=>hb (by simp[z])) (λz=>hb (by simp[z])) q
  have I1:Inv X pins σ (upd H s.heap.objs.size (.tup [.int i,x])) {s with heap:=h',toks:=s.toks+1}:=I.turnNew (tk:=s.toks+1) (its:=[.int i s.toks,u1]) hf hkc (aI _) ⟨_,a3,rfl,_,rfl⟩ (.cons ⟨_,rfl⟩ (.cons ru1 .nil)) (by show 2<=aH;decide);have hpn:H s.heap.objs.size=none:=I.hok.fresh (aI _);have hfp:∀b∈[e,it],b≠s.heap.objs.size:=λb hb q=>by
   have hb':b=e\/b=it:=by simpa using hb
   obtain⟨o1,e1,_,d1⟩:=h1;have:b<s.heap.objs.size:=by
    rcases hb' with q|q
    ·subst q;exact aJ hz
    ·subst q;exact aJ e1
   rw[q]at this;exact bL _ this
  have hnone:∀b∈[e,it],(upd H s.heap.objs.size (.tup [.int i,x])) b=none:=λb hb=>by rw[qg (hfp b hb)];exact(hf b hb).1
  refine⟨_,rfl,?_⟩;refine wpAny_letOwnedTupleGo_enum (s:={s with heap:=h',toks:=s.toks+1}) a1 λh2' hz' hs'=>?_
  obtain⟨f0,f1,f2,f3,f4,f5⟩:=hf e (by simp);refine⟨.ref s.heap.objs.size,_,I1.turned (t':=s.toks+1) (it:=e) (λb o hb q=>(hs'.2 b hb).trans q) (hnone e (by simp)) f1 f3 f4 f5,rfl,⟨_,x,hpn,rfl,rfl,λzs hq=>by rw[I.list_inj hq q1];exact hx⟩,⟨⟨u1,?_⟩,a2.at λo q=>(hs'.2 it (Ne.symm n1)).trans q⟩,hnone⟩
  ·have:((i+1:Nat):Int)=(i:Int)+1:=by push_cast;rfl
   rw[this];exact hz'
 done:=by
  intro X hP hw hK hc i pins s σ H E I hf st hg;subst hP hw hK;obtain⟨⟨old,hz⟩,h1⟩:=st;obtain⟨xs,q1,hx⟩:=hg;obtain⟨its,r1,p1,z1⟩:=I.list q1;have hl:=r1.length;exact wpAny_pyNext_enum_end (I.ok.hd hc) hz h1 p1.isList (by simp;lia) λh' eb=>⟨rfl,I.turnAll (tk:=s.toks) hf λb o hb q=>eb b o (λz=>hb (by simp[z])) q⟩
 self:=λ_ _ _ _ _ st h=>by
  obtain⟨⟨old,hz⟩,_⟩:=st;exact wpAny_pyIter_enum hz h
noncomputable def AM(K:ar)(ta:TA):TI:=λσ H R=>ta σ H λvs H1=>∃(l:Addr),vs=[.ref l]/\(∃xs,SqL K H1 l xs)/\R (Ite K l) H1
theorem Co{X:Cx}{es:List Expr}{ek:Nat}{epos p pos:Pos}{a:Expr}{ta:TA}(hg:Gl X "enumerate")(hm:X.mg "enumerate" = none)(hv:bF "enumerate" = some (.type "enumerate"))(ha:PA X [a] ta)
  (hs:aO [a] X.env=[(false,eval a X.env)]:=by rfl):PI X (.Tuple es ek epos) (.Call (.Name "enumerate" p) [a] [] pos) (AM X.K ta):=by
 intro pins s σ H R I h;refine Call_ (fR I hg hm hv (PyProof.Rows.callWith_type1 (thn (ha pos pins s σ H _ I h) λus s1 ⟨vs,H1,I1,r1,q1⟩=>?_) (by rw[hs];rfl) (by rfl)));obtain⟨l,e,⟨xs,q2⟩,q⟩:=q1;subst e;cases r1 with
 |cons r rr=>
  cases rr;cases r;obtain⟨its1,v1,p1,_⟩:=I1.list q2;have lt1:l<s1.heap.objs.size:=by obtain⟨_,e,_⟩:=p1.isList;exact aJ e
  refine call_enumerate_list p1.isList λh' hE hI hsz k=>?_
  have I2:Inv X pins σ H1 {s1 with heap:=h'}:=I1.kept (t':=s1.toks) k;refine wpAny_pyIter_enum hE ?_;refine⟨_,_,_,_,H1,rfl,I2,yt (P:=X.prog) (w:=X.w) (K:=X.K) (e:=s1.heap.objs.size+1) (it:=s1.heap.objs.size) (l:=l) (Nat.succ_ne_self _) (aX (cJ lt1)) (aX lt1),⟨⟨_,hE⟩,hI⟩,λb hb=>?_,q⟩;have hb':b=s1.heap.objs.size+1\/b=s1.heap.objs.size:=by simpa using hb
  have:s1.heap.objs.size<=b:=by
   rcases hb' with q|q
   ·rw[q];exact Nat.le_succ _
   ·rw[q];exact aI _
  exact I1.fpOk this (I1.hok.fresh this)
end L2
namespace L2
open PySem PySem.Spec PyProof.Rows PySem.SeqAt
mutual
inductive dE(K:ar)(H:Hp):V->PyData->Prop
 |non:dE K H .non .none
 |bl (b:Bool):dE K H (.bl b) (.bool b)
 |int (i:Int):dE K H (.int i) (.int i)
 |str (x:Str):dE K H (.str x) (.str x)
 |lst {a:Addr}{xs:List V}{ds:List PyData}:SqL K H a xs->fT K H xs ds->dE K H (.ref a) (.list ds)
 |tup {a:Addr}{xs:List V}{ds:List PyData}:SqT K H a xs->fT K H xs ds->dE K H (.ref a) (.tuple ds)
inductive fT(K:ar)(H:Hp):List V->List PyData->Prop
 |nil:fT K H [] []
 |cons {x:V}{xs:List V}{d:PyData}{ds:List PyData}:dE K H x d->fT K H xs ds->fT K H (x::xs) (d::ds)
end
section
variable{X:Cx}{pins:List (Addr×Obj)}{σ:St}{H:Hp}{s:af}
theorem Inv.reads(I:Inv X pins σ H s){x:V}{d:PyData}(h:dE X.K H x d):∀{u:ae},RelV x u->∃as,Reads s.heap u d as:=
 h.rec (motive_1:=λx d _=>∀{u:ae},RelV x u->∃as,Reads s.heap u d as) (motive_2:=λxs ds _=>∀{us:List ae},Vals xs us->∃as,ReadsAll s.heap us ds as) (λr=>by cases r;exact⟨_,.none⟩) (λb _ r=>by cases r;exact⟨_,.bool b⟩) (λi _ r=>by obtain⟨t,rfl⟩:=r;exact⟨_,.int i t⟩) (λx _ r=>by obtain⟨t,rfl⟩:=r;exact⟨_,.str x t⟩)
  (λh _ g _ r=>by
   cases r;obtain⟨its,rv,pl,_⟩:=I.list h;obtain⟨as,ra⟩:=g rv;obtain⟨o,ho,hc,n,hd⟩:=pl.isList;exact⟨_,Reads.list ho hc hd (by simpa using ra)⟩)
  (λh _ g _ r=>by
   cases r;obtain⟨its,rv,pl,_⟩:=I.tuple h;obtain⟨as,ra⟩:=g rv;obtain⟨o,ho,hc,n,hd⟩:=pl;exact⟨_,Reads.tuple ho hc hd (by simpa using ra)⟩)
  (λr=>by cases r;exact⟨_,.nil⟩) (λ_ _ a b _ r=>by
   cases r with
   |cons r1 r2=>
    obtain⟨as,ra⟩:=a r1;obtain⟨bs,rb⟩:=b r2;exact⟨_,.cons ra rb⟩)
end
section
variable{X:Cx}
end
end L2
namespace L2
open PySem PySem.Spec PyProof.Rows
section
variable{lt:Nat->Nat->Bool}
noncomputable def Asc(lt:Nat->Nat->Bool)(p:Array Nat)(m:Nat):Prop:=∀i j,i<j->j<m->lt (p.getD j 0) (p.getD i 0)=false
end
section
variable{lt:Nat->Nat->Bool}
structure Part(lt:Nat->Nat->Bool)(p:Array Nat)(r:Nat×Array Nat):Prop where
 perm:r.2.Perm p
 size:r.2.size=p.size
 lo:1<=r.1
 hi:r.1<=p.size
 asc:Asc lt r.2 r.1
end
section
variable{X:Cx}
end
noncomputable def wD(i:Nat)(K:ar)(C C2:Addr)(n:Nat)(tb:TS)(Eh:XK)(ts ts2:TS):TS:=λD σ H=>tb {D with nx:=D.nx} σ H /\
 ∀(τ:St) (cls:ae) (H':Hp) (x:Addr),τ.length=n->Eh cls none H'->H' x=none->(bx K cls (.ref C)=some true/\ts {nx:=λ_ _=>False,rt:=D.rt} (τ.set i (some (.ref x))) (upd H' x (fG x cls)))\/(bx K cls (.ref C)=some false/\bx K cls (.ref C2)=some true/\ts2 {nx:=λ_ _=>False,rt:=D.rt} τ H')
theorem Bg{X:Cx}{i:Nat}{C C2:Addr}{cn cn2 n:Str}{np hpos np2 hpos2 pos:Pos}{body:List Stmt}{b₀ b₂:Stmt}{suite suite2:List Stmt}{tb ts ts2:TS}{Eh:XK}(hex:X.ex=[])(hst:X.stack=X.env::X.outer)(hfr:X.env.frame=some X.env.locals)
  (hN:X.N.Nodup) (hi:X.N[i]? = some n) (hl:X.env.scope.names.lookup n=some .local) (hg:Gl X cn) (hm:X.mg cn=some (.ref C)) (hg2:Gl X cn2) (hm2:X.mg cn2=some (.ref C2))
  (hb:∀pn Et,Passes (CX1 X.prog X.w) (X.inTry pn Et) Eh->PSs (X.inTry pn Et) body tb) (hs:∀x,PSs (X.held x) (b₀::suite) ts) (hs2:∀x,PSs (X.held x) (b₂::suite2) ts2) (hd:(cn==("__debug__" : Str))=false) (hd2:(cn2==("__debug__" : Str))=false) :
  PS X (.Try body [.ExceptHandler (some (.Name cn np)) (some n) (b₀::suite) hpos,.ExceptHandler (some (.Name cn2 np2)) none (b₂::suite2) hpos2] [] [] pos) (wD i X.K C C2 X.N.length tb Eh ts ts2):=by
 intro pins s σ H D I h;obtain⟨h1,h2⟩:=h;refine wpAny_Try_except ?_;have okT:∀Et,(X.inTry (X.pn++pins) Et).Ok:=λEt=>
  ⟨I.ok.mod,I.ok.kind,I.ok.glob,I.ok.blt,I.ok.above,I.ok.inj,I.ok.has,I.ok.cab,I.ok.hd,I.ok.frames,I.ok.stk,I.ok.exf,I.ok.bs,I.ok.bsz,I.ok.noex,I.ok.exfs,I.ok.funs,I.ok.frf⟩
 have toT:∀{Et σ H s},Inv X pins σ H s->Inv (X.inTry (X.pn++pins) Et) [] σ H s:=λ{Et σ H s} J=>
  ⟨okT Et,J.os,J.bare,J.base,J.loc,J.cell,J.free,J.freeC,λp hp=>J.pin p (by simpa using hp),J.hok,J.len⟩
 have ofT:∀{Et pins' σ H s},Inv (X.inTry (X.pn++pins) Et) pins' σ H s->Inv X pins σ H s:=λ{Et pins' σ H s} J=>
  ⟨I.ok,J.os,J.bare,J.base,J.loc,J.cell,J.free,J.freeC,λp hp=>J.pin p (List.mem_append_left _ hp),J.hok,J.len⟩
 have hcls:(X.env.scope.kind==.class||(X.env.scope.kind==.module&&X.env.locals != X.env.globals))=false:=by rw[I.ok.kind];rfl
 have hP:Passes (CX1 X.prog X.w) (X.inTry (X.pn++pins) λe s₁=>ak (ah X.prog X.w) X.A (noteFrame e X.env) (λ_ s₂=>ak (ah X.prog X.w) X.A (setFlight e none) (λ_ s₃=>
   ak (ah X.prog X.w) X.A (handleBy e X.env [.ExceptHandler (some (.Name cn np)) (some n) (b₀::suite) hpos,.ExceptHandler (some (.Name cn2 np2)) none (b₂::suite2) hpos2]) (SP X pins D) X.xe s₃) X.xe s₂) X.xe s₁) Eh:=by
  intro pins' σ' H' s' e s'' I' hcx;obtain⟨x,cls,H2,rfl,I2,F2,q⟩:=mH (X:=X.inTry (X.pn++pins) _) rfl rfl I' hex hcx;have I3:Inv X pins σ' H2 s'':=ofT I2;have ap:∀{Et b},Apart (X.inTry (X.pn++pins) Et) pins' H2 b->Apart X pins H2 b:=λ{Et b} a=>⟨a.new,a.free,λp hp=>a.pin p (List.mem_append_left _ hp)⟩
  have F3:cg X pins H2 s''.heap x cls:=by
   obtain⟨oe,vs,T,oT,ts,a0,e1,e2,e3,e4,e5,e6,e7,e8,e9,e10⟩:=F2.tr;exact⟨ap F2.me,oe,vs,T,oT,ts,a0,e1,e2,e3,e4,e5,e6,e7,e8,e9,ap e10⟩
  obtain⟨oe,vs,_,_,_,_,e1,_,_,e4,_⟩:=id F3.tr;obtain⟨T,oT,tts,a0,W,hT,hTd,aT⟩:=cg.flying I3 F3;have hfrm:=I.ok.frames;rw[hst]at hfrm W;refine wpAny_looks_onW hfrm hfr W λh4 W4 u4=>?_
  refine wpAny_landsW W4 λh5 W5 u5=>?_
  rw[<-hst]at W5;obtain⟨I5,F5⟩:=cg.back I3 hex F3.me e1 e4 hT hTd aT W5 (u4.trans u5);obtain⟨oe5,vs5,T5,oT5,ts5,a5,g1,g2,g3,g4,g5,g6,g7,g8,g9,g10⟩:=id F5.tr;have LT:PySem.W.Looks (ah X.prog X.w) h5 (typeOf (.ref x)) cls:=by
   subst g2;exact(PySem.W.Looks.ld g1).andThen .now
  refine wpAny_handleBy_cons (codeAny_handlers_test (fJ (I5.hold x) hg hm ?_ hd)) (by intro z;cases z);rcases h2 σ' cls H2 x I3.len q F3.me.free with ⟨hx1,hx2⟩|⟨hx1,hy,hx2⟩
  ·refine PySem.W.exm_one (K:=X.K) I5.kIn LT hx1 _ _ _ _ (λ_ _ e=>e) ?_;refine codeAny_handlers_suite_as ?_;obtain⟨T6,oT6,ts6,a6,W6,hT6,hTd6,aT6⟩:=cg.flying I5 F5;refine lands_againW W6 λh6 W6' u6=>?_
   obtain⟨I6,F6⟩:=cg.back I5 hex F5.me g1 g4 hT6 hTd6 aT6 W6' u6;obtain⟨oe6,vs6,_,_,_,_,k1,k2,_,k4,_⟩:=id F6.tr;obtain⟨n1,n2,n3,n4⟩:=I6.rec_ne k1 k4;have I7:=I6.track (o:=fG x cls) hex F6.me n1 n2 ⟨⟨oe6,vs6,k1,k2,k4⟩,⟨oe6,k1⟩,λha hb ⟨o,ws,z1,z2,z3⟩ kk=>⟨o,ws,kk o z1,z2,z3⟩⟩;refine hW (X:=X.held x) (v:=.ref x) (I7.hold x) hN hi (.inl hl) rfl (λs8 I8=>?_) (.inr hl);refine bC (hs x pins s8 _ _ _ I8 hx2) (λf s9 r9=>?_) λ_ _ z=>aK z
   cases f with
   |ret u=>
    obtain⟨v,σ9,H9,I9,rv,q9⟩:=r9;have I9':=I9.unhold I.ok;obtain⟨m,hn,_⟩:=I9'.loc;exact wpAny_nameGoes hl hn hcls λh' m' hn' hs'=>⟨v,_,H9,I9'.forget hn' hs',rv,q9⟩
   |next=>obtain⟨_,_,_,z⟩:=r9;exact aK z
   |brk=>obtain⟨_,_,_,z⟩:=r9;exact aK z
   |cont=>obtain⟨_,_,_,z⟩:=r9;exact aK z
  ·refine PySem.W.exm_one (K:=X.K) I5.kIn LT hx1 _ _ _ _ (λ_ _ e=>e) ?_;refine wpAny_handleBy_cons (codeAny_handlers_test (fJ (I5.hold x) hg2 hm2 ?_ hd2)) (by intro z;cases z);refine PySem.W.exm_one (K:=X.K) I5.kIn LT hy _ _ _ _ (λ_ _ e=>e) ?_;refine codeAny_handlers_suite ?_;obtain⟨T6,oT6,ts6,a6,W6,hT6,hTd6,aT6⟩:=cg.flying I5 F5;refine lands_againW W6 λh6 W6' u6=>?_
   obtain⟨I6,F6⟩:=cg.back I5 hex F5.me g1 g4 hT6 hTd6 aT6 W6' u6;refine bC (hs2 x pins _ _ _ _ (I6.hold x) hx2) (λf s9 r9=>?_) λ_ _ z=>aK z
   cases f with
   |ret u=>
    obtain⟨v,σ9,H9,I9,rv,q9⟩:=r9;exact⟨v,_,H9,I9.unhold I.ok,rv,q9⟩
   |next=>obtain⟨_,_,_,z⟩:=r9;exact aK z
   |brk=>obtain⟨_,_,_,z⟩:=r9;exact aK z
   |cont=>obtain⟨_,_,_,z⟩:=r9;exact aK z
 refine thn (hb _ _ hP [] s σ H _ (toT I) h1) λf s1 q=>?_
 cases f with
 |next=>obtain⟨σ1,H1,I1,q1⟩:=q;exact wpAny_execs_nil ⟨σ1,H1,ofT I1,q1⟩
 |brk=>obtain⟨σ1,H1,I1,q1⟩:=q;exact⟨σ1,H1,ofT I1,q1⟩
 |cont=>obtain⟨σ1,H1,I1,q1⟩:=q;exact⟨σ1,H1,ofT I1,q1⟩
 |ret u=>obtain⟨v,σ1,H1,I1,rv,q1⟩:=q;exact⟨v,σ1,H1,ofT I1,rv,q1⟩
end L2
namespace HT
open PySem PySem.Spec PyProof.Rows L2
section
variable{prog:aw}{w:av}{A:ay}{E:ae->af->Prop}{s:af}
end
end HT
namespace L2
open PySem PySem.Spec PyProof.Rows
section
variable{X:Cx}{tg:Expr}
end
section
variable{κ:Type} [DecidableEq κ]
noncomputable def cz(kvs:List (κ×V))(k:κ):Option V:=(kvs.find? λkv=>decide (kv.1=k)).map (·.2)
noncomputable def putK(kvs:List (κ×V))(k:κ)(v:V):List (κ×V):=
 if (kvs.any λkv=>decide (kv.1=k))=true then kvs.map (λkv=>if kv.1=k then (kv.1,v)else kv)else kvs++[(k,v)]
theorem e_{p:κ×V}{r:List (κ×V)}{k:κ}(e:p.1=k):cz (p::r) k=some p.2:=by simp[cz,List.find?_cons,e]
theorem eV{p:κ×V}{r:List (κ×V)}{k:κ}(e:¬ p.1=k):cz (p::r) k=cz r k:=by simp[cz,List.find?_cons,e]
theorem jP(k:κ):∀kvs:List (κ×V),(kvs.any λkv=>decide (kv.1=k))=(cz kvs k).isSome
 | []=>rfl
 |p::r=>by
  rw[List.any_cons];by_cases e:p.1=k
  ·simp only[e_ e,decide_eq_true e,Bool.true_or,Option.isSome_some]
  ·rw[eV e,decide_eq_false e,Bool.false_or];exact jP k r
theorem rS(k j:κ)(y:V):∀kvs:List (κ×V),cz (kvs.map λkv=>if kv.1=k then (kv.1,y)else kv) j=(cz kvs j).map λx=>if j=k then y else x
 | []=>rfl
 |p::r=>by
  have ih:=rS k j y r;rw[aU];by_cases h:p.1=k
  ·rw[if_pos h];by_cases e:p.1=j
   ·rw[e_ (p:=(p.1,y)) e,e_ e,Option.map_some,if_pos (e.symm.trans h)]
   ·rw[eV (p:=(p.1,y)) e,eV e,ih]
  ·rw[if_neg h];by_cases e:p.1=j
   ·rw[e_ (p:=p) e,e_ e,Option.map_some,if_neg (λz=>h (e.trans z))]
   ·rw[eV (p:=p) e,eV e,ih]
theorem oN(kvs:List (κ×V))(k:κ)(v:V):(putK kvs k v).length<=kvs.length+1:=by
 unfold putK;split
 ·rw[bc];lia
 ·rw[List.length_append,List.length_cons,List.length_nil];lia
theorem dm.isSome_eq{o:Option V}{u:Option ae}(r:dm o u):o.isSome=u.isSome:=by
 cases o with
 |none=>cases u with
  |none=>rfl
  |some _=>exact(show False from r).elim
 |some _=>cases u with
  |none=>exact(show False from r).elim
  |some _=>rfl
theorem KV.val{kvs:List (κ×V)}{vs:List (κ×ae)}(r:KV kvs vs)(k:κ):dm (cz kvs k) (valueAt vs k):=by
 unfold KV at r
 induction r with
 |nil=>exact True.intro
 | @cons p q ps qs h t ih=>
  obtain⟨h1,h2⟩:=h;by_cases e:p.1=k
  ·have e':q.1=k:=h1.symm.trans e;have b:valueAt (q::qs) k=some q.2:=by simp[valueAt,List.find?_cons,e']
   rw[e_ e,b];exact h2
  ·have e':¬ q.1=k:=λz=>e (h1.trans z)
   have b:valueAt (q::qs) k=valueAt qs k:=by simp[valueAt,List.find?_cons,e']
   rw[eV e,b];exact ih
theorem KV.any{kvs:List (κ×V)}{vs:List (κ×ae)}(r:KV kvs vs)(k:κ):(kvs.any λkv=>decide (kv.1=k))=vs.any λkv=>decide (kv.1=k):=by
 unfold KV at r
 induction r with
 |nil=>rfl
 |cons h t ih=>rw[List.any_cons,List.any_cons,ih,h.1]
theorem KV.repl{kvs:List (κ×V)}{vs:List (κ×ae)}(r:KV kvs vs)(k:κ){y:V}{u:ae}(ry:RelV y u) :
  KV (kvs.map λkv=>if kv.1=k then (kv.1,y)else kv) (vs.map λkv=>if kv.1=k then (kv.1,u)else kv):=by
 unfold KV at r ⊢
 induction r with
 |nil=>exact .nil
 | @cons p q ps qs h t ih=>
  rw[aU,aU];refine .cons ?_ ih;obtain⟨h1,h2⟩:=h;by_cases e:p.1=k
  ·rw[if_pos e,if_pos (h1.symm.trans e)];exact⟨h1,ry⟩
  ·rw[if_neg e,if_neg (λz=>e (h1.trans z))];exact⟨h1,h2⟩
theorem KV.put{kvs:List (κ×V)}{vs:List (κ×ae)}(r:KV kvs vs)(k:κ){y:V}{u:ae}(ry:RelV y u):KV (putK kvs k y) (stored vs k u):=by
 unfold putK stored;rw[r.any k];by_cases e:(vs.any λkv=>decide (kv.1=k))=true
 ·rw[if_pos e,if_pos e];exact r.repl k ry
 ·rw[if_neg e,if_neg e];exact Paired.snoc r ⟨rfl,ry⟩
theorem KV.length{kvs:List (κ×V)}{vs:List (κ×ae)}(r:KV kvs vs):kvs.length=vs.length:=Paired.length r
end
theorem gq{P:aw}{w:av}{k:Key}{u:ae}(r:RelV (kV k) u):(cB P w).is k u=true:=by
 cases k with
 |inl i=>obtain⟨t,e⟩:=(show ∃t,u=ae.int i t from r);subst e;exact BH P w i t
 |inr x=>obtain⟨t,e⟩:=(show ∃t,u=ae.str x t from r);subst e;exact yo P w x t
theorem lT{P:aw}{w:av}:∀{ks:List Key}{us:List ae},Vals (ks.map kV) us->ItemsAre (cB P w) ks us
 | [],_,r=>by rw[List.map_nil]at r;cases r;exact .nil
 |k::ks,_,r=>by
  rw[aU]at r;cases r with
  |cons h t=>exact .cons (gq h) (lT t)
abbrev KT(H:Hp):List (List Key×V)->List (List Key×Addr×ae)->Prop:=Paired λp q=>p.1=q.1/\H q.2.1=some (.tup (p.1.map kV))/\RelV p.2 q.2.2
theorem KT.val{H:Hp}{kvs:List (List Key×V)}{xs:List (List Key×Addr×ae)}(r:KT H kvs xs)(k:List Key):dm (cz kvs k) ((atKey xs k).map (·.2)):=by
 induction r with
 |nil=>exact True.intro
 | @cons p q ps qs h t ih=>
  obtain⟨h1,_,h2⟩:=h;by_cases e:p.1=k
  ·have e':q.1=k:=h1.symm.trans e;have b:atKey (q::qs) k=some q.2:=by simp[atKey,List.find?_cons,e']
   rw[e_ e,b];exact h2
  ·have e':¬ q.1=k:=λz=>e (h1.trans z)
   have b:atKey (q::qs) k=atKey qs k:=by simp[atKey,List.find?_cons,e']
   rw[eV e,b];exact ih
theorem KT.repl{H:Hp}{kvs:List (List Key×V)}{xs:List (List Key×Addr×ae)}(r:KT H kvs xs)(k:List Key){y:V}{u:ae}(ry:RelV y u) :
  KT H (kvs.map λkv=>if kv.1=k then (kv.1,y)else kv) (xs.map (putAt k u)):=by
 induction r with
 |nil=>exact .nil
 | @cons p q ps qs h t ih=>
  rw[aU,aU];refine .cons ?_ ih;obtain⟨h1,h2,h3⟩:=h;unfold putAt;by_cases e:p.1=k
  ·rw[if_pos e,if_pos (h1.symm.trans e)];exact⟨h1,h2,ry⟩
  ·rw[if_neg e,if_neg (λz=>e (h1.trans z))];exact⟨h1,h2,h3⟩
theorem KT.put{H:Hp}{kvs:List (List Key×V)}{xs:List (List Key×Addr×ae)}(r:KT H kvs xs)(k:List Key){b:Addr}{y:V}{u:ae}(hb:H b=some (.tup (k.map kV)))(ry:RelV y u) :
  KT H (putK kvs k y) (storedH xs k b u):=by
 have e:(kvs.any λkv=>decide (kv.1=k))=(atKey xs k).isSome:=by
  rw[jP,(r.val k).isSome_eq,Option.isSome_map]
 unfold putK storedH;rw[e];by_cases q:(atKey xs k).isSome=true
 ·rw[if_pos q,if_pos q];exact r.repl k ry
 ·rw[if_neg q,if_neg q];exact Paired.snoc r ⟨rfl,hb,ry⟩
theorem KT.keeps{H H':Hp}{kvs:List (List Key×V)}{xs:List (List Key×Addr×ae)}(r:KT H kvs xs)(ht:∀b ys,H b=some (.tup ys)->H' b=some (.tup ys)):KT H' kvs xs:=
 Paired.mapP r λ_ _ z=>⟨z.1,ht _ _ z.2.1,z.2.2⟩
section
variable{P:aw}{w:av}{H:Hp}{h:Heap}{a:Addr}
theorem ll{u:HO}(ok:HOk P w H h)(e:Rd H a u):zN P w H h a u:=e.ok ok
theorem gS{kvs:List (Key×V)}(ok:HOk P w H h)(e:Rd H a (.dK kvs)):kvs.length<=aH/\(a==sysModules)=false/\∃vs,KV kvs vs/\h.DictOf (cB P w) a vs:=
 show zN P w H h a (.dK kvs)from ll ok e
theorem m9{kvs:List (Key×V)}(ok:HOk P w H h)(e:H a=some (.dK kvs)):kvs.length<=aH/\(a==sysModules)=false/\∃vs,KV kvs vs/\h.DictOf (cB P w) a vs:=gS ok (.inl e)
theorem gx{ks:List Key}(ok:HOk P w H h)(e:H a=some (.tup (ks.map kV))):(tupleKind (cB P w)).is h ks a:=by
 obtain⟨_,its,r,o,h1,h2,n,h3⟩:=(show zN P w H h a (.tup (ks.map kV))from ok a _ e)
 exact⟨o,its.toArray,n,h1,h2,h3,by simpa using lT r⟩
theorem gB{kvs:List (List Key×V)}(ok:HOk P w H h)(e:Rd H a (.dT kvs)):kvs.length<=aH/\(a==sysModules)=false /\
  ∃xs,KT H kvs xs/\h.DictOfH (tupleKind (cB P w)) a xs:=by
 obtain⟨z,y,xs,r,o,es,ep,h1,h2,h3,h4,h5⟩:=(show zN P w H h a (.dT kvs)from ll ok e)
 refine⟨z,y,xs,r,o,es,ep,h1,h2,h3,h4,λx hx=>?_,h5⟩;have all:∀{l:List (List Key×V)}{m:List (List Key×Addr×ae)},KT H l m->∀x∈m,(tupleKind (cB P w)).is h x.1 x.2.1:=by
  intro l m q
  induction q with
  |nil=>intro x hx;exact nomatch hx
  | @cons p q ps qs hq t ih=>
   intro x hx;rcases aL.mp hx with e|hx
   ·subst e;exact gx ok (by rw[<-hq.1];exact hq.2.1)
   ·exact ih x hx
 exact all r x hx
theorem yQ{kvs:List (List Key×V)}(ok:HOk P w H h)(e:H a=some (.dT kvs)):kvs.length<=aH/\(a==sysModules)=false /\
  ∃xs,KT H kvs xs/\h.DictOfH (tupleKind (cB P w)) a xs:=gB ok (.inl e)
end
noncomputable def dH(H:Hp)(a:Addr)(y:V)(r:Option V):Prop:=
 (∃kvs k,Rd H a (.dK kvs)/\y=kV k/\r=cz kvs k)\/∃kvs k b,Rd H a (.dT kvs)/\y=.ref b/\H b=some (.tup (k.map kV))/\r=cz kvs k
noncomputable def iL(H:Hp)(a:Addr)(y v:V)(H':Hp):Prop:=
 (∃kvs k,H a=some (.dK kvs)/\y=kV k/\kvs.length<aH/\H'=upd H a (.dK (putK kvs k v))) \/
 ∃kvs k b,H a=some (.dT kvs)/\y=.ref b/\H b=some (.tup (k.map kV))/\kvs.length<aH/\H'=upd H a (.dT (putK kvs k v))
theorem dH.k{H:Hp}{a:Addr}{kvs:List (Key×V)}{k:Key}(e:H a=some (.dK kvs)):dH H a (kV k) (cz kvs k):=.inl ⟨kvs,k,.inl e,rfl,rfl⟩
theorem iL.k{H:Hp}{a:Addr}{kvs:List (Key×V)}{k:Key}{v:V}(e:H a=some (.dK kvs))(hl:kvs.length<aH):iL H a (kV k) v (upd H a (.dK (putK kvs k v))):=.inl ⟨kvs,k,e,rfl,hl,rfl⟩
section
variable{X:Cx}{pins:List (Addr×Obj)}{σ:St}{H:Hp}{s:af}{a:Addr}{y v:V}{u r:ae}{o:Option V}{A:ay}{E:ae->af->Prop}
theorem Inv.big(I:Inv X pins σ H s):sysModules<s.heap.objs.size:=by
 have h:ax<s.heap.objs.size:=(I.mod.glob.keeps I.bk).lt;exact Nat.lt_trans (by decide) h
theorem q_{Q:ae->af->Prop}(hu:A.units+1<cLine)(I:Inv X pins σ H s)(g:dH H a y (some v))(ry:RelV y u)(h:∀w' s',Inv X pins σ H s'->RelV v w'->Q w' s') :
  ak (ah X.prog X.w) A (getItem (.ref a) u) Q E s:=by
 rcases g with ⟨kvs,k,e,ey,l⟩|⟨kvs,k,b,e,ey,eb,l⟩
 ·subst ey;obtain⟨z,hd,vs,rel,dd⟩:=gS I.hok e;obtain⟨w',hw,rw'⟩:=dm.some_of (v:=v) (o:=valueAt vs k) (by rw[l];exact rel.val k);exact wpAny_getItem_of (gq ry) dd.mapOf hw (h w' _ (I.tok _) rw')
 ·subst ey;cases (show u=a8 b from ry);obtain⟨z,hd,xs,rel,dd⟩:=gB I.hok e;obtain⟨w',hw,rw'⟩:=dm.some_of (v:=v) (o:=(atKey xs k).map (·.2)) (by rw[l];exact rel.val k);obtain⟨p,hp,hp2⟩:=bu.mp hw;refine wpAny_getItem_heap (tupleKind_room_in1 hu) (gx I.hok eb) dd hp ?_;rw[hp2];exact h w' _ (I.tok _) rw'
theorem Cq{Q:ae->af->Prop}(hu:A.units+1<cLine)(I:Inv X pins σ H s)(g:dH H a y o)(ry:RelV y u)(h:∀s',Inv X pins σ H s'->Q (.bool o.isSome) s') :
  ak (ah X.prog X.w) A (aV .In u (.ref a)) Q E s:=by
 rcases g with ⟨kvs,k,e,ey,l⟩|⟨kvs,k,b,e,ey,eb,l⟩
 ·subst ey;obtain⟨z,hd,vs,rel,dd⟩:=gS I.hok e;refine wpAny_in_of (gq ry) hd dd.mapOf ?_;rw[<-(rel.val k).isSome_eq,<-l];exact h _ (I.tok _)
 ·subst ey;cases (show u=a8 b from ry);obtain⟨z,hd,xs,rel,dd⟩:=gB I.hok e;refine wpAny_in_heap (tupleKind_room_in1 hu) (gx I.hok eb) hd dd ?_;have q:=(rel.val k).isSome_eq;rw[Option.isSome_map]at q;rw[<-q,<-l];exact h _ (I.tok _)
theorem yO{Q:ae->af->Prop}(hu:A.units+1<cLine)(I:Inv X pins σ H s)(g:dH H a y o)(ry:RelV y u)(h:∀s',Inv X pins σ H s'->Q (.bool (!o.isSome)) s') :
  ak (ah X.prog X.w) A (aV .NotIn u (.ref a)) Q E s:=by
 rcases g with ⟨kvs,k,e,ey,l⟩|⟨kvs,k,b,e,ey,eb,l⟩
 ·subst ey;obtain⟨z,hd,vs,rel,dd⟩:=gS I.hok e;refine wpAny_notIn_of (gq ry) hd dd.mapOf ?_;rw[<-(rel.val k).isSome_eq,<-l];exact h _ (I.tok _)
 ·subst ey;cases (show u=a8 b from ry);obtain⟨z,hd,xs,rel,dd⟩:=gB I.hok e;refine wpAny_notIn_heap (tupleKind_room_in1 hu) (gx I.hok eb) hd dd ?_;have q:=(rel.val k).isSome_eq;rw[Option.isSome_map]at q;rw[<-q,<-l];exact h _ (I.tok _)
theorem m6{h':Heap}{t':Nat}{ob:HO}(I:Inv X pins σ H s)(mu:Mut (H a))(hs:Heap.SameBut a s.heap h')(he:∃q,h'.get? a=some q)(new:zN X.prog X.w (upd H a ob) h' a ob) :
  Inv X pins σ (upd H a ob) {s with heap:=h',toks:=t'}:=
 I.write (x:=a) (e:=a) mu (.inl rfl) (λb q hb z=>(hs.2 b hb).trans z) he new
theorem Cm{P:aw}{w:av}{H':Hp}{h':Heap}{kvs:List (Key×V)}{vs:List (Key×ae)}(z:kvs.length<=aH)(hd:(a==sysModules)=false)(rel:KV kvs vs)(dd:h'.DictOf (cB P w) a vs) :
  zN P w H' h' a (.dK kvs):=⟨z,hd,vs,rel,dd⟩
theorem BN{H':Hp}{Q:Unit->af->Prop}(hu:A.units+1<cLine)(I:Inv X pins σ H s)(g:iL H a y v H')(ry:RelV y u)(rv:RelV v r)(h:∀s',Inv X pins σ H' s'->Q () s') :
  ak (ah X.prog X.w) A (setItem (.ref a) u r) Q E s:=by
 rcases g with ⟨kvs,k,e,ey,l,eH⟩|⟨kvs,k,b,e,ey,eb,l,eH⟩
 ·subst ey eH;obtain⟨z,hd,vs,rel,dd⟩:=m9 I.hok e;have hz:vs.length<=sizeLine:=by rw[<-rel.length];exact z
  have hl:(putK kvs k v).length<=sizeLine:=by have:=oN kvs k v;lia
  refine wpAny_setItem_pairs (hsz:=hz) (gq ry) dd λh' dd' hs=>h _ ?_
  have he:∃q,h'.get? a=some q:=let ⟨q,_,_,hq,_⟩:=dd';⟨q,hq⟩
  exact m6 I (by rw[e];exact True.intro) hs he (Cm hl hd (rel.put k rv) dd')
 ·subst ey eH;cases (show u=a8 b from ry);obtain⟨z,hd,xs,rel,dd⟩:=yQ I.hok e;have hz:xs.length<=sizeLine:=by rw[<-Paired.length rel];exact z
  have hl:(putK kvs k v).length<=sizeLine:=by have:=oN kvs k v;lia
  refine wpAny_setItem_heap (hsz:=hz) (tupleKind_room_in1 hu) (gx I.hok eb) dd λh' dd' hs=>h _ ?_
  obtain⟨q,es,ep,hq,h2,h3,h4,_,h5⟩:=dd';refine m6 I (by rw[e];exact True.intro) hs ⟨q,hq⟩ ⟨hl,hd,_,(rel.put k eb rv).keeps λc ys ec=>?_,q,es,ep,hq,h2,h3,h4,h5⟩;rw[qg (BG ec e (λz=>nomatch z))];exact ec
end
section
variable{X:Cx}{pins:List (Addr×Obj)}{σ:St}{H:Hp}{s:af}{a:Addr}{kvs:List (Key×V)}{k:Key}{u:ae}{A:ay}{E:ae->af->Prop}
end
theorem uz{X:Cx}{pins:List (Addr×Obj)}{σ:St}{H:Hp}{s:af}{a:Addr}{y:V}{o:Option V}(I:Inv X pins σ H s)(g:dH H a y o):s.TypeIs (.ref a) "dict":=by
 rcases g with ⟨kvs,k,e,_,_⟩|⟨kvs,k,b,e,_,_,_⟩
 ·obtain⟨_,_,vs,_,dd⟩:=gS I.hok e;exact dd.typeIs
 ·obtain⟨_,_,xs,_,dd⟩:=gB I.hok e;exact dd.typeIs
section
variable{X:Cx}{o i e value:Expr}{pos pos' tpos:Pos}{td ty tv:TE}
end
theorem xU{P:aw}{w:av}{H:Hp}(h:Heap)(hb:sysModules<h.objs.size):zN P w H (h.push {cls:=.type "dict",data:=.dict #[]}) h.objs.size (.dK []):=
 ⟨bM _,beq_eq_false_iff_ne.mpr (Ne.symm (aX hb)),[],.nil,Heap.DictOf.new h⟩
noncomputable def vh:TE:=λ_ H Q=>∀p,H p=none->Q (.ref p) (upd H p (.dK []))
section
variable{X:Cx}{pos:Pos}
theorem A_:PE X (.Dict [] [] pos) vh:=λpins s σ H Q I h=>
 wpAny_Dict_empty ⟨.ref s.heap.objs.size,_,I.laid (a:=s.heap.objs.size) (o:=.dK []) (t':=s.toks) (λ_ _ q=>Heap.get?_push_of_some _ q) (aI _) (xU s.heap I.big),rfl,h _ (I.hok.fresh (aI _))⟩
end
structure M1(X:Cx)(o:Expr)(m:Str)(apos:Pos)(e:Expr)(cpos:Pos):Prop where
 base:attributeBase o m X.env (eval o X.env)=eval o X.env
 few:((backTo cpos (aO [e] X.env)).all (λx=>!x.1)&&(backToKw cpos (keywordEach [] X.env)).all (λx=>x.1.isSome)
  && decide (([e]:List Expr).length+([]:List Keyword).length+(if ([]:List Keyword).isEmpty then 0 else 1)<30))=true
 line:(apos.endLine==cpos.line)=true
 trees:backTo cpos (aO [e] X.env)=[(false,eval e X.env)]
structure M2(X:Cx)(o:Expr)(m:Str)(apos:Pos)(e f:Expr)(cpos:Pos):Prop where
 base:attributeBase o m X.env (eval o X.env)=eval o X.env
 few:((backTo cpos (aO [e,f] X.env)).all (λx=>!x.1)&&(backToKw cpos (keywordEach [] X.env)).all (λx=>x.1.isSome)
  && decide (([e,f]:List Expr).length+([]:List Keyword).length+(if ([]:List Keyword).isEmpty then 0 else 1)<30))=true
 line:(apos.endLine==cpos.line)=true
 trees:backTo cpos (aO [e,f] X.env)=[(false,eval e X.env),(false,eval f X.env)]
section
variable{X:Cx}{pins:List (Addr×Obj)}{σ:St}{H:Hp}{s:af}{a:Addr}{y d:V}{u r:ae}{o:Option V}{A:ay}{E:ae->af->Prop}
end
section
variable{X:Cx}{o e f:Expr}{apos cpos:Pos}{td ty tx:TE}
end
section
variable{X:Cx}{pins:List (Addr×Obj)}{σ:St}{H:Hp}{s:af}{a:Addr}{kvs:List (Key×V)}{A:ay}{E:ae->af->Prop}
end
section
variable{X:Cx}{pins:List (Addr×Obj)}{σ:St}{H:Hp}{s:af}{a:Addr}{y:V}{u:ae}{A:ay}{E:ae->af->Prop}
end
section
variable{X:Cx}
end
end L2
namespace HT
open PySem PySem.Spec PyProof.Rows L2
section
variable{prog:aw}{w:av}{A:ay}{E:ae->af->Prop}{s:af}
theorem uT{l:Addr}{its:Array ae}{Q:List ae->af->Prop}(ht:IsTup s.heap l its)(hz:its.size<=aH)
  (h:Q its.toList {s with heap:=(s.heap.push (aD "list" #[] 0)).update s.heap.objs.size (a7 (· ++ its))}) :
  ak (ah prog w) A (collect (.ref l)) Q E s:=by
 obtain⟨o,ho,hc,n,hd⟩:=id ht;unfold collect;apply ao;apply wpAny_runValue;apply codeAny_builtin entry_proto_collect';show ak _ _ (do again (.builtin "list.__iadd__" ⟨[<-newList [],.ref l],[]⟩)) _ _ s;apply ao;refine wpAny_newList (hsz:=bM _) ?_;refine aC ⟨Code.quiet_builtin _ (by decide +kernel),?_⟩;apply codeAny_builtin entry_list_iadd';show ak _ _ (Builtin.List.listExtendWith (.ref s.heap.objs.size) (.ref l) (.ref s.heap.objs.size)) _ _ ({s with heap:=s.heap.push (aD "list" #[] 0)}:af);have hS:(s.heap.push (aD "list" #[] 0)).get? s.heap.objs.size=some (aD "list" #[] 0):=Heap.get?_push_size _ rfl;have hT:=Heap.get?_push_of_some (aD "list" #[] 0) ho;unfold Builtin.List.listExtendWith;apply ao;refine wpAny_typeOf (T:="tuple") ⟨o,hT,hc⟩ ?_;rw[if_pos (by simp)];apply ao;refine listItems_at hT hd ?_;apply ao;refine listItems_at hS rfl ?_;rw[if_neg (by simp)];apply ao;refine listUpdate_at hS rfl ?_ (bM _) (by show (#[]++its).size<=aH+1;rw[Array.size_append];show 0+its.size<=_;lia);apply aC;show ak (ah prog w) A (load s.heap.objs.size>>=λo=>match o.data with
  | .seq xs _=>pure xs.toList
  |_=>unsupported "internal:collect") Q E _
 apply ao;refine wpAny_load (get?_update_seq hS _) ?_;show ak _ _ (pure ((#[]:Array ae)++its).toList) Q E _;rw[show ((#[]:Array ae)++its).toList=its.toList by simp];exact aC h
theorem pQ{l:Addr}{vs:List ae}{ns:List Int}{Q:ae->af->Prop}(ht:IsTup s.heap l vs.toArray)(hI:aY vs ns)(h64:vs.length<64)
  (h:∀(out:Array ae) (ns':List Int),aY out.toList ns'->ns'.Perm ns->ns'.Pairwise (·<=·)->Q (.ref (s.heap.objs.size+1)) {s with heap:=sortedAll s.heap vs out}) :
  ak (ah prog w) A (call (.builtin "sorted") [.ref l]) Q E s:=by
 refine Calls.call_function_entry kind_sorted plain_sorted entry_sorted (args_sorted1 _) ?_;unfold Builtin.«sorted»;apply ao (m:=checkCount "sorted" 1 1 _);apply aC;apply ao;refine uT ht (by rw[aW,bt];lia) ?_;apply ao;refine wpAny_newList (hsz:=by rw[bt];show vs.length<=_;lia) ?_;have hz:((s.heap.push (aD "list" #[] 0)).update s.heap.objs.size (a7 (· ++ vs.toArray))).objs.size=s.heap.objs.size+1:=by rw[Heap.size_update,size_push']
 have hL:(((s.heap.push (aD "list" #[] 0)).update s.heap.objs.size (a7 (· ++ vs.toArray))).push (aD "list" vs.toArray 0)).get? (s.heap.objs.size+1)=some (aD "list" vs.toArray 0):=hz▸Heap.get?_push_size _ rfl;show ak _ _ _ _ _ ({s with heap:=((s.heap.push (aD "list" #[] 0)).update s.heap.objs.size (a7 (· ++ vs.toArray))).push (aD "list" vs.toArray 0)}:af);rw[hz];apply ao;apply cq;refine wpAny_call_entry slot_list_sort ⟨_,hL,rfl⟩ entry_list_sort (list_sort_tree hL hI h64 λout ns' a1 a2 a3=>⟨_,rfl,?_⟩) (args_list_sort _);exact aC ⟨_,rfl,h out ns' a1 a2 a3⟩
end
end HT
namespace L2
open PySem PySem.Spec PyProof.Rows
variable{X:Cx}
noncomputable def rZ(K:ar):List V->Hp->VK->Prop:=λvs H Q=>∃(l:Addr) (ns:List Int),vs=[.ref l]/\SqT K H l (ns.map V.int)/\ns.length<64/\∀(D:Addr) (ms:List Int),H D=none->ms.Perm ns->ms.Pairwise (·<=·)->Q (.ref D) (upd H D (.lst (ms.map V.int)))
theorem Cg:zh X (.builtin "sorted") (rZ X.K):=by
 intro pins s σ H xs us Q I r ⟨l,ns,e,hl,h64,q⟩;subst e;obtain⟨u,rfl,ru⟩:=r.one;cases ru;obtain⟨its,rv,ht,hz⟩:=I.tuple hl;have hI:=intsAre_of rv;have hle:=aY.length hI;refine HT.pQ ht hI (by rw[hle];exact h64) λout ns' a1 a2 a3=>?_
 obtain⟨c,hc⟩:=sortedAll_at s.heap its out;have keep:∀b o,s.heap.get? b=some o->(sortedAll s.heap its out).get? b=some o:=λb o e=>sortedAll_old e
 have hn:H (s.heap.objs.size+1)=none:=I.hok.fresh (Nat.le_succ _);have hl':ns'.length=ns.length:=a2.length_eq;exact⟨.ref (s.heap.objs.size+1),_,I.laid (t':=s.toks) (o:=.lst (ns'.map V.int)) keep (Nat.le_succ _) ⟨by rw[bc,bt];lia,out.toList,c,jk a1,by rw[Array.toArray_toList];exact hc⟩,rfl,q _ ns' hn a2 a3⟩
noncomputable def bH(kvs:List (Int×Int)):List (Key×V):=kvs.map λp=>(Sum.inl p.1,V.int p.2)
noncomputable def atK(kvs:List (Int×Int))(i:Int):Option Int:=(kvs.find? λp=>decide (p.1=i)).map (·.2)
noncomputable def ft(kvs:List (Int×Int))(i v:Int):List (Int×Int):=if (kvs.any λp=>decide (p.1=i))=true then kvs.map (λp=>if p.1=i then (p.1,v)else p)else kvs++[(i,v)]
theorem nE(a i:Int):decide ((Sum.inl a:Key)=Sum.inl i)=decide (a=i):=decide_eq_decide.mpr ⟨λh=>Sum.inl.inj h,λh=>by rw[h]⟩
theorem yV(kvs:List (Int×Int))(i:Int):cz (bH kvs) (Sum.inl i)=(atK kvs i).map V.int:=by
 rw[cz,atK,bH]
 induction kvs with
 |nil=>rfl
 |cons p r ih=>
  rw[aU,List.find?_cons,List.find?_cons];rw[show decide ((Sum.inl p.1,V.int p.2).fst=(Sum.inl i:Key))=decide (p.1=i)from nE p.1 i];cases decide (p.1=i)with
  |true=>rfl
  |false=>exact ih
theorem nV(kvs:List (Int×Int))(i:Int):((bH kvs).any λkv=>decide (kv.1=Sum.inl i))=kvs.any λp=>decide (p.1=i):=by
 rw[bH,List.any_map]
 congr 1
 funext p;exact nE p.1 i
theorem mU(kvs:List (Int×Int))(i:Int):(cz (bH kvs) (Sum.inl i)).isSome=kvs.any λp=>decide (p.1=i):=by
 rw[<-jP,nV]
theorem yk(kvs:List (Int×Int))(i v:Int):putK (bH kvs) (Sum.inl i) (V.int v)=bH (ft kvs i v):=by
 rw[putK,ft,nV];by_cases h:(kvs.any λp=>decide (p.1=i))=true
 ·rw[if_pos h,if_pos h,bH,bH,bE,bE];refine List.map_congr_left λp _=>?_
  show (if (Sum.inl p.1:Key)=Sum.inl i then ((Sum.inl p.1:Key),V.int v)else (Sum.inl p.1,V.int p.2))=_;by_cases e:p.1=i
  ·rw[if_pos (by rw[e])];show _=((Sum.inl (if p.1=i then (p.1,v)else p).1:Key),V.int (if p.1=i then (p.1,v)else p).2)
   rw[if_pos e]
  ·rw[if_neg (λz=>e (Sum.inl.inj z))];show _=((Sum.inl (if p.1=i then (p.1,v)else p).1:Key),V.int (if p.1=i then (p.1,v)else p).2)
   rw[if_neg e]
 ·rw[if_neg h,if_neg h,bH,bH,List.map_append];rfl
theorem su(kvs:List (Int×Int)):(bH kvs).length=kvs.length:=bc ..
section
variable{X:Cx}
noncomputable def A5:List V->Hp->VK->Prop:=λvs H Q=>∃(l:Addr) (kvs:List (Int×Int)),vs=[.ref l]/\H l=some (.dK (bH kvs))/\kvs.length<64/\∀(D:Addr) (ms:List Int),H D=none->ms.Perm (kvs.map (·.1))->ms.Pairwise (·<=·)->Q (.ref D) (upd H D (.lst (ms.map V.int)))
theorem k9{P:aw}{w:av}:∀{ks:List (Int×Int)}{vs:List (Key×ae)}{xs:List ae},KV (bH ks) vs->xs.length=vs.length->(∀(j:Nat) (v:ae),xs[j]? = some v->∃k x,vs[j]? = some (k,x)/\(cB P w).is k v=true)->aY xs (ks.map (·.1))
 | [],vs,xs,r,hl,h=>by
  cases r;cases xs with
  |nil=>exact .nil
  |cons _ _=>cases hl
 |p::ks,vs,xs,r,hl,h=>by
  cases r with
  | @cons a b as bs h1 t=>
   cases xs with
   |nil=>cases hl
   |cons x xs=>
    obtain⟨k,y,e1,e2⟩:=h 0 x rfl;cases e1;obtain⟨z1,_⟩:=h1;have z1:Sum.inl p.1=k:=z1;subst z1;obtain⟨tk,rfl⟩:∃t,x=ae.int p.1 t:=ae.isInt_shape (k:=p.1) (v:=x) e2;exact .cons _ _ (k9 t (by simpa using hl) λj v e=>h (j+1) v e)
theorem Aa{prog:aw}{w:av}{A:ay}{E:ae->af->Prop}{s:af}{T:String}{r d:Addr}{n:Nat}{P:Nat->ae->Prop}{OK:Heap->Prop}{R:List ae->af->Prop}(K:PySem.W.KdlSrc prog w T r d n P OK)(hh:A.handled=none)(hok:OK s.heap)(hn:n<=aH)
  (h:∀(h':Heap) (tk:Nat) (acc:Array ae),s.heap.objs.size<h'.objs.size->(∀b o,s.heap.get? b=some o->h'.get? b=some o)->ItemsOf P acc n->R acc.toList {s with heap:=h',toks:=tk}) :
  ak (ah prog w) A (collect (.ref r)) R E s:=by
 have hlt:=K.there _ hok;unfold collect;refine ao (wpAny_runValue (codeAny_builtin F.entry_proto_collect ?_));rw[ay.under_plainId F.plain_proto_collect _];show ak _ A.in1 (newList []>>=λl=>again (.builtin "list.__iadd__" ⟨[l,.ref r],[]⟩)) _ _ s;refine ao (wpAny_newObj_type ?_);refine aC ⟨plainId_quiet F.plain_list_iadd _,codeAny_builtin F.entry_list_iadd ?_⟩;rw[ay.under_plainId F.plain_list_iadd _];have hS:(s.heap.push {cls:=.type "list",data:=.seq ([]:List ae).toArray}).get? s.heap.objs.size=some {cls:=.type "list",data:=.seq #[]}:=Heap.get?_push_size _ rfl;show ak _ A.in1 (Builtin.List.listExtendWith (.ref s.heap.objs.size) (.ref r) (.ref s.heap.objs.size)) _ _ _;refine bC (PySem.W.kdl_extend (A:=A) (R:=λq s'=>∃h' tk acc c,q=.ok (.ret (.ref s.heap.objs.size))/\s'={s with heap:=h',toks:=tk}/\(∀b o,s.heap.get? b=some o->h'.get? b=some o)/\h'.get? s.heap.objs.size=some {cls:=.type "list",data:=.seq acc c}/\ItemsOf P acc n)
  K hh (K.keep _ _ hok λb _ o e=>Heap.get?_push_of_some _ e) _ (Nat.ne_of_gt hlt.1) (Nat.ne_of_gt hlt.2) (.ref s.heap.objs.size) 0 hS
  (λh' tk acc c k1 k2 k3=>⟨h',tk,acc,c,rfl,rfl,λb o e=>k1 b o (aX (aJ e)) (Heap.get?_push_of_some _ e),k2,k3⟩) hn) (λf s' x=>?_) λe s' x=>?_
 ·have fin:∀{q:Result}{s':af},(∃h' tk acc c,q=.ok (.ret (.ref s.heap.objs.size))/\s'={s with heap:=h',toks:=tk}/\(∀b o,s.heap.get? b=some o->h'.get? b=some o)/\h'.get? s.heap.objs.size=some {cls:=.type "list",data:=.seq acc c}/\ItemsOf P acc n)->∃u,q=.ok (.ret u)/\ak (ah prog w) A (match (u:ae)with|a8 a=>load a>>=λo=>(match o.data with | .seq xs _=>pure xs.toList|_=>unsupported "internal:collect")|_=>unsupported "internal:collect") R E s':=by
   rintro q s' ⟨h',tk,acc,c,rfl,rfl,k1,k2,k3⟩;exact⟨_,rfl,ao (wpAny_load k2 (aC (h h' tk acc (aJ k2) k1 k3)))⟩
  cases f with
  |done f=>
   obtain⟨u,e,z⟩:=fin x;cases e;exact z
  |again c=>
   refine⟨x.1,codeAny_mono x.2 λq s2 y=>?_⟩;obtain⟨u,rfl,z⟩:=fin y;exact z
 ·obtain⟨_,_,_,_,z,_⟩:=x;cases z
theorem pj(hc:X.calm=true):zh X (.builtin "sorted") A5:=by
 intro pins s σ H xs us Q I r ⟨l,kvs,e,hl,h64,q⟩;subst e;obtain⟨u,rfl,ru⟩:=r.one;cases ru;obtain⟨z,hd,vs,rel,dd⟩:=m9 I.hok hl;obtain⟨ep,hat⟩:=dd.dictAt;have hlen:vs.length=kvs.length:=by rw[<-rel.length];exact bc ..
 have hn:vs.length<=sizeLine:=by rw[bt];lia
 refine Calls.call_function_entry kind_sorted plain_sorted entry_sorted (args_sorted1 _) ?_;unfold Builtin.«sorted»;refine ao (m:=checkCount "sorted" 1 1 _) (aC ?_);refine ao (Aa (A:=X.A.in1) (PySem.W.kdl_dict (knd:=cB X.prog X.w) (kvs:=vs) (ep:=ep) hd) (I.ok.hd hc) hat hn λh' tk acc hsz hk hacc=>?_);have hla:acc.toList.length=vs.length:=by rw[dv];exact hacc.1
 have hI:aY acc.toList (kvs.map (·.1)):=k9 (P:=X.prog) (w:=X.w) rel hla λj v e=>hacc.2 j v (by rw[<-Array.getElem?_toList];exact e)
 refine ao (wpAny_newList ?_ (by rw[hla];exact hn));have hL:(h'.push (aD "list" acc.toList.toArray 0)).get? h'.objs.size=some (aD "list" acc.toList.toArray 0):=Heap.get?_push_size _ rfl;refine ao (cq ?_);refine wpAny_call_entry slot_list_sort ⟨_,hL,rfl⟩ entry_list_sort (list_sort_tree hL hI (by rw[hla,hlen];exact h64) λout ns' a1 a2 a3=>⟨_,rfl,?_⟩) (args_list_sort _);obtain⟨c,hc⟩:=sortedHeap_at (out:=out) hL;have hle:=aY.length a1;refine aC ⟨_,rfl,.ref h'.objs.size,_,I.laid (t':=tk) (o:=.lst (ns'.map V.int)) (λb o e=>?_) (Nat.le_of_lt hsz) ⟨by rw[bc,a2.length_eq,bc,bt];lia,out.toList,c,jk a1,by rw[Array.toArray_toList];exact hc⟩,rfl,q _ ns' (I.hok.fresh (Nat.le_of_lt hsz)) a2 a3⟩;have e1:=hk b o e;have hb:=aJ e1;show (sortedHeap _ _ _ _).get? b=some o;rw[sortedHeap_old (aX hb) (by rw[Heap.size_push];exact cJ hb)];exact Heap.get?_push_of_some _ e1
theorem rn(hu:X.A.units+64<cLine):OpR X (aV .In) (λx y H Q=>∃a kvs i,y=.ref a/\x=.int i/\H a=some (.dK (bH kvs))/\Q (.bl (kvs.any λp=>decide (p.1=i))) H):=by
 intro pins s σ H x y v u Q I rx ry ⟨a,kvs,i,e1,e2,ha,q⟩;subst e1 e2;obtain rfl:u=a8 a:=ry;refine Cq (by lia) I (dH.k (k:=Sum.inl i) ha) rx λs' I'=>⟨.bl _,H,I',rfl,?_⟩
 rw[mU];exact q
theorem sI(hu:X.A.units+64<cLine):OpR X (aV .NotIn) (λx y H Q=>∃a kvs i,y=.ref a/\x=.int i/\H a=some (.dK (bH kvs))/\Q (.bl (!kvs.any λp=>decide (p.1=i))) H):=by
 intro pins s σ H x y v u Q I rx ry ⟨a,kvs,i,e1,e2,ha,q⟩;subst e1 e2;obtain rfl:u=a8 a:=ry;refine yO (by lia) I (dH.k (k:=Sum.inl i) ha) rx λs' I'=>⟨.bl _,H,I',rfl,?_⟩
 rw[mU];exact q
theorem sN{prog:aw}{w:av}{A:ay}{E:ae->af->Prop}{s:af}{e b:Expr}{o i:ae}{T id:String}{Q:ae->af->Prop}(hT:s.TypeIs o T)(hl:typeLookup (.type T) "__getitem__" = pure (some (.builtin id)))
  (h:ak (ah prog w) A (getItem o i) Q E s) (hs:subscripted b false o i=operate [o,i] (getItem o i)):ak (ah prog w) A (subscriptTail e b o i) Q E s:=by
 unfold subscriptTail;refine ao ?_;rw[getitemInPython_of_ne hT.not_modules];refine ao (wpAny_specialOf hT hl ?_);have fin:ak (ah prog w) A (subscripted b false o i) (λr s'=>ak (ah prog w) A (letTemporaryGo e o r>>=λ_=>pure r) Q E s') E s:=by
  rw[hs];exact wpAny_operating (bC h (λr s' z=>ao (wpAny_letTemporaryGo (aC z))) λ_ _ x=>x)
 first
  |exact aC (ao fin)
  |exact ao (aC (ao fin))
  |exact ao fin
noncomputable def kG:R2:=λx y H Q=>∃a kvs i v,x=.ref a/\y=.int i/\H a=some (.dK (bH kvs))/\atK kvs i=some v/\Q (.int v) H
theorem wQ(hu:X.A.units+64<cLine):IxR X kG:=by
 intro value slice pins s σ H x y v u Q I rx ry ⟨a,kvs,i,z,e1,e2,ha,he,q⟩ hs;subst e1 e2;obtain rfl:v=a8 a:=rx;have g:dH H a (.int i) (some (.int z)):=by
  have:=dH.k (k:=Sum.inl i) ha;rw[yV,he]at this;exact this
 exact sN (uz I g) PySem.F.slot_dict_getitem.lookup (q_ (by lia) I g ry λw' s' I' rw'=>⟨_,H,I',rw',q⟩) hs
theorem fB.or{r r':V->V->V->Hp->(Hp->Prop)->Prop}(h:fB X r)(h':fB X r'):fB X (λx y v H Q=>r x y v H Q\/r' x y v H Q):=by
 intro pins s σ H o i v ov iv u Q I ro ri rv q;rcases q with q|q
 ·exact h pins s σ H o i v ov iv u Q I ro ri rv q
 ·exact h' pins s σ H o i v ov iv u Q I ro ri rv q
noncomputable def oF:V->V->V->Hp->(Hp->Prop)->Prop:=λo i v H Q=>∃a kvs k z,o=.ref a/\i=.int k/\v=.int z/\H a=some (.dK (bH kvs))/\kvs.length<aH/\Q (upd H a (.dK (bH (ft kvs k z))))
theorem p9(hu:X.A.units+64<cLine):fB X oF:=by
 intro pins s σ H o i v ov iv u Q I ro ri rv ⟨a,kvs,k,z,e1,e2,e3,ha,hz,q⟩;subst e1 e2 e3;obtain rfl:ov=a8 a:=ro;refine BN (by lia) I (iL.k (k:=Sum.inl k) (v:=.int z) ha (by rw[su];exact hz)) ri rv λs' I'=>⟨_,I',?_⟩
 rw[yk];exact q
end
noncomputable def ip(kX:Str->Option aM)(NX NY:List Str)(cap:List (Option Nat))(scope:aS):Bool:=
 (scope.kind==.function)&&(scope.names.all λy=>(y.2 != .cell||scope.names.lookup y.1==some .cell)&&(y.2 != .local||scope.names.lookup y.1==some .local)&&(y.2 != .free||kX y.1==some .cell||kX y.1==some .free)) &&
 (cap.length==NY.length)&&(a9 cap.length).all λi=>match cap[i]? with
  |some (some j)=>(match NY[i]?,NX[j]? with
   |some x,some y=>x==y&&scope.names.lookup x==some .free&&(kX x==some .cell||kX x==some .free)
   |_,_=>false)
  |_=>true
theorem dg.of{X:Cx}{NY:List Str}{cap:List (Option Nat)}{scope:aS}(h:ip X.env.kindOf X.N NY cap scope=true):dg X NY cap scope:=by
 unfold ip at h;simp only[aF,cY,beq_iff_eq]at h;obtain⟨⟨⟨h1,h2⟩,h3⟩,h4⟩:=h;refine⟨h1,λy hy e=>?_,λy hy e=>?_,λy hy e=>?_,h3,λi j hc=>?_⟩
 ·have:=(h2 y hy).1.1;rw[e]at this
  simpa using this
 ·have:=(h2 y hy).1.2;rw[e]at this
  simpa using this
 ·have:=(h2 y hy).2;rw[e]at this
  simpa using this
 ·have hi:i<cap.length:=(List.getElem?_eq_some_iff.mp hc).1;have:=h4 i (List.mem_range.mpr hi);rw[hc]at this;dsimp only at this;split at this
  ·rename_i x y e1 e2
   simp only[aF,beq_iff_eq,bh]at this;obtain⟨⟨e3,e4⟩,e5⟩:=this;subst e3;exact⟨x,e1,e2,e4,e5⟩
  ·cases this
end L2
namespace WB
open PySem PySem.Spec PyProof.Rows L2
section
variable{P:aw}{w:av}{K:ar}{mg:Str->Option ae}{base:Heap}{f g:Addr}{fd gd:FuncData}
theorem _root_.L2.Fun.ok1{x qual:Str}{st:Stmt}{f:Addr}{fd:FuncData}{N ps:List Str}{k:Nat}{sp:Sp}(F:Fun K x qual st f fd)(S:gD N ps (zj st))(len:∀vs H Q E,sp vs H Q E->vs.length=ps.length)
  (hbody:∀(cdv:ae) (A:ay) (outer:List Env) (s:af) (H:Hp) (vs:List V) (Q:VK) (E:XK),b8 k (A.deeper (envOfC qual (zj st) s.heap.objs.size f cdv))->sp vs H Q E ->
   ∃t,PSs (dk (CX1 P w) P w K mg base N qual (zj st) f cdv A outer s H E) (dn st) t/\t {nx:=λ_ H'=>Q .non H',rt:=Q} (start N vs) H):eO P w K mg base (CX1 P w) (k+1) f fd ps sp:=by
 obtain⟨oc,od,kV,doc,pm,an,cdv,ct,osl,rfl,lk,hcd⟩:=F.ex;exact BY lk hcd S len λA outer s H vs Q E hr hsp=>hbody cdv A outer s H vs Q E hr hsp
end
noncomputable def rm(H:Hp)(ps:List Addr)(ks:List (Int×Int)):Prop:=ps.length=ks.length/\∀(i:Nat) p k,ps[i]? = some p->ks[i]? = some k->H p=some (.tup [.int k.1,.int k.2])
structure Built(H0:Hp)(acc:Addr)(ks:List (Int×Int))(H:Hp):Prop where
 ex:∃ps:List Addr,H acc=some (.lst (ps.map V.ref))/\rm H ps ks
 same:∀b o,b≠acc->H0 b=some o->H b=some o
end WB
set_option genSizeOf false
set_option genSizeOfSpec false
namespace EV
open PySem L2
inductive D where
 |non|bl (b:Bool)|int (i:Int)|str (x:Str)|tup (xs:List D)|lst (xs:List D)|fn (x:Str)|exn (c:Str)|dic (kvs:List (Int×Int))
inductive R(α:Type) where
 |ok (a:α)|ex (c:Str)|no
noncomputable def R.bind{α β:Type}:R α->(α->R β)->R β
 | .ok a,f=>f a
 | .ex c,_=>.ex c
 | .no,_=>.no
@[simp] theorem R.bind_ok{α β:Type}(a:α)(f:α->R β):(R.ok a).bind f=f a:=rfl
@[simp] theorem R.bind_ex{α β:Type}(c:Str)(f:α->R β):(R.ex c:R α).bind f=.ex c:=rfl
@[simp] theorem R.bind_no{α β:Type}(f:α->R β):(R.no:R α).bind f=.no:=rfl
inductive O2 where
 |add|sub|mul|fdiv|mod|pow|shl|shr|band|bor|bxor
 deriving DecidableEq
inductive C2 where
 |eq|ne|lt|le|gt|ge|isin|notin|is|isnot
 deriving DecidableEq
inductive B1 where
 |len|tuple|list|sorted|all|any|sum|min|max|abs|int|bool
 deriving DecidableEq
inductive Cl where
 |ty (n:String)|ex (x:Str)
 deriving DecidableEq
inductive Tg where
 |nm (i:Nat)|tp (is:List Nat)
mutual
inductive E where
 |var (i:Nat)|own (i:Nat)|con (d:D)|glb (x:Str)|fnv (x:Str)
 |op (o:O2) (a b:E)|neg (a:E)|inv (a:E)|not (a:E)|and (a b:E)|or (a b:E)
 |cmp (c:C2) (a b:E)|cmp2 (c c':C2) (a b d:E)|cmp3 (c c' c'':C2) (a b d e:E)
 |ite (t:T) (a b:E)
 |tup (es:Es)|lst (es:Es)
 |ix (a b:E)|sl (a:E) (lo hi:OE)
 |call (f:Str) (es:Es)|callE (f:E) (es:Es)
 |bi (b:B1) (es:Es)
 |rtup (a:It)|rlst (a:It)
 |isi (a:E) (c:Cl)
 |comp (it:It) (cap:List (Option Nat)) (tg:Tg) (t:T) (elt:E)
 |mth (ix:Bool) (a:E)
 |cnt (a b:E)
 |mxk (mx:Bool) (a:E)
 |dic
 |callo (f:Str) (es:Es)
 |comp2 (it:It) (cap:List (Option Nat)) (tg:Tg) (it2:It) (tg2:Tg) (t:T) (elt:E)
 |fst2 (t0:Str) (a:E) (t1:Str) (b:E) (t2:Str)
 |sset (ln:Bool) (a:E)
 |rev (a:E)
 |dic1 (a b:E)
 |dget (a b:E)
 |dget2 (a b d:E)
 |lsd (a:E)
 |lstc (f:Str) (es:Es)
inductive OE where
 |none|some (e:E)
inductive Es where
 |nil|cons (e:E) (es:Es)
inductive It where
 |seq (e:E)|rng (a:E)|rng2 (a b:E)|enum (e:E)|zip (a b:E)|rng3 (a b k:E)|rrev (a:E)
inductive T where
 |yes|val (e:E)|cmp (c:C2) (a b:E)|cmp2 (c c':C2) (a b d:E)|and (a b:T)|or (a b:T)|not (a:T)
end
noncomputable def SZ:Nat:=1000000
noncomputable def small(j:Int):Bool:=decide (-(2^64)<j)&&decide (j<2^64)
noncomputable def opI:O2->Int->Int->R D
 | .add,i,j=>.ok (.int (i+j))
 | .sub,i,j=>.ok (.int (i-j))
 | .mul,i,j=>if small i||small j then .ok (.int (i * j))else .no
 | .fdiv,i,j=>if 0<j/\j<1000000000000000000000000000000 then .ok (.int (i/j))else .no
 | .mod,i,j=>if 0<j then .ok (.int (i%j))else .no
 | .pow,i,j=>if 0<=j/\j<=1000000/\i.natAbs<2^64 then .ok (.int (i^j.toNat))else .no
 | .shl,i,j=>if 0<=j/\j<=1000000/\i.natAbs<2^64 then .ok (.int (i * 2^j.toNat))else .no
 | .shr,i,j=>if 0<=j then .ok (.int (i/2^j.toNat))else .no
 | .band,i,j=>.ok (.int (Builtin.bitAnd i j))
 | .bor,i,j=>.ok (.int (Builtin.bitOr i j))
 | .bxor,i,j=>.ok (.int (Builtin.bitXor i j))
noncomputable def zr:D->Bool
 | .lst _=>true
 | .dic _=>true
 |_=>false
noncomputable def jc:D->Bool
 | .lst _=>true
 |_=>false
noncomputable def op2(o:O2):D->D->R D
 | .int i,.int j=>opI o i j
 | .tup xs,.tup ys=>if o=.add/\xs.length+ys.length<=SZ then .ok (.tup (xs++ys))else .no
 | .lst xs,.lst ys=>if o=.add/\xs.length+ys.length<=SZ then .ok (.lst (xs++ys))else .no
 |_,_=>.no
mutual
noncomputable def D.plain:D->Bool
 | .non=>true
 | .bl _=>true
 | .int _=>true
 | .str x=>PyData.strOk x
 | .tup xs=>plainAll xs
 | .lst xs=>plainAll xs
 | .fn _=>false
 | .exn _=>false
 | .dic _=>false
noncomputable def plainAll:List D->Bool
 | []=>true
 |x::xs=>x.plain&&plainAll xs
end
mutual
noncomputable def D.deep:D->Nat
 | .tup xs=>dj xs+1
 | .lst xs=>dj xs+1
 |_=>0
noncomputable def dj:List D->Nat
 | []=>0
 |x::xs=>max x.deep (dj xs)
end
mutual
noncomputable def D.eqv:D->D->Bool
 | .non,.non=>true
 | .bl a,.bl b=>a==b
 | .bl a,.int j=>(if a then 1 else 0)==j
 | .int i,.bl b=>i==(if b then 1 else 0)
 | .int i,.int j=>i==j
 | .str x,.str y=>x==y
 | .tup xs,.tup ys=>eqvAll xs ys
 | .lst xs,.lst ys=>eqvAll xs ys
 |_,_=>false
noncomputable def eqvAll:List D->List D->Bool
 | [],[]=>true
 |x::xs,y::ys=>x.eqv y&&eqvAll xs ys
 |_,_=>false
end
noncomputable def D.asks(d:D):Bool:=d.plain&&decide (d.deep<=20)
mutual
noncomputable def D.noL:D->Bool
 | .non=>true
 | .bl _=>true
 | .int _=>true
 | .str _=>true
 | .tup xs=>mz xs
 |_=>false
noncomputable def mz:List D->Bool
 | []=>true
 |x::xs=>x.noL&&mz xs
end
noncomputable def ints?:List D->Option (List Int)
 | []=>some []
 | .int i::r=>(ints? r).map (i :: ·)
 |_=>none
noncomputable def bools?:List D->Option (List Bool)
 | []=>some []
 | .bl i::r=>(bools? r).map (i :: ·)
 |_=>none
noncomputable def pairs?:List D->Option (List (Int×Int))
 | []=>some []
 | .tup [.int i,.int j]::r=>(pairs? r).map ((i,j) :: ·)
 |_=>none
noncomputable def seq?:D->Option (List D)
 | .tup xs=>some xs
 | .lst xs=>some xs
 |_=>none
noncomputable def cN:List Int->List Int->Bool
 | [],[]=>false
 | [],_::_=>true
 |_::_,[]=>false
 |a::r,b::t=>if a=b then cN r t else decide (a<b)
noncomputable def iV(c:C2)(i j:Int):Option Bool:=
 match c with
 | .lt=>some (decide (i<j))
 | .le=>some (decide (i<=j))
 | .gt=>some (decide (j<i))
 | .ge=>some (decide (j<=i))
 | .eq=>some (decide (i=j))
 | .ne=>some (!decide (i=j))
 |_=>none
noncomputable def inD(x:D)(xs:List D):Bool:=xs.any λy=>y.eqv x
noncomputable def gf:D->Bool
 | .non=>true
 |_=>false
noncomputable def isB(n:Bool):D->D->R Bool
 | .bl a,.bl b=>.ok (n != (a==b))
 |_,_=>.no
noncomputable def dN(a b:D):R Bool:=match b with
 | .dic kvs=>(match a with
  | .int i=>.ok (kvs.any λp=>decide (p.1=i))
  |_=>.no)
 |_=>.no
noncomputable def qk:C2->D->D->R Bool
 | .is,a,b=>if gf b then .ok (gf a)else isB false a b
 | .isnot,a,b=>if gf b then .ok (!gf a)else isB true a b
 | .isin,a,b=>match seq? b with
  |some xs=>if a.asks&&xs.all D.asks then .ok (inD a xs)else .no
  |none=>dN a b
 | .notin,a,b=>match seq? b with
  |some xs=>if a.asks&&xs.all D.asks then .ok (!inD a xs)else .no
  |none=>(dN a b).bind λr=>.ok (!r)
 | .eq,a,b=>if a.asks&&b.asks then .ok (a.eqv b)else .no
 | .ne,a,b=>if a.asks&&b.asks then .ok (!a.eqv b)else .no
 | .lt,.tup xs,.tup ys=>match ints? xs,ints? ys with
  |some ns,some ms=>.ok (cN ns ms)
  |_,_=>.no
 |c,.int i,.int j=>match iV c i j with
  |some b=>.ok b
  |none=>.no
 |_,_,_=>.no
noncomputable def truth:D->R Bool
 | .non=>.ok false
 | .bl b=>.ok b
 | .int i=>.ok (i != 0)
 | .tup xs=>.ok (!xs.isEmpty)
 | .lst xs=>.ok (!xs.isEmpty)
 |_=>.no
noncomputable def ixD:D->D->R D
 | .tup xs,.int i=>match atI xs i with|some d=>.ok d|none=>.no
 | .lst xs,.int i=>match atI xs i with|some d=>.ok d|none=>.no
 | .dic kvs,.int i=>match atK kvs i with|some v=>.ok (.int v)|none=>.no
 |_,_=>.no
noncomputable def cutD(xs:List D)(lo hi:Option Int):List D:=(xs.drop (HT.sIx xs.length 0 lo)).take (HT.sIx xs.length xs.length hi-HT.sIx xs.length 0 lo)
noncomputable def slD:D->Option Int->Option Int->R D
 | .lst xs,lo,hi=>.ok (.lst (cutD xs lo hi))
 |_,_,_=>.no
noncomputable def insI(i:Int):List Int->List Int
 | []=>[i]
 |j::r=>if i<=j then i::j::r else j::insI i r
noncomputable def sortI:List Int->List Int
 | []=>[]
 |i::r=>insI i (sortI r)
noncomputable def dO(p:Int×Int):List (Int×Int)->List (Int×Int)
 | []=>[p]
 |q::r=>if ltP q p then q::dO p r else p::q::r
noncomputable def b_:List (Int×Int)->List (Int×Int)
 | []=>[]
 |p::r=>dO p (b_ r)
noncomputable def pairD(p:Int×Int):D:=.tup [.int p.1,.int p.2]
noncomputable def dD(d:D)(k:List D->R D):R D:=match d with | .lst xs=>k xs|_=>.no
noncomputable def ibR(d:D)(f:Int->R D)(q:Bool->R D):R D:=match d with | .int i=>f i | .bl b=>q b|_=>.no
noncomputable def iiR(d e:D)(k:Int->Int->R D):R D:=match d,e with | .int i,.int j=>k i j|_,_=>.no
noncomputable def cG{α β:Type}(o:Option α)(k:α->R β):R β:=match o with|some a=>k a|none=>.no
noncomputable def tups?:List D->Option (List (List Int))
 | []=>some []
 | .tup xs::r=>(ints? xs).bind λn=>(tups? r).map (n :: ·)
 |_=>none
noncomputable def dM(p:List Int):List (List Int)->List (List Int)
 | []=>[p]
 |q::r=>if cN q p then q::dM p r else p::q::r
noncomputable def du:List (List Int)->List (List Int)
 | []=>[]
 |p::r=>dM p (du r)
noncomputable def fb(l:List Int):D:=.tup (l.map D.int)
noncomputable def eP:List (List Int)->Bool
 |p::q::r=>p.isEmpty||(p::q::r).all λt=>!t.isEmpty
 | [_]=>true
 |_=>false
noncomputable def cj(xs:List D):R D:=if xs.length<64 then cG (tups? xs) λts=>if eP ts then .ok (.lst ((du ts).map fb))else .no else .no
noncomputable def b11(b:B1)(d:D):R D:=match b with
 | .len=>cG (seq? d) λxs=>.ok (.int xs.length)
 | .tuple=>cG (seq? d) λxs=>.ok (.tup xs)
 | .list=>.no
 | .all=>dD d λxs=>cG (bools? xs) λbs=>.ok (.bl (bs.all id))
 | .any=>dD d λxs=>cG (bools? xs) λbs=>.ok (.bl (bs.any id))
 | .sorted=>match d with
  | .tup xs=>if xs.length<64 then cG (ints? xs) λns=>.ok (.lst ((sortI ns).map D.int))else .no
  | .dic kvs=>if kvs.length<64 then .ok (.lst ((sortI (kvs.map (·.1))).map D.int))else .no
  |d=>dD d λxs=>if xs.length<64 then (match ints? xs with
   |some ns=>.ok (.lst ((sortI ns).map D.int))
   |none=>match pairs? xs with
    |some ps=>.ok (.lst ((b_ ps).map pairD))
    |none=>cj xs)else cj xs
 | .abs=>.no
 | .int=>ibR d (λi=>.ok (.int i)) λb=>.ok (.int (if b then 1 else 0))
 | .bool=>.no
 | .min=>.no
 | .max=>.no
 | .sum=>.no
noncomputable def b12(b:B1)(d e:D):R D:=match b with
 | .min=>iiR d e λi j=>.ok (.int (if j<i then j else i))
 | .max=>iiR d e λi j=>.ok (.int (if j>i then j else i))
 |_=>.no
noncomputable def nc(ln:Bool)(d:D):R D:=.no
noncomputable def b1(b:B1):List D->R D
 | [d]=>b11 b d
 | [d,e]=>b12 b d e
 |_=>.no
noncomputable def tyD:D->Option String
 | .non=>some "NoneType"
 | .bl _=>some "bool"
 | .int _=>some "int"
 | .str _=>some "str"
 | .tup _=>some "tuple"
 | .lst _=>some "list"
 | .dic _=>some "dict"
 |_=>none
noncomputable def zZ(lo:Int)(n:Nat):List D:=(a9 n).map λ(i:Nat)=>.int (lo+(i:Int))
noncomputable def dt:Nat->List D->List D
 |_,[]=>[]
 |k,x::r=>.tup [.int k,x]::dt (k+1) r
noncomputable def qZ(j:Int):Bool:=decide (-1000000<=j)&&decide (j<=1000000)
abbrev Env:=List (Option D)
structure W where
 call:Str->List D->R D
 glb:Str->Option D
 sub:Str->Cl->Option Bool
 cat:Str->Str->Bool
noncomputable def b9(w:W)(x:D)(c:Cl):R D:=match tyD x,c with
 |some t,.ty n=>if n = "ValueError" then .no else .ok (.bl (fh t n))
 |none,c=>match x with
  | .exn k=>match w.sub k c with|some b=>.ok (.bl b)|none=>.no
  |_=>.no
 |_,_=>.no
noncomputable def bO(τ:Env)(i:Nat):R D:=match τ[i]? with
 |some (some d)=>.ok d
 |_=>.no
noncomputable def setAll:List Nat->List D->Env->R Env
 | [],[],τ=>.ok τ
 |i::is,d::ds,τ=>setAll is ds (τ.set i (some d))
 |_,_,_=>.no
noncomputable def store:Tg->D->Env->R Env
 | .nm i,d,τ=>.ok (τ.set i (some d))
 | .tp is,.tup ds,τ=>if ds.length=is.length then setAll is ds τ else .no
 |_,_,_=>.no
noncomputable def dw(cap:List (Option Nat))(τ:Env):Env:=cap.map λo=>o.bind λj=>(τ[j]?).join
noncomputable def noEx{α:Type}:R α->R α
 | .ok a=>.ok a
 |_=>.no
noncomputable def cf(body:D->Env->R (Env×List D)):List D->Env->List D->R (List D)
 | [],_,acc=>.ok acc
 |x::r,τ,acc=>(body x τ).bind λp=>cf body r p.1 (acc++p.2)
mutual
noncomputable def evE(w:W):E->Env->R D
 | .var i,τ=>bO τ i
 | .own i,τ=>bO τ i
 | .con d,_=>.ok d
 | .glb x,_=>match w.glb x with|some d=>.ok d|none=>.no
 | .fnv x,_=>.no
 | .op o a b,τ=>(evE w a τ).bind λx=>(evE w b τ).bind λy=>op2 o x y
 | .neg a,τ=>(evE w a τ).bind λx=>match x with | .int i=>.ok (.int (-i))|_=>.no
 | .inv a,_=>.no
 | .not a,τ=>(evE w a τ).bind λx=>match x with | .bl b=>.ok (.bl (!b))|_=>.no
 | .and a b,τ=>(evE w a τ).bind λx=>match x with | .bl true=>evE w b τ | .bl false=>.ok (.bl false)|_=>.no
 | .or a b,τ=>(evE w a τ).bind λx=>match x with | .bl true=>.ok (.bl true) | .bl false=>evE w b τ|_=>.no
 | .cmp c a b,τ=>(evE w a τ).bind λx=>(evE w b τ).bind λy=>(qk c x y).bind λr=>.ok (.bl r)
 | .cmp2 c c' a b d,τ=>(evE w a τ).bind λx=>(evE w b τ).bind λy=>(qk c x y).bind λr=>if r then (evE w d τ).bind λz=>(qk c' y z).bind λr'=>.ok (.bl r')else .ok (.bl false)
 | .cmp3 c c' c'' a b d e,τ=>(evE w a τ).bind λx=>(evE w b τ).bind λy=>(qk c x y).bind λr=>if r then (evE w d τ).bind λz=>(qk c' y z).bind λr'=>if r' then (evE w e τ).bind λu=>(qk c'' z u).bind λr''=>.ok (.bl r'')else .ok (.bl false)else .ok (.bl false)
 | .ite t a b,τ=>(evT w t τ).bind λr=>if r then evE w a τ else evE w b τ
 | .tup es,τ=>(zi w es τ).bind λds=>.ok (.tup ds)
 | .lst es,τ=>(zi w es τ).bind λds=>.ok (.lst ds)
 | .ix a b,τ=>(evE w a τ).bind λx=>(evE w b τ).bind λy=>ixD x y
 | .sl a lo hi,τ=>(evE w a τ).bind λx=>(evO w lo τ).bind λl=>(evO w hi τ).bind λh=>slD x l h
 | .call f es,τ=>(zi w es τ).bind λds=>w.call f ds
 | .callE f es,_=>.no
 | .bi b es,τ=>(zi w es τ).bind λds=>b1 b ds
 | .rtup a,_=>.no
 | .rlst a,_=>.no
 | .isi a c,τ=>(evE w a τ).bind λx=>b9 w x c
 | .comp it cap tg t elt,τ=>(evI w it τ).bind λds=>if SZ<ds.length then .no else (cf (λx σ=>noEx ((store tg x σ).bind λσ'=>(evT w t σ').bind λr=>if r then (evE w elt σ').bind λd=>.ok (σ',[d])else .ok (σ',[]))) ds (dw cap τ) []).bind λout=>.ok (.lst out)
 | .mth ix a,_=>.no
 | .cnt a b,_=>.no
 | .mxk mx a,_=>.no
 | .dic,_=>.ok (.dic [])
 | .callo f es,_=>.no
 | .comp2 it cap tg it2 tg2 t elt,_=>.no
 | .fst2 t0 a t1 b t2,_=>.no
 | .sset ln a,τ=>(evE w a τ).bind (nc ln)
 | .rev a,_=>.no
 | .dic1 a b,_=>.no
 | .dget a b,_=>.no
 | .dget2 a b d,_=>.no
 | .lsd a,_=>.no
 | .lstc f es,τ=>(zi w es τ).bind λds=>(w.call f ds).bind λd=>if zr d then .ok d else .no
noncomputable def evO(w:W):OE->Env->R (Option Int)
 | .none,_=>.ok none
 | .some e,τ=>(evE w e τ).bind λx=>match x with | .int i=>.ok (some i)|_=>.no
noncomputable def zi(w:W):Es->Env->R (List D)
 | .nil,_=>.ok []
 | .cons e es,τ=>(evE w e τ).bind λd=>(zi w es τ).bind λds=>.ok (d::ds)
noncomputable def evI(w:W):It->Env->R (List D)
 | .seq e,τ=>(evE w e τ).bind λx=>match seq? x with|some xs=>.ok xs|none=>.no
 | .rng a,τ=>(evE w a τ).bind λx=>match x with | .int j=>if qZ j then .ok (zZ 0 j.toNat)else .no|_=>.no
 | .rng2 a b,τ=>(evE w a τ).bind λx=>(evE w b τ).bind λy=>match x,y with | .int i,.int j=>if qZ i&&qZ j then .ok (zZ i (j-i).toNat)else .no|_,_=>.no
 | .enum e,τ=>(evE w e τ).bind λx=>match x with | .lst xs=>.ok (dt 0 xs)|_=>.no
 | .zip a b,_=>.no
 | .rng3 a b k,_=>.no
 | .rrev a,_=>.no
noncomputable def evT(w:W):T->Env->R Bool
 | .yes,_=>.ok true
 | .val e,τ=>(evE w e τ).bind λx=>truth x
 | .cmp c a b,τ=>(evE w a τ).bind λx=>(evE w b τ).bind λy=>qk c x y
 | .cmp2 c c' a b d,τ=>(evE w a τ).bind λx=>(evE w b τ).bind λy=>(qk c x y).bind λr=>if r then (evE w d τ).bind λz=>qk c' y z else .ok false
 | .and a b,τ=>(evT w a τ).bind λr=>if r then evT w b τ else .ok false
 | .or a b,τ=>(evT w a τ).bind λr=>if r then .ok true else evT w b τ
 | .not a,τ=>(evT w a τ).bind λr=>.ok (!r)
end
theorem qU:∀{w i τ},@Eq (R D) (evE w (.var i) τ) (bO τ i):=rfl
theorem qW:∀{w i τ},@Eq (R D) (evE w (.own i) τ) (bO τ i):=rfl
theorem qY:∀{w d τ},@Eq (R D) (evE w (.con d) τ) (.ok d):=rfl
theorem zc:∀{w x τ},@Eq (R D) (evE w (.glb x) τ) (match w.glb x with|some d=>.ok d|none=>.no):=rfl
theorem ze:∀{w x τ},@Eq (R D) (evE w (.fnv x) τ) (.no):=rfl
theorem qV:∀{w o a b τ},@Eq (R D) (evE w (.op o a b) τ) ((evE w a τ).bind λx=>(evE w b τ).bind λy=>op2 o x y):=rfl
theorem zd:∀{w a τ},@Eq (R D) (evE w (.neg a) τ) ((evE w a τ).bind λx=>match x with | .int i=>.ok (.int (-i))|_=>.no):=rfl
theorem zf:∀{w a τ},@Eq (R D) (evE w (.inv a) τ) (.no):=rfl
theorem za:∀{w a τ},@Eq (R D) (evE w (.not a) τ) ((evE w a τ).bind λx=>match x with | .bl b=>.ok (.bl (!b))|_=>.no):=rfl
theorem qm:∀{w a b τ},@Eq (R D) (evE w (.and a b) τ) ((evE w a τ).bind λx=>match x with | .bl true=>evE w b τ | .bl false=>.ok (.bl false)|_=>.no):=rfl
theorem qx:∀{w a b τ},@Eq (R D) (evE w (.or a b) τ) ((evE w a τ).bind λx=>match x with | .bl true=>.ok (.bl true) | .bl false=>evE w b τ|_=>.no):=rfl
theorem qB:∀{w c a b τ},@Eq (R D) (evE w (.cmp c a b) τ) ((evE w a τ).bind λx=>(evE w b τ).bind λy=>(qk c x y).bind λr=>.ok (.bl r)):=rfl
theorem qu:∀{w c c' a b d τ},@Eq (R D) (evE w (.cmp2 c c' a b d) τ) ((evE w a τ).bind λx=>(evE w b τ).bind λy=>(qk c x y).bind λr=>if r then (evE w d τ).bind λz=>(qk c' y z).bind λr'=>.ok (.bl r')else .ok (.bl false)):=rfl
theorem qt:∀{w c c' c'' a b d e τ},@Eq (R D) (evE w (.cmp3 c c' c'' a b d e) τ) ((evE w a τ).bind λx=>(evE w b τ).bind λy=>(qk c x y).bind λr=>if r then (evE w d τ).bind λz=>(qk c' y z).bind λr'=>if r' then (evE w e τ).bind λu=>(qk c'' z u).bind λr''=>.ok (.bl r'')else .ok (.bl false)else .ok (.bl false)):=rfl
theorem qK:∀{w t a b τ},@Eq (R D) (evE w (.ite t a b) τ) ((evT w t τ).bind λr=>if r then evE w a τ else evE w b τ):=rfl
theorem qA:∀{w es τ},@Eq (R D) (evE w (.tup es) τ) ((zi w es τ).bind λds=>.ok (.tup ds)):=rfl
theorem qr:∀{w es τ},@Eq (R D) (evE w (.lst es) τ) ((zi w es τ).bind λds=>.ok (.lst ds)):=rfl
theorem ql:∀{w a b τ},@Eq (R D) (evE w (.ix a b) τ) ((evE w a τ).bind λx=>(evE w b τ).bind λy=>ixD x y):=rfl
theorem qw:∀{w a lo hi τ},@Eq (R D) (evE w (.sl a lo hi) τ) ((evE w a τ).bind λx=>(evO w lo τ).bind λl=>(evO w hi τ).bind λh=>slD x l h):=rfl
theorem qy:∀{w f es τ},@Eq (R D) (evE w (.call f es) τ) ((zi w es τ).bind λds=>w.call f ds):=rfl
theorem qO:∀{w f es τ},@Eq (R D) (evE w (.callE f es) τ) (.no):=rfl
theorem qi:∀{w b es τ},@Eq (R D) (evE w (.bi b es) τ) ((zi w es τ).bind λds=>b1 b ds):=rfl
theorem qz:∀{w a τ},@Eq (R D) (evE w (.rtup a) τ) (.no):=rfl
theorem qP:∀{w a τ},@Eq (R D) (evE w (.rlst a) τ) (.no):=rfl
theorem qq:∀{w a c τ},@Eq (R D) (evE w (.isi a c) τ) ((evE w a τ).bind λx=>b9 w x c):=rfl
theorem qo:∀{w it cap tg t elt τ},@Eq (R D) (evE w (.comp it cap tg t elt) τ) ((evI w it τ).bind λds=>if SZ<ds.length then .no else (cf (λx σ=>noEx ((store tg x σ).bind λσ'=>(evT w t σ').bind λr=>if r then (evE w elt σ').bind λd=>.ok (σ',[d])else .ok (σ',[]))) ds (dw cap τ) []).bind λout=>.ok (.lst out)):=rfl
theorem qJ:∀{w ix a τ},@Eq (R D) (evE w (.mth ix a) τ) (.no):=rfl
theorem qL:∀{w a b τ},@Eq (R D) (evE w (.cnt a b) τ) (.no):=rfl
theorem qD:∀{w mx a τ},@Eq (R D) (evE w (.mxk mx a) τ) (.no):=rfl
theorem qN:∀{w τ},@Eq (R D) (evE w (.dic) τ) (.ok (.dic [])):=rfl
theorem qE:∀{w f es τ},@Eq (R D) (evE w (.callo f es) τ) (.no):=rfl
theorem qM:∀{w it cap tg it2 tg2 t elt τ},@Eq (R D) (evE w (.comp2 it cap tg it2 tg2 t elt) τ) (.no):=rfl
theorem qQ:∀{w t0 a t1 b t2 τ},@Eq (R D) (evE w (.fst2 t0 a t1 b t2) τ) (.no):=rfl
theorem qC:∀{w ln a τ},@Eq (R D) (evE w (.sset ln a) τ) ((evE w a τ).bind (nc ln)):=rfl
theorem qI:∀{w a τ},@Eq (R D) (evE w (.rev a) τ) (.no):=rfl
theorem qT:∀{w a b τ},@Eq (R D) (evE w (.dic1 a b) τ) (.no):=rfl
theorem qH:∀{w a b τ},@Eq (R D) (evE w (.dget a b) τ) (.no):=rfl
theorem qF:∀{w a b d τ},@Eq (R D) (evE w (.dget2 a b d) τ) (.no):=rfl
theorem qR:∀{w a τ},@Eq (R D) (evE w (.lsd a) τ) (.no):=rfl
theorem qS:∀{w f es τ},@Eq (R D) (evE w (.lstc f es) τ) ((zi w es τ).bind λds=>(w.call f ds).bind λd=>if zr d then .ok d else .no):=rfl
theorem ez:∀{w τ},@Eq (R Bool) (evT w (.yes) τ) (.ok true):=rfl
theorem eA:∀{w e τ},@Eq (R Bool) (evT w (.val e) τ) ((evE w e τ).bind λx=>truth x):=rfl
theorem eG:∀{w c a b τ},@Eq (R Bool) (evT w (.cmp c a b) τ) ((evE w a τ).bind λx=>(evE w b τ).bind λy=>qk c x y):=rfl
theorem eE:∀{w c c' a b d τ},@Eq (R Bool) (evT w (.cmp2 c c' a b d) τ) ((evE w a τ).bind λx=>(evE w b τ).bind λy=>(qk c x y).bind λr=>if r then (evE w d τ).bind λz=>qk c' y z else .ok false):=rfl
theorem eF:∀{w a b τ},@Eq (R Bool) (evT w (.and a b) τ) ((evT w a τ).bind λr=>if r then evT w b τ else .ok false):=rfl
theorem eD:∀{w a b τ},@Eq (R Bool) (evT w (.or a b) τ) ((evT w a τ).bind λr=>if r then .ok true else evT w b τ):=rfl
theorem eK:∀{w a τ},@Eq (R Bool) (evT w (.not a) τ) ((evT w a τ).bind λr=>.ok (!r)):=rfl
mutual
inductive S where
 |set (tg:Tg) (e:E)
 |app (i:Nat) (e:E)
 |seti (i:Nat) (k e:E)
 |exp (e:E)
 |ret (e:E)|retN
 |ite (t:T) (a b:Ss)
 |for (tg:Tg) (it:It) (b:Ss)
 |while (t:T) (b:Ss)
 |raise (c:Str) (es:Es)
 |try (b:Ss) (c:Str) (i:Option Nat) (h:Ss)
 |ins (i:Nat) (k e:E)
 |pass|brk|cnt|unk
 |par (i j:Nat) (a b:E)
 |par3 (i j k:Nat) (a b c:E)
 |dupd (i:Nat) (e:E)
 |pop0 (j i:Nat)
 |ext (i:Nat) (e:E)
 |retn (e:E)
 |try2 (b:Ss) (c:Str) (i:Nat) (h:Ss) (c2:Str) (h2:Ss)
inductive Ss where
 |nil|cons (s:S) (r:Ss)
end
inductive O where
 |nx (τ:Env)|rt (d:D)|bk (τ:Env)|ct (τ:Env)|ex (c:Str)|no
noncomputable def R.out{α:Type}:R α->(α->O)->O
 | .ok a,f=>f a
 | .ex c,_=>.ex c
 | .no,_=>.no
@[simp] theorem R.out_ok{α:Type}(a:α)(f:α->O):(R.ok a).out f=f a:=rfl
@[simp] theorem R.out_ex{α:Type}(c:Str)(f:α->O):(R.ex c:R α).out f=.ex c:=rfl
@[simp] theorem R.out_no{α:Type}(f:α->O):(R.no:R α).out f=.no:=rfl
noncomputable def de(tg:Tg)(body:Env->O):List D->Env->O
 | [],τ=>.nx τ
 |x::r,τ=>(store tg x τ).out λτ'=>match body τ' with
  | .nx σ=>de tg body r σ
  | .ct σ=>de tg body r σ
  | .bk σ=>.nx σ
  |o=>o
noncomputable def O.noEx:O->O
 | .ex _=>.no
 |o=>o
noncomputable def O.rtOnly:O->O
 | .rt d=>.rt d
 |_=>.no
noncomputable def cc(τ:Env)(i:Option Nat)(k:Str):Env:=match i with
 |none=>τ.map λ_=>none
 |some i=>(τ.map λ_=>none).set i (some (.exn k))
mutual
noncomputable def evS(w:W):S->Env->O
 | .set tg e,τ=>(evE w e τ).out λd=>(store tg d τ).out .nx
 | .app i e,τ=>(bO τ i).out λx=>match x with
  | .lst xs=>(evE w e τ).out λd=>if xs.length<SZ then .nx (τ.set i (some (.lst (xs++[d]))))else .no
  |_=>.no
 | .seti i k e,τ=>(evE w e τ).out λd=>(bO τ i).out λx=>(evE w k τ).out λn=>match x,n with
  | .lst xs,.int j=>match ixN xs.length j with
   |some m=>.nx (τ.set i (some (.lst (xs.set m d))))
   |none=>.no
  | .dic kvs,.int j=>(match d with
   | .int v=>if kvs.length<SZ then .nx (τ.set i (some (.dic (ft kvs j v))))else .no
   |_=>.no)
  |_,_=>.no
 | .exp e,τ=>(evE w e τ).out λ_=>.nx τ
 | .ret e,τ=>(evE w e τ).out .rt
 | .retN,_=>.rt .non
 | .ite t a b,τ=>(evT w t τ).out λr=>if r then qf w a τ else qf w b τ
 | .for tg it b,τ=>((evI w it τ).out λds=>de tg (λσ=>qf w b σ) ds τ).noEx
 | .while t b,_=>.no
 | .raise c es,τ=>(zi w es τ).out λ_=>.ex c
 | .try b c i h,_=>.no
 | .ins i k e,_=>.no
 | .unk,_=>.no
 | .pass,τ=>.nx τ
 | .brk,τ=>.bk τ
 | .cnt,τ=>.ct τ
 | .par i j a b,τ=>(evE w a τ).out λx=>(evE w b τ).out λy=>.nx ((τ.set i (some x)).set j (some y))
 | .par3 i j k a b c,_=>.no
 | .dupd i e,_=>.no
 | .pop0 j i,_=>.no
 | .ext i e,_=>.no
 | .retn e,τ=>(evE w e τ).out λd=>if zr d then .no else .rt d
 | .try2 b c i h c2 h2,τ=>match qf w b τ with
  | .ex k=>if w.cat k c=true then (qf w h (cc τ (some i) k)).rtOnly else if w.cat c c=true/\w.sub k (.ex c)=some false/\w.cat k c2=true then (qf w h2 (cc τ none k)).rtOnly else .no
  |o=>o
noncomputable def qf(w:W):Ss->Env->O
 | .nil,τ=>.nx τ
 | .cons s r,τ=>match evS w s τ with
  | .nx σ=>qf w r σ
  |o=>o
end
theorem zO:∀{w tg e τ},@Eq (O) (evS w (.set tg e) τ) ((evE w e τ).out λd=>(store tg d τ).out .nx):=rfl
theorem zS:∀{w i e τ},@Eq (O) (evS w (.app i e) τ) ((bO τ i).out λx=>match x with
  | .lst xs=>(evE w e τ).out λd=>if xs.length<SZ then .nx (τ.set i (some (.lst (xs++[d]))))else .no
  |_=>.no):=rfl
theorem zR:∀{w i k e τ},@Eq (O) (evS w (.seti i k e) τ) ((evE w e τ).out λd=>(bO τ i).out λx=>(evE w k τ).out λn=>match x,n with
  | .lst xs,.int j=>match ixN xs.length j with
   |some m=>.nx (τ.set i (some (.lst (xs.set m d))))
   |none=>.no
  | .dic kvs,.int j=>(match d with
   | .int v=>if kvs.length<SZ then .nx (τ.set i (some (.dic (ft kvs j v))))else .no
   |_=>.no)
  |_,_=>.no):=rfl
theorem zV:∀{w e τ},@Eq (O) (evS w (.exp e) τ) ((evE w e τ).out λ_=>.nx τ):=rfl
theorem zt:∀{w e τ},@Eq (O) (evS w (.ret e) τ) ((evE w e τ).out .rt):=rfl
theorem zW:∀{w τ},@Eq (O) (evS w (.retN) τ) (.rt .non):=rfl
theorem zM:∀{w t a b τ},@Eq (O) (evS w (.ite t a b) τ) ((evT w t τ).out λr=>if r then qf w a τ else qf w b τ):=rfl
theorem zX:∀{w tg it b τ},@Eq (O) (evS w (.for tg it b) τ) (((evI w it τ).out λds=>de tg (λσ=>qf w b σ) ds τ).noEx):=rfl
theorem bP:∀{w t b τ},@Eq (O) (evS w (.while t b) τ) (.no):=rfl
theorem zy:∀{w c es τ},@Eq (O) (evS w (.raise c es) τ) ((zi w es τ).out λ_=>.ex c):=rfl
theorem zB:∀{w b c i h τ},@Eq (O) (evS w (.try b c i h) τ) (.no):=rfl
theorem zG:∀{w i k e τ},@Eq (O) (evS w (.ins i k e) τ) (.no):=rfl
theorem zD:∀{w τ},@Eq (O) (evS w (.unk) τ) (.no):=rfl
theorem zL:∀{w τ},@Eq (O) (evS w (.pass) τ) (.nx τ):=rfl
theorem zA:∀{w τ},@Eq (O) (evS w (.brk) τ) (.bk τ):=rfl
theorem zK:∀{w τ},@Eq (O) (evS w (.cnt) τ) (.ct τ):=rfl
theorem zw:∀{w i j a b τ},@Eq (O) (evS w (.par i j a b) τ) ((evE w a τ).out λx=>(evE w b τ).out λy=>.nx ((τ.set i (some x)).set j (some y))):=rfl
theorem zI:∀{w i j k a b c τ},@Eq (O) (evS w (.par3 i j k a b c) τ) (.no):=rfl
theorem zF:∀{w i e τ},@Eq (O) (evS w (.dupd i e) τ) (.no):=rfl
theorem zE:∀{w j i τ},@Eq (O) (evS w (.pop0 j i) τ) (.no):=rfl
theorem zH:∀{w i e τ},@Eq (O) (evS w (.ext i e) τ) (.no):=rfl
theorem zu:∀{w e τ},@Eq (O) (evS w (.retn e) τ) ((evE w e τ).out λd=>if zr d then .no else .rt d):=rfl
theorem zp:∀{w b c i h c2 h2 τ},@Eq (O) (evS w (.try2 b c i h c2 h2) τ) (match qf w b τ with
  | .ex k=>if w.cat k c=true then (qf w h (cc τ (some i) k)).rtOnly else if w.cat c c=true/\w.sub k (.ex c)=some false/\w.cat k c2=true then (qf w h2 (cc τ none k)).rtOnly else .no
  |o=>o):=rfl
structure Fn where
 ps:Nat
 N:Nat
 fr:Bool
 body:Ss
noncomputable def cC(w:W)(f:Fn)(ds:List D):R D:=if ds.length=f.ps then (match qf w f.body (ds.map some++bK (f.N-f.ps) none)with
  | .nx _=>if f.fr then .no else .ok .non
  | .rt d=>.ok d
  | .ex c=>.ex c
  |_=>.no)else .no
structure Pr where
 fns:Str->Option Fn
 glb:Str->Option D
 sub:Str->Cl->Option Bool
 cat:Str->Str->Bool
noncomputable def qc(p:Pr):Nat->Str->List D->R D
 | 0,_,_=>.no
 |k+1,x,ds=>match p.fns x with
  |some f=>cC ⟨qc p k,p.glb,p.sub,p.cat⟩ f ds
  |none=>.no
inductive GK where
  |fn (fresh:Bool)|val|bi (b:B1)|rng|enum|zip|isi|ty (n:String) (b:Option B1)|exc|exk|set|rvd
  deriving DecidableEq
structure Cc where
  nm:List (Str×aM)
  N:List Str
  own:List Str
  G:List (Str×GK)
  calm:Bool
  fnc:Bool
  thr:Bool
  GH:List (Str×GK)
  oc:List Str
  frz:Bool
noncomputable def loc(c:Cc)(x:Str):Option Nat:=
  if x == "__debug__" ||x == "__classdict__" then none else
  match c.nm.lookup x with
  |some .local|some .cell|some .free=>let i:=c.N.findIdx (· == x);if c.N[i]? = some x then some i else none
  |_=>none
noncomputable def bG(c:Cc)(x:Str):Option Nat:=
  match c.nm.lookup x with
  |some .local=>loc c x
  |some .cell=>if c.fnc||c.oc.contains x then loc c x else none
  |_=>none
noncomputable def glob(c:Cc)(x:Str):Option GK:=
  if x == "__debug__" ||x == "__name__" then none else
  match c.nm.lookup x with
  |some .globalImplicit=>c.G.lookup x
  |_=>none
noncomputable def esc:E->Bool
  | .own _=>false
  |_=>true
noncomputable def dA:Es->Bool
  | .nil=>true
  | .cons e es=>esc e&&dA es
noncomputable def isL:E->Bool
  | .lst _=>true
  | .rlst _=>true
  | .comp .. => true
  |_=>false
noncomputable def um:O2->Bool
  | .add=>true
  | .mul=>true
  |_=>false
noncomputable def fresh(c:Cc):E->Bool
  | .op o a b=>um o&&isL a||o==.add&&isL b
  | .lst _=>true
  | .rlst _=>true
  | .comp .. => true
  | .comp2 .. => true
  | .dic=>true
  | .dic1 .. => true
  | .lsd _=>true
  | .bi .list _=>true
  | .bi .sorted _=>true
  | .lstc f _=>c.G.lookup f==some (.fn true)
  |_=>false
noncomputable def cF(c:Cc):E->Bool
  | .call f _=>c.G.lookup f==some (.fn true)
  | .ite _ a b=>cF c a&&cF c b
  |e=>fresh c e
noncomputable def iB(c:Cc):E->E
  | .call f es=>if c.G.lookup f==some (.fn true)then .lstc f es else .call f es
  |e=>e
noncomputable def o2:Operator->Option O2
  | .Add=>some .add
  | .Sub=>some .sub
  | .Mult=>some .mul
  | .FloorDiv=>some .fdiv
  | .Mod=>some .mod
  | .Pow=>some .pow
  | .LShift=>some .shl
  | .RShift=>some .shr
  | .BitAnd=>some .band
  | .BitOr=>some .bor
  | .BitXor=>some .bxor
  |_=>none
noncomputable def c2:CmpOp->C2
  | .Eq=>.eq
  | .NotEq=>.ne
  | .Lt=>.lt
  | .LtE=>.le
  | .Gt=>.gt
  | .GtE=>.ge
  | .Is=>.is
  | .IsNot=>.isnot
  | .In=>.isin
  | .NotIn=>.notin
noncomputable def dZ:Expr->Bool
  | .ListComp .. => true
  | .SetComp .. => true
  | .DictComp .. => true
  |_=>false
noncomputable def zv:Expr->Bool
  | .Set .. => false
  |_=>true
noncomputable def iI(names nm:List (Str×aM)):List (Str×aM):=names.map λ(n,k)=>if k==bR&&(nm.lookup n==some .cell)then (n,aM.cell)else (n,k)
noncomputable def bT(names:List (Str×aM)):List Str:=(names.filter λp=>p.2==.local||p.2==.free||p.2==.cell).map (·.1)
noncomputable def fI(c:Cc)(names:List (Str×aM)):List (Option Nat):=(bT names).map λx=>if names.lookup x==some .free then loc c x else none
noncomputable def fM:List Expr->Option (List Str)
  | []=>some []
  | .Name x _::r=>(fM r).map (x :: ·)
  |_=>none
noncomputable def cTg(c:Cc):Expr->Option Tg
  | .Name x _=>if c.own.contains x then none else (bG c x).map .nm
  | .Tuple es _ _=>if c.calm then do
      let xs <-fM es
      if xs.any c.own.contains then none else
      let is <-xs.mapM (bG c)
      if is.Nodup then some (.tp is)else none
    else none
  |_=>none
noncomputable def isStar:Expr->Bool
  | .Starred .. => true
  |_=>false
noncomputable def isSlice:Expr->Bool
  | .Slice .. => true
  |_=>false
noncomputable def isTup:Expr->Bool
  | .Tuple .. => true
  |_=>false
noncomputable def fP(it:It)(tg:Expr):Bool:=match it with
  | .enum _=>isTup tg
  | .zip .. => isTup tg
  |_=>true
noncomputable def iW(c:Cc):Expr->Option Cl
  | .Name x _=>match glob c x with
    |some (.ty n _)=>some (.ty n)
    |some .exc=>some (.ex x)
    |some .exk=>some (.ex x)
    |_=>none
  |_=>none
noncomputable def vr(c:Cc)(x:Str)(i:Nat):E:=if c.own.contains x then .own i else .var i
noncomputable def cMt(c:Cc)(o:Expr)(m:Str)(ap:Pos)(as:List Expr)(cp:Pos):Option E:=none
noncomputable def baseOk:Expr->Bool
  | .Call (.Name _ _) (_::_) _ _=>true
  | .Name .. => true
  |_=>false
noncomputable def owned:It->Bool
  | .seq (.own _)=>true
  | .enum (.own _)=>true
  | .zip (.own _) _=>true
  | .zip _ (.own _)=>true
  |_=>false
noncomputable def jF:Expr->Option Str
  | .Constant k _ _=>match k with
    | .str t=>some t
    |_=>none
  |_=>none
noncomputable def nT:Expr->Option Expr
  | .FormattedValue a k f _=>match f with
    |none=>if k = -1 then some a else none
    |_=>none
  |_=>none
noncomputable def Cs:List Expr->Option (Str×Expr×Str×Expr×Str)
  | [x0,x1,x2,x3,x4]=>do
    let t0 <-jF x0
    let a <-nT x1
    let t1 <-jF x2
    let b <-nT x3
    let t2 <-jF x4
    if (Str.empty++t0).length<=1000 then some (t0,a,t1,b,t2)else none
  |_=>none
noncomputable def Ct:Expr->Bool
  | .UnaryOp .USub (.Constant (.int i) _ _) _=>decide (i=1)
  |_=>false
noncomputable def s_(c:Cc)(b:B1)(_:List Expr):Option Expr:=none
noncomputable def jO(c:Cc)(t:String):List Expr->Option Expr
  | [a]=>match a with
    | .Name x _=>if t == "list" && c.calm&&c.own.contains x then some a else none
    |_=>none
  |_=>none
noncomputable def iN:Expr->Bool
  | .ListComp _ gs _ _=>gs.length==2
  |_=>false
mutual
noncomputable def cE:Nat->Cc->Expr->Option E
  | 0,_,_=>none
  |n+1,c,e=>match e with
    | .Name x _=>match loc c x with
      |some i=>if c.own.contains x then some (.own i)else some (.var i)
      |none=>match glob c x with
        |some .val=>some (.glb x)
        |some (.fn _)=>some (.fnv x)
        |_=>none
    | .Constant k _ _=>match k with
      | .int i=>some (.con (.int i))
      | .bool i=>some (.con (.bl i))
      | .none=>some (.con .non)
      | .str x=>some (.con (.str x))
      |_=>none
    | .BinOp a op b _=>do
      let o <-o2 op
      let a <-cE n c a
      let b <-cE n c b
      some (.op o a b)
    | .UnaryOp op a _=>do
      let a <-cE n c a
      match op with
      | .USub=>some (.neg a)
      | .Invert=>some (.inv a)
      | .Not=>some (.not a)
      |_=>none
    | .BoolOp op vs _=>cBo n c op vs
    | .Compare a ops bs _=>match ops,bs with
      | [o],[b]=>do
        let a <-cE n c a
        let b' <-cE n c b
        if zv b then some (.cmp (c2 o) a b')else none
      | [o,o'],[b,d]=>do
        let a <-cE n c a
        let b' <-cE n c b
        let d' <-cE n c d
        if zv b&&zv d then some (.cmp2 (c2 o) (c2 o') a b' d')else none
      | [o,o',o''],[b,d,f]=>do
        let a <-cE n c a
        let b' <-cE n c b
        let d' <-cE n c d
        let f' <-cE n c f
        if zv b&&zv d&&zv f then some (.cmp3 (c2 o) (c2 o') (c2 o'') a b' d' f')else none
      |_,_=>none
    | .Dict ks vs _=>match ks with
      | []=>if vs.isEmpty then some .dic else none
      |k::r=>match k with
        |some k=>match vs with
          |v::q=>if r.isEmpty&&q.isEmpty then (do
              let k <-cE n c k
              let v <-cE n c v
              some (.dic1 k v))else none
          | []=>none
        |none=>none
    | .IfExp t a b _=>do
      let t <-cT n c t
      let a <-cE n c a
      let b <-cE n c b
      if esc a&&esc b then some (.ite t a b)else none
    | .Tuple es _ _=>do
      let es <-cEs n c es
      if dA es then some (.tup es)else none
    | .List es _=>do
      let es <-cEs n c es
      if dA es then some (.lst es)else none
    | .Subscript a b _=>match b with
      | .Slice lo hi st _=>match st with
        |some _=>none
        |none=>do
          let a <-cE n c a
          let lo <-cO n c lo
          let hi <-cO n c hi
          some (.sl a lo hi)
      |b=>do
        if isSlice b then none else
        let a <-cE n c a
        let b <-cE n c b
        some (.ix a b)
    | .ListComp elt gs sc _=>match gs with
     | [⟨tgt,it,ifs,asy⟩]=>do
      if !(asy==0) || !c.calm || !zv it then none else
      let c':Cc:={c with nm:=iI sc.names c.nm,N:=bT sc.names,fnc:=false,oc:=gr sc.names}
      let cap:=fI c sc.names
      if !ip (λx=>c.nm.lookup x) c.N (bT sc.names) cap sc || !decide (bT sc.names).Nodup then none else
      let it <-cI n c it
      let tg <-cTg c' tgt
      let t <-eR n c' ifs
      let elt <-cE n c' elt
      if esc elt&&fP it tgt then some (.comp it cap tg t elt)else none
     |_=>none
    | .Call fe as ks cp=>match ks with
     | []=>match fe with
      | .Name f _=>match loc c f with
        |some _=>none
        |none=>match glob c f with
          |some (.fn _)=>do
            let es <-cEs n c as
            if dA es && !as.isEmpty then some (.call f es)else if !as.isEmpty then some (.callo f es)else none
          |some (.bi b)=>match s_ c b as with
            |some a=>(cE n c a).map (.sset (b==.len))
            |none=>do
              let es <-cEs n c as
              if !as.isEmpty&&(c.calm||b==.len||b==.abs)then some (.bi b es)else none
          |some (.ty t (some b))=>match as with
            | [.Call (.Name g p) as' [] q]=>if loc c g==none&&glob c g==some .rng then (if c.calm&&(t == "tuple" ||t == "list")then (match as' with
                | [a]=>if isStar a then none else do
                  let a <-cE n c a
                  some (if t = "tuple" then .rtup (.rng a)else .rlst (.rng a))
                | [a,d]=>if isStar a||isStar d then none else do
                  let a <-cE n c a
                  let d <-cE n c d
                  some (if t = "tuple" then .rtup (.rng2 a d)else .rlst (.rng2 a d))
                | [a,d,k]=>if isStar a||isStar d||isStar k then none else do
                  let a <-cE n c a
                  let d <-cE n c d
                  let k <-cE n c k
                  if t == "tuple" then some (.rtup (.rng3 a d k))else none
                |_=>none)
                else none)
              else do
                let es <-cEs n c as
                some (.bi b es)
            |_=>match jO c t as with
             |some a=>(cE n c a).map .lsd
             |none=>do
              let es <-cEs n c as
              if !as.isEmpty then some (.bi b es)else none
          |some .isi=>match as with
            | [a,k]=>do
              if isStar a then none else
              let a <-cE n c a
              let k <-iW c k
              some (.isi a k)
            |_=>none
          |_=>none
      | .Attribute o m ap=>match cMt c o m ap as cp with
        |some e=>some e
        |none=>match as with
          | [a]=>do
            if !baseOk o||isStar a || !(m == "count" ||m == "get") || !(ap.endLine==cp.line)then none else
            let o' <-cE n c o
            let a' <-cE n c a
            if m == "get" then some (.dget o' a')else if esc a' then some (.cnt o' a')else none
          | [a,d]=>do
            if !baseOk o||isStar a||isStar d || !(m == "get") || !(ap.endLine==cp.line)then none else
            let o' <-cE n c o
            let a' <-cE n c a
            let d' <-cE n c d
            if esc d' then some (.dget2 o' a' d')else none
          |_=>none
      |_=>none
     |_=>none
    |_=>none
noncomputable def eR:Nat->Cc->List Expr->Option T
  | 0,_,_=>none
  |n+1,c,ifs=>match ifs with
    | []=>some .yes
    | [t]=>cT n c t
    |_=>none
noncomputable def cBo:Nat->Cc->BoolOp->List Expr->Option E
  | 0,_,_,_=>none
  |n+1,c,op,vs=>match vs with
    | []=>none
    | [a]=>do
      let a <-cE n c a
      if esc a then some a else none
    |a::b::r=>do
      let a <-cE n c a
      let r <-cBo n c op (b::r)
      match op with
      | .And=>some (.and a r)
      | .Or=>some (.or a r)
noncomputable def cO:Nat->Cc->Option Expr->Option OE
  | 0,_,_=>none
  |n+1,c,o=>match o with
    |none=>some .none
    |some e=>(cE n c e).map .some
noncomputable def cEs:Nat->Cc->List Expr->Option Es
  | 0,_,_=>none
  |n+1,c,es=>match es with
    | []=>some .nil
    |e::r=>do
      if isStar e then none else
      let e <-cE n c e
      let r <-cEs n c r
      some (.cons e r)
noncomputable def cI:Nat->Cc->Expr->Option It
  | 0,_,_=>none
  |n+1,c,e=>match e with
    | .Call (.Name f p) as [] q=>match loc c f with
      |some _=>(cE n c (.Call (.Name f p) as [] q)).map .seq
      |none=>match glob c f with
        |some .rng=>(match as with
          | [a]=>if isStar a then none else (cE n c a).map .rng
          | [a,b]=>if isStar a||isStar b then none else do
            let a <-cE n c a
            let b <-cE n c b
            some (.rng2 a b)
          |_=>none)
        |some .enum=>(match as with
          | [a]=>if isStar a then none else (cE n c a).map .enum
          |_=>none)
        |some .zip=>(match as with
          | [a,b]=>if isStar a||isStar b then none else do
            let a <-cE n c a
            let b <-cE n c b
            some (.zip a b)
          |_=>none)
        |some .rvd=>(match as with
          | [.Call (.Name g _) [a] [] _]=>if loc c g==none&&glob c g==some .rng && !isStar a then (cE n c a).map .rrev else none
          |_=>none)
        |_=>(cE n c (.Call (.Name f p) as [] q)).map .seq
    |e=>(cE n c e).map .seq
noncomputable def cT:Nat->Cc->Expr->Option T
  | 0,_,_=>none
  |n+1,c,e=>match e with
    | .UnaryOp .Not a _=>(cT n c a).map .not
    | .BoolOp op vs _=>cTs n c op vs
    | .IfExp .. => none
    | .Compare a ops bs _=>match ops,bs with
      | [o],[b]=>do
        let a <-cE n c a
        let b' <-cE n c b
        if zv b then some (.cmp (c2 o) a b')else none
      | [o,o'],[b,d]=>do
        let a <-cE n c a
        let b' <-cE n c b
        let d' <-cE n c d
        if zv b&&zv d then some (.cmp2 (c2 o) (c2 o') a b' d')else none
      | [o,o',o''],[b,d,f]=>do
        let a <-cE n c a
        let b' <-cE n c b
        let d' <-cE n c d
        let f' <-cE n c f
        if zv b&&zv d&&zv f then some (.val (.cmp3 (c2 o) (c2 o') (c2 o'') a b' d' f'))else none
      |_,_=>none
    |e=>(cE n c e).map .val
noncomputable def cTs:Nat->Cc->BoolOp->List Expr->Option T
  | 0,_,_,_=>none
  |n+1,c,op,vs=>match vs with
    | []=>none
    | [a]=>cT n c a
    |a::b::r=>do
      let a <-cT n c a
      let r <-cTs n c op (b::r)
      match op with
      | .And=>some (.and a r)
      | .Or=>some (.or a r)
end
noncomputable def dF(c:Cc):Cc:={c with calm:=false,thr:=false,G:=c.GH,GH:=[]}

noncomputable def jM:Expr->Option (Str×Str×Pos×Expr×Pos)
  | .Call f as ks cp=>match f with
    | .Attribute o m ap=>match o with
      | .Name x _=>match as with
        | [a]=>if ks.isEmpty then some (x,m,ap,a,cp)else none
        |_=>none
      |_=>none
    |_=>none
  |_=>none
noncomputable def lG(_:Expr):Option (Str×Pos×Expr×Expr×Pos):=none
noncomputable def jh:Expr->Option (Str×Pos×Pos)
  | .Call f as ks cp=>match f with
    | .Attribute o m ap=>match o with
      | .Name x _=>match as with
        | [a]=>match a with
          | .Constant k _ _=>match k with
            | .int i=>if ks.isEmpty&&m == "pop" && decide (i=0)then some (x,ap,cp)else none
            |_=>none
          |_=>none
        |_=>none
      |_=>none
    |_=>none
  |_=>none
noncomputable def raiseOf:Expr->Option (Str×Expr×List Expr)
  | .Call f as ks _=>match f with
    | .Name x _=>match as with
      |a::as=>if ks.isEmpty then some (x,a,as)else none
      |_=>none
    |_=>none
  |_=>none
noncomputable def jU:Expr->Bool
  | .Tuple es _ _=>es.all (cw 8)
  |_=>false
noncomputable def kh(ts:List Expr)(e:Expr):Option (Str×Str×Expr×Expr):=match ts with
  | [.Name x px,.Name y py]=>match e with
    | .Tuple [a,b] _ _=>if !isStar a && !isStar b && !([a,b].all (cw 8)) && !([a,b].all (constantsAlone 8))&&(px.line==py.line)then some (x,y,a,b)else none
    |_=>none
  |_=>none
noncomputable def jQ(ts:List Expr)(e:Expr):Option (Str×Str×Str×Expr×Expr×Expr):=match ts with
  | [.Name x px,.Name y py,.Name z pz]=>match e with
    | .Tuple [a,b,d] _ _=>if !isStar a && !isStar b && !isStar d && !([a,b,d].all (cw 8)) && !([a,b,d].all (constantsAlone 8))&&(px.line==py.line)&&(px.line==pz.line)then some (x,y,z,a,b,d)else none
    |_=>none
  |_=>none
noncomputable def j9:List ExceptHandler->Option (Str×Str×List Stmt×Str×List Stmt)
  | [.ExceptHandler (some (.Name x _)) (some y) h _,.ExceptHandler (some (.Name x2 _)) none h2 _]=>some (x,y,h,x2,h2)
  |_=>none
mutual
noncomputable def cS:Nat->Cc->Bool->Stmt->Option S
  | 0,_,_,_=>none
  |n+1,c,fr,s=>match s with
    | .Assign ts e _=>match ts with
      | [t]=>match t with
        | .Name x _=>match jh e with
         |some (y,ap,cp)=>do
          let i <-bG c x
          let j <-loc c y
          if c.own.contains y && !c.own.contains x&&ap.endLine==cp.line && !c.frz then some (.pop0 i j)else none
         |none=>do
          if iN e then none else
          let i <-bG c x
          let e' <-cE n c e
          if c.own.contains x then (if cF c e' && !c.frz then some (.set (.nm i) e')else none)else if esc e' then some (.set (.nm i) e')else none
        | .Tuple ts k p=>match kh ts e with
          |some (x,y,a,b)=>if !(c.nm.lookup x==some .local)then (do
              let tg <-cTg c (.Tuple ts k p)
              let e' <-cE n c e
              if !esc e' then none else some (.set tg e'))else do
            let i <-bG c x
            let j <-bG c y
            let a' <-cE n c a
            let b' <-cE n c b
            if !c.calm || !(c.nm.lookup x==some .local) || !(c.nm.lookup y==some .local)||(i==j)||c.own.contains x || !esc a'||isStar a||isStar b then none else
            if c.own.contains y then (if fresh c b' && !c.frz then some (.par i j a' b')else none)else if esc b' then some (.par i j a' b')else none
          |none=>match jQ ts e with
            |some (x,y,z,a,b,d)=>do
              let i <-bG c x
              let j <-bG c y
              let l <-bG c z
              let a' <-cE n c a
              let b' <-cE n c b
              let d' <-cE n c d
              if !c.calm || !(c.nm.lookup x==some .local) || !(c.nm.lookup y==some .local) || !(c.nm.lookup z==some .local)||(i==j)||(i==l)||(j==l)||c.own.contains x||c.own.contains y||c.own.contains z || !esc a' || !esc b' || !esc d' then none else some (.par3 i j l a' b' d')
            |none=>do
              let tg <-cTg c (.Tuple ts k p)
              let e' <-cE n c e
              if (isTup e && !jU e)||dZ e || !esc e' then none else some (.set tg e')
        | .Subscript a k _=>match a with
          | .Name x _=>do
            let i <-bG c x
            let e' <-cE n c e
            let k' <-cE n c k
            if c.own.contains x&&esc e' && !isSlice k && !dZ e && !c.frz then some (.seti i k' e')else none
          |_=>none
        |_=>none
      |_=>none
    | .Expr e _=>match lG e with
      |some (x,ap,k,a,cp)=>do
        let i <-bG c x
        let k' <-cE n c k
        let a' <-cE n c a
        if c.own.contains x&&esc a' && !isStar k && !isStar a&&ap.endLine==cp.line && !c.frz then some (.ins i k' a')else none
      |none=>match jM e with
      |some (x,m,ap,a,cp)=>do
        let i <-bG c x
        let a' <-cE n c a
        if m == "update" then (if c.own.contains x&&esc a' && !isStar a&&ap.endLine==cp.line && !c.frz then some (.dupd i a')else none)else
        if m == "extend" then (if c.own.contains x&&esc a' && !isStar a&&ap.endLine==cp.line && !c.frz then some (.ext i a')else none)else
        if m == "append" && c.own.contains x&&esc a' && !isStar a&&ap.endLine==cp.line && !c.frz then some (.app i a')else none
      |none=>do
        if dZ e then none else
        let e' <-cE n c e
        some (.exp e')
    | .Return o _=>match o with
      |some e=>do
        let e' <-cE n c e
        if fr then (match e with
          | .Name y _=>if c.own.contains y then (loc c y).map (λi=>.ret (.own i))else none
          |_=>if cF c e' then some (.ret e')else some (.retn e'))
        else some (.ret e')
      |none=>if fr then none else some .retN
    | .If t a b _=>do
      let t <-cT n c t
      let a <-cSs n c fr a
      let b <-cSs n c fr b
      some (.ite t a b)
    | .For tg it b els _=>do
      if !els.isEmpty || !c.calm || !zv it then none else
      let tg' <-cTg c tg
      let it <-cI n c it
      if !fP it tg then none else
      let b <-cSs n {c with frz:=c.frz||owned it} fr b
      some (.for tg' it b)
    | .While t b els _=>do
      if !els.isEmpty || !c.calm then none else
      let t <-cT n c t
      let b <-cSs n c fr b
      some (.while t b)
    | .Raise o o' _=>match o with
      |some r=>match raiseOf r with
        |some (x,a,as)=>do
          if !o'.isNone || !c.calm || !c.thr then none else
          match glob c x with
          |some .exc=>do
            let es <-cEs n c (a::as)
            some (.raise x es)
          |_=>none
        |none=>none
      |none=>none
    | .Try b hs els fin _=>match hs with
      | [.ExceptHandler ty y h _]=>match ty with
        |some (.Name x _)=>do
          if !els.isEmpty || !fin.isEmpty || !c.calm || !c.fnc||h.isEmpty || !c.own.isEmpty||c.frz then none else
          let b <-cSs n {c with thr:=false} fr b
          let h <-cSs n (dF c) fr h
          if !(glob c x==some .exc||glob c x==some .exk)then none else
          match y with
          |none=>some (.try b x none h)
          |some y=>do
            let i <-bG c y
            if c.nm.lookup y==some .local then some (.try b x (some i) h)else none
        |_=>none
      |hs=>match j9 hs with
        |some (x,y,h,x2,h2)=>do
          if !els.isEmpty || !fin.isEmpty || !c.calm || !c.fnc||h.isEmpty||h2.isEmpty || !c.own.isEmpty||c.frz then none else
          let b <-cSs n {c with thr:=false} fr b
          let h <-cSs n (dF c) fr h
          let h2 <-cSs n (dF c) fr h2
          let i <-bG c y
          if !(glob c x==some .exc||glob c x==some .exk) || !(glob c x2==some .exc||glob c x2==some .exk) || !(c.nm.lookup y==some .local)then none else
          some (.try2 b x i h x2 h2)
        |none=>none
    | .Pass _=>some .pass
    | .Break _=>some .brk
    | .Continue _=>some .cnt
    |_=>none
noncomputable def cSs:Nat->Cc->Bool->List Stmt->Option Ss
  | 0,_,_,_=>none
  |n+1,c,fr,ss=>match ss with
    | []=>some .nil
    |s::r=>do
      let r <-cSs n c fr r
      some (.cons ((cS n c fr s).getD .unk) r)
end
noncomputable def noOwn(c:Cc):Cc:={c with own:=[],frz:=false}
noncomputable def i4(n:Nat)(c:Cc)(fr:Bool)(b:List Stmt):Option Ss:=cSs n c fr b
noncomputable def argNames(a:Arguments):List Str:=a.args.map (·.arg)
noncomputable def gM(a:Arguments)(sc:aS):List Str:=argNames a++((sc.names.filter λp=>p.2==.local||p.2==.cell).map (·.1)).filter λx=>!(argNames a).contains x
noncomputable def iE(N ps:List Str)(sc:aS):Bool:=
  sc.kind==.function && !sc.isCoroutine && !sc.isGenerator&&decide N.Nodup&&decide (N.take ps.length=ps)&&ps.all (λx=>sc.names.lookup x==some .local||sc.names.lookup x==some .cell)&&sc.names.all λy=>y.2 != .free
noncomputable def jJ:Nat:=60
noncomputable def cFn(G GH:List (Str×GK))(own:List Str)(fr:Bool)(st:Stmt):Option Fn:=do
  let a:=zm st
  let sc:=zj st
  let N:=gM a sc
  if !iE N (argNames a) sc||(argNames a).any own.contains then none else
  let b <-i4 jJ ⟨sc.names,N,own,G,true,true,true,GH,[],false⟩ fr (dn st)
  some ⟨(argNames a).length,N.length,fr,b⟩
noncomputable def mZ(GU:List (Str×GK))(own:List Str)(fr:Bool)(st:Stmt):Option Fn:=none
end EV

namespace EV
open PySem PySem.Spec PyProof.Rows L2
structure Gc where
 K:ar
 fnA:Str->Option Addr
 clA:Str->Option Addr
mutual
inductive Rep(g:Gc)(H:Hp):D->V->Prop
 |non:Rep g H .non .non
 |bl (b:Bool):Rep g H (.bl b) (.bl b)
 |int (i:Int):Rep g H (.int i) (.int i)
 |str (x:Str):Rep g H (.str x) (.str x)
 |tup {a:Addr}{xs:List V}{ds:List D}:SqT g.K H a xs->zb g H ds xs->Rep g H (.tup ds) (.ref a)
 |lst {a:Addr}{xs:List V}{ds:List D}:SqL g.K H a xs->zb g H ds xs->Rep g H (.lst ds) (.ref a)
 |fn {x:Str}{a:Addr}:g.fnA x=some a->Rep g H (.fn x) (.ref a)
 |exn {c:Str}{a C:Addr}:g.clA c=some C->H a=some (fG a (.ref C))->Rep g H (.exn c) (.ref a)
 |dic {a:Addr}{kvs:List (Int×Int)}:H a=some (.dK (bH kvs))->Rep g H (.dic kvs) (.ref a)
inductive zb(g:Gc)(H:Hp):List D->List V->Prop
 |nil:zb g H [] []
 |cons {d:D}{ds:List D}{x:V}{xs:List V}:Rep g H d x->zb g H ds xs->zb g H (d::ds) (x::xs)
end
theorem ee{K:ar}{H H':Hp}{a:Addr}{xs:List V}(e:qe H H')(h:SqT K H a xs):SqT K H' a xs:=by
 rcases h with (h|⟨o,h⟩)|h
 ·exact .inl (.inl (e _ _ h))
 ·exact .inl (.inr ⟨o,e _ _ h⟩)
 ·exact .inr h
section
variable{g:Gc}{H H':Hp}
theorem i9{a b:Bool}(h:(a&&b)=true):a=true/\b=true:=by rw[aF]at h;exact h
theorem Rep.mono(e:qe H H'){d:D}{v:V}(h:Rep g H d v):Rep g H' d v:=
 h.rec (motive_1:=λd v _=>Rep g H' d v) (motive_2:=λd v _=>zb g H' d v) .non .bl .int .str (λq _ r=>.tup (ee e q) r) (λq _ r=>.lst (e.seq q) r) .fn (λq r=>.exn q (e _ _ r)) (λq=>.dic (e _ _ q)) .nil (λ_ _ a b=>.cons a b)
theorem zb.mono(e:qe H H'){d:List D}{v:List V}(h:zb g H d v):zb g H' d v:=
 h.rec (motive_1:=λd v _=>Rep g H' d v) (motive_2:=λd v _=>zb g H' d v) .non .bl .int .str (λq _ r=>.tup (ee e q) r) (λq _ r=>.lst (e.seq q) r) .fn (λq r=>.exn q (e _ _ r)) (λq=>.dic (e _ _ q)) .nil (λ_ _ a b=>.cons a b)
theorem zb.length{ds:List D}:∀{vs:List V},zb g H ds vs->ds.length=vs.length:=by
 induction ds with
 |nil=>intro vs h;cases h;rfl
 |cons d ds ih=>intro vs h;cases h with|cons _ r=>exact congrArg (· + 1) (ih r)
theorem zb.get{ds:List D}:∀{vs:List V}{i:Nat}{d:D},zb g H ds vs->ds[i]? = some d->∃v,vs[i]? = some v/\Rep g H d v:=by
 induction ds with
 |nil=>intro vs i d h e;cases e
 |cons d ds ih=>
  intro vs i d' h e;cases h with
  |cons h t=>cases i with
   |zero=>cases e;exact⟨_,rfl,h⟩
   |succ i=>exact ih (i:=i) t e
theorem zb.append{ds:List D}:∀{es:List D}{vs us:List V},zb g H ds vs->zb g H es us->zb g H (ds++es) (vs++us):=by
 induction ds with
 |nil=>intro es vs us h s;cases h;exact s
 |cons d ds ih=>intro es vs us h s;cases h with|cons r t=>exact .cons r (ih t s)
theorem zb.take{ds:List D}:∀{vs:List V} (n:Nat),zb g H ds vs->zb g H (ds.take n) (vs.take n):=by
 induction ds with
 |nil=>intro vs n h;cases h;cases n<;>exact .nil
 |cons d ds ih=>intro vs n h;cases h with|cons r t=>cases n with
  |zero=>exact .nil
  |succ n=>exact .cons r (ih n t)
theorem zb.drop{ds:List D}:∀{vs:List V} (n:Nat),zb g H ds vs->zb g H (ds.drop n) (vs.drop n):=by
 induction ds with
 |nil=>intro vs n h;cases h;cases n<;>exact .nil
 |cons d ds ih=>intro vs n h;cases n with
  |zero=>exact h
  |succ n=>cases h with|cons r t=>exact ih n t
theorem zb.set{d:D}{v:V}(r:Rep g H d v){ds:List D}:∀{vs:List V} (i:Nat),zb g H ds vs->zb g H (ds.set i d) (vs.set i v):=by
 induction ds with
 |nil=>intro vs i h;cases h;exact .nil
 |cons d' ds ih=>intro vs i h;cases h with|cons q t=>cases i with
  |zero=>exact .cons r t
  |succ i=>exact .cons q (ih i t)
theorem zb.ints{ds:List D}:∀{vs:List V}{ns:List Int},zb g H ds vs->ints? ds=some ns->vs=ns.map V.int/\ds=ns.map D.int:=by
 induction ds with
 |nil=>intro vs ns h e;cases h;cases e;exact⟨rfl,rfl⟩
 |cons d ds ih=>
  intro vs ns h e;cases h with
  |cons h t=>cases d with
   |int i=>
    obtain⟨ms,e1,rfl⟩:=bu.mp (show (ints? ds).map (i :: ·)=some ns from e);obtain⟨h1,h2⟩:=ih t e1;cases h;exact⟨by rw[h1];rfl,by rw[h2];rfl⟩
   |_=>cases (show none=some ns from e)
theorem zb.bools{ds:List D}:∀{vs:List V}{ns:List Bool},zb g H ds vs->bools? ds=some ns->vs=ns.map V.bl:=by
 induction ds with
 |nil=>intro vs ns h e;cases h;cases e;rfl
 |cons d ds ih=>
  intro vs ns h e;cases h with
  |cons h t=>cases d with
   |bl i=>
    obtain⟨ms,e1,rfl⟩:=bu.mp (show (bools? ds).map (i :: ·)=some ns from e);have h1:=ih t e1;cases h;rw[h1];rfl
   |_=>cases (show none=some ns from e)
theorem zb.ofInts:∀(ns:List Int),zb g H (ns.map D.int) (ns.map V.int)
 | []=>.nil
 |i::r=>.cons (.int i) (zb.ofInts r)
end
structure Sh where
 o:Addr->Bool
 h:Addr->Bool
 z:L2.St
 y:Hp
noncomputable def hid(H:Hp)(S:Sh):Hp:=λb=>if S.h b=true then none else H b
noncomputable def cb(S:Sh)(a:Addr):Sh:=⟨S.o,λb=>S.h b||b==a,S.z,S.y⟩
theorem bS{H:Hp}{S:Sh}{b:Addr}{o:HO}:hid H S b=some o↔S.h b=false/\H b=some o:=by
 unfold hid;cases h:S.h b<;>simp
theorem cM{H:Hp}{S:Sh}:qe (hid H S) H:=λ_ _ h=>(bS.mp h).2
theorem qG{H H':Hp}{S:Sh}(e:qe H H'):qe (hid H S) (hid H' S):=λb o h=>bS.mpr ⟨(bS.mp h).1,e _ _ (bS.mp h).2⟩
noncomputable def Sub(S:Sh)(H:Hp):Prop:=∀a,(S.h a=true\/S.o a=true)->H a≠none
theorem Sub.same{S:Sh}{H H':Hp}(h:Sub S H)(e:qe H H'):Sub S H':=λa s n=>by
 cases q:H a with
 |none=>exact h a s q
 |some o=>rw[e _ _ q]at n;cases n
theorem Sub.free{S:Sh}{H:Hp}(h:Sub S H){p:Addr}(n:H p=none):S.h p=false:=by
 cases q:S.h p with
 |false=>rfl
 |true=>exact absurd n (h p (.inl q))
theorem Sub.freeO{S:Sh}{H:Hp}(h:Sub S H){p:Addr}(n:H p=none):S.o p=false:=by
 cases q:S.o p with
 |false=>rfl
 |true=>exact absurd n (h p (.inr q))
theorem zq{H:Hp}{p:Addr}{o:HO}(n:H p=none):qe H (upd H p o):=λb u h=>by
 rw[qg (λz=>by rw[z,n]at h;cases h)];exact h
theorem jK{H:Hp}{S:Sh}{p:Addr}{o:HO}(hs:Sub S H)(n:H p=none):hid (upd H p o) S p=some o:=bS.mpr ⟨hs.free n,zP⟩
theorem i7{H:Hp}{S:Sh}{p:Addr}{o:HO}(n:H p=none):qe (hid H S) (hid (upd H p o) (cb S p)):=λb u h=>by
 obtain⟨h1,h2⟩:=bS.mp h;have hb:b≠p:=λz=>by rw[z,n]at h2;cases h2
 refine bS.mpr ⟨?_,by rw[qg hb];exact h2⟩;show (S.h b||b==p)=false;rw[h1]
 simpa using hb
theorem ow{H:Hp}{S:Sh}{p:Addr}:qe (hid H (cb S p)) (hid H S):=λb u h=>by
 obtain⟨h1,h2⟩:=bS.mp h;refine bS.mpr ⟨?_,h2⟩;have h1:(S.h b||b==p)=false:=h1;simp at h1;exact h1.1
inductive cx(g:Gc)(H:Hp):D->HO->Prop
 |lst {ds:List D}{vs:List V}:zb g H ds vs->cx g H (.lst ds) (.lst vs)
 |dic (kvs:List (Int×Int)):cx g H (.dic kvs) (.dK (bH kvs))
theorem cx.mono{g:Gc}{H H':Hp}{d:D}{o:HO}(e:qe H H')(h:cx g H d o):cx g H' d o:=by
 cases h with
 |lst r=>exact .lst (r.mono e)
 |dic k=>exact .dic k
theorem cx.rep{g:Gc}{H H':Hp}{d:D}{o:HO}{a:Addr}(h:cx g H d o)(e:qe H H')(ha:H' a=some o):Rep g H' d (.ref a):=by
 cases h with
 |lst r=>exact .lst (SqL.of ha) (r.mono e)
 |dic k=>exact .dic ha
noncomputable def zQ(g:Gc)(H:Hp)(S:Sh)(d:D)(v:V):Prop:=
 Rep g (hid H S) d v\/∃a o,S.o a=true/\v=.ref a/\H a=some o/\cx g (hid H S) d o
noncomputable def Fr(g:Gc)(H0:Hp)(S:Sh)(H:Hp)(d:D)(v:V):Prop:=
 ∃a o,v=.ref a/\H0 a=none/\H a=some o/\cx g (hid H (cb S a)) d o
section
variable{g:Gc}{H H' H0:Hp}{S:Sh}{d:D}{v:V}
theorem zQ.mono(e:qe H H')(h:zQ g H S d v):zQ g H' S d v:=by
 rcases h with h|⟨a,o,h1,h2,h3,h4⟩
 ·exact .inl (h.mono (qG e))
 ·exact .inr ⟨a,o,h1,h2,e _ _ h3,h4.mono (qG e)⟩
theorem zQ.rep(h:zQ g H S d v):Rep g H d v:=by
 rcases h with h|⟨a,o,h1,rfl,h3,h4⟩
 ·exact h.mono cM
 ·exact h4.rep cM h3
theorem zQ.lst{ds:List D}(h:zQ g H S (.lst ds) v):∃a vs,v=.ref a/\SqL g.K H a vs/\zb g (hid H S) ds vs:=by
 rcases h with h|⟨a,o,h1,rfl,h3,h4⟩
 ·cases h with
  |lst h r=>exact⟨_,_,rfl,cM.seq h,r⟩
 ·cases h4 with
  |lst r=>exact⟨a,_,rfl,SqL.of h3,r⟩
theorem zQ.dic{kvs:List (Int×Int)}(h:zQ g H S (.dic kvs) v):∃a,v=.ref a/\H a=some (.dK (bH kvs)):=by
 rcases h with h|⟨a,o,h1,rfl,h3,h4⟩
 ·cases h with
  |dic h=>exact⟨_,rfl,cM _ _ h⟩
 ·cases h4 with
  |dic k=>exact⟨a,rfl,h3⟩
theorem zQ.strong(h:zQ g H S d v)(n:∀ds,d≠.lst ds)(n2:∀k,d≠.dic k:=by intro _ z;cases z):Rep g (hid H S) d v:=by
 rcases h with h|⟨a,o,h1,rfl,h3,h4⟩
 ·exact h
 ·cases h4 with
  |lst r=>exact absurd rfl (n _)
  |dic k=>exact absurd rfl (n2 _)
theorem zQ.tup{ds:List D}(h:zQ g H S (.tup ds) v):∃a vs,v=.ref a/\SqT g.K H a vs/\zb g (hid H S) ds vs:=by
 cases h.strong (by intro _ z;cases z)with
 |tup h2 r=>exact⟨_,_,rfl,ee cM h2,r⟩
theorem zQ.seq{ds:List D}(h:zQ g H S d v)(e:seq? d=some ds):∃a vs,v=.ref a/\(SqL g.K H a vs\/SqT g.K H a vs)/\zb g (hid H S) ds vs:=by
 cases d with
 |tup xs=>cases e;obtain⟨a,vs,h1,h2,h3⟩:=h.tup;exact⟨a,vs,h1,.inr h2,h3⟩
 |lst xs=>cases e;obtain⟨a,vs,h1,h2,h3⟩:=h.lst;exact⟨a,vs,h1,.inl h2,h3⟩
 |_=>cases e
theorem zQ.int{i:Int}(h:zQ g H S (.int i) v):v=.int i:=by cases h.strong (by intro _ z;cases z);rfl
theorem zQ.bl{b:Bool}(h:zQ g H S (.bl b) v):v=.bl b:=by cases h.strong (by intro _ z;cases z);rfl
theorem iJ{ds:List D}{vs:List V}{p:Addr}(hs:Sub S H)(n:H p=none)(r:zb g (hid H S) ds vs):Rep g (hid (upd H p (.tup vs)) S) (.tup ds) (.ref p):=
 .tup (SqT.of (jK hs n)) (r.mono (qG (zq n)))
theorem dW{ds:List D}{vs:List V}{p:Addr}(hs:Sub S H)(n:H p=none)(r:zb g (hid H S) ds vs):Rep g (hid (upd H p (.lst vs)) S) (.lst ds) (.ref p):=
 .lst (SqL.of (jK hs n)) (r.mono (qG (zq n)))
theorem eU{ds:List D}{vs:List V}{p:Addr}(e:qe H0 H)(n:H p=none)(r:zb g (hid H S) ds vs):Fr g H0 S (upd H p (.lst vs)) (.lst ds) (.ref p):=
 ⟨p,_,rfl,e.free n,zP,.lst (r.mono (i7 n))⟩
theorem sA{kvs:List (Int×Int)}{p:Addr}(hs:Sub S H)(n:H p=none):Rep g (hid (upd H p (.dK (bH kvs))) S) (.dic kvs) (.ref p):=.dic (jK hs n)
theorem uV{kvs:List (Int×Int)}{p:Addr}(e:qe H0 H)(n:H p=none):Fr g H0 S (upd H p (.dK (bH kvs))) (.dic kvs) (.ref p):=⟨p,_,rfl,e.free n,zP,.dic kvs⟩
end
end EV
namespace L2
open PySem PySem.Spec PyProof.Rows
section
variable{X:Cx}
end
end L2
namespace EV
open PySem PySem.Spec PySem.P PyProof.Rows L2
mutual
noncomputable def D.py:D->PyData
 | .non=>.none
 | .bl b=>.bool b
 | .int i=>.int i
 | .str x=>.str x
 | .tup xs=>.tuple (pys xs)
 | .lst xs=>.list (pys xs)
 | .fn _=>.none
 | .exn _=>.none
 | .dic _=>.none
noncomputable def pys:List D->List PyData
 | []=>[]
 |x::xs=>x.py::pys xs
end
mutual
theorem mj:∀{d:D},d.plain=true->d.py.canLay0=true
 | .non,_ | .bl _,_ | .int _,_=>by simp[D.py,PyData.canLay0]
 | .str x,h=>by simpa[D.py,PyData.canLay0,D.plain]using h
 | .tup xs,h=>by simp only[D.py,PyData.canLay0];exact jT (by simpa[D.plain]using h)
 | .lst xs,h=>by simp only[D.py,PyData.canLay0];exact jT (by simpa[D.plain]using h)
 | .fn _,h | .exn _,h | .dic _,h=>by simp[D.plain]at h
theorem jT:∀{ds:List D},plainAll ds=true->PyData.canLayAll0 (pys ds)=true
 | [],_=>by simp[pys,PyData.canLayAll0]
 |x::xs,h=>by
  simp only[plainAll,aF]at h;simp only[pys,PyData.canLayAll0,aF];exact⟨mj h.1,jT h.2⟩
end
mutual
theorem oE:∀(d:D),d.py.depth=d.deep
 | .non | .bl _ | .int _ | .str _ | .fn _ | .exn _ | .dic _=>by simp[D.py,PyData.depth,D.deep]
 | .tup xs=>by simp only[D.py,PyData.depth,D.deep];rw[jX xs]
 | .lst xs=>by simp only[D.py,PyData.depth,D.deep];rw[jX xs]
theorem jX:∀(ds:List D),PyData.depthAll (pys ds)=dj ds
 | []=>by simp[pys,PyData.depthAll,dj]
 |x::xs=>by simp only[pys,PyData.depthAll,dj];rw[oE x,jX xs]
end
mutual
theorem kA:∀(a b:D),a.plain=true->b.plain=true->PyData.eqv a.py b.py=a.eqv b
 | .tup xs,.tup ys,h,h'=>by simp only[D.py,PyData.eqv,D.eqv];exact jY xs ys (by simpa[D.plain]using h) (by simpa[D.plain]using h')
 | .lst xs,.lst ys,h,h'=>by simp only[D.py,PyData.eqv,D.eqv];exact jY xs ys (by simpa[D.plain]using h) (by simpa[D.plain]using h')
 | .fn _,_,h,_=>by simp[D.plain]at h
 | .exn _,_,h,_=>by simp[D.plain]at h
 | .dic _,_,h,_=>by simp[D.plain]at h
 | .non,b,_,h' | .bl _,b,_,h' | .int _,b,_,h' | .str _,b,_,h'=>by cases b<;>simp[D.py,PyData.eqv,D.eqv,D.plain]at h' ⊢
 | .tup _,.non,_,_ | .tup _,.bl _,_,_ | .tup _,.int _,_,_ | .tup _,.str _,_,_ | .tup _,.lst _,_,_=>by simp[D.py,PyData.eqv,D.eqv]
 | .lst _,.non,_,_ | .lst _,.bl _,_,_ | .lst _,.int _,_,_ | .lst _,.str _,_,_ | .lst _,.tup _,_,_=>by simp[D.py,PyData.eqv,D.eqv]
 | .tup _,.fn _,_,h' | .tup _,.exn _,_,h' | .lst _,.fn _,_,h' | .lst _,.exn _,_,h' | .tup _,.dic _,_,h' | .lst _,.dic _,_,h'=>by simp[D.plain]at h'
theorem jY:∀(xs ys:List D),plainAll xs=true->plainAll ys=true->PyData.eqvAll (pys xs) (pys ys)=eqvAll xs ys
 | [],[],_,_=>by simp[pys,PyData.eqvAll,eqvAll]
 |x::xs,y::ys,h,h'=>by
  simp only[plainAll,aF]at h h';simp only[pys,PyData.eqvAll,eqvAll];rw[kA x y h.1 h'.1,jY xs ys h.2 h'.2]
 | [],_::_,_,_=>by simp[pys,PyData.eqvAll,eqvAll]
 |_::_,[],_,_=>by simp[pys,PyData.eqvAll,eqvAll]
end
theorem Rep.data{g:Gc}{H:Hp}{d:D}{v:V}(h:Rep g H d v):d.plain=true->dE g.K H v d.py:=
 h.rec (motive_1:=λd v _=>d.plain=true->dE g.K H v d.py) (motive_2:=λds vs _=>plainAll ds=true->fT g.K H vs (pys ds)) (λ_=>.non) (λb _=>.bl b) (λb _=>.int b) (λb _=>.str b) (λq _ r p=>.tup q (r p)) (λq _ r p=>.lst q (r p)) (λ_ p=>nomatch p) (λ_ _ p=>nomatch p) (λ_ p=>nomatch p) (λ_=>.nil) (λ_ _ a b p=>.cons (a (i9 p).1) (b (i9 p).2))
theorem gv{d:D}:d.asks=true↔d.plain=true/\d.deep<=20:=by simp[D.asks]
section
variable{X:Cx}{g:Gc}
theorem OpR.imp{f:ae->ae->Sem ae}{r r':R2}(h:OpR X f r)(i:∀x y H Q,r' x y H Q->r x y H Q):OpR X f r':=
 λpins s σ H x y v u Q I rx ry q=>h pins s σ H x y v u Q I rx ry (i _ _ _ _ q)
noncomputable def yR(K:ar):R2:=λx y H Q=>∃l b xs zs,x=.ref l/\y=.ref b/\SqL K H l xs/\SqL K H b zs/\xs.length+zs.length<=aH/\∀p,H p=none->Q (.ref p) (upd H p (.lst (xs++zs)))
theorem ur:OpR X (bz .Add) (yR X.K):=by
 intro pins s σ H x y v u Q I rx ry h;obtain⟨l,b,xs,zs,rfl,rfl,hH,hB,hz,q⟩:=h;cases rx;cases ry;obtain⟨its,r,pl,z⟩:=I.list hH;obtain⟨its2,r2,pl2,z2⟩:=I.list hB;have l1:=r.length;have l2:=r2.length;obtain⟨⟨cls,dd,data,sl⟩,ho,hc,n,hd⟩:=pl.isList;obtain⟨⟨cls2,dd2,data2,sl2⟩,ho2,hc2,n2,hd2⟩:=pl2.isList;simp only at hc hd hc2 hd2;subst hc hd hc2 hd2;refine concat_meets ⟨_,ho,rfl⟩ ⟨_,ho2,rfl⟩ noFill_list_add seq_list_add PySem.F.slot_list_add PySem.F.entry_list_add (PySem.F.args_list_add_2 _ _) (list_addW l b its.toArray its2.toArray n n2 dd dd2 sl sl2 (by rw[aW,aW];lia)) ⟨ho,ho2,?_⟩;have ea:its.toArray++its2.toArray=(its++its2).toArray:=by simp
 rw[ea];exact⟨.ref _,_,I.lnew (t':=s.toks) (r.append r2) (by rw[List.length_append];lia),rfl,q _ I.fresh⟩
noncomputable def rOp(g:Gc)(o:O2):R2:=λx y H Q=>∃S da db,Sub S H/\zQ g H S da x/\zQ g H S db y /\
 match op2 o da db with
 | .ok d=>∀v H',qe H H'->Rep g (hid H' S) d v->(jc da=true->Fr g H S H' d v)->Q v H'
 |_=>False
theorem dR{o:O2}(ho:o≠.add)(hm:o≠.mul){da db d:D}(h:op2 o da db=.ok d):∃i j,da=.int i/\db=.int j/\opI o i j=.ok d:=by
 unfold op2 at h;split at h
 ·exact⟨_,_,rfl,rfl,h⟩
 ·rw[if_neg (λz=>ho z.1)]at h;cases h
 ·rw[if_neg (λz=>ho z.1)]at h;cases h
 ·cases h
theorem lI{j:Int}(h:small j=true):-(2^64)<j/\j<2^64:=by simpa[small]using h
theorem o9{n:Nat}(h:n<=SZ):n<=sizeLine:=bp h (by rw[bt];decide)
theorem log2_small{j:Int}(h1:0<j)(h2:j<1000000000000000000000000000000):j.natAbs.log2<9000:=by
 have h3:j.natAbs<2^100:=by
  have:(2:Nat)^100=1267650600228229401496703205376:=by decide +kernel
  rw[this];lia
 have:=(Nat.log2_lt (n:=j.natAbs) (k:=100) (by lia)).mpr h3;lia
theorem wW:OpR X (bz .FloorDiv) (rI (λ_ j=>0<j/\j<1000000000000000000000000000000) λi j=>.int (i/j)):=L2.opI λi j _ _ _ _ _ hc q=>by
 have h1:(0:Int)<j:=hc.1;exact floordiv_int (by lia) (by rw[Int.fdiv_eq_ediv_of_nonneg i (by lia)];exact q) (.inl (PyProof.noPylong_of_log2 (log2_small hc.1 hc.2)))
theorem rY(hK:X.K=g.K){op:Operator}{o:O2}(h:o2 op=some o):OpR X (bz op) (rOp g o):=by
 have two:∀{f:ae->ae->Sem ae}{C:Int->Int->Prop}{q:Int->Int->Int} (o:O2),OpR X f (rI C λi j=>.int (q i j))->(∀da db d,op2 o da db=.ok d->∃i j,da=.int i/\db=.int j/\C i j/\d=.int (q i j))->OpR X f (rOp g o):=λo k e=>by
  refine OpR.imp k λx y H Q ⟨S,da,db,hs,ra,rb,m⟩=>?_
  cases e1:op2 o da db with
  |ok d=>
   rw[e1]at m;obtain⟨i,j,rfl,rfl,c,rfl⟩:=e da db d e1;exact⟨i,j,ra.int,rb.int,c,m _ _ (qe.refl _) (.int _) (λz=>nomatch z)⟩
  |ex c=>rw[e1]at m;exact m.elim
  |no=>rw[e1]at m;exact m.elim
 have two0:∀{f:ae->ae->Sem ae}{q:Int->Int->Int} (o:O2),OpR X f (rI0 λi j=>.int (q i j))->(∀da db d,op2 o da db=.ok d->∃i j,da=.int i/\db=.int j/\d=.int (q i j))->OpR X f (rOp g o):=λ{f q} o k e=>
  two (C:=λ_ _=>True) (q:=q) o (OpR.imp k λx y H Q ⟨i,j,h1,h2,_,h3⟩=>⟨i,j,h1,h2,h3⟩) λda db d h=>by
   obtain⟨i,j,h1,h2,h3⟩:=e da db d h;exact⟨i,j,h1,h2,trivial,h3⟩
 cases op<;>simp only[o2,bZ]at h<;>first|subst h|cases h
 ·-- Add
  refine OpR.imp (rV.or (xT.or ur)) λx y H Q ⟨S,da,db,hs,ra,rb,m⟩=>?_
  cases da with
  |int i=>
   cases db with
   |int j=>exact .inl ⟨i,j,ra.int,rb.int,m _ _ (qe.refl _) (.int _) (λz=>nomatch z)⟩
   |_=>exact m.elim
  |tup xs=>
   cases db with
   |tup ys=>
    simp only[op2,true_and]at m;split at m
    ·rename_i e
     split at e<;>cases e
     rename_i hz
     obtain⟨a,vs,rfl,h1,r1⟩:=ra.tup;obtain⟨b,us,rfl,h2,r2⟩:=rb.tup;refine .inr (.inl ⟨a,b,vs,us,rfl,rfl,by rw[hK];exact h1,by rw[hK];exact h2,by rw[<-r1.length,<-r2.length];exact o9 hz,λe=>?_,λ_ e=>?_,λ_ _ p hp=>?_⟩)
     ·subst e;cases r1;exact m _ _ (qe.refl _) (rb.strong (by intro _ z;cases z)) (λz=>nomatch z)
     ·subst e;cases r2;rw[List.append_nil]at m;exact m _ _ (qe.refl _) (ra.strong (by intro _ z;cases z)) (λz=>nomatch z)
     ·exact m _ _ (zq hp) (iJ hs hp (r1.append r2)) (λz=>nomatch z)
    ·exact m.elim
   |_=>exact m.elim
  |lst xs=>
   cases db with
   |lst ys=>
    simp only[op2,true_and]at m;split at m
    ·rename_i e
     split at e<;>cases e
     rename_i hz
     obtain⟨a,vs,rfl,h1,r1⟩:=ra.lst;obtain⟨b,us,rfl,h2,r2⟩:=rb.lst;refine .inr (.inr ⟨a,b,vs,us,rfl,rfl,by rw[hK];exact h1,by rw[hK];exact h2,by rw[<-r1.length,<-r2.length];exact o9 hz,λp hp=>?_⟩);exact m _ _ (zq hp) (dW hs hp (r1.append r2)) (λ_=>eU (qe.refl _) hp (r1.append r2))
    ·exact m.elim
   |_=>exact m.elim
  |_=>exact m.elim
 ·exact two0 .sub sC λda db d h=>by obtain⟨i,j,rfl,rfl,h'⟩:=dR (by decide) (by decide) h;clear h;rename _=>h;cases h;exact⟨_,_,rfl,rfl,rfl⟩
 ·refine OpR.imp wZ λx y H Q ⟨S,da,db,hs,ra,rb,m⟩=>?_
  cases e1:op2 .mul da db with
  |ok d=>
   rw[e1]at m;unfold op2 at e1;split at e1
   ·simp only[opI]at e1;split at e1
    ·rename_i i j hc
     cases e1;refine⟨i,j,ra.int,rb.int,?_,m _ _ (qe.refl _) (.int _) (λz=>nomatch z)⟩;rcases(by simpa using hc)with z|z
     ·exact .inl (lI z)
     ·exact .inr (lI z)
    ·cases e1
   ·rw[if_neg (λz=>nomatch z.1)]at e1;cases e1
   ·rw[if_neg (λz=>nomatch z.1)]at e1;cases e1
   ·cases e1
  |ex c=>rw[e1]at m;exact m.elim
  |no=>rw[e1]at m;exact m.elim
 ·exact two .mod AQ λda db d h=>by obtain⟨i,j,rfl,rfl,h'⟩:=dR (by decide) (by decide) h;clear h;rename _=>h;simp only[opI]at h;split at h<;>cases h;rename_i hc;exact⟨_,_,rfl,rfl,hc,rfl⟩
 ·exact two .pow Aj λda db d h=>by obtain⟨i,j,rfl,rfl,h'⟩:=dR (by decide) (by decide) h;clear h;rename _=>h;simp only[opI]at h;split at h<;>cases h;rename_i hc;exact⟨_,_,rfl,rfl,hc,rfl⟩
 ·exact two .shl BV λda db d h=>by obtain⟨i,j,rfl,rfl,h'⟩:=dR (by decide) (by decide) h;clear h;rename _=>h;simp only[opI]at h;split at h<;>cases h;rename_i hc;exact⟨_,_,rfl,rfl,hc,rfl⟩
 ·exact two .shr BC λda db d h=>by obtain⟨i,j,rfl,rfl,h'⟩:=dR (by decide) (by decide) h;clear h;rename _=>h;simp only[opI]at h;split at h<;>cases h;rename_i hc;exact⟨_,_,rfl,rfl,hc,rfl⟩
 ·exact two0 .bor t_ λda db d h=>by obtain⟨i,j,rfl,rfl,h'⟩:=dR (by decide) (by decide) h;clear h;rename _=>h;cases h;exact⟨_,_,rfl,rfl,rfl⟩
 ·exact two0 .bxor xX λda db d h=>by obtain⟨i,j,rfl,rfl,h'⟩:=dR (by decide) (by decide) h;clear h;rename _=>h;cases h;exact⟨_,_,rfl,rfl,rfl⟩
 ·exact two0 .band uD λda db d h=>by obtain⟨i,j,rfl,rfl,h'⟩:=dR (by decide) (by decide) h;clear h;rename _=>h;cases h;exact⟨_,_,rfl,rfl,rfl⟩
 ·exact two .fdiv wW λda db d h=>by obtain⟨i,j,rfl,rfl,h'⟩:=dR (by decide) (by decide) h;clear h;rename _=>h;simp only[opI]at h;split at h<;>cases h;rename_i hc;exact⟨_,_,rfl,rfl,hc,rfl⟩
theorem i3(hK:X.K=g.K){pins:List (Addr×Obj)}{σ:L2.St}{H:Hp}{s:af}(I:Inv X pins σ H s){d:D}{v:V}{u:ae}(r:Rep g H d v)(a:d.asks=true)(ru:RelV v u):∃as,Reads s.heap u d.py as/\d.py.canLay0=true/\d.py.depth<=20:=by
 obtain⟨h1,h2⟩:=gv.mp a;have h:=r.data h1;rw[<-hK]at h;obtain⟨as,q⟩:=I.reads h ru;exact⟨as,q,mj h1,by rw[oE];exact h2⟩
theorem oJ:∀(a b:List Int),cN a b=HT.lexLt a b
 | [],[]=>by simp[cN,HT.lexLt]
 | [],_::_=>by simp[cN,HT.lexLt]
 |_::_,[]=>by simp[cN,HT.lexLt]
 |a::r,b::t=>by
  simp only[cN,HT.lexLt];rw[oJ r t]
  try (by_cases h:a=b<;>simp[h])
noncomputable def rCm(g:Gc)(c:C2):R2:=λx y H Q=>∃S da db,zQ g H S da x/\zQ g H S db y /\
 match qk c da db with
 | .ok b=>Q (.bl b) H
 |_=>False
open Classical in
noncomputable def dy(h:Heap)(q:PyData)(u:ae):Bool:=if e:∃d as,Reads h u d as then PyData.eqv e.choose q else false
theorem mF{h:Heap}{q d:PyData}{u:ae}{as:List Addr}(r:Reads h u d as):dy h q u=PyData.eqv d q:=by
 have e:∃d as,Reads h u d as:=⟨d,as,r⟩
 unfold dy;rw[dif_pos e];obtain⟨bs,r'⟩:=e.choose_spec;rw[(PySem.Reads.unique r' d as r).1]
theorem any_eq(hK:X.K=g.K){pins:List (Addr×Obj)}{σ:L2.St}{H:Hp}{s:af}(I:Inv X pins σ H s){da:D}(ha:da.asks=true){ds:List D}:∀{vs:List V}{us:List ae},zb g H ds vs->Vals vs us->ds.all D.asks=true ->
  us.any (dy s.heap da.py)=inD da ds/\∀u∈us,∃d as,Reads s.heap u d as/\d.canLay0=true/\d.depth<=20:=by
 induction ds with
 |nil=>intro vs us h r _;cases h;cases r;exact⟨rfl,λu h=>nomatch h⟩
 |cons d ds ih=>
  intro vs us h q e;cases h with
  |cons h r=>cases q with
   |cons q t=>
    rw[List.all_cons,aF]at e;obtain⟨as,h1,h2,h3⟩:=i3 hK I h e.1 q;obtain⟨i1,i2⟩:=ih r t e.2;refine⟨?_,λu hu=>?_⟩
    ·rw[List.any_cons,i1,mF h1,kA _ _ (gv.mp e.1).1 (gv.mp ha).1]
     rfl
    ·rcases aL.mp hu with rfl|hu
     ·exact⟨_,as,h1,h2,h3⟩
     ·exact i2 u hu
theorem vQ{A:ay}{s:af}{u v:ae}{d:PyData}{as:List Addr}{q:PyData}{bs:List Addr}(hu:A.units+60<cLine)(r:Reads s.heap u d as)(r':Reads s.heap v q bs)(h1:d.canLay0=true)(h2:q.canLay0=true)(h3:d.depth<=20):SeqAt.EqAt A.in1 s u v (dy s.heap q u):=by
 rw[mF r];refine SeqAt.eqAt_reads d q A.in1 s u v as bs r r' h1 h2 ?_;have:min d.depth q.depth<=d.depth:=Nat.min_le_left _ _;show A.units+1+_<_;lia
theorem lQ(hK:X.K=g.K)(hu:X.A.units+64<cLine)(neg:Bool):OpR X (aV (if neg then .NotIn else .In)) (λx y H Q=>∃S da db ds,zQ g H S da x/\zQ g H S db y/\seq? db=some ds/\da.asks=true/\ds.all D.asks=true/\Q (.bl (if neg then !inD da ds else inD da ds)) H):=by
 intro pins s σ H x y v u Q I rx ry h;obtain⟨S,da,db,ds,ra,rb,es,aa,ad,q⟩:=h;obtain⟨as,h1,h2,h3⟩:=i3 hK I ra.rep aa rx;obtain⟨a,vs,rfl,hsq,rr⟩:=rb.seq es;cases ry;have go:∀{its:List ae},Vals vs its->(∀w∈its.toArray,SeqAt.EqAt X.A.in1 s w v (dy s.heap da.py w))/\its.toArray.any (dy s.heap da.py)=inD da ds:=λ{its} rv=>by
  obtain⟨i1,i2⟩:=any_eq hK I aa (rr.mono cM) rv ad;refine⟨λw hw=>?_,by simpa using i1⟩;obtain⟨d,bs,r1,r2,r3⟩:=i2 w (by simpa using hw);exact vQ (Nat.lt_of_le_of_lt (Nat.add_le_add_left (by decide) _) hu) r1 h1 r2 h2 r3
 rcases hsq with hsq|hsq
 ·obtain⟨its,rv,pl,_⟩:=I.list (by rw[hK];exact hsq);obtain⟨g1,g2⟩:=go rv;cases neg with
  |false=>exact SeqAt.in_listAt (dy s.heap da.py) pl.isList g1 ⟨.bl _,H,I,rfl,by rw[g2];exact q⟩
  |true=>exact SeqAt.notIn_listAt (dy s.heap da.py) pl.isList g1 ⟨.bl _,H,I,rfl,by rw[g2];exact q⟩
 ·obtain⟨its,rv,pl,_⟩:=I.tuple (by rw[hK];exact hsq);obtain⟨g1,g2⟩:=go rv;cases neg with
  |false=>exact SeqAt.in_tupleAt (dy s.heap da.py) pl g1 ⟨.bl _,H,I,rfl,by rw[g2];exact q⟩
  |true=>exact SeqAt.notIn_tupleAt (dy s.heap da.py) pl g1 ⟨.bl _,H,I,rfl,by rw[g2];exact q⟩
theorem mO(hK:X.K=g.K)(hu:X.A.units+64<cLine)(neg:Bool):OpR X (aV (if neg then .NotEq else .Eq)) (λx y H Q=>∃S da db,zQ g H S da x/\zQ g H S db y/\da.asks=true/\db.asks=true/\Q (.bl (if neg then !da.eqv db else da.eqv db)) H):=by
 intro pins s σ H x y v u Q I rx ry h;obtain⟨S,da,db,ra,rb,aa,ab,q⟩:=h;obtain⟨as,h1,h2,h3⟩:=i3 hK I ra.rep aa rx;obtain⟨bs,k1,k2,k3⟩:=i3 hK I rb.rep ab ry;have e:=kA da db (gv.mp aa).1 (gv.mp ab).1;have room:X.A.units+min da.py.depth db.py.depth<cLine:=by
  have:min da.py.depth db.py.depth<=da.py.depth:=Nat.min_le_left _ _;lia
 cases neg with
 |false=>exact SeqAt.compareEq_reads h1 k1 h2 k2 room ⟨.bl _,H,I,by rw[e];rfl,q⟩
 |true=>exact SeqAt.compareNe_reads h1 k1 h2 k2 room ⟨.bl _,H,I,by rw[e];rfl,q⟩
theorem zQ.non_iff{S:Sh}{H:Hp}{d:D}{v:V}(r:zQ g H S d v):decide (v=.non)=gf d:=by
 cases r.rep<;>rfl
theorem dC{op:CmpOp}{c:C2}{r:R2}(h:OpR X (aV op) r)(k:∀S da db b x y H Q,zQ g H S da x->zQ g H S db y->qk c da db=.ok b->Q (.bl b) H->r x y H Q):OpR X (aV op) (rCm g c):=by
 refine OpR.imp h λx y H Q ⟨S,da,db,ra,rb,m⟩=>?_
 cases e:qk c da db with
 |ok b=>rw[e]at m;exact k S da db b x y H Q ra rb e m
 |ex c'=>rw[e]at m;exact m.elim
 |no=>rw[e]at m;exact m.elim
theorem yh:OpR X (aV .Is) (λx y H Q=>∃a b,x=.bl a/\y=.bl b/\Q (.bl (a==b)) H):=by
 intro pins s σ H x y v u Q I rx ry h;obtain⟨a,b,rfl,rfl,q⟩:=h;cases rx;cases ry;exact is_bool (iH I q rfl)
theorem t9:OpR X (aV .IsNot) (λx y H Q=>∃a b,x=.bl a/\y=.bl b/\Q (.bl (!(a==b))) H):=by
 intro pins s σ H x y v u Q I rx ry h;obtain⟨a,b,rfl,rfl,q⟩:=h;cases rx;cases ry;exact isnot_bool (iH I q rfl)
theorem mf{n:Bool}{a b:EV.D}{c:Bool}(h:isB n a b=.ok c):∃x y,a=.bl x/\b=.bl y/\c=(n != (x==y)):=by
 unfold isB at h;split at h
 ·cases h;exact⟨_,_,rfl,rfl,rfl⟩
 ·cases h
theorem lM{da db:D}{b:Bool}(h:dN da db=.ok b):∃kvs i,db=.dic kvs/\da=.int i/\b=kvs.any λp=>decide (p.1=i):=by
 unfold dN at h;split at h
 ·split at h
  ·cases h;exact⟨_,_,rfl,rfl,rfl⟩
  ·cases h
 ·cases h
theorem di(hK:X.K=g.K)(hu:X.A.units+64<cLine)(op:CmpOp):OpR X (aV op) (rCm g (c2 op)):=by
 cases op
 ·exact dC (mO hK hu false) λS da db b x y H Q ra rb e q=>by
   simp only[c2,qk]at e;split at e<;>cases e
   rename_i a
   simp only[aF]at a;exact⟨S,da,db,ra,rb,a.1,a.2,q⟩
 ·exact dC (mO hK hu true) λS da db b x y H Q ra rb e q=>by
   simp only[c2,qk]at e;split at e<;>cases e
   rename_i a
   simp only[aF]at a;exact⟨S,da,db,ra,rb,a.1,a.2,q⟩
 ·exact dC (uM.or (pE (by lia))) λS da db b x y H Q ra rb e q=>by
   simp only[c2]at e;cases da with
   |int i=>
    cases db with
    |int j=>cases e;exact .inl ⟨i,j,ra.int,rb.int,q⟩
    |_=>cases e
   |tup xs=>
    cases db with
    |tup ys=>
     simp only[qk]at e;split at e
     ·rename_i ns ms e1 e2
      cases e;obtain⟨a,vs,rfl,h1,r1⟩:=ra.tup;obtain⟨b,us,rfl,h2,r2⟩:=rb.tup;obtain⟨rfl,_⟩:=r1.ints e1;obtain⟨rfl,_⟩:=r2.ints e2;exact .inr ⟨a,b,ns,ms,rfl,rfl,by rw[hK];exact h1,by rw[hK];exact h2,oJ ns ms▸q⟩
     ·cases e
    |_=>cases e
   |_=>cases db<;>cases e
 ·exact dC rR λS da db b x y H Q ra rb e q=>by
   cases da with
   |int i=>
    cases db with
    |int j=>cases e;exact⟨_,_,ra.int,rb.int,q⟩
    |_=>cases e
   |_=>cases e
 ·exact dC uR λS da db b x y H Q ra rb e q=>by
   cases da with
   |int i=>
    cases db with
    |int j=>cases e;exact⟨_,_,ra.int,rb.int,q⟩
    |_=>cases e
   |_=>cases e
 ·exact dC Ce λS da db b x y H Q ra rb e q=>by
   cases da with
   |int i=>
    cases db with
    |int j=>cases e;exact⟨_,_,ra.int,rb.int,q⟩
    |_=>cases e
   |_=>cases e
 ·exact dC (uN.or yh) λS da db b x y H Q ra rb e q=>by
   simp only[c2,qk]at e;split at e
   ·rename_i hd
    cases e;have hd:db=.non:=by cases db<;>first|rfl|cases hd
    subst hd;cases rb.rep;exact .inl ⟨rfl,by rw[ra.non_iff];exact q⟩
   ·obtain⟨a,c,rfl,rfl,rfl⟩:=mf e;cases ra.rep;cases rb.rep;exact .inr ⟨a,c,rfl,rfl,by cases a<;>cases c<;>exact q⟩
 ·exact dC (uu.or t9) λS da db b x y H Q ra rb e q=>by
   simp only[c2,qk]at e;split at e
   ·rename_i hd
    cases e;have hd:db=.non:=by cases db<;>first|rfl|cases hd
    subst hd;cases rb.rep;exact .inl ⟨rfl,by rw[ra.non_iff];exact q⟩
   ·obtain⟨a,c,rfl,rfl,rfl⟩:=mf e;cases ra.rep;cases rb.rep;exact .inr ⟨a,c,rfl,rfl,by cases a<;>cases c<;>exact q⟩
 ·exact dC ((lQ hK hu false).or (rn hu)) λS da db b x y H Q ra rb e q=>by
   simp only[c2,qk]at e;split at e
   ·rename_i xs es
    split at e<;>cases e
    rename_i a
    simp only[aF]at a;exact .inl ⟨S,da,db,xs,ra,rb,es,a.1,a.2,q⟩
   ·obtain⟨kvs,i,rfl,rfl,rfl⟩:=lM e;obtain⟨l,rfl,hl⟩:=rb.dic;exact .inr ⟨l,kvs,i,rfl,ra.int,hl,q⟩
 ·exact dC ((lQ hK hu true).or (sI hu)) λS da db b x y H Q ra rb e q=>by
   simp only[c2,qk]at e;split at e
   ·rename_i xs es
    split at e<;>cases e
    rename_i a
    simp only[aF]at a;exact .inl ⟨S,da,db,xs,ra,rb,es,a.1,a.2,q⟩
   ·cases ed:dN da db with
    |ok r=>
     rw[ed]at e;obtain⟨kvs,i,rfl,rfl,rfl⟩:=lM ed;obtain⟨l,rfl,hl⟩:=rb.dic;cases e;exact .inr ⟨l,kvs,i,rfl,ra.int,hl,q⟩
    |ex z=>rw[ed]at e;cases e
    |no=>rw[ed]at e;cases e
end
abbrev dX(g:Gc)(H:Hp)(S:Sh):List D->List V->Prop:=Paired (zQ g H S)
section
variable{X:Cx}{g:Gc}
theorem kI{H:Hp}{ds:List D}{vs:List V}{i:Int}{d:D}(r:zb g H ds vs)(e:atI ds i=some d):∃v,atI vs i=some v/\Rep g H d v:=by
 unfold atI at e ⊢;rw[<-r.length];cases q:ixN ds.length i with
 |none=>rw[q]at e;cases e
 |some j=>rw[q]at e;exact r.get e
noncomputable def yC(g:Gc):R2:=λx y H Q=>∃S da db,zQ g H S da x/\zQ g H S db y /\
 match ixD da db with
 | .ok d=>∀v,Rep g (hid H S) d v->Q v H
 |_=>False
theorem AE(hK:X.K=g.K)(hu:X.A.units+64<cLine):IxR X (yC g):=by
 have k:IxR X (λx y H Q=>(o3 X.K x y H Q\/nr X.K x y H Q)\/kG x y H Q):=(vD.or vU).or (wQ hu);intro value slice pins s σ H x y v u Q I rx ry h hs;refine k value slice pins s σ H x y v u Q I rx ry ?_ hs;obtain⟨S,da,db,ra,rb,m⟩:=h;cases da with
 |tup xs=>
  cases db with
  |int i=>
   simp only[ixD]at m;cases e:atI xs i with
   |none=>rw[e]at m;exact m.elim
   |some d=>
    rw[e]at m;obtain⟨a,vs,rfl,h1,r1⟩:=ra.tup;obtain⟨w,h2,h3⟩:=kI r1 e;exact .inl (.inr ⟨a,vs,i,w,rfl,rb.int,by rw[hK];exact h1,h2,m w h3⟩)
  |_=>exact m.elim
 |lst xs=>
  cases db with
  |int i=>
   simp only[ixD]at m;cases e:atI xs i with
   |none=>rw[e]at m;exact m.elim
   |some d=>
    rw[e]at m;obtain⟨a,vs,rfl,h1,r1⟩:=ra.lst;obtain⟨w,h2,h3⟩:=kI r1 e;exact .inl (.inl ⟨a,vs,i,w,rfl,rb.int,by rw[hK];exact h1,h2,m w h3⟩)
  |_=>exact m.elim
 |dic kvs=>
  cases db with
  |int i=>
   simp only[ixD]at m;cases e:atK kvs i with
   |none=>rw[e]at m;exact m.elim
   |some v=>
    rw[e]at m;obtain⟨a,rfl,h1⟩:=ra.dic;exact .inr ⟨a,kvs,i,v,rfl,rb.int,h1,e,m _ (.int v)⟩
  |_=>exact m.elim
 |_=>exact m.elim
noncomputable def AH(g:Gc):V->Option Int->Option Int->Hp->VK->Prop:=λx lo hi H Q=>∃S da,Sub S H/\zQ g H S da x /\
 match slD da lo hi with
 | .ok d=>∀v H',qe H H'->Rep g (hid H' S) d v->Q v H'
 |_=>False
theorem pH{H:Hp}{ds:List D}{vs:List V}(r:zb g H ds vs)(lo hi:Option Int):zb g H (cutD ds lo hi) (fQ vs lo hi):=by
 unfold cutD fQ;rw[r.length];exact(r.drop _).take _
theorem AW(hK:X.K=g.K):SlR X (AH g):=by
 intro pins s σ H x v vl vu lo hi sl Q I rx hs pl pu h;obtain⟨S,da,hS,ra,m⟩:=h;cases da with
 |lst xs=>
  obtain⟨a,vs,rfl,h1,r1⟩:=ra.lst;exact B_ pins s σ H _ v vl vu lo hi sl Q I rx hs pl pu ⟨a,vs,rfl,by rw[hK];exact h1,λp hp=>m _ _ (zq hp) (dW hS hp (pH r1 lo hi))⟩
 |_=>exact m.elim
noncomputable def b1V:B1->ae
 | .len=>.builtin "len"
 | .tuple=>.type "tuple"
 | .list=>.type "list"
 | .sorted=>.builtin "sorted"
 | .all=>.builtin "all"
 | .any=>.builtin "any"
 | .sum=>.builtin "sum"
 | .min=>.builtin "min"
 | .max=>.builtin "max"
 | .abs=>.builtin "abs"
 | .int=>.type "int"
 | .bool=>.type "bool"
noncomputable def rB1(g:Gc)(b:B1):List V->Hp->VK->Prop:=λvs H Q=>∃S ds,Sub S H/\dX g H S ds vs /\
 match b1 b ds with
 | .ok d=>∀v H',qe H H'->Rep g (hid H' S) d v->(b=.list\/b=.sorted->Fr g H S H' d v)->Q v H'
 |_=>False
theorem zh.imp{f:ae}{r r':List V->Hp->VK->Prop}(h:zh X f r)(i:∀xs H Q,r' xs H Q->r xs H Q):zh X f r':=
 λpins s σ H xs us Q I rv q=>h pins s σ H xs us Q I rv (i _ _ _ q)
theorem fv{f:ae}{b:B1}{r:List V->Hp->VK->Prop}(h:zh X f r)
  (k:∀S ds d vs H Q,Sub S H->dX g H S ds vs->b1 b ds=.ok d->(∀v H',qe H H'->Rep g (hid H' S) d v->(b=.list\/b=.sorted->Fr g H S H' d v)->Q v H')->r vs H Q):zh X f (rB1 g b):=by
 refine zh.imp h λvs H Q ⟨S,ds,hs,rs,m⟩=>?_
 cases e:b1 b ds with
 |ok d=>rw[e]at m;exact k S ds d vs H Q hs rs e m
 |ex c=>rw[e]at m;exact m.elim
 |no=>rw[e]at m;exact m.elim
theorem i8{f:ae}{b:B1}(h1:∀d,b11 b d=.no)(h2:∀d e,b12 b d e=.no):zh X f (rB1 g b):=λpins s σ H xs us Q I rv ⟨S,ds,hs,rs,m⟩=>by
 have e:b1 b ds=.no:=by
  unfold b1;split
  ·exact h1 _
  ·exact h2 _ _
  ·rfl
 rw[e]at m;exact m.elim
theorem ja{b:B1}(hb:∀x y,b12 b x y=.no){ds:List D}{d:D}(h:b1 b ds=.ok d):∃x,ds=[x]/\b11 b x=.ok d:=by
 match ds,h with
 | [x],h=>exact⟨x,rfl,h⟩
 | [x,y],h=>have h:b12 b x y=.ok d:=h;rw[hb]at h;cases h
 | [],h=>cases h
 |_::_::_::_,h=>cases h
theorem je{x r:D}{k:List D->R D}(h:dD x k=.ok r):∃xs,x=.lst xs/\k xs=.ok r:=by
 cases x with
 |lst xs=>exact⟨xs,rfl,h⟩
 |_=>cases h
theorem yD{x r:D}{f:Int->R D}{q:Bool->R D}(h:ibR x f q=.ok r):(∃i,x=.int i/\f i=.ok r)\/(∃b,x=.bl b/\q b=.ok r):=by
 cases x with
 |int i=>exact .inl ⟨i,rfl,h⟩
 |bl i=>exact .inr ⟨i,rfl,h⟩
 |_=>cases h
theorem o8{x y r:D}{k:Int->Int->R D}(h:iiR x y k=.ok r):∃i j,x=.int i/\y=.int j/\k i j=.ok r:=by
 cases x with
 |int i=>
  cases y with
  |int j=>exact⟨i,j,rfl,rfl,h⟩
  |_=>cases h
 |_=>cases h
theorem iG{α β:Type}{o:Option α}{k:α->R β}{r:β}(h:cG o k=.ok r):∃a,o=some a/\k a=.ok r:=by
 cases o with
 |some a=>exact⟨a,rfl,h⟩
 |none=>cases h
theorem lg{b:B1}{ds:List D}{d:D}{q:List D->R D}(h:b1 b ds=.ok d)(e:∀x,b1 b [x]=cG (seq? x) q)(n:ds.length≠1->b1 b ds=.no):∃x xs,ds=[x]/\seq? x=some xs/\q xs=.ok d:=by
 match ds with
 | []=>rw[n (by simp)]at h;cases h
 | [x]=>
  rw[e]at h;cases z:seq? x with
  |none=>rw[z]at h;cases h
  |some xs=>rw[z]at h;exact⟨x,xs,rfl,z,h⟩
 |x::y::r=>rw[n (by simp)]at h;cases h
theorem y6(hK:X.K=g.K):zh X (.builtin "len") (rB1 g .len):=fv wz λS ds d vs H Q hs rs h q=>by
 obtain⟨x,xs,rfl,e,h⟩:=lg (q:=λxs=>.ok (.int xs.length)) h (λ_=>rfl) (λn=>by match ds,n with | [],_=>rfl | [_,_],_=>rfl|_::_::_::_,_=>rfl);cases h;cases rs with
 |cons r rs=>
  cases rs;obtain⟨a,us,rfl,h1,r1⟩:=r.seq e;exact⟨a,us,rfl,by rw[hK];exact h1,by rw[<-r1.length];exact q _ _ (qe.refl _) (.int _) (by simp)⟩
theorem pZ(hK:X.K=g.K):zh X (.type "tuple") (rB1 g .tuple):=fv yc λS ds d vs H Q hs rs h q=>by
 obtain⟨x,xs,rfl,e,h⟩:=lg (q:=λxs=>.ok (.tup xs)) h (λ_=>rfl) (λn=>by match ds,n with | [],_=>rfl | [_,_],_=>rfl|_::_::_::_,_=>rfl);cases h;cases rs with
 |cons r rs=>
  cases rs;cases x with
  |lst ys=>
   cases e;obtain⟨a,us,rfl,h1,r1⟩:=r.lst;exact⟨a,us,rfl,.inl ⟨by rw[hK];exact h1,λp hp=>q _ _ (zq hp) (iJ hs hp r1) (by simp)⟩⟩
  |tup ys=>
   cases e;have z:=r.strong (by intro _ z;cases z);obtain⟨a,us,rfl,h1,r1⟩:=r.tup;exact⟨a,us,rfl,.inr ⟨by rw[hK];exact h1,q _ _ (qe.refl _) z (by simp)⟩⟩
  |_=>cases e
theorem tI(hK:X.K=g.K):zh X (.type "list") (rB1 g .list):=i8 (λ_=>rfl) λ_ _=>rfl
theorem tV(hc:X.calm=true)(al:Bool):zh X (.builtin (if al then "all" else "any")) (λxs H Q=>∃(l:Addr) (bs:List Bool),xs=[.ref l]/\SqL X.K H l (bs.map V.bl)/\Q (.bl (if al then bs.all id else bs.any id)) H):=by
 intro pins s σ H xs us Q I r h;obtain⟨l,bs,rfl,hl,q⟩:=h;obtain⟨u,rfl,ru⟩:=r.one;cases ru;obtain⟨its,rv,pl,hz⟩:=I.list hl;have e:=pS (A:=X.A) rv;subst e;have hlt:l<s.heap.objs.size:=by obtain⟨_,e,_⟩:=pl.isList;exact aJ e
 have tr:TruthOf X.prog X.w X.A.in1 (λi v=>(bs.map ae.bool).toArray[i]? = some v) (λi=>(bs[i]?).getD al):=λi v s' Q' E' hP hQ=>by
  have hv:(bs.map ae.bool)[i]? = some v:=by simpa using hP
  rw[List.getElem?_map]at hv;cases e:bs[i]? with
  |none=>rw[e]at hv;cases hv
  |some b=>
   rw[e]at hv;cases hv;simp only[e,Option.getD_some]at hQ;exact bB hQ
 have wk:=Walks.list (prog:=X.prog) (w:=X.w) (A:=X.A.in1) (I.ok.hd hc) s.heap.objs.size l (aX hlt) (bs.map ae.bool).toArray;cases al with
 |true=>
  refine call_all_walk (wpAny_pyIter_list pl.isList ?_);refine⟨s.heap.objs.size,[s.heap.objs.size,l],[s.heap.objs.size],_,_,_,_,rfl,wk,⟨⟨_,Heap.get?_push_size _ rfl,rfl,rfl⟩,pl.isList.push _⟩,tr,λh' tk hk=>?_⟩;have e:((a9 (bs.map ae.bool).toArray.size).all λi=>(bs[i]?).getD true)=bs.all id:=by
   rw[aW,bc];exact LSm.range_all bs
  rw[e];exact⟨.bl _,H,I.kept (LSm.kept_iter hk),rfl,q⟩
 |false=>
  refine call_any_walk (wpAny_pyIter_list pl.isList ?_);refine⟨s.heap.objs.size,[s.heap.objs.size,l],[s.heap.objs.size],_,_,_,_,rfl,wk,⟨⟨_,Heap.get?_push_size _ rfl,rfl,rfl⟩,pl.isList.push _⟩,tr,λh' tk hk=>?_⟩;have e:((a9 (bs.map ae.bool).toArray.size).any λi=>(bs[i]?).getD false)=bs.any id:=by
   rw[aW,bc,Bool.eq_iff_iff];simp only[List.any_eq_true,List.mem_range,id];constructor
   ·rintro⟨i,hi,e⟩;rw[List.getElem?_eq_getElem hi]at e;exact⟨_,List.getElem_mem hi,e⟩
   ·rintro⟨b,hb,e⟩;obtain⟨i,hi,rfl⟩:=List.getElem_of_mem hb;exact⟨i,hi,by rw[List.getElem?_eq_getElem hi];exact e⟩
  rw[e];exact⟨.bl _,H,I.kept (LSm.kept_iter hk),rfl,q⟩
theorem oY(hK:X.K=g.K)(hc:X.calm=true)(al:Bool):zh X (.builtin (if al then "all" else "any")) (rB1 g (if al then .all else .any)):=fv (tV hc al) λS ds d vs H Q hs rs h q=>by
 obtain⟨xs,bs,rfl,e,rfl⟩:∃xs bs,ds=[.lst xs]/\bools? xs=some bs/\d=.bl (if al then bs.all id else bs.any id):=by
  cases al
  ·obtain⟨x,rfl,h'⟩:=ja (λ_ _=>rfl) h;obtain⟨xs,rfl,h'⟩:=je h';obtain⟨bs,e,h'⟩:=iG h';cases h';exact⟨xs,bs,rfl,e,rfl⟩
  ·obtain⟨x,rfl,h'⟩:=ja (λ_ _=>rfl) h;obtain⟨xs,rfl,h'⟩:=je h';obtain⟨bs,e,h'⟩:=iG h';cases h';exact⟨xs,bs,rfl,e,rfl⟩
 cases rs with
 |cons r rs=>
  cases rs;obtain⟨a,us,rfl,h1,r1⟩:=r.lst;have e2:=r1.bools e;subst e2;exact⟨a,bs,rfl,by rw[hK];exact h1,q _ _ (qe.refl _) (.bl _) (by cases al<;>simp)⟩
end
end EV
namespace TS
open PySem PyProof.Rows
structure Cmp(prog:aw)(w:av)(A:ay)(s:af)(κ:SortKind)(D:au->Prop)(LT:au->au->Bool):Prop where
 lt:∀x y,D x->D y->∀Q:Bool->af->Prop,Q (LT x y) s->ak (ah prog w) A (keyLt' κ x.1 y.1) Q (λ_ _=>False) s
 asym:∀x y,LT x y=true->LT y x=false
 neg:∀x y z,LT y x=false->LT z y=false->LT z x=false
section
variable{prog:aw}{w:av}{A:ay}{E:ae->af->Prop}{s:af}{κ:SortKind}{D:au->Prop}{LT:au->au->Bool}
theorem oS{arr:Array au}{i:Nat}{x:au}{Q:au->aZ->Prop}{st:aZ}(hx:arr[i]? = some x)(h:Q x st):wpS (ah prog w) A E s (elem' arr i) Q st:=by
 rw[elem'_eq,hx];exact aQ h
theorem sS(C:Cmp prog w A s κ D LT){x y:au}(hx:D x)(hy:D y){Q:Option Bool->aZ->Prop}{st:aZ}(hk:kindOf st=κ)(h:Q (some (LT x y)) st):wpS (ah prog w) A E s (lt' x y) Q st:=by
 rw[lt'_eq];refine aE (wpS_get ?_);rw[hk];refine aE (wpS_lift (wpAny_attempt (bC (C.lt x y hx hy (λb s'=>s'=s/\b=LT x y) ⟨rfl,rfl⟩) (λb s' hb=>?_) λ_ _ z=>z.elim)));obtain⟨rfl,rfl⟩:=hb;exact⟨rfl,aQ h⟩
end
structure Wo(LT:au->au->Bool):Prop where
 asym:∀x y,LT x y=true->LT y x=false
 neg:∀x y z,LT y x=false->LT z y=false->LT z x=false
section
variable{LT:au->au->Bool}
theorem Wo.irr(W:Wo LT)(x:au):LT x x=false:=by
 cases h:LT x x with
 |false=>rfl
 |true=>have:=W.asym x x h;rw[h]at this;cases this
theorem Wo.lt_le(W:Wo LT){x y z:au}(h1:LT x y=true)(h2:LT z y=false):LT x z=true:=by
 cases h:LT x z with
 |true=>rfl
 |false=>have:=W.neg y z x h2 h;rw[h1]at this;cases this
abbrev df:Keyed:=(ae.none,ae.none)
noncomputable def at'(a:Array au)(i:Nat):Keyed:=a.getD i df
theorem gZ{a:Array au}{i:Nat}(h:i<a.size):a[i]? = some (at' a i):=by
 unfold at' Array.getD;rw[dif_pos h];exact Array.getElem?_eq_getElem h
theorem Av{a:Array au}{i:Nat}(h:i<a.size):at' a i∈a.toList:=by
 have:=gZ h;rw[<-Array.getElem?_toList]at this;exact List.mem_of_getElem? this
variable{a b out:Array au}{ia ib:Nat}
end
section
variable{prog:aw}{w:av}{A:ay}{E:ae->af->Prop}{s:af}{κ:SortKind}{D:au->Prop}{LT:au->au->Bool}
end
section
variable{LT:au->au->Bool}
variable{a b out:Array au}{na nb:Nat}
end
section
variable{prog:aw}{w:av}{A:ay}{E:ae->af->Prop}{s:af}{κ:SortKind}{D:au->Prop}{LT:au->au->Bool}
end
structure Rk(D:au->Prop)(LT:au->au->Bool)(R:au->Int):Prop where
 rk:∀x y,D x->D y->LT x y=decide (R x<R y)
structure SB(κ:SortKind)(p:Array (Nat×Nat×Nat))(a₁:Array au)(lo:Nat)(st:aZ):Prop where
 kd:kindOf st=κ
 fl:failedOf st=none
 pn:pendingOf st=p
 pm:(ag st).Perm a₁
 lw:∀i,i<lo->at' (ag st) i=at' a₁ i
noncomputable def Kr(R:au->Int)(xs:Array au)(i:Nat):Int:=R (at' xs i)
noncomputable def Seg(R:au->Int)(xs:Array au)(lo n:Nat):Prop:=∀i j,i<=j->j<n->Kr R xs (lo+i)<=Kr R xs (lo+j)
noncomputable def Dsc(R:au->Int)(xs:Array au)(lo n:Nat):Prop:=∀i j,i<=j->j<n->Kr R xs (lo+j)<=Kr R xs (lo+i)
theorem gz{xs ys:Array au}{i j:Nat}(h:xs[i]? = ys[j]?):at' xs i=at' ys j:=by
 unfold at';rw[Array.getD_eq_getD_getElem?,Array.getD_eq_getD_getElem?,h]
theorem lE{xs:Array au}{src d:Nat}(hs:src<xs.size)(hd:d<=src)(k:Nat) :
  at' (bubble xs src d) k=if k=src-d then at' xs src else if src-d<k/\k<=src then at' xs (k-1)else at' xs k:=by
 have e:=getElem?_bubble hs d hd k;by_cases h1:k=src-d
 ·rw[if_pos h1]at e ⊢;exact gz e
 ·rw[if_neg h1]at e ⊢;by_cases h2:src-d<k/\k<=src
  ·rw[if_pos h2]at e ⊢;exact gz e
  ·rw[if_neg h2]at e ⊢;exact gz e
theorem oP{xs:Array au}{i j:Nat}(hj:j<=xs.size)(k:Nat) :
  at' (aN xs i j ((j-i)/2)) k=if i<=k/\k<j then at' xs (i+j-1-k)else at' xs k:=by
 have e:=getElem?_mirror_all (i:=i) hj k;by_cases h1:i<=k/\k<j
 ·rw[if_pos h1]at e ⊢;exact gz e
 ·rw[if_neg h1]at e ⊢;exact gz e
section
variable{prog:aw}{w:av}{A:ay}{E:ae->af->Prop}{s:af}{κ:SortKind}{D:au->Prop}{LT:au->au->Bool}{R:au->Int}{p:Array (Nat×Nat×Nat)}{a₁:Array au}{lo:Nat}
theorem mL{xs:Array au}{src d:Nat}(hs:src<xs.size)(hd:d<=src)(k:Nat) :
  Kr R (bubble xs src d) k=if k=src-d then Kr R xs src else if src-d<k/\k<=src then Kr R xs (k-1)else Kr R xs k:=by
 unfold Kr;rw[lE hs hd];repeat' split
 all_goals rfl
theorem ka{xs:Array au}{i j:Nat}(hj:j<=xs.size)(k:Nat) :
  Kr R (aN xs i j ((j-i)/2)) k=if i<=k/\k<j then Kr R xs (i+j-1-k)else Kr R xs k:=by
 unfold Kr;rw[oP hj];split
 all_goals rfl
theorem iU{xs:Array au}{i j:Nat}(hj:j<=xs.size)(heq:∀k,i<=k->k<j->Kr R xs k=Kr R xs (j-1))(k:Nat) :
  Kr R (aN xs i j ((j-i)/2)) k=Kr R xs k:=by
 rw[ka hj];split
 ·rw[heq _ (by lia) (by lia),heq k (by lia) (by lia)]
 ·rfl
theorem SB.size{st:aZ}(h:SB κ p a₁ lo st):(ag st).size=a₁.size:=h.pm.size_eq
theorem SB.dom{st:aZ}(h:SB κ p a₁ lo st)(Da:∀x∈a₁.toList,D x){i:Nat}(hi:i<a₁.size):D (at' (ag st) i):=
 Da _ ((Array.perm_iff_toList_perm.mp h.pm).mem_iff.mp (Av (by rw[h.size];exact hi)))
theorem SB.setArr{st:aZ}(h:SB κ p a₁ lo st){xs:Array au}(hp:xs.Perm (ag st))(hl:∀i,i<lo->at' xs i=at' (ag st) i):SB κ p a₁ lo (setArr st xs):=
 ⟨h.kd,h.fl,h.pn,hp.trans h.pm,λi hi=>(hl i hi).trans (h.lw i hi)⟩
theorem SB.mir{st:aZ}(h:SB κ p a₁ lo st){i j:Nat}(hi:lo<=i)(hj:j<=a₁.size):SB κ p a₁ lo (PyProof.Rows.setArr st (aN (ag st) i j ((j-i)/2))):=
 h.setArr (mirror_perm _ _ _ _) λk hk=>by
  rw[oP (by rw[h.size];exact hj),if_neg (by lia)]
theorem dq{st:aZ}{i j:Nat}{Q:Option Bool->aZ->Prop}(C:Cmp prog w A s κ D LT)(K:Rk D LT R)(Da:∀x∈a₁.toList,D x)(hB:SB κ p a₁ lo st)(hi:i<a₁.size)(hj:j<a₁.size)
  (h:Q (some (decide (Kr R (ag st) i<Kr R (ag st) j))) st):wpS (ah prog w) A E s (ltAt' i j) Q st:=by
 rw[ltAt'_eq];refine aE (wpS_get ?_);refine aE (oS (gZ (by rw[hB.size];exact hi)) ?_);refine aE (oS (gZ (by rw[hB.size];exact hj)) ?_);refine sS C (hB.dom Da hi) (hB.dom Da hj) hB.kd ?_;rw[K.rk _ _ (hB.dom Da hi) (hB.dom Da hj)];exact h
structure Hf(R:au->Int)(xs:Array au)(lo k x l r:Nat):Prop where
 lr:l<=r
 rk:r<=k
 fu:r-l+x<=k
 low:∀i,lo<=i->i<lo+l->Kr R xs i<=Kr R xs (lo+k)
 upp:∀i,lo+r<=i->i<lo+k->Kr R xs (lo+k)<Kr R xs i
theorem Seg.at{xs:Array au}{n:Nat}(S:Seg R xs lo n){i j:Nat}(a:lo<=i)(b:i<=j)(c:j<lo+n):Kr R xs i<=Kr R xs j:=by
 have z:=S (i-lo) (j-lo) (by lia) (by lia)
 rwa[Nat.add_sub_cancel' a,Nat.add_sub_cancel' (bp a b)]at z
theorem Hf.go{xs:Array au}{k x l r:Nat}(h:Hf R xs lo k x l r)(S:Seg R xs lo k)(hl:l<r) :
  (Kr R xs (lo+k)<Kr R xs (lo+(l+r)/2)->Hf R xs lo k (x+1) l ((l+r)/2))/\(¬ Kr R xs (lo+k)<Kr R xs (lo+(l+r)/2)->Hf R xs lo k (x+1) ((l+r)/2+1) r):=by
 have:=h.rk;have:=h.fu;refine⟨λz=>⟨by lia,by lia,by lia,h.low,λi a b=>Int.lt_of_lt_of_le z (S.at (by lia) a (by lia))⟩,λz=>⟨by lia,h.rk,by lia,λi a b=>?_,h.upp⟩⟩;have:=S.at (i:=i) (j:=lo+(l+r)/2) a (by lia) (by lia);lia
theorem Hf.put{xs:Array au}{k x l:Nat}(h:Hf R xs lo k x l l)(hk:lo+k<xs.size)(S:Seg R xs lo k) :
  Seg R (bubble xs (lo+k) (lo+k-(lo+l))) lo (k+1)/\∀i,i<lo->at' (bubble xs (lo+k) (lo+k-(lo+l))) i=at' xs i:=by
 have:=h.rk;have e:lo+k-(lo+k-(lo+l))=lo+l:=by lia
 refine⟨λi j hij hj=>?_,λi hi=>by rw[lE hk (by lia),if_neg (by lia),if_neg (by lia)]⟩;rw[mL hk (by lia),mL hk (by lia),e];by_cases ai:lo+i=lo+l<;>by_cases aj:lo+j=lo+l<;>by_cases bi:lo+l<lo+i/\lo+i<=lo+k<;>by_cases bj:lo+l<lo+j/\lo+j<=lo+k<;>simp only[ai,aj,bi,bj,if_true,if_false,and_self]<;>first
  | (exfalso;lia)
  |lia
  |exact h.low _ (by lia) (by lia)
  |exact Int.le_of_lt (h.upp _ (by lia) (by lia))
  |exact S.at (by lia) (by lia) (by lia)
theorem wd(C:Cmp prog w A s κ D LT)(K:Rk D LT R)(Da:∀x∈a₁.toList,D x){st:aZ}{n ok:Nat}{Q:Bool->aZ->Prop}(hn:lo+n<=a₁.size)(hok:ok<=n)(hB:SB κ p a₁ lo st)(hs:Seg R (ag st) lo ok)
  (h:∀st',SB κ p a₁ lo st'->Seg R (ag st') lo n->Q true st'):wpS (ah prog w) A E s (binarySort' lo n ok) Q st:=by
 rw[binarySort'_eq];have seg1:Seg R (ag st) lo (min (max ok 1) n):=λi j a b=>by
  by_cases z:ok=0
  ·rw[show i=j by lia];exact Int.le_refl _
  ·exact hs i j a (by lia)
 refine aE (wpS_mono (wpS_forRange (λk c t=>c=(none,())/\SB κ p a₁ lo t/\Seg R (ag t) lo (min k n)) (Q:=λc t=>c=(none,())/\SB κ p a₁ lo t/\Seg R (ag t) lo n) ?_ ?_ ⟨rfl,hB,seg1⟩) λc t ⟨e,b,z⟩=>by rw[e];exact aQ (h t b z))
 ·rintro k c t k1 k2 ⟨rfl,B,S⟩;rw[Nat.min_eq_left (Nat.le_of_lt k2)]at S;have kz:lo+k<a₁.size:=by lia
  have kz':lo+k<(ag t).size:=by rw[B.size];exact kz
  refine aE (wpS_mono (wpS_forRange (λx c u=>u=t/\∃l r,c=(none,l,r)/\Hf R (ag t) lo k x l r) (Q:=λc u=>u=t/\∃x l,c=(none,l,l)/\Hf R (ag t) lo k x l l) ?_ ?_ ⟨rfl,0,k,rfl,bM _,aI _,by lia,λi a b=>by lia,λi a b=>by lia⟩) ?_)
  ·rintro x c u _ x2 ⟨rfl,l,r,rfl,f⟩;dsimp only;have:=f.lr;by_cases z:l >= r
   ·rw[if_pos z];obtain rfl:l=r:=by lia
    exact aQ ⟨rfl,x,l,rfl,f⟩
   rw[if_neg z];have:=f.rk;refine aE (dq C K Da B kz (by lia) ?_);obtain⟨g1,g2⟩:=f.go S (by lia);cases q:decide (Kr R (ag u) (lo+k)<Kr R (ag u) (lo+(l+r)/2))with
   |true=>exact aQ ⟨rfl,_,_,rfl,g1 (of_decide_eq_true q)⟩
   |false=>exact aQ ⟨rfl,_,_,rfl,g2 (of_decide_eq_false q)⟩
  ·rintro c u ⟨rfl,l,r,rfl,f⟩;have:=f.lr;have:=f.fu;obtain rfl:l=r:=by lia
   exact⟨rfl,_,l,rfl,f⟩
  ·rintro c u ⟨rfl,x,l,rfl,f⟩;obtain⟨g1,g2⟩:=f.put kz' S;dsimp only;rw[moveDown'_eq];refine aE (wpS_modify (aQ ⟨rfl,B.setArr (bubble_perm _ _ _) g2,?_⟩));rw[Nat.min_eq_left k2];exact g1
 ·rintro c t ⟨e,b,z⟩;rw[show min (max (max ok 1) n) n=n by lia]at z;exact⟨e,b,z⟩
end
section
variable{prog:aw}{w:av}{A:ay}{E:ae->af->Prop}{s:af}{κ:SortKind}{D:au->Prop}{LT:au->au->Bool}{R:au->Int}{p:Array (Nat×Nat×Nat)}{a₁:Array au}{lo:Nat}{xs:Array au}
theorem Seg.one:Seg R xs lo 1:=λi j a b=>by rw[show i=j by lia];exact Int.le_refl _
theorem Seg.more{n:Nat}(S:Seg R xs lo n)(z:1<=n->Kr R xs (lo+n-1)<=Kr R xs (lo+n)):Seg R xs lo (n+1):=λi j a b=>by
 by_cases c:j=n
 ·subst c;by_cases d:i=j
  ·rw[d];exact Int.le_refl _
  ·have y:=S i (j-1) (by lia) (by lia);rw[show lo+(j-1)=lo+j-1 by lia]at y;exact Int.le_trans y (z (by lia))
 ·exact S i j a (by lia)
theorem Dsc.one:Dsc R xs lo 1:=λi j a b=>by rw[show i=j by lia];exact Int.le_refl _
theorem Dsc.more{n:Nat}(S:Dsc R xs lo n)(z:1<=n->Kr R xs (lo+n)<=Kr R xs (lo+n-1)):Dsc R xs lo (n+1):=λi j a b=>by
 by_cases c:j=n
 ·subst c;by_cases d:i=j
  ·rw[d];exact Int.le_refl _
  ·have y:=S i (j-1) (by lia) (by lia);rw[show lo+(j-1)=lo+j-1 by lia]at y;exact Int.le_trans (z (by lia)) y
 ·exact S i j a (by lia)
theorem Dsc.alike{ys:Array au}{n:Nat}(S:Dsc R xs lo n)(e:∀k,Kr R ys k=Kr R xs k):Dsc R ys lo n:=λi j a b=>by rw[e,e];exact S i j a b
theorem g_{st:aZ}{a nrem:Nat}{β:Type}{mk:Nat->β}{Q:β->aZ->Prop}(hn:lo+nrem<=a₁.size)(ha:1<=a)(han:a<=nrem)(S0:Seg R (ag st) lo a)
  {body:Nat->β->StateT aZ Sem (ForInStep β)}
  (hb:∀x n (Q':ForInStep β->aZ->Prop),lo+n<a₁.size->1<=n->(Kr R (ag st) (lo+n)<Kr R (ag st) (lo+n-1)->Q' (.done (mk n)) st)->(¬ Kr R (ag st) (lo+n)<Kr R (ag st) (lo+n-1)->Q' (.yield (mk (n+1))) st)->wpS (ah prog w) A E s (body x (mk n)) Q' st)
  (h:∀n,a<=n->n<=nrem->Seg R (ag st) lo n->(n≠nrem->Kr R (ag st) (lo+n)<Kr R (ag st) (lo+n-1))->Q (mk n) st) :
  wpS (ah prog w) A E s (forIn [a:nrem] (mk a) body) Q st:=
 wpS_forRange (λx c t=>t=st/\c=mk x/\Seg R (ag st) lo x) (λx c t x1 x2 ⟨e1,e2,S⟩=>by
   subst e1 e2;exact hb x x _ (by lia) (by lia) (λz=>h x x1 (by lia) S λ_=>z) λz=>⟨rfl,rfl,S.more λ_=>by lia⟩)
  (λc t ⟨e1,e2,S⟩=>by
   subst e1 e2;rw[Nat.max_eq_right han]at S ⊢;exact h nrem han (aI _) S λz=>absurd rfl z) ⟨rfl,rfl,S0⟩
theorem Dsc.turn{n:Nat}(S:Dsc R xs lo n)(hz:lo+n<=xs.size):Seg R (aN xs lo (lo+n) ((lo+n-lo)/2)) lo n:=λi j a b=>by
 have y:=S (n-1-j) (n-1-i) (by lia) (by lia);rw[show lo+(n-1-j)=lo+(lo+n)-1-(lo+j)by lia,show lo+(n-1-i)=lo+(lo+n)-1-(lo+i)by lia]at y
 rwa[ka hz,ka hz,if_pos ⟨by lia,by lia⟩,if_pos ⟨by lia,by lia⟩]
noncomputable def Flat(R:au->Int)(xs:Array au)(lo m neq:Nat):Prop:=∀i,lo+m-(neq+1)<=i->i<lo+m->Kr R xs i=Kr R xs (lo+m-1)
theorem Flat.zero{m:Nat}:Flat R xs lo m 0:=λi a b=>by rw[show i=lo+m-1 by lia]
theorem Flat.more{m neq:Nat}(f:Flat R xs lo m neq)(z:Kr R xs (lo+m)=Kr R xs (lo+m-1)):Flat R xs lo (m+1) (neq+1):=λi a b=>by
 rw[show lo+(m+1)-1=lo+m by lia];by_cases c:i=lo+m
 ·rw[c]
 ·rw[z];exact f i (by lia) (by lia)
theorem kP{st:aZ}{n nrem:Nat}{β:Type}{mk:Nat->Nat->β}{Q:β->aZ->Prop}(hn:lo+nrem<=a₁.size)(h1:1<=n)(hnn:n<=nrem)(B0:SB κ p a₁ lo st)(S0:Dsc R (ag st) lo n)
  {body:Nat->β->StateT aZ Sem (ForInStep β)}
  (hb:∀x n neq t (Q':ForInStep β->aZ->Prop),SB κ p a₁ lo t->lo+n<a₁.size->1<=n ->
   (Kr R (ag t) (lo+n)<Kr R (ag t) (lo+n-1)->neq>0->Q' (.yield (mk (n+1) 0)) (setArr t (aN (ag t) (lo+n-(neq+1)) (lo+n) ((lo+n-(lo+n-(neq+1)))/2)))) ->
   (Kr R (ag t) (lo+n)<Kr R (ag t) (lo+n-1)->¬ neq>0->Q' (.yield (mk (n+1) 0)) t) ->
   (Kr R (ag t) (lo+n-1)<Kr R (ag t) (lo+n)->Q' (.done (mk n neq)) t) ->
   (Kr R (ag t) (lo+n)=Kr R (ag t) (lo+n-1)->Q' (.yield (mk (n+1) (neq+1))) t) ->
   wpS (ah prog w) A E s (body x (mk n neq)) Q' t)
  (h:∀m neq t,SB κ p a₁ lo t->n<=m->m<=nrem->Dsc R (ag t) lo m->neq+1<=m->Flat R (ag t) lo m neq->Q (mk m neq) t) :
  wpS (ah prog w) A E s (forIn [n:nrem] (mk n 0) body) Q st:=
 wpS_forRange (λx c t=>∃neq,c=mk x neq/\SB κ p a₁ lo t/\Dsc R (ag t) lo x/\neq+1<=x/\Flat R (ag t) lo x neq) (λx c t x1 x2 ⟨neq,e,B,S,q,f⟩=>by
   subst e;have hz:lo+x<=(ag t).size:=by rw[B.size];lia
   refine hb x x neq t _ B (by lia) (by lia) (λz _=>?_) (λz _=>?_) (λ_=>h x neq t B x1 (by lia) S q f) λz=>⟨neq+1,rfl,B,S.more λ_=>Int.le_of_eq z,by lia,f.more z⟩
   ·exact⟨0,rfl,B.mir (by lia) (by lia),(S.more λ_=>Int.le_of_lt z).alike (iU hz f),by lia,Flat.zero⟩
   ·exact⟨0,rfl,B,S.more λ_=>Int.le_of_lt z,by lia,Flat.zero⟩)
  (λc t ⟨neq,e,B,S,q,f⟩=>by
   subst e;rw[Nat.max_eq_right hnn]at S q f ⊢;exact h nrem neq t B hnn (aI _) S q f) ⟨0,rfl,B0,S0,by lia,Flat.zero⟩
theorem xE(C:Cmp prog w A s κ D LT)(K:Rk D LT R)(Da:∀x∈a₁.toList,D x){st:aZ}{nrem:Nat}{Q:Option Nat->aZ->Prop}(hn:lo+nrem<=a₁.size)(h1:1<=nrem)(hB:SB κ p a₁ lo st)
  (h:∀m st',SB κ p a₁ lo st'->1<=m->m<=nrem->Seg R (ag st') lo m->Q (some m) st') :
  wpS (ah prog w) A E s (countRun' lo nrem) Q st:=by
 rw[countRun'_eq];refine aE (g_ (R:=R) (mk:=λn=>(none,n)) hn (aI 1) h1 Seg.one ?_ ?_)
 ·intro x n Q' hl n1 q1 q2;dsimp only;refine aE (dq C K Da (hB) hl (by lia) ?_);cases z:decide (Kr R (ag st) (lo+n)<Kr R (ag st) (lo+n-1))with
  |true=>exact aQ (q1 (of_decide_eq_true z))
  |false=>exact aQ (q2 (of_decide_eq_false z))
 intro n n1 n2 S z;dsimp only;by_cases e:(n==nrem)=true
 ·rw[if_pos e];exact aQ (h n st hB n1 n2 S)
 rw[if_neg e];have e':n≠nrem:=by simpa using e
 have lt:=z e';have hz:lo+n<=(ag st).size:=by rw[hB.size];lia
 by_cases g:n>1
 ·rw[if_pos g];refine aE (dq C K Da hB (by lia) (by lia) ?_);cases y:decide (Kr R (ag st) lo<Kr R (ag st) (lo+n-1))with
  |true=>exact aQ (h n st hB n1 n2 S)
  |false=>
   have y':=of_decide_eq_false y;have f:∀k,lo<=k->k<lo+n->Kr R (ag st) k=Kr R (ag st) (lo+n-1):=λk a b=>by
    have b1:=S.at (i:=lo) (j:=k) (aI _) a b;have b2:=S.at (i:=k) (j:=lo+n-1) a (by lia) (by lia);lia
   dsimp only;rw[if_neg bY];refine aE (wpS_reverse ?_);have dB:SB κ p a₁ lo (setArr st (aN (ag st) lo (lo+n) ((lo+n-lo)/2))):=hB.mir (aI _) (by lia);have dS:Dsc R (ag (setArr st (aN (ag st) lo (lo+n) ((lo+n-lo)/2)))) lo (n+1):=Dsc.alike (xs:=ag st) (Dsc.more (λi j a b=>by rw[f (lo+i) (by lia) (by lia),f (lo+j) (by lia) (by lia)];exact Int.le_refl _) λ_=>Int.le_of_lt lt) (iU hz f);refine aE (wpS_lift (wpAny_rule ⟨rfl,?_⟩));refine aE (kP (mk:=λn q=>(none,n,q)) hn (by lia) (by lia) (dB) dS ?_ ?_)
   ·intro x n neq t Q' tB hl n1 q1 q2 q3 q4;dsimp only;refine aE (dq C K Da tB hl (by lia) ?_);cases z:decide (Kr R (ag t) (lo+n)<Kr R (ag t) (lo+n-1))with
    |true=>
     by_cases y:neq>0
     ·dsimp only;rw[if_pos rfl,if_pos y];exact aE (wpS_reverse (aQ (q1 (of_decide_eq_true z) y)))
     ·dsimp only;rw[if_pos rfl,if_neg y];exact aQ (q2 (of_decide_eq_true z) y)
    |false=>
     have z':=of_decide_eq_false z;refine aE (dq C K Da tB (by lia) hl ?_);cases y:decide (Kr R (ag t) (lo+n-1)<Kr R (ag t) (lo+n))with
     |true=>exact aQ (q3 (of_decide_eq_true y))
     |false=>
      have y':=of_decide_eq_false y;exact aQ (q4 (by lia))
   ·intro m neq t tB m1 m2 tS nm f;have hz:lo+m<=(ag t).size:=by rw[tB.size];lia
    dsimp only;by_cases y:neq>0
    ·rw[if_pos y];refine aE (wpS_reverse ?_);have MB:SB κ p a₁ lo (setArr t (aN (ag t) (lo+m-(neq+1)) (lo+m) ((lo+m-(lo+m-(neq+1)))/2))):=tB.mir (by lia) (by lia);have MS:Dsc R (ag (setArr t (aN (ag t) (lo+m-(neq+1)) (lo+m) ((lo+m-(lo+m-(neq+1)))/2)))) lo m:=tS.alike (iU hz f);refine aE (wpS_reverse ?_);have TB:SB κ p a₁ lo (setArr (setArr t (aN (ag t) (lo+m-(neq+1)) (lo+m) ((lo+m-(lo+m-(neq+1)))/2))) (aN (ag (setArr t (aN (ag t) (lo+m-(neq+1)) (lo+m) ((lo+m-(lo+m-(neq+1)))/2)))) lo (lo+m) ((lo+m-lo)/2))):=(MB).mir (aI _) (by lia);refine aE (g_ (R:=R) (mk:=λn=>(none,n)) hn (by lia) m2 (Dsc.turn (MS) (by show lo+m<=(ag (setArr t (aN (ag t) (lo+m-(neq+1)) (lo+m) ((lo+m-(lo+m-(neq+1)))/2)))).size;rw[(MB).size];lia)) ?_ ?_)
     ·intro x n Q' hl n1 q1 q2;dsimp only;refine aE (dq C K Da (TB) hl (by lia) ?_);cases z:decide (Kr R (ag (setArr (setArr t (aN (ag t) (lo+m-(neq+1)) (lo+m) ((lo+m-(lo+m-(neq+1)))/2))) (aN (ag (setArr t (aN (ag t) (lo+m-(neq+1)) (lo+m) ((lo+m-(lo+m-(neq+1)))/2)))) lo (lo+m) ((lo+m-lo)/2)))) (lo+n)<Kr R (ag (setArr (setArr t (aN (ag t) (lo+m-(neq+1)) (lo+m) ((lo+m-(lo+m-(neq+1)))/2))) (aN (ag (setArr t (aN (ag t) (lo+m-(neq+1)) (lo+m) ((lo+m-(lo+m-(neq+1)))/2)))) lo (lo+m) ((lo+m-lo)/2)))) (lo+n-1))with
      |true=>exact aQ (q1 (of_decide_eq_true z))
      |false=>exact aQ (q2 (of_decide_eq_false z))
     ·intro j j1 j2 j3 _;exact aQ (h j _ TB (by lia) j2 j3)
    ·rw[if_neg y];refine aE (wpS_reverse ?_);have TB:SB κ p a₁ lo (setArr t (aN (ag t) lo (lo+m) ((lo+m-lo)/2))):=(tB).mir (aI _) (by lia);refine aE (g_ (R:=R) (mk:=λn=>(none,n)) hn (by lia) m2 (Dsc.turn (tS) (by show lo+m<=(ag t).size;rw[(tB).size];lia)) ?_ ?_)
     ·intro x n Q' hl n1 q1 q2;dsimp only;refine aE (dq C K Da (TB) hl (by lia) ?_);cases z:decide (Kr R (ag (setArr t (aN (ag t) lo (lo+m) ((lo+m-lo)/2)))) (lo+n)<Kr R (ag (setArr t (aN (ag t) lo (lo+m) ((lo+m-lo)/2)))) (lo+n-1))with
      |true=>exact aQ (q1 (of_decide_eq_true z))
      |false=>exact aQ (q2 (of_decide_eq_false z))
     ·intro j j1 j2 j3 _;exact aQ (h j _ TB (by lia) j2 j3)
 ·rw[if_neg g];obtain rfl:n=1:=by lia
  have dS:Dsc R (ag st) lo (1+1):=Dsc.one.more λ_=>Int.le_of_lt lt
  refine aE (wpS_lift (wpAny_rule ⟨rfl,?_⟩));refine aE (kP (mk:=λn q=>(none,n,q)) hn (by lia) (by lia) (hB) dS ?_ ?_)
  ·intro x n neq t Q' tB hl n1 q1 q2 q3 q4;dsimp only;refine aE (dq C K Da tB hl (by lia) ?_);cases z:decide (Kr R (ag t) (lo+n)<Kr R (ag t) (lo+n-1))with
   |true=>
    by_cases y:neq>0
    ·dsimp only;rw[if_pos rfl,if_pos y];exact aE (wpS_reverse (aQ (q1 (of_decide_eq_true z) y)))
    ·dsimp only;rw[if_pos rfl,if_neg y];exact aQ (q2 (of_decide_eq_true z) y)
   |false=>
    have z':=of_decide_eq_false z;refine aE (dq C K Da tB (by lia) hl ?_);cases y:decide (Kr R (ag t) (lo+n-1)<Kr R (ag t) (lo+n))with
    |true=>exact aQ (q3 (of_decide_eq_true y))
    |false=>
     have y':=of_decide_eq_false y;exact aQ (q4 (by lia))
  ·intro m neq t tB m1 m2 tS nm f;have hz:lo+m<=(ag t).size:=by rw[tB.size];lia
   dsimp only;by_cases y:neq>0
   ·rw[if_pos y];refine aE (wpS_reverse ?_);have MB:SB κ p a₁ lo (setArr t (aN (ag t) (lo+m-(neq+1)) (lo+m) ((lo+m-(lo+m-(neq+1)))/2))):=tB.mir (by lia) (by lia);have MS:Dsc R (ag (setArr t (aN (ag t) (lo+m-(neq+1)) (lo+m) ((lo+m-(lo+m-(neq+1)))/2)))) lo m:=tS.alike (iU hz f);refine aE (wpS_reverse ?_);have TB:SB κ p a₁ lo (setArr (setArr t (aN (ag t) (lo+m-(neq+1)) (lo+m) ((lo+m-(lo+m-(neq+1)))/2))) (aN (ag (setArr t (aN (ag t) (lo+m-(neq+1)) (lo+m) ((lo+m-(lo+m-(neq+1)))/2)))) lo (lo+m) ((lo+m-lo)/2))):=(MB).mir (aI _) (by lia);refine aE (g_ (R:=R) (mk:=λn=>(none,n)) hn (by lia) m2 (Dsc.turn (MS) (by show lo+m<=(ag (setArr t (aN (ag t) (lo+m-(neq+1)) (lo+m) ((lo+m-(lo+m-(neq+1)))/2)))).size;rw[(MB).size];lia)) ?_ ?_)
    ·intro x n Q' hl n1 q1 q2;dsimp only;refine aE (dq C K Da (TB) hl (by lia) ?_);cases z:decide (Kr R (ag (setArr (setArr t (aN (ag t) (lo+m-(neq+1)) (lo+m) ((lo+m-(lo+m-(neq+1)))/2))) (aN (ag (setArr t (aN (ag t) (lo+m-(neq+1)) (lo+m) ((lo+m-(lo+m-(neq+1)))/2)))) lo (lo+m) ((lo+m-lo)/2)))) (lo+n)<Kr R (ag (setArr (setArr t (aN (ag t) (lo+m-(neq+1)) (lo+m) ((lo+m-(lo+m-(neq+1)))/2))) (aN (ag (setArr t (aN (ag t) (lo+m-(neq+1)) (lo+m) ((lo+m-(lo+m-(neq+1)))/2)))) lo (lo+m) ((lo+m-lo)/2)))) (lo+n-1))with
     |true=>exact aQ (q1 (of_decide_eq_true z))
     |false=>exact aQ (q2 (of_decide_eq_false z))
    ·intro j j1 j2 j3 _;exact aQ (h j _ TB (by lia) j2 j3)
   ·rw[if_neg y];refine aE (wpS_reverse ?_);have TB:SB κ p a₁ lo (setArr t (aN (ag t) lo (lo+m) ((lo+m-lo)/2))):=(tB).mir (aI _) (by lia);refine aE (g_ (R:=R) (mk:=λn=>(none,n)) hn (by lia) m2 (Dsc.turn (tS) (by show lo+m<=(ag t).size;rw[(tB).size];lia)) ?_ ?_)
    ·intro x n Q' hl n1 q1 q2;dsimp only;refine aE (dq C K Da (TB) hl (by lia) ?_);cases z:decide (Kr R (ag (setArr t (aN (ag t) lo (lo+m) ((lo+m-lo)/2)))) (lo+n)<Kr R (ag (setArr t (aN (ag t) lo (lo+m) ((lo+m-lo)/2)))) (lo+n-1))with
     |true=>exact aQ (q1 (of_decide_eq_true z))
     |false=>exact aQ (q2 (of_decide_eq_false z))
    ·intro j j1 j2 j3 _;exact aQ (h j _ TB (by lia) j2 j3)
end
section
variable{prog:aw}{w:av}{A:ay}{E:ae->af->Prop}{s:af}{κ:SortKind}{D:au->Prop}{LT:au->au->Bool}{R:au->Int}{a₁:Array au}
structure Rdy(R:au->Int)(a₁:Array au)(st:aZ):Prop where
 pm:(ag st).Perm a₁
 fl:failedOf st=none
 sg:Seg R (ag st) 0 a₁.size
 pn:(pendingOf st).size<=1
theorem SB.rdy{st:aZ}(B:SB κ #[] a₁ 0 st)(S:Seg R (ag st) 0 a₁.size):Rdy R a₁ (setPending st ((pendingOf st).push (0,a₁.size,0))):=
 ⟨B.pm,B.fl,S,by show ((pendingOf st).push _).size<=1;rw[B.pn];exact aI 1⟩
theorem AO(C:Cmp prog w A s κ D LT)(K:Rk D LT R)(Da:∀x∈a₁.toList,D x){st:aZ}{Q:Unit->aZ->Prop}(hk:kindOf st=κ)(hf:failedOf st=none)(hp:pendingOf st = #[])(ha:ag st=a₁)(h2:2<=a₁.size)(h64:a₁.size<64)
  (h:∀st',(ag st').Perm a₁->failedOf st'=none->Seg R (ag st') 0 a₁.size->Q () st'):wpS (ah prog w) A E s sortRuns' Q st:=by
 have B0:SB κ #[] a₁ 0 st:=⟨hk,hf,hp,by rw[ha],λ_ _=>by rw[ha]⟩
 rw[sortRuns'_eq];refine aE (wpS_get ?_);dsimp only;rw[ha];have mr:minRun' a₁.size a₁.size 0=a₁.size:=by
  cases e:a₁.size with
  |zero=>lia
  |succ f=>rw[minRun'_succ,if_pos (by lia),Nat.add_zero]
 rw[mr];refine aE (wpS_mono (wpS_forRange
  (I:=λx c st'=>(c=(none,0)/\x=0/\SB κ #[] a₁ 0 st')\/(c=(none,a₁.size)/\Rdy R a₁ st'))
  (Q:=λc st'=>c=(none,a₁.size)/\Rdy R a₁ st') ?step ?fin (.inl ⟨rfl,rfl,B0⟩)) ?post)
 case fin=>
  rintro c st' (⟨_,hx,_⟩|q)
  ·lia
  ·exact q
 case step=>
  rintro x c st' _ hx (⟨rfl,rfl,B⟩|⟨rfl,q⟩)
  ·dsimp only;rw[if_neg (by lia)];refine aE (xE C K Da (by lia) (by lia) B λm st2 B2 m1 m2 S2=>?_);dsimp only;by_cases e3:m<a₁.size
   ·rw[if_pos e3];refine aE (wpS_lift (wpAny_rule ⟨rfl,?_⟩));refine aE (wd C K Da (by lia) (by lia) B2 S2 λst3 B3 S3=>?_);simp only[Bool.not_true,bI,if_false];refine aE (wpS_get ?_);rw[show (pendingOf st3).back? = none by rw[B3.pn];rfl];dsimp only;have e:min (a₁.size-0) a₁.size=a₁.size:=by lia
    rw[e]at S3 ⊢;exact aE (wpS_modify (aQ (.inr ⟨by rw[Nat.zero_add],B3.rdy S3⟩)))
   ·rw[if_neg e3];have e:m=a₁.size:=by lia
    subst e;refine aE (wpS_get ?_);rw[show (pendingOf st2).back? = none by rw[B2.pn];rfl];dsimp only;exact aE (wpS_modify (aQ (.inr ⟨by rw[Nat.zero_add],B2.rdy S2⟩)))
  ·dsimp only;rw[if_pos (by lia)];exact aQ ⟨rfl,q⟩
 case post=>
  rintro c st' ⟨rfl,H⟩;dsimp only;refine aE (wpS_mono (wpS_forRange (I:=λx c st''=>c=(none,())/\Rdy R a₁ st'')
   (Q:=λc st''=>c=(none,())/\Rdy R a₁ st'') ?_ (λ_ _ q=>q) ⟨rfl,H⟩) ?_)
  ·rintro x c st3 _ hx ⟨rfl,H3⟩;refine aE (wpS_get ?_);rw[if_pos H3.pn];exact aQ ⟨rfl,H3⟩
  ·rintro c st3 ⟨rfl,H3⟩;exact aQ (h st3 H3.pm H3.fl H3.sg)
end
theorem o7{α:Type}{p q:α->Bool}{a:α}:∀{l:List α},(∀x∈l,p x=true->q x=true)->a∈l->p a=false->q a=true->l.countP p<l.countP q
 | [],_,h,_,_=>nomatch h
 |x::l,hi,h,h1,h2=>by
  rw[List.countP_cons,List.countP_cons];have le:=List.countP_mono_left (l:=l) (p:=p) (q:=q) λy hy=>hi y (aP _ hy)
  rcases aL.mp h with e|h
  ·subst e;rw[h1,h2];simp only[bI,if_false,if_true];lia
  ·have:=o7 (λy hy=>hi y (aP _ hy)) h h1 h2;have:=hi x aR;cases e:p x with
   |true=>rw[this e];simp only[if_true];lia
   |false=>simp only[bI,if_false];split<;>lia
noncomputable def iZ(LT:au->au->Bool)(l:List au)(x:au):Int:=(l.countP λz=>LT z x:Nat)
theorem Wo.rank{LT:au->au->Bool}(W:Wo LT)(l:List au):Rk (·∈l) LT (iZ LT l):=⟨λx y hx hy=>by
 unfold iZ;cases e:LT x y with
 |true=>
  have:=o7 (p:=λz=>LT z x) (q:=λz=>LT z y) (a:=x) (λz _ q=>W.lt_le (x:=z) (y:=x) (z:=y) q (W.asym x y e)) hx (W.irr x) e;exact(decide_eq_true (by lia)).symm
 |false=>
  have:=List.countP_mono_left (l:=l) (p:=λz=>LT z y) (q:=λz=>LT z x) λz _ q=>W.lt_le (x:=z) (y:=y) (z:=x) q e
  exact(decide_eq_false (by lia)).symm⟩
noncomputable def ltL:List Int->List Int->Bool
 | [],[]=>false
 | [],_::_=>true
 |_::_,[]=>false
 |a::x,b::y=>if a=b then ltL x y else decide (a<b)
theorem h_:∀{x y:List Int},ltL x y=true->ltL y x=false
 | [],[],h=>nomatch h
 | [],_::_,_=>rfl
 |_::_,[],h=>nomatch h
 |a::x,b::y,h=>by
  unfold ltL at h ⊢;by_cases e:a=b
  ·rw[if_pos e]at h;rw[if_pos e.symm];exact h_ h
  ·rw[if_neg e]at h;have:=of_decide_eq_true h;rw[if_neg (λz=>e z.symm)];exact decide_eq_false (by lia)
theorem gY:∀{x y z:List Int},ltL y x=false->ltL z y=false->ltL z x=false
 | [],_,[],_,_=>rfl
 |_::_,[],[],h,_=>nomatch h
 |_::_,_::_,[],_,h=>nomatch h
 | [],_,_::_,_,_=>rfl
 |_::_,[],_::_,h,_=>nomatch h
 |a::x,b::y,c::z,h1,h2=>by
  unfold ltL at h1 h2 ⊢;by_cases e1:b=a
  ·rw[if_pos e1]at h1;by_cases e2:c=b
   ·rw[if_pos e2]at h2;rw[if_pos (e2.trans e1)];exact gY h1 h2
   ·rw[if_neg e2]at h2;have:=of_decide_eq_false h2;rw[if_neg (λq=>e2 (q.trans e1.symm))];exact decide_eq_false (by lia)
  ·rw[if_neg e1]at h1;have q1:=of_decide_eq_false h1;by_cases e2:c=b
   ·rw[if_neg (λq=>e1 (e2.symm.trans q))];exact decide_eq_false (by lia)
   ·rw[if_neg e2]at h2;have q2:=of_decide_eq_false h2;rw[if_neg (by lia)];exact decide_eq_false (by lia)
theorem rN(f:au->List Int):Wo λx y=>ltL (f x) (f y):=⟨λ_ _ h=>h_ h,λ_ _ _ h1 h2=>gY h1 h2⟩
theorem oH:∀{x y:List Int},ltL x y=false->ltL y x=false->x=y
 | [],[],_,_=>rfl
 | [],_::_,h,_=>nomatch h
 |_::_,[],_,h=>nomatch h
 |a::x,b::y,h1,h2=>by
  unfold ltL at h1 h2;by_cases e:a=b
  ·rw[if_pos e]at h1;rw[if_pos e.symm]at h2;rw[e,oH h1 h2]
  ·rw[if_neg e]at h1;rw[if_neg (λz=>e z.symm)]at h2;have:=of_decide_eq_false h1;have:=of_decide_eq_false h2;lia
theorem og:∀x y:List Int,ltL x y=HT.lexLt x y
 | [],[]=>(HT.kU).symm
 | [],_::_=>(HT.mB ..).symm
 |_::_,[]=>(HT.nI ..).symm
 |a::x,b::y=>by
  rw[HT.kO,<-og x y]
  rfl
section
variable{prog:aw}{w:av}{A:ay}{E:ae->af->Prop}{s:af}
theorem tm{l b:Addr}{items items2:Array ae}{ns ms:List Int}{Q:Bool->af->Prop}(hl:IsTup s.heap l items)(hb:IsTup s.heap b items2)(hi:aY items.toList ns)(hj:aY items2.toList ms)
  (hu:A.units<cLine) (h:Q (ltL ns ms) s):ak (ah prog w) A (oneLt' true (.ref l) (.ref b)) Q E s:=by
 obtain⟨⟨c1,d1,a1,s1⟩,ho,hc,n,hd⟩:=id hl;obtain⟨⟨c2,d2,a2,s2⟩,ho2,hc2,n2,hd2⟩:=id hb;simp only at hc hd hc2 hd2;subst hc hd hc2 hd2;rw[og]at h;rw[oneLt'_eq];simp only[if_true];refine ao (wpAny_cRoomFor hu ?_);refine ao (wpAny_callSpecialIfBound?_slot ⟨_,ho,rfl⟩ PySem.F.slot_tuple_lt (call_meets PySem.F.slot_tuple_lt ⟨_,ho,rfl⟩ PySem.F.entry_tuple_lt (PySem.F.args_tuple_lt_2 _ _) (HT.mS l b items items2 n n2 d1 d2 s1 s2 ns ms hi hj) ⟨ho,ho2,?_⟩));exact bB h
end
end TS
namespace TS
open PySem PySem.W PyProof.Rows
noncomputable def TupAt(h:Heap)(v:ae)(ns:List Int):Prop:=∃a o items n,v=.ref a/\h.get? a=some o/\o.cls=.type "tuple"/\o.data=.seq items n/\aY items.toList ns
inductive bU(h:Heap):List ae->List (List Int)->Prop
 |nil:bU h [] []
 |cons {v:ae}{vs:List ae}{k:List Int}{ks:List (List Int)}:TupAt h v k->bU h vs ks->bU h (v::vs) (k::ks)
theorem bU.mem{h:Heap}{vs:List ae}{ks:List (List Int)}(t:bU h vs ks):∀v∈vs,∃k,TupAt h v k:=by
 induction t with
 |nil=>intro v hv;cases hv
 |cons a t ih=>
  intro v hv;rcases aL.mp hv with e|hv
  ·subst e;exact⟨_,a⟩
  ·exact ih v hv
section
variable{M:Model}{A:ay}{E:ae->af->Prop}{s:af}
theorem lV{h:Heap}{v:ae}{k:List Int}(t:TupAt h v k):Looks M h (typeOf v) (.type "tuple"):=by
 obtain⟨a,o,items,n,rfl,ho,hc,_⟩:=t;have:Looks M h (typeOf (.ref a)) o.cls:=(Looks.ld ho).andThen .now
 rwa[hc]at this
theorem yT{vs:List ae}{ks:List (List Int)}(t:bU s.heap vs ks):∀{Q:List (Option ae)->af->Prop},(∀os:List (Option ae),os.map Option.isSome=ks.map (λk=>!k.isEmpty)->Q os s)->ak M A (vs.mapM firstOfTuple') Q E s:=by
 induction t with
 |nil=>intro Q h;rw[List.mapM_nil];exact aC (h [] rfl)
 | @cons v vs k ks a t ih=>
  intro Q h;rw[List.mapM_cons];refine ao ?_;rw[kas_first_eq];refine ao ((lV a).here ?_);rw[if_neg (by first|decide|simp)];obtain⟨b,o,items,n,rfl,ho,hc,hd,hi⟩:=a;refine ao (listItems_at ho hd (aC (ao (ih λos e=>aC (h _ ?_)))));rw[aU,e,aU]
  congr 1
  obtain⟨l⟩:=items;cases hi with
  |nil=>rfl
  |cons _ _ _=>rfl
theorem t5{vs:List ae}{ks:List (List Int)}{Q:SortKind->af->Prop}(t:bU s.heap vs ([]::ks))(h:Q oneType' s):ak M A (keyKind' vs.toArray) Q E s:=by
 rw[keyKind'_eq,List.mapM_toArray,map_eq_pure_bind];refine ao (ao (yT t λos e=>aC ?_));obtain⟨o,os',rfl,eo⟩:∃o os',os=o::os'/\o.isSome=false:=by
  cases os with
  |nil=>cases e
  |cons o os'=>rw[aU,aU]at e;exact⟨o,os',rfl,(List.cons.inj e).1⟩
 obtain rfl:o=none:=by cases o with
  |none=>rfl
  |some _=>cases eo
 rw[if_neg (by simp),if_neg (by simp),oneTypeOnly'_eq,List.mapM_toArray,map_eq_pure_bind];refine ao (ao (ao (kas_mapM (r:=ae.type "tuple") _ (λv hv Q' hq=>by obtain⟨k,a⟩:=t.mem v hv;exact(lV a).here hq) (aC ?_))));have e0:(List.map (λ_=>ae.type "tuple") vs).toArray[0]? = some (ae.type "tuple"):=by
  cases t with
  |cons a t=>simp
 have e1:((List.map (λ_=>ae.type "tuple") vs).toArray.all λx=>x==ae.type "tuple")=true:=by
  simp only[List.all_toArray,List.all_map,cY];intro _ _
  rfl
 rw[e0];simp only[e1,if_true];exact aC (aC h)
end
section
variable{M:Model}{A:ay}{E:ae->af->Prop}{s:af}
theorem bU.firsts{h:Heap}{vs:List ae}{ks:List (List Int)}(t:bU h vs ks)(hne:∀k∈ks,k≠[]):∃fs,KatTups h vs fs/\fs.length=vs.length/\∀v∈fs,∃i t,v=ae.int i t:=by
 induction t with
 |nil=>exact⟨[],trivial,rfl,λ_ h=>nomatch h⟩
 | @cons v vs k ks a t ih=>
  obtain⟨fs,k1,k2,k3⟩:=ih λk hk=>hne k (aP _ hk)
  obtain⟨b,o,items,n,rfl,ho,hc,hd,hi⟩:=a;obtain⟨l⟩:=items;cases hi with
  |nil=>exact absurd rfl (hne [] aR)
  |cons i t _=>exact⟨.int i t::fs,KatTups.cons ho hc hd rfl k1,by simp[k2],λw hw=>(aL.mp hw).elim (λz=>⟨i,t,z⟩) (k3 w)⟩
theorem kind_all{vs:List ae}{ks:List (List Int)}{Q:SortKind->af->Prop}(t:bU s.heap vs ks)(h1:0<vs.length)(hne:∀k∈ks,k≠[])(h:Q (tuples' true) s):ak M A (keyKind' vs.toArray) Q E s:=by
 obtain⟨fs,k1,k2,k3⟩:=t.firsts hne;refine kat_kind (T:=.type "int") (fs:=fs) k1 (by lia) (λv hv=>?_) (by decide) ?_
 ·obtain⟨i,t,rfl⟩:=k3 v hv;exact Looks.of_pure rfl
 ·have hb:((ae.type "int") != ae.type "tuple")=true:=by decide
  rw[hb];exact h
theorem l9{prog:aw}{w:av}{Q:Bool->af->Prop}{fin:Bool}:∀{xs ys:List ae}{ns ms:List Int} (i:Nat),aY xs ns->aY ys ms->fin=decide (xs.length<ys.length)->Q (ltL ns ms) s->KatLex prog w A true fin Q (xs.zip ys) i s
 |_,_,_,_,i,.nil,.nil,hf,h=>kat_nil (by rw[hf];exact h)
 |_,_,_,_,i,.nil,.cons _ _ _,hf,h=>kat_nil (by rw[hf];exact h)
 |_,_,_,_,i,.cons _ _ _,.nil,hf,h=>kat_nil (by rw[hf];exact h)
 |_,_,_,_,i,.cons (vs:=xs) (ns:=ns) a t hx,.cons (vs:=ys) (ns:=ms) b u hy,hf,h=>by
  rw[List.zip_cons_cons];refine kat_cons (SeqAt.EqAt.int_int _ _ _ _ prog w _ _ ?_);unfold ltL at h;by_cases hc:a=b
  ·rw[if_pos hc]at h;rw[show (a==b)=true by simp[hc]];exact kat_yes (l9 (i+1) hx hy (by rw[hf];simp) h)
  ·rw[if_neg hc]at h;rw[show (a==b)=false by simp[hc]];refine kat_no ?_;cases i with
   |zero=>exact oneLt_int h
   |succ i=>exact kat_one _ _ (lt_int h)
end
noncomputable def cy(h:Heap)(x:au):List Int:=open Classical in if z:∃k,TupAt h x.1 k then z.choose else []
theorem TupAt.keep{h h':Heap}(k:∀b o,h.get? b=some o->h'.get? b=some o){v:ae}{ns:List Int}(t:TupAt h v ns):TupAt h' v ns:=by
 obtain⟨a,o,its,n,e1,e2,e3⟩:=t;exact⟨a,o,its,n,e1,k _ _ e2,e3⟩
theorem bU.keep{h h':Heap}(k:∀b o,h.get? b=some o->h'.get? b=some o){vs:List ae}{ks:List (List Int)}(t:bU h vs ks):bU h' vs ks:=by
 induction t with
 |nil=>exact .nil
 |cons a _ ih=>exact .cons (a.keep k) ih
theorem gU{h:Heap}{x:au}(z:∃k,TupAt h x.1 k):TupAt h x.1 (cy h x):=by
 unfold cy;rw[dif_pos z];exact z.choose_spec
theorem pV{prog:aw}{w:av}{A:ay}{s:af}{h0:Heap}{l:List au}(hk:∀b o,h0.get? b=some o->s.heap.get? b=some o)(hl:∀x∈l,∃k,TupAt h0 x.1 k)(hu:A.units<cLine):Cmp prog w A s oneType' (·∈l) (λx y=>ltL (cy h0 x) (cy h0 y)):=
 ⟨λx y hx hy Q h=>by
  obtain⟨a,o,its,n,e1,e2,e3,e4,e5⟩:=(gU (hl x hx)).keep hk;obtain⟨a',o',its',n',f1,f2,f3,f4,f5⟩:=(gU (hl y hy)).keep hk;rw[keyLt'_oneType,e1,f1];exact tm ⟨o,e2,e3,n,e4⟩ ⟨o',f2,f3,n',f4⟩ e5 f5 hu h,
  λ_ _ h=>h_ h,λ_ _ _ h1 h2=>gY h1 h2⟩
theorem Ai{prog:aw}{w:av}{A:ay}{s:af}{h0:Heap}{l:List au}(hk:∀b o,h0.get? b=some o->s.heap.get? b=some o)(hl:∀x∈l,∃k,TupAt h0 x.1 k):Cmp prog w A s (tuples' true) (·∈l) (λx y=>ltL (cy h0 x) (cy h0 y)):=
 ⟨λx y hx hy Q h=>by
  obtain⟨a,o,its,n,e1,e2,e3,e4,e5⟩:=(gU (hl x hx)).keep hk;obtain⟨a',o',its',n',f1,f2,f3,f4,f5⟩:=(gU (hl y hy)).keep hk;rw[e1,f1];refine kat_lt e2 e4 f2 f4 (l9 0 e5 f5 ?_ h);rw[dv,dv],
  λ_ _ h=>h_ h,λ_ _ _ h1 h2=>gY h1 h2⟩
theorem kJ{h:Heap}:∀(l:List au),(∀x∈l,x.1=x.2/\∃k,TupAt h x.1 k)->bU h (l.map (·.2)) (l.map (cy h))
 | [],_=>.nil
 |x::l,z=>.cons (by have:=z x aR;show TupAt h x.2 _;rw[<-this.1];exact gU this.2) (kJ l λy hy=>z y (aP _ hy))
theorem x9{LT:au->au->Bool}{R:au->Int}{a:Array au}(S:Seg R a 0 a.size)(K:∀x∈a.toList,∀y∈a.toList,LT x y=decide (R x<R y)):a.toList.Pairwise λx y=>LT y x=false:=by
 rw[List.pairwise_iff_getElem];intro i j hi hj hij;rw[K _ (List.getElem_mem hj) _ (List.getElem_mem hi)];rw[dv]at hi hj;have:=S i j (by lia) hj;unfold Kr at this;have e1:=gZ hi;have e2:=gZ hj;rw[Array.getElem?_eq_getElem hi]at e1;rw[Array.getElem?_eq_getElem hj]at e2;injection e1 with e1
 injection e2 with e2
 rw[Nat.zero_add,Nat.zero_add,<-e1,<-e2]at this;rw[Array.getElem_toList,Array.getElem_toList];exact decide_eq_false (by lia)
section
variable{prog:aw}{w:av}{A:ay}{E:ae->af->Prop}{s:af}
theorem tF{h0:Heap}{a:Addr}{vs:List ae}{ks:List (List Int)}{P:Fin->af->Prop}(hoL:s.heap.get? a=some (aD "list" vs.toArray 0))(keep:∀b o,h0.get? b=some o->s.heap.get? b=some o)(hap:∀b o,h0.get? b=some o->b≠a)(h2:2<=vs.length)(h64:vs.length<64)(hz:vs.length<=aH)(t:bU h0 vs ks)(hed:ks.head? = some []\/∀k∈ks,k≠[])(hu:A.units<cLine)
  (h:∀(out:List ae) (ks':List (List Int)),out.Perm vs->bU h0 out ks'->ks'.Pairwise (λa b=>ltL b a=false)->P (.done (.ret .none)) {s with heap:=sortedHeap s.heap a vs out.toArray}) :
  ak (ah prog w) A (Builtin.«list.sort» ⟨[.ref a],[]⟩) P E s:=by
 rw[list_sort_plain];refine ao (listItems_at  hoL rfl ?_);refine ao (listUpdate_at  hoL rfl ?_ (by rw[aW];exact hz) (bM _));obtain⟨e1,ho1⟩:∃e1,(s.heap.update a (a7 λ_=>#[])).get? a=some (aD "list" #[] e1):=⟨_,get?_update_seq hoL (λ_=>#[])⟩
 refine ao (seqEpoch_at ho1 rfl ?_);refine ao (wpAny_newTuple ?_ (by show vs.length<=_;exact hz));refine ao (wpAny_newList ?_ (bM _));refine cq ?_;have hlt:a<s.heap.objs.size:=aJ hoL;have k6:∀b o,h0.get? b=some o->(((s.heap.update a (a7 λ_=>#[])).push (aD "tuple" vs.toArray 0)).push (aD "list" #[] 0)).get? b=some o:=λb o q=>
  Heap.get?_push_of_some _ (Heap.get?_push_of_some _ (by rw[Heap.get?_update_ne _ _ _ _ (hap b o q)];exact keep b o q))
 have ho6:(((s.heap.update a (a7 λ_=>#[])).push (aD "tuple" vs.toArray 0)).push (aD "list" #[] 0)).get? a=some (aD "list" #[] e1):=Heap.get?_push_of_some _ (Heap.get?_push_of_some _ ho1);show ak (ah prog w) _ _ _ _ {s with heap:=((s.heap.update a (a7 λ_=>#[])).push (aD "tuple" vs.toArray 0)).push (aD "list" #[] 0)};dsimp only;have h2':¬ vs.toArray.size<2:=by rw[aW];lia
 rw[if_neg h2',if_neg h2'];have pz:(vs.toArray.zip vs.toArray)=pairsOf vs:=rfl;have hx:∀x∈(pairsOf vs).toList,x.1=x.2/\∃k,TupAt h0 x.1 k:=λx hx=>by
  rw[pairsOf_toList]at hx;obtain⟨b1,b2⟩:=mem_zip_self hx;exact⟨b1,t.mem _ b2⟩
 obtain⟨κ,kk,C⟩:∃κ,(∀Q:SortKind->af->Prop,Q κ {s with heap:=((s.heap.update a (a7 λ_=>#[])).push (aD "tuple" vs.toArray 0)).push (aD "list" #[] 0)}->ak (ah prog w) A (keyKind' vs.toArray) Q E {s with heap:=((s.heap.update a (a7 λ_=>#[])).push (aD "tuple" vs.toArray 0)).push (aD "list" #[] 0)})/\Cmp prog w A {s with heap:=((s.heap.update a (a7 λ_=>#[])).push (aD "tuple" vs.toArray 0)).push (aD "list" #[] 0)} κ (·∈(pairsOf vs).toList) (λx y=>ltL (cy h0 x) (cy h0 y)):=by
  rcases hed with hh|hh
  ·refine⟨oneType',λQ q=>?_,pV k6 (λx z=>(hx x z).2) hu⟩;cases ks with
   |nil=>cases hh
   |cons k ks=>
    cases hh;exact t5 (t.keep k6) q
  ·exact⟨tuples' true,λQ q=>kind_all (t.keep k6) (by lia) hh q,Ai k6 λx z=>(hx x z).2⟩
 refine ao (kk _ ?_);have K:=(rN (cy h0)).rank (pairsOf vs).toList;refine ao (bC (AO (Q:=λ_ st'=>(ag st').Perm (pairsOf vs)/\failedOf st'=none/\Seg (iZ (λx y=>ltL (cy h0 x) (cy h0 y)) (pairsOf vs).toList) (ag st') 0 (pairsOf vs).size) C K (λ_ z=>z) rfl rfl rfl rfl (by rw[pairsOf_size];exact h2) (by rw[pairsOf_size];exact h64) λst' z1 z2 z3=>⟨z1,z2,z3⟩) ?_ λ_ _ e=>e);rintro⟨⟨⟩,st'⟩ s' ⟨rfl,pm,fl,sg⟩;dsimp only;have pl:=Array.perm_iff_toList_perm.mp pm;have om:((ag st').map (·.2))=((ag st').toList.map (·.2)).toArray:=by
  generalize ag st'=z;apply Array.toList_inj.mp;rw[Array.toList_map]
 have op:((ag st').toList.map (·.2)).Perm vs:=by
  have:=pl.map (·.2)
  rwa[pairsOf_toList,List.map_snd_zip (aI _)]at this
 have ht:=kJ (ag st').toList λx z=>hx x (pl.mem_iff.mp z)
 have hs:=x9 (LT:=λx y=>ltL (cy h0 x) (cy h0 y)) (R:=iZ (λx y=>ltL (cy h0 x) (cy h0 y)) (pairsOf vs).toList) (a:=ag st') (by rw[pm.size_eq];exact sg) λx z1 y z2=>K.rk x y (pl.mem_iff.mp z1) (pl.mem_iff.mp z2)
 have fin:=h _ _ op ht (by rw[List.pairwise_map];exact hs);refine ao (seqEpoch_at ho6 rfl ?_);refine ao (listUpdate_at ho6 rfl ?_ (bM _) (by rw[om,aW,op.length_eq];lia));rw[fl];simp only[bne_self_eq_false,bI,if_false];refine aC ?_;rw[om];exact fin
theorem xA{l:Addr}{vs:List ae}{ks:List (List Int)}{Q:ae->af->Prop}(hl:s.heap.IsList l vs.toArray)(h2:2<=vs.length)(h64:vs.length<64)(hz:vs.length<=aH)(t:bU s.heap vs ks)(hed:ks.head? = some []\/∀k∈ks,k≠[])(hu:A.in1.in1.units<cLine)
  (h:∀(out:List ae) (ks':List (List Int)),out.Perm vs->bU s.heap out ks'->ks'.Pairwise (λa b=>ltL b a=false)->Q (.ref (s.heap.objs.size+1)) {s with heap:=sortedAll s.heap vs out.toArray}) :
  ak (ah prog w) A (call (.builtin "sorted") [.ref l]) Q E s:=by
 refine Calls.call_function_entry kind_sorted plain_sorted entry_sorted (args_sorted1 _) ?_;unfold Builtin.«sorted»;refine ao (m:=checkCount "sorted" 1 1 _) (aC ?_);refine ao (collect_list hl ?_ hz);refine ao (wpAny_newList ?_ hz);have hsz:((s.heap.push (aD "list" #[] 0)).update s.heap.objs.size (a7 (· ++ vs.toArray))).objs.size=s.heap.objs.size+1:=by rw[Heap.size_update,size_push']
 have hoL:(((s.heap.push (aD "list" #[] 0)).update s.heap.objs.size (a7 (· ++ vs.toArray))).push (aD "list" vs.toArray 0)).get? (s.heap.objs.size+1)=some (aD "list" vs.toArray 0):=by rw[<-hsz];exact Heap.get?_push_size _ rfl
 have keep:∀b o,s.heap.get? b=some o->(((s.heap.push (aD "list" #[] 0)).update s.heap.objs.size (a7 (· ++ vs.toArray))).push (aD "list" vs.toArray 0)).get? b=some o:=λb o q=>by
  have hlt:b<s.heap.objs.size:=aJ q;rw[Heap.get?_push_ne _ _ _ (by rw[hsz];exact aX (cJ hlt)),Heap.get?_update_ne _ _ _ _ (aX hlt),Heap.get?_push_ne _ _ _ (aX hlt)];exact q
 show ak _ _ _ _ _ {s with heap:=((s.heap.push (aD "list" #[] 0)).update s.heap.objs.size (a7 (· ++ vs.toArray))).push (aD "list" vs.toArray 0)};rw[hsz];refine ao (cq (wpAny_call_entry slot_list_sort ⟨_,hoL,rfl⟩ entry_list_sort ?body (args_list_sort _)))
 case body=>
  have hap:∀b o,s.heap.get? b=some o->b≠s.heap.objs.size+1:=λb o q=>aX (cJ (aJ q))
  refine tF (h0:=s.heap) hoL keep hap h2 h64 hz t hed hu λout ks' a1 a2 a3=>⟨_,rfl,aC ⟨_,rfl,h out ks' a1 a2 a3⟩⟩
end
end TS
namespace L2
open PySem PySem.Spec PyProof.Rows TS
theorem o5:∀{vs:List ae}{a b:List Int},aY vs a->aY vs b->a=b
 |_,_,_,.nil,.nil=>rfl
 |_,_,_,.cons n t h,h'=>by
  cases h' with
  |cons n' t' h''=>rw[o5 h h'']
theorem lO{h:Heap}{v:ae}{a b:List Int}(x:TupAt h v a)(y:TupAt h v b):a=b:=by
 obtain⟨p,o,its,n,rfl,e2,_,e4,e5⟩:=x;obtain⟨p',o',its',n',f1,f2,_,f4,f5⟩:=y;cases f1;rw[e2]at f2;cases f2;rw[e4]at f4;cases f4;exact o5 e5 f5
theorem kj{h:Heap}{f:Addr->List Int}:∀(ps:List Addr),(∀p∈ps,TupAt h (.ref p) (f p))->bU h (ps.map a8) (ps.map f)
 | [],_=>.nil
 |p::ps,z=>.cons (z p aR) (kj ps λq hq=>z q (aP _ hq))
theorem yv{h:Heap}{vs:List ae}{a b:List (List Int)}(x:bU h vs a)(y:bU h vs b):a=b:=by
 induction x generalizing b with
 |nil=>cases y;rfl
 |cons t _ ih=>
  cases y with
  |cons t' y'=>rw[lO t t',ih y']
theorem uI{ps:List Addr}:∀{us:List ae},Vals (ps.map V.ref) us->us=ps.map ae.ref:=by
 induction ps with
 |nil=>intro us r;cases r;rfl
 |cons p ps ih=>
  intro us r;cases r with
  |cons h t=>rw[ih t,show _=a8 p from h];rfl
theorem mi:∀(ps:List Addr),Vals (ps.map V.ref) (ps.map a8)
 | []=>.nil
 |p::ps=>.cons rfl (mi ps)
noncomputable def eZ:ae->Addr
 | .ref a=>a
 |_=>0
noncomputable def sG(K:ar):List V->Hp->VK->Prop:=λvs H Q=>∃(l:Addr) (p:Addr) (ps:List Addr) (f:Addr->List Int),vs=[.ref l]/\SqL K H l ((p::ps).map V.ref)/\ps≠[]/\ps.length+1<64/\(f p=[]\/∀q∈p::ps,f q≠[]) /\
 (∀q∈p::ps,SqT K H q ((f q).map V.int))/\∀(D:Addr) (qs:List Addr),H D=none->qs.Perm (p::ps)->(qs.map f).Pairwise (λa b=>ltL b a=false)->Q (.ref D) (upd H D (.lst (qs.map V.ref)))
theorem tW{X:Cx}(hu:X.A.in1.in1.units<cLine):zh X (.builtin "sorted") (sG X.K):=by
 intro pins s σ H xs us Q I r h;obtain⟨l,p,ps,f,rfl,hl,hne,h64,hf,hp,q⟩:=h;obtain⟨u,rfl,ru⟩:=r.one;cases ru;obtain⟨its,rv,pl,hz⟩:=I.list hl;have ei:=uI rv;subst ei;have tp:∀z∈p::ps,TupAt s.heap (.ref z) (f z):=λz hz=>by
  obtain⟨its,r2,⟨o,e1,e2,n,e3⟩,_⟩:=I.tuple (hp z hz);exact⟨z,o,its.toArray,n,rfl,e1,e2,e3,by simpa using intsAre_of r2⟩
 have t:=kj (p::ps) tp;have hz':((p::ps).map a8).length<=sizeLine:=by simpa using hz
 refine xA pl.isList (by cases ps with
  |nil=>exact absurd rfl hne
  |cons _ _=>simp) (by simpa using h64) hz' t (by
   rcases hf with hf|hf
   ·left;rw[aU,hf];rfl
   ·right;intro k hk;obtain⟨q,hq,rfl⟩:=bg.mp hk;exact hf q hq) hu λout ks' op ot os=>?_
 have eo:out=(out.map eZ).map ae.ref:=by
  rw[bE]
  conv=>lhs;rw[<-List.map_id out]
  refine List.map_congr_left λv hv=>?_
  obtain⟨a,_,rfl⟩:=bg.mp (op.mem_iff.mp hv)
  rfl
 have qp:(out.map eZ).Perm (p::ps):=by
  have:=op.map eZ
  rwa[bE,show (eZ∘a8)=id from rfl,List.map_id]at this
 have ek:ks'=(out.map eZ).map f:=by
  rw[eo]at ot;exact yv ot (kj _ λz hz=>tp z (qp.mem_iff.mp hz))
 subst ek;obtain⟨c,hc⟩:=sortedAll_at s.heap ((p::ps).map a8) out.toArray;have hD0:s.heap.get? (s.heap.objs.size+1)=none:=Heap.get?_none_of_le (Nat.le_succ _);have q':=q (s.heap.objs.size+1) (out.map eZ) (I.hok.free_of hD0) qp os;refine⟨.ref (s.heap.objs.size+1),_,I.newList (s':={s with heap:=sortedAll s.heap ((p::ps).map a8) out.toArray}) (c:=c) (its:=out) rfl rfl (λb o _ e=>sortedAll_old e) (λm hm=>hm.keeps λb o e=>sortedAll_old e) hD0 (Nat.ne_of_gt (cJ I.lt)) hc (by have:=mi (out.map eZ);rwa[<-eo]at this) (by rw[bc,bc,op.length_eq];exact hz'),rfl,q'⟩
noncomputable def mh(K:ar):List V->Hp->VK->Prop:=λvs H Q=>∃(l:Addr) (as:List Addr) (ts:List (List Int)),vs=[.ref l]/\SqL K H l (as.map V.ref)/\as.length=ts.length/\2<=ts.length/\ts.length<64/\(ts[0]? = some []\/∀t∈ts,t≠[]) /\
 (∀(i:Nat) a t,as[i]? = some a->ts[i]? = some t->SqT K H a (t.map V.int)) /\
 ∀(D:Addr) (qs:List Addr) (f:Addr->List Int),H D=none->qs.Perm as->(∀(i:Nat) a t,as[i]? = some a->ts[i]? = some t->f a=t)->(qs.map f).Pairwise (λa b=>ltL b a=false)->Q (.ref D) (upd H D (.lst (qs.map V.ref)))
theorem xC{X:Cx}(hu:X.A.in1.in1.units<cLine):zh X (.builtin "sorted") (mh X.K):=by
 intro pins s σ H xs us Q I r h;obtain⟨l,as,ts,rfl,hl,hlen,h2,h64,h0,ht,q⟩:=h;have tp:∀(i:Nat) a t,as[i]? = some a->ts[i]? = some t->TupAt s.heap (.ref a) t:=λi a t ha hb=>by
  obtain⟨its,r2,⟨o,e1,e2,n,e3⟩,_⟩:=I.tuple (ht i a t ha hb);exact⟨a,o,its.toArray,n,rfl,e1,e2,e3,by simpa using intsAre_of r2⟩
 let f:Addr->List Int:=λa=>ts.getD (as.idxOf a) []
 have hf:∀(i:Nat) a t,as[i]? = some a->ts[i]? = some t->f a=t:=λi a t ha hb=>by
  have hm:a∈as:=List.mem_of_getElem? ha;have hi:=List.idxOf_lt_length_of_mem hm;have e1:as[as.idxOf a]? = some a:=by rw[List.getElem?_eq_getElem hi];simp
  have e2:ts[as.idxOf a]? = some (f a):=by
   have:as.idxOf a<ts.length:=by lia
   simp[f,this]
  exact lO (tp _ _ _ e1 e2) (tp _ _ _ ha hb)
 match as,hlen with
 | [],hlen=>simp at hlen;lia
 |p::ps,hlen=>
  have hne:ps≠[]:=λz=>by subst z;simp at hlen;lia
  refine tW hu pins s σ H _ us Q I r ⟨l,p,ps,f,rfl,hl,hne,by simp at hlen;lia,?_,λa ha=>?_,λD qs hD hp hs=>q D qs f hD hp hf hs⟩
  ·rcases h0 with h0|h0
   ·exact .inl (hf 0 p [] (by simp) h0)
   ·refine .inr λa ha=>?_
    obtain⟨i,hi,rfl⟩:=List.getElem_of_mem ha;have hi':i<ts.length:=by lia
    rw[hf i (p::ps)[i] ts[i] (by simp) (by simp)];exact h0 _ (List.getElem_mem hi')
  obtain⟨i,hi,rfl⟩:=List.getElem_of_mem ha;have hi':i<ts.length:=by lia
  have e:=ht i (p::ps)[i] ts[i] (by simp) (by simp)
  rwa[<-hf i (p::ps)[i] ts[i] (by simp) (by simp)]at e
noncomputable def lC(K:ar):List V->Hp->VK->Prop:=λvs H Q=>∃(l:Addr) (xs:List V),vs=[.ref l]/\SqL K H l xs/\xs.length<2/\∀D,H D=none->Q (.ref D) (upd H D (.lst xs))
theorem nJ{X:Cx}:zh X (.builtin "sorted") (lC X.K):=by
 intro pins s σ H xs us Q I r h;obtain⟨l,ys,rfl,hl,h2,q⟩:=h;obtain⟨u,rfl,ru⟩:=r.one;cases ru;obtain⟨its,rv,pl,hz⟩:=I.list hl;have hl':=rv.length;refine uq pl.isList (by lia) ?_;obtain⟨c,hc⟩:=sortedAll_at s.heap its its.toArray;have hD0:s.heap.get? (s.heap.objs.size+1)=none:=Heap.get?_none_of_le (Nat.le_succ _);exact⟨.ref (s.heap.objs.size+1),_,I.newList (s':={s with heap:=sortedAll s.heap its its.toArray}) (c:=c) rfl rfl (λb o _ e=>sortedAll_old e) (λm hm=>hm.keeps λb o e=>sortedAll_old e) hD0 (Nat.ne_of_gt (cJ I.lt)) hc rv (by rw[bt];lia),rfl,q _ (I.hok.free_of hD0)⟩
end L2
namespace L2
open PySem PySem.Spec PyProof.Rows
section
variable{X:Cx}
end
section
variable{X:Cx}
end
end L2
namespace EV
open PySem PySem.Spec PySem.P PyProof.Rows L2
theorem insI_perm(i:Int):∀l,(insI i l).Perm (i::l)
 | []=>.refl _
 |j::r=>by
  unfold insI;split
  ·exact .refl _
  ·exact((insI_perm i r).cons j).trans (.swap ..)
theorem sortI_perm:∀l,(sortI l).Perm l
 | []=>.refl _
 |i::r=>(insI_perm i _).trans ((sortI_perm r).cons i)
theorem nL(i:Int):∀{l:List Int},l.Pairwise (·<=·)->(insI i l).Pairwise (·<=·)
 | [],_=>by simp[insI]
 |j::r,h=>by
  unfold insI;obtain⟨h1,h2⟩:=List.pairwise_cons.mp h;split
  ·rename_i hij
   refine List.pairwise_cons.mpr ⟨λx hx=>?_,h⟩;rcases aL.mp hx with rfl|hx
   ·exact hij
   ·exact Int.le_trans hij (h1 x hx)
  ·rename_i hij
   refine List.pairwise_cons.mpr ⟨λx hx=>?_,nL i h2⟩;rcases aL.mp ((insI_perm i r).mem_iff.mp hx)with rfl|hx
   ·lia
   ·exact h1 x hx
theorem l7:∀l:List Int,(sortI l).Pairwise (·<=·)
 | []=>.nil
 |i::r=>nL i (l7 r)
theorem jG{l m:List Int}(h1:m.Perm l)(h2:m.Pairwise (·<=·)):m=sortI l:=PySem.W.ksm_same (h1.trans (sortI_perm l).symm) h2 (l7 l)
theorem jA(p:Int×Int):∀l,(dO p l).Perm (p::l)
 | []=>.refl _
 |j::r=>by
  unfold dO;split
  ·exact((jA p r).cons j).trans (.swap ..)
  ·exact .refl _
theorem ju:∀l,(b_ l).Perm l
 | []=>.refl _
 |i::r=>(jA i _).trans ((ju r).cons i)
theorem nY{a b:Int×Int}:ltP a b=true↔a.1<b.1\/(a.1=b.1/\a.2<b.2):=by
 unfold ltP;by_cases h:a.1=b.1
 ·simp[h]
 ·simp[h]
theorem kE{a b:Int×Int}:ltP a b=false↔b.1<a.1\/(a.1=b.1/\b.2<=a.2):=by
 rw[<-c0,nY];lia
theorem lL(p:Int×Int):∀{l:List (Int×Int)},l.Pairwise (λa b=>ltP b a=false)->(dO p l).Pairwise (λa b=>ltP b a=false)
 | [],_=>by simp[dO]
 |j::r,h=>by
  unfold dO;obtain⟨h1,h2⟩:=List.pairwise_cons.mp h;split
  ·rename_i hij
   rw[nY]at hij;refine List.pairwise_cons.mpr ⟨λx hx=>?_,lL p h2⟩;rcases aL.mp ((jA p r).mem_iff.mp hx)with rfl|hx
   ·rw[kE];lia
   ·exact h1 x hx
  ·rename_i hij
   have hij':ltP j p=false:=by simpa using hij
   refine List.pairwise_cons.mpr ⟨λx hx=>?_,h⟩;rcases aL.mp hx with rfl|hx
   ·exact hij'
   ·have:=h1 x hx;rw[kE]at this hij' ⊢;lia
theorem lU:∀l:List (Int×Int),(b_ l).Pairwise (λa b=>ltP b a=false)
 | []=>.nil
 |i::r=>lL i (lU r)
theorem mE:∀(a b:List Int),cN a b=TS.ltL a b
 | [],[]=>rfl
 | [],_::_=>rfl
 |_::_,[]=>rfl
 |a::r,b::t=>by
  unfold cN TS.ltL;rw[mE r t]
theorem jw(p:List Int):∀l,(dM p l).Perm (p::l)
 | []=>.refl _
 |j::r=>by
  unfold dM;split
  ·exact((jw p r).cons j).trans (.swap ..)
  ·exact .refl _
theorem jV:∀l,(du l).Perm l
 | []=>.refl _
 |i::r=>(jw i _).trans ((jV r).cons i)
theorem l_(p:List Int):∀{l:List (List Int)},l.Pairwise (λa b=>TS.ltL b a=false)->(dM p l).Pairwise (λa b=>TS.ltL b a=false)
 | [],_=>by simp[dM]
 |j::r,h=>by
  unfold dM;obtain⟨h1,h2⟩:=List.pairwise_cons.mp h;rw[mE];split
  ·rename_i hij
   refine List.pairwise_cons.mpr ⟨λx hx=>?_,l_ p h2⟩;rcases aL.mp ((jw p r).mem_iff.mp hx)with rfl|hx
   ·exact TS.h_ hij
   ·exact h1 x hx
  ·rename_i hij
   have hij':TS.ltL j p=false:=by simpa using hij
   refine List.pairwise_cons.mpr ⟨λx hx=>?_,h⟩;rcases aL.mp hx with rfl|hx
   ·exact hij'
   ·exact TS.gY hij' (h1 x hx)
theorem mX:∀l:List (List Int),(du l).Pairwise (λa b=>TS.ltL b a=false)
 | []=>.nil
 |i::r=>l_ i (mX r)
theorem uJ{l m:List (List Int)}(h1:m.Perm l)(h2:m.Pairwise (λa b=>TS.ltL b a=false)):m=du l:=
 (h1.trans (jV l).symm).eq_of_pairwise (λa b _ _ z1 z2=>TS.oH z2 z1) h2 (mX l)
section
variable{X:Cx}{g:Gc}
theorem zb.tups{H:Hp}{ds:List D}:∀{vs:List V}{ts:List (List Int)},zb g H ds vs->tups? ds=some ts->ds=ts.map fb/\∃as:List Addr,vs=as.map V.ref/\as.length=ts.length/\∀(i:Nat) a t,as[i]? = some a->ts[i]? = some t->SqT g.K H a (t.map V.int)/\Rep g H (fb t) (.ref a):=by
 induction ds with
 |nil=>intro vs ts h e;cases h;cases e;exact⟨rfl,[],rfl,rfl,λi a p h=>by cases h⟩
 |cons d ds ih=>
  intro vs ts h e;cases h with
  |cons h t=>cases d with
   |tup xs=>
    obtain⟨n,e0,e⟩:=az.mp (show (ints? xs).bind (λn=>(tups? ds).map (n :: ·))=some ts from e);obtain⟨ms,e1,rfl⟩:=bu.mp e;obtain⟨h1,as,h2,h3,h4⟩:=ih t e1;have hh:=h;cases h with
    | @tup a _ _ q r=>
     obtain⟨rfl,e2⟩:=r.ints e0;refine⟨by rw[h1,e2];rfl,a::as,by rw[h2];rfl,congrArg (· + 1) h3,λi b p hb hp=>?_⟩;cases i with
     |zero=>cases hb;cases hp;exact⟨q,by rw[e2]at hh;exact hh⟩
     |succ i=>exact h4 i b p hb hp
   |_=>cases (show none=some ts from e)
theorem zb.pairs{H:Hp}{ds:List D}:∀{vs:List V}{ps:List (Int×Int)},zb g H ds vs->pairs? ds=some ps->ds=ps.map pairD/\∃as:List Addr,vs=as.map V.ref/\as.length=ps.length/\∀(i:Nat) a p,as[i]? = some a->ps[i]? = some p->SqT g.K H a [.int p.1,.int p.2]:=by
 induction ds with
 |nil=>intro vs ps h e;cases h;cases e;exact⟨rfl,[],rfl,rfl,λi a p h=>by cases h⟩
 |cons d ds ih=>
  intro vs ps h e;have no:∀{P:Prop},pairs? (d::ds)=none->P:=λz=>by rw[z]at e;cases e
  cases h with
  |cons h t=>cases d with
   |tup xs=>cases xs with
    |nil=>exact no rfl
    |cons a xs=>cases a with
     |int x=>cases xs with
      |nil=>exact no rfl
      |cons b xs=>cases b with
       |int y=>cases xs with
        |cons _ _=>exact no rfl
        |nil=>
         obtain⟨ms,e1,rfl⟩:=bu.mp (show (pairs? ds).map ((x,y) :: ·)=some ps from e);obtain⟨h1,as,h2,h3,h4⟩:=ih t e1;cases h with
         | @tup a xs _ q r=>
          obtain⟨rfl,_⟩:=r.ints (ns:=[x,y]) rfl;refine⟨by rw[h1];rfl,a::as,by rw[h2];rfl,congrArg (· + 1) h3,λi b p hb hp=>?_⟩;cases i with
          |zero=>cases hb;cases hp;exact q
          |succ i=>exact h4 i b p hb hp
       |_=>exact no rfl
     |_=>exact no rfl
   |_=>exact no rfl
theorem nj{H:Hp}:∀{ts:List (List Int)}{as:List Addr},as.length=ts.length->(∀(i:Nat) a t,as[i]? = some a->ts[i]? = some t->Rep g H (fb t) (.ref a))->zb g H (ts.map fb) (as.map V.ref)
 | [],[],_,_=>.nil
 |t::ts,a::as,e,h=>.cons (h 0 a t rfl rfl) (nj (by simpa using e) λi b u hb hu=>h (i+1) b u (by simpa using hb) (by simpa using hu))
theorem km:∀{xs:List D}{ps:List (Int×Int)},pairs? xs=some ps->tups? xs=some (ps.map λp=>[p.1,p.2])
 | [],_,h=>by cases h;rfl
 | .tup [.int i,.int j]::r,ps,h=>by
  simp only[pairs?,bu]at h;obtain⟨qs,h1,rfl⟩:=h;show (some [i,j]).bind (λn=>(tups? r).map (n :: ·))=_;rw[km h1];rfl
theorem nZ(p:Int×Int):∀qs:List (Int×Int),dM [p.1,p.2] (qs.map λp=>[p.1,p.2])=(dO p qs).map λp=>[p.1,p.2]
 | []=>rfl
 |q::r=>by
  have e:cN [q.1,q.2] [p.1,p.2]=ltP q p:=by
   simp only[cN,ltP];by_cases h:q.1=p.1
   ·rw[if_pos h,if_pos h];by_cases h':q.2=p.2
    ·rw[if_pos h',h'];simp
    ·rw[if_neg h']
   ·rw[if_neg h,if_neg h]
  rw[aU,dM,dO,e,nZ p r];cases ltP q p<;>rfl
theorem lX:∀qs:List (Int×Int),du (qs.map λp=>[p.1,p.2])=(b_ qs).map λp=>[p.1,p.2]
 | []=>rfl
 |q::r=>by rw[aU,du,b_,lX r,nZ]
theorem z_{xs:List D}{ps:List (Int×Int)}(h:pairs? xs=some ps)(h2:2<=ps.length)(h64:xs.length<64):cj xs=.ok (.lst ((b_ ps).map pairD)):=by
 rw[cj,if_pos h64,km h];have e:eP (ps.map λp=>[p.1,p.2])=true:=by
  match ps,h2 with
  |p::q::r,_=>simp[eP]
 show (if eP _=true then _ else _)=_;rw[e,if_pos rfl,lX,bE]
 rfl
theorem wm(hK:X.K=g.K)(hu:X.A.units+64<cLine)(hc:X.calm=true):zh X (.builtin "sorted") (rB1 g .sorted):=fv (((yL.or (nJ.or (nJ.or (xC (show X.A.units+1+1<cLine by lia))))).or Cg).or (pj hc)) λS ds d vs H Q hs rs h q=>by
 obtain⟨x,rfl,h'⟩:=ja (λ_ _=>rfl) h;by_cases htu:∃xs,x=.tup xs
 ·obtain⟨xs,rfl⟩:=htu;have h':(if xs.length<64 then cG (ints? xs) λns=>.ok (.lst ((sortI ns).map D.int))else .no)=R.ok d:=h';split at h'
  ·rename_i hz
   obtain⟨ns,e,h2⟩:=iG h';cases h2;cases rs with
   |cons r rs=>
    cases rs;obtain⟨a,us,rfl,h1,r1⟩:=r.tup;obtain⟨rfl,rfl⟩:=r1.ints e;refine .inl (.inr ⟨a,ns,rfl,by rw[hK];exact h1,by simpa using hz,λp ms hp pm pw=>?_⟩);rw[jG pm pw];exact q _ _ (zq hp) (dW hs hp (zb.ofInts _)) λ_=>eU (qe.refl _) hp (zb.ofInts _)
  ·cases h'
 by_cases hdi:∃kvs,x=.dic kvs
 ·obtain⟨kvs,rfl⟩:=hdi;have h':(if kvs.length<64 then R.ok (D.lst ((sortI (kvs.map (·.1))).map D.int))else .no)=R.ok d:=h';split at h'
  ·rename_i hz
   cases h';cases rs with
   |cons r rs=>
    cases rs;obtain⟨a,rfl,h1⟩:=r.dic;refine .inr ⟨a,kvs,rfl,h1,hz,λp ms hp pm pw=>?_⟩;rw[jG pm pw];exact q _ _ (zq hp) (dW hs hp (zb.ofInts _)) λ_=>eU (qe.refl _) hp (zb.ofInts _)
  ·cases h'
 refine .inl (.inl ?_);have h':(dD x λxs=>if xs.length<64 then (match ints? xs with
   |some ns=>.ok (.lst ((sortI ns).map D.int))
   |none=>match pairs? xs with
    |some ps=>.ok (.lst ((b_ ps).map pairD))
    |none=>cj xs)else cj xs)=.ok d:=by cases x<;>first|exact absurd ⟨_,rfl⟩ htu|exact absurd ⟨_,rfl⟩ hdi|exact h'
 obtain⟨xs,rfl,h2⟩:=je h'
 replace h:=h2
 cases rs with
 |cons r rs=>
  cases rs;obtain⟨a,us,rfl,h1,r1⟩:=r.lst;have big:cj xs=.ok d->lC X.K [.ref a] H Q\/mh X.K [.ref a] H Q:=λh=>by
   by_cases h64:xs.length<64
   rotate_left
   ·rw[cj,if_neg h64]at h;cases h
   rw[cj,if_pos h64]at h;obtain⟨ts,e,h⟩:=iG h;split at h
   ·rename_i hh
    cases h;by_cases h1t:∃t,ts=[t]
    ·obtain⟨t,rfl⟩:=h1t;have hxs:xs=[fb t]:=(r1.tups e).1;subst hxs;refine .inl ⟨a,us,rfl,by rw[hK];exact h1,?_,λp hn=>?_⟩
     ·have:=r1.length;simp at this;lia
     ·exact q _ _ (zq hn) (dW hs hn r1) λ_=>eU (qe.refl _) hn r1
    refine .inr ?_;obtain⟨rfl,as,rfl,hl,hp⟩:=r1.tups e;have hh':2<=ts.length/\(ts[0]? = some []\/∀t∈ts,t≠[]):=by
     match ts,hh,h1t with
     | [t],_,z=>exact absurd ⟨t,rfl⟩ z
     |p::q::r,hh,_=>
      refine⟨by simp,?_⟩;rw[eP,bh]at hh;rcases hh with hh|hh
      ·exact .inl (by simpa using hh)
      ·exact .inr λt ht=>by simpa using cY.mp hh t ht
    refine⟨a,as,ts,rfl,by rw[hK];exact h1,hl,hh'.1,by simpa using h64,hh'.2,λi b t hb ht=>by rw[hK];exact ee cM (hp i b t hb ht).1,λD qs f hn pm hf ps=>?_⟩;have e1:as.map f=ts:=by
     refine List.ext_getElem (by simp[hl]) λi h1 h2=>?_
     rw[cZ];have:i<as.length:=by simpa using h1
     exact hf i as[i] ts[i] (by simp[this]) (by simp[h2])
    have e2:qs.map f=du ts:=uJ (by have:=pm.map f;rwa[e1]at this) ps;have hR:zb g (hid H S) ((du ts).map fb) (qs.map V.ref):=by
     rw[<-e2];refine nj (by simp) λi b t hb ht=>?_
     have hm:b∈as:=pm.mem_iff.mp (List.mem_of_getElem? hb);obtain⟨j,hj,rfl⟩:=List.getElem_of_mem hm;have hj':j<ts.length:=by lia
     have e3:t=ts[j]:=by
      have e4:=hf j as[j] ts[j] (by simp[hj]) (by simp[hj']);rw[List.getElem?_map,hb]at ht;simp at ht;rw[<-ht,e4]
     rw[e3];exact(hp j as[j] ts[j] (by simp[hj]) (by simp[hj'])).2
    exact q _ _ (zq hn) (dW hs hn hR) λ_=>eU (qe.refl _) hn hR
   ·cases h
  by_cases hz:xs.length<64
  ·rw[if_pos hz]at h;cases e:ints? xs with
   |some ns=>
    rw[e]at h;cases h;obtain⟨rfl,rfl⟩:=r1.ints e;refine .inl ⟨a,ns,rfl,by rw[hK];exact h1,by simpa using hz,λp ms hp pm pw=>?_⟩;rw[jG pm pw];exact q _ _ (zq hp) (dW hs hp (zb.ofInts _)) λ_=>eU (qe.refl _) hp (zb.ofInts _)
   |none=>
    rw[e]at h;cases e2:pairs? xs with
    |none=>rw[e2]at h;exact .inr (.inr (big h))
    |some ps=>
     rw[e2]at h;cases h;obtain⟨rfl,as,rfl,hl,hp⟩:=r1.pairs e2;by_cases h2:2<=ps.length
     ·exact .inr (.inr (big (z_ e2 h2 hz)))
     ·have e3:b_ ps=ps:=by
       match ps,h2 with
       | [],_=>rfl
       | [_],_=>rfl
       |_::_::r,h=>exact absurd (show 2<=r.length+1+1 by lia) h
      refine .inr (.inl ⟨a,as.map V.ref,rfl,by rw[hK];exact h1,by rw[bc];lia,λp hn=>?_⟩);rw[e3]at q;exact q _ _ (zq hn) (dW hs hn r1) λ_=>eU (qe.refl _) hn r1
  ·rw[if_neg hz]at h;exact .inr (.inr (big h))
theorem l6(hK:X.K=g.K)(hc:X.calm=true)(mx:Bool):zh X (.builtin (if mx then "max" else "min")) (rB1 g (if mx then .max else .min)):=by
 have two:∀{S:Sh}{H:Hp}{x y:D}{vs:List V}{i j:Int},x=.int i->y=.int j->dX g H S [x,y] vs->vs=[.int i,.int j]:=by
  intro S H x y vs i j hx hy rs;subst hx hy;cases rs with
  |cons r1 rs=>
   cases rs with
   |cons r2 rs=>cases rs;rw[r1.int,r2.int]
 have inv:∀{b:B1}{ds:List D}{d:D},b1 b ds=.ok d->(∃x,ds=[x]/\b11 b x=.ok d)\/∃x y,ds=[x,y]/\b12 b x y=.ok d:=by
  intro b ds d h
  match ds,h with
  | [x],h=>exact .inl ⟨x,rfl,h⟩
  | [x,y],h=>exact .inr ⟨x,y,rfl,h⟩
  | [],h=>cases h
  |_::_::_::_,h=>cases h
 cases mx
 ·exact fv (A4 hc) λS ds d vs H Q hs rs h q=>by
   rcases inv h with ⟨x,rfl,h'⟩|⟨x,y,rfl,h'⟩
   ·cases h'
   ·obtain⟨i,j,hx,hy,h'⟩:=o8 h';cases h';exact⟨i,j,two hx hy rs,q _ _ (qe.refl _) (.int _) (by simp)⟩
 ·exact fv (Cn hc) λS ds d vs H Q hs rs h q=>by
   rcases inv h with ⟨x,rfl,h'⟩|⟨x,y,rfl,h'⟩
   ·cases h'
   ·obtain⟨i,j,hx,hy,h'⟩:=o8 h';cases h';exact⟨i,j,two hx hy rs,q _ _ (qe.refl _) (.int _) (by simp)⟩
theorem wO{S:Sh}{H:Hp}{vs:List V}{i:Int}(rs:dX g H S [.int i] vs):vs=[.int i]:=by
 cases rs with
 |cons r1 rs=>cases rs;rw[r1.int]
theorem Bq{S:Sh}{H:Hp}{vs:List V}{i:Bool}(rs:dX g H S [.bl i] vs):vs=[.bl i]:=by
 cases rs with
 |cons r1 rs=>cases rs;rw[r1.bl]
theorem tG:zh X (.builtin "abs") (rB1 g .abs):=i8 (λ_=>rfl) λ_ _=>rfl
theorem xq:zh X (.type "int") (rB1 g .int):=fv r_ λS ds d vs H Q hs rs h q=>by
 obtain⟨x,rfl,h'⟩:=ja (λ_ _=>rfl) h;rcases yD h' with ⟨i,rfl,h'⟩|⟨i,rfl,h'⟩
 ·cases h';exact .inl ⟨i,wO rs,q _ _ (qe.refl _) (.int _) (by simp)⟩
 ·cases h';exact .inr ⟨i,Bq rs,q _ _ (qe.refl _) (.int _) (by simp)⟩
theorem vp:zh X (.type "bool") (rB1 g .bool):=i8 (λ_=>rfl) λ_ _=>rfl
theorem yF(hK:X.K=g.K)(hc:X.calm=true):zh X (.builtin "sum") (rB1 g .sum):=i8 (λ_=>rfl) λ_ _=>rfl
theorem nP(hK:X.K=g.K)(hu:X.A.units+64<cLine):∀b,(X.calm=true\/b=.len\/b=.abs\/b=.tuple\/b=.list\/b=.int\/b=.bool)->zh X (b1V b) (rB1 g b)
 | .len,_=>y6 hK
 | .tuple,_=>pZ hK
 | .list,_=>tI hK
 | .sorted,h=>wm hK hu (by simpa using h)
 | .all,h=>oY hK (by simpa using h) true
 | .any,h=>oY hK (by simpa using h) false
 | .sum,h=>yF hK (by simpa using h)
 | .min,h=>l6 hK (by simpa using h) false
 | .max,h=>l6 hK (by simpa using h) true
 | .abs,_=>tG
 | .int,_=>xq
 | .bool,_=>vp
theorem l4{H:Hp}{ds:List D}{vs:List V}(r:zb g H ds vs):ds.isEmpty=vs.isEmpty:=by cases r<;>rfl
theorem yi(hK:X.K=g.K){S:Sh}{H:Hp}{d:D}{v:V}{b:Bool}(r:zQ g H S d v)(e:truth d=.ok b):kl X.K v H b:=by
 cases d with
 |non=>cases r.rep;cases e;exact rfl
 |bl c=>cases r.rep;cases e;exact rfl
 |int i=>cases r.rep;cases e;exact rfl
 |tup xs=>
  cases e;obtain⟨a,vs,rfl,h1,r1⟩:=r.tup;exact .inr (.inl ⟨vs,by rw[hK];exact h1,by rw[l4 r1]⟩)
 |lst xs=>
  cases e;obtain⟨a,vs,rfl,h1,r1⟩:=r.lst;exact .inl ⟨vs,by rw[hK];exact h1,by rw[l4 r1]⟩
 |_=>cases e
theorem vG(hK:X.K=g.K):zh X (.builtin "isinstance") (λxs H Q=>∃S d v n t,xs=[v,.ty n]/\zQ g H S d v/\tyD d=some t/\n∈["int","bool","str","list","tuple"]/\Q (.bl (fh t n)) H):=by
 intro pins s σ H xs us Q I r h;obtain⟨S,d,v,n,t,rfl,rd,ht,hn,q⟩:=h;obtain⟨u,cu,rfl,rx,rc⟩:=r.two;cases rc;have fin:∀tk,EP X pins σ Q (.bool (fh t n)) {s with toks:=tk}:=λtk=>⟨.bl _,H,I.tok tk,rfl,q⟩
 have kb:t∈["NoneType","bool","int","str","list","tuple","dict"]->bf X.K (.type t) (.type n)=some (fh t n):=λh=>tj h hn
 cases d with
 |non=>cases ht;cases rd.rep;exact fO I rx .non (kb (by simp)) fin
 |bl c=>cases ht;cases rd.rep;exact fO I rx (.bl c) (kb (by simp)) fin
 |int i=>cases ht;cases rd.rep;exact fO I rx (.int i) (kb (by simp)) fin
 |str i=>cases ht;cases rd.rep;exact fO I rx (.str i) (kb (by simp)) fin
 |tup xs=>
  cases ht;obtain⟨a,vs,rfl,h1,_⟩:=rd.tup;cases rx;obtain⟨its,_,⟨o,e1,e2,_⟩,_⟩:=I.tuple (by rw[hK];exact h1);exact bD PySem.W.kitx_tuple I.kIn ⟨o,e1,e2⟩ (kb (by simp)) (λz=>nomatch z) fin
 |lst xs=>
  cases ht;obtain⟨a,vs,rfl,h1,_⟩:=rd.lst;cases rx;obtain⟨its,_,pl,_⟩:=I.list (by rw[hK];exact h1);obtain⟨o,e1,e2,_⟩:=pl.isList;exact bD PySem.W.kitx_list I.kIn ⟨o,e1,e2⟩ (kb (by simp)) (λz=>nomatch z) fin
 |dic=>
  cases ht;cases rd.rep with
  |dic h1=>exact fO I rx (.dK h1) (kb (by simp)) fin
 |_=>cases ht
end
theorem we{o:O2}{a b:Int}{c:Str}:opI o a b≠.ex c:=by
 cases o<;>simp only[opI]<;>(try split)<;>intro h<;>cases h
theorem Bu{o:O2}{a b:D}{c:Str}:op2 o a b≠.ex c:=by
 unfold op2;split
 ·exact we
 all_goals ((try split)<;>intro h<;>cases h)
theorem Bp{n:Bool}{a b:D}{c:Str}:isB n a b≠.ex c:=by
 unfold isB;split<;>intro h<;>cases h
theorem lF{a b:D}{c:Str}:dN a b≠.ex c:=by
 unfold dN;split<;>(try split)<;>intro h<;>cases h
theorem pk{a b:D}{c:Str}:((dN a b).bind λr=>R.ok !r)≠.ex c:=by
 intro h;cases e:dN a b with
 |ok r=>rw[e]at h;cases h
 |ex z=>exact lF e
 |no=>rw[e]at h;cases h
theorem xV{o:C2}{a b:D}{c:Str}:qk o a b≠.ex c:=by
 unfold qk;split<;>(try split)<;>(try split)<;>intro h<;>first|(cases h;done)|exact Bp h|exact lF h|exact pk h
theorem sM{a:D}{c:Str}:truth a≠.ex c:=by
 unfold truth;split<;>intro h<;>cases h
theorem yH{a b:D}{c:Str}:ixD a b≠.ex c:=by
 unfold ixD;split<;>(try split)<;>intro h<;>cases h
theorem B9{a:D}{l h:Option Int}{c:Str}:slD a l h≠.ex c:=by
 unfold slD;split<;>(try split)<;>intro h<;>cases h
theorem kn{x:D}{k:List D->R D}{c:Str}(h:∀xs,k xs≠.ex c):dD x k≠.ex c:=by
 cases x with
 |lst xs=>exact h xs
 |_=>intro z;cases z
theorem y_{x:D}{f:Int->R D}{q:Bool->R D}{c:Str}(h:∀i,f i≠.ex c)(h':∀i,q i≠.ex c):ibR x f q≠.ex c:=by
 cases x with
 |int i=>exact h i
 |bl i=>exact h' i
 |_=>intro z;cases z
theorem nH{x y:D}{k:Int->Int->R D}{c:Str}(h:∀i j,k i j≠.ex c):iiR x y k≠.ex c:=by
 cases x with
 |int i=>
  cases y with
  |int j=>exact h i j
  |_=>intro z;cases z
 |_=>intro z;cases z
theorem fW{α β:Type}{o:Option α}{k:α->R β}{c:Str}(h:∀a,k a≠.ex c):cG o k≠.ex c:=by
 cases o with
 |some a=>exact h a
 |none=>intro z;cases z
theorem cV{α:Type}{a:α}{c:Str}:R.ok a≠.ex c:=by intro z;cases z
theorem cW{α:Type}{c:Str}:(R.no:R α)≠.ex c:=by intro z;cases z
theorem oM{xs:List D}{c:Str}:cj xs≠.ex c:=by
 unfold cj;split
 rotate_left
 ·exact cW
 refine fW λ_=>?_
 split
 ·exact cV
 ·exact cW
theorem vY{b:B1}{d:D}{c:Str}:b11 b d≠.ex c:=by
 cases b with
 |len=>exact fW λ_=>cV
 |tuple=>exact fW λ_=>cV
 |list=>exact cW
 |all=>exact kn λ_=>fW λ_=>cV
 |any=>exact kn λ_=>fW λ_=>cV
 |sorted=>
  by_cases h:∃xs,d=.tup xs
  ·obtain⟨xs,rfl⟩:=h;show (if xs.length<64 then cG (ints? xs) λns=>R.ok (D.lst ((sortI ns).map D.int))else R.no)≠R.ex c;split
   ·exact fW λ_=>cV
   ·exact cW
  by_cases h':∃kvs,d=.dic kvs
  ·obtain⟨kvs,rfl⟩:=h';show (if kvs.length<64 then R.ok (D.lst ((sortI (kvs.map (·.1))).map D.int))else R.no)≠R.ex c;split
   ·exact cV
   ·exact cW
  have e:b11 .sorted d=dD d λxs=>if xs.length<64 then (match ints? xs with
    |some ns=>.ok (.lst ((sortI ns).map D.int))
    |none=>match pairs? xs with
     |some ps=>.ok (.lst ((b_ ps).map pairD))
     |none=>cj xs)else cj xs:=by cases d<;>first|exact absurd ⟨_,rfl⟩ h|exact absurd ⟨_,rfl⟩ h'|rfl
  rw[e];refine kn λ_=>?_
  split
  ·split
   ·exact cV
   ·split
    ·exact cV
    ·exact oM
  ·exact oM
 |abs=>exact cW
 |int=>exact y_ (λ_=>cV) λ_=>cV
 |bool=>exact cW
 |sum=>exact cW
 |min=>exact cW
 |max=>exact cW
theorem xN{b:B1}{ds:List D}{c:Str}:b1 b ds≠.ex c:=by
 match ds with
 | []=>exact cW
 | [_]=>exact vY
 | [x,y]=>
  cases b with
  |min=>exact nH λ_ _=>cV
  |max=>exact nH λ_ _=>cV
  |_=>exact cW
 |_::_::_::_=>exact cW
structure bq(g:Gc)(c:Cc)(e:E)(S:Sh)(H:Hp)(d:D)(v:V)(H':Hp):Prop where
 same:qe H H'
 rb:zQ g H' S d v
 st:esc e=true->Rep g (hid H' S) d v
 fr:fresh c e=true->Fr g H S H' d v
 frc:cF c e=true->zr d=true->Fr g H S H' d v
structure SE(g:Gc)(c:Cc)(τ:Env)(σ:L2.St)(H:Hp)(S:Sh):Prop where
 len:τ.length=σ.length
 val:∀(i:Nat) (d:D),τ[i]? = some (some d)->∃v,σ[i]? = some (some v)/\zQ g H S d v/\∀x,c.N[i]? = some x->c.own.contains x=false->Rep g (hid H S) d v
 sub:Sub S H
theorem SE.up{g:Gc}{c:Cc}{τ:Env}{σ:L2.St}{H H':Hp}{S:Sh}(s:SE g c τ σ H S)(e:qe H H'):SE g c τ σ H' S:=
 ⟨s.len,λi d h=>let ⟨v,h1,h2,h3⟩:=s.val i d h;⟨v,h1,h2.mono e,λx a b=>(h3 x a b).mono (qG e)⟩,s.sub.same e⟩
noncomputable def tR{α:Type}(g:Gc)(E:XK)(H:Hp)(r:R α)(k:α->Prop):Prop:=match r with
 | .ok a=>k a
 | .ex c=>∀H' C,qe H H'->g.clA c=some C->E (.ref C) none H'
 | .no=>False
theorem tR.up{α:Type}{g:Gc}{E:XK}{H H':Hp}{r:R α}{k:α->Prop}(h:tR g E H r k)(e:qe H H'):tR g E H' r k:=by
 cases r with
 |ok a=>exact h
 |ex c=>exact λH2 C e2 hc=>h H2 C (e.trans e2) hc
 |no=>exact h
theorem tR.imp{α:Type}{g:Gc}{E:XK}{H:Hp}{r:R α}{k k':α->Prop}(h:tR g E H r k)(i:∀a,k a->k' a):tR g E H r k':=by
 cases r with
 |ok a=>exact i a h
 |ex c=>exact h
 |no=>exact h
section
variable(w:W)(g:Gc)(c:Cc)(E:XK)
noncomputable def tE(e:EV.E):TE:=λσ H Q=>∃τ S,SE g c τ σ H S/\tR g E H (evE w e τ) λd=>∀v H',bq g c e S H d v H'->Q v H'
noncomputable def tT(t:T):TT:=λσ H Q=>∃τ S,SE g c τ σ H S/\tR g E H (evT w t τ) λb=>∀H',qe H H'->Q b H'
noncomputable def tA(es:Es):TA:=λσ H Q=>∃τ S,SE g c τ σ H S/\tR g E H (zi w es τ) λds=>∀vs H',qe H H'->dX g H' S ds vs->(dA es=true->zb g (hid H' S) ds vs)->Q vs H'
noncomputable def tOe(o:OE):TO:=λσ H Q=>∃τ S,SE g c τ σ H S/\tR g E H (evO w o τ) λi=>∀H',qe H H'->Q i H'
noncomputable def Goes(g:Gc)(J:L2.It)(ds:List D)(H:Hp)(S:Sh):Prop:=
 (∀i,ds.length<=i->J.stop i H)/\∀i d,ds[i]? = some d->J.go i H/\∀x H',J.yld i H x H'->qe H H'/\Rep g (hid H' S) d x
noncomputable def tIt(it:It):TI:=λσ H R=>∃τ S,SE g c τ σ H S/\tR g E H (evI w it τ) λds=>∀J H',qe H H' ->
 (∀H2 S2,qe H' H2->qe (hid H' S) (hid H2 S2)->Sub S2 H2->Goes g J ds H2 S2)->(owned it=false->∀H2 S2,qe (hid H' S) (hid H2 S2)->Sub S2 H2->Goes g J ds H2 S2)->R J H'
end
theorem PE.imp{X:Cx}{e:Expr}{t t':TE}(h:PE X e t)(i:∀σ H Q,t' σ H Q->t σ H Q):PE X e t':=λpins s σ H Q I q=>h pins s σ H Q I (i _ _ _ q)
theorem PT.imp{X:Cx}{e:Expr}{t t':TT}(h:PT X e t)(i:∀σ H Q,t' σ H Q->t σ H Q):PT X e t':=λpins s σ H Q I q=>h pins s σ H Q I (i _ _ _ q)
theorem PW.imp{X:Cx}{e:Expr}{t t':TT}(h:PW X e t)(i:∀σ H Q,t' σ H Q->t σ H Q):PW X e t':=λwh pins s σ H Q I q=>h wh pins s σ H Q I (i _ _ _ q)
theorem PA.imp{X:Cx}{e:List Expr}{t t':TA}(h:PA X e t)(i:∀σ H Q,t' σ H Q->t σ H Q):PA X e t':=λpos pins s σ H Q I q=>h pos pins s σ H Q I (i _ _ _ q)
theorem PO.imp{X:Cx}{e:Option Expr}{t t':TO}(h:PO X e t)(i:∀σ H Q,t' σ H Q->t σ H Q):PO X e t':=λpins s σ H Q I q=>h pins s σ H Q I (i _ _ _ q)
theorem PI.imp{X:Cx}{tg e:Expr}{t t':TI}(h:PI X tg e t)(i:∀σ H Q,t' σ H Q->t σ H Q):PI X tg e t':=λpins s σ H Q I q=>h pins s σ H Q I (i _ _ _ q)
theorem PS.imp{X:Cx}{e:Stmt}{t t':TS}(h:PS X e t)(i:∀D σ H,t' D σ H->t D σ H):PS X e t':=λpins s σ H Q I q=>h pins s σ H Q I (i _ _ _ q)
theorem PSs.imp{X:Cx}{e:List Stmt}{t t':TS}(h:PSs X e t)(i:∀D σ H,t' D σ H->t D σ H):PSs X e t':=λpins s σ H Q I q=>h pins s σ H Q I (i _ _ _ q)
section
variable{w:W}{g:Gc}{c:Cc}{E:XK}{τ:Env}{σ:L2.St}{H H0:Hp}{S:Sh}
theorem zo{α:Type}{e:EV.E}{f:D->R α}{P:α->Prop}{Q:VK}(se:SE g c τ σ H S)(h:tR g E H ((evE w e τ).bind f) P)(k:∀d v H',evE w e τ=.ok d->bq g c e S H d v H'->tR g E H' (f d) P->Q v H'):tE w g c E e σ H Q:=by
 refine⟨τ,S,se,?_⟩;cases q:evE w e τ with
 |ok d=>rw[q]at h;exact λv H' p=>k d v H' q p (tR.up h p.same)
 |ex x=>rw[q]at h;exact h
 |no=>rw[q]at h;exact h
theorem iO{α:Type}{t:T}{f:Bool->R α}{P:α->Prop}{Q:Bool->Hp->Prop}(se:SE g c τ σ H S)(h:tR g E H ((evT w t τ).bind f) P)(k:∀b H',evT w t τ=.ok b->qe H H'->tR g E H' (f b) P->Q b H'):tT w g c E t σ H Q:=by
 refine⟨τ,S,se,?_⟩;cases q:evT w t τ with
 |ok d=>rw[q]at h;exact λH' p=>k d H' q p (tR.up h p)
 |ex x=>rw[q]at h;exact h
 |no=>rw[q]at h;exact h
theorem fK{α:Type}{es:Es}{f:List D->R α}{P:α->Prop}{Q:List V->Hp->Prop}(se:SE g c τ σ H S)(h:tR g E H ((zi w es τ).bind f) P)
  (k:∀ds vs H',zi w es τ=.ok ds->qe H H'->dX g H' S ds vs->(dA es=true->zb g (hid H' S) ds vs)->tR g E H' (f ds) P->Q vs H'):tA w g c E es σ H Q:=by
 refine⟨τ,S,se,?_⟩;cases q:zi w es τ with
 |ok d=>rw[q]at h;exact λvs H' p r r'=>k d vs H' q p r r' (tR.up h p)
 |ex x=>rw[q]at h;exact h
 |no=>rw[q]at h;exact h
theorem ng{α:Type}{o:OE}{f:Option Int->R α}{P:α->Prop}{Q:Option Int->Hp->Prop}(se:SE g c τ σ H S)(h:tR g E H ((evO w o τ).bind f) P)(k:∀b H',evO w o τ=.ok b->qe H H'->tR g E H' (f b) P->Q b H'):tOe w g c E o σ H Q:=by
 refine⟨τ,S,se,?_⟩;cases q:evO w o τ with
 |ok d=>rw[q]at h;exact λH' p=>k d H' q p (tR.up h p)
 |ex x=>rw[q]at h;exact h
 |no=>rw[q]at h;exact h
theorem kZ{e:EV.E}(h:fresh c e=true):cF c e=true:=by
 cases e<;>first|exact h|cases h
theorem bq.of{e:EV.E}{d:D}{v:V}{H':Hp}(s:qe H H')(r:Rep g (hid H' S) d v)(f:cF c e=false):bq g c e S H d v H':=⟨s,.inl r,λ_=>r,(λz=>by rw[kZ z]at f;cases f),λz=>by rw[f]at z;cases z⟩
theorem bq.new{e:EV.E}{d:D}{v:V}{H':Hp}(s:qe H H')(r:Rep g (hid H' S) d v)(f:Fr g H S H' d v):bq g c e S H d v H':=⟨s,.inl r,λ_=>r,λ_=>f,λ_ _=>f⟩
theorem Fr.low{d:D}{v:V}{H1 H':Hp}(f:Fr g H1 S H' d v)(e:qe H H1):Fr g H S H' d v:=by
 obtain⟨a,o,h1,h3,h4,h5⟩:=f;exact⟨a,o,h1,e.free h3,h4,h5⟩
end
noncomputable def b1N:B1->Str
 | .len=>"len"
 | .tuple=>"tuple"
 | .list=>"list"
 | .sorted=>"sorted"
 | .all=>"all"
 | .any=>"any"
 | .sum=>"sum"
 | .min=>"min"
 | .max=>"max"
 | .abs=>"abs"
 | .int=>"int"
 | .bool=>"bool"
theorem Ao:∀b,bF (b1N b)=some (b1V b)
 | .len | .tuple | .list | .sorted | .all | .any | .sum | .min | .max | .abs | .int | .bool=>by decide +kernel
noncomputable def spF(w:W)(g:Gc)(x:Str)(fr:Bool):Sp:=λvs H Q E=>∃S ds,Sub S H/\zb g (hid H S) ds vs /\
 tR g E H (w.call x ds) λd=>∀v H',qe H H'->Rep g (hid H' S) d v->(fr=true->zr d=true->Fr g H S H' d v)->Q v H'
structure iy(w:W)(g:Gc)(P:aw)(wl:av)(mg:Str->Option ae)(base:Heap)(A:ay)(calm:Bool)(x:Str)(f:Addr)(fr:Bool):Prop where
 at_:mg x=some (.ref f)
 kp:cm g.K (.ref f)=true
 fn:∃k fd ps,Binds g.K fd ps []/\((calm=true/\eO P wl g.K mg base (CX1 P wl) k f fd ps (spF w g x fr)/\b8 k A)\/(calm=false/\jN P wl g.K mg base (CX1 P wl) k f fd ps (spF w g x fr)/\gO k A))
noncomputable def GM(w:W)(g:Gc)(P:aw)(wl:av)(mg:Str->Option ae)(base:Heap)(A:ay)(calm:Bool)(x:Str):GK->Prop
 | .fn fr=>∃f,g.fnA x=some f/\iy w g P wl mg base A calm x f fr
 | .val=>∃u v d,mg x=some u/\RelV v u/\w.glb x=some d/\∀H,Rep g H d v
 | .bi b=>mg x=none/\x=b1N b/\∃id,b1V b=.builtin id
 | .rng=>mg x=none/\x = "range"
 | .enum=>mg x=none/\x = "enumerate"
 | .zip=>mg x=none/\x = "zip"
 | .isi=>mg x=none/\x = "isinstance"
 | .ty n b=>mg x=none/\bF x=some (.type n)/\(n∈["int","bool","str","list","tuple"]\/n = "ValueError")/\∀b',b=some b'->x=b1N b'/\b1V b'=.type n
 | .exc=>∃C,mg x=some (.ref C)/\g.clA x=some C
 | .exk=>∃C,mg x=some (.ref C)/\g.clA x=some C
 | .set=>mg x=none/\bF x=some (.type "set")
 | .rvd=>mg x=none/\x = "reversed"
structure XO(w:W)(g:Gc)(c:Cc)(E:XK)(X:Cx):Prop where
 K:X.K=g.K
 nm:X.env.scope.names=c.nm
 N:X.N=c.N
 nd:c.N.Nodup
 calm:c.calm=true->X.calm=true
 units:X.A.units+64<cLine
 fn:∀x,(c.fnc=true\/c.oc.contains x=true)->X.fn x=true
 kind:X.env.scope.kind=.function
 pass:Passes (CX1 X.prog X.w) X E
 gok:∀x k,c.G.lookup x=some k->GM w g X.prog X.w X.mg X.base X.A X.calm x k
 fns:X.calm=true->∀x f,g.fnA x=some f->∃fr,iy w g X.prog X.w X.mg X.base X.A X.calm x f fr
 -- what isinstance says of a caught error
 sub:∀k cl b,w.sub k cl=some b->∃C cv,g.clA k=some C/\cD g.K C/\bf g.K (.ref C) cv=some b/\match cl with
  | .ty n=>n = "ValueError"/\cv=.type n
  | .ex x=>∃D,g.clA x=some D/\cv=.ref D
section
variable{w:W}{g:Gc}{c:Cc}{E:XK}{X:Cx}
theorem zC{x:Str}{i:Nat}(h:loc c x=some i):c.N[i]? = some x/\(c.nm.lookup x=some .local\/c.nm.lookup x=some .cell\/c.nm.lookup x=some .free)/\(x==("__debug__" : Str))=false/\(x==("__classdict__" : Str))=false:=by
 unfold loc at h;split at h
 ·cases h
 ·rename_i hd
  have hd':(x==("__debug__" : Str))=false/\(x==("__classdict__" : Str))=false:=by simpa using hd
  have fin:∀{j},(if c.N[j]? = some x then some j else none)=some i->c.N[i]? = some x:=λ{j} z=>by
   split at z
   ·cases z;assumption
   ·cases z
  split at h
  ·rename_i q;exact⟨fin h,.inl q,hd'⟩
  ·rename_i q;exact⟨fin h,.inr (.inl q),hd'⟩
  ·rename_i q;exact⟨fin h,.inr (.inr q),hd'⟩
  ·cases h
theorem zJ{x:Str}{k:GK}(h:glob c x=some k):c.nm.lookup x=some .globalImplicit/\c.G.lookup x=some k/\(x==("__debug__" : Str))=false/\x≠"__name__":=by
 unfold glob at h;split at h
 ·cases h
 ·rename_i hd
  have hd':(x==("__debug__" : Str))=false/\(x==("__name__" : Str))=false:=by simpa using hd
  split at h
  ·rename_i q;exact⟨q,h,hd'.1,by simpa using hd'.2⟩
  ·cases h
theorem XO.gl(O:XO w g c E X){x:Str}{k:GK}(h:glob c x=some k):Gl X x:=by
 show X.env.scope.names.lookup x=_;rw[O.nm];exact(zJ h).1
theorem XO.gm(O:XO w g c E X){x:Str}{k:GK}(h:glob c x=some k):GM w g X.prog X.w X.mg X.base X.A X.calm x k:=O.gok x k (zJ h).2.1
theorem qX{e:Expr}{es:List Expr}{env:PySem.Env}(h:isStar e=false):aO (e::es) env=(false,eval e env)::aO es env:=by
 cases e<;>first|rfl|(simp[isStar]at h)
theorem iP{es:List Expr}{env:PySem.Env}{pos:Pos}:(∀e∈es,isStar e=false)->(backTo pos (aO es env)).any (·.1)=false:=by
 induction es with
 |nil=>intro _;rfl
 |cons e es ih=>
  intro h;rw[qX (h e aR)];show (false||(backTo pos (aO es env)).any (·.1))=false;rw[ih λe he=>h e (aP _ he)]
  rfl
theorem eC:∀{n:Nat}{es:List Expr}{ir:Es},cEs n c es=some ir->∀e∈es,isStar e=false
 | 0,_,_,h=>by simp[cEs]at h
 |n+1,[],_,_=>by simp
 |n+1,e::es,ir,h=>by
  simp only[cEs]at h;cases hs:isStar e with
  |true=>simp[hs]at h
  |false=>
   simp only[hs,bI,if_false,aB,az]at h;obtain⟨_,_,r,hr,_⟩:=h;intro x hx;rcases aL.mp hx with rfl|hx
   ·exact hs
   ·exact eC hr x hx
theorem A2{x:Str}{f:Addr}{fr:Bool}{e:Expr}{es:List Expr}{p pos:Pos}{t:TA}(O:XO w g c E X)(C:iy w g X.prog X.w X.mg X.base X.A X.calm x f fr)(hg:Gl X x)(hd:(x==("__debug__" : Str))=false)(ha:PA X (e::es) t)
  (hs:∀z∈e::es,isStar z=false):PE X (.Call (.Name x p) (e::es) [] pos) (kc (spF w g x fr) [] E t):=by
 obtain⟨k,fd,ps,hb,h⟩:=C.fn;have he:=qX (es:=es) (env:=X.env) (hs e aR);have hp:=iP (env:=X.env) (pos:=pos) λz hz=>hs z (aP _ hz)
 rw[<-O.K]at hb h;rcases h with ⟨_,F,r⟩|⟨_,F,r⟩
 ·exact Ae F r hg C.at_ (by rw[O.K];exact C.kp) hb .nil O.pass ha hd he hp
 ·exact yE F r hg C.at_ (by rw[O.K];exact C.kp) hb .nil O.pass ha hd he hp
end
end EV
namespace L2
open PySem PySem.Spec PyProof.Rows
section
variable{X:Cx}
end
end L2
namespace EV
open PySem PySem.Spec PySem.P PyProof.Rows L2
section
variable{w:W}{g:Gc}{c:Cc}{E:XK}{X:Cx}{a b d f:Expr}{ia ib id' if':EV.E}{pos p2:Pos}{ta tb:T}
theorem iY{e:Expr}{v:V}{dd:D}(h:PE X e (tC v))(r:∀H,Rep g H dd v):PE X e (tE w g c E (.con dd)):=PE.imp h λσ H Q ⟨τ,S,se,k⟩=>k v H (bq.of (qe.refl _) (r _) rfl)
theorem rl{x:Str}{i:Nat}(O:XO w g c E X)(h:loc c x=some i):PE X (.Name x pos) (tE w g c E (if c.own.contains x then .own i else .var i)):=by
 obtain⟨h1,h2,h3,h4⟩:=zC h;refine PE.imp (iM (i:=i) (by rw[O.N];exact h1) (by unfold fX;rw[O.nm];exact h2) h3 h4) λσ H Q ⟨τ,S,se,k⟩=>?_
 have key:∀e,evE w e τ=bO τ i->cF c e=false->(esc e=true->c.own.contains x=false)->tR g E H (evE w e τ) (λd=>∀v H',bq g c e S H d v H'->Q v H')->gJ i σ H Q:=λe e1 e2 e3 k=>by
  rw[e1]at k;unfold bO at k;cases q:τ[i]? with
  |none=>rw[q]at k;exact k.elim
  |some o=>
   cases o with
   |none=>rw[q]at k;exact k.elim
   |some d=>
    rw[q]at k;obtain⟨v,z1,z2,z3⟩:=se.val i d q;exact⟨v,z1,k v H ⟨qe.refl _,z2,λz=>z3 x h1 (e3 z),(λz=>by rw[kZ z]at e2;cases e2),λz=>by rw[e2]at z;cases z⟩⟩
 cases ho:c.own.contains x with
 |true=>rw[ho]at k;exact key (.own i) (by simp[qU,qW,qY,zc,ze,qV,zd,zf,za,qm,qx,qB,qu,qt,qK,qA,qr,ql,qw,qy,qO,qi,qz,qP,qq,qo,qJ,qL,qD,qN,qE,qM,qQ,qC,qI,qT,qH,qF,qR,qS]) rfl (by intro z;cases z) k
 |false=>rw[ho]at k;exact key (.var i) (by simp[qU,qW,qY,zc,ze,qV,zd,zf,za,qm,qx,qB,qu,qt,qK,qA,qr,ql,qw,qy,qO,qi,qz,qP,qq,qo,qJ,qL,qD,qN,qE,qM,qQ,qC,qI,qT,qH,qF,qR,qS]) rfl (λ_=>ho) k
theorem xZ{x:Str}(O:XO w g c E X)(h:glob c x=some .val):PE X (.Name x pos) (tE w g c E (.glb x)):=by
 obtain⟨u,v,d,h1,h2,h3,h4⟩:=O.gm h;refine PE.imp (ki (O.gl h) h1 h2 (zJ h).2.2.1) λσ H Q ⟨τ,S,se,k⟩=>?_
 simp only[qU,qW,qY,zc,ze,qV,zd,zf,za,qm,qx,qB,qu,qt,qK,qA,qr,ql,qw,qy,qO,qi,qz,qP,qq,qo,qJ,qL,qD,qN,qE,qM,qQ,qC,qI,qT,qH,qF,qR,qS,h3]at k;exact k v H (bq.of (qe.refl _) (h4 _) rfl)
theorem xQ{x:Str}{fr:Bool}(O:XO w g c E X)(h:glob c x=some (.fn fr)):PE X (.Name x pos) (tE w g c E (.fnv x)):=λpins s σ H Q I ⟨τ,S,se,kk⟩=>by
 simp only[qU,qW,qY,zc,ze,qV,zd,zf,za,qm,qx,qB,qu,qt,qK,qA,qr,ql,qw,qy,qO,qi,qz,qP,qq,qo,qJ,qL,qD,qN,qE,qM,qQ,qC,qI,qT,qH,qF,qR,qS]at kk;exact aK kk
theorem l5{τ:EV.Env}{e:EV.E}{d:D}(h:isL e=true)(he:evE w e τ=.ok d):jc d=true:=by
 cases e<;>first|(cases h;done)|skip
 ·simp only[qU,qW,qY,zc,ze,qV,zd,zf,za,qm,qx,qB,qu,qt,qK,qA,qr,ql,qw,qy,qO,qi,qz,qP,qq,qo,qJ,qL,qD,qN,qE,qM,qQ,qC,qI,qT,qH,qF,qR,qS]at he;cases q:zi w ‹_› τ with
  |ok ds=>rw[q]at he;cases he;rfl
  |ex z=>rw[q]at he;cases he
  |no=>rw[q]at he;cases he
 ·simp only[qU,qW,qY,zc,ze,qV,zd,zf,za,qm,qx,qB,qu,qt,qK,qA,qr,ql,qw,qy,qO,qi,qz,qP,qq,qo,qJ,qL,qD,qN,qE,qM,qQ,qC,qI,qT,qH,qF,qR,qS]at he;cases he
 ·simp only[qU,qW,qY,zc,ze,qV,zd,zf,za,qm,qx,qB,qu,qt,qK,qA,qr,ql,qw,qy,qO,qi,qz,qP,qq,qo,qJ,qL,qD,qN,qE,qM,qQ,qC,qI,qT,qH,qF,qR,qS]at he;cases q:evI w ‹_› τ with
  |ok ds=>
   rw[q]at he;simp only[R.bind_ok]at he;split at he
   ·cases he
   ·generalize cf _ _ _ _=r at he;cases r with
    |ok o=>cases he;rfl
    |ex z=>cases he
    |no=>cases he
  |ex z=>rw[q]at he;cases he
  |no=>rw[q]at he;cases he
theorem rQ(O:XO w g c E X){op:Operator}{o:O2}(ho:o2 op=some o)(ha:PE X a (tE w g c E ia))(hb:PE X b (tE w g c E ib)):PE X (.BinOp a op b pos) (tE w g c E (.op o ia ib)):=
 PE.imp (pM (rY O.K ho) ha hb) λσ H Q ⟨τ,S,se,k⟩=>by
  simp only[qU,qW,qY,zc,ze,qV,zd,zf,za,qm,qx,qB,qu,qt,qK,qA,qr,ql,qw,qy,qO,qi,qz,qP,qq,qo,qJ,qL,qD,qN,qE,qM,qQ,qC,qI,qT,qH,qF,qR,qS]at k;refine zo se k λda va H1 e1 p1 k1=>zo (se.up p1.same) k1 λdb vb H2 e2 p2 k2=>⟨S,da,db,(se.up (p1.same.trans p2.same)).sub,p1.rb.mono p2.same,p2.rb,?_⟩
  cases q:op2 o da db with
  |ok r=>
   rw[q]at k2;have fw:fresh c (.op o ia ib)=true->∀{v H'},(jc da=true->Fr g H2 S H' r v)->Fr g H S H' r v:=λz {v H'} f=>by
    simp only[fresh,bh,aF,beq_iff_eq]at z;refine(f ?_).low (p1.same.trans p2.same);rcases z with z|⟨rfl,z⟩
    ·exact l5 z.2 e1
    ·have:=l5 z e2;cases db<;>first|(cases this;done)|skip
     cases da<;>first|rfl|(cases q;done)
   exact λv H' s r f=>k2 v H' ⟨(p1.same.trans p2.same).trans s,.inl r,λ_=>r,λz=>fw z f,λz _=>fw z f⟩
  |ex z=>exact Bu q
  |no=>rw[q]at k2;exact k2
theorem Ax(ha:PE X a (tE w g c E ia)):PE X (.UnaryOp .USub a pos) (tE w g c E (.neg ia)):=
 PE.imp (rq xf ha) λσ H Q ⟨τ,S,se,k⟩=>by
  simp only[qU,qW,qY,zc,ze,qV,zd,zf,za,qm,qx,qB,qu,qt,qK,qA,qr,ql,qw,qy,qO,qi,qz,qP,qq,qo,qJ,qL,qD,qN,qE,qM,qQ,qC,qI,qT,qH,qF,qR,qS]at k;refine zo se k λda va H1 e1 p1 k1=>?_
  cases da with
  |int i=>exact⟨i,p1.rb.int,k1 _ _ (bq.of p1.same (.int _) rfl)⟩
  |_=>exact k1.elim
theorem rh(O:XO w g c E X){o:Expr}{m:Str}{ap cp:Pos}{as:List Expr}{e:EV.E}(h:cMt c o m ap as cp=some e):PE X (.Call (.Attribute o m ap) as [] cp) (tE w g c E e):=by cases h
theorem Bh(O:XO w g c E X){o:Expr}{ap cp:Pos}(hb:baseOk o=true)(ho:PE X o (tE w g c E ia))(ha:PE X a (tE w g c E ib))(hs:isStar a=false)(hl:(ap.endLine==cp.line)=true) :
  PE X (.Call (.Attribute o "count" ap) [a] [] cp) (tE w g c E (.cnt ia ib)):=λpins s σ H Q I ⟨τ,S,se,kk⟩=>by
 simp only[qU,qW,qY,zc,ze,qV,zd,zf,za,qm,qx,qB,qu,qt,qK,qA,qr,ql,qw,qy,qO,qi,qz,qP,qq,qo,qJ,qL,qD,qN,qE,qM,qQ,qC,qI,qT,qH,qF,qR,qS]at kk;exact aK kk
theorem vw(ha:PE X a (tE w g c E ia)):PE X (.UnaryOp .Invert a pos) (tE w g c E (.inv ia)):=λpins s σ H Q I ⟨τ,S,se,kk⟩=>by
 simp only[qU,qW,qY,zc,ze,qV,zd,zf,za,qm,qx,qB,qu,qt,qK,qA,qr,ql,qw,qy,qO,qi,qz,qP,qq,qo,qJ,qL,qD,qN,qE,qM,qQ,qC,qI,qT,qH,qF,qR,qS]at kk;exact aK kk
theorem yn(ha:PE X a (tE w g c E ia)):PE X (.UnaryOp .Not a pos) (tE w g c E (.not ia)):=
 PE.imp (w_ ha) λσ H Q ⟨τ,S,se,k⟩=>by
  simp only[qU,qW,qY,zc,ze,qV,zd,zf,za,qm,qx,qB,qu,qt,qK,qA,qr,ql,qw,qy,qO,qi,qz,qP,qq,qo,qJ,qL,qD,qN,qE,qM,qQ,qC,qI,qT,qH,qF,qR,qS]at k;refine zo se k λda va H1 e1 p1 k1=>?_
  cases da with
  |bl i=>exact⟨i,p1.rb.bl,k1 _ _ (bq.of p1.same (.bl _) rfl)⟩
  |_=>exact k1.elim
theorem bq.pass{e e':EV.E}{S:Sh}{H H1 H':Hp}{dd:D}{v:V}(s:qe H H1)(p:bq g c e S H1 dd v H')(h:esc e=true)(f:cF c e'=false):bq g c e' S H dd v H':=bq.of (s.trans p.same) (p.st h) f
theorem bq.passC{e e':EV.E}{S:Sh}{H H1 H':Hp}{dd:D}{v:V}(s:qe H H1)(p:bq g c e S H1 dd v H')(h:esc e=true)(f:fresh c e'=false)(fc:cF c e'=true->cF c e=true):bq g c e' S H dd v H':=⟨s.trans p.same,.inl (p.st h),λ_=>p.st h,(λz=>by rw[f]at z;cases z),λz l=>(p.frc (fc z) l).low s⟩
theorem AY{rest:List Expr}{ir:EV.E}(ha:PE X a (tE w g c E ia))(hb:PE X (.BoolOp .And (b::rest) pos) (tE w g c E ir))(he:esc ir=true):PE X (.BoolOp .And (a::b::rest) pos) (tE w g c E (.and ia ir)):=
 PE.imp (u9 ha hb) λσ H Q ⟨τ,S,se,k⟩=>by
  simp only[qU,qW,qY,zc,ze,qV,zd,zf,za,qm,qx,qB,qu,qt,qK,qA,qr,ql,qw,qy,qO,qi,qz,qP,qq,qo,qJ,qL,qD,qN,qE,qM,qQ,qC,qI,qT,qH,qF,qR,qS]at k;refine zo se k λda va H1 e1 p1 k1=>?_
  cases da with
  |bl i=>
   refine⟨i,p1.rb.bl,?_⟩;cases i with
   |true=>
    refine⟨τ,S,se.up p1.same,tR.imp k1 λd hk v H' p=>hk v H' (p.pass p1.same he rfl)⟩
   |false=>exact k1 _ _ (bq.of p1.same (.bl _) rfl)
  |_=>exact k1.elim
theorem uj{rest:List Expr}{ir:EV.E}(ha:PE X a (tE w g c E ia))(hb:PE X (.BoolOp .Or (b::rest) pos) (tE w g c E ir))(he:esc ir=true):PE X (.BoolOp .Or (a::b::rest) pos) (tE w g c E (.or ia ir)):=
 PE.imp (BM ha hb) λσ H Q ⟨τ,S,se,k⟩=>by
  simp only[qU,qW,qY,zc,ze,qV,zd,zf,za,qm,qx,qB,qu,qt,qK,qA,qr,ql,qw,qy,qO,qi,qz,qP,qq,qo,qJ,qL,qD,qN,qE,qM,qQ,qC,qI,qT,qH,qF,qR,qS]at k;refine zo se k λda va H1 e1 p1 k1=>?_
  cases da with
  |bl i=>
   refine⟨i,p1.rb.bl,?_⟩;cases i with
   |false=>
    refine⟨τ,S,se.up p1.same,tR.imp k1 λd hk v H' p=>hk v H' (p.pass p1.same he rfl)⟩
   |true=>exact k1 _ _ (bq.of p1.same (.bl _) rfl)
  |_=>exact k1.elim
theorem fF{op:CmpOp}{b:Expr}(h:zv b=true):behindInMarks op b=false:=by cases b<;>first|rfl|(simp[zv]at h)
theorem dh{o:C2}{S:Sh}{H:Hp}{da db:D}{va vb:V}{r:R Bool}{P:Bool->Prop}{Q:VK}(ra:zQ g H S da va)(rb:zQ g H S db vb)(q:tR g E H (qk o da db) P)(k:∀z,qk o da db=.ok z->P z->Q (.bl z) H):rCm g o va vb H Q:=by
 refine⟨S,da,db,ra,rb,?_⟩;cases e:qk o da db with
 |ok z=>rw[e]at q;exact k z e q
 |ex z=>exact xV e
 |no=>rw[e]at q;exact q
theorem tR.bnd{α β:Type}{H:Hp}{r:R α}{f:α->R β}{P:β->Prop}(h:tR g E H (r.bind f) P):tR g E H r λa=>tR g E H (f a) P:=by
 cases r with
 |ok a=>exact h
 |ex z=>exact h
 |no=>exact h
theorem AU(O:XO w g c E X){op:CmpOp}(ha:PE X a (tE w g c E ia))(hb:PE X b (tE w g c E ib))(hs:zv b=true):PE X (.Compare a [op] [b] pos) (tE w g c E (.cmp (c2 op) ia ib)):=
 PE.imp (uZ (di O.K O.units op) ha hb (fF hs)) λσ H Q ⟨τ,S,se,k⟩=>by
  simp only[qU,qW,qY,zc,ze,qV,zd,zf,za,qm,qx,qB,qu,qt,qK,qA,qr,ql,qw,qy,qO,qi,qz,qP,qq,qo,qJ,qL,qD,qN,qE,qM,qQ,qC,qI,qT,qH,qF,qR,qS]at k;refine zo se k λda va H1 e1 p1 k1=>zo (se.up p1.same) k1 λdb vb H2 e2 p2 k2=>?_
  exact dh (r:=.no) (p1.rb.mono p2.same) p2.rb (tR.bnd k2) λz _ q=>q _ _ (bq.of (p1.same.trans p2.same) (.bl _) rfl)
theorem rK(O:XO w g c E X){op:CmpOp}(ha:PE X a (tE w g c E ia))(hb:PE X b (tE w g c E ib))(hs:zv b=true):PT X (.Compare a [op] [b] pos) (tT w g c E (.cmp (c2 op) ia ib)):=
 PT.imp (sZ (di O.K O.units op) ha hb (fF hs)) λσ H Q ⟨τ,S,se,k⟩=>by
  simp only[ez,eA,eG,eE,eF,eD,eK]at k;refine zo se k λda va H1 e1 p1 k1=>zo (se.up p1.same) k1 λdb vb H2 e2 p2 k2=>?_
  exact dh (r:=.no) (p1.rb.mono p2.same) p2.rb k2 λz _ q=>⟨z,rfl,q _ (p1.same.trans p2.same)⟩
theorem tN(O:XO w g c E X){op op':CmpOp}(ha:PE X a (tE w g c E ia))(hb:PE X b (tE w g c E ib))(hd:PE X d (tE w g c E id'))(hs':zv d=true):PE X (.Compare a [op,op'] [b,d] pos) (tE w g c E (.cmp2 (c2 op) (c2 op') ia ib id')):=
 PE.imp (xR (di O.K O.units op) (di O.K O.units op') ha hb hd (fF hs')) λσ H Q ⟨τ,S,se,k⟩=>by
  simp only[qU,qW,qY,zc,ze,qV,zd,zf,za,qm,qx,qB,qu,qt,qK,qA,qr,ql,qw,qy,qO,qi,qz,qP,qq,qo,qJ,qL,qD,qN,qE,qM,qQ,qC,qI,qT,qH,qF,qR,qS]at k;refine zo se k λda va H1 e1 p1 k1=>zo (se.up p1.same) k1 λdb vb H2 e2 p2 k2=>?_
  have s2:=p1.same.trans p2.same;refine dh (r:=.no) (p1.rb.mono p2.same) p2.rb (tR.bnd k2) λz _ q=>⟨z,rfl,?_⟩
  cases z with
  |true=>
   exact zo (se.up s2) q λdd vd H3 e3 p3 k3=>dh (r:=.no) (p2.rb.mono p3.same) p3.rb (tR.bnd k3) λz _ q=>q _ _ (bq.of (s2.trans p3.same) (.bl _) rfl)
  |false=>exact q _ _ (bq.of s2 (.bl _) rfl)
theorem Ad(O:XO w g c E X){op op':CmpOp}(ha:PE X a (tE w g c E ia))(hb:PE X b (tE w g c E ib))(hd:PE X d (tE w g c E id'))(hs':zv d=true):PT X (.Compare a [op,op'] [b,d] pos) (tT w g c E (.cmp2 (c2 op) (c2 op') ia ib id')):=
 PT.imp (w8 (di O.K O.units op) (di O.K O.units op') ha hb hd (fF hs')) λσ H Q ⟨τ,S,se,k⟩=>by
  simp only[ez,eA,eG,eE,eF,eD,eK]at k;refine zo se k λda va H1 e1 p1 k1=>zo (se.up p1.same) k1 λdb vb H2 e2 p2 k2=>?_
  have s2:=p1.same.trans p2.same;refine dh (r:=.no) (p1.rb.mono p2.same) p2.rb (tR.bnd k2) λz _ q=>⟨z,rfl,?_⟩
  cases z with
  |true=>
   exact zo (se.up s2) q λdd vd H3 e3 p3 k3=>dh (r:=.no) (p2.rb.mono p3.same) p3.rb k3 λz _ q=>⟨z,rfl,q _ (s2.trans p3.same)⟩
  |false=>exact⟨false,rfl,q _ s2⟩
theorem rG(O:XO w g c E X){op op' op'':CmpOp}(ha:PE X a (tE w g c E ia))(hb:PE X b (tE w g c E ib))(hd:PE X d (tE w g c E id'))(hf:PE X f (tE w g c E if'))(hs':zv f=true):PE X (.Compare a [op,op',op''] [b,d,f] pos) (tE w g c E (.cmp3 (c2 op) (c2 op') (c2 op'') ia ib id' if')):=
 PE.imp (uO (di O.K O.units op) (di O.K O.units op') (di O.K O.units op'') ha hb hd hf (fF hs')) λσ H Q ⟨τ,S,se,k⟩=>by
  simp only[qU,qW,qY,zc,ze,qV,zd,zf,za,qm,qx,qB,qu,qt,qK,qA,qr,ql,qw,qy,qO,qi,qz,qP,qq,qo,qJ,qL,qD,qN,qE,qM,qQ,qC,qI,qT,qH,qF,qR,qS]at k;refine zo se k λda va H1 e1 p1 k1=>zo (se.up p1.same) k1 λdb vb H2 e2 p2 k2=>?_
  have s2:=p1.same.trans p2.same;refine dh (r:=.no) (p1.rb.mono p2.same) p2.rb (tR.bnd k2) λz _ q=>⟨z,rfl,?_⟩
  cases z with
  |true=>
   refine zo (se.up s2) q λdd vd H3 e3 p3 k3=>dh (r:=.no) (p2.rb.mono p3.same) p3.rb (tR.bnd k3) λz _ q=>⟨z,rfl,?_⟩
   have s3:=s2.trans p3.same;cases z with
   |true=>exact zo (se.up s3) q λdf vf H4 e4 p4 k4=>dh (r:=.no) (p3.rb.mono p4.same) p4.rb (tR.bnd k4) λz _ q=>q _ _ (bq.of (s3.trans p4.same) (.bl _) rfl)
   |false=>exact q _ _ (bq.of s3 (.bl _) rfl)
  |false=>exact q _ _ (bq.of s2 (.bl _) rfl)
theorem sY{a b c d:Expr}{ta tb tc td:TE}{pos:Pos}{op op' op'':CmpOp}{r r' r'':R2}(ho:OpR X (aV op) r)(ho':OpR X (aV op') r')(ho'':OpR X (aV op'') r'')(ha:PE X a ta)(hb:PE X b tb)(hc:PE X c tc)(hd:PE X d td)
  (hm:lastMarks [op,op',op''] [b,c,d]=false):PT X (.Compare a [op,op',op''] [b,c,d] pos) (jE (kF r r' r'' ta tb tc td)):=by
 intro pins s σ H Q I h;refine isTrue_chain (thn (ha pins s σ H _ I h) λv s1 ⟨x,H1,I1,r1,q1⟩=>test_link (thn (hb pins s1 σ H1 _ I1 q1) λu s2 ⟨y,H2,I2,r2,q2⟩=>
  thn (ho pins s2 σ H2 x y v u _ I2 r1 r2 q2) λd s3 ⟨z,H3,I3,r3,k,e,q3⟩=>?_)) hm
 subst e;cases r3;refine bB ?_;cases k with
 |false=>
  obtain⟨k',e',q'⟩:=q3;cases e';exact ite_ff ⟨H3,I3,q'⟩
 |true=>
  refine ite_tt (test_link (thn (hc pins s3 σ H3 _ I3 q3) λw' s4 ⟨z',H4,I4,r4,q4⟩=>thn (ho' pins s4 σ H4 y z' u w' _ I4 r2 r4 q4) λd' s5 ⟨z2,H5,I5,r5,k2,e2,q5⟩=>?_));subst e2;cases r5;refine bB ?_;cases k2 with
  |false=>
   obtain⟨k',e',q'⟩:=q5;cases e';exact ite_ff ⟨H5,I5,q'⟩
  |true=>
   refine ite_tt (test_last (thn (hd pins s5 σ H5 _ I5 q5) λw'' s6 ⟨z3,H6,I6,r6,q6⟩=>thn (ho'' pins s6 σ H6 z' z3 w' w'' _ I6 r4 r6 q6) λd'' s7 ⟨z4,H7,I7,r7,k4,e4,q7⟩=>?_));subst e4;cases r7;exact bB ⟨H7,I7,q7⟩
theorem R.bind_assoc{α β γ:Type}(r:R α)(f:α->R β)(h:β->R γ):(r.bind f).bind h=r.bind λa=>(f a).bind h:=by cases r<;>rfl
theorem Bf(O:XO w g c E X){op op' op'':CmpOp}(ha:PE X a (tE w g c E ia))(hb:PE X b (tE w g c E ib))(hd:PE X d (tE w g c E id'))(hf:PE X f (tE w g c E if'))(hs':zv f=true):PT X (.Compare a [op,op',op''] [b,d,f] pos) (tT w g c E (.val (.cmp3 (c2 op) (c2 op') (c2 op'') ia ib id' if'))):=
 PT.imp (sY (di O.K O.units op) (di O.K O.units op') (di O.K O.units op'') ha hb hd hf (fF hs')) λσ H Q ⟨τ,S,se,k⟩=>by
  simp only[ez,eA,eG,eE,eF,eD,eK,qU,qW,qY,zc,ze,qV,zd,zf,za,qm,qx,qB,qu,qt,qK,qA,qr,ql,qw,qy,qO,qi,qz,qP,qq,qo,qJ,qL,qD,qN,qE,qM,qQ,qC,qI,qT,qH,qF,qR,qS,R.bind_assoc]at k;refine zo se k λda va H1 e1 p1 k1=>zo (se.up p1.same) k1 λdb vb H2 e2 p2 k2=>?_
  have s2:=p1.same.trans p2.same;refine dh (r:=.no) (p1.rb.mono p2.same) p2.rb (tR.bnd k2) λz _ q=>⟨z,rfl,?_⟩
  cases z with
  |true=>
   simp only[if_true,R.bind_assoc]at q;refine zo (se.up s2) q λdd vd H3 e3 p3 k3=>dh (r:=.no) (p2.rb.mono p3.same) p3.rb (tR.bnd k3) λz _ q=>⟨z,rfl,?_⟩
   have s3:=s2.trans p3.same;cases z with
   |true=>
    simp only[if_true,R.bind_assoc]at q;exact zo (se.up s3) q λdf vf H4 e4 p4 k4=>dh (r:=.no) (p3.rb.mono p4.same) p4.rb (tR.bnd k4) λz _ q=>⟨z,rfl,q _ (s3.trans p4.same)⟩
   |false=>exact⟨false,rfl,q _ s3⟩
  |false=>exact⟨false,rfl,q _ s2⟩
theorem AV(ht:PT X d (tT w g c E ta))(ha:PE X a (tE w g c E ia))(hb:PE X b (tE w g c E ib))(h1:esc ia=true)(h2:esc ib=true):PE X (.IfExp d a b pos) (tE w g c E (.ite ta ia ib)):=
 PE.imp (B4 ht ha hb) λσ H Q ⟨τ,S,se,k⟩=>by
  simp only[qU,qW,qY,zc,ze,qV,zd,zf,za,qm,qx,qB,qu,qt,qK,qA,qr,ql,qw,qy,qO,qi,qz,qP,qq,qo,qJ,qL,qD,qN,qE,qM,qQ,qC,qI,qT,qH,qF,qR,qS]at k;refine iO se k λz H1 e1 s1 k1=>?_
  cases z with
  |true=>exact⟨τ,S,se.up s1,tR.imp k1 λdd hk v H' p=>hk v H' (p.passC s1 h1 rfl λz=>(i9 z).1)⟩
  |false=>exact⟨τ,S,se.up s1,tR.imp k1 λdd hk v H' p=>hk v H' (p.passC s1 h2 rfl λz=>(i9 z).2)⟩
theorem Cj{e:Expr}{ie:EV.E}(h:PE X e (tE w g c E ie)):PE X e (tE w g c E (iB c ie)):=by
 unfold iB;split
 ·rename_i f es
  split
  ·rename_i hg
   refine PE.imp h λσ H Q ⟨τ,S,se,k⟩=>⟨τ,S,se,?_⟩
   have e1:evE w (.lstc f es) τ=(evE w (.call f es) τ).bind λd=>if zr d then .ok d else .no:=by
    simp only[qU,qW,qY,zc,ze,qV,zd,zf,za,qm,qx,qB,qu,qt,qK,qA,qr,ql,qw,qy,qO,qi,qz,qP,qq,qo,qJ,qL,qD,qN,qE,qM,qQ,qC,qI,qT,qH,qF,qR,qS];cases zi w es τ<;>rfl
   rw[e1]at k;cases q:evE w (.call f es) τ with
   |ok d=>
    rw[q]at k;simp only[R.bind_ok]at k;cases hl:zr d with
    |true=>
     rw[hl,if_pos rfl]at k;exact λv H' p=>k v H' ⟨p.same,p.rb,λ_=>p.st rfl,λz=>p.frc z hl,λz _=>p.frc z hl⟩
    |false=>rw[hl]at k;exact k.elim
   |ex z=>rw[q]at k;exact k
   |no=>rw[q]at k;exact k
  ·exact h
 ·exact h
theorem sf:PA X [] (tA w g c E .nil):=PA.imp dP λσ H Q ⟨τ,S,se,k⟩=>k [] H (qe.refl _) .nil λ_=>.nil
theorem pG{es:List Expr}{ies:Es}(ha:PE X a (tE w g c E ia))(hr:PA X es (tA w g c E ies))(hs:isStar a=false):PA X (a::es) (tA w g c E (.cons ia ies)):=
 PA.imp (cU ha hr (qX hs)) λσ H Q ⟨τ,S,se,k⟩=>by
  simp only[zi]at k;refine zo se k λda va H1 e1 p1 k1=>fK (se.up p1.same) k1 λds vs H2 e2 s2 r2 r2' k2=>k2 _ _ (p1.same.trans s2) (.cons (p1.rb.mono s2) r2) λz=>?_
  simp only[dA,aF]at z;exact .cons ((p1.st z.1).mono (qG s2)) (r2' z.2)
theorem iX:∀{es:Es}{τ:Env}{ds:List D}{l:List Expr}{n:Nat},cEs n c l=some es->zi w es τ=.ok ds->ds.length=l.length
 |_,_,_,l,0,h,_=>by simp[cEs]at h
 |es,τ,ds,[],n+1,h,e=>by
  simp only[cEs,bZ]at h;subst h;simp only[zi,R.ok.injEq]at e;subst e;rfl
 |es,τ,ds,x::l,n+1,h,e=>by
  simp only[cEs]at h;cases hs:isStar x with
  |true=>simp[hs]at h
  |false=>
   simp only[hs,bI,if_false,aB,az]at h;obtain⟨i1,_,r,hr,h⟩:=h;cases h;simp only[zi]at e;cases q:evE w i1 τ with
   |ok z=>
    rw[q]at e;simp only[R.bind_ok]at e;cases q2:zi w r τ with
    |ok zs=>
     rw[q2]at e;cases e;simp[iX hr q2]
    |ex z=>rw[q2]at e;cases e
    |no=>rw[q2]at e;cases e
   |ex z=>rw[q]at e;cases e
   |no=>rw[q]at e;cases e
theorem j8{n:Nat}(h:n<=100000):n<=sizeLine:=bp h (by rw[bt];decide)
theorem pI{es:List Expr}{ies:Es}{k:Nat}(ha:PA X es (tA w g c E ies))(he:dA ies=true)(hl:∀τ ds,zi w ies τ=.ok ds->ds.length<=100000):PE X (.Tuple es k pos) (tE w g c E (.tup ies)):=
 PE.imp (AG ha) λσ H Q ⟨τ,S,se,k⟩=>by
  simp only[qU,qW,qY,zc,ze,qV,zd,zf,za,qm,qx,qB,qu,qt,qK,qA,qr,ql,qw,qy,qO,qi,qz,qP,qq,qo,qJ,qL,qD,qN,qE,qM,qQ,qC,qI,qT,qH,qF,qR,qS]at k;refine fK se k λds vs H1 e1 s1 r1 r1' k1=>?_
  have r:=r1' he;exact⟨by rw[<-r.length];exact j8 (hl _ _ e1),λp hp=>k1 _ _ (bq.of (s1.trans (zq hp)) (iJ (se.sub.same s1) hp r) rfl)⟩
theorem vF{es:List Expr}{ies:Es}(ha:PA X es (tA w g c E ies))(he:dA ies=true)(hl:∀τ ds,zi w ies τ=.ok ds->ds.length<=100000):PE X (.List es pos) (tE w g c E (.lst ies)):=
 PE.imp (wx ha) λσ H Q ⟨τ,S,se,k⟩=>by
  simp only[qU,qW,qY,zc,ze,qV,zd,zf,za,qm,qx,qB,qu,qt,qK,qA,qr,ql,qw,qy,qO,qi,qz,qP,qq,qo,qJ,qL,qD,qN,qE,qM,qQ,qC,qI,qT,qH,qF,qR,qS]at k;refine fK se k λds vs H1 e1 s1 r1 r1' k1=>?_
  have r:=r1' he;exact⟨by rw[<-r.length];exact j8 (hl _ _ e1),λp hp=>k1 _ _ (bq.new (s1.trans (zq hp)) (dW (se.sub.same s1) hp r) (eU s1 hp r))⟩
theorem uA{b:Expr}(h:isSlice b=false):oG b:=λo i=>by cases b<;>first|rfl|(simp[isSlice]at h)
theorem BE(O:XO w g c E X)(ha:PE X a (tE w g c E ia))(hb:PE X b (tE w g c E ib))(hs:isSlice b=false):PE X (.Subscript a b pos) (tE w g c E (.ix ia ib)):=
 PE.imp (A3 (AE O.K O.units) ha hb (uA hs)) λσ H Q ⟨τ,S,se,k⟩=>by
  simp only[qU,qW,qY,zc,ze,qV,zd,zf,za,qm,qx,qB,qu,qt,qK,qA,qr,ql,qw,qy,qO,qi,qz,qP,qq,qo,qJ,qL,qD,qN,qE,qM,qQ,qC,qI,qT,qH,qF,qR,qS]at k;refine zo se k λda va H1 e1 p1 k1=>zo (se.up p1.same) k1 λdb vb H2 e2 p2 k2=>⟨S,da,db,p1.rb.mono p2.same,p2.rb,?_⟩
  cases q:ixD da db with
  |ok r=>rw[q]at k2;exact λv r=>k2 v H2 (bq.of (p1.same.trans p2.same) r rfl)
  |ex z=>exact yH q
  |no=>rw[q]at k2;exact k2
theorem BK(O:XO w g c E X){lo hi:Option Expr}{il ih:OE}(ha:PE X a (tE w g c E ia))(hl:PO X lo (tOe w g c E il))(hh:PO X hi (tOe w g c E ih)):PE X (.Subscript a (.Slice lo hi none p2) pos) (tE w g c E (.sl ia il ih)):=
 PE.imp (t8 (AW O.K) ha hl hh) λσ H Q ⟨τ,S,se,k⟩=>by
  simp only[qU,qW,qY,zc,ze,qV,zd,zf,za,qm,qx,qB,qu,qt,qK,qA,qr,ql,qw,qy,qO,qi,qz,qP,qq,qo,qJ,qL,qD,qN,qE,qM,qQ,qC,qI,qT,qH,qF,qR,qS]at k;refine zo se k λda va H1 e1 p1 k1=>ng (se.up p1.same) k1 λl H2 e2 s2 k2=>ng (se.up (p1.same.trans s2)) k2 λh H3 e3 s3 k3=>?_
  have s:=(p1.same.trans s2).trans s3;refine⟨S,da,se.sub.same s,p1.rb.mono (s2.trans s3),?_⟩;cases q:slD da l h with
  |ok r=>rw[q]at k3;exact λv H' s' r=>k3 v H' (bq.of (s.trans s') r rfl)
  |ex z=>exact B9 q
  |no=>rw[q]at k3;exact k3
theorem tM:PO X none (tOe w g c E .none):=PO.imp rL λσ H Q ⟨τ,S,se,k⟩=>k H (qe.refl _)
theorem wy(ha:PE X a (tE w g c E ia)):PO X (some a) (tOe w g c E (.some ia)):=PO.imp (AB ha) λσ H Q ⟨τ,S,se,k⟩=>by
 simp only[evO]at k;refine zo se k λda va H1 e1 p1 k1=>?_
 cases da with
 |int i=>exact⟨i,p1.rb.int,k1 _ p1.same⟩
 |_=>exact k1.elim
theorem pN(O:XO w g c E X){x:Str}{fr:Bool}{e:Expr}{es:List Expr}{ies:Es}(h:glob c x=some (.fn fr))(ha:PA X (e::es) (tA w g c E ies))(he:dA ies=true)(hs:∀z∈e::es,isStar z=false):PE X (.Call (.Name x p2) (e::es) [] pos) (tE w g c E (.call x ies)):=by
 obtain⟨f,h1,h2⟩:=O.gm h;refine PE.imp (A2 O h2 (O.gl h) (zJ h).2.2.1 ha hs) λσ H Q ⟨τ,S,se,k⟩=>?_
 simp only[qU,qW,qY,zc,ze,qV,zd,zf,za,qm,qx,qB,qu,qt,qK,qA,qr,ql,qw,qy,qO,qi,qz,qP,qq,qo,qJ,qL,qD,qN,qE,qM,qQ,qC,qI,qT,qH,qF,qR,qS]at k;refine fK se k λds vs H1 e1 s1 r1 r1' k1=>⟨S,ds,se.sub.same s1,by rw[List.append_nil];exact r1' he,tR.imp k1 λdd hk v H' s' r f=>hk v H' ⟨s1.trans s',.inl r,λ_=>r,(λz=>by cases z),λz l=>?_⟩⟩
 simp only[cF,(zJ h).2.1,beq_iff_eq,bZ,GK.fn.injEq]at z;exact(f z l).low s1
theorem Bm(O:XO w g c E X){x:Str}{fr:Bool}{e:Expr}{es:List Expr}{ies:Es}(h:glob c x=some (.fn fr))(ha:PA X (e::es) (tA w g c E ies))(hs:∀z∈e::es,isStar z=false):PE X (.Call (.Name x p2) (e::es) [] pos) (tE w g c E (.callo x ies)):=λpins s σ H Q I ⟨τ,S,se,kk⟩=>by
 simp only[qU,qW,qY,zc,ze,qV,zd,zf,za,qm,qx,qB,qu,qt,qK,qA,qr,ql,qw,qy,qO,qi,qz,qP,qq,qo,qJ,qL,qD,qN,qE,qM,qQ,qC,qI,qT,qH,qF,qR,qS]at kk;exact aK kk
theorem A8(ha:PE X a (tE w g c E ia))(hb:PE X b (tE w g c E ib)):PE X (.Dict [some a] [b] pos) (tE w g c E (.dic1 ia ib)):=λpins s σ H Q I ⟨τ,S,se,kk⟩=>by
 simp only[qU,qW,qY,zc,ze,qV,zd,zf,za,qm,qx,qB,qu,qt,qK,qA,qr,ql,qw,qy,qO,qi,qz,qP,qq,qo,qJ,qL,qD,qN,qE,qM,qQ,qC,qI,qT,qH,qF,qR,qS]at kk;exact aK kk
theorem AJ(O:XO w g c E X){o:Expr}{ap cp:Pos}(hb:baseOk o=true)(ho:PE X o (tE w g c E ia))(ha:PE X a (tE w g c E ib))(hs:isStar a=false)(hl:(ap.endLine==cp.line)=true) :
  PE X (.Call (.Attribute o "get" ap) [a] [] cp) (tE w g c E (.dget ia ib)):=λpins s σ H Q I ⟨τ,S,se,kk⟩=>by
 simp only[qU,qW,qY,zc,ze,qV,zd,zf,za,qm,qx,qB,qu,qt,qK,qA,qr,ql,qw,qy,qO,qi,qz,qP,qq,qo,qJ,qL,qD,qN,qE,qM,qQ,qC,qI,qT,qH,qF,qR,qS]at kk;exact aK kk
theorem yx(O:XO w g c E X){o d:Expr}{id:EV.E}{ap cp:Pos}(hb:baseOk o=true)(ho:PE X o (tE w g c E ia))(ha:PE X a (tE w g c E ib))(hd:PE X d (tE w g c E id))(hs:isStar a=false)(hsd:isStar d=false)(hes:esc id=true)(hl:(ap.endLine==cp.line)=true) :
  PE X (.Call (.Attribute o "get" ap) [a,d] [] cp) (tE w g c E (.dget2 ia ib id)):=λpins s σ H Q I ⟨τ,S,se,kk⟩=>by
 simp only[qU,qW,qY,zc,ze,qV,zd,zf,za,qm,qx,qB,qu,qt,qK,qA,qr,ql,qw,qy,qO,qi,qz,qP,qq,qo,qJ,qL,qD,qN,qE,qM,qQ,qC,qI,qT,qH,qF,qR,qS]at kk;exact aK kk
theorem pf(O:XO w g c E X)(hc:X.calm=true){x:Str}{bb:Option B1}(h:glob c x=some (.ty "list" bb))(ha:PE X a (tE w g c E ia))(hs:isStar a=false):PE X (.Call (.Name x p2) [a] [] pos) (tE w g c E (.lsd ia)):=λpins s σ H Q I ⟨τ,S,se,kk⟩=>by
 simp only[qU,qW,qY,zc,ze,qV,zd,zf,za,qm,qx,qB,qu,qt,qK,qA,qr,ql,qw,qy,qO,qi,qz,qP,qq,qo,qJ,qL,qD,qN,qE,qM,qQ,qC,qI,qT,qH,qF,qR,qS]at kk;exact aK kk
theorem uS:PE X (.Dict [] [] pos) (tE w g c E .dic):=PE.imp A_ λσ H Q ⟨τ,S,se,k⟩ p hp=>by
 simp only[qU,qW,qY,zc,ze,qV,zd,zf,za,qm,qx,qB,qu,qt,qK,qA,qr,ql,qw,qy,qO,qi,qz,qP,qq,qo,qJ,qL,qD,qN,qE,qM,qQ,qC,qI,qT,qH,qF,qR,qS]at k;exact k _ _ (bq.new (zq hp) (sA (kvs:=[]) se.sub hp) (uV (kvs:=[]) (qe.refl _) hp))
theorem oQ{b:B1}{S:Sh}{H0 H:Hp}{ds:List D}{vs:List V}{Q:VK}{ies:Es}(s:qe H0 H)(hS:Sub S H)(r:dX g H S ds vs)(k:tR g E H (b1 b ds) λd=>∀v H',bq g c (.bi b ies) S H0 d v H'->Q v H'):rB1 g b vs H Q:=by
 refine⟨S,ds,hS,r,?_⟩;cases q:b1 b ds with
 |ok d=>
  rw[q]at k;have fw:fresh c (.bi b ies)=true->b=.list\/b=.sorted:=λz=>by cases b<;>simp[fresh]at z ⊢
  exact λv H' s' r' f=>k v H' ⟨s.trans s',.inl r',λ_=>r',λz=>(f (fw z)).low s,λz _=>(f (fw z)).low s⟩
 |ex z=>exact xN q
 |no=>rw[q]at k;exact k
theorem Al(O:XO w g c E X){x:Str}{b:B1}{e:Expr}{es:List Expr}{ies:Es}(h:glob c x=some (.bi b))(hc:X.calm=true\/b=.len\/b=.abs)(ha:PA X (e::es) (tA w g c E ies))(hs:∀z∈e::es,isStar z=false):PE X (.Call (.Name x p2) (e::es) [] pos) (tE w g c E (.bi b ies)):=by
 obtain⟨h1,h2,id,h3⟩:=O.gm h;have hb:=Ao b;rw[<-h2,h3]at hb;have hcall:=nP (X:=X) (g:=g) O.K O.units b (by rcases hc with z|z|z;exact .inl z;exact .inr (.inl z);exact .inr (.inr (.inl z)));rw[h3]at hcall;refine PE.imp (kB hcall (O.gl h) h1 hb ha (zJ h).2.2.2 (zJ h).2.2.1 (qX (hs e aR)) (iP λz hz=>hs z (aP _ hz))) λσ H Q ⟨τ,S,se,k⟩=>?_
 simp only[qU,qW,qY,zc,ze,qV,zd,zf,za,qm,qx,qB,qu,qt,qK,qA,qr,ql,qw,qy,qO,qi,qz,qP,qq,qo,qJ,qL,qD,qN,qE,qM,qQ,qC,qI,qT,qH,qF,qR,qS]at k;exact fK se k λds vs H1 e1 s1 r1 r1' k1=>oQ (ies:=ies) s1 (se.sub.same s1) r1 k1
theorem AS(O:XO w g c E X){x:Str}{n:String}{b:B1}{e:Expr}{es:List Expr}{ies:Es}(h:glob c x=some (.ty n (some b)))(ha:PA X (e::es) (tA w g c E ies))(hs:∀z∈e::es,isStar z=false):PE X (.Call (.Name x p2) (e::es) [] pos) (tE w g c E (.bi b ies)):=by
 obtain⟨h1,h2,_,h3⟩:=O.gm h;obtain⟨_,h4⟩:=h3 b rfl;have hcall:=nP (X:=X) (g:=g) O.K O.units b (by cases b<;>simp[b1V]at h4 ⊢);rw[h4]at hcall;refine PE.imp (wM hcall (O.gl h) h1 h2 ha (zJ h).2.2.2 (zJ h).2.2.1 (qX (hs e aR)) (iP λz hz=>hs z (aP _ hz))) λσ H Q ⟨τ,S,se,k⟩=>?_
 simp only[qU,qW,qY,zc,ze,qV,zd,zf,za,qm,qx,qB,qu,qt,qK,qA,qr,ql,qw,qy,qO,qi,qz,qP,qq,qo,qJ,qL,qD,qN,qE,qM,qQ,qC,qI,qT,qH,qF,qR,qS]at k;exact fK se k λds vs H1 e1 s1 r1 r1' k1=>oQ (ies:=ies) s1 (se.sub.same s1) r1 k1
end
section
variable{w:W}{g:Gc}{c:Cc}{E:XK}{X:Cx}{a b d f:Expr}{ia ib id' if':EV.E}{pos p2:Pos}{ta tb:T}
noncomputable def vy(w:W)(g:Gc)(d:D)(vc:V)(bb:Bool):Cl->Prop
 | .ty n=>vc=.ty n/\((n∈["int","bool","str","list","tuple"]/\∃t,tyD d=some t/\bb=fh t n)\/∃k,d=.exn k/\w.sub k (.ty n)=some bb)
 | .ex x=>∃D k,g.clA x=some D/\vc=.ref D/\d=.exn k/\w.sub k (.ex x)=some bb
noncomputable def clV(g:Gc)(vc:V):Cl->Prop
 | .ty n=>vc=.ty n/\(n∈["int","bool","str","list","tuple"]\/n = "ValueError")
 | .ex x=>∃D,g.clA x=some D/\vc=.ref D
theorem vt(O:XO w g c E X):zh X (.builtin "isinstance") (λxs H Q=>∃(S:Sh) (d:D) (v:V) (cl:Cl) (vc:V) (bb:Bool),xs=[v,vc]/\zQ g H S d v/\vy w g d vc bb cl/\Q (.bl bb) H):=by
 have k:=(vG (X:=X) (g:=g) O.K).or (w6 (X:=X));refine zh.imp k λxs H Q ⟨S,d,v,cl,vc,bb,e,rd,h,q⟩=>?_
 have exn:∀(kk:Str) (cv:ae),d=.exn kk->ji vc=some cv->(∃C,g.clA kk=some C/\cD g.K C/\bf g.K (.ref C) cv=some bb)->∃x c cv t b,xs=[x,c]/\ji c=some cv/\TyX X.K H x t/\bf X.K t cv=some b/\Q (.bl b) H:=λkk cv ed hv ⟨C,h1,h2,h3⟩=>by
  subst ed;cases rd.rep with
  | @exn _ a C' z1 z2=>
   rw[h1]at z1;cases z1;exact⟨_,vc,cv,.ref C,bb,e,hv,.inr ⟨a,C,rfl,rfl,z2,by rw[O.K];exact h2⟩,by rw[O.K];exact h3,q⟩
 cases cl with
 |ty n=>
  obtain⟨rfl,⟨hn,t,ht,rfl⟩|⟨kk,rfl,hk⟩⟩:=h
  ·exact .inl ⟨S,d,v,n,t,e,rd,ht,hn,q⟩
  ·obtain⟨C,cv,z1,z2,z3,z4,z5⟩:=O.sub kk (.ty n) bb hk;exact .inr (exn kk (.type n) rfl rfl ⟨C,z1,z2,z5▸z3⟩)
 |ex x=>
  obtain⟨D,kk,h1,rfl,rfl,hk⟩:=h;obtain⟨C,cv,z1,z2,z3,D',z4,z5⟩:=O.sub kk (.ex x) bb hk;rw[h1]at z4;cases z4;exact .inr (exn kk (.ref D) rfl rfl ⟨C,z1,z2,z5▸z3⟩)
theorem xi{x:D}{cl:Cl}:(∃t n,tyD x=some t/\cl=.ty n/\n≠"ValueError"/\b9 w x cl=.ok (.bl (fh t n)))\/(∃k b,x=.exn k/\w.sub k cl=some b/\b9 w x cl=.ok (.bl b))\/b9 w x cl=.no:=by
 unfold b9;cases e:tyD x with
 |some t=>
  cases cl with
  |ty n=>
   by_cases hn:n = "ValueError"
   ·exact .inr (.inr (by simp[hn]))
   ·exact .inl ⟨t,n,rfl,rfl,hn,by simp[hn]⟩
  |ex y=>exact .inr (.inr rfl)
 |none=>
  cases x with
  |exn k=>
   cases q:w.sub k cl with
   |none=>exact .inr (.inr (by simp[q]))
   |some b=>exact .inr (.inl ⟨k,b,rfl,q,by simp[q]⟩)
  |fn y=>exact .inr (.inr (by cases cl<;>rfl))
  |_=>cases e
theorem rC(O:XO w g c E X){x:Str}{k:Expr}{cl:Cl}(h:glob c x=some .isi)(ha:PE X a (tE w g c E ia))(hk:iW c k=some cl)(hs:isStar a=false):PE X (.Call (.Name x p2) [a,k] [] pos) (tE w g c E (.isi ia cl)):=by
 obtain⟨h1,rfl⟩:=O.gm h;obtain⟨y,q,rfl⟩:∃y q,k=.Name y q:=by
  cases k<;>first|exact⟨_,_,rfl⟩|(simp[iW]at hk)
 obtain⟨vc,hv,hc⟩:∃vc,PE X (.Name y q) (tC vc)/\clV g vc cl:=by
  simp only[iW]at hk;split at hk
  ·rename_i n b e
   cases hk;obtain⟨z1,z2,z3,_⟩:=O.gm e;exact⟨.ty n,uK (O.gl e) z1 z2 rfl (zJ e).2.2.2 (zJ e).2.2.1,rfl,z3⟩
  ·rename_i e
   cases hk;obtain⟨C,z1,z2⟩:=O.gm e;exact⟨.ref C,ki (O.gl e) z1 rfl (zJ e).2.2.1,C,z2,rfl⟩
  ·rename_i e
   cases hk;obtain⟨C,z1,z2⟩:=O.gm e;exact⟨.ref C,ki (O.gl e) z1 rfl (zJ e).2.2.1,C,z2,rfl⟩
  ·cases hk
 refine PE.imp (kB (vt O) (O.gl h) h1 (by decide +kernel) (cU ha (cU hv dP) (qX hs)) (by decide) (by decide) (qX hs) rfl) λσ H Q ⟨τ,S,se,k⟩=>?_
 simp only[qU,qW,qY,zc,ze,qV,zd,zf,za,qm,qx,qB,qu,qt,qK,qA,qr,ql,qw,qy,qO,qi,qz,qP,qq,qo,qJ,qL,qD,qN,qE,qM,qQ,qC,qI,qT,qH,qF,qR,qS]at k;refine zo se k λda va H1 e1 p1 k1=>?_
 rcases xi (w:=w) (x:=da) (cl:=cl)with ⟨t,n,z1,rfl,z2,z3⟩|⟨kk,bb,rfl,z2,z3⟩|z3
 ·rw[z3]at k1;obtain⟨rfl,hc|hc⟩:=hc
  ·exact⟨S,da,va,.ty n,.ty n,_,rfl,p1.rb,⟨rfl,.inl ⟨hc,t,z1,rfl⟩⟩,k1 _ _ (bq.of p1.same (.bl _) rfl)⟩
  ·exact absurd hc z2
 ·rw[z3]at k1;refine⟨S,.exn kk,va,cl,vc,bb,rfl,p1.rb,?_,k1 _ _ (bq.of p1.same (.bl _) rfl)⟩;cases cl with
  |ty n=>exact⟨hc.1,.inr ⟨kk,rfl,z2⟩⟩
  |ex x=>obtain⟨D,z4,z5⟩:=hc;exact⟨D,kk,z4,z5,rfl,z2⟩
 ·rw[z3]at k1;exact k1.elim
theorem ui(O:XO w g c E X)(ha:PE X a (tE w g c E ia))(he:∀whole,isTrue a X.env whole=(do let v <-whole;standAt a.pos;holding [v] (truthy v))):PT X a (tT w g c E (.val ia)):=
 PT.imp (ud ha he) λσ H Q ⟨τ,S,se,k⟩=>by
  simp only[ez,eA,eG,eE,eF,eD,eK]at k;refine zo se k λda va H1 e1 p1 k1=>?_
  cases q:truth da with
  |ok z=>rw[q]at k1;exact⟨z,yi O.K p1.rb q,k1 _ p1.same⟩
  |ex z=>exact absurd q sM
  |no=>rw[q]at k1;exact k1.elim
theorem xK(ha:PT X a (tT w g c E ta)):PT X (.UnaryOp .Not a pos) (tT w g c E (.not ta)):=
 PT.imp (wt ha) λσ H Q ⟨τ,S,se,k⟩=>by
  simp only[ez,eA,eG,eE,eF,eD,eK]at k;exact iO se k λz H1 e1 s1 k1=>k1 _ s1
theorem AZ{rest:List Expr}(ha:PT X a (tT w g c E ta))(hb:PW X (.BoolOp .And (b::rest) pos) (tT w g c E tb)):PW X (.BoolOp .And (a::b::rest) pos) (tT w g c E (.and ta tb)):=
 PW.imp (x_ ha hb) λσ H Q ⟨τ,S,se,k⟩=>by
  simp only[ez,eA,eG,eE,eF,eD,eK]at k;refine iO se k λz H1 e1 s1 k1=>?_
  cases z with
  |true=>exact⟨τ,S,se.up s1,tR.imp k1 λb hk H' s=>hk H' (s1.trans s)⟩
  |false=>exact k1 _ s1
theorem tH{rest:List Expr}(ha:PT X a (tT w g c E ta))(hb:PW X (.BoolOp .Or (b::rest) pos) (tT w g c E tb)):PW X (.BoolOp .Or (a::b::rest) pos) (tT w g c E (.or ta tb)):=
 PW.imp (rW ha hb) λσ H Q ⟨τ,S,se,k⟩=>by
  simp only[ez,eA,eG,eE,eF,eD,eK]at k;refine iO se k λz H1 e1 s1 k1=>?_
  cases z with
  |false=>exact⟨τ,S,se.up s1,tR.imp k1 λb hk H' s=>hk H' (s1.trans s)⟩
  |true=>exact k1 _ s1
theorem PI.or{tg e:Expr}{t t':TI}(h:PI X tg e t)(h':PI X tg e t'):PI X tg e (λσ H R=>t σ H R\/t' σ H R):=λpins s σ H R I q=>by
 rcases q with q|q
 ·exact h pins s σ H R I q
 ·exact h' pins s σ H R I q
theorem mJ{K:ar}{a:Addr}{vs:List V}{ds:List D}{H:Hp}{S:Sh}(hl:SqL K H a vs)(r:zb g (hid H S) ds vs):Goes g (Itl K a) ds H S:=by
 refine⟨λi hi=>⟨vs,hl,by rw[<-r.length];exact hi⟩,λi d hd=>?_⟩;obtain⟨v,h1,h2⟩:=r.get hd;refine⟨⟨vs,v,hl,h1⟩,λx H' ⟨e,hx⟩=>?_⟩;subst e;have:=hx vs hl;rw[h1]at this;cases this;exact⟨qe.refl _,h2⟩
theorem kR{K:ar}{a:Addr}{vs:List V}{ds:List D}{H:Hp}{S:Sh}(hl:SqT K H a vs)(r:zb g (hid H S) ds vs):Goes g (Itt K a) ds H S:=by
 refine⟨λi hi=>⟨vs,hl,by rw[<-r.length];exact hi⟩,λi d hd=>?_⟩;obtain⟨v,h1,h2⟩:=r.get hd;refine⟨⟨vs,v,hl,h1⟩,λx H' ⟨e,hx⟩=>?_⟩;subst e;have:=hx vs hl;rw[h1]at this;cases this;exact⟨qe.refl _,h2⟩
theorem lY:∀{xs:List D}{k i:Nat}{d:D},(dt k xs)[i]? = some d->∃x,xs[i]? = some x/\d=.tup [.int ((k+i:Nat):Int),x]
 | [],_,_,_,h=>by simp[dt]at h
 |x::r,k,0,d,h=>by simp[dt]at h;exact⟨x,rfl,by rw[<-h];rfl⟩
 |x::r,k,i+1,d,h=>by
  simp only[dt,List.getElem?_cons_succ]at h;obtain⟨y,h1,h2⟩:=lY h;exact⟨y,by simpa using h1,by rw[h2,show k+1+i=k+(i+1)by lia]⟩
theorem k8:∀(xs:List D) (k:Nat),(dt k xs).length=xs.length
 | [],_=>rfl
 |x::r,k=>by simp[dt,k8 r]
theorem nN{K:ar}{a:Addr}{vs:List V}{ds:List D}{H:Hp}{S:Sh}(hl:SqL K H a vs)(r:zb g (hid H S) ds vs)(hS:Sub S H):Goes g (Ite K a) (dt 0 ds) H S:=by
 refine⟨λi hi=>⟨vs,hl,by rw[<-r.length,<-k8 ds 0];exact hi⟩,λi d hd=>?_⟩;obtain⟨y,h0,rfl⟩:=lY hd;obtain⟨v,h1,h2⟩:=r.get h0;refine⟨⟨vs,v,hl,h1⟩,λx H' ⟨p,z,hp,e1,e2,hx⟩=>?_⟩;subst e1 e2;have:=hx vs hl;rw[h1]at this;cases this;refine⟨zq hp,?_⟩;rw[Nat.zero_add];exact iJ hS hp (.cons (.int _) (.cons h2 .nil))
theorem iu{lo:Int}{n:Nat}{H:Hp}{S:Sh}:Goes g (Itr lo n) (zZ lo n) H S:=by
 refine⟨λi hi=>by show n<=i;simpa[zZ]using hi,λi d hd=>?_⟩;unfold zZ at hd;rw[List.getElem?_map]at hd;cases q:(a9 n)[i]? with
 |none=>rw[q]at hd;cases hd
 |some j=>
  rw[q]at hd;cases hd;have hi:=(List.getElem?_eq_some_iff.mp q)
  obtain⟨h1,h2⟩:=hi;simp at h1 h2;subst h2;exact⟨h1,λx H' ⟨e1,e2⟩=>by subst e1 e2;exact⟨qe.refl _,.int _⟩⟩
theorem Ab(O:XO w g c E X){tg:Expr}(ha:PE X a (tE w g c E ia)):PI X tg a (tIt w g c E (.seq ia)):=
 PI.imp (PI.or (xu ha) (Cb ha)) λσ H R ⟨τ,S,se,k⟩=>by
  have k0:=k;simp only[evI]at k;cases q:evE w ia τ with
  |ex z=>exact .inl ⟨τ,S,se,by rw[q]at k ⊢;exact k⟩
  |no=>rw[q]at k;exact k.elim
  |ok dd=>
   cases dd with
   |lst ds=>
    refine .inl (zo se k λda va H1 e1 p1 k1=>?_);rw[q]at e1;cases e1;obtain⟨ad,vs,rfl,h1,r1⟩:=p1.rb.lst;rw[<-O.K]at h1;refine⟨ad,rfl,⟨vs,h1⟩,k1 _ H1 p1.same (λH2 S2 s1 s2 _=>mJ (s1.seq h1) (r1.mono s2)) λho H2 S2 s2 _=>?_⟩;have he:esc ia=true:=by
     cases ia<;>first|rfl|(simp[owned]at ho)
    cases p1.st he with
    |lst h2 r2=>exact mJ (by rw[O.K];exact(s2.trans cM).seq h2) (r2.mono s2)
   |tup ds=>
    refine .inr (zo se k λda va H1 e1 p1 k1=>?_);rw[q]at e1;cases e1;cases p1.rb.strong (by intro _ z;cases z)with
    |tup h2 r2=>
     refine⟨_,rfl,⟨_,by rw[O.K];exact ee cM h2⟩,k1 _ H1 p1.same (λH2 S2 s1 s2 _=>kR (by rw[O.K];exact ee (s2.trans cM) h2) (r2.mono s2)) λho H2 S2 s2 _=>kR (by rw[O.K];exact ee (s2.trans cM) h2) (r2.mono s2)⟩
   |_=>rw[q]at k;exact k.elim
theorem kf{j:Int}(h:qZ j=true):-1000000<=j/\j<=1000000:=by simpa[qZ]using h
theorem sO(O:XO w g c E X){x:Str}{tg:Expr}(h:glob c x=some .rng)(ha:PE X a (tE w g c E ia))(hs:isStar a=false):PI X tg (.Call (.Name x p2) [a] [] pos) (tIt w g c E (.rng ia)):=by
 obtain⟨h1,rfl⟩:=O.gm h;refine PI.imp (ux (O.gl h) h1 (cU ha dP (qX hs)) (qX hs)) λσ H R ⟨τ,S,se,k⟩=>?_
 simp only[evI]at k;refine zo se k λda va H1 e1 p1 k1=>?_
 cases da with
 |int j=>
  simp only at k1;cases q:qZ j with
  |true=>
   rw[q,if_pos rfl]at k1;obtain⟨z1,z2⟩:=kf q;exact⟨j,by rw[p1.rb.int],by lia,by lia,k1 _ H1 p1.same (λ_ _ _ _ _=>iu) λ_ _ _ _ _=>iu⟩
  |false=>rw[q]at k1;exact k1.elim
 |_=>exact k1.elim
theorem yl(O:XO w g c E X){x:Str}{tg:Expr}(h:glob c x=some .rng)(ha:PE X a (tE w g c E ia))(hb:PE X b (tE w g c E ib))(hs:isStar a=false)(hs':isStar b=false):PI X tg (.Call (.Name x p2) [a,b] [] pos) (tIt w g c E (.rng2 ia ib)):=by
 obtain⟨h1,rfl⟩:=O.gm h;refine PI.imp (sT (O.gl h) h1 (cU ha (cU hb dP (qX hs')) (qX hs)) (by rw[qX hs,qX hs'];rfl) (qX hs')) λσ H R ⟨τ,S,se,k⟩=>?_
 simp only[evI]at k;refine zo se k λda va H1 e1 p1 k1=>zo (se.up p1.same) k1 λdb vb H2 e2 p2 k2=>?_
 cases da with
 |int i=>
  cases db with
  |int j=>
   simp only at k2;cases q:qZ i&&qZ j with
   |true=>
    rw[q,if_pos rfl]at k2;simp only[aF]at q;obtain⟨z1,z2⟩:=kf q.1;obtain⟨z3,z4⟩:=kf q.2;exact⟨i,j,by rw[p1.rb.int,p2.rb.int],⟨by lia,by lia,by lia,by lia⟩,k2 _ H2 (p1.same.trans p2.same) (λ_ _ _ _ _=>iu) λ_ _ _ _ _=>iu⟩
   |false=>rw[q]at k2;exact k2.elim
  |_=>exact k2.elim
 |_=>exact k2.elim
theorem Ca(O:XO w g c E X){x:Str}{es:List Expr}{ek:Nat}{epos:Pos}(h:glob c x=some .enum)(ha:PE X a (tE w g c E ia))(hs:isStar a=false):PI X (.Tuple es ek epos) (.Call (.Name x p2) [a] [] pos) (tIt w g c E (.enum ia)):=by
 obtain⟨h1,rfl⟩:=O.gm h;refine PI.imp (Co (O.gl h) h1 (by decide +kernel) (cU ha dP (qX hs)) (qX hs)) λσ H R ⟨τ,S,se,k⟩=>?_
 simp only[evI]at k;refine zo se k λda va H1 e1 p1 k1=>?_
 cases da with
 |lst ds=>
  obtain⟨ad,vs,rfl,h1,r1⟩:=p1.rb.lst;rw[<-O.K]at h1;refine⟨ad,rfl,⟨vs,h1⟩,k1 _ H1 p1.same (λH2 S2 s1 s2 s3=>nN (s1.seq h1) (r1.mono s2) s3) λho H2 S2 s2 s3=>?_⟩;have he:esc ia=true:=by
   cases ia<;>first|rfl|(simp[owned]at ho)
  cases p1.st he with
  |lst h2 r2=>exact nN (by rw[O.K];exact(s2.trans cM).seq h2) (r2.mono s2) s3
 |_=>exact k1.elim
theorem wV(O:XO w g c E X){x:Str}{es:List Expr}{ek:Nat}{epos:Pos}(h:glob c x=some .zip)(ha:PE X a (tE w g c E ia))(hb:PE X b (tE w g c E ib))(hs:isStar a=false)(hs':isStar b=false):PI X (.Tuple es ek epos) (.Call (.Name x p2) [a,b] [] pos) (tIt w g c E (.zip ia ib)):=λpins s σ H R I ⟨τ,S,se,kk⟩=>by
 simp only[evI]at kk;exact aK kk
end
noncomputable def gk:List Nat->TGs
 | []=>lZ
 |i::is=>mw (eJ i) (gk is)
noncomputable def gT(K:ar):Tg->TG
 | .nm i=>eJ i
 | .tp is=>kY K is.length (gk is)
section
variable{w:W}{g:Gc}{c:Cc}{E:XK}{X:Cx}
theorem zk{x:Str}{i:Nat}(h:bG c x=some i):loc c x=some i/\(c.nm.lookup x=some .local\/(c.nm.lookup x=some .cell/\(c.fnc=true\/c.oc.contains x=true))):=by
 unfold bG at h;split at h
 ·rename_i q;exact⟨h,.inl q⟩
 ·rename_i q
  split at h
  ·rename_i z;exact⟨h,.inr ⟨q,by simpa using z⟩⟩
  ·cases h
 ·cases h
theorem kD(O:XO w g c E X){x:Str}{i:Nat}{pos:Pos}(h:bG c x=some i):PG X (.Name x pos) (eJ i):=by
 obtain⟨h1,h2⟩:=zk h;obtain⟨h3,_⟩:=zC h1;refine xB (by rw[O.N];exact O.nd) (by rw[O.N];exact h3) (by unfold L2.Loc;rw[O.nm];rcases h2 with z|z;exact .inl z;exact .inr z.1) ?_;rcases h2 with z|z
 ·exact .inr (by rw[O.nm];exact z)
 ·exact .inl (O.fn x z.2)
theorem nO:∀{es:List Expr}{xs:List Str},fM es=some xs->∃ps:List Pos,es=(xs.zip ps).map (λp=>Expr.Name p.1 p.2)/\ps.length=xs.length
 | [],xs,h=>by simp[fM]at h;subst h;exact⟨[],rfl,rfl⟩
 |e::es,xs,h=>by
  cases e with
  |Name y p=>
   simp only[fM,bu]at h;obtain⟨ys,h1,rfl⟩:=h;obtain⟨ps,h2,h3⟩:=nO h1;exact⟨p::ps,by rw[h2];rfl,by simp[h3]⟩
  |_=>simp[fM]at h
theorem n_(O:XO w g c E X):∀{xs:List Str}{ps:List Pos}{is:List Nat},ps.length=xs.length->xs.mapM (bG c)=some is ->
  PGs X ((xs.zip ps).map λp=>Expr.Name p.1 p.2) (gk is)/\(assignEach ((xs.zip ps).map λp=>Expr.Name p.1 p.2) X.env).length=is.length/\(assignEach ((xs.zip ps).map λp=>Expr.Name p.1 p.2) X.env).findIdx? (·.1)=none
 | [],ps,is,_,h=>by
  simp at h;subst h;exact⟨xG,rfl,rfl⟩
 |x::xs,[],_,h,_=>by simp at h
 |x::xs,p::ps,is,hl,h=>by
  simp only[List.mapM_cons,aB,az]at h;obtain⟨i,h1,js,h2,h3⟩:=h;cases h3;obtain⟨r1,r2,r3⟩:=n_ O (xs:=xs) (ps:=ps) (by simpa using hl) h2;refine⟨vW (kD O h1) r1 rfl,?_,?_⟩
  ·show (assignEach ((xs.zip ps).map λp=>Expr.Name p.1 p.2) X.env).length+1=js.length+1;rw[r2]
  ·show List.findIdx? (·.1) ((false,_)::assignEach ((xs.zip ps).map λp=>Expr.Name p.1 p.2) X.env)=none;rw[List.findIdx?_cons];simp only[bI,if_false];rw[r3];rfl
theorem gQ(O:XO w g c E X){e:Expr}{tg:Tg}(h:cTg c e=some tg):PG X e (gT X.K tg):=by
 cases e with
 |Name x p=>
  simp only[cTg]at h;split at h
  ·cases h
  ·simp only[bu]at h;obtain⟨i,h1,rfl⟩:=h;exact kD O h1
 |Tuple es k p=>
  simp only[cTg]at h;split at h
  ·rename_i hc
   simp only[aB,az]at h;obtain⟨xs,h1,h⟩:=h;split at h
   ·cases h
   ·simp only[az]at h;obtain⟨is,h2,h⟩:=h;split at h
    ·cases h;obtain⟨ps,rfl,hl⟩:=nO h1;obtain⟨r1,r2,r3⟩:=n_ O hl h2;exact vj (O.calm hc) r1 r2 r3
    ·cases h
  ·cases h
 |_=>simp[cTg]at h
noncomputable def gG(c:Cc):Tg->Prop
 | .nm i=>∀x,c.N[i]? = some x->c.own.contains x=false
 | .tp is=>∀i∈is,∀x,c.N[i]? = some x->c.own.contains x=false
theorem o6{α β:Type}{f:α->Option β}:∀{xs:List α}{ys:List β},xs.mapM f=some ys->∀y∈ys,∃x∈xs,f x=some y
 | [],ys,h,y,hy=>by simp at h;subst h;simp at hy
 |x::xs,ys,h,y,hy=>by
  simp only[List.mapM_cons,aB,az]at h;obtain⟨z,h1,zs,h2,h3⟩:=h;cases h3;rcases aL.mp hy with rfl|hy
  ·exact⟨x,aR,h1⟩
  ·obtain⟨x',h4,h5⟩:=o6 h2 y hy;exact⟨x',aP _ h4,h5⟩
theorem kg{e:Expr}{tg:Tg}(h:cTg c e=some tg):gG c tg:=by
 have one:∀{x:Str}{i:Nat},c.own.contains x=false->bG c x=some i->∀y,c.N[i]? = some y->c.own.contains y=false:=λ{x i} ho hl y hy=>by
  obtain⟨h3,_⟩:=zC (zk hl).1;rw[h3]at hy;cases hy;exact ho
 cases e with
 |Name x p=>
  simp only[cTg]at h;split at h
  ·cases h
  ·rename_i ho
   simp only[bu]at h;obtain⟨i,h1,rfl⟩:=h;exact one (by simpa using ho) h1
 |Tuple es k p=>
  simp only[cTg]at h;split at h
  ·simp only[aB,az]at h;obtain⟨xs,h1,h⟩:=h;split at h
   ·cases h
   ·rename_i ho
    simp only[az]at h;obtain⟨is,h2,h⟩:=h;split at h
    ·cases h;intro i hi;obtain⟨x,hx,hl⟩:=o6 h2 i hi;refine one ?_ hl;cases q:c.own.contains x with
     |false=>rfl
     |true=>exact absurd (List.any_eq_true.mpr ⟨x,hx,q⟩) ho
    ·cases h
  ·cases h
 |_=>simp[cTg]at h
section
variable{τ τ':Env}{σ:L2.St}{H:Hp}{S:Sh}
theorem SE.set{i:Nat}{d:D}{v:V}(se:SE g c τ σ H S)(r:Rep g (hid H S) d v):SE g c (τ.set i (some d)) (σ.set i (some v)) H S:=by
 refine⟨by simp[se.len],λj e h=>?_,se.sub⟩;by_cases hij:i=j
 ·subst hij;by_cases hi:i<τ.length
  ·simp[hi]at h;subst h;have hi':i<σ.length:=by rw[<-se.len];exact hi
   exact⟨v,by simp[hi'],.inl r,λ_ _ _=>r⟩
  ·rw[List.set_eq_of_length_le (by lia)]at h;rw[List.getElem?_eq_none (by lia)]at h;cases h
 ·rw[List.getElem?_set_ne hij]at h ⊢;exact se.val j e h
theorem SE.setAll{is:List Nat}:∀{ds:List D}{vs:List V}{τ:Env}{σ:L2.St}{Q:L2.St->Hp->Prop},SE g c τ σ H S->zb g (hid H S) ds vs->setAll is ds τ=.ok τ'->(∀σ',SE g c τ' σ' H S->Q σ' H)->gk is vs σ H Q:=by
 induction is with
 |nil=>
  intro ds vs τ σ Q se r h k;cases r with
  |nil=>cases (show R.ok τ=R.ok τ' from h);exact⟨rfl,k σ se⟩
  |cons _ _=>cases (show R.no=R.ok τ' from h)
 |cons i is ih=>
  intro ds vs τ σ Q se r h k;cases r with
  |nil=>cases (show R.no=R.ok τ' from h)
  |cons r rs=>exact⟨_,_,rfl,ih (se.set r) rs h k⟩
theorem Ah(O:X.K=g.K){tg:Tg}{d:D}{v:V}{Q:L2.St->Hp->Prop}(se:SE g c τ σ H S)(r:Rep g (hid H S) d v)(h:store tg d τ=.ok τ')(k:∀σ',SE g c τ' σ' H S->Q σ' H):gT X.K tg v σ H Q:=by
 cases tg with
 |nm i=>
  simp only[store,R.ok.injEq]at h;subst h;exact k _ (se.set r)
 |tp is=>
  cases d with
  |tup ds=>
   simp only[store]at h;split at h
   ·rename_i hl
    cases r with
    |tup h1 r1=>exact⟨_,_,rfl,by rw[O];exact ee cM h1,by rw[<-r1.length];exact hl,se.setAll r1 h k⟩
   ·cases h
  |_=>simp[store]at h
end
end
abbrev cP(c:Cc)(sc:aS):Cc:={c with nm:=iI sc.names c.nm,N:=bT sc.names,fnc:=false,oc:=gr sc.names}
section
variable{w:W}{g:Gc}{c:Cc}{E:XK}{X:Cx}
theorem XO.comp(O:XO w g c E X){sc:aS}(hk:sc.kind=.function)(hnd:(bT sc.names).Nodup)(cl:List (Str×Addr))(C:Addr)(s₀:af)(H₀:Hp)(fp:List Addr):XO w g (cP c sc) E0 (zY X (bT sc.names) sc cl C s₀ H₀ fp) where
 K:=O.K
 nm:=by
  show (relabel sc X.env).names=iI sc.names c.nm;unfold relabel iI;simp only
  congr 1
  funext p;have h1:(X.env.scope.kind==ScopeKind.function)=true:=by rw[O.kind];rfl
  have h2:X.env.kindOf p.1=c.nm.lookup p.1:=by show X.env.scope.names.lookup p.1=_;rw[O.nm]
  obtain⟨n,k⟩:=p;simp only at h2;simp only[h1,h2,Bool.and_true]
 N:=rfl
 nd:=hnd
 calm:=O.calm
 units:=O.units
 fn:=λx z=>z.elim (λz=>by cases z) λz=>z
 kind:=hk
 pass:=kq rfl rfl
 gok:=O.gok
 fns:=O.fns
 sub:=O.sub
theorem sD{α:Type}{τ:Env}{σ:L2.St}{H:Hp}{S:Sh}{it:It}{f:List D->R α}{P:α->Prop}{R':L2.It->Hp->Prop}(se:SE g c τ σ H S)(h:tR g E H ((evI w it τ).bind f) P)
  (k:∀ds J H',evI w it τ=.ok ds->qe H H'->(∀H2 S2,qe H' H2->qe (hid H' S) (hid H2 S2)->Sub S2 H2->Goes g J ds H2 S2)->(owned it=false->∀H2 S2,qe (hid H' S) (hid H2 S2)->Sub S2 H2->Goes g J ds H2 S2)->tR g E H' (f ds) P->R' J H'):tIt w g c E it σ H R':=by
 refine⟨τ,S,se,?_⟩;cases q:evI w it τ with
 |ok d=>rw[q]at h;exact λJ H' s k1 k2=>k d J H' q s k1 k2 (tR.up h s)
 |ex x=>rw[q]at h;exact h
 |no=>rw[q]at h;exact h
theorem ug{α:Type}{r:R α}{x:Str}:noEx r≠.ex x:=by cases r<;>intro h<;>cases h
theorem vE{α:Type}{r:R α}{a:α}(h:noEx r=.ok a):r=.ok a:=by cases r<;>first|exact h|cases h
theorem nS{body:D->Env->R (Env×List D)}(hb:∀d τ x,body d τ≠.ex x):∀{ds:List D}{τ:Env}{acc:List D}{x:Str},cf body ds τ acc≠.ex x
 | [],_,_,_,h=>by cases h
 |d::r,τ,acc,x,h=>by
  simp only[cf]at h;cases q:body d τ with
  |ok p=>rw[q]at h;exact nS hb h
  |ex y=>exact hb _ _ _ q
  |no=>rw[q]at h;cases h
theorem SE.caps{sc:aS}{cap:List (Option Nat)}{τ:Env}{σ:L2.St}{H:Hp}{S:Sh}(O:XO w g c E X)(hc:my X (bT sc.names) cap sc)(se:SE g c τ σ H S):SE g (cP c sc) (dw cap τ) (L2.caps cap σ) H S:=by
 refine⟨by simp[dw,L2.caps],λi d h=>?_,se.sub⟩;unfold dw at h;rw[List.getElem?_map]at h;cases q:cap[i]? with
 |none=>rw[q]at h;cases h
 |some o=>
  cases o with
  |none=>rw[q]at h;cases h
  |some j=>
   rw[q]at h;simp only[Option.map_some,Option.bind_some,bZ]at h;cases q2:τ[j]? with
   |none=>rw[q2]at h;cases h
   |some z=>
    rw[q2]at h;cases z with
    |none=>cases h
    |some d'=>
     have:d'=d:=by simpa using h
     subst this;obtain⟨v,h1,h2,h3⟩:=se.val j d' q2;refine⟨v,?_,h2,λx hx ho=>?_⟩
     ·unfold L2.caps;rw[List.getElem?_map,q];simp[h1]
     ·obtain⟨y,e1,e2,_⟩:=hc.2 i j q;have hx':(bT sc.names)[i]? = some x:=hx;rw[e1]at hx';cases hx';exact h3 _ (by rw[<-O.N];exact e2) ho
theorem gF{H:Hp}{S:Sh}{p:Addr}{o:HO}(h:S.h p=true):hid (upd H p o) S=hid H S:=by
 funext b;unfold hid;by_cases hb:b=p
 ·subst hb;rw[if_pos h,if_pos h]
 ·rw[qg hb]
theorem SE.grow{c:Cc}{τ:Env}{σ:L2.St}{H:Hp}{S:Sh}{p:Addr}{o:HO}(se:SE g c τ σ H S)(h:S.h p=true)(ho:S.o p=false):SE g c τ σ (upd H p o) S:=by
 refine⟨se.len,λi d e=>?_,λa ha n=>?_⟩
 ·obtain⟨v,h1,h2,h3⟩:=se.val i d e;refine⟨v,h1,?_,λx hx hy=>by rw[gF h];exact h3 x hx hy⟩;rcases h2 with h2|⟨a,o',z1,z2,z4,z5⟩
  ·exact .inl (by rw[gF h];exact h2)
  ·refine .inr ⟨a,o',z1,z2,?_,by rw[gF h];exact z5⟩;rw[qg (λz=>by rw[z,ho]at z1;cases z1)];exact z4
 ·by_cases hb:a=p
  ·subst hb;rw[zP]at n;cases n
  ·rw[qg hb]at n;exact se.sub a ha n
theorem SE.hide{c:Cc}{τ:Env}{σ:L2.St}{H:Hp}{S:Sh}{p:Addr}{vs:List V}(se:SE g c τ σ H S)(hp:H p=none):SE g c τ σ (upd H p (.lst vs)) (cb S p):=by
 refine⟨se.len,λi d e=>?_,λa ha n=>?_⟩
 ·obtain⟨v,h1,h2,h3⟩:=se.val i d e;refine⟨v,h1,?_,λx hx hy=>(h3 x hx hy).mono (i7 hp)⟩;rcases h2 with h2|⟨a,o',z1,z2,z4,z5⟩
  ·exact .inl (h2.mono (i7 hp))
  ·exact .inr ⟨a,o',z1,z2,zq hp _ _ z4,z5.mono (i7 hp)⟩
 ·by_cases hb:a=p
  ·subst hb;rw[zP]at n;cases n
  ·rw[qg hb]at n;refine se.sub a ?_ n;rcases ha with ha|ha
   ·refine .inl ?_;have ha:(S.h a||a==p)=true:=ha
    simpa[hb]using ha
   ·exact .inr ha
theorem oq(O:XO w g c E X){sc:aS}{cap:List (Option Nat)}{iit:It}{itg:Tg}{tt:T}{ielt:EV.E}(hS:dg X (bT sc.names) cap sc)(he:esc ielt=true){σ:L2.St}{H:Hp}{Q:VK}(hq:tE w g c E (.comp iit cap itg tt ielt) σ H Q) :
  jD cap (tIt w g c E iit) (gT X.K itg) (tT w g (cP c sc) E0 tt) (λacc=>iA acc (tE w g (cP c sc) E0 ielt)) σ H Q:=by
 obtain⟨τ,S,se,k⟩:=hq;simp only[qU,qW,qY,zc,ze,qV,zd,zf,za,qm,qx,qB,qu,qt,qK,qA,qr,ql,qw,qy,qO,qi,qz,qP,qq,qo,qJ,qL,qD,qN,qE,qM,qQ,qC,qI,qT,qH,qF,qR,qS]at k;refine sD se k λds J H1 e1 s1 kW _ k1 acc hacc=>?_
 by_cases hz:SZ<ds.length
 ·rw[if_pos hz]at k1;exact k1.elim
 rw[if_neg hz]at k1;generalize hbody:(λx σ=>noEx ((store itg x σ).bind λσ'=>(evT w tt σ').bind λr=>if r=true then (evE w ielt σ').bind λd=>R.ok (σ',[d])else R.ok (σ',[])))=body at k1;have bex:∀d τ x,body d τ≠.ex x:=λd τ x=>by rw[<-hbody];exact ug
 cases hl:cf body ds (dw cap τ) []with
 |ex z=>exact absurd hl (nS bex)
 |no=>rw[hl]at k1;exact k1.elim
 |ok out=>
  rw[hl]at k1;simp only[R.bind_ok]at k1;have k1:∀v H',bq g c (.comp iit cap itg tt ielt) S H (.lst out) v H'->Q v H':=k1;have sub1:=se.sub.same s1;have hoacc:S.o acc=false:=sub1.freeO hacc;have hhacc:(cb S acc).h acc=true:=by show (S.h acc||acc==acc)=true;simp
  -- what holds between two turns
  refine⟨λi m σ' H'=>m=ds.length-i/\i<=ds.length/\∃τ' o,cf body (ds.drop i) τ' o=.ok out/\SE g (cP c sc) τ' σ' H' (cb S acc)/\o.length<=i/\qe H1 H'/\∃vs,H' acc=some (.lst vs)/\zb g (hid H' (cb S acc)) o vs,
   ⟨ds.length,rfl,bM _,dw cap τ,[],hl,(se.up s1).caps O hS.cap |>.hide hacc,aI _,zq hacc,[],zP,.nil⟩,?_⟩
  rintro i m σ' H' ⟨rfl,hi',τ',o,hlo,se',hol,s1',vs,hv,hr⟩;have keep:qe (hid H1 S) (hid H' (cb S acc)):=λb u hb=>by
   obtain⟨z1,z2⟩:=bS.mp hb;refine bS.mpr ⟨?_,s1' _ _ z2⟩;show (S.h b||b==acc)=false;rw[z1]
   simpa using λz:b=acc=>by rw[z,hacc]at z2;cases z2
  obtain⟨g1,g2⟩:=kW H' (cb S acc) s1' keep se'.sub;by_cases hlt:i<ds.length
  ·have hd:ds[i]? = some ds[i]:=List.getElem?_eq_getElem hlt;obtain⟨go1,go2⟩:=g2 i ds[i] hd;refine .inr ⟨go1,λσ'' H''=>∃τ' o,cf body (ds.drop (i+1)) τ' o=.ok out/\SE g (cP c sc) τ' σ'' H'' (cb S acc)/\o.length<=i+1/\qe H1 H''/\∃vs,H'' acc=some (.lst vs)/\zb g (hid H'' (cb S acc)) o vs,
    λσ'' H'' z=>⟨ds.length-(i+1),by lia,rfl,hlt,z⟩,λx H2 hy=>?_⟩
   obtain⟨s2,rx⟩:=go2 x H2 hy;rw[List.drop_eq_getElem_cons hlt]at hlo;simp only[cf]at hlo;cases q:body ds[i] τ' with
   |ex z=>exact absurd q (bex _ _ _)
   |no=>rw[q]at hlo;cases hlo
   |ok p=>
    rw[q]at hlo;simp only[R.bind_ok]at hlo;rw[<-hbody]at q;have q:=vE q;cases q1:store itg ds[i] τ' with
    |ex z=>rw[q1]at q;cases q
    |no=>rw[q1]at q;cases q
    |ok τ1=>
     rw[q1]at q;simp only[R.bind_ok]at q;refine Ah O.K (se'.up s2) rx q1 λσ1 se1=>?_
     cases q2:evT w tt τ1 with
     |ex z=>rw[q2]at q;cases q
     |no=>rw[q2]at q;cases q
     |ok r=>
      rw[q2]at q;simp only[R.bind_ok]at q;refine⟨τ1,cb S acc,se1,?_⟩;rw[q2];intro H3 s3;have hv3:=s3 _ _ (s2 _ _ hv);have s13:=s1'.trans (s2.trans s3);cases r with
      |false=>
       simp only[bI,if_false,R.ok.injEq]at q;subst q;rw[if_neg bY];exact⟨τ1,o++[],hlo,se1.up s3,by simp;lia,s13,vs,hv3,by rw[List.append_nil];exact hr.mono (qG (s2.trans s3))⟩
      |true=>
       simp only[if_true]at q;rw[if_pos rfl];cases q3:evE w ielt τ1 with
       |ex z=>rw[q3]at q;cases q
       |no=>rw[q3]at q;cases q
       |ok dd=>
        rw[q3]at q;simp only[R.bind_ok,R.ok.injEq]at q;subst q;refine⟨τ1,cb S acc,se1.up s3,?_⟩;rw[q3];intro v H4 p4;have hv4:=p4.same _ _ hv3;have hr4:=hr.mono (qG ((s2.trans s3).trans p4.same));have hz':vs.length<sizeLine:=by
         rw[<-hr.length,bt];have:ds.length<=SZ:=Nat.le_of_not_lt hz;unfold SZ at this;lia
        refine⟨vs,hv4,hz',τ1,o++[dd],hlo,(se1.up (s3.trans p4.same)).grow hhacc hoacc,by simp;lia,λb u hb=>?_,vs++[v],zP,?_⟩
        ·rw[qg (λz=>by rw[z,hacc]at hb;cases hb)];exact p4.same _ _ (s13 _ _ hb)
        ·rw[gF hhacc];exact hr4.append (.cons (p4.st he) .nil)
  ·have e:i=ds.length:=by lia
   subst e;refine .inl ⟨g1 ds.length (aI _),?_⟩;rw[List.drop_length]at hlo;simp only[cf,R.ok.injEq]at hlo;subst hlo;have rep:Rep g (hid H' S) (.lst o) (.ref acc):=.lst (SqL.of (bS.mpr ⟨sub1.free hacc,hv⟩)) (hr.mono ow);exact k1 _ _ (bq.new (s1.trans s1') rep ⟨acc,_,rfl,s1.free hacc,hv,.lst hr⟩)
theorem Ci(O:XO w g c E X)(hcalm:X.calm=true){sc:aS}{cap:List (Option Nat)}{tgt it elt:Expr}{ifs:List Expr}{pos:Pos}{iit:It}{itg:Tg}{tt:T}{ielt:EV.E}(hS:dg X (bT sc.names) cap sc)(hnd:(bT sc.names).Nodup)
  (hi:PI X tgt it (tIt w g c E iit)) (hb:∀cl C s₀ H₀ fp,PG (zY X (bT sc.names) sc cl C s₀ H₀ fp) tgt (gT X.K itg)/\PTs (zY X (bT sc.names) sc cl C s₀ H₀ fp) ifs (tT w g (cP c sc) E0 tt)/\PE (zY X (bT sc.names) sc cl C s₀ H₀ fp) elt (tE w g (cP c sc) E0 ielt))
  (he:esc ielt=true) (hs:zv it=true):PE X (.ListComp elt [⟨tgt,it,ifs,0⟩] sc pos) (tE w g c E (.comp iit cap itg tt ielt)):=by
 exact PE.imp (xW (tb:=λacc=>iA acc (tE w g (cP c sc) E0 ielt)) hcalm hS hi (λcl C s₀ H₀ fp=>⟨(hb cl C s₀ H₀ fp).1,(hb cl C s₀ H₀ fp).2.1,λacc=>nu rfl (hb cl C s₀ H₀ fp).2.2⟩) (by simp) (λx=>by cases it<;>first|rfl|(simp[zv]at hs))) λσ H Q q=>oq O hS he q
end
end EV
namespace L2
open PySem PySem.Spec PyProof.Rows
section
variable{prog:aw}{w:av}{A:ay}{E:ae->af->Prop}{s:af}
end
section
variable{X:Cx}{tg:Expr}
end
end L2
namespace EV
open PySem PySem.Spec PySem.P PyProof.Rows L2
section
variable{prog:aw}{w:av}{A:ay}{E:ae->af->Prop}{s:af}
end
section
variable{X:Cx}
end
section
variable{w:W}{g:Gc}{c:Cc}{E:XK}{X:Cx}{a b:Expr}{ia ib:EV.E}{pos p2 p3 pos3:Pos}
theorem AN(O:XO w g c E X){x y:Str}{tg:Expr}(hx:glob c x=some .rvd)(hy:glob c y=some .rng)(ha:PE X a (tE w g c E ia))(hs:isStar a=false):PI X tg (.Call (.Name x p2) [.Call (.Name y p3) [a] [] pos3] [] pos) (tIt w g c E (.rrev ia)):=λpins s σ H R I ⟨τ,S,se,kk⟩=>by
 simp only[evI]at kk;exact aK kk
theorem mC(O:XO w g c E X)(hc:X.calm=true){x y:Str}{n:String}{bb:Option B1}{e:Expr}{es:List Expr}{it:It}{t:TA}(hT:glob c x=some (.ty n bb))(h:glob c y=some .rng)(ha:PA X (e::es) t)(hs:∀z∈e::es,isStar z=false)
  (hn:n = "tuple"\/n = "list")
  (k:∀σ H (Q:List V->Hp->Prop) τ S (P:List D->Prop),SE g c τ σ H S->tR g E H (evI w it τ) P->(∀lo hi vs H',qe H H'->(vs=[.int hi]/\lo=0\/vs=[.int lo,.int hi])->qZ lo=true->qZ hi=true->P (zZ lo (hi-lo).toNat)->Q vs H')->t σ H Q) :
  PE X (.Call (.Name x p2) [.Call (.Name y p3) (e::es) [] pos3] [] pos) (tE w g c E (if n = "tuple" then .rtup it else .rlst it)):=λpins s σ H Q I ⟨τ,S,se,kk⟩=>by
 rcases hn with rfl|rfl
 ·simp only[if_true,qU,qW,qY,zc,ze,qV,zd,zf,za,qm,qx,qB,qu,qt,qK,qA,qr,ql,qw,qy,qO,qi,qz,qP,qq,qo,qJ,qL,qD,qN,qE,qM,qQ,qC,qI,qT,qH,qF,qR,qS]at kk;exact aK kk
 ·rw[if_neg (by decide)]at kk;simp only[qU,qW,qY,zc,ze,qV,zd,zf,za,qm,qx,qB,qu,qt,qK,qA,qr,ql,qw,qy,qO,qi,qz,qP,qq,qo,qJ,qL,qD,qN,qE,qM,qQ,qC,qI,qT,qH,qF,qR,qS]at kk;exact aK kk
theorem tL(O:XO w g c E X)(hc:X.calm=true){x y:Str}{bb:Option B1}{d:Expr}{id:EV.E}(hT:glob c x=some (.ty "tuple" bb))(h:glob c y=some .rng)(ha:PE X a (tE w g c E ia))(hb:PE X b (tE w g c E ib))(hd:PE X d (tE w g c E id))(hs:isStar a=false)(hs':isStar b=false)(hs'':isStar d=false) :
  PE X (.Call (.Name x p2) [.Call (.Name y p3) [a,b,d] [] pos3] [] pos) (tE w g c E (.rtup (.rng3 ia ib id))):=λpins s σ H Q I ⟨τ,S,se,kk⟩=>by
 simp only[qU,qW,qY,zc,ze,qV,zd,zf,za,qm,qx,qB,qu,qt,qK,qA,qr,ql,qw,qy,qO,qi,qz,qP,qq,qo,qJ,qL,qD,qN,qE,qM,qQ,qC,qI,qT,qH,qF,qR,qS]at kk;exact aK kk
theorem uv(ha:PE X a (tE w g c E ia))(hs:isStar a=false):PA X [a] (gI (tE w g c E ia) iR):=cU ha dP (qX hs)
theorem uh:∀σ H (Q:List V->Hp->Prop) τ S (P:List D->Prop),SE g c τ σ H S->tR g E H (evI w (.rng ia) τ) P->(∀lo hi vs H',qe H H'->(vs=[.int hi]/\lo=0\/vs=[.int lo,.int hi])->qZ lo=true->qZ hi=true->P (zZ lo (hi-lo).toNat)->Q vs H')->gI (tE w g c E ia) iR σ H Q:=by
 intro σ H Q τ S P se q k;simp only[evI]at q;refine zo se q λda va H1 e1 p1 k1=>?_
 cases da with
 |int j=>
  simp only at k1;cases z:qZ j with
  |true=>rw[z,if_pos rfl]at k1;exact k 0 j _ H1 p1.same (.inl ⟨by rw[p1.rb.int],rfl⟩) (by decide) z (by rw[Int.sub_zero];exact k1)
  |false=>rw[z]at k1;exact k1.elim
 |_=>exact k1.elim
theorem t4:∀σ H (Q:List V->Hp->Prop) τ S (P:List D->Prop),SE g c τ σ H S->tR g E H (evI w (.rng2 ia ib) τ) P->(∀lo hi vs H',qe H H'->(vs=[.int hi]/\lo=0\/vs=[.int lo,.int hi])->qZ lo=true->qZ hi=true->P (zZ lo (hi-lo).toNat)->Q vs H')->gI (tE w g c E ia) (gI (tE w g c E ib) iR) σ H Q:=by
 intro σ H Q τ S P se q k;simp only[evI]at q;refine zo se q λda va H1 e1 p1 k1=>zo (se.up p1.same) k1 λdb vb H2 e2 p2 k2=>?_
 cases da with
 |int i=>
  cases db with
  |int j=>
   simp only at k2;cases z:qZ i&&qZ j with
   |true=>
    rw[z,if_pos rfl]at k2;simp only[aF]at z;exact k i j _ H2 (p1.same.trans p2.same) (.inr (by rw[p1.rb.int,p2.rb.int])) z.1 z.2 k2
   |false=>rw[z]at k2;exact k2.elim
  |_=>exact k2.elim
 |_=>exact k2.elim
end
structure Snd(w:W)(g:Gc)(n:Nat):Prop where
 e:∀{c:Cc}{E:XK}{X:Cx} (O:XO w g c E X) {x:Expr}{ir:EV.E},cE n c x=some ir->PE X x (tE w g c E ir)
 bo:∀{c:Cc}{E:XK}{X:Cx} (O:XO w g c E X) {op:PySem.BoolOp}{vs:List Expr}{pos:Pos}{ir:EV.E},cBo n c op vs=some ir->PE X (.BoolOp op vs pos) (tE w g c E ir)/\esc ir=true
 o:∀{c:Cc}{E:XK}{X:Cx} (O:XO w g c E X) {x:Option Expr}{ir:OE},cO n c x=some ir->PO X x (tOe w g c E ir)
 es:∀{c:Cc}{E:XK}{X:Cx} (O:XO w g c E X) {x:List Expr}{ir:Es},cEs n c x=some ir->PA X x (tA w g c E ir)
 i:∀{c:Cc}{E:XK}{X:Cx} (O:XO w g c E X) {tg x:Expr}{ir:It},cI n c x=some ir->fP ir tg=true->PI X tg x (tIt w g c E ir)
 t:∀{c:Cc}{E:XK}{X:Cx} (O:XO w g c E X) {x:Expr}{ir:T},cT n c x=some ir->PT X x (tT w g c E ir)
 ts:∀{c:Cc}{E:XK}{X:Cx} (O:XO w g c E X) {op:PySem.BoolOp}{vs:List Expr}{pos:Pos}{ir:T},cTs n c op vs=some ir->PW X (.BoolOp op vs pos) (tT w g c E ir)
 ifs:∀{c:Cc}{E:XK}{X:Cx} (O:XO w g c E X) {x:List Expr}{ir:T},eR n c x=some ir->PTs X x (tT w g c E ir)
section
variable{w:W}{g:Gc}{n:Nat}
theorem Snd.ifs_succ(ih:Snd w g n){c:Cc}{E:XK}{X:Cx}(O:XO w g c E X){x:List Expr}{ir:T}(h:eR (n+1) c x=some ir):PTs X x (tT w g c E ir):=by
 match x with
 | []=>
  simp only[eR,bZ]at h;subst h;intro pins s σ H Q I ⟨τ,S,se,q⟩;exact BD pins s σ H Q I (q H (qe.refl _))
 | [t]=>simp only[eR]at h;exact pJ (ih.t O h)
 |_::_::_=>simp[eR]at h
theorem Snd.bo_succ(ih:Snd w g n){c:Cc}{E:XK}{X:Cx}(O:XO w g c E X){op:PySem.BoolOp}{vs:List Expr}{pos:Pos}{ir:EV.E}(h:cBo (n+1) c op vs=some ir):PE X (.BoolOp op vs pos) (tE w g c E ir)/\esc ir=true:=by
 match vs with
 | []=>simp[cBo]at h
 | [a]=>
  simp only[cBo,aB,az]at h;obtain⟨ia,h1,h⟩:=h;split at h
  ·rename_i he
   cases h;exact⟨Ck (ih.e O h1),he⟩
  ·cases h
 |a::b::r=>
  simp only[cBo,aB,az]at h;obtain⟨ia,h1,ir',h2,h⟩:=h;obtain⟨r1,r2⟩:=ih.bo O (pos:=pos) h2;cases op with
  |And=>cases h;exact⟨AY (ih.e O h1) r1 r2,rfl⟩
  |Or=>cases h;exact⟨uj (ih.e O h1) r1 r2,rfl⟩
theorem Snd.o_succ(ih:Snd w g n){c:Cc}{E:XK}{X:Cx}(O:XO w g c E X){x:Option Expr}{ir:OE}(h:cO (n+1) c x=some ir):PO X x (tOe w g c E ir):=by
 cases x with
 |none=>simp only[cO,bZ]at h;subst h;exact tM
 |some e=>
  simp only[cO,bu]at h;obtain⟨ie,h1,rfl⟩:=h;exact wy (ih.e O h1)
theorem Snd.es_succ(ih:Snd w g n){c:Cc}{E:XK}{X:Cx}(O:XO w g c E X){x:List Expr}{ir:Es}(h:cEs (n+1) c x=some ir):PA X x (tA w g c E ir):=by
 match x with
 | []=>simp only[cEs,bZ]at h;subst h;exact sf
 |e::r=>
  have hs:=eC h e aR;simp only[cEs,hs,bI,if_false,aB,az]at h;obtain⟨ie,h1,ir',h2,h⟩:=h;cases h;exact pG (ih.e O h1) (ih.es O h2) hs
theorem Snd.ts_succ(ih:Snd w g n){c:Cc}{E:XK}{X:Cx}(O:XO w g c E X){op:PySem.BoolOp}{vs:List Expr}{pos:Pos}{ir:T}(h:cTs (n+1) c op vs=some ir):PW X (.BoolOp op vs pos) (tT w g c E ir):=by
 match vs with
 | []=>simp[cTs]at h
 | [a]=>
  simp only[cTs]at h;cases op with
  |And=>exact Az (ih.t O h)
  |Or=>exact xj (ih.t O h)
 |a::b::r=>
  simp only[cTs,aB,az]at h;obtain⟨ia,h1,ir',h2,h⟩:=h;cases op with
  |And=>cases h;exact AZ (ih.t O h1) (ih.ts O h2)
  |Or=>cases h;exact tH (ih.t O h1) (ih.ts O h2)
theorem Snd.t_succ(ih:Snd w g n){c:Cc}{E:XK}{X:Cx}(O:XO w g c E X){x:Expr}{ir:T}(h:cT (n+1) c x=some ir):PT X x (tT w g c E ir):=by
 unfold cT at h;split at h
 ·simp only[bu]at h;obtain⟨ia,h1,rfl⟩:=h;exact xK (ih.t O h1)
 ·exact(ih.ts O h).pt
 ·cases h
 ·split at h
  ·simp only[aB,az]at h;obtain⟨ia,h1,ib,h2,h⟩:=h;split at h
   ·rename_i hs;cases h;exact rK O (ih.e O h1) (ih.e O h2) hs
   ·cases h
  ·simp only[aB,az]at h;obtain⟨ia,h1,ib,h2,id',h3,h⟩:=h;split at h
   ·rename_i hs
    simp only[aF]at hs;cases h;exact Ad O (ih.e O h1) (ih.e O h2) (ih.e O h3) hs.2
   ·cases h
  ·simp only[aB,az]at h;obtain⟨ia,h1,ib,h2,id',h3,if',h4,h⟩:=h;split at h
   ·rename_i hs
    simp only[aF]at hs;cases h;exact Bf O (ih.e O h1) (ih.e O h2) (ih.e O h3) (ih.e O h4) hs.2
   ·cases h
  ·cases h
 ·rename_i n1 n2 n3 n4
  simp only[bu]at h;obtain⟨ia,h1,rfl⟩:=h;refine ui O (ih.e O h1) λwhole=>?_
  cases x with
  |UnaryOp op a p=>cases op<;>first|rfl|exact(n1 _ _ rfl).elim
  |BoolOp op vs p=>exact(n2 _ _ _ rfl).elim
  |IfExp a b d p=>exact(n3 _ _ _ _ rfl).elim
  |Compare a ops bs p=>exact(n4 _ _ _ _ rfl).elim
  |_=>rfl
theorem Snd.i_succ(ih:Snd w g n){c:Cc}{E:XK}{X:Cx}(O:XO w g c E X){tg x:Expr}{ir:It}(h:cI (n+1) c x=some ir)(ht:fP ir tg=true):PI X tg x (tIt w g c E ir):=by
 have sq:∀{x:Expr}{ir:It},(cE n c x).map It.seq=some ir->PI X tg x (tIt w g c E ir):=λ{x ir} h=>by
  simp only[bu]at h;obtain⟨ia,h1,rfl⟩:=h;exact Ab O (ih.e O h1)
 have tup:isTup tg=true->∃es k p,tg=.Tuple es k p:=λh=>by cases tg<;>first|exact⟨_,_,_,rfl⟩|(simp[isTup]at h)
 unfold cI at h;split at h
 ·rename_i f p as q
  split at h
  ·exact sq h
  ·split at h
   ·rename_i hg
    split at h
    ·rename_i a
     split at h
     ·cases h
     ·rename_i hs
      simp only[bu]at h;obtain⟨ia,h1,rfl⟩:=h;exact sO O hg (ih.e O h1) (by simpa using hs)
    ·rename_i a b
     split at h
     ·cases h
     ·rename_i hs
      have hs:isStar a=false/\isStar b=false:=by simpa using hs
      simp only[aB,az]at h;obtain⟨ia,h1,ib,h2,h⟩:=h;cases h;exact yl O hg (ih.e O h1) (ih.e O h2) hs.1 hs.2
    ·cases h
   ·rename_i hg
    split at h
    ·rename_i a
     split at h
     ·cases h
     ·rename_i hs
      simp only[bu]at h;obtain⟨ia,h1,rfl⟩:=h;obtain⟨es,k,p',rfl⟩:=tup ht;exact Ca O hg (ih.e O h1) (by simpa using hs)
    ·cases h
   ·rename_i hg
    split at h
    ·rename_i a b
     split at h
     ·cases h
     ·rename_i hs
      have hs:isStar a=false/\isStar b=false:=by simpa using hs
      simp only[aB,az]at h;obtain⟨ia,h1,ib,h2,h⟩:=h;cases h;obtain⟨es,k,p',rfl⟩:=tup ht;exact wV O hg (ih.e O h1) (ih.e O h2) hs.1 hs.2
    ·cases h
   ·rename_i hg
    split at h
    ·split at h
     ·rename_i hs
      simp only[aF,beq_iff_eq,ba]at hs;simp only[bu]at h;obtain⟨ia,h1,rfl⟩:=h;exact AN O hg hs.1.2 (ih.e O h1) hs.2
     ·cases h
    ·cases h
   ·exact sq h
 ·exact sq h
end
section
variable{w:W}{g:Gc}{c:Cc}{E:XK}{X:Cx}{a:Expr}{ia:EV.E}{pos p2 p3 pos3:Pos}
end
section
variable{w:W}{g:Gc}{n:Nat}
theorem uF{c:Cc}{t:String}{as:List Expr}{a:Expr}(h:jO c t as=some a):∃x p,as=[.Name x p]/\a=.Name x p/\t = "list"/\c.calm=true:=by
 unfold jO at h;split at h
 ·split at h
  ·split at h
   ·rename_i hc
    simp only[aF,beq_iff_eq]at hc;cases h;exact⟨_,_,rfl,rfl,hc.1.1,hc.1.2⟩
   ·cases h
  ·cases h
 ·cases h
theorem Snd.call_name(ih:Snd w g n){c:Cc}{E:XK}{X:Cx}(O:XO w g c E X){f:Str}{p pos:Pos}{as:List Expr}{ir:EV.E}(h:cE (n+1) c (.Call (.Name f p) as [] pos)=some ir):PE X (.Call (.Name f p) as [] pos) (tE w g c E ir):=by
 unfold cE at h;dsimp only at h;split at h
 ·cases h
 ·split at h
  ·rename_i fr hg
   simp only[aB,az]at h;obtain⟨ies,h1,h⟩:=h;split at h
   ·rename_i hc
    simp only[aF,ba]at hc;cases h
    match as with
    | []=>simp at hc
    |e::es=>exact pN O hg (ih.es O h1) hc.1 (eC h1)
   ·split at h
    ·rename_i hc
     simp only[ba]at hc;cases h
     match as with
     | []=>simp at hc
     |e::es=>exact Bm O hg (ih.es O h1) (eC h1)
    ·cases h
  ·rename_i b hg
   split at h
   ·rename_i a hs;cases hs
   simp only[aB,az]at h;obtain⟨ies,h1,h⟩:=h;split at h
   ·rename_i hc
    simp only[aF,ba,bh,beq_iff_eq]at hc;cases h
    match as with
    | []=>simp at hc
    |e::es=>exact Al O hg (by rcases hc.2 with (z|z)|z;exact .inl (O.calm z);exact .inr (.inl z);exact .inr (.inr z)) (ih.es O h1) (eC h1)
   ·cases h
  ·rename_i t b hg
   have plain:∀{ies:Es},cEs n c as=some ies->as.isEmpty=false->PE X (.Call (.Name f p) as [] pos) (tE w g c E (.bi b ies)):=λ{ies} h1 he=>by
    match as with
    | []=>simp at he
    |e::es=>exact AS O hg (ih.es O h1) (eC h1)
   split at h
   ·rename_i y p' as' q
    split at h
    ·rename_i hr
     simp only[aF,beq_iff_eq]at hr;split at h
     ·rename_i hc
      simp only[aF,bh,beq_iff_eq]at hc;split at h
      ·rename_i a
       split at h
       ·cases h
       ·rename_i hs
        have hs:isStar a=false:=by simpa using hs
        simp only[aB,az]at h;obtain⟨ia,h1,h⟩:=h;cases h;exact mC O (O.calm hc.1) hg hr.2 (uv (ih.e O h1) hs) (by intro z hz;simp at hz;rw[hz];exact hs) hc.2 uh
      ·rename_i a d
       split at h
       ·cases h
       ·rename_i hs
        have hs:isStar a=false/\isStar d=false:=by simpa using hs
        simp only[aB,az]at h;obtain⟨ia,h1,ib,h2,h⟩:=h;cases h;exact mC O (O.calm hc.1) hg hr.2 (cU (ih.e O h1) (cU (ih.e O h2) dP (qX hs.2)) (qX hs.1)) (by intro z hz;simp at hz;rcases hz with rfl|rfl;exact hs.1;exact hs.2) hc.2 t4
      ·rename_i a d k
       split at h
       ·cases h
       ·rename_i hs
        have hs:(isStar a=false/\isStar d=false)/\isStar k=false:=by simpa[and_assoc]using hs
        simp only[aB,az]at h;obtain⟨ia,h1,ib,h2,id,h3,h⟩:=h;split at h
        ·rename_i ht
         have ht:=eq_of_beq ht;subst ht;cases h;exact tL O (O.calm hc.1) hg hr.2 (ih.e O h1) (ih.e O h2) (ih.e O h3) hs.1.1 hs.1.2 hs.2
        ·cases h
      ·cases h
     ·cases h
    ·simp only[aB,az]at h;obtain⟨ies,h1,h⟩:=h;cases h;exact plain h1 rfl
   ·split at h
    ·rename_i a hs
     obtain⟨x,px,rfl,rfl,rfl,hc⟩:=uF hs;obtain⟨ia,h1,rfl⟩:=bu.mp h;exact pf O (O.calm hc) hg (ih.e O h1) rfl
    simp only[aB,az]at h;obtain⟨ies,h1,h⟩:=h;split at h
    ·rename_i hc
     cases h;exact plain h1 (by simpa using hc)
    ·cases h
  ·rename_i hg
   split at h
   ·rename_i a k
    split at h
    ·cases h
    ·rename_i hs
     simp only[aB,az]at h;obtain⟨ia,h1,cl,h2,h⟩:=h;cases h;exact rC O hg (ih.e O h1) h2 (by simpa using hs)
   ·cases h
  ·cases h
theorem iz:∀{n:Nat}{c:Cc}{l:List Expr}{es:Es},cEs n c l=some es->l.length<=n
 | 0,_,_,_,h=>by simp[cEs]at h
 |n+1,_,[],_,_=>by simp
 |n+1,c,x::l,es,h=>by
  have hs:=eC h x aR;simp only[cEs,hs,bI,if_false,aB,az]at h;obtain⟨_,_,r,hr,_⟩:=h;have:=iz hr
  simpa using this
theorem jW{c:Cc}{elt:Expr}{gs:List bV}{sc:aS}{p:Pos}{ir:EV.E}(h:cE (n+1) c (.ListComp elt gs sc p)=some ir) :
  ∃tgt it ifs iit itg it' ie,gs=[⟨tgt,it,ifs,0⟩]/\(c.calm=true/\zv it=true)/\(ip (λx=>c.nm.lookup x) c.N (bT sc.names) (fI c sc.names) sc=true/\(bT sc.names).Nodup)/\cI n c it=some iit/\cTg (cP c sc) tgt=some itg/\eR n (cP c sc) ifs=some it'/\cE n (cP c sc) elt=some ie/\(esc ie=true/\fP iit tgt=true)/\ir=.comp iit (fI c sc.names) itg it' ie:=by
 unfold cE at h;dsimp only at h;split at h
 ·rename_i tgt it ifs asy
  split at h
  ·cases h
  ·rename_i hs
   have hs:(asy=0/\c.calm=true)/\zv it=true:=by simpa using hs
   obtain⟨⟨rfl,hs1⟩,hs2⟩:=hs;split at h
   ·cases h
   ·rename_i hk
    have hk:ip (λx=>c.nm.lookup x) c.N (bT sc.names) (fI c sc.names) sc=true/\(bT sc.names).Nodup:=by simpa using hk
    simp only[aB,az]at h;obtain⟨iit,h1,itg,h2,it',h3,ie,h4,h⟩:=h;split at h
    ·rename_i he
     simp only[aF]at he;cases h;exact⟨tgt,it,ifs,iit,itg,it',ie,rfl,⟨hs1,hs2⟩,hk,h1,h2,h3,h4,he,rfl⟩
    ·cases h
 ·cases h
theorem Snd.e_succ(ih:Snd w g n)(hn:n<=100000){c:Cc}{E:XK}{X:Cx}(O:XO w g c E X){x:Expr}{ir:EV.E}(h:cE (n+1) c x=some ir):PE X x (tE w g c E ir):=by
 have h0:=h;unfold cE at h;split at h
 ·-- Name
  rename_i y p
  split at h
  ·rename_i i hl
   have:=rl (w:=w) (E:=E) (pos:=p) O hl;cases ho:c.own.contains y with
   |true=>rw[ho]at h this;cases h;exact this
   |false=>rw[ho]at h this;cases h;exact this
  ·split at h
   ·rename_i hg;cases h;exact xZ O hg
   ·rename_i fr hg;cases h;exact xQ O hg
   ·cases h
 ·split at h
  ·cases h;exact iY ue λ_=>.int _
  ·cases h;exact iY yU λ_=>.bl _
  ·cases h;exact iY wc λ_=>.non
  ·cases h;exact iY xr λ_=>.str _
  ·cases h
 ·simp only[aB,az]at h;obtain⟨o,ho,ia,h1,ib,h2,h⟩:=h;cases h;exact rQ O ho (ih.e O h1) (ih.e O h2)
 ·rename_i op a p
  simp only[aB,az]at h;obtain⟨ia,h1,h⟩:=h;cases op with
  |USub=>cases h;exact Ax (ih.e O h1)
  |Invert=>cases h;exact vw (ih.e O h1)
  |Not=>cases h;exact yn (ih.e O h1)
  |UAdd=>cases h
 ·exact(ih.bo O h).1
 ·split at h
  ·simp only[aB,az]at h;obtain⟨ia,h1,ib,h2,h⟩:=h;split at h
   ·rename_i hs;cases h;exact AU O (ih.e O h1) (ih.e O h2) hs
   ·cases h
  ·simp only[aB,az]at h;obtain⟨ia,h1,ib,h2,id',h3,h⟩:=h;split at h
   ·rename_i hs
    simp only[aF]at hs;cases h;exact tN O (ih.e O h1) (ih.e O h2) (ih.e O h3) hs.2
   ·cases h
  ·simp only[aB,az]at h;obtain⟨ia,h1,ib,h2,id',h3,if',h4,h⟩:=h;split at h
   ·rename_i hs
    simp only[aF]at hs;cases h;exact rG O (ih.e O h1) (ih.e O h2) (ih.e O h3) (ih.e O h4) hs.2
   ·cases h
  ·cases h
 ·split at h
  ·split at h
   ·rename_i hk
    rw[List.isEmpty_iff]at hk;subst hk;cases h;exact uS
   ·cases h
  ·split at h
   ·split at h
    ·split at h
     ·rename_i hk
      simp only[aF,List.isEmpty_iff]at hk;obtain⟨rfl,rfl⟩:=hk;simp only[aB,az]at h;obtain⟨ik,h1,iv,h2,h⟩:=h;cases h;exact A8 (ih.e O h1) (ih.e O h2)
     ·cases h
    ·cases h
   ·cases h
 ·simp only[aB,az]at h;obtain⟨it,h1,ia,h2,ib,h3,h⟩:=h;split at h
  ·rename_i hs
   simp only[aF]at hs;cases h;exact AV (ih.t O h1) (ih.e O h2) (ih.e O h3) hs.1 hs.2
  ·cases h
 ·simp only[aB,az]at h;obtain⟨ies,h1,h⟩:=h;split at h
  ·rename_i hs;cases h
   exact pI (ih.es O h1) hs λτ ds e=>by rw[iX h1 e];exact bp (iz h1) hn
  ·cases h
 ·simp only[aB,az]at h;obtain⟨ies,h1,h⟩:=h;split at h
  ·rename_i hs;cases h
   exact vF (ih.es O h1) hs λτ ds e=>by rw[iX h1 e];exact bp (iz h1) hn
  ·cases h
 ·split at h
  ·rename_i lo hi st' sp
   split at h
   ·cases h
   ·simp only[aB,az]at h;obtain⟨ia,h1,il,h2,ih',h3,h⟩:=h;cases h;exact BK O (ih.e O h1) (ih.o O h2) (ih.o O h3)
  ·split at h
   ·cases h
   ·rename_i hs
    simp only[aB,az]at h;obtain⟨ia,h1,ib,h2,h⟩:=h;cases h;exact BE O (ih.e O h1) (ih.e O h2) (by simpa using hs)
 ·-- ListComp
  rename_i elt gs sc p
  obtain⟨tgt,it,ifs,iit,itg,it',ie,rfl,hs,hk,h1,h2,h3,h4,he,rfl⟩:=jW h0;have hS:dg X (bT sc.names) (fI c sc.names) sc:=dg.of (by
   have e1:(λx=>c.nm.lookup x)=X.env.kindOf:=by funext x;show _=X.env.scope.names.lookup x;rw[O.nm]
   rw[<-e1,O.N];exact hk.1)
  refine Ci O (O.calm hs.1) hS hk.2 (ih.i O h1 he.2) (λcl C s₀ H₀ fp=>?_) he.1 hs.2;have OY:=O.comp hS.kind hk.2 cl C s₀ H₀ fp;exact⟨gQ OY h2,ih.ifs OY h3,ih.e OY h4⟩
 ·split at h
  ·split at h
   ·exact ih.call_name O h0
   ·split at h
    ·rename_i hm
     cases h;exact rh O hm
    ·split at h
     ·split at h
      ·cases h
      ·rename_i hc
       simp only[bh,ba,not_or,c0,Bool.not_eq_false]at hc;simp only[aB,az]at h;obtain⟨io,h1,ia,h2,h⟩:=h;obtain⟨⟨⟨c1,c2⟩,c3⟩,c4⟩:=hc;split at h
       ·rename_i hg
        cases h;have hg:=eq_of_beq hg;subst hg;exact AJ O c1 (ih.e O h1) (ih.e O h2) c2 c4
       ·rename_i hg
        split at h
        ·cases h;have c3:=eq_of_beq (c3.resolve_right hg);subst c3;exact Bh O c1 (ih.e O h1) (ih.e O h2) c2 c4
        ·cases h
     ·split at h
      ·cases h
      ·rename_i hc
       simp only[bh,ba,not_or,c0,Bool.not_eq_false]at hc;simp only[aB,az]at h;obtain⟨io,h1,ia,h2,id,h3,h⟩:=h;obtain⟨⟨⟨⟨c1,c2⟩,c3⟩,c4⟩,c5⟩:=hc;have c4:=eq_of_beq c4;subst c4;split at h
       ·rename_i hes
        cases h;exact yx O c1 (ih.e O h1) (ih.e O h2) (ih.e O h3) c2 c3 hes c5
       ·cases h
     ·cases h
   ·cases h
  ·cases h
 ·cases h
theorem vH:Snd w g 0:=⟨λ_ _ _ h=>(by cases h),λ_ _ _ _ _ h=>by simp[cBo]at h,λ_ _ _ h=>by simp[cO]at h,λ_ _ _ h=>by simp[cEs]at h,λ_ _ _ _ h=>by simp[cI]at h,λ_ _ _ h=>by simp[cT]at h,λ_ _ _ _ _ h=>by simp[cTs]at h,λ_ _ _ h=>by simp[eR]at h⟩
theorem snd:∀n,n<=100000->Snd w g n
 | 0,_=>vH
 |n+1,h=>
  have ih:=snd n (Nat.le_of_succ_le h)
  ⟨λO _ _ q=>ih.e_succ (Nat.le_of_succ_le h) O q,λO _ _ _ _ q=>ih.bo_succ O q,λO _ _ q=>ih.o_succ O q,λO _ _ q=>ih.es_succ O q,λO _ _ _ q t=>ih.i_succ O q t,λO _ _ q=>ih.t_succ O q,λO _ _ _ _ q=>ih.ts_succ O q,λO _ _ q=>ih.ifs_succ O q⟩
end
noncomputable def zl(c:Cc)(i:Nat):Prop:=∃x,c.N[i]? = some x/\c.own.contains x=true
structure SS(g:Gc)(c:Cc)(H0:Hp)(B:Sh)(τ:Env)(σ:L2.St)(H:Hp)(S:Sh):Prop where
 se:SE g c τ σ H S
 lenN:τ.length=c.N.length
 same:qe H0 H
 sub0:Sub B H0
 hd:∀a,S.h a=(B.h a||S.o a)
 new:∀a,S.o a=true->H0 a=none
 own:∀i d,zl c i->τ[i]? = some (some d)->zr d=true->∃a o,σ[i]? = some (some (.ref a))/\S.o a=true/\H a=some o/\cx g (hid H S) d o
 inj:∀i j d e a,zl c i->zl c j->τ[i]? = some (some d)->τ[j]? = some (some e)->zr d=true->zr e=true->σ[i]? = some (some (.ref a))->σ[j]? = some (some (.ref a))->i=j
 frz:c.frz=true->(∀i,zl c i->σ[i]? = B.z[i]?)/\qe B.y H
section
variable{g:Gc}{c:Cc}{H0:Hp}{B:Sh}{τ:Env}{σ:L2.St}{H H':Hp}{S:Sh}
theorem SS.up(s:SS g c H0 B τ σ H S)(e:qe H H'):SS g c H0 B τ σ H' S:=
 ⟨s.se.up e,s.lenN,s.same.trans e,s.sub0,s.hd,s.new,λi d hi h l=>let ⟨a,o,h1,h2,h4,h5⟩:=s.own i d hi h l;⟨a,o,h1,h2,e _ _ h4,h5.mono (qG e)⟩,s.inj,λz=>⟨(s.frz z).1,(s.frz z).2.trans e⟩⟩
theorem SS.set{i:Nat}{d:D}{v:V}(s:SS g c H0 B τ σ H S)(hi:¬ zl c i)(r:Rep g (hid H S) d v):SS g c H0 B (τ.set i (some d)) (σ.set i (some v)) H S:=by
 refine⟨s.se.set r,by simp[s.lenN],s.same,s.sub0,s.hd,s.new,λj e hj h l=>?_,λj k e f a hj hk h1 h2 l1 l2 h3 h4=>?_,λz=>⟨λj hj=>?_,(s.frz z).2⟩⟩
 ·have hij:i≠j:=λz=>hi (z▸hj)
  rw[List.getElem?_set_ne hij]at h ⊢;exact s.own j e hj h l
 ·have hij:i≠j:=λz=>hi (z▸hj)
  have hik:i≠k:=λz=>hi (z▸hk)
  rw[List.getElem?_set_ne hij]at h1 h3;rw[List.getElem?_set_ne hik]at h2 h4;exact s.inj j k e f a hj hk h1 h2 l1 l2 h3 h4
 ·rw[List.getElem?_set_ne (λz:i=j=>hi (z▸hj))];exact(s.frz z).1 j hj
theorem cx.isld{H:Hp}{d:D}{o:HO}(h:cx g H d o):zr d=true:=by cases h<;>rfl
theorem zQ.nold{H:Hp}{d:D}{v:V}(h:zQ g H S d v)(l:zr d=false):Rep g (hid H S) d v:=by
 rcases h with h|⟨_,_,_,_,_,h⟩
 ·exact h
 ·rw[h.isld]at l;cases l
theorem SS.setN{i:Nat}{d:D}{v:V}(s:SS g c H0 B τ σ H S)(hz:c.frz=false)(hlt:i<τ.length)(l:zr d=false)(r:Rep g (hid H S) d v):SS g c H0 B (τ.set i (some d)) (σ.set i (some v)) H S:=by
 have no:∀j e,(τ.set i (some d))[j]? = some (some e)->zr e=true->i≠j:=λj e h q z=>by
  subst z;simp[hlt]at h;subst h;rw[l]at q;cases q
 refine⟨s.se.set r,by simp[s.lenN],s.same,s.sub0,s.hd,s.new,λj e hj h q=>?_,λj k e f a hj hk h1 h2 l1 l2 h3 h4=>?_,λz=>by rw[hz]at z;cases z⟩
 ·have hij:=no j e h q;rw[List.getElem?_set_ne hij]at h ⊢;exact s.own j e hj h q
 ·have hij:=no j e h1 l1;have hik:=no k f h2 l2;rw[List.getElem?_set_ne hij]at h1 h3;rw[List.getElem?_set_ne hik]at h2 h4;exact s.inj j k e f a hj hk h1 h2 l1 l2 h3 h4
theorem SS.setAll{is:List Nat}:∀{ds:List D}{vs:List V}{τ τ':Env}{σ:L2.St}{Q:L2.St->Hp->Prop},SS g c H0 B τ σ H S->(∀i∈is,¬ zl c i)->zb g (hid H S) ds vs->EV.setAll is ds τ=.ok τ'->(∀σ',SS g c H0 B τ' σ' H S->Q σ' H)->gk is vs σ H Q:=by
 induction is with
 |nil=>
  intro ds vs τ τ' σ Q se _ r h k;cases r with
  |nil=>cases (show R.ok τ=R.ok τ' from h);exact⟨rfl,k σ se⟩
  |cons _ _=>cases (show R.no=R.ok τ' from h)
 |cons i is ih=>
  intro ds vs τ τ' σ Q se ho r h k;cases r with
  |nil=>cases (show R.no=R.ok τ' from h)
  |cons r rs=>exact⟨_,_,rfl,ih (se.set (ho i aR) r) (λj hj=>ho j (aP _ hj)) rs h k⟩
theorem y8{tg:Tg}(h:gG c tg):match tg with | .nm i=>¬ zl c i | .tp is=>∀i∈is,¬ zl c i:=by
 cases tg with
 |nm i=>rintro⟨x,h1,h2⟩;rw[h x h1]at h2;cases h2
 |tp is=>rintro i hi ⟨x,h1,h2⟩;rw[h i hi x h1]at h2;cases h2
theorem SS.store{X:Cx}(O:X.K=g.K){tg:Tg}{d:D}{v:V}{τ':Env}{Q:L2.St->Hp->Prop}(s:SS g c H0 B τ σ H S)(hf:gG c tg)(r:Rep g (hid H S) d v)(h:EV.store tg d τ=.ok τ')(k:∀σ',SS g c H0 B τ' σ' H S->Q σ' H):gT X.K tg v σ H Q:=by
 have ho:=y8 hf;cases tg with
 |nm i=>
  simp only[EV.store,R.ok.injEq]at h;subst h;exact k _ (s.set ho r)
 |tp is=>
  cases d with
  |tup ds=>
   simp only[EV.store]at h;split at h
   ·rename_i hl
    cases r with
    |tup h1 r1=>exact⟨_,_,rfl,by rw[O];exact ee cM h1,by rw[<-r1.length];exact hl,s.setAll ho r1 h k⟩
   ·cases h
  |_=>simp[EV.store]at h
noncomputable def mG(S:Sh)(a:Addr):Sh:=⟨λb=>S.o b||b==a,λb=>S.h b||b==a,S.z,S.y⟩
theorem SS.setOwn{i:Nat}{d:D}{v:V}(s:SS g c H0 B τ σ H S)(hz:c.frz=false)(hi:zl c i)(hlt:i<τ.length)(e:qe H H')(f:Fr g H S H' d v):∃S',SS g c H0 B (τ.set i (some d)) (σ.set i (some v)) H' S'/\qe (hid H S) (hid H' S'):=by
 obtain⟨a,oo,rfl,h1,h2,h3⟩:=f;have up:qe (hid H S) (hid H' (mG S a)):=λb o hb=>by
  obtain⟨z1,z2⟩:=bS.mp hb;refine bS.mpr ⟨?_,e _ _ z2⟩;show (S.h b||b==a)=false;rw[z1]
  simpa using λz:b=a=>by rw[z,h1]at z2;cases z2
 have hlt':i<σ.length:=by rw[<-s.se.len];exact hlt
 refine⟨mG S a,⟨⟨by simp[s.se.len],λj e' hj=>?_,λb hb n=>?_⟩,by simp[s.lenN],s.same.trans e,s.sub0,λb=>?_,λb hb=>?_,λj e' hj h l=>?_,λj k e1 e2 b hj hk q1 q2 l1 l2 q3 q4=>?_,λz=>by rw[hz]at z;cases z⟩,up⟩
 ·by_cases hij:i=j
  ·subst hij;simp[hlt]at hj;subst hj;refine⟨.ref a,by simp[hlt'],.inr ⟨a,oo,by show (S.o a||a==a)=true;simp,rfl,h2,h3⟩,λx hx hn=>?_⟩;obtain⟨y,hy1,hy2⟩:=hi;rw[hy1]at hx;cases hx;rw[hn]at hy2;cases hy2
  ·rw[List.getElem?_set_ne hij]at hj ⊢;obtain⟨u,z1,z2,z3⟩:=s.se.val j e' hj;refine⟨u,z1,?_,λx hx hn=>(z3 x hx hn).mono up⟩;rcases z2 with z2|⟨a',o',y1,y2,y4,y5⟩
   ·exact .inl (z2.mono up)
   ·exact .inr ⟨a',o',by show (S.o a'||a'==a)=true;rw[y1];rfl,y2,e _ _ y4,y5.mono up⟩
 ·have hb:(S.h b||b==a)=true\/(S.o b||b==a)=true:=hb;by_cases hba:b=a
  ·rw[hba,h2]at n;cases n
  ·have:S.h b=true\/S.o b=true:=by
    rcases hb with z|z
    ·exact .inl (by simpa[hba]using z)
    ·exact .inr (by simpa[hba]using z)
   exact(s.se.sub.same e) b this n
 ·show (S.h b||b==a)=(B.h b||(S.o b||b==a))
  rw[s.hd b,Bool.or_assoc]
 ·have hb:(S.o b||b==a)=true:=hb;by_cases hba:b=a
  ·rw[hba];exact s.same.free h1
  ·exact s.new b (by simpa[hba]using hb)
 ·by_cases hij:i=j
  ·subst hij;simp[hlt]at h;subst h;exact⟨a,oo,by simp[hlt'],by show (S.o a||a==a)=true;simp,h2,h3⟩
  ·rw[List.getElem?_set_ne hij]at h ⊢;obtain⟨a',o',y1,y2,y4,y5⟩:=s.own j e' hj h l;exact⟨a',o',y1,by show (S.o a'||a'==a)=true;rw[y2];rfl,e _ _ y4,y5.mono up⟩
 ·have other:∀j e1 b,i≠j->zl c j->τ[j]? = some (some e1)->zr e1=true->σ[j]? = some (some (.ref b))->b≠a:=λj e1 b hij hj q1 l q3 z=>by
   obtain⟨a',o',y1,y2,y4,y5⟩:=s.own j e1 hj q1 l;rw[q3]at y1;cases y1;rw[z,h1]at y4;cases y4
  by_cases hij:i=j
  ·by_cases hik:i=k
   ·rw[<-hij,<-hik]
   ·subst hij;rw[List.getElem?_set_ne hik]at q2 q4;have q3':b=a:=by
     have:(σ.set i (some (.ref a)))[i]? = some (some (.ref a)):=by simp[hlt']
     rw[this]at q3;cases q3;rfl
    exact absurd q3' (other k e2 b hik hk q2 l2 q4)
  ·by_cases hik:i=k
   ·subst hik;rw[List.getElem?_set_ne hij]at q1 q3;have q4':b=a:=by
     have:(σ.set i (some (.ref a)))[i]? = some (some (.ref a)):=by simp[hlt']
     rw[this]at q4;cases q4;rfl
    exact absurd q4' (other j e1 b hij hj q1 l1 q3)
   ·rw[List.getElem?_set_ne hij]at q1 q3;rw[List.getElem?_set_ne hik]at q2 q4;exact s.inj j k e1 e2 b hj hk q1 q2 l1 l2 q3 q4
theorem SS.changeO{i:Nat}{a:Addr}{d0 d1:D}{o1:HO}(s:SS g c H0 B τ σ H S)(hz:c.frz=false)(hi:zl c i)(h0:τ[i]? = some (some d0))(ha:σ[i]? = some (some (.ref a)))(r:cx g (hid H S) d1 o1)(l0:zr d0=true:=by rfl):SS g c H0 B (τ.set i (some d1)) σ (upd H a o1) S/\qe (hid H S) (hid (upd H a o1) S):=by
 have hlt:i<τ.length:=(List.getElem?_eq_some_iff.mp h0).1;obtain⟨a',o0,y1,y2,y4,y5⟩:=s.own i d0 hi h0 l0;rw[ha]at y1;cases y1;have hh:S.h a=true:=by rw[s.hd,y2,Bool.or_true]
 have he:hid (upd H a o1) S=hid H S:=gF hh;have other:∀j e,i≠j->zl c j->τ[j]? = some (some e)->zr e=true->∀b,σ[j]? = some (some (.ref b))->b≠a:=λj e hij hj h l b hb z=>by
  subst z;exact hij (s.inj i j d0 e b hi hj h0 h l0 l ha hb)
 refine⟨⟨⟨by simp[s.se.len],λj e hj=>?_,λb hb n=>?_⟩,by simp[s.lenN],λb o hb=>?_,s.sub0,s.hd,s.new,λj e hj h l=>?_,λj k e1 e2 b hj hk q1 q2 l1 l2 q3 q4=>?_,λz=>by rw[hz]at z;cases z⟩,by rw[he];exact qe.refl _⟩
 ·by_cases hij:i=j
  ·subst hij;simp[hlt]at hj;subst hj;refine⟨.ref a,ha,.inr ⟨a,o1,y2,rfl,zP,by rw[he];exact r⟩,λx hx hn=>?_⟩;obtain⟨y,hy1,hy2⟩:=hi;rw[hy1]at hx;cases hx;rw[hn]at hy2;cases hy2
  ·rw[List.getElem?_set_ne hij]at hj;obtain⟨u,z1,z2,z3⟩:=s.se.val j e hj;by_cases ho:zl c j/\zr e=true
   ·obtain⟨b,ob,w1,w2,w4,w5⟩:=s.own j e ho.1 hj ho.2;rw[z1]at w1;cases w1;refine⟨_,z1,.inr ⟨b,ob,w2,rfl,by rw[qg (other j e hij ho.1 hj ho.2 b z1)];exact w4,by rw[he];exact w5⟩,λx hx hn=>?_⟩;obtain⟨y,hy1,hy2⟩:=ho.1;rw[hy1]at hx;cases hx;rw[hn]at hy2;cases hy2
   ·have st:Rep g (hid H S) e u:=by
     cases q:c.N[j]? with
     |some x=>
      cases q2:c.own.contains x with
      |false=>exact z3 x q q2
      |true=>exact z2.nold (by cases q3:zr e with|false=>rfl|true=>exact absurd ⟨⟨x,q,q2⟩,q3⟩ ho)
     |none=>
      have h1:=(List.getElem?_eq_some_iff.mp hj).1;have h2:=List.getElem?_eq_none_iff.mp q;have h3:=s.lenN;lia
    exact⟨u,z1,.inl (by rw[he];exact st),λ_ _ _=>by rw[he];exact st⟩
 ·by_cases hba:b=a
  ·subst hba;rw[zP]at n;cases n
  ·rw[qg hba]at n;exact s.se.sub b hb n
 ·by_cases hba:b=a
  ·subst hba;rw[s.new b y2]at hb;cases hb
  ·rw[qg hba];exact s.same _ _ hb
 ·by_cases hij:i=j
  ·subst hij;simp[hlt]at h;subst h;exact⟨a,o1,ha,y2,zP,by rw[he];exact r⟩
  ·rw[List.getElem?_set_ne hij]at h;obtain⟨b,ob,w1,w2,w4,w5⟩:=s.own j e hj h l;exact⟨b,ob,w1,w2,by rw[qg (other j e hij hj h l b w1)];exact w4,by rw[he];exact w5⟩
 ·have f:∀k e,(τ.set i (some d1))[k]? = some (some e)->zr e=true->∃e',τ[k]? = some (some e')/\zr e'=true:=λk e h l=>by
   by_cases hik:i=k
   ·subst hik;exact⟨d0,h0,l0⟩
   ·rw[List.getElem?_set_ne hik]at h;exact⟨e,h,l⟩
  obtain⟨e1',q1',l1'⟩:=f j e1 q1 l1;obtain⟨e2',q2',l2'⟩:=f k e2 q2 l2;exact s.inj j k e1' e2' b hj hk q1' q2' l1' l2' q3 q4
theorem SS.change{i:Nat}{a:Addr}{d0:D}{vs:List V}{ds:List D}(s:SS g c H0 B τ σ H S)(hz:c.frz=false)(hi:zl c i)(h0:τ[i]? = some (some d0))(ha:σ[i]? = some (some (.ref a)))(r:zb g (hid H S) ds vs)(l0:zr d0=true:=by rfl):SS g c H0 B (τ.set i (some (.lst ds))) σ (upd H a (.lst vs)) S/\qe (hid H S) (hid (upd H a (.lst vs)) S):=s.changeO hz hi h0 ha (.lst r) l0
end
noncomputable def bN(g:Gc)(c:Cc)(E:XK)(fr:Bool)(H0:Hp)(B:Sh)(H:Hp)(S:Sh)(D:Ends):O->Prop
 | .nx τ'=>∀σ' H' S',SS g c H0 B τ' σ' H' S'->qe (hid H S) (hid H' S')->D.nx σ' H'
 | .bk τ'=>∀σ' H' S',SS g c H0 B τ' σ' H' S'->qe (hid H S) (hid H' S')->D.bk σ' H'
 | .ct τ'=>∀σ' H' S',SS g c H0 B τ' σ' H' S'->qe (hid H S) (hid H' S')->D.ct σ' H'
 | .rt d=>∀v H',qe H0 H'->Rep g (hid H' B) d v->(fr=true->zr d=true->Fr g H0 B H' d v)->D.rt v H'
 | .ex k=>∀H' C,qe H0 H'->g.clA k=some C->E (.ref C) none H'
 | .no=>False
section
variable(w:W)(g:Gc)(c:Cc)(E:XK)(fr:Bool)
noncomputable def tS(s:EV.S):TS:=λD σ H=>∃H0 B τ S,SS g c H0 B τ σ H S/\bN g c E fr H0 B H S D (evS w s τ)
noncomputable def tSs(s:Ss):TS:=λD σ H=>∃H0 B τ S,SS g c H0 B τ σ H S/\bN g c E fr H0 B H S D (qf w s τ)
end
structure XS(w:W)(g:Gc)(c:Cc)(E:XK)(X:Cx):Prop extends XO w g c E X where
 thr:c.thr=true->Throws X E
 exc:∀x C,c.G.lookup x=some .exc->g.clA x=some C->jd g.K C
 cat:∀k x,w.cat k x=true->∀C D,g.clA k=some C->g.clA x=some D->bx g.K (.ref C) (.ref D)=some true
 frm:X.ex=[]/\X.stack=X.env::X.outer/\X.env.frame=some X.env.locals
 gh:∀x k,c.GH.lookup x=some k->k≠.exc/\∀v,GM w g X.prog X.w X.mg X.base (X.A.mark v) false x k
section
variable{w:W}{g:Gc}{c:Cc}{E:XK}{fr:Bool}{X:Cx}{H0:Hp}{B:Sh}{τ:Env}{σ:L2.St}{H H':Hp}{S:Sh}{Ed:Ends}
theorem bN.up{o:O}{S':Sh}(h:bN g c E fr H0 B H S Ed o)(e:qe (hid H S) (hid H' S')):bN g c E fr H0 B H' S' Ed o:=by
 cases o with
 |nx t=>exact λσ' H2 S2 s e2=>h σ' H2 S2 s (e.trans e2)
 |bk t=>exact λσ' H2 S2 s e2=>h σ' H2 S2 s (e.trans e2)
 |ct t=>exact λσ' H2 S2 s e2=>h σ' H2 S2 s (e.trans e2)
 |rt d=>exact h
 |ex k=>exact h
 |no=>exact h
theorem s_e{e:EV.E}{f:D->O}{Q:VK}(ss:SS g c H0 B τ σ H S)(h:bN g c E fr H0 B H S Ed ((evE w e τ).out f))(k:∀d v H',evE w e τ=.ok d->bq g c e S H d v H'->bN g c E fr H0 B H S Ed (f d)->Q v H'):tE w g c E e σ H Q:=by
 refine⟨τ,S,ss.se,?_⟩;cases q:evE w e τ with
 |ok d=>rw[q]at h;exact λv H' p=>k d v H' q p h
 |ex x=>rw[q]at h;exact λH' C s hc=>h H' C (ss.same.trans s) hc
 |no=>rw[q]at h;exact h
theorem s_t{t:T}{f:Bool->O}{Q:Bool->Hp->Prop}(ss:SS g c H0 B τ σ H S)(h:bN g c E fr H0 B H S Ed ((evT w t τ).out f))(k:∀b H',evT w t τ=.ok b->qe H H'->bN g c E fr H0 B H S Ed (f b)->Q b H'):tT w g c E t σ H Q:=by
 refine⟨τ,S,ss.se,?_⟩;cases q:evT w t τ with
 |ok d=>rw[q]at h;exact λH' p=>k d H' q p h
 |ex x=>rw[q]at h;exact λH' C s hc=>h H' C (ss.same.trans s) hc
 |no=>rw[q]at h;exact h
theorem s_a{es:Es}{f:List D->O}{Q:List V->Hp->Prop}(ss:SS g c H0 B τ σ H S)(h:bN g c E fr H0 B H S Ed ((zi w es τ).out f))(k:∀ds vs H',zi w es τ=.ok ds->qe H H'->dX g H' S ds vs->bN g c E fr H0 B H S Ed (f ds)->Q vs H'):tA w g c E es σ H Q:=by
 refine⟨τ,S,ss.se,?_⟩;cases q:zi w es τ with
 |ok d=>rw[q]at h;exact λvs H' p r _=>k d vs H' q p r h
 |ex x=>rw[q]at h;exact λH' C s hc=>h H' C (ss.same.trans s) hc
 |no=>rw[q]at h;exact h
theorem lN(ss:SS g c H0 B τ σ H S){b:Addr}(h:S.h b=false):B.h b=false:=by
 have:=ss.hd b;rw[h]at this;cases q:B.h b with
 |false=>rfl
 |true=>rw[q]at this;cases this
theorem j'(ss:SS g c H0 B τ σ H S):qe (hid H' S) (hid H' B):=λb o h=>by
 obtain⟨z1,z2⟩:=bS.mp h;exact bS.mpr ⟨lN ss z1,z2⟩
theorem oa:∀{is:List Nat}{ds:List EV.D}{τ:Env}{x:Str},setAll is ds τ≠.ex x
 | [],[],_,_,h=>by cases h
 | [],_::_,_,_,h=>by cases h
 |_::_,[],_,_,h=>by cases h
 |i::is,d::ds,τ,x,h=>by simp only[setAll]at h;exact oa h
theorem xD{pos:Pos}:PS X (.Pass pos) (tS w g c E fr .pass):=PS.imp uB λD σ H ⟨H0,B,τ,S,ss,h⟩=>h σ H S ss (qe.refl _)
theorem vV{pos:Pos}:PS X (.Break pos) (tS w g c E fr .brk):=PS.imp xY λD σ H ⟨H0,B,τ,S,ss,h⟩=>h σ H S ss (qe.refl _)
theorem rT{pos:Pos}:PS X (.Continue pos) (tS w g c E fr .cnt):=PS.imp yb λD σ H ⟨H0,B,τ,S,ss,h⟩=>h σ H S ss (qe.refl _)
theorem i0{e:Expr}{t:Option Expr}{l:Nat}{env:PySem.Env}(h:dZ e=false):swapsWith e t l env=pure false:=by
 cases e<;>first|rfl|(simp[dZ]at h)
theorem rO{e:Expr}{ie:EV.E}{pos:Pos}(he:PE X e (tE w g c E ie))(hc:dZ e=false):PS X (.Expr e pos) (tS w g c E fr (.exp ie)):=
 PS.imp (oR he (i0 hc)) λD σ H ⟨H0,B,τ,S,ss,h⟩=>by
  simp only[zO,zS,zR,zV,zt,zW,zM,zX,bP,zy,zB,zG,zD,zL,zA,zK,zw,zI,zF,zE,zH,zu,zp]at h;exact s_e ss h λd v H' _ p k=>k σ H' S (ss.up p.same) (qG p.same)
theorem wY{pos:Pos}(hf:fr=false):PS X (.Return none pos) (tS w g c E fr .retN):=PS.imp rM λD σ H ⟨H0,B,τ,S,ss,h⟩=>h _ _ ss.same .non (by rw[hf];intro z;cases z)
theorem jR(ss:SS g c H0 B τ σ H S){a:Addr}{d:EV.D}{o:HO}(h1:H0 a=none)(h2:H' a=some o)(h3:cx g (hid H' (cb S a)) d o):Rep g (hid H' B) d (.ref a)/\Fr g H0 B H' d (.ref a):=by
 have up:qe (hid H' (cb S a)) (hid H' (cb B a)):=λb o hb=>by
  obtain⟨z1,z2⟩:=bS.mp hb;refine bS.mpr ⟨?_,z2⟩;have z1:(S.h b||b==a)=false:=z1;simp only[Bool.or_eq_false_iff]at z1;show (B.h b||b==a)=false;rw[lN ss z1.1,z1.2];rfl
 exact⟨h3.rep (up.trans ow) (bS.mpr ⟨ss.sub0.free h1,h2⟩),⟨a,o,rfl,h1,h2,h3.mono up⟩⟩
theorem oy(ss:SS g c H0 B τ σ H S){a:Addr}{d:EV.D}{o1:HO}(y1:S.o a=true)(y3:cx g (hid H' S) d o1):cx g (hid H' (cb S a)) d o1:=y3.mono λb o hb=>by
 have hh:S.h a=true:=by rw[ss.hd,y1,Bool.or_true]
 obtain⟨z1,z2⟩:=bS.mp hb;refine bS.mpr ⟨?_,z2⟩;show (S.h b||b==a)=false;rw[z1]
 simpa using λz:b=a=>by rw[z,hh]at z1;cases z1
theorem kK{e:Expr}{ie:EV.E}{pos:Pos}(he:PE X e (tE w g c E ie))(hf:fr=true->cF c ie=true):PS X (.Return (some e) pos) (tS w g c E fr (.ret ie)):=
 PS.imp (jf he) λD σ H ⟨H0,B,τ,S,ss,h⟩=>by
  simp only[zO,zS,zR,zV,zt,zW,zM,zX,bP,zy,zB,zG,zD,zL,zA,zK,zw,zI,zF,zE,zH,zu,zp]at h;refine s_e ss h λd v H' _ p k=>?_
  have k:∀v H',qe H0 H'->Rep g (hid H' B) d v->(fr=true->zr d=true->Fr g H0 B H' d v)->D.rt v H':=k;have s1:=ss.up p.same;by_cases hz:fr=true/\zr d=true
  ·obtain⟨a,o,rfl,h1,h2,h3⟩:=p.frc (hf hz.1) hz.2;obtain⟨r1,r2⟩:=jR (H':=H') ss (ss.same.free h1) h2 h3;exact k _ H' s1.same r1 λ_ _=>r2
  ·rcases p.rb with r|⟨a,o,y1,rfl,y2,y3⟩
   ·exact k v H' s1.same (r.mono (j' ss)) λz l=>absurd ⟨z,l⟩ hz
   ·obtain⟨r1,r2⟩:=jR (H':=H') ss (ss.new a y1) y2 (oy ss y1 y3);exact k _ H' s1.same r1 λ_ _=>r2
theorem sQ{e:Expr}{ie:EV.E}{pos:Pos}(he:PE X e (tE w g c E ie)):PS X (.Return (some e) pos) (tS w g c E fr (.retn ie)):=
 PS.imp (jf he) λD σ H ⟨H0,B,τ,S,ss,h⟩=>by
  simp only[zO,zS,zR,zV,zt,zW,zM,zX,bP,zy,zB,zG,zD,zL,zA,zK,zw,zI,zF,zE,zH,zu,zp]at h;refine s_e ss h λd v H' _ p k=>?_
  have s1:=ss.up p.same;cases hl:zr d with
  |true=>rw[hl]at k;exact k.elim
  |false=>
   rw[hl]at k;have k:∀v H',qe H0 H'->Rep g (hid H' B) d v->(fr=true->zr d=true->Fr g H0 B H' d v)->D.rt v H':=k;rcases p.rb with r|⟨a,o,y1,rfl,y2,y3⟩
   ·exact k v H' s1.same (r.mono (j' ss)) λ_ l=>by rw[hl]at l;cases l
   ·cases y3<;>cases hl
theorem BJ(O:XO w g c E X){x:Str}{i:Nat}{p pos:Pos}(h:loc c x=some i)(ho:c.own.contains x=true):PS X (.Return (some (.Name x p)) pos) (tS w g c E fr (.ret (.own i))):=by
 obtain⟨h1,h2,h3,h4⟩:=zC h;refine PS.imp (jf (iM (i:=i) (by rw[O.N];exact h1) (by unfold fX;rw[O.nm];exact h2) h3 h4)) λD σ H ⟨H0,B,τ,S,ss,h⟩=>?_
 simp only[zO,zS,zR,zV,zt,zW,zM,zX,bP,zy,zB,zG,zD,zL,zA,zK,zw,zI,zF,zE,zH,zu,zp,qU,qW,qY,zc,ze,qV,zd,zf,za,qm,qx,qB,qu,qt,qK,qA,qr,ql,qw,qy,qO,qi,qz,qP,qq,qo,qJ,qL,qD,qN,qE,qM,qQ,qC,qI,qT,qH,qF,qR,qS,bO]at h;cases q:τ[i]? with
 |none=>rw[q]at h;exact h.elim
 |some o=>
  cases o with
  |none=>rw[q]at h;exact h.elim
  |some d=>
   rw[q]at h;cases hl:zr d with
   |false=>
    obtain⟨v,z1,z2,_⟩:=ss.se.val i d q;exact⟨_,z1,h v H ss.same ((z2.nold hl).mono (j' ss)) λ_ l=>by rw[hl]at l;cases l⟩
   |true=>
   obtain⟨a,o,z1,y1,y2,y3⟩:=ss.own i d ⟨x,h1,ho⟩ q hl;obtain⟨r1,r2⟩:=jR (H':=H) ss (ss.new a y1) y2 (oy ss y1 y3);exact⟨_,z1,h _ H ss.same r1 λ_ _=>r2⟩
theorem jv{e:Expr}{ie:EV.E}{i:Nat}{st:Stmt}{te:TE}(hp:PS X st (i5 te (eJ i)))(hr:∀σ H Q,tE w g c E ie σ H Q->te σ H Q)(hlt:i<c.N.length)(hk:(zl c i/\cF c ie=true/\c.frz=false)\/(¬ zl c i/\esc ie=true)):PS X st (tS w g c E fr (.set (.nm i) ie)):=
 PS.imp hp λD σ H ⟨H0,B,τ,S,ss,h⟩=>by
  simp only[zO,zS,zR,zV,zt,zW,zM,zX,bP,zy,zB,zG,zD,zL,zA,zK,zw,zI,zF,zE,zH,zu,zp,store]at h;refine hr σ H _ (s_e ss h λd v H' _ p k=>?_);have k:∀σ' H2 S2,SS g c H0 B (τ.set i (some d)) σ' H2 S2->qe (hid H S) (hid H2 S2)->D.nx σ' H2:=k;rcases hk with ⟨ho,hf,hfz⟩|⟨ho,he⟩
  ·cases hl:zr d with
   |true=>
    obtain⟨S',s1,s2⟩:=ss.setOwn hfz ho (by rw[ss.lenN];exact hlt) p.same (p.frc hf hl);exact k _ _ S' s1 s2
   |false=>exact k _ _ S ((ss.up p.same).setN hfz (by rw[ss.lenN];exact hlt) hl (p.rb.nold hl)) (qG p.same)
  ·exact k _ _ S ((ss.up p.same).set ho (p.st he)) (qG p.same)
theorem kM(O:XO w g c E X){tg e:Expr}{itg:Tg}{ie:EV.E}{pos:Pos}(he:PE X e (tE w g c E ie))(hg:PG X tg (gT X.K itg))(hf:gG c itg)(hes:esc ie=true)(hs:swapsWithSole [tg] e pos.line X.env=pure false)(hw:b6 [tg] e X.env=pure none)(h1:(assignEach [tg] X.env).map (·.2)=[assign tg X.env]) :
  PS X (.Assign [tg] e pos) (tS w g c E fr (.set itg ie)):=
 PS.imp (md he hg hs hw h1) λD σ H ⟨H0,B,τ,S,ss,h⟩=>by
  simp only[zO,zS,zR,zV,zt,zW,zM,zX,bP,zy,zB,zG,zD,zL,zA,zK,zw,zI,zF,zE,zH,zu,zp]at h;refine s_e ss h λd v H' _ p k=>?_
  cases q:store itg d τ with
  |ok τ'=>
   rw[q]at k;exact(ss.up p.same).store O.K hf (p.st hes) q λσ' s1=>k σ' H' S s1 (qG p.same)
  |ex z=>cases itg<;>simp only[store]at q<;>first|cases q|(split at q<;>first|cases q|(split at q<;>first|(exact absurd q (oa))|cases q))
  |no=>rw[q]at k;exact k.elim
theorem ve{env:PySem.Env}{x y:Str}{px py pt pt2:Pos}{kt k2:Nat}{a b:Expr}(bk:env.blockKind=.function)(kx:env.kindOf x=some .local)(ky:env.kindOf y=some .local)(hl:px.line=py.line)(hxy:x≠y)(ha:isStar a=false)(hb:isStar b=false)(h1:[a,b].all (cw 8)=false)(h2:[a,b].all (constantsAlone 8)=false) :
  b6 [.Tuple [.Name x px,.Name y py] kt pt] (.Tuple [a,b] k2 pt2) env=pure (some [x,y]):=by
 have ed:[x,y].eraseDups=[x,y]:=by
  have:(y==x)=false:=by simpa using λz:y=x=>hxy z.symm
  simp[List.eraseDups_cons,this]
 have b1:(env.blockKind != .function)=false:=by rw[bk];rfl
 have hp:(Expr.Name x px).pos=px:=rfl;unfold b6;simp only[b1,List.filterMap_cons,List.filterMap_nil,List.head?_cons,Option.map_some,Option.getD_some,hp,kx,ky,hl,beq_self_eq_true,Bool.and_self,if_true,ed,h1,h2];rw[if_neg (by simp),if_neg,if_neg (by simp),if_neg bY,if_neg bY];simp only[List.any_cons,List.any_nil,Bool.or_false,bh];rintro(h|h)
 ·split at h
  ·cases ha
  ·cases h
 ·split at h
  ·cases hb
  ·cases h
theorem yW(O:XO w g c E X)(hc:X.calm=true){x y:Str}{i j:Nat}{a b:Expr}{ia ib:EV.E}{px py pt pos:Pos}{kt k2 pt2}(hx:bG c x=some i)(hy:bG c y=some j)(lx:c.nm.lookup x=some .local)(ly:c.nm.lookup y=some .local)(hij:i≠j)
  (ha:PE X a (tE w g c E ia)) (hb:PE X b (tE w g c E ib)) (hsa:isStar a=false) (hsb:isStar b=false) (hfa:[a,b].all (cw 8)=false) (hca:[a,b].all (constantsAlone 8)=false) (hl:(px.line==py.line)=true) (hi:¬ zl c i) (hea:esc ia=true) (hk:(zl c j/\fresh c ib=true/\c.frz=false)\/(¬ zl c j/\esc ib=true)) :
  PS X (.Assign [.Tuple [.Name x px,.Name y py] kt pt] (.Tuple [a,b] k2 pt2) pos) (tS w g c E fr (.par i j ia ib)):=by
 obtain⟨l1,_⟩:=zk hx;obtain⟨l3,_⟩:=zC l1;obtain⟨m1,_⟩:=zk hy;obtain⟨m3,_⟩:=zC m1;have hst:=qX (es:=[]) (env:=X.env) hsb;have hst2:=qX (es:=[b]) (env:=X.env) hsa;have hxy:x≠y:=λz=>by subst z;rw[hx]at hy;cases hy;exact hij rfl
 have hw:b6 [.Tuple [.Name x px,.Name y py] kt pt] (.Tuple [a,b] k2 pt2) X.env=pure (some [x,y]):=by
  refine ve ?_ ?_ ?_ (eq_of_beq hl) hxy hsa hsb hfa hca
  ·unfold Env.blockKind;rw[O.kind];rfl
  ·show X.env.scope.names.lookup x=_;rw[O.nm,lx]
  ·show X.env.scope.names.lookup y=_;rw[O.nm,ly]
 refine PS.imp (sy (i:=i) (j:=j) hc (by rw[O.N];exact O.nd) (by rw[O.N];exact l3) (by rw[O.N];exact m3) hij (by rw[O.nm];exact lx) (by rw[O.nm];exact ly) (cU ha (cU hb dP hst) hst2) hw rfl) λD σ H ⟨H0,B,τ,S,ss,h⟩=>?_
 simp only[zO,zS,zR,zV,zt,zW,zM,zX,bP,zy,zB,zG,zD,zL,zA,zK,zw,zI,zF,zE,zH,zu,zp]at h;refine s_e ss h λd v H1 _ p1 k1=>?_
 refine s_e (ss.up p1.same) (bN.up k1 (qG p1.same)) λd2 v2 H2 _ p2 k2=>?_
 refine⟨v,v2,rfl,?_⟩;have k2:∀σ' H' S',SS g c H0 B ((τ.set i (some d)).set j (some d2)) σ' H' S'->qe (hid H1 S) (hid H' S')->D.nx σ' H':=k2;have s1:=(ss.up p1.same).set hi (p1.st hea);have hlt:j<(τ.set i (some d)).length:=by rw[List.length_set,ss.lenN];exact(List.getElem?_eq_some_iff.mp m3).1
 rcases hk with ⟨ho,hf,hfz⟩|⟨ho,he⟩
 ·obtain⟨S',z1,z2⟩:=s1.setOwn hfz ho hlt p2.same (p2.fr hf);exact k2 _ _ S' z1 z2
 ·exact k2 _ _ S ((s1.up p2.same).set ho (p2.st he)) (qG p2.same)
theorem vI(O:XO w g c E X)(hc:X.calm=true){x y z:Str}{i j l:Nat}{a b d:Expr}{ia ib id:EV.E}{px py pz pt pos:Pos}{kt k2 pt2}(hx:bG c x=some i)(hy:bG c y=some j)(hz:bG c z=some l)(lx:c.nm.lookup x=some .local)(ly:c.nm.lookup y=some .local)(lz:c.nm.lookup z=some .local)(hij:i≠j)(hil:i≠l)(hjl:j≠l)
  (ha:PE X a (tE w g c E ia)) (hb:PE X b (tE w g c E ib)) (hd:PE X d (tE w g c E id)) (hsa:isStar a=false) (hsb:isStar b=false) (hsd:isStar d=false) (hfa:[a,b,d].all (cw 8)=false) (hca:[a,b,d].all (constantsAlone 8)=false) (hl:(px.line==py.line)=true) (hl':(px.line==pz.line)=true) (hi:¬ zl c i) (hj:¬ zl c j) (hk:¬ zl c l) (hea:esc ia=true) (heb:esc ib=true) (hed:esc id=true) :
  PS X (.Assign [.Tuple [.Name x px,.Name y py,.Name z pz] kt pt] (.Tuple [a,b,d] k2 pt2) pos) (tS w g c E fr (.par3 i j l ia ib id)):=λpins s σ H D I ⟨H0,B,τ,S,ss,h⟩=>by
 simp only[zO,zS,zR,zV,zt,zW,zM,zX,bP,zy,zB,zG,zD,zL,zA,zK,zw,zI,zF,zE,zH,zu,zp]at h;exact aK h
end
section
variable{w:W}{g:Gc}{c:Cc}{E:XK}{fr:Bool}{X:Cx}{H0:Hp}{B:Sh}{τ:Env}{σ:L2.St}{H H':Hp}{S:Sh}{Ed:Ends}
theorem lh{i:Nat}{d:EV.D}(h:bO τ i=.ok d):τ[i]? = some (some d):=by
 unfold bO at h;split at h
 ·rename_i q;cases h;exact q
 ·cases h
theorem Bx(O:XO w g c E X)(hfz:c.frz=false){x:Str}{i:Nat}{a:Expr}{ia:EV.E}{p ap cp pos:Pos}(h:loc c x=some i)(ho:c.own.contains x=true)(ha:PE X a (tE w g c E ia))(hes:esc ia=true)(hs:isStar a=false)(hl:(ap.endLine==cp.line)=true) :
  PS X (.Expr (.Call (.Attribute (.Name x p) "append" ap) [a] [] cp) pos) (tS w g c E fr (.app i ia)):=by
 obtain⟨h1,h2,h3,h4⟩:=zC h;have hv:PE X (.Name x p) (gJ i):=iM (i:=i) (by rw[O.N];exact h1) (by unfold fX;rw[O.nm];exact h2) h3 h4;have hst:=qX (es:=[]) (env:=X.env) hs;have hb:=Bt (X:=X) (apos:=ap) (cpos:=cp) PySem.F.plainAttrs_list PySem.F.slot_list_append PySem.F.type_list_append mY hv (cU ha dP hst) rfl (by rw[hst];rfl) hl hst rfl;refine PS.imp (oR hb rfl) λD σ H ⟨H0,B,τ,S,ss,k⟩=>?_
 simp only[zO,zS,zR,zV,zt,zW,zM,zX,bP,zy,zB,zG,zD,zL,zA,zK,zw,zI,zF,zE,zH,zu,zp]at k;cases q:bO τ i with
 |ex z=>unfold bO at q;split at q<;>cases q
 |no=>rw[q]at k;exact k.elim
 |ok d0=>
  rw[q]at k;have q':=lh q;have hi:zl c i:=⟨x,h1,ho⟩
  have ld:zr d0=true:=by cases d0<;>first|rfl|exact k.elim
  obtain⟨ad,oo,z1,y1,y2,y3⟩:=ss.own i d0 hi q' ld;cases y3 with
  |dic kvs=>exact k.elim
  | @lst ds vs y3=>
  refine⟨_,z1,.inl ⟨rfl,vs,SqL.of y2⟩,s_e ss k λd v H1 _ p1 k1=>?_⟩
  try simp only at k1
  by_cases hz:ds.length<SZ
  ·rw[if_pos hz]at k1;have s1:=ss.up p1.same;have y2':=p1.same _ _ y2;obtain⟨s2,s3⟩:=s1.change (vs:=vs++[v]) (ds:=ds++[d]) hfz hi q' z1 ((y3.mono (qG p1.same)).append (.cons (p1.st hes) .nil));exact⟨ad,vs,v,rfl,rfl,y2',by rw[<-y3.length,bt];unfold SZ at hz;lia,k1 _ _ S s2 ((qG p1.same).trans s3)⟩
  ·rw[if_neg hz]at k1;exact k1.elim
theorem BP(O:XO w g c E X)(hfz:c.frz=false){x:Str}{i:Nat}{a:Expr}{ia:EV.E}{p ap cp pos:Pos}(h:loc c x=some i)(ho:c.own.contains x=true)(ha:PE X a (tE w g c E ia))(hes:esc ia=true)(hs:isStar a=false)(hl:(ap.endLine==cp.line)=true) :
  PS X (.Expr (.Call (.Attribute (.Name x p) "update" ap) [a] [] cp) pos) (tS w g c E fr (.dupd i ia)):=λpins s σ H D I ⟨H0,B,τ,S,ss,h⟩=>by
 simp only[zO,zS,zR,zV,zt,zW,zM,zX,bP,zy,zB,zG,zD,zL,zA,zK,zw,zI,zF,zE,zH,zu,zp]at h;exact aK h
theorem pF(O:XO w g c E X)(hfz:c.frz=false){x:Str}{i:Nat}{a:Expr}{ia:EV.E}{p ap cp pos:Pos}(h:loc c x=some i)(ho:c.own.contains x=true)(ha:PE X a (tE w g c E ia))(hes:esc ia=true)(hs:isStar a=false)(hl:(ap.endLine==cp.line)=true) :
  PS X (.Expr (.Call (.Attribute (.Name x p) "extend" ap) [a] [] cp) pos) (tS w g c E fr (.ext i ia)):=λpins s σ H D I ⟨H0,B,τ,S,ss,h⟩=>by
 simp only[zO,zS,zR,zV,zt,zW,zM,zX,bP,zy,zB,zG,zD,zL,zA,zK,zw,zI,zF,zE,zH,zu,zp]at h;exact aK h
theorem vo(O:XO w g c E X)(hfz:c.frz=false){x y:Str}{i j:Nat}{p ap cp px q1 pos:Pos}{k0}(hx:bG c x=some i)(hy:loc c y=some j)(hox:c.own.contains x=false)(hoy:c.own.contains y=true)(hl:(ap.endLine==cp.line)=true) :
  PS X (.Assign [.Name x px] (.Call (.Attribute (.Name y p) "pop" ap) [.Constant (.int 0) k0 q1] [] cp) pos) (tS w g c E fr (.pop0 i j)):=λpins s σ H D I ⟨H0,B,τ,S,ss,h⟩=>by
 simp only[zO,zS,zR,zV,zt,zW,zM,zX,bP,zy,zB,zG,zD,zL,zA,zK,zw,zI,zF,zE,zH,zu,zp]at h;exact aK h
theorem vR(O:XO w g c E X)(hfz:c.frz=false){x:Str}{i:Nat}{k e:Expr}{ik ie:EV.E}{p sp pos:Pos}(h:loc c x=some i)(ho:c.own.contains x=true)(hk:PE X k (tE w g c E ik))(he:PE X e (tE w g c E ie))(hes:esc ie=true)(hsl:isSlice k=false)(hc:dZ e=false) :
  PS X (.Assign [.Subscript (.Name x p) k sp] e pos) (tS w g c E fr (.seti i ik ie)):=by
 obtain⟨h1,h2,h3,h4⟩:=zC h;have hv:PE X (.Name x p) (gJ i):=iM (i:=i) (by rw[O.N];exact h1) (by unfold fX;rw[O.nm];exact h2) h3 h4;have hg:PG X (.Subscript (.Name x p) k sp) (k_ (gJ i) (tE w g c E ik) (λx y v H Q=>kL x y v H Q\/oF x y v H Q)):=tf hv hk (set_list.or (p9 O.units)) (by intro v;cases k<;>first|rfl|(simp[isSlice]at hsl));refine PS.imp (md he hg (by simp only[swapsWithSole];exact i0 hc) rfl rfl) λD σ H ⟨H0,B,τ,S,ss,k⟩=>?_
 simp only[zO,zS,zR,zV,zt,zW,zM,zX,bP,zy,zB,zG,zD,zL,zA,zK,zw,zI,zF,zE,zH,zu,zp]at k;refine s_e ss k λd v H1 _ p1 k1=>?_
 cases q:bO τ i with
 |ex z=>unfold bO at q;split at q<;>cases q
 |no=>rw[q]at k1;exact k1.elim
 |ok d0=>
  rw[q]at k1;have q':=lh q;have hi:zl c i:=⟨x,h1,ho⟩
  have s1:=ss.up p1.same;cases ld:zr d0 with
  |false=>
   obtain⟨v0,z1,_⟩:=s1.se.val i d0 q';refine⟨_,z1,s_e s1 (bN.up k1 (qG p1.same)) λn vn H2 _ p2 k2=>?_⟩;cases d0<;>first|exact k2.elim|cases ld
  |true=>
  obtain⟨ad,oo,z1,y1,y2,y3⟩:=s1.own i d0 hi q' ld;refine⟨_,z1,s_e s1 (bN.up k1 (qG p1.same)) λn vn H2 _ p2 k2=>?_⟩;cases y3 with
  | @lst ds vs y3=>
   cases n with
   |int j=>
    simp only at k2;cases qj:ixN ds.length j with
    |none=>rw[qj]at k2;exact k2.elim
    |some m=>
     rw[qj]at k2;have s2:=s1.up p2.same;have y2':=p2.same _ _ y2;obtain⟨s3,s4⟩:=s2.change (vs:=vs.set m v) (ds:=ds.set m d) hfz hi q' z1 ((y3.mono (qG p2.same)).set ((p1.st hes).mono (qG p2.same)) m);exact .inl ⟨ad,vs,j,m,rfl,p2.rb.int,y2',by rw[<-y3.length];exact qj,k2 _ _ S s3 ((qG p2.same).trans s4)⟩
   |_=>exact k2.elim
  |dic kvs=>
   cases n with
   |int j=>
    cases d with
    |int z=>
     simp only at k2;by_cases hz:kvs.length<SZ
     ·rw[if_pos hz]at k2;have s2:=s1.up p2.same;have y2':=p2.same _ _ y2;obtain⟨s3,s4⟩:=s2.changeO (d1:=.dic (ft kvs j z)) (o1:=.dK (bH (ft kvs j z))) hfz hi q' z1 (.dic _);have hv:=p1.rb.int;subst hv;refine .inr ⟨ad,kvs,j,z,rfl,p2.rb.int,rfl,y2',?_,k2 _ _ S s3 ((qG p2.same).trans s4)⟩;rw[bt];unfold SZ at hz;lia
     ·rw[if_neg hz]at k2;exact k2.elim
    |_=>exact k2.elim
   |_=>exact k2.elim
theorem uE:PSs X [] (tSs w g c E fr .nil):=PSs.imp B7 λD σ H ⟨H0,B,τ,S,ss,h⟩=>by
 simp only[qf]at h;exact h σ H S ss (qe.refl _)
theorem lH{s:Stmt}{r:List Stmt}{is:EV.S}{ir:Ss}(h1:PS X s (tS w g c E fr is))(h2:PSs X r (tSs w g c E fr ir)):PSs X (s::r) (tSs w g c E fr (.cons is ir)):=
 PSs.imp (pW h1 h2) λD σ H ⟨H0,B,τ,S,ss,h⟩=>by
  simp only[qf]at h;refine⟨H0,B,τ,S,ss,?_⟩;cases q:evS w is τ with
  |nx τ'=>rw[q]at h;exact λσ' H' S' s' e=>⟨H0,B,τ',S',s',bN.up h e⟩
  |bk τ'=>rw[q]at h;exact h
  |ct τ'=>rw[q]at h;exact h
  |rt d=>rw[q]at h;exact h
  |ex k=>rw[q]at h;exact h
  |no=>rw[q]at h;exact h
theorem vK{t:Expr}{a b:List Stmt}{it:T}{ia ib:Ss}{pos:Pos}(ht:PT X t (tT w g c E it))(ha:PSs X a (tSs w g c E fr ia))(hb:PSs X b (tSs w g c E fr ib)):PS X (.If t a b pos) (tS w g c E fr (.ite it ia ib)):=
 PS.imp (BA ht ha hb) λD σ H ⟨H0,B,τ,S,ss,h⟩=>by
  simp only[zO,zS,zR,zV,zt,zW,zM,zX,bP,zy,zB,zG,zD,zL,zA,zK,zw,zI,zF,zE,zH,zu,zp]at h;refine s_t ss h λz H1 _ s1 k1=>?_
  cases z with
  |true=>exact⟨H0,B,τ,S,ss.up s1,bN.up k1 (qG s1)⟩
  |false=>exact⟨H0,B,τ,S,ss.up s1,bN.up k1 (qG s1)⟩
theorem PS.nox'{st:Stmt}{t:TS}(h:PS X.nox st t):PS X st t:=λpins s σ H D I hw=>
 bC (h pins s σ H D (I.wish _) hw) (λ_ _ q=>q.unwish) λ_ _ z=>aK z
theorem XO.nox(O:XO w g c E X):XO w g c E0 X.nox:=⟨O.K,O.nm,O.N,O.nd,O.calm,O.units,O.fn,O.kind,kq rfl rfl,O.gok,O.fns,O.sub⟩
theorem XS.nox(O:XS w g c E X):XS w g c E0 X.nox:=⟨O.toXO.nox,λ_ _ _ _ _ _ _ _ _ _ _ z=>aK z,O.exc,O.cat,O.frm,O.gh⟩
theorem yA{o:O}(h:bN g c E fr H0 B H S Ed o.noEx):bN g c E0 fr H0 B H S Ed o/\(∀k,o≠.ex k)/\o≠.no:=by
 cases o with
 |ex k=>exact h.elim
 |no=>exact h.elim
 |nx t=>exact⟨h,(λ_ z=>by cases z),(λz=>by cases z)⟩
 |bk t=>exact⟨h,(λ_ z=>by cases z),(λz=>by cases z)⟩
 |ct t=>exact⟨h,(λ_ z=>by cases z),(λz=>by cases z)⟩
 |rt t=>exact⟨h,(λ_ z=>by cases z),(λz=>by cases z)⟩
noncomputable def frozen(c:Cc)(b:Bool):Cc:={c with frz:=c.frz||b}
theorem XS.froze(O:XS w g c E X){b:Bool}:XS w g (frozen c b) E X:=
 ⟨⟨O.K,O.nm,O.N,O.nd,O.calm,O.units,O.fn,O.kind,O.pass,O.gok,O.fns,O.sub⟩,O.thr,O.exc,O.cat,O.frm,O.gh⟩
noncomputable def dI(B:Sh)(b:Bool)(σ:L2.St)(H:Hp):Sh:=if b=true then ⟨B.o,B.h,σ,H⟩else B
theorem kr{b:Bool}:(dI B b σ H).h=B.h:=by unfold dI;split<;>rfl
theorem tq{b:Bool}{H1:Hp}:hid H1 (dI B b σ H)=hid H1 B:=by funext a;unfold hid;rw[kr]
theorem SS.froze(b:Bool)(ss:SS g c H0 B τ σ H S):SS g (frozen c b) H0 (dI B b σ H) τ σ H S:=by
 refine⟨⟨ss.se.len,ss.se.val,ss.se.sub⟩,ss.lenN,ss.same,?_,?_,ss.new,ss.own,ss.inj,λz=>?_⟩
 ·unfold dI;split
  ·exact ss.sub0
  ·exact ss.sub0
 ·rw[kr];exact ss.hd
 ·cases b with
  |true=>exact⟨λi _=>rfl,qe.refl _⟩
  |false=>
   have z:(c.frz||false)=true:=z;rw[Bool.or_false]at z;exact ss.frz z
theorem SS.thaw{b:Bool}{σ1:L2.St}{H1:Hp}{τ1:Env}{S1:Sh}(s0:SS g c H0 B τ1 σ1 H1 S1)(ss:SS g (frozen c b) H0 (dI B b σ1 H1) τ σ H S):SS g c H0 B τ σ H S:=by
 refine⟨⟨ss.se.len,ss.se.val,ss.se.sub⟩,ss.lenN,ss.same,s0.sub0,?_,ss.new,ss.own,ss.inj,λz=>?_⟩
 ·have:=ss.hd;rw[kr]at this;exact this
 ·have f:=ss.frz (by show (c.frz||b)=true;rw[z];rfl);cases b with
  |true=>exact⟨λi hi=>(f.1 i hi).trans ((s0.frz z).1 i hi),(s0.frz z).2.trans f.2⟩
  |false=>exact f
theorem SS.iced{b:Bool}{σ1:L2.St}{H1:Hp}(hb:b=true)(ss:SS g (frozen c b) H0 (dI B b σ1 H1) τ σ H S):qe H1 H:=by
 subst hb;exact(ss.frz (by show (c.frz||true)=true;rw[Bool.or_true])).2
theorem yr(O:XO w g c E X)(hc:X.calm=true){tg it:Expr}{b:List Stmt}{itg:Tg}{iit:It}{ib:Ss}{pos:Pos}(hi:PI X.nox tg it (tIt w g c E0 iit))(hg:PG X.nox tg (gT X.K itg))(hf:gG c itg)(hb:PSs X.nox b (tSs w g (frozen c (owned iit)) E0 fr ib))(hs:zv it=true) :
  PS X (.For tg it b [] pos) (tS w g c E fr (.for itg iit ib)):=by
 refine PS.nox' (PS.imp (BO (X:=X.nox) PassesOwn.never hc hi hg hb (λx=>by cases it<;>first|rfl|(simp[zv]at hs))) λD σ H ⟨H0,B,τ,S,ss,h⟩=>?_);simp only[zO,zS,zR,zV,zt,zW,zM,zX,bP,zy,zB,zG,zD,zL,zA,zK,zw,zI,zF,zE,zH,zu,zp]at h;obtain⟨h,nex,nno⟩:=yA h;cases q:evI w iit τ with
 |ex z=>rw[q]at nex;exact absurd rfl (nex z)
 |no=>rw[q]at nno;exact absurd rfl nno
 |ok ds=>
  rw[q]at h nex nno;simp only[R.out_ok]at h nex nno;refine⟨τ,S,ss.se,?_⟩;rw[q];intro J H1 s1 kW kS;generalize hr:de itg (λσ=>qf w ib σ) ds τ=r at h nex nno;refine⟨λi m σ' H'=>m=ds.length-i/\i<=ds.length/\∃τ' S',SS g (frozen c (owned iit)) H0 (dI B (owned iit) σ H1) τ' σ' H' S'/\qe (hid H1 S) (hid H' S')/\de itg (λσ=>qf w ib σ) (ds.drop i) τ'=r,⟨ds.length,rfl,bM _,τ,S,(ss.up s1).froze _,qe.refl _,hr⟩,?_⟩;rintro i m σ' H' ⟨rfl,hi',τ',S',ss',e',hl⟩;have gg:Goes g J ds H' S':=by
   cases hw:owned iit with
   |false=>exact kS hw H' S' e' ss'.se.sub
   |true=>exact kW H' S' (ss'.iced hw) e' ss'.se.sub
  obtain⟨g1,g2⟩:=gg;have eH:qe (hid H S) (hid H' S'):=(qG s1).trans e';by_cases hlt:i<ds.length
  ·have hd:ds[i]? = some ds[i]:=List.getElem?_eq_getElem hlt;obtain⟨go1,go2⟩:=g2 i ds[i] hd;refine .inr ⟨go1,λσ2 H2=>∃τ' S',SS g (frozen c (owned iit)) H0 (dI B (owned iit) σ H1) τ' σ2 H2 S'/\qe (hid H1 S) (hid H2 S')/\de itg (λσ=>qf w ib σ) (ds.drop (i+1)) τ'=r,λσ2 H2 z=>⟨ds.length-(i+1),by lia,rfl,hlt,z⟩,λx H2 hy=>?_⟩;obtain⟨s2,rx⟩:=go2 x H2 hy;rw[List.drop_eq_getElem_cons hlt]at hl;simp only[de]at hl;cases q1:store itg ds[i] τ' with
   |ex z=>rw[q1]at hl;exact absurd hl.symm (nex z)
   |no=>rw[q1]at hl;exact absurd hl.symm nno
   |ok τ1=>
    rw[q1]at hl;simp only[R.out_ok]at hl;refine(ss'.up s2).store O.K hf rx q1 λσ1 ss1=>⟨H0,_,τ1,S',ss1,?_⟩
    cases q2:qf w ib τ1 with
    |nx τ2=>rw[q2]at hl;exact λσ2 H3 S3 s3 e3=>⟨τ2,S3,s3,(e'.trans (qG s2)).trans e3,hl⟩
    |ct τ2=>rw[q2]at hl;exact λσ2 H3 S3 s3 e3=>⟨τ2,S3,s3,(e'.trans (qG s2)).trans e3,hl⟩
    |bk τ2=>
     rw[q2]at hl;simp only at hl;rw[<-hl]at h;exact λσ2 H3 S3 s3 e3=>h σ2 H3 S3 ((ss.up s1).thaw s3) ((eH.trans (qG s2)).trans e3)
    |rt d=>
     rw[q2]at hl;simp only at hl;rw[<-hl]at h;refine λv H3 s3 r3 f3=>h v H3 s3 (by rw[tq]at r3;exact r3) λz=>?_
     have f3:=f3 z;unfold dI at f3;split at f3
     ·exact f3
     ·exact f3
    |ex z=>rw[q2]at hl;exact absurd hl.symm (nex z)
    |no=>rw[q2]at hl;exact absurd hl.symm nno
  ·have e:i=ds.length:=by lia
   subst e;rw[List.drop_length]at hl;simp only[de]at hl;rw[<-hl]at h;exact .inl ⟨g1 ds.length (aI _),h σ' H' S' ((ss.up s1).thaw ss') eH⟩
theorem yg{t:Expr}{b:List Stmt}{it:T}{ib:Ss}{pos:Pos}(ht:PT X.nox t (tT w g c E0 it))(hb:PSs X.nox b (tSs w g c E0 fr ib)):PS X (.While t b [] pos) (tS w g c E fr (.while it ib)):=λpins s σ H D I ⟨H0,B,τ,S,ss,h⟩=>by
 simp only[zO,zS,zR,zV,zt,zW,zM,zX,bP,zy,zB,zG,zD,zL,zA,zK,zw,zI,zF,zE,zH,zu,zp]at h;exact aK h
theorem AR(O:XS w g c E X)(hc:X.calm=true)(ht:c.thr=true){x:Str}{a:Expr}{as:List Expr}{ies:Es}{np cp pos:Pos}{n:Nat}(h:glob c x=some .exc)(ha:PA X (a::as) (tA w g c E ies))(hes:cEs n c (a::as)=some ies)(hn:(a::as).length<=100000) :
  PS X (.Raise (some (.Call (.Name x np) (a::as) [] cp)) none pos) (tS w g c E fr (.raise x ies)):=by
 obtain⟨C,h1,h2⟩:=O.gm h;have hs:=eC hes;refine PS.imp (sJ hc (O.thr ht) (by rw[O.K];exact O.exc x C (zJ h).2.1 h2) (O.gl h) h1 ha (zJ h).2.2.1 (qX (hs a aR)) (iP λz hz=>hs z (aP _ hz))) λD σ H ⟨H0,B,τ,S,ss,k⟩=>?_
 simp only[zO,zS,zR,zV,zt,zW,zM,zX,bP,zy,zB,zG,zD,zL,zA,zK,zw,zI,zF,zE,zH,zu,zp]at k;refine s_a ss k λds vs H1 e1 s1 r k1=>⟨?_,k1 H1 C (ss.same.trans s1) h2⟩
 have:vs.length=ds.length:=(Paired.length r).symm;rw[this,iX hes e1];exact j8 hn
end
section
variable{w:W}{g:Gc}{c:Cc}{E:XK}{fr:Bool}{X:Cx}{H0:Hp}{B:Sh}{τ:Env}{σ:L2.St}{H H':Hp}{S:Sh}{Ed:Ends}
theorem AD{s:Stmt}:PS X s (tS w g c E fr .unk):=λpins s σ H D I ⟨H0,B,τ,S,ss,h⟩=>by
 simp only[zO,zS,zR,zV,zt,zW,zM,zX,bP,zy,zB,zG,zD,zL,zA,zK,zw,zI,zF,zE,zH,zu,zp]at h;exact h.elim
theorem wR(O:XO w g c E X)(hfz:c.frz=false){x:Str}{i:Nat}{k a:Expr}{ik ia:EV.E}{p ap cp pos:Pos}(h:loc c x=some i)(ho:c.own.contains x=true)(hk:PE X k (tE w g c E ik))(ha:PE X a (tE w g c E ia))(hes:esc ia=true)(hsk:isStar k=false)(hs:isStar a=false)(hl:(ap.endLine==cp.line)=true) :
  PS X (.Expr (.Call (.Attribute (.Name x p) "insert" ap) [k,a] [] cp) pos) (tS w g c E fr (.ins i ik ia)):=λpins s σ H D I ⟨H0,B,τ,S,ss,h⟩=>by
 simp only[zO,zS,zR,zV,zt,zW,zM,zX,bP,zy,zB,zG,zD,zL,zA,zK,zw,zI,zF,zE,zH,zu,zp]at h;exact aK h
theorem SS.cong{c':Cc}(hN:c'.N=c.N)(ho:c'.own=c.own)(hz:c'.frz=c.frz)(s:SS g c H0 B τ σ H S):SS g c' H0 B τ σ H S:=by
 cases c;cases c';simp only at hN ho hz;subst hN ho hz;exact⟨⟨s.se.len,s.se.val,s.se.sub⟩,s.lenN,s.same,s.sub0,s.hd,s.new,s.own,s.inj,s.frz⟩
theorem oD{i:Option Nat}{k:Str}:(cc τ i k).length=τ.length:=by
 cases i<;>simp[cc]
theorem SS.hand{σ':L2.St}{k:Str}{i:Option Nat}(ss:SS g c H0 B τ σ H S)(hz:c.frz=false)(he:c.own=[])(hs:qe H0 H')(hl:σ'.length=c.N.length)(hv:∀(j:Nat) (d:EV.D),(cc τ i k)[j]? = some (some d)->∃v,σ'[j]? = some (some v)/\Rep g (hid H' B) d v) :
  SS g (dF c) H0 B (cc τ i k) σ' H' ⟨λ_=>false,B.h,B.z,B.y⟩:=by
 have hh:hid H' ⟨λ_=>false,B.h,B.z,B.y⟩=hid H' B:=rfl;have no:∀j,¬ zl (dF c) j:=λj ⟨x,_,h2⟩=>by
  have h2:c.own.contains x=true:=h2;rw[he]at h2;cases h2
 refine⟨⟨by rw[oD,ss.lenN,hl],λj d h=>?_,λa ha=>?_⟩,by rw[oD];exact ss.lenN,hs,ss.sub0,(λa=>by simp),(λa ha=>by cases ha),λj d hj=>(no j hj).elim,λj _ d _ a hj=>(no j hj).elim,(λz=>by have z:c.frz=true:=z;rw[hz]at z;cases z)⟩
 ·obtain⟨v,h1,h2⟩:=hv j d h;exact⟨v,h1,.inl h2,λ_ _ _=>h2⟩
 ·refine(ss.sub0.same hs) a ?_;rcases ha with ha|ha
  ·exact .inl ha
  ·cases ha
noncomputable def EhT(w:W)(g:Gc)(b:Ss)(τ:Env)(H0:Hp):XK:=λcls o H'=>∃k C,cls=.ref C/\o=none/\g.clA k=some C/\qf w b τ=.ex k/\qe H0 H'
theorem XS.inTry(O:XS w g c E X){Eh:XK}{pn:List (Addr×Obj)}{Et:ae->af->Prop}(hp:Passes (CX1 X.prog X.w) (X.inTry pn Et) Eh):XS w g {c with thr:=false} Eh (X.inTry pn Et):=
 ⟨⟨O.K,O.nm,O.N,O.nd,O.calm,O.units,O.fn,O.kind,hp,O.gok,O.fns,O.sub⟩,(λz=>by cases z),O.exc,O.cat,O.frm,O.gh⟩
theorem XS.held(O:XS w g c E X)(x:Addr):XS w g (dF c) E0 (X.held x):=
 ⟨⟨O.K,O.nm,O.N,O.nd,(λz=>by cases z),O.units,O.fn,O.kind,kq rfl rfl,(λy k z=>(O.gh y k z).2 _),(λz=>by cases z),O.sub⟩,(λz=>by cases z),(λy C z _=>absurd rfl (O.gh y .exc z).1),O.cat,O.frm,(λy k z=>by cases z)⟩
theorem y7(O:XS w g c E X){x:Str}{b:List Stmt}{b₀:Stmt}{suite:List Stmt}{ib ih:Ss}{np hpos pos:Pos}(hfz:c.frz=false)(he:c.own=[])(hg:glob c x=some .exc\/glob c x=some .exk)
  (hb:∀(Eh:XK) pn Et,XS w g {c with thr:=false} Eh (X.inTry pn Et)->PSs (X.inTry pn Et) b (tSs w g {c with thr:=false} Eh fr ib)) (hs:∀y,PSs (X.held y) (b₀::suite) (tSs w g (dF c) E0 fr ih)) :
  PS X (.Try b [.ExceptHandler (some (.Name x np)) none (b₀::suite) hpos] [] [] pos) (tS w g c E fr (.try ib x none ih)):=λpins s σ H D I ⟨H0,B,τ,S,ss,h⟩=>by
 simp only[zO,zS,zR,zV,zt,zW,zM,zX,bP,zy,zB,zG,zD,zL,zA,zK,zw,zI,zF,zE,zH,zu,zp]at h;exact aK h
theorem yw(O:XS w g c E X){x n:Str}{i:Nat}{b:List Stmt}{b₀:Stmt}{suite:List Stmt}{ib ih:Ss}{np hpos pos:Pos}(hfz:c.frz=false)(he:c.own=[])(hg:glob c x=some .exc\/glob c x=some .exk)(hi:c.N[i]? = some n)(hn:c.nm.lookup n=some .local)
  (hb:∀(Eh:XK) pn Et,XS w g {c with thr:=false} Eh (X.inTry pn Et)->PSs (X.inTry pn Et) b (tSs w g {c with thr:=false} Eh fr ib)) (hs:∀y,PSs (X.held y) (b₀::suite) (tSs w g (dF c) E0 fr ih)) :
  PS X (.Try b [.ExceptHandler (some (.Name x np)) (some n) (b₀::suite) hpos] [] [] pos) (tS w g c E fr (.try ib x (some i) ih)):=λpins s σ H D I ⟨H0,B,τ,S,ss,h⟩=>by
 simp only[zO,zS,zR,zV,zt,zW,zM,zX,bP,zy,zB,zG,zD,zL,zA,zK,zw,zI,zF,zE,zH,zu,zp]at h;exact aK h
theorem sW{K:ar}{C D:Addr}(h:bx K (.ref D) (.ref D)=some true)(k:bf K (.ref C) (.ref D)=some false):bx K (.ref C) (.ref D)=some false:=by
 unfold bx at h ⊢;split at h
 ·rename_i hs
  rw[if_pos hs];unfold bf at k;split at k
  ·cases k
  ·exact k
 ·cases h
theorem wo{ib:Ss}{x x2:Str}{i:Nat}{ih ih2:Ss}{c':Cc}(hN:c'.N=c.N)(ho:c'.own=c.own)(hz:c'.frz=c.frz)(h:bN g c E fr H0 B H S Ed (evS w (.try2 ib x i ih x2 ih2) τ)):bN g c' (EhT w g ib τ H0) fr H0 B H S Ed (qf w ib τ):=by
 simp only[zO,zS,zR,zV,zt,zW,zM,zX,bP,zy,zB,zG,zD,zL,zA,zK,zw,zI,zF,zE,zH,zu,zp]at h;have c1:∀{τ':Env}{σ':L2.St}{H':Hp}{S':Sh},SS g c' H0 B τ' σ' H' S'->SS g c H0 B τ' σ' H' S':=λs=>s.cong hN.symm ho.symm hz.symm
 cases q:qf w ib τ with
 |nx τ'=>rw[q]at h;exact λσ' H' S' s e=>h σ' H' S' (c1 s) e
 |bk τ'=>rw[q]at h;exact λσ' H' S' s e=>h σ' H' S' (c1 s) e
 |ct τ'=>rw[q]at h;exact λσ' H' S' s e=>h σ' H' S' (c1 s) e
 |rt d=>rw[q]at h;exact h
 |ex k=>exact λH' C s hc=>⟨k,C,rfl,rfl,hc,q,s⟩
 |no=>rw[q]at h;exact h
theorem oW{o:EV.O}(h:bN g c E fr H0 B H S Ed o.rtOnly):∃d,o=.rt d/\∀v H',qe H0 H'->Rep g (hid H' B) d v->(fr=true->zr d=true->Fr g H0 B H' d v)->Ed.rt v H':=by
 cases o with
 |rt d=>exact⟨d,rfl,h⟩
 |nx _=>exact h.elim
 |bk _=>exact h.elim
 |ct _=>exact h.elim
 |ex _=>exact h.elim
 |no=>exact h.elim
theorem pT{ib ih ih2:Ss}{x x2:Str}{i:Nat}{k:Str}(h:bN g c E fr H0 B H S Ed (evS w (.try2 ib x i ih x2 ih2) τ))(q:qf w ib τ=.ex k):(w.cat k x=true/\∃d,qf w ih (cc τ (some i) k)=.rt d/\∀v H',qe H0 H'->Rep g (hid H' B) d v->(fr=true->zr d=true->Fr g H0 B H' d v)->Ed.rt v H')\/((w.cat x x=true/\w.sub k (.ex x)=some false/\w.cat k x2=true)/\∃d,qf w ih2 (cc τ none k)=.rt d/\∀v H',qe H0 H'->Rep g (hid H' B) d v->(fr=true->zr d=true->Fr g H0 B H' d v)->Ed.rt v H'):=by
 simp only[zO,zS,zR,zV,zt,zW,zM,zX,bP,zy,zB,zG,zD,zL,zA,zK,zw,zI,zF,zE,zH,zu,zp]at h;rw[q]at h;simp only at h;split at h
 ·rename_i hc
  exact .inl ⟨hc,oW h⟩
 ·split at h
  ·rename_i hc
   exact .inr ⟨hc,oW h⟩
  ·exact h.elim
theorem oz(O:XS w g c E X){x:Str}(hg:glob c x=some .exc\/glob c x=some .exk):∃C,X.mg x=some (.ref C)/\g.clA x=some C/\Gl X x/\(x==("__debug__" : Str))=false:=by
 rcases hg with h|h
 ·obtain⟨C,h1,h2⟩:=O.gm h;exact⟨C,h1,h2,O.gl h,(zJ h).2.2.1⟩
 ·obtain⟨C,h1,h2⟩:=O.gm h;exact⟨C,h1,h2,O.gl h,(zJ h).2.2.1⟩
theorem p5(O:XS w g c E X){x x2 n:Str}{i:Nat}{b:List Stmt}{b₀ b₂:Stmt}{suite suite2:List Stmt}{ib ih ih2:Ss}{np hpos np2 hpos2 pos:Pos}(hfz:c.frz=false)(he:c.own=[])(hg:glob c x=some .exc\/glob c x=some .exk)(hg2:glob c x2=some .exc\/glob c x2=some .exk)(hi:c.N[i]? = some n)(hn:c.nm.lookup n=some .local)
  (hb:∀(Eh:XK) pn Et,XS w g {c with thr:=false} Eh (X.inTry pn Et)->PSs (X.inTry pn Et) b (tSs w g {c with thr:=false} Eh fr ib)) (hs:∀y,PSs (X.held y) (b₀::suite) (tSs w g (dF c) E0 fr ih)) (hs2:∀y,PSs (X.held y) (b₂::suite2) (tSs w g (dF c) E0 fr ih2)) :
  PS X (.Try b [.ExceptHandler (some (.Name x np)) (some n) (b₀::suite) hpos,.ExceptHandler (some (.Name x2 np2)) none (b₂::suite2) hpos2] [] [] pos) (tS w g c E fr (.try2 ib x i ih x2 ih2)):=by
 obtain⟨C,hm,hc,hgl,hd⟩:=oz O hg;obtain⟨C2,hm2,hc2,hgl2,hd2⟩:=oz O hg2;intro pins s σ H D I ⟨H0,B,τ,S,ss,h⟩;have hlt:i<c.N.length:=(List.getElem?_eq_some_iff.mp hi).1;refine Bg (Eh:=EhT w g ib τ H0) (i:=i) O.frm.1 O.frm.2.1 O.frm.2.2 (by rw[O.N];exact O.nd) (by rw[O.N];exact hi) (by rw[O.nm];exact hn) hgl hm hgl2 hm2 (λpn Et hp=>hb _ pn Et (O.inTry hp)) hs hs2 hd hd2 pins s σ H D I ⟨⟨H0,B,τ,S,SS.cong (c:=c) rfl rfl rfl ss,wo (c:=c) rfl rfl rfl h⟩,λσ' cls H' x' hl hE hx=>?_⟩;obtain⟨k,C',rfl,_,hk,q,sm⟩:=hE;rcases pT h q with ⟨z1,d,z2,z3⟩|⟨⟨y1,y2,y3⟩,d,z2,z3⟩
 ·have s2:qe H' (upd H' x' (fG x' (.ref C'))):=zq hx;refine .inl ⟨by rw[O.K];exact O.cat k x z1 C' C hk hc,H0,B,cc τ (some i) k,⟨λ_=>false,B.h,B.z,B.y⟩,ss.hand hfz he (sm.trans s2) (by rw[List.length_set,hl,O.N]) (λj d hj=>?_),?_⟩
  ·simp only[cc]at hj;have hi':i<σ'.length:=by rw[hl,O.N];exact hlt
   by_cases hij:i=j
   ·subst hij;have hlt':i<(τ.map λ_=>(none:Option EV.D)).length:=by rw[bc,ss.lenN];exact hlt
    rw[List.getElem?_set_self hlt']at hj;cases hj;refine⟨.ref x',by rw[List.getElem?_set_self hi'],.exn hk (bS.mpr ⟨ss.sub0.free (sm.free hx),zP⟩)⟩
   ·rw[List.getElem?_set_ne hij,List.getElem?_map]at hj;cases z:τ[j]? with
    |none=>rw[z]at hj;cases hj
    |some o=>rw[z]at hj;cases hj
  ·rw[z2];exact λv H'' s' r f=>z3 v H'' s' r f
 ·obtain⟨C3,cv,e1,_,e3,D',e4,e5⟩:=O.sub k _ _ y2;rw[hk]at e1;cases e1;rw[hc]at e4;cases e4;subst e5;refine .inr ⟨by rw[O.K];exact sW (O.cat x x y1 C C hc hc) e3,by rw[O.K];exact O.cat k x2 y3 C' C2 hk hc2,H0,B,cc τ none k,⟨λ_=>false,B.h,B.z,B.y⟩,ss.hand hfz he sm (by rw[hl,O.N]) (λj d hj=>?_),?_⟩
  ·simp only[cc,List.getElem?_map]at hj;cases z:τ[j]? with
   |none=>rw[z]at hj;cases hj
   |some o=>rw[z]at hj;cases hj
  ·rw[z2];exact λv H'' s' r f=>z3 v H'' s' r f
end
theorem yN{e:Expr}{x:Str}{ap cp:Pos}{k a:Expr}(h:lG e=some (x,ap,k,a,cp)):∃p,e=.Call (.Attribute (.Name x p) "insert" ap) [k,a] [] cp:=by cases h
theorem BF{hs:List ExceptHandler}{x y x2:Str}{h h2:List Stmt}(q:j9 hs=some (x,y,h,x2,h2)):∃p1 p2 p3 p4,hs=[.ExceptHandler (some (.Name x p1)) (some y) h p2,.ExceptHandler (some (.Name x2 p3)) none h2 p4]:=by
 unfold j9 at q;split at q
 ·cases q;exact⟨_,_,_,_,rfl⟩
 ·cases q
theorem tK{x y:Str}{px py pt pt2:Pos}{kt k2:Nat}{a b:Expr}{env:PySem.Env}(h:env.kindOf x≠some .local):b6 [.Tuple [.Name x px,.Name y py] kt pt] (.Tuple [a,b] k2 pt2) env=pure none:=by
 have hx:(env.kindOf x==some aM.local)=false:=by simpa using h
 unfold b6;simp only;split
 ·rfl
 ·split
  ·rfl
  ·split
   ·rfl
   ·rename_i hq
    exfalso;refine hq ?_;rw[List.filterMap_cons_none (by simp only[hx,Bool.false_and];rfl)];have:∀l:List Expr,∀f:Expr->Option Str,(l.filterMap f).length<=l.length:=λl f=>List.length_filterMap_le f l
    simp only[bh,bne_iff_ne,ne_eq];left;intro z;have q:([Expr.Name x px,Expr.Name y py]:List Expr).length<=([Expr.Name y py]:List Expr).length:=by rw[<-z];exact this _ _
    simp at q
theorem Aw{ts:List Expr}{k:Nat}{p:Pos}{e:Expr}{env:PySem.Env}(h:isTup e=true->jU e=true):b6 [.Tuple ts k p] e env=pure none:=by
 cases e<;>first|rfl|skip
 rename_i vs k2 p2
 have h:vs.all (cw 8)=true:=h rfl;unfold b6;simp only[h,if_true];split
 ·rfl
 ·split
  ·rfl
  ·split
   ·rfl
   ·rfl
theorem lK{ts:List Expr}{e:Expr}{x y:Str}{a b:Expr}(h:kh ts e=some (x,y,a,b)):∃px py k2 pt2,ts=[.Name x px,.Name y py]/\e=.Tuple [a,b] k2 pt2/\isStar a=false/\isStar b=false/\[a,b].all (cw 8)=false/\[a,b].all (constantsAlone 8)=false/\(px.line==py.line)=true:=by
 unfold kh at h;split at h
 ·split at h
  ·split at h
   ·rename_i hc
    simp only[aF,ba]at hc;cases h;exact⟨_,_,_,_,rfl,rfl,hc.1.1.1.1,hc.1.1.1.2,hc.1.1.2,hc.1.2,hc.2⟩
   ·cases h
  ·cases h
 ·cases h
theorem pe{ts:List Expr}{e:Expr}{x y z:Str}{a b d:Expr}(h:jQ ts e=some (x,y,z,a,b,d)):∃px py pz k2 pt2,ts=[.Name x px,.Name y py,.Name z pz]/\e=.Tuple [a,b,d] k2 pt2/\isStar a=false/\isStar b=false/\isStar d=false/\[a,b,d].all (cw 8)=false/\[a,b,d].all (constantsAlone 8)=false/\(px.line==py.line)=true/\(px.line==pz.line)=true:=by
 unfold jQ at h;split at h
 ·split at h
  ·split at h
   ·rename_i hc
    simp only[aF,ba]at hc;cases h;exact⟨_,_,_,_,_,rfl,rfl,hc.1.1.1.1.1.1,hc.1.1.1.1.1.2,hc.1.1.1.1.2,hc.1.1.1.2,hc.1.1.2,hc.1.2,hc.2⟩
   ·cases h
  ·cases h
 ·cases h
section
variable{w:W}{g:Gc}{c:Cc}{E:XK}{fr:Bool}{X:Cx}
theorem rH{n:Nat}{c:Cc}{elt:Expr}{gs:List bV}{sc:aS}{p:Pos}{ie:EV.E}(h:cE n c (.ListComp elt gs sc p)=some ie)(htw:iN (.ListComp elt gs sc p)=false):iB c ie=ie:=by
 match n,h with
 | 0,h=>cases h
 |m+1,h=>
  obtain⟨tgt,it,ifs,iit,itg,it',ie',rfl,hs1,hk1,h1,h2,h3,h4,he,rfl⟩:=jW h
  rfl
theorem rp(O:XO w g c E X){n:Nat}(hn:n<=100000){x:Str}{i:Nat}{elt:Expr}{gs:List bV}{sc:aS}{p p' pos:Pos}{ie:EV.E}(hl:bG c x=some i)(h:cE n c (.ListComp elt gs sc p)=some ie)(htw:iN (.ListComp elt gs sc p)=false)(hk:(zl c i/\cF c ie=true/\c.frz=false)\/(¬ zl c i/\esc ie=true)) :
  PS X (.Assign [.Name x p'] (.ListComp elt gs sc p) pos) (tS w g c E fr (.set (.nm i) ie)):=by
 obtain⟨l1,l2⟩:=zk hl;obtain⟨l3,_⟩:=zC l1;have hlt:i<c.N.length:=(List.getElem?_eq_some_iff.mp l3).1;have hN:X.N.Nodup:=by rw[O.N];exact O.nd
 have hix:X.N[i]? = some x:=by rw[O.N];exact l3
 have hx:L2.Loc X.env.scope x:=by unfold L2.Loc;rw[O.nm];rcases l2 with z|z;exact .inl z;exact .inr z.1
 have hf:X.fn x=true\/X.env.scope.names.lookup x=some .local:=by
  rcases l2 with z|z
  ·exact .inr (by rw[O.nm];exact z)
  ·exact .inl (O.fn x z.2)
 cases hb:(X.env.blockKind==.function&&X.env.kindOf x==some .local&&p'.line==p.line && !(sc.names.any λ(n,k)=>n==x&&(k==.local||k==.cell)))with
 |false=>
  have hs:swapsWith (.ListComp elt gs sc p) (some (.Name x p')) pos.line X.env=pure false:=by rw[<-hb];rfl
  exact jv (e:=.ListComp elt gs sc p) (n6 hN hix hx ((snd n hn).e O h) hs hf) (λ_ _ _ z=>z) hlt hk
 |true=>
  have hs:swapsWith (.ListComp elt gs sc p) (some (.Name x p')) pos.line X.env=pure true:=by rw[<-hb];rfl
  match n,h with
  | 0,h=>cases h
  |m+1,h=>
   have ih:=snd (w:=w) (g:=g) m (Nat.le_of_succ_le hn);obtain⟨tgt,it,ifs,iit,itg,it',ie',rfl,hs1,hk1,h1,h2,h3,h4,he,rfl⟩:=jW h;have hS:dg X (bT sc.names) (fI c sc.names) sc:=dg.of (by
    have e1:(λx=>c.nm.lookup x)=X.env.kindOf:=by funext x;show _=X.env.scope.names.lookup x;rw[O.nm]
    rw[<-e1,O.N];exact hk1.1)
   refine jv (e:=.ListComp elt [⟨tgt,it,ifs,0⟩] sc p) (uL (tb:=λacc=>iA acc (tE w g (cP c sc) E0 ie')) hN hix hx (O.calm hs1.1) hS (ih.i O h1 he.2) (λcl C s₀ H₀ fp=>?_) (by simp) hs hf (λx=>by
    have q:=hs1.2;cases it<;>first|rfl|cases q)) (λσ H Q q=>oq O hS he.1 q) hlt hk
   have OY:=O.comp hS.kind hk1.2 cl C s₀ H₀ fp;exact⟨gQ OY h2,ih.ifs OY h3,λacc=>nu rfl (ih.e OY h4)⟩
end
structure gR(w:W)(g:Gc)(n:Nat):Prop where
 s:∀{c:Cc}{E:XK}{X:Cx} (O:XS w g c E X) {fr:Bool}{x:Stmt}{ir:EV.S},cS n c fr x=some ir->PS X x (tS w g c E fr ir)
 ss:∀{c:Cc}{E:XK}{X:Cx} (O:XS w g c E X) {fr:Bool}{x:List Stmt}{ir:Ss},cSs n c fr x=some ir->PSs X x (tSs w g c E fr ir)
section
variable{w:W}{g:Gc}{n:Nat}
theorem gR.ss_succ(ih:gR w g n){c:Cc}{E:XK}{X:Cx}(O:XS w g c E X){fr:Bool}{x:List Stmt}{ir:Ss}(h:cSs (n+1) c fr x=some ir):PSs X x (tSs w g c E fr ir):=by
 match x with
 | []=>simp only[cSs,bZ]at h;subst h;exact uE
 |s::r=>
  simp only[cSs,aB,az]at h;obtain⟨ir',h2,h⟩:=h;cases h;cases h1:cS n c fr s with
  |none=>exact lH AD (ih.ss O h2)
  |some is=>exact lH (ih.s O h1) (ih.ss O h2)
theorem fH{c:Cc}{x:Str}{i:Nat}(h:c.N[i]? = some x):zl c i↔c.own.contains x=true:=⟨λ⟨y,h1,h2⟩=>by rw[h]at h1;cases h1;exact h2,λh2=>⟨x,h,h2⟩⟩
theorem wg{e:Expr}{x m:Str}{ap cp:Pos}{a:Expr}(h:jM e=some (x,m,ap,a,cp)):∃p,e=.Call (.Attribute (.Name x p) m ap) [a] [] cp:=by
 unfold jM at h;split at h
 ·split at h
  ·split at h
   ·split at h
    ·split at h
     ·rename_i hk;cases h;rw[List.isEmpty_iff]at hk;subst hk;exact⟨_,rfl⟩
     ·cases h
    ·cases h
   ·cases h
  ·cases h
 ·cases h
theorem x8{e:Expr}{x:Str}{ap cp:Pos}(h:jh e=some (x,ap,cp)):∃p k q,e=.Call (.Attribute (.Name x p) "pop" ap) [.Constant (.int 0) k q] [] cp:=by
 unfold jh at h;split at h
 ·split at h
  ·split at h
   ·split at h
    ·split at h
     ·split at h
      ·split at h
       ·rename_i hk
        simp only[aF,List.isEmpty_iff,beq_iff_eq,decide_eq_true_eq]at hk;obtain⟨⟨rfl,rfl⟩,rfl⟩:=hk;cases h;exact⟨_,_,_,rfl⟩
       ·cases h
      ·cases h
     ·cases h
    ·cases h
   ·cases h
  ·cases h
 ·cases h
theorem A1{e:Expr}{x:Str}{a:Expr}{as:List Expr}(h:raiseOf e=some (x,a,as)):∃p q,e=.Call (.Name x p) (a::as) [] q:=by
 unfold raiseOf at h;split at h
 ·split at h
  ·split at h
   ·split at h
    ·rename_i hk;cases h;rw[List.isEmpty_iff]at hk;subst hk;exact⟨_,_,rfl⟩
    ·cases h
   ·cases h
  ·cases h
 ·cases h
theorem gR.s_succ(ih:gR w g n)(hn:n<=100000){c:Cc}{E:XK}{X:Cx}(O:XS w g c E X){fr:Bool}{x:Stmt}{ir:EV.S}(h:cS (n+1) c fr x=some ir):PS X x (tS w g c E fr ir):=by
 have K:=snd (w:=w) (g:=g) n hn;unfold cS at h;split at h
 ·rename_i ts0 e pos
  split at h
  ·rename_i t0
   split at h
   ·-- x = e
    rename_i y p
    split at h
    ·rename_i hp
     obtain⟨p0,k0,q0,rfl⟩:=x8 hp;simp only[aB,az]at h;obtain⟨i,hl,j,hj,h⟩:=h;split at h
     ·rename_i hc
      simp only[aF,ba]at hc;cases h;obtain⟨⟨⟨c1,c2⟩,c3⟩,c4⟩:=hc;exact vo O.toXO c4 hl hj c2 c1 (by simpa using c3)
     ·cases h
    split at h
    ·cases h
    rename_i htw
    have htw:iN e=false:=by simpa using htw
    simp only[aB,az]at h;obtain⟨i,hl,ie,h1,h⟩:=h;obtain⟨l1,l2⟩:=zk hl;obtain⟨l3,_⟩:=zC l1;have ho:=fH l3;have hk:∃ig,((zl c i/\cF c ig=true/\c.frz=false)\/(¬ zl c i/\esc ig=true))/\ir=.set (.nm i) ig/\(ig=ie\/ig=iB c ie):=by
     split at h
     ·rename_i hy
      split at h
      ·rename_i hf;cases h;exact⟨_,.inl ⟨ho.mpr hy,by simpa using hf⟩,rfl,.inl rfl⟩
      ·cases h
     ·rename_i hy
      split at h
      ·rename_i hf;cases h;exact⟨_,.inr ⟨λz=>hy (ho.mp z),hf⟩,rfl,.inl rfl⟩
      ·cases h
    obtain⟨ig,hk,rfl,hig⟩:=hk;have hE:PE X e (tE w g c E ig):=by
     rcases hig with rfl|rfl
     ·exact K.e O.toXO h1
     ·exact Cj (K.e O.toXO h1)
    cases hc:dZ e with
    |false=>
     refine jv (e:=e) (n6 (i:=i) (by rw[O.N];exact O.nd) (by rw[O.N];exact l3) (by unfold L2.Loc;rw[O.nm];rcases l2 with z|z;exact .inl z;exact .inr z.1) hE (i0 hc) ?_) (λ_ _ _ z=>z) (List.getElem?_eq_some_iff.mp l3).1 hk;rcases l2 with z|z
     ·exact .inr (by rw[O.nm];exact z)
     ·exact .inl (O.fn y z.2)
    |true=>
     cases e with
     |ListComp elt gs sc p=>
      have eg:ig=ie:=by
       rcases hig with z|z
       ·exact z
       ·rw[z];exact rH h1 htw
      subst eg;exact rp O.toXO hn hl h1 htw hk
     |SetComp elt gs sc p=>match n,h1 with
      | 0,h1=>cases h1
      |m+1,h1=>cases h1
     |DictComp a b gs sc p=>match n,h1 with
      | 0,h1=>cases h1
      |m+1,h1=>cases h1
     |_=>cases hc
   ·-- (a, b) = e
    rename_i ts k p
    split at h
    ·rename_i x y a b hp
     split at h
     ·rename_i hx
      simp only[aB,az]at h;obtain⟨tg,h1,ie,h2,h⟩:=h;split at h
      ·cases h
      ·rename_i hc
       cases h;obtain⟨px,py,k2,pt2,rfl,rfl,hsa,hsb,hfa,hca,hl⟩:=lK hp;refine kM O.toXO (K.e O.toXO h2) (gQ O.toXO h1) (kg h1) (by simpa using hc) rfl ?_ rfl;refine tK (λz=>?_);rw[show X.env.kindOf x=X.env.scope.names.lookup x from rfl,O.nm]at z;rw[z]at hx;cases hx
     simp only[aB,az]at h;obtain⟨i,hx,j,hy,ia,h1,ib,h2,h⟩:=h;obtain⟨px,py,k2,pt2,rfl,rfl,hsa,hsb,hfa,hca,hl⟩:=lK hp;split at h
     ·cases h
     ·rename_i hc
      simp only[bh,ba,not_or,c0,Bool.not_eq_false]at hc;obtain⟨⟨⟨⟨⟨⟨⟨c1,c2⟩,c3⟩,c4⟩,c5⟩,c6⟩,c7⟩,c8⟩:=hc;obtain⟨l1,_⟩:=zk hx;obtain⟨l3,_⟩:=zC l1;obtain⟨m1,_⟩:=zk hy;obtain⟨m3,_⟩:=zC m1;have oi:=fH l3;have oj:=fH m3;have hk:((zl c j/\fresh c ib=true/\c.frz=false)\/(¬ zl c j/\esc ib=true))/\ir=.par i j ia ib:=by
       split at h
       ·rename_i hy'
        split at h
        ·rename_i hf;cases h;exact⟨.inl ⟨oj.mpr hy',by simpa using hf⟩,rfl⟩
        ·cases h
       ·rename_i hy'
        split at h
        ·rename_i hf;cases h;exact⟨.inr ⟨λz=>hy' (oj.mp z),hf⟩,rfl⟩
        ·cases h
      obtain⟨hk,rfl⟩:=hk;exact yW O.toXO (O.calm c1) hx hy (eq_of_beq c2) (eq_of_beq c3) (by simpa using c4) (K.e O.toXO h1) (K.e O.toXO h2) c7 c8 hfa hca hl (λz=>by have:=oi.mp z;rw[c5]at this;cases this) c6 hk
    split at h
    ·rename_i x y z a b d hp
     simp only[aB,az]at h;obtain⟨i,hx,j,hy,l,hz,ia,h1,ib,h2,id,h3,h⟩:=h;obtain⟨px,py,pz,k2,pt2,rfl,rfl,hsa,hsb,hsd,hfa,hca,hl,hl'⟩:=pe hp;split at h
     ·cases h
     ·rename_i hc
      simp only[bh,ba,not_or,c0,Bool.not_eq_false]at hc;obtain⟨⟨⟨⟨⟨⟨⟨⟨⟨⟨⟨⟨c1,c2⟩,c3⟩,c4⟩,c5⟩,c6⟩,c7⟩,c8⟩,c9⟩,c10⟩,c11⟩,c12⟩,c13⟩:=hc;cases h;have oi:=fH (zC (zk hx).1).1;have oj:=fH (zC (zk hy).1).1;have ol:=fH (zC (zk hz).1).1;exact vI O.toXO (O.calm c1) hx hy hz (eq_of_beq c2) (eq_of_beq c3) (eq_of_beq c4) (by simpa using c5) (by simpa using c6) (by simpa using c7) (K.e O.toXO h1) (K.e O.toXO h2) (K.e O.toXO h3) hsa hsb hsd hfa hca hl hl' (λq=>by have:=oi.mp q;rw[c8]at this;cases this) (λq=>by have:=oj.mp q;rw[c9]at this;cases this) (λq=>by have:=ol.mp q;rw[c10]at this;cases this) c11 c12 c13
    simp only[aB,az]at h;obtain⟨tg,h1,ie,h2,h⟩:=h;split at h
    ·cases h
    ·rename_i hc
     have hc:((isTup e=true->jU e=true)/\dZ e=false)/\esc ie=true:=by simpa using hc
     cases h;refine kM O.toXO (K.e O.toXO h2) (gQ O.toXO h1) (kg h1) hc.2 (by simp only[swapsWithSole];exact i0 hc.1.2) ?_ rfl;exact Aw hc.1.1
   ·-- x[k] = e
    split at h
    ·simp only[aB,az]at h;obtain⟨i,hl,ie,h1,ik,h2,h⟩:=h;split at h
     ·rename_i hc
      simp only[aF,ba]at hc;cases h;exact vR O.toXO hc.2 (zk hl).1 hc.1.1.1.1 (K.e O.toXO h2) (K.e O.toXO h1) hc.1.1.1.2 hc.1.1.2 hc.1.2
     ·cases h
    ·cases h
   ·cases h
  ·cases h
 ·split at h
  ·-- x.insert(k, a)
   rename_i he
   obtain⟨p,rfl⟩:=yN he;simp only[aB,az]at h;obtain⟨i,hl,ik,h0,ia,h1,h⟩:=h;split at h
   ·rename_i hc
    simp only[aF,ba,beq_iff_eq]at hc;cases h;obtain⟨⟨⟨⟨⟨c2,c3⟩,c4⟩,c5⟩,c6⟩,c7⟩:=hc;exact wR O.toXO c7 (zk hl).1 c2 (K.e O.toXO h0) (K.e O.toXO h1) c3 c4 c5 (by simpa using c6)
   ·cases h
  split at h
  ·-- x.append(a)
   rename_i he
   obtain⟨p,rfl⟩:=wg he;simp only[aB,az]at h;obtain⟨i,hl,ia,h1,h⟩:=h;split at h
   ·rename_i hm
    have hm:=eq_of_beq hm;subst hm;split at h
    ·rename_i hc
     simp only[aF,ba]at hc;cases h;obtain⟨⟨⟨⟨c2,c3⟩,c4⟩,c5⟩,c6⟩:=hc;exact BP O.toXO c6 (zk hl).1 c2 (K.e O.toXO h1) c3 c4 (by simpa using c5)
    ·cases h
   split at h
   ·rename_i hm
    have hm:=eq_of_beq hm;subst hm;split at h
    ·rename_i hc
     simp only[aF,ba]at hc;cases h;obtain⟨⟨⟨⟨c2,c3⟩,c4⟩,c5⟩,c6⟩:=hc;exact pF O.toXO c6 (zk hl).1 c2 (K.e O.toXO h1) c3 c4 (by simpa using c5)
    ·cases h
   split at h
   ·rename_i hc
    simp only[aF,ba,beq_iff_eq]at hc;cases h;obtain⟨⟨⟨⟨⟨rfl,c2⟩,c3⟩,c4⟩,c5⟩,c6⟩:=hc;exact Bx O.toXO c6 (zk hl).1 c2 (K.e O.toXO h1) c3 c4 (by simpa using c5)
   ·cases h
  ·split at h
   ·cases h
   ·rename_i hc
    simp only[aB,az]at h;obtain⟨ie,h1,h⟩:=h;cases h;exact rO (K.e O.toXO h1) (by simpa using hc)
 ·split at h
  ·-- return e
   rename_i e
   simp only[aB,az]at h;obtain⟨ie,h1,h⟩:=h;split at h
   ·rename_i hf
    split at h
    ·rename_i y p
     split at h
     ·rename_i ho
      simp only[bu]at h;obtain⟨i,hl,rfl⟩:=h;exact BJ O.toXO hl ho
     ·cases h
    ·split at h
     ·rename_i hfr
      cases h;exact kK (K.e O.toXO h1) λ_=>hfr
     ·cases h;exact sQ (K.e O.toXO h1)
   ·rename_i hf
    cases h;exact kK (K.e O.toXO h1) λz=>absurd z hf
  ·split at h
   ·cases h
   ·rename_i hf
    cases h;exact wY (by simpa using hf)
 ·simp only[aB,az]at h;obtain⟨it,h1,ia,h2,ib,h3,h⟩:=h;cases h;exact vK (K.t O.toXO h1) (ih.ss O h2) (ih.ss O h3)
 ·split at h
  ·cases h
  ·rename_i tg0 it0 b0 els0 pos0 hc
   have hc:(els0=[]/\c.calm=true)/\zv it0=true:=by simpa using hc
   obtain⟨⟨rfl,hc1⟩,hc2⟩:=hc;simp only[aB,az]at h;obtain⟨tg,h1,it,h2,h⟩:=h;split at h
   ·cases h
   ·rename_i ho
    have ho:fP it tg0=true:=by simpa using ho
    simp only[az]at h;obtain⟨ib,h3,h⟩:=h;cases h;exact yr O.toXO (O.calm hc1) (K.i O.toXO.nox h2 ho) (gQ O.toXO.nox h1) (kg h1) (ih.ss O.nox.froze h3) hc2
 ·split at h
  ·cases h
  ·rename_i els0 _ hc
   have hc:els0=[]/\c.calm=true:=by simpa using hc
   obtain⟨rfl,hc⟩:=hc;simp only[aB,az]at h;obtain⟨it,h1,ib,h2,h⟩:=h;cases h;exact yg (K.t O.toXO.nox h1) (ih.ss O.nox h2)
 ·split at h
  ·split at h
   ·rename_i hr
    obtain⟨p0,q0,rfl⟩:=A1 hr;split at h
    ·cases h
    ·rename_i hc
     simp only[bh,ba,not_or,Bool.not_eq_false,Option.isNone_iff_eq_none]at hc;obtain⟨⟨rfl,hc1⟩,hc2⟩:=hc;split at h
     ·rename_i hg
      simp only[aB,az]at h;obtain⟨ies,h1,h⟩:=h;cases h;exact AR O (O.calm hc1) hc2 hg (K.es O.toXO h1) h1 (bp (iz h1) hn)
     ·cases h
   ·cases h
  ·cases h
 ·-- try
  split at h
  ·split at h
   ·rename_i b0 els0 fin0 pos0 hs0 y0 h0 hp0 ty0 x0 np0
    split at h
    ·cases h
    ·rename_i hc
     have hc:((((((els0=[]/\fin0=[])/\c.calm=true)/\c.fnc=true)/\h0≠[])/\c.own=[])/\c.frz=false):=by simpa using hc
     obtain⟨⟨⟨⟨⟨⟨rfl,rfl⟩,hc1⟩,hc2⟩,hc3⟩,hc4⟩,hc5⟩:=hc;simp only[aB,az]at h;obtain⟨ib,h1,ihd,h2,h⟩:=h;split at h
     ·cases h
     ·rename_i hg
      have hg:glob c x0=some .exc\/glob c x0=some .exk:=by
       by_cases z:glob c x0=some .exc
       ·exact .inl z
       ·exact .inr (by simpa[z]using hg)
      match h0,hc3,h2 with
      | [],hc3,_=>exact absurd rfl hc3
      |b₀::suite,_,h2=>
       split at h
       ·cases h;exact y7 O hc5 hc4 hg (λEh pn Et O'=>ih.ss O' h1) (λy=>ih.ss (O.held y) h2)
       ·simp only[az]at h;obtain⟨i,hl,h⟩:=h;split at h
        ·rename_i hn
         cases h;exact yw O hc5 hc4 hg (zC (zk hl).1).1 (by simpa using hn) (λEh pn Et O'=>ih.ss O' h1) (λy=>ih.ss (O.held y) h2)
        ·cases h
   ·cases h
  ·split at h
   ·rename_i x1 y1 g1 x2 g2 htw
    obtain⟨p1,p2,p3,p4,rfl⟩:=BF htw;split at h
    ·cases h
    ·rename_i hc
     simp only[bh,ba,not_or,Bool.not_eq_false,c0,List.isEmpty_iff]at hc;obtain⟨⟨⟨⟨⟨⟨⟨he,hf⟩,hc1⟩,hc2⟩,hc3⟩,hc6⟩,hc4⟩,hc5⟩:=hc;subst he hf;simp only[aB,az]at h;obtain⟨ib,h1,ihd,h2,ihd2,h3,i,hl,h⟩:=h;split at h
     ·cases h
     ·rename_i hg
      simp only[bh,ba,not_or,Bool.not_eq_false,beq_iff_eq]at hg;obtain⟨⟨hg1,hg2⟩,hn⟩:=hg
      match g1,hc3,h2 with
      | [],hc3,_=>exact absurd rfl hc3
      |b₀::suite,_,h2=>
       match g2,hc6,h3 with
       | [],hc6,_=>exact absurd rfl hc6
       |b₂::suite2,_,h3=>
        cases h;exact p5 O hc5 hc4 hg1 hg2 (zC (zk hl).1).1 hn (λEh pn Et O'=>ih.ss O' h1) (λy=>ih.ss (O.held y) h2) (λy=>ih.ss (O.held y) h3)
   ·cases h
 ·cases h;exact xD
 ·cases h;exact vV
 ·cases h;exact rT
 ·cases h
theorem lJ:∀n,n<=100000->gR w g n
 | 0,_=>⟨λ_ _ _ _ h=>(by cases h),λ_ _ _ _ h=>by simp[cSs]at h⟩
 |n+1,h=>
  have ih:=lJ n (Nat.le_of_succ_le h)
  ⟨λO _ _ _ q=>ih.s_succ (Nat.le_of_succ_le h) O q,λO _ _ _ q=>ih.ss_succ O q⟩
end
section
variable{w:W}{g:Gc}{c:Cc}{E:XK}{fr:Bool}{X:Cx}{H0:Hp}{B:Sh}{τ:Env}{σ:L2.St}{H H':Hp}{S:Sh}{n:Nat}
noncomputable def ko(g:Gc)(E:XK)(fr:Bool)(H0:Hp)(B:Sh)(D:Ends):O->Prop
 | .nx _=>∀σ' H',qe H0 H'->D.nx σ' H'
 | .rt d=>∀v H',qe H0 H'->Rep g (hid H' B) d v->(fr=true->zr d=true->Fr g H0 B H' d v)->D.rt v H'
 | .ex k=>∀H' C,qe H0 H'->g.clA k=some C->E (.ref C) none H'
 |_=>False
theorem ko.out{D:Ends}{o:O}(h:ko g E fr H0 B D o):bN g c E fr H0 B H S D o:=by
 cases o with
 |nx t=>exact λσ' H' S' ss _=>h σ' H' ss.same
 |rt d=>exact h
 |ex k=>exact h
 |bk t=>exact h.elim
 |ct t=>exact h.elim
 |no=>exact h.elim
noncomputable def BU(w:W)(g:Gc)(c:Cc)(E:XK)(fr:Bool)(s:Ss):TS:=λD σ H=>∃H0 B τ S,SS g c H0 B τ σ H S/\ko g E fr H0 B D (qf w s τ)
theorem As(hn:n<=100000)(O:XS w g c E X){x:List Stmt}{ir:Ss}(h:i4 n c fr x=some ir):PSs X x (BU w g c E fr ir):=
 PSs.imp ((lJ n hn).ss O h) λD σ H ⟨H0,B,τ,S,ss,z⟩=>⟨H0,B,τ,S,ss,z.out⟩
end
noncomputable def GM0(p:Pr)(g:Gc)(mg:Str->Option ae)(x:Str):GK->Prop
 | .fn _=>∃f,g.fnA x=some f
 | .val=>∃u v d,mg x=some u/\RelV v u/\p.glb x=some d/\∀H,Rep g H d v
 | .bi b=>mg x=none/\x=b1N b/\∃id,b1V b=.builtin id
 | .rng=>mg x=none/\x = "range"
 | .enum=>mg x=none/\x = "enumerate"
 | .zip=>mg x=none/\x = "zip"
 | .isi=>mg x=none/\x = "isinstance"
 | .ty n b=>mg x=none/\bF x=some (.type n)/\(n∈["int","bool","str","list","tuple"]\/n = "ValueError")/\∀b',b=some b'->x=b1N b'/\b1V b'=.type n
 | .exc=>∃C,mg x=some (.ref C)/\g.clA x=some C/\jd g.K C
 | .exk=>∃C,mg x=some (.ref C)/\g.clA x=some C
 | .set=>mg x=none/\bF x=some (.type "set")
 | .rvd=>mg x=none/\x = "reversed"
structure Ground(p:Pr)(g:Gc)(G GH GU:List (Str×GK))(mg:Str->Option ae):Prop where
 fn:∀x f,g.fnA x=some f->∃st own fr fd fnn,p.fns x=some fnn/\cFn G GH own fr st=some fnn/\Fun g.K x x st f fd/\Binds g.K fd (argNames (zm st)) []/\cm g.K (.ref f)=true/\mg x=some (.ref f)/\G.lookup x=some (.fn fr)
 gl:∀x k,G.lookup x=some k->GM0 p g mg x k
 gu:∀x k,GU.lookup x=some k->(∀fr,k≠.fn fr)/\k≠.exc/\GM0 p g mg x k
 gh:∀x k,GH.lookup x=some k->GU.lookup x=some k
 sub:∀k cl b,p.sub k cl=some b->∃C cv,g.clA k=some C/\cD g.K C/\bf g.K (.ref C) cv=some b/\match cl with
  | .ty n=>n = "ValueError"/\cv=.type n
  | .ex x=>∃D,g.clA x=some D/\cv=.ref D
 cat:∀k x,p.cat k x=true->∀C D,g.clA k=some C->g.clA x=some D->bx g.K (.ref C) (.ref D)=some true
abbrev wAt(p:Pr)(k:Nat):W:=⟨qc p k,p.glb,p.sub,p.cat⟩
theorem Cf{N ps:List Str}{sc:aS}(h:iE N ps sc=true):gD N ps sc:=by
 unfold iE at h;simp only[aF,beq_iff_eq,ba,decide_eq_true_eq,cY,bh,bne_iff_ne,ne_eq]at h;obtain⟨⟨⟨⟨⟨⟨h1,h2⟩,h3⟩,h4⟩,h5⟩,h6⟩,h7⟩:=h;exact⟨h1,h2,h3,h4,h5,h6,h7⟩
theorem wI{G GH:List (Str×GK)}{own:List Str}{fr:Bool}{st:Stmt}{fnn:Fn}(h:cFn G GH own fr st=some fnn):iE (gM (zm st) (zj st)) (argNames (zm st)) (zj st)=true/\(argNames (zm st)).any own.contains=false /\
  ∃b,i4 jJ ⟨(zj st).names,gM (zm st) (zj st),own,G,true,true,true,GH,[],false⟩ fr (dn st)=some b/\fnn=⟨(argNames (zm st)).length,(gM (zm st) (zj st)).length,fr,b⟩:=by
 unfold cFn at h;dsimp only at h;split at h
 ·cases h
 ·rename_i hc
  simp only[bh,ba,not_or,Bool.not_eq_false,c0]at hc;simp only[aB,az,bZ]at h;obtain⟨b,h1,h2⟩:=h;exact⟨hc.1,hc.2,b,h1,h2.symm⟩
section
variable{P:aw}{w:av}{K:ar}{mg:Str->Option ae}{base:Heap}{N:List Str}{qual:Str}{scope:aS}{f:Addr}{cd:ae}{A:ay}{outer:List PySem.Env}{s₀:af}{H₀:Hp}{E:XK}
end
theorem GM0.gm{p:Pr}{g:Gc}{mg:Str->Option ae}{x:Str}{k:GK}{P:aw}{wl:av}{base:Heap}{A:ay}{calm:Bool}{n:Nat}(h:GM0 p g mg x k)(hf:∀fr,k≠.fn fr):GM (wAt p n) g P wl mg base A calm x k:=by
 cases k with
 |fn fr'=>exact absurd rfl (hf fr')
 |exc=>obtain⟨C,h1,h2,_⟩:=h;exact⟨C,h1,h2⟩
 |val=>exact h
 |bi b=>exact h
 |rng=>exact h
 |enum=>exact h
 |zip=>exact h
 |isi=>exact h
 |ty n b=>exact h
 |exk=>exact h
 |set=>exact h
 |rvd=>exact h
theorem Bs{w:W}{g:Gc}{c:Cc}{E:XK}{X:Cx}{N ps own:List Str}{sc:aS}{fr:Bool}{body:List Stmt}{b:Ss}(hcN:c.N=N)(hco:c.own=own)(hcz:c.frz=false)(FS:gD N ps sc)(c2:ps.any own.contains=false)(c3:i4 jJ c fr body=some b)
  (O:XS w g c E X) {vs:List V}{ds:List D}{B:Sh}{H:Hp}{Q:VK} (hB:Sub B H) (rv:zb g (hid H B) ds vs) (hl:ds.length=ps.length)
  (h:tR g E H (match qf w b (ds.map some++bK (N.length-ps.length) none)with
   | .nx _=>if fr then .no else .ok .non
   | .rt d=>.ok d
   | .ex c=>.ex c
   |_=>.no) (λd=>∀v H',qe H H'->Rep g (hid H' B) d v->(fr=true->zr d=true->Fr g H B H' d v)->Q v H')) :
  ∃t,PSs X body t/\t {nx:=λ_ H'=>Q .non H',rt:=Q} (start N vs) H:=by
 have hNl:ps.length<=N.length:=by have:=congrArg List.length FS.pre;rw[List.length_take]at this;lia
 refine⟨_,As (by decide) O c3,H,B,ds.map some++bK (N.length-ps.length) none,⟨λ_=>false,B.h,B.z,B.y⟩,?_,?_⟩
 ·-- at the start
  have hh:hid H ⟨λ_=>false,B.h,B.z,B.y⟩=hid H B:=rfl;have hvl:=rv.length;have par:∀i d,(ds.map some++bK (N.length-ps.length) none)[i]? = some (some d)->i<ps.length/\ds[i]? = some d:=λi d hi=>by
   by_cases hlt:i<ds.length
   ·rw[List.getElem?_append_left (by simpa using hlt),List.getElem?_map]at hi;refine⟨by lia,?_⟩;cases q:ds[i]? with
    |none=>rw[q]at hi;cases hi
    |some e=>rw[q]at hi;simpa using hi
   ·rw[List.getElem?_append_right (by simpa using hlt)]at hi;rw[List.getElem?_replicate]at hi;split at hi<;>cases hi
  have noOwn:∀i d,zl c i->(ds.map some++bK (N.length-ps.length) none)[i]? = some (some d)->False:=λi d ⟨y,h1,h2⟩ hi=>by
   obtain⟨hlt,_⟩:=par i d hi;rw[hcN]at h1;rw[hco]at h2;have:N.take ps.length=ps:=FS.pre;have hy:ps[i]? = some y:=by
    rw[<-this,List.getElem?_take,if_pos hlt];exact h1
   have:=List.any_eq_false.mp c2 y (List.mem_of_getElem? hy);exact this h2
  refine⟨⟨by simp[L2.start];lia,λi d hi=>?_,λa ha=>?_⟩,by simp[hcN];lia,qe.refl _,hB,(λa=>by simp),(λa ha=>by cases ha),(λi d ho hi=>(noOwn i d ho hi).elim),λi j d e a ho _ hi _ _ _=>(noOwn i d ho hi).elim,λz=>by rw[hcz]at z;cases z⟩
  ·obtain⟨hlt,hd⟩:=par i d hi;obtain⟨v,h1,h2⟩:=rv.get hd;have hlt':i<vs.length:=by lia
   refine⟨v,?_,.inl h2,λ_ _ _=>h2⟩;unfold L2.start;rw[List.getElem?_append_left (by simpa using hlt'),List.getElem?_map,h1]
   rfl
  ·refine hB a ?_;rcases ha with ha|ha
   ·exact .inl ha
   ·cases ha
 ·-- at the end
  cases q:qf w b (ds.map some++bK (N.length-ps.length) none)with
  |nx τ'=>
   rw[q]at h;simp only at h;cases fr with
   |true=>exact h.elim
   |false=>exact λσ' H' hs=>h .non H' hs .non (by intro z;cases z)
  |rt d=>rw[q]at h;exact h
  |ex z=>rw[q]at h;exact h
  |bk z=>rw[q]at h;exact h.elim
  |ct z=>rw[q]at h;exact h.elim
  |no=>rw[q]at h;exact h.elim
section
variable{p:Pr}{g:Gc}{G GH GU:List (Str×GK)}{mg:Str->Option ae}{P:aw}{wl:av}{base:Heap}
theorem Ground.ok(T:Ground p g G GH GU mg):∀(k:Nat) (x:Str) (f:Addr) (st:Stmt) (own:List Str) (fr:Bool) (fd:FuncData) (fnn:Fn),p.fns x=some fnn->cFn G GH own fr st=some fnn->Fun g.K x x st f fd ->
  eO P wl g.K mg base (CX1 P wl) k f fd (argNames (zm st)) (spF (wAt p k) g x fr)
 | 0,x,f,st,own,fr,fd,fnn,_,_,_=>⟨λvs H Q E ⟨S,ds,_,_,h⟩=>h.elim,λA outer s H args us vs Q E _ _ _ _ ⟨S,ds,_,_,h⟩=>h.elim⟩
 |k+1,x,f,st,own,fr,fd,fnn,hf,hc,F=>by
  obtain⟨c1,c2,b,c3,rfl⟩:=wI hc;have FS:=Cf c1;generalize hN:gM (zm st) (zj st)=N at *;generalize hps:argNames (zm st)=ps at *;have call:∀ds,qc p (k+1) x ds=cC (wAt p k) ⟨ps.length,N.length,fr,b⟩ ds:=λds=>by simp only[qc,hf]
  have lenOf:∀vs H Q E,spF (wAt p (k+1)) g x fr vs H Q E->vs.length=ps.length:=λvs H Q E ⟨S,ds,_,r,h⟩=>by
   have h:tR g E H (qc p (k+1) x ds) _:=h;rw[call]at h;unfold cC at h;by_cases hl:ds.length=ps.length
   ·rw[<-r.length];exact hl
   ·rw[if_neg hl]at h;exact h.elim
  refine F.ok1 FS lenOf λcdv A outer s H vs Q E hr hsp=>?_
  obtain⟨B,ds,hB,rv,h⟩:=hsp;have h:tR g E H (qc p (k+1) x ds) (λd=>∀v H',qe H H'->Rep g (hid H' B) d v->(fr=true->zr d=true->Fr g H B H' d v)->Q v H'):=h;rw[call]at h;unfold cC at h;by_cases hl:ds.length=ps.length
  ·rw[if_pos hl]at h
   -- the ground of the body
   have calls:∀y fy,g.fnA y=some fy->∃fry,G.lookup y=some (.fn fry)/\iy (wAt p k) g P wl mg base (A.deeper (envOfC x (zj st) s.heap.objs.size f cdv)) true y fy fry:=λy fy hy=>by
    obtain⟨sty,owny,fry,fdy,fny,z1,z2,z3,z4,z5,z6,z7⟩:=T.fn y fy hy;exact⟨fry,z7,z6,z5,k,fdy,_,z4,.inl ⟨rfl,Ground.ok T k y fy sty owny fry fdy fny z1 z2 z3,hr⟩⟩
   have O:XS (wAt p k) g ⟨(zj st).names,N,own,G,true,true,true,GH,[],false⟩ E (dk (CX1 P wl) P wl g.K mg base N x (zj st) f cdv A outer s H E):=by
    refine⟨⟨rfl,rfl,rfl,FS.nd,λ_=>rfl,hr.units,λ_ _=>rfl,FS.kind,wN,λy ky hy=>?_,λ_ y fy hy=>?_,T.sub⟩,λ_=>pX,λy C hy hC=>?_,T.cat,⟨rfl,rfl,rfl⟩,λy ky hy=>?_⟩
    ·have:=T.gl y ky hy;by_cases hf:∃fr,ky=.fn fr
     ·obtain⟨fr',rfl⟩:=hf;obtain⟨fy,h1⟩:=this;obtain⟨fry,h2,h3⟩:=calls y fy h1;have hy:G.lookup y=some (.fn fr'):=hy;rw[hy]at h2;cases h2;exact⟨fy,h1,h3⟩
     ·exact this.gm λfr z=>hf ⟨fr,z⟩
    ·obtain⟨fry,_,h3⟩:=calls y fy hy;exact⟨fry,h3⟩
    ·obtain⟨C',_,h2,h3⟩:=T.gl y .exc hy;rw[h2]at hC;cases hC;exact h3
    ·obtain⟨u1,u2,u3⟩:=T.gu y ky (T.gh y ky hy);exact⟨u2,λv=>u3.gm u1⟩
   exact Bs rfl rfl rfl FS c2 c3 O hB rv hl h
  ·rw[if_neg hl]at h;exact h.elim
end
end EV
namespace WB
open PySem PySem.Spec PyProof.Rows L2
structure Dd(K:ar)(n:Str)(st:Stmt)(f:Addr):Prop where
 a:aA K ax n=some (some (.ref f))
 l:∃oc od an sl kV dc pm cd ct,K.lookup f=some ⟨oc,od,.func (b7 n n (zm st) (dn st) (zj st) .none kV dc pm an cd ct),sl⟩/\PySem.W.codeIn K cd n=true
 k:cm K (.ref f)=true
theorem zz{K:ar}{n:Str}{st:Stmt}{f:Addr}{od an:Option Addr}{sl:Array (Option ae)}{oc kV dc pm cd ct:ae}(a:aA K ax n=some (some (.ref f)))
  (l:K.lookup f=some ⟨oc,od,.func (b7 n n (zm st) (dn st) (zj st) .none kV dc pm an cd ct),sl⟩) (c:PySem.W.codeIn K cd n=true) (k:cm K (.ref f)=true):Dd K n st f:=
 ⟨a,⟨oc,od,an,sl,kV,dc,pm,cd,ct,l,c⟩,k⟩
theorem Dd.fn{K:ar}{n:Str}{st:Stmt}{f:Addr}(d:Dd K n st f):∃fd,Fun K n n st f fd:=by
 obtain⟨oc,od,an,sl,kV,dc,pm,cd,ct,l,c⟩:=d.l;exact⟨_,n5 (st:=st) l c d.k⟩
theorem nM{K:ar}{C:Addr}{c:ae}{dd:Option Addr}{cd:PySem.ClassData}{sl:Array (Option ae)}(s1:PySem.W.findIn K (.ref C) "__getattribute__" = some (some (.builtin "BaseException.__getattribute__")))
  (s2:PySem.W.findIn K (.ref C) "__getattr__" = some none) (s3:PySem.W.findIn K (.ref C) "__class__" = some (some (.builtin "object.__class__"))) (s4:PySem.W.mroIn K C (.type "BaseException")=some true) (s5:PySem.W.mroIn K C (.type "object")=some true)
  (s6:K.lookup C=some ⟨c,dd,.cls cd,sl⟩):cD K C:=⟨s1,s2,s3,s4,s5,⟨c,dd,cd,sl,s6⟩⟩
theorem lR{K:ar}{C:Addr}:bf K (.ref C) (.ref C)=some true:=by
 unfold bf;rw[if_pos (beq_self_eq_true _)]
theorem nA{K:ar}{C:Addr}(s:bA K (.ref C) (.type "ValueError")=some true):bf K (.ref C) (.type "ValueError")=some true:=by
 unfold bf;rw[if_neg (λz=>by have:=eq_of_beq z;cases this)];show (if PySem.W.kitMeta "ValueError" = true then bA K (.ref C) (.type "ValueError")else none)=_;rw[if_pos (by decide +kernel)];exact s
theorem nz{K:ar}{C D:Addr}{x:PySem.ClassData}(u:bA K (.ref D) (.type "BaseException")=some true)(c:PySem.W.clsIn K D=some x)(t:PySem.W.typeIn K (.ref D)=some (.type "type"))(s:bA K (.ref C) (.ref D)=some true) :
  bx K (.ref C) (.ref D)=some true:=by
 unfold bx;rw[u,if_pos (by decide)];show (if ((PySem.W.clsIn K D).isSome&&PySem.W.typeIn K (.ref D)==some (.type "type"))=true then bA K (.ref C) (.ref D)else none)=_;rw[c,t,if_pos (by rw[beq_self_eq_true];rfl)];exact s
theorem kN{us:List ae}(h:us.length=1):∃a,us=[a]:=List.length_eq_one_iff.mp h
theorem l8{n:Nat}{us:List ae}(h:us.length=n+1):∃a r,us=a::r/\r.length=n:=by
 cases us with
 |nil=>cases h
 |cons a r=>exact⟨a,r,rfl,Nat.succ.inj h⟩
theorem oh{us:List ae}(h:us.length=2):∃a b,us=[a,b]:=by
 obtain⟨a,r,e,h⟩:=l8 h;obtain⟨b,q⟩:=kN h;subst q;exact⟨a,b,e⟩
theorem sU{us:List ae}(h:us.length=3):∃a b c,us=[a,b,c]:=by
 obtain⟨a,r,e,h⟩:=l8 h;obtain⟨b,c,q⟩:=oh h;subst q;exact⟨a,b,c,e⟩
structure Dk(K:ar)(n:Str)(D:Addr):Prop where
 a:aA K ax n=some (some (.ref D))
 c:∃x,PySem.W.clsIn K D=some x
 t:PySem.W.typeIn K (.ref D)=some (.type "type")
theorem lB{K:ar}{n:Str}{D:Addr}{x:PySem.ClassData}(a:aA K ax n=some (some (.ref D)))(c:PySem.W.clsIn K D=some x)(t:PySem.W.typeIn K (.ref D)=some (.type "type")):Dk K n D:=⟨a,⟨x,c⟩,t⟩
theorem Dk.kit{K:ar}{n:Str}{C D:Addr}{b:Bool}(d:Dk K n D)(s:bA K (.ref C) (.ref D)=some b)(ne:C≠D):bf K (.ref C) (.ref D)=some b:=by
 obtain⟨x,c⟩:=d.c;unfold bf;rw[if_neg (λz=>ne (by have:=eq_of_beq z;injection this))];show (if ((PySem.W.clsIn K D).isSome&&PySem.W.typeIn K (.ref D)==some (.type "type"))=true then bA K (.ref C) (.ref D)else none)=_;rw[c,d.t,if_pos (by rw[beq_self_eq_true];rfl)];exact s
end WB
namespace EV
open PySem PySem.Spec PySem.P PyProof.Rows L2
structure Ent where
 x:Str
 st:Stmt
 own:List Str
 fr:Bool
 fn:Fn
noncomputable def prT(tab:List Ent)(vals:List (Str×D))(cA:List (Str×Str))(subs:List ((Str×Cl)×Bool):=[]):Pr:=⟨λx=>(tab.find? (·.x==x)).map (·.fn),λx=>vals.lookup x,λk c=>subs.lookup (k,c),λk x=>cA.contains (k,x)⟩
noncomputable def unx:GK->GK
 | .exc=>.exk
 |k=>k
noncomputable def d_(oth:List (Str×GK)):List (Str×GK):=oth.map λy=>(y.1,unx y.2)
noncomputable def fj(us:List Ent)(oth:List (Str×GK)):List (Str×GK):=us.map (λe=>(e.x,GK.fn e.fr))++d_ oth
theorem kH{x:Str}{k:GK}:∀{oth:List (Str×GK)},(d_ oth).lookup x=some k->∃k0,oth.lookup x=some k0/\k=unx k0
 | [],h=>by cases h
 | (y,k1)::r,h=>by
  have h:List.lookup x ((y,unx k1)::d_ r)=some k:=h;rw[br]at h;split at h
  ·rename_i q;cases h;exact⟨k1,by rw[br,q],rfl⟩
  ·rename_i q
   obtain⟨k0,h1,h2⟩:=kH h;exact⟨k0,by rw[br,q];exact h1,h2⟩
theorem nR{x:Str}{k:GK}{oth:List (Str×GK)}:∀{us:List Ent},(fj us oth).lookup x=some k->(∃e∈us,e.x=x/\k=.fn e.fr)\/(d_ oth).lookup x=some k
 | [],h=>.inr h
 |a::r,h=>by
  have h:List.lookup x ((a.x,GK.fn a.fr)::fj r oth)=some k:=h;rw[br]at h;split at h
  ·rename_i q;cases h;exact .inl ⟨a,aR,(eq_of_beq q).symm,rfl⟩
  ·rcases nR h with ⟨e,h1,h2⟩|h1
   ·exact .inl ⟨e,aP _ h1,h2⟩
   ·exact .inr h1
noncomputable def dG(K:ar)(ns:List Str)(x:Str):Option Addr:=if ns.contains x then (match aA K ax x with
 |some (some (.ref f))=>some f
 |_=>none)else none
noncomputable def gOf(K:ar)(fns cls:List Str):Gc:=⟨K,dG K fns,dG K cls⟩
theorem gy{K:ar}{ns:List Str}{x:Str}{f:Addr}(h:aA K ax x=some (some (.ref f)))(hx:ns.contains x=true):dG K ns x=some f:=by
 unfold dG;rw[if_pos hx,h]
theorem ke{K:ar}{ns:List Str}{x:Str}{f:Addr}(h:dG K ns x=some f):ns.contains x=true/\aA K ax x=some (some (.ref f)):=by
 unfold dG at h;split at h
 ·rename_i hx
  split at h
  ·rename_i q;cases h;exact⟨hx,q⟩
  ·cases h
 ·cases h
noncomputable def Bnd(e:Ent):Prop:=∀(kV doc pm:ae) (an:Option Addr) (cdv ct:ae) (us:List ae),us.length=(argNames (zm e.st)).length->bindArgs (b7 e.x e.x (zm e.st) (dn e.st) (zj e.st) .none kV doc pm an cdv ct) ⟨us,[]⟩=pure ((argNames (zm e.st)).zip us)
structure gA(K:ar)(G:List (Str×GK))(e:Ent):Prop where
 dd:∃f,WB.Dd K e.x e.st f
 bnd:Bnd e
noncomputable def mR(K:ar)(vals:List (Str×D))(x:Str):GK->Prop
 | .fn _=>True
 | .val=>∃u v d,aA K ax x=some (some u)/\RelV v u/\vals.lookup x=some d/\∀g H,g.K=K->Rep g H d v
 | .bi b=>aA K ax x=some none/\x=b1N b/\∃id,b1V b=.builtin id
 | .rng=>aA K ax x=some none/\x = "range"
 | .enum=>aA K ax x=some none/\x = "enumerate"
 | .zip=>aA K ax x=some none/\x = "zip"
 | .isi=>aA K ax x=some none/\x = "isinstance"
 | .ty n b=>aA K ax x=some none/\bF x=some (.type n)/\(n∈["int","bool","str","list","tuple"]\/n = "ValueError")/\∀b',b=some b'->x=b1N b'/\b1V b'=.type n
 | .exc=>∃C,aA K ax x=some (some (.ref C))/\PySem.W.excIn K C el "ValueError.__new__" = true
 | .exk=>∃C,aA K ax x=some (some (.ref C))
 | .set=>aA K ax x=some none/\bF x=some (.type "set")
 | .rvd=>aA K ax x=some none/\x = "reversed"
noncomputable def mP(K:ar)(cls:List Str)(y:(Str×Cl)×Bool):Prop:=∃C cv,cls.contains y.1.1=true/\aA K ax y.1.1=some (some (.ref C))/\cD K C/\bf K (.ref C) cv=some y.2/\match y.1.2 with
 | .ty n=>n = "ValueError"/\cv=.type n
 | .ex x=>∃D,cls.contains x=true/\aA K ax x=some (some (.ref D))/\cv=.ref D
theorem m7{α β:Type} [BEq α] [LawfulBEq α]{a:α}{b:β}:∀{l:List (α×β)},l.lookup a=some b->(a,b)∈l
 | (c,d)::r,h=>by
  rw[br]at h;split at h
  ·rename_i q;cases h;rw[eq_of_beq q];exact aR
  ·exact aP _ (m7 h)
theorem m_{tab:List Ent}{e:Ent}(hn:(tab.map (·.x)).Nodup)(he:e∈tab):tab.find? (·.x==e.x)=some e:=by
 induction tab with
 |nil=>simp at he
 |cons a r ih=>
  simp only[aU,List.nodup_cons]at hn;rw[List.find?_cons];rcases aL.mp he with rfl|h
  ·simp
  ·have:(a.x==e.x)=false:=by
    cases q:a.x==e.x with
    |false=>rfl
    |true=>
     have:=eq_of_beq q;exact absurd (this▸bg.mpr ⟨e,h,rfl⟩) hn.1
   rw[this];exact ih hn.2 h
theorem x6{K:ar}{h:Heap}{mg:Str->Option ae}(X:K.In h)(N:h.Ns ax mg){tab:List Ent}{oth G:List (Str×GK)}{vals:List (Str×D)}(hG:G=tab.map (λe=>(e.x,GK.fn e.fr))++oth)
  (hnd:(tab.map (·.x)).Nodup) (ho:∀x k,oth.lookup x=some k->mR K vals x k) (hof:∀x fr,oth.lookup x≠some (.fn fr)) {us:List Ent} (hus:∀e∈us,e∈tab) (hcu:∀e∈us,mZ (d_ oth) e.own e.fr e.st=some e.fn) (hc:∀e∈tab,cFn G (fj us oth) e.own e.fr e.st=some e.fn) (he:∀e∈tab,gA K G e) (cls:List Str) {cA:List (Str×Str)} (hcat:∀y∈cA,∃C D,aA K ax y.1=some (some (.ref C))/\aA K ax y.2=some (some (.ref D))/\bx K (.ref C) (.ref D)=some true) (hcl:∀x,(oth.lookup x=some .exc\/oth.lookup x=some .exk)->cls.contains x=true)
  {subs:List ((Str×Cl)×Bool)} (hsub:∀y∈subs,mP K cls y) :
  Ground (prT tab vals cA subs) (gOf K (tab.map (·.x)) cls) G (fj us oth) (d_ oth) mg:=by
 have lk:∀x k,G.lookup x=some k->(∃e∈tab,e.x=x/\k=.fn e.fr)\/oth.lookup x=some k:=by
  subst hG;clear hnd hc he hus
  induction tab with
  |nil=>intro x k hx;exact .inr hx
  |cons a r ih=>
   intro x k hx;simp only[aU,List.cons_append,br]at hx;split at hx
   ·rename_i q;cases hx;exact .inl ⟨a,aR,(eq_of_beq q).symm,rfl⟩
   ·rcases ih x k hx with ⟨e,h1,h2⟩|h1
    ·exact .inl ⟨e,aP _ h1,h2⟩
    ·exact .inr h1
 have lkE:∀e∈tab,G.lookup e.x=some (.fn e.fr):=by
  subst hG;clear hc he lk hus
  induction tab with
  |nil=>intro e h;simp at h
  |cons a r ih=>
   intro e hm;simp only[aU,List.nodup_cons]at hnd;simp only[aU,List.cons_append,br];rcases aL.mp hm with rfl|hm
   ·rw[beq_self_eq_true]
   ·have:(e.x==a.x)=false:=by
     cases q:e.x==a.x with
     |false=>rfl
     |true=>exact absurd ((eq_of_beq q)▸bg.mpr ⟨e,hm,rfl⟩) hnd.1
    rw[this];exact ih hnd.2 e hm
 have hca:∀k x,cA.contains (k,x)=true->∀C D,dG K cls k=some C->dG K cls x=some D->bx K (.ref C) (.ref D)=some true:=λk x z C D h1 h2=>by
  obtain⟨C',D',e1,e2,e3⟩:=hcat (k,x) (by simpa using z);have a1:=(ke h1).2;have a2:=(ke h2).2;rw[e1]at a1;rw[e2]at a2;cases a1;cases a2;exact e3
 have fnd:∀e∈tab,∃f fd,dG K (tab.map (·.x)) e.x=some f/\Fun K e.x e.x e.st f fd/\Binds K fd (argNames (zm e.st)) []/\cm K (.ref f)=true/\mg e.x=some (.ref f):=λe hm=>by
  obtain⟨⟨f',d⟩,hb⟩:=he e hm;obtain⟨fd,F⟩:=d.fn;exact⟨f',fd,gy d.a (by simpa using bg.mpr ⟨e,hm,rfl⟩),F,F.binds hb,d.k,PySem.W.mg_of X N d.a⟩
 have fne:∀e∈tab,(prT tab vals cA subs).fns e.x=some e.fn:=λe hm=>by show (tab.find? (·.x==e.x)).map (·.fn)=_;rw[m_ hnd hm];rfl
 have gl:∀x k,oth.lookup x=some k->GM0 (prT tab vals cA subs) (gOf K (tab.map (·.x)) cls) mg x k:=λx k hk=>by
  have:=ho x k hk;cases k with
  |fn fr=>exact absurd hk (hof x fr)
  |val=>obtain⟨u,v,d,h1,h2,h3,h4⟩:=this;exact⟨u,v,d,PySem.W.mg_of X N h1,h2,h3,λH=>h4 _ H rfl⟩
  |bi b=>exact⟨cH X N this.1,this.2⟩
  |rng=>exact⟨cH X N this.1,this.2⟩
  |enum=>exact⟨cH X N this.1,this.2⟩
  |zip=>exact⟨cH X N this.1,this.2⟩
  |isi=>exact⟨cH X N this.1,this.2⟩
  |ty n b=>exact⟨cH X N this.1,this.2⟩
  |exc=>obtain⟨C,h1,h2⟩:=this;exact⟨C,PySem.W.mg_of X N h1,gy h1 (hcl x (.inl hk)),h2⟩
  |exk=>obtain⟨C,h1⟩:=this;exact⟨C,PySem.W.mg_of X N h1,gy h1 (hcl x (.inr hk))⟩
  |set=>exact⟨cH X N this.1,this.2⟩
  |rvd=>exact⟨cH X N this.1,this.2⟩
 refine⟨λx f hf=>?_,λx k hx=>?_,λx k hx=>?_,λx k hx=>?_,λk cl b z=>?_,hca⟩
 ·obtain⟨h1,h2⟩:=ke hf;obtain⟨e,hm,rfl⟩:=bg.mp (by simpa using h1:x∈tab.map (·.x));obtain⟨f',fd,z1,z2,z3,z4,z5⟩:=fnd e hm;have hf:dG K (tab.map (·.x)) e.x=some f:=hf;rw[hf]at z1;cases z1;exact⟨e.st,e.own,e.fr,fd,e.fn,fne e hm,hc e hm,z2,z3,z4,z5,lkE e hm⟩
 ·rcases lk x k hx with ⟨e,hm,rfl,rfl⟩|hk
  ·obtain⟨f',fd,z1,_⟩:=fnd e hm;exact⟨f',z1⟩
  ·exact gl x k hk
 ·obtain⟨k0,h1,rfl⟩:=kH hx;have:=gl x k0 h1;cases k0 with
  |fn fr=>exact absurd h1 (hof x fr)
  |exc=>obtain⟨C,z1,z2,_⟩:=this;exact⟨by simp[unx],by simp[unx],⟨C,z1,z2⟩⟩
  |_=>exact⟨by simp[unx],by simp[unx],this⟩
 ·rcases nR hx with ⟨e,hm,rfl,rfl⟩|hk
  ·have:=hcu e hm;cases this
  ·exact hk
 ·have z:subs.lookup (k,cl)=some b:=z;obtain⟨C,cv,h0,h1,h2,h3,h4⟩:=hsub _ (m7 z);refine⟨C,cv,gy h1 h0,h2,h3,?_⟩;cases cl with
  |ty n=>exact h4
  |ex x=>obtain⟨D,d0,d1,d2⟩:=h4;exact⟨D,gy d1 d0,d2⟩
theorem xM{l:PySem.W.OpenLaw}{q:aw}{loose:List Str}{XP:(Str->Option ae)->Heap->Prop}{YP:av->Heap->Prop}{d:DefRec}{K:Params->ar}{tab:List Ent}{G:List (Str×GK)}{vals:List (Str×D)}{cls:List Str}{cA:List (Str×Str)}{subs:List ((Str×Cl)×Bool)}{GH GU:List (Str×GK)}{e:Ent}{k:Nat}
  (hn:l.most=some 63) (hdf:d.params.defaults=[]) (hd:d.name=e.x) (hr:b8 k callerA) (hY:∀(w:av) (h:Heap),YP w h->(K w.params).In h) (hm:e∈tab) (hnd:(tab.map (·.x)).Nodup) (hx:e.x = "law") (hfr:e.fr=false) (hp:argNames (zm e.st)=[("_law_script" : Str)])
  (hG:∀(w:av) (mg:Str->Option ae) (h:Heap),(K w.params).In h->h.Ns ax mg->Ground (prT tab vals cA subs) (gOf (K w.params) (tab.map (·.x)) cls) G GH GU mg/\gA (K w.params) G e) (hc:cFn G GH e.own e.fr e.st=some e.fn)
  (hlaw:∀ns:List Int,ns.length<=63->qc (prT tab vals cA subs) k "law" [.lst (ns.map D.int)]=.ok (.bl true)) :
  PySem.W.WalkO q loose XP YP l.row.toRowW d [] (λf vs=>PySem.call f vs):=by
 refine L2.vX (n:=63) (k:=k) (x:="_law_script") (CX:=λw=>CX1 l.prog w) (sp:=λw=>spF (wAt (prT tab vals cA subs) k) (gOf (K w.params) (tab.map (·.x)) cls) "law" false) hn (by decide) hdf hr hY (λw mg fa h KX N hfa=>?_) (λw H a ns hl _ hS=>?_) λw H s e s' z=>?_
 ·obtain⟨T,⟨f,dd⟩,hb⟩:=hG w mg h KX N;have e1:=hfa.symm.trans (hd▸PySem.W.mg_of KX N dd.a);cases e1;obtain⟨oc,od,an,sl,kV,dc,pm,cd,ct,lk,hcd⟩:=dd.l;refine⟨b7 e.x e.x (zm e.st) (dn e.st) (zj e.st) .none kV dc pm an cd ct,λs u=>.of_eq ?_,λbase _ _=>?_⟩
  ·have:=hb kV dc pm an cd ct [u] (by rw[hp];rfl);rw[hp]at this;exact this
  ·have:=T.ok (P:=l.prog) (wl:=w) (base:=base) k e.x fa e.st e.own e.fr _ e.fn (by show (tab.find? (·.x==e.x)).map (·.fn)=_;rw[m_ hnd hm];rfl) hc (n5 (st:=e.st) lk hcd dd.k);rw[hp,hx,hfr]at this;rw[hx];exact this
 ·refine⟨⟨λ_=>false,λ_=>false,[],λ_=>none⟩,[.lst (ns.map D.int)],(λa z=>by rcases z with z|z<;>cases z),.cons (.lst (xs:=ns.map V.int) ?_ (zb.ofInts _)) .nil,?_⟩
  ·have:hid H ⟨λ_=>false,λ_=>false,[],λ_=>none⟩=H:=by funext b;unfold hid;rw[if_neg (by simp)]
   rw[this];exact hS
  ·show tR _ _ _ (qc (prT tab vals cA subs) k "law" [.lst (ns.map D.int)]) _;rw[hlaw ns hl];intro v H' _ r _;cases r;rfl
 ·obtain⟨_,_,_,_,_,_,_,_,_,z⟩:=z;exact z
end EV
namespace KG
open EV
open PySem (Str)
open L2 (atI ixN ltP)
abbrev prD:Int×Int->D:=EV.pairD
theorem zg{w:W}{f:Fn}{ds:List D}{d:D}{τ:Env}(hl:ds.length=f.ps)(hτ:ds.map some++bK (f.N-f.ps) none=τ)(h:qf w f.body τ=.rt d):cC w f ds=.ok d:=by
 rw[cC,if_pos hl,hτ,h]
theorem nB{w:W}{s:S}{r:Ss}{τ σ:Env}{o:O}(h:evS w s τ=.nx σ)(h':qf w r σ=o):qf w (.cons s r) τ=o:=by rw[qf,h];exact h'
theorem fE{w:W}{it:It}{cap:List (Option Nat)}{t:T}{elt:E}{τ c:Env}{ds:List D}{g:D->List D}(h:evI w it τ=.ok ds)(hz:ds.length<=SZ)(hc:dw cap τ=none::none::c)
  (hb:∀x∈ds,((evT w t (none::some x::c)).bind λr=>if r then (evE w elt (none::some x::c)).bind λd=>.ok [d]else .ok [])=.ok (g x)):evE w (.comp it cap (.nm 1) t elt) τ=.ok (.lst (ds.flatMap g)):=by
 have key:∀(l:List D) (v:Option D) (acc:List D),(∀x∈l,x∈ds)->cf (λx σ=>noEx ((store (.nm 1) x σ).bind λσ'=>(evT w t σ').bind λr=>if r then (evE w elt σ').bind λd=>.ok (σ',[d])else .ok (σ',[]))) l (none::v::c) acc=.ok (acc++l.flatMap g):=by
  intro l
  induction l with
  |nil=>intro v acc _;simp[cf]
  |cons x r ih=>
   intro v acc hm;have q:=hb x (hm x aR);rw[cf];have e:noEx ((store (.nm 1) x (none::v::c)).bind λσ'=>(evT w t σ').bind λr=>if r then (evE w elt σ').bind λd=>.ok (σ',[d])else .ok (σ',[]))=.ok (none::some x::c,g x):=by
    simp only[store,R.bind_ok,List.set_cons_succ,List.set_cons_zero];cases ht:evT w t (none::some x::c)with
    |ok b=>
     rw[ht]at q;simp only[R.bind_ok]at q ⊢;cases b
     ·simp at q ⊢;rw[<-q];rfl
     ·simp only[if_true]at q ⊢;cases he:evE w elt (none::some x::c)with
      |ok d=>rw[he]at q;simp only[R.bind_ok,R.ok.injEq]at q ⊢;rw[<-q];rfl
      |ex=>rw[he]at q;cases q
      |no=>rw[he]at q;cases q
    |ex=>rw[ht]at q;cases q
    |no=>rw[ht]at q;cases q
   rw[e];simp only[R.bind_ok];rw[ih (some x) _ λy hy=>hm y (aP _ hy),List.flatMap_cons,List.append_assoc]
 rw[qo,h];simp only[R.bind_ok];rw[if_neg (by lia),hc,key ds none [] λ_ h=>h]
 rfl
theorem ph{w:W}{i:Int}:b9 w (.int i) (.ty "int")=.ok (.bl true):=rfl
theorem pO{w:W}{i:Int}:b9 w (.int i) (.ty "bool")=.ok (.bl false):=rfl
theorem u_{w:W}{i:List D}:b9 w (.tup i) (.ty "tuple")=.ok (.bl true):=rfl
theorem tY{w:W}{i:List D}:b9 w (.tup i) (.ty "bool")=.ok (.bl false)/\b9 w (.tup i) (.ty "int")=.ok (.bl false)/\b9 w (.tup i) (.ty "str")=.ok (.bl false)/\b9 w (.tup i) (.ty "list")=.ok (.bl false):=⟨rfl,rfl,rfl,rfl⟩
theorem uH{w:W}{i:Bool}:b9 w (.bl i) (.ty "bool")=.ok (.bl true):=rfl
theorem yK(i:Int):(D.int i).asks=true:=rfl
theorem wK(t:Int×Int):(prD t).asks=true:=rfl
theorem nU:∀ns:List Int,plainAll (ns.map D.int)=true
 | []=>rfl
 |_::r=>nU r
theorem nX:∀ns:List Int,dj (ns.map D.int)=0
 | []=>rfl
 |_::r=>by show max 0 (dj _)=0;rw[nX r];rfl
theorem nk:∀ns ms:List Int,eqvAll (ns.map D.int) (ms.map D.int)=decide (ns=ms)
 | [],[]=>rfl
 | [],_::_=>rfl
 |_::_,[]=>rfl
 |a::r,b::t=>by
  show (a==b&&eqvAll (r.map D.int) (t.map D.int))=_;rw[nk r t];simp[Bool.decide_and]
  rfl
noncomputable def mn(a b:Int):Int:=if b<a then b else a
noncomputable def mx(a b:Int):Int:=if a<b then b else a
noncomputable def c_(ts:List (Int×Int))(a b:Int):Bool:=ts.any λt=>t.1==mn a b&&t.2==mx a b
theorem vA(ts:List (Int×Int))(u v:Int):qk .isin (.tup [.int u,.int v]) (.tup (ts.map prD))=.ok (ts.any λt=>t.1==u&&t.2==v):=by
 rw[qk];simp only[seq?];rw[if_pos (by simp only[aF,cY,bg];exact⟨rfl,λx ⟨t,_,e⟩=>e▸wK t⟩),inD,List.any_map]
 congr 2;funext t;show ((t.1==u)&&((t.2==v)&&true))=_;rw[Bool.and_true]
theorem jz(ns:List Int)(a:Int):qk .isin (.int a) (.tup (ns.map D.int))=.ok (ns.any λt=>t==a):=by
 rw[qk];simp only[seq?];rw[if_pos (by simp only[aF,cY,bg];exact⟨rfl,λx ⟨t,_,e⟩=>e▸yK t⟩),inD,List.any_map]
 rfl
structure GW(m:Int)(ts:List (Int×Int)):Prop where
 lo:1<=m
 hi:m<=8
 lt:ts.Pairwise λs t=>ltP s t=true
 ok:∀t∈ts,0<=t.1/\t.1<t.2/\t.2<m
 len:ts.length<=28
structure GS(m:Int)(s:List Int):Prop where
 lt:s.Pairwise (· < ·)
 ok:∀i∈s,0<=i/\i<m
 len:s.length<=8
abbrev wb(m:Int)(ts:List (Int×Int)):D:=.tup [.int m,.tup (ts.map prD)]
abbrev tu(s:List Int):D:=.tup (s.map D.int)
theorem eY{xs:List D}{i:Nat}(h:i<xs.length):atI xs (i:Int)=some xs[i]:=by
 rw[atI,ixN,if_pos (by lia),if_pos (by lia)];simp[h]
theorem all_true(xs:List D):bools? (xs.flatMap λ_=>[.bl true])=some (bK xs.length true):=by
 induction xs with
 |nil=>rfl
 |cons x r ih=>show (bools? (r.flatMap λ_=>[.bl true])).map (true :: ·)=_;rw[ih];rfl
theorem vS(n:Nat):(bK n true).all id=true:=by simp
theorem uQ{s t:Int×Int}(h:ltP s t=true):qk .lt (prD s) (prD t)=.ok true:=by
 show R.ok (cN [s.1,s.2] [t.1,t.2])=_;rw[ltP]at h;simp only[cN];by_cases e:s.1=t.1
 ·rw[if_pos e]at h ⊢;by_cases e2:s.2=t.2
  ·rw[e2]at h;simp at h
  ·rw[if_neg e2,h]
 ·rw[if_neg e]at h ⊢;rw[h]
noncomputable def rng(m:Int):List Int:=(a9 m.toNat).map λ(i:Nat)=>(i:Int)
theorem fk(m:Int):zZ 0 m.toNat=(rng m).map D.int:=by
 rw[zZ,rng,bE];simp
theorem oZ(m:Int):(rng m).length=m.toNat:=by simp[rng]
theorem fo{m i:Int}:i∈rng m↔0<=i/\i<m:=by
 simp only[rng,bg,List.mem_range];constructor
 ·rintro⟨a,h,rfl⟩;lia
 ·intro h;exact⟨i.toNat,by lia,by lia⟩
theorem Ay(m:Int):(rng m).Pairwise (· < ·):=by
 rw[rng,List.pairwise_map];exact List.pairwise_lt_range.imp λh=>by lia
theorem nQ(c:Int->Bool)(ns:List Int):(ns.map D.int).flatMap (λx=>match x with | .int i=>if c i then [D.int i]else []|_=>[])=(ns.filter c).map D.int:=by
 induction ns with
 |nil=>rfl
 |cons a r ih=>
  rw[aU,List.flatMap_cons,ih,List.filter_cons];show (if c a=true then [D.int a]else [])++_=_;cases c a<;>rfl
theorem yI(x y:Int)(h:0<y)(h':y<=2^64):small (x%y)=true:=by
 have a:=Int.emod_nonneg x (show y≠0 by lia);have b:=Int.emod_lt_of_pos x h;simp only[small,aF,decide_eq_true_eq];lia
noncomputable def st(c j:Int):Int:=
 ((((c%2147483647+977 * j+1) * 48271%2147483647) * ((c%2147483647+977 * j+1) * 48271%2147483647)%2147483629+40692 * (j+3)) * 69621%2147483647)/8
theorem GW.sub{m:Int}{ts ps:List (Int×Int)}(h:GW m ps)(s:ts.Sublist ps):GW m ts:=
 ⟨h.lo,h.hi,h.lt.sublist s,λt ht=>h.ok t (s.subset ht),bp s.length_le h.len⟩
theorem eq_int(a b:Int):qk .eq (.int a) (.int b)=.ok (decide (a=b)):=by
 show R.ok (a==b)=_;congr 1
theorem lt_int(a b:Int):qk .lt (.int a) (.int b)=.ok (decide (a<b)):=rfl
theorem ints_map(ns:List Int):ints? (ns.map D.int)=some ns:=by
 induction ns with
 |nil=>rfl
 |cons a r ih=>show (ints? (r.map D.int)).map (a :: ·)=_;rw[ih];rfl
noncomputable instance (m:Int) (ts:List (Int×Int)):Decidable (GW m ts):=
 decidable_of_iff (1<=m/\m<=8/\ts.Pairwise (λs t=>ltP s t=true)/\(∀t∈ts,0<=t.1/\t.1<t.2/\t.2<m)/\ts.length<=28) ⟨λ⟨a,b,c,d,e⟩=>⟨a,b,c,d,e⟩,λ⟨a,b,c,d,e⟩=>⟨a,b,c,d,e⟩⟩
noncomputable def Ends(J:Env->Prop)(Q:D->Prop):O->Prop
 | .nx σ=>J σ
 | .rt d=>Q d
 |_=>False
section
variable{w:W}{J K:Env->Prop}{Q:D->Prop}{s:S}{r:Ss}{τ σ:Env}
theorem zT(h:J τ):Ends J Q (qf w .nil τ):=by rw[qf];exact h
theorem zx(h:evS w s τ=.nx σ)(h':Ends J Q (qf w r σ)):Ends J Q (qf w (.cons s r) τ):=by rw[qf,h];exact h'
theorem dz(h:Ends K Q (evS w s τ))(h':∀σ,K σ->Ends J Q (qf w r σ)):Ends J Q (qf w (.cons s r) τ):=by
 rw[qf];cases q:evS w s τ with
 |nx σ=>rw[q]at h;exact h' σ h
 |rt d=>rw[q]at h;exact h
 |_=>rw[q]at h;exact h.elim
theorem hJ{e:E}{d:D}(h:evE w e τ=.ok d)(hq:Q d):Ends J Q (qf w (.cons (.ret e) r) τ):=by
 rw[qf,zt,h];exact hq
theorem gP{t:T}{a b:Ss}{v:Bool}(h:evT w t τ=.ok v)(h1:v=true->Ends J Q (qf w a τ))(h2:v=false->Ends J Q (qf w b τ)):Ends J Q (evS w (.ite t a b) τ):=by
 rw[zM,h];cases v
 ·exact h2 rfl
 ·exact h1 rfl
theorem eu{tg:Tg}{it:It}{b:Ss}{ds:List D}(I:List D->Env->Prop)(h:evI w it τ=.ok ds)(h0:I ds τ)(hs:∀x t σ,I (x::t) σ->∃σ1,store tg x σ=.ok σ1/\Ends (I t) Q (qf w b σ1))(hn:∀σ,I [] σ->Ends J Q (qf w r σ)):Ends J Q (qf w (.cons (.for tg it b) r) τ):=by
 have key:∀(l:List D) (σ:Env),I l σ->Ends (I []) Q (de tg (λσ=>qf w b σ) l σ):=by
  intro l
  induction l with
  |nil=>intro σ q;exact q
  |cons x t ih=>
   intro σ q;obtain⟨σ1,a,b'⟩:=hs x t σ q;rw[de,a];simp only[R.out_ok];cases z:qf w b σ1 with
   |nx σ2=>rw[z]at b';exact ih σ2 b'
   |rt d=>rw[z]at b';exact b'
   |_=>rw[z]at b';exact b'.elim
 have hk:=key ds τ h0;refine dz (K:=I []) ?_ hn;rw[zX,h];simp only[R.out_ok];cases z:de tg (λσ=>qf w b σ) ds τ with
 |nx σ2=>rw[z]at hk;exact hk
 |rt d=>rw[z]at hk;exact hk
 |_=>rw[z]at hk;exact hk.elim
end
theorem Bk{J J':Env->Prop}{Q:D->Prop}{o:O}(h:Ends J Q o)(hj:∀σ,J σ->J' σ):Ends J' Q o:=by
 cases o with
 |nx σ=>exact hj σ h
 |rt d=>exact h
 |_=>exact h.elim
noncomputable def fD(m:Int):List Int:=(a9 (m-1).toNat).map λ(i:Nat)=>1+(i:Int)
noncomputable def jb(b:Int):List (Int×Int):=(rng b).map λa=>(a,b)
noncomputable def eh(m:Int):List (Int×Int):=(fD m).flatMap jb
structure Pok(n:Int):Prop where
 nd:(eh n).Nodup
 ok:∀t∈eh n,0<=t.1/\t.1<t.2/\t.2<n
 len:(eh n).length<=28
theorem pok(n:Int)(h1:1<=n)(h2:n<=8):Pok n:=by
 have:n=1\/n=2\/n=3\/n=4\/n=5\/n=6\/n=7\/n=8:=by lia
 rcases this with rfl|rfl|rfl|rfl|rfl|rfl|rfl|rfl<;>exact⟨by decide +kernel,by decide +kernel,by decide +kernel⟩
theorem xS{s t:Int×Int}(h:ltP t s=false)(hn:s≠t):ltP s t=true:=by
 simp only[ltP]at h ⊢;by_cases e:s.1=t.1
 ·rw[if_pos e.symm]at h;rw[if_pos e];have:s.2≠t.2:=λz=>hn (Prod.ext e z)
  simp at h ⊢;lia
 ·rw[if_neg (λz=>e z.symm)]at h;rw[if_neg e];simp at h ⊢;lia
theorem vO{l:List (Int×Int)}(h:l.Pairwise λa b=>ltP b a=false)(hn:l.Nodup):l.Pairwise λs t=>ltP s t=true:=
 List.Pairwise.imp₂ (λa b h1 h2=>xS h1 h2) h hn
theorem A0{n:Int}(h1:1<=n)(h2:n<=8){ts:List (Int×Int)}(s:ts.Sublist (eh n)):GW n (b_ ts):=by
 have P:=pok n h1 h2;have pm:=ju ts;exact⟨by lia,by lia,vO (lU ts) (pm.nodup_iff.mpr (P.nd.sublist s)),λt ht=>P.ok t (s.subset (pm.mem_iff.mp ht)),by rw[pm.length_eq];exact bp s.length_le P.len⟩
theorem kQ:∀ts:List (Int×Int),pairs? (ts.map prD)=some ts
 | []=>rfl
 |t::r=>by show (pairs? (r.map prD)).map (t :: ·)=_;rw[kQ r];rfl
theorem n8(xs:List D):b1 .sorted [.lst xs]=(if xs.length<64 then (match ints? xs with
  |some ns=>.ok (.lst ((sortI ns).map D.int))
  |none=>match pairs? xs with
   |some ps=>.ok (.lst ((b_ ps).map pairD))
   |none=>cj xs)else cj xs):=rfl
theorem A6(ts:List (Int×Int))(h:ts.length<64):b1 .sorted [.lst (ts.map prD)]=.ok (.lst ((b_ ts).map prD)):=by
 rw[n8,if_pos (by simpa using h)];cases ts with
 |nil=>rfl
 |cons t r=>
  have e:ints? ((t::r).map prD)=none:=rfl;rw[e];simp only;rw[kQ]
noncomputable def hd(m:Int)(ts:List (Int×Int))(a:Int):List Int:=(rng m).filter λb=>b==a||c_ ts a b
noncomputable def mk(m:Int)(ts:List (Int×Int))(s:List Int)(a:Int):List Int:=s.filter λx=>(hd m ts a).any λt=>t==x
end KG
noncomputable def KG.Z:=aq @EV.qf.eq_1 (aq @EV.qf.eq_2 (aq @EV.zO (aq @EV.zS (aq @EV.zV (aq @EV.zt (aq @EV.zW (aq @EV.zM (aq @EV.zy (aq @EV.qU (aq @EV.qW (aq @EV.qY (aq @EV.zc (aq @EV.ze (aq @EV.qV (aq @EV.za (aq @EV.qm (aq @EV.qx (aq @EV.qB (aq @EV.qu (aq @EV.qt (aq @EV.qA (aq @EV.qr (aq @EV.ql (aq @EV.qw (aq @EV.qy (aq @EV.qi (aq @EV.qz (aq @EV.qq (aq @EV.zi.eq_1 (aq @EV.zi.eq_2 (aq @EV.ez (aq @EV.eA (aq @EV.eG (aq @EV.eE (aq @EV.eF (aq @EV.eD (aq @EV.eK (aq @EV.evI.eq_1 (aq @EV.evI.eq_2 (aq @EV.evI.eq_3 (aq @EV.evI.eq_4 (aq @EV.evI.eq_5 (aq @EV.evI.eq_6 (aq @EV.evI.eq_7 (aq @EV.evO.eq_1 (aq @EV.evO.eq_2 (aq @EV.opI.eq_1 (aq @EV.opI.eq_2 (aq @EV.opI.eq_3 (aq @EV.opI.eq_4 (aq @EV.opI.eq_5 (aq @EV.opI.eq_6 (aq @EV.opI.eq_7 (aq @EV.opI.eq_8 (aq @EV.opI.eq_9 (aq @EV.opI.eq_10 (aq @EV.opI.eq_11 (aq @EV.b11.eq_1 (aq @EV.b11.eq_2 (aq @EV.b11.eq_3 (aq @EV.b11.eq_4 (aq @EV.b11.eq_5 (aq @EV.b11.eq_6 (aq @EV.b11.eq_7 (aq @EV.b11.eq_8 (aq @EV.b11.eq_9 (aq @EV.b11.eq_10 (aq @EV.b11.eq_11 (aq @EV.b11.eq_12 (aq @EV.b11.eq_13 (aq @EV.b11.eq_14 (aq @EV.b12.eq_1 (aq @EV.b12.eq_2 (aq @EV.b12.eq_3 (aq @EV.cG.eq_1 (aq @EV.cG.eq_2 (aq @EV.dD.eq_1 (aq @EV.dD.eq_2 (aq @EV.iiR.eq_1 (aq @EV.iiR.eq_2 (aq @EV.bO.eq_1 (aq @EV.store.eq_1 (aq @EV.store.eq_2 (aq @EV.store.eq_3 (aq @EV.setAll.eq_1 (aq @EV.setAll.eq_2 (aq @EV.setAll.eq_3 (aq @EV.truth.eq_1 (aq @EV.truth.eq_2 (aq @EV.truth.eq_3 (aq @EV.truth.eq_4 (aq @EV.truth.eq_5 (aq @EV.truth.eq_6 (aq @KG.ph (aq @KG.pO (aq @KG.u_ (aq @KG.tY (@KG.uH))))))))))))))))))))))))))))))))))))))))))))))))))))))))))))))))))))))))))))))))))))))))))))))))))
namespace KG
open EV
open PySem (Str)
open L2 (atI ixN ltP)
noncomputable def iK:Fn:=⟨1,1,false,(.cons (.ret (.and (.isi (.var 0) (.ty "int")) (.not (.isi (.var 0) (.ty "bool"))))) .nil)⟩
noncomputable def dU:Fn:=⟨3,3,false,(.cons (.ret (.and (.call "is_whole" (.cons (.var 0) .nil)) (.cmp2 .le .le (.var 1) (.var 0) (.var 2)))) .nil)⟩
noncomputable def gK:Fn:=⟨1,1,false,(.cons (.ret (.and (.isi (.var 0) (.ty "tuple")) (.cmp .eq (.bi .len (.cons (.var 0) .nil)) (.con (.int 2))))) .nil)⟩
noncomputable def gX:Fn:=⟨1,1,false,(.cons (.ret (.bi .all (.cons (.comp (.rng (.op .sub (.bi .len (.cons (.var 0) .nil)) (.con (.int 1)))) [none,none,some 0] (.nm 1) .yes (.cmp .lt (.ix (.var 2) (.var 1)) (.ix (.var 2) (.op .add (.var 1) (.con (.int 1)))))) .nil))) .nil)⟩
noncomputable def ij:Fn:=⟨1,3,false,(.cons (.ite (.not (.val (.call "is_pair" (.cons (.var 0) .nil)))) (.cons (.ret (.con (.bl false))) .nil) .nil) (.cons (.set (.tp [1,2]) (.var 0)) (.cons (.ite (.or (.not (.val (.call "is_between" (.cons (.var 1) (.cons (.con (.int 1)) (.cons (.glb "MOST") .nil)))))) (.not (.val (.isi (.var 2) (.ty "tuple"))))) (.cons (.ret (.con (.bl false))) .nil) .nil) (.cons (.ret (.and (.bi .all (.cons (.comp (.seq (.var 2)) [none,none,some 1] (.nm 1) .yes (.call "is_tie" (.cons (.var 1) (.cons (.var 2) .nil)))) .nil)) (.call "rises" (.cons (.var 2) .nil)))) .nil))))⟩
noncomputable def f_:Fn:=⟨2,4,false,(.cons (.ite (.not (.val (.call "is_pair" (.cons (.var 0) .nil)))) (.cons (.ret (.con (.bl false))) .nil) .nil) (.cons (.set (.tp [2,3]) (.var 0)) (.cons (.ret (.and (.call "is_whole" (.cons (.var 2) .nil)) (.and (.call "is_whole" (.cons (.var 3) .nil)) (.cmp3 .le .lt .lt (.con (.int 0)) (.var 2) (.var 3) (.var 1))))) .nil)))⟩
noncomputable def hU:Fn:=⟨1,1,false,(.cons (.ite (.not (.val (.call "is_web" (.cons (.var 0) .nil)))) (.cons (.raise "NoWeb" (.cons (.con (.str "a web is due")) .nil)) .nil) .nil) .nil)⟩
noncomputable def ny:Fn:=⟨1,1,false,(.cons (.exp (.call "need_web" (.cons (.var 0) .nil))) (.cons (.ret (.bi .tuple (.cons (.comp (.rng (.ix (.var 0) (.con (.int 0)))) [none,none,some 0] (.nm 1) .yes (.call "hood_of" (.cons (.var 2) (.cons (.var 1) .nil)))) .nil))) .nil))⟩
noncomputable def eI:Fn:=⟨2,4,false,(.cons (.set (.tp [2,3]) (.var 0)) (.cons (.ret (.bi .tuple (.cons (.comp (.rng (.var 2)) [none,none,some 1,some 3] (.nm 1) (.or (.cmp .eq (.var 1) (.var 2)) (.val (.call "are_tied" (.cons (.var 3) (.cons (.var 2) (.cons (.var 1) .nil)))))) (.var 1)) .nil))) .nil))⟩
noncomputable def dQ:Fn:=⟨3,3,false,(.cons (.ret (.cmp .isin (.tup (.cons (.bi .min (.cons (.var 1) (.cons (.var 2) .nil))) (.cons (.bi .max (.cons (.var 1) (.cons (.var 2) .nil))) .nil))) (.var 0))) .nil)⟩
noncomputable def h9:Fn:=⟨2,2,false,(.cons (.ret (.bi .tuple (.cons (.comp (.seq (.var 1)) [none,none,some 0] (.nm 1) (.cmp .isin (.var 1) (.var 2)) (.var 1)) .nil))) .nil)⟩
noncomputable def Bi:Fn:=⟨2,2,false,(.cons (.ret (.comp (.seq (.var 0)) [none,none,some 1] (.nm 1) .yes (.call "mark_of" (.cons (.var 1) (.cons (.var 2) .nil))))) .nil)⟩
noncomputable def wF:Fn:=⟨1,3,false,(.cons (.set (.nm 1) (.lst (.cons (.tup .nil) .nil))) (.cons (.for (.nm 2) (.rng (.ix (.var 0) (.con (.int 0)))) (.cons (.set (.nm 1) (.op .add (.var 1) (.comp (.seq (.var 1)) [none,none,some 2] (.nm 1) .yes (.op .add (.var 1) (.tup (.cons (.var 2) .nil)))))) .nil)) (.cons (.ret (.bi .sorted (.cons (.var 1) .nil))) .nil)))⟩
noncomputable def zU:Fn:=⟨2,2,false,(.cons (.ite (.cmp .lt (.var 1) (.bi .len (.cons (.var 0) .nil))) (.cons (.ret (.ix (.var 0) (.var 1))) .nil) .nil) (.cons (.ret (.con (.int 0))) .nil))⟩
noncomputable def eB:Fn:=⟨2,3,false,(.cons (.set (.nm 2) (.op .mod (.op .mul (.op .add (.op .add (.op .mod (.var 0) (.con (.int 2147483647))) (.op .mul (.con (.int 977)) (.var 1))) (.con (.int 1))) (.con (.int 48271))) (.con (.int 2147483647)))) (.cons (.set (.nm 2) (.op .mod (.op .mul (.var 2) (.var 2)) (.con (.int 2147483629)))) (.cons (.set (.nm 2) (.op .mod (.op .mul (.op .add (.var 2) (.op .mul (.con (.int 40692)) (.op .add (.var 1) (.con (.int 3))))) (.con (.int 69621))) (.con (.int 2147483647)))) (.cons (.ret (.op .fdiv (.var 2) (.con (.int 8)))) .nil))))⟩
noncomputable def wJ:Fn:=⟨1,1,false,(.cons (.ret (.and (.isi (.var 0) (.ty "int")) (.not (.isi (.var 0) (.ty "bool"))))) .nil)⟩
noncomputable def gL:Fn:=⟨2,10,false,(.cons (.set (.nm 2) (.op .add (.con (.int 1)) (.op .mod (.var 0) (.var 1)))) (.cons (.set (.nm 3) (.op .fdiv (.var 0) (.var 1))) (.cons (.set (.nm 4) (.op .mod (.var 3) (.con (.int 6)))) (.cons (.set (.nm 5) (.lst .nil)) (.cons (.for (.nm 6) (.rng2 (.con (.int 1)) (.var 2)) (.cons (.for (.nm 7) (.rng (.var 6)) (.cons (.set (.nm 8) (.op .band (.op .shr (.op .fdiv (.var 3) (.con (.int 6))) (.op .add (.op .fdiv (.op .mul (.var 6) (.op .sub (.var 6) (.con (.int 1)))) (.con (.int 2))) (.var 7))) (.con (.int 1)))) (.cons (.ite (.cmp .eq (.var 4) (.con (.int 3))) (.cons (.set (.nm 8) (.op .fdiv (.op .mod (.call "_law_stir" (.cons (.var 0) (.cons (.op .add (.op .mul (.con (.int 8)) (.var 7)) (.var 6)) .nil))) (.con (.int 3))) (.con (.int 2)))) .nil) .nil) (.cons (.ite (.cmp .eq (.var 4) (.con (.int 4))) (.cons (.set (.nm 8) (.op .fdiv (.op .add (.op .mod (.call "_law_stir" (.cons (.var 0) (.cons (.op .add (.op .mul (.con (.int 8)) (.var 7)) (.var 6)) .nil))) (.con (.int 4))) (.con (.int 2))) (.con (.int 3)))) .nil) .nil) (.cons (.ite (.cmp .eq (.var 4) (.con (.int 5))) (.cons (.set (.nm 9) (.lst (.cons (.cmp .eq (.var 6) (.op .add (.var 7) (.con (.int 1)))) (.cons (.or (.cmp .eq (.var 6) (.op .add (.var 7) (.con (.int 1)))) (.cmp .eq (.op .sub (.var 6) (.var 7)) (.op .sub (.var 2) (.con (.int 1))))) (.cons (.cmp .eq (.var 7) (.con (.int 0))) (.cons (.con (.bl true)) (.cons (.and (.cmp .eq (.var 6) (.op .add (.var 7) (.con (.int 1)))) (.cmp .lt (.op .mod (.var 7) (.con (.int 3))) (.con (.int 2)))) .nil))))))) (.cons (.set (.nm 8) (.bi .int (.cons (.ix (.var 9) (.op .mod (.op .fdiv (.var 3) (.con (.int 6))) (.con (.int 5)))) .nil))) .nil)) .nil) (.cons (.ite (.cmp .eq (.var 8) (.con (.int 1))) (.cons (.app 5 (.tup (.cons (.var 7) (.cons (.var 6) .nil)))) .nil) .nil) .nil)))))) .nil)) (.cons (.ret (.tup (.cons (.var 2) (.cons (.bi .tuple (.cons (.bi .sorted (.cons (.own 5) .nil)) .nil)) .nil)))) .nil))))))⟩
noncomputable def eW:Fn:=⟨1,4,false,(.cons (.set (.nm 1) (.comp (.rng (.ix (.var 0) (.con (.int 0)))) [none,none] (.nm 1) .yes (.op .shl (.con (.int 1)) (.var 1)))) (.cons (.for (.tp [2,3]) (.seq (.ix (.var 0) (.con (.int 1)))) (.cons (.seti 1 (.var 2) (.op .bor (.ix (.own 1) (.var 2)) (.op .shl (.con (.int 1)) (.var 3)))) (.cons (.seti 1 (.var 3) (.op .bor (.ix (.own 1) (.var 3)) (.op .shl (.con (.int 1)) (.var 2)))) .nil))) (.cons (.ret (.own 1)) .nil)))⟩
noncomputable def fg:Fn:=⟨2,2,false,(.cons (.ret (.bi .tuple (.cons (.comp (.rng (.var 0)) [none,none,some 1] (.nm 1) (.cmp .eq (.op .band (.op .shr (.var 2) (.var 1)) (.con (.int 1))) (.con (.int 1))) (.var 1)) .nil))) .nil)⟩
noncomputable def eQ:Fn:=⟨2,2,false,(.cons (.ret (.call "is_between" (.cons (.var 1) (.cons (.con (.int 0)) (.cons (.op .sub (.ix (.var 0) (.con (.int 0))) (.con (.int 1))) .nil))))) .nil)⟩
noncomputable def fi:Fn:=⟨2,2,false,(.cons (.ite (.not (.val (.isi (.var 1) (.ty "tuple")))) (.cons (.ret (.con (.bl false))) .nil) .nil) (.cons (.ret (.and (.bi .all (.cons (.comp (.seq (.var 1)) [none,none,some 0] (.nm 1) .yes (.call "is_place" (.cons (.var 2) (.cons (.var 1) .nil)))) .nil)) (.call "rises" (.cons (.var 1) .nil)))) .nil))⟩
noncomputable def fL:Fn:=⟨2,2,false,(.cons (.ite (.not (.val (.call "is_some" (.cons (.var 0) (.cons (.var 1) .nil))))) (.cons (.raise "NoPlaces" (.cons (.con (.str "a rising tuple of places of the web is due")) .nil)) .nil) .nil) .nil)⟩
structure Web(p:Pr):Prop where
 is_whole:p.fns "is_whole" = some iK
 is_between:p.fns "is_between" = some dU
 is_pair:p.fns "is_pair" = some gK
 rises:p.fns "rises" = some gX
 is_web:p.fns "is_web" = some ij
 is_tie:p.fns "is_tie" = some f_
 need_web:p.fns "need_web" = some hU
 MOST:p.glb "MOST" = some (.int 8)
structure Base(p:Pr):Prop extends Web p where
 all_some:p.fns "all_some" = some wF
 _law_cell_at:p.fns "_law_cell_at" = some zU
 _law_stir:p.fns "_law_stir" = some eB
 _law_web:p.fns "_law_web" = some gL
 _law_some:p.fns "_law_some" = some fg
structure fq(p:Pr):Prop where
 _law_cell_at:p.fns "_law_cell_at" = some zU
 _law_stir:p.fns "_law_stir" = some eB
 _law_web:p.fns "_law_web" = some gL
theorem Base.draw{p:Pr}(B:Base p):fq p:=⟨B._law_cell_at,B._law_stir,B._law_web⟩
structure Hds(p:Pr):Prop where
 hoods:p.fns "hoods" = some ny
 hood_of:p.fns "hood_of" = some eI
 are_tied:p.fns "are_tied" = some dQ
structure Nbr(p:Pr):Prop where
 hoods:p.fns "hoods" = some ny
 hood_of:p.fns "hood_of" = some eI
 are_tied:p.fns "are_tied" = some dQ
 mark_of:p.fns "mark_of" = some h9
 marks_of:p.fns "marks_of" = some Bi
structure tD(p:Pr):Prop extends Nbr p where
 _law_masks:p.fns "_law_masks" = some eW
noncomputable instance {p:Pr}:CoeOut (Base p) (Web p):=⟨λb=>b.toWeb⟩
theorem Nbr.hds{p:Pr}(O:Nbr p):Hds p:=⟨O.hoods,O.hood_of,O.are_tied⟩
noncomputable instance {p:Pr}:CoeOut (Base p) (fq p):=⟨λb=>b.draw⟩
noncomputable instance {p:Pr}:CoeOut (Nbr p) (Hds p):=⟨λb=>b.hds⟩
noncomputable instance {p:Pr}:CoeOut (tD p) (Nbr p):=⟨λb=>b.toNbr⟩
structure fm(p:Pr):Prop where
 is_place:p.fns "is_place" = some eQ
 is_some:p.fns "is_some" = some fi
structure fU(p:Pr):Prop where
 is_place:p.fns "is_place" = some eQ
 is_some:p.fns "is_some" = some fi
 need_some:p.fns "need_some" = some fL
theorem fU.a{p:Pr}(b:fU p):fm p:=⟨b.is_place,b.is_some⟩
noncomputable instance {p:Pr}:CoeOut (fU p) (fm p):=⟨λb=>b.a⟩
section
variable{p:Pr}
theorem qh{k:Nat}{x:Str}{f:Fn}{ds:List D}(h:p.fns x=some f):qc p (k+1) x ds=cC ⟨qc p k,p.glb,p.sub,p.cat⟩ f ds:=by
 rw[qc,h]
theorem iw{k:Nat}{x:Str}{f:Fn}{ds:List D}{τ:Env}{Q:D->Prop}(hf:p.fns x=some f)(hl:ds.length=f.ps)(hτ:ds.map some++bK (f.N-f.ps) none=τ)(h:Ends (λ_=>False) Q (qf (wAt p k) f.body τ)):∃d,qc p (k+1) x ds=.ok d/\Q d:=by
 rw[qh hf,cC,if_pos hl,hτ];cases z:qf ⟨qc p k,p.glb,p.sub,p.cat⟩ f.body τ with
 |rt d=>rw[z]at h;exact⟨d,rfl,h⟩
 |nx _=>rw[z]at h;exact h.elim
 |_=>rw[z]at h;exact h.elim
section
variable(B:Web p)
include B
theorem is_whole{k:Nat}(i:Int):qc p (k+1) "is_whole" [.int i]=.ok (.bl true):=by rw[qh B.is_whole];rfl
theorem is_between{k:Nat}(i a b:Int)(h:a<=i/\i<=b):qc p (k+2) "is_between" [.int i,.int a,.int b]=.ok (.bl true):=by
 rw[qh B.is_between];refine zg rfl rfl ?_;simp[KG.Z,dU,is_whole B,qk,iV,h.1,h.2]
theorem is_pair{k:Nat}(a b:D):qc p (k+1) "is_pair" [.tup [a,b]]=.ok (.bl true):=by
 rw[qh B.is_pair];refine zg rfl rfl ?_;simp[KG.Z,gK,b1,seq?,qk,D.asks,D.plain,D.deep,D.eqv]
theorem is_tie{k:Nat}(a b m:Int)(h:0<=a/\a<b/\b<m):qc p (k+2) "is_tie" [.tup [.int a,.int b],.int m]=.ok (.bl true):=by
 rw[qh B.is_tie];refine zg rfl rfl ?_;simp[KG.Z,f_,is_pair B,is_whole B,qk,iV,h.1,h.2.1,h.2.2]
theorem rises{k:Nat}(xs:List D)(hz:xs.length<=28)(h:∀(i:Nat) (q:i+1<xs.length),qk .lt xs[i] xs[i+1]=.ok true):qc p (k+1) "rises" [.tup xs]=.ok (.bl true):=by
 rw[qh B.rises];refine zg rfl rfl ?_;have hr:qZ ((xs.length:Int)-1)=true:=by simp[qZ];lia
 have hc:evE ⟨qc p k,p.glb,p.sub,p.cat⟩ (.comp (.rng (.op .sub (.bi .len (.cons (.var 0) .nil)) (.con (.int 1)))) [none,none,some 0] (.nm 1) .yes (.cmp .lt (.ix (.var 2) (.var 1)) (.ix (.var 2) (.op .add (.var 1) (.con (.int 1)))))) [some (.tup xs)]=.ok (.lst ((zZ 0 ((xs.length:Int)-1).toNat).flatMap λ_=>[.bl true])):=by
  refine fE (c:=[some (.tup xs)]) ?_ ?_ rfl ?_
  ·simp[KG.Z,b1,seq?,op2,hr]
  ·simp[zZ,SZ];lia
  ·intro x hx;simp only[zZ,bg,List.mem_range]at hx;obtain⟨i,hi,rfl⟩:=hx;have e1:atI xs ((0:Int)+(i:Int))=some xs[i]:=by rw[Int.zero_add];exact eY (by lia)
   have e2:atI xs ((0:Int)+(i:Int)+1)=some xs[i+1]:=by rw[Int.zero_add];exact eY (i:=i+1) (by lia)
   have e3:=h i (by lia);simp only[Int.zero_add]at e1 e2;simp[KG.Z,ixD,op2,e1,e2,e3]
 simp[KG.Z,gX,hc,b1,all_true,vS]
theorem is_web{k:Nat}{m:Int}{ts:List (Int×Int)}(h:GW m ts):qc p (k+3) "is_web" [wb m ts]=.ok (.bl true):=by
 rw[qh B.is_web];refine zg rfl rfl ?_;have hr:=rises B (k:=k+1) (ts.map prD) (by simpa using h.len) (λi q=>by
  rw[cZ,cZ];exact uQ (List.pairwise_iff_getElem.mp h.lt i (i+1) (by simp at q;lia) (by simpa using q) (by lia)))
 have hc:evE ⟨qc p (k+2),p.glb,p.sub,p.cat⟩ (.comp (.seq (.var 2)) [none,none,some 1] (.nm 1) .yes (.call "is_tie" (.cons (.var 1) (.cons (.var 2) .nil)))) [some (wb m ts),some (.int m),some (.tup (ts.map prD))]=.ok (.lst ((ts.map prD).flatMap λ_=>[.bl true])):=by
  refine fE (c:=[some (.int m)]) ?_ ?_ rfl ?_
  ·simp[KG.Z,seq?]
  ·simp[SZ];have:=h.len;lia
  ·intro x hx;rw[bg]at hx;obtain⟨t,ht,rfl⟩:=hx;have e:=is_tie B (k:=k) t.1 t.2 m (h.ok t ht);have e':qc p (k+2) "is_tie" [prD t,.int m]=.ok (.bl true):=e;simp[KG.Z,e']
 simp[KG.Z,ij,is_pair B,is_between B m 1 8 ⟨h.lo,h.hi⟩,B.MOST,hc,b1,all_true,hr]
theorem need_web{k:Nat}{m:Int}{ts:List (Int×Int)}(h:GW m ts):qc p (k+4) "need_web" [wb m ts]=.ok .non:=by
 rw[qh B.need_web];simp only[cC];simp[KG.Z,hU,is_web B h]
end
theorem gH(hf:p.fns "_law_stir" = some eB){k:Nat}(c j:Int):qc p (k+1) "_law_stir" [.int c,.int j]=.ok (.int (st c j)):=by
 have s1:small 977=true:=by decide
 have s2:small 48271=true:=by decide
 have s3:small 40692=true:=by decide
 have s4:small 69621=true:=by decide
 have s5:=yI ((c%2147483647+977 * j+1) * 48271) 2147483647 (by decide) (by decide);rw[qh hf];refine zg rfl rfl ?_;simp[KG.Z,eB,op2,s1,s2,s3,s4,s5,st]
theorem rJ(hf:p.fns "_law_cell_at" = some zU){k:Nat}(ns:List Int):∃x:Int,qc p (k+1) "_law_cell_at" [.lst (ns.map D.int),.int 0]=.ok (.int x):=by
 cases ns with
 |nil=>
  refine⟨0,?_⟩;have e1:b1 .len [.lst []]=.ok (.int 0):=rfl;have e3:qk .lt (.int 0) (.int 0)=.ok false:=rfl;rw[qh hf];refine zg rfl rfl ?_;simp[KG.Z,zU,e1,e3]
 |cons x r=>
  refine⟨x,?_⟩;have e1:b1 .len [.lst ((x::r).map D.int)]=.ok (.int (r.length+1:Nat)):=by
   show R.ok (D.int ((x::r).map D.int).length)=_;simp
  have e2:ixD (.lst ((x::r).map D.int)) (.int 0)=.ok (.int x):=by
   have:=eY (xs:=(x::r).map D.int) (i:=0) (by simp);simp only[ixD];rw[show (0:Int)=((0:Nat):Int)from rfl,this];rfl
  simp only[aU]at e1 e2;have h0:(0:Int)<((r.length+1:Nat):Int):=by lia
  have e3:qk .lt (.int 0) (.int ((r.length+1:Nat):Int))=.ok true:=by rw[lt_int,decide_eq_true h0]
  generalize ((r.length+1:Nat):Int)=N at *;rw[qh hf];refine zg rfl rfl ?_;simp[KG.Z,zU,e1,e2,e3]
section
variable(B:Base p)
include B
end
section
variable(B:Web p)(S:fm p)
include B S
theorem is_place{k:Nat}(i m:Int)(t:D)(h:0<=i/\i<m):qc p (k+3) "is_place" [.tup [.int m,t],.int i]=.ok (.bl true):=by
 rw[qh S.is_place];refine zg rfl rfl ?_;simp[KG.Z,eQ,ixD,atI,ixN,op2,is_between B i 0 (m-1) (by lia)]
theorem is_some{k:Nat}{m:Int}{t:D}{s:List Int}(h:GS m s):qc p (k+4) "is_some" [.tup [.int m,t],tu s]=.ok (.bl true):=by
 rw[qh S.is_some];refine zg rfl rfl ?_;have hr:=rises B (k:=k+2) (s.map D.int) (by simp;have:=h.len;lia) (λi q=>by
  rw[cZ,cZ];have:=List.pairwise_iff_getElem.mp h.lt i (i+1) (by simp at q;lia) (by simpa using q) (by lia);simp[qk,iV,this])
 have hc:evE ⟨qc p (k+3),p.glb,p.sub,p.cat⟩ (.comp (.seq (.var 1)) [none,none,some 0] (.nm 1) .yes (.call "is_place" (.cons (.var 2) (.cons (.var 1) .nil)))) [some (.tup [.int m,t]),some (tu s)]=.ok (.lst ((s.map D.int).flatMap λ_=>[.bl true])):=by
  refine fE (c:=[some (.tup [.int m,t])]) ?_ ?_ rfl ?_
  ·simp[KG.Z,seq?]
  ·simp[SZ];have:=h.len;lia
  ·intro x hx;rw[bg]at hx;obtain⟨i,hi,rfl⟩:=hx;simp[KG.Z,is_place B S i m t (h.ok i hi)]
 simp[KG.Z,fi,hc,b1,all_true,hr]
omit S in
theorem need_some(S:fU p){k:Nat}{m:Int}{t:D}{s:List Int}(h:GS m s):qc p (k+5) "need_some" [.tup [.int m,t],tu s]=.ok .non:=by
 rw[qh S.need_some];simp only[cC];simp[KG.Z,fL,is_some B S h]
end
theorem lP(hA:p.fns "are_tied" = some dQ){k:Nat}(ts:List (Int×Int))(a b:Int):qc p (k+1) "are_tied" [.tup (ts.map prD),.int a,.int b]=.ok (.bl (c_ ts a b)):=by
 rw[qh hA];refine zg rfl rfl ?_;simp[KG.Z,dQ,b1,vA,c_,mn,mx]
theorem lD(hH:p.fns "hood_of" = some eI)(hA:p.fns "are_tied" = some dQ){k:Nat}{m:Int}{ts:List (Int×Int)}(h:GW m ts)(a:Int):qc p (k+2) "hood_of" [wb m ts,.int a]=.ok (tu (hd m ts a)):=by
 rw[qh hH];refine zg rfl rfl ?_;have h1:=h.lo;have h2:=h.hi;have hc:evE ⟨qc p (k+1),p.glb,p.sub,p.cat⟩ (.comp (.rng (.var 2)) [none,none,some 1,some 3] (.nm 1) (.or (.cmp .eq (.var 1) (.var 2)) (.val (.call "are_tied" (.cons (.var 3) (.cons (.var 2) (.cons (.var 1) .nil)))))) (.var 1)) [some (wb m ts),some (.int a),some (.int m),some (.tup (ts.map prD))]=.ok (.lst ((hd m ts a).map D.int)):=by
  rw[hd,<-nQ,<-fk];refine fE (c:=[some (.int a),some (.tup (ts.map prD))]) ?_ ?_ rfl ?_
  ·have:qZ m=true:=by simp[qZ];lia
   simp[KG.Z,this]
  ·simp[zZ,SZ];lia
  ·intro x hx;rw[fk,bg]at hx;obtain⟨b,hb,rfl⟩:=hx;have e:qk .eq (.int b) (.int a)=.ok (b==a):=rfl;simp[KG.Z,e,lP hA];by_cases q:b=a
   ·simp[q]
   ·simp[q];cases c_ ts a b<;>simp
 simp[KG.Z,eI,hc,b1,seq?]
section
variable(B:Web p)(O:Hds p)
include O
theorem are_tied{k:Nat}(ts:List (Int×Int))(a b:Int):qc p (k+1) "are_tied" [.tup (ts.map prD),.int a,.int b]=.ok (.bl (c_ ts a b)):=lP O.are_tied ts a b
theorem hood_of{k:Nat}{m:Int}{ts:List (Int×Int)}(h:GW m ts)(a:Int):qc p (k+2) "hood_of" [wb m ts,.int a]=.ok (tu (hd m ts a)):=lD O.hood_of O.are_tied h a
include B
end
section
variable(O:Nbr p)
include O
end
end
abbrev L(M c:Int)(m:Int)(ts:List (Int×Int))(b a dr ro:Option D):Env:=[some (.int c),some (.int M),some (.int m),some (.int (c/M)),some (.int (c/M%6)),some (.lst (ts.map prD)),b,a,dr,ro]
noncomputable def j6:S:=(.set (.nm 8) (.op .band (.op .shr (.op .fdiv (.var 3) (.con (.int 6))) (.op .add (.op .fdiv (.op .mul (.var 6) (.op .sub (.var 6) (.con (.int 1)))) (.con (.int 2))) (.var 7))) (.con (.int 1))))
noncomputable def lS:S:=(.ite (.cmp .eq (.var 4) (.con (.int 3))) (.cons (.set (.nm 8) (.op .fdiv (.op .mod (.call "_law_stir" (.cons (.var 0) (.cons (.op .add (.op .mul (.con (.int 8)) (.var 7)) (.var 6)) .nil))) (.con (.int 3))) (.con (.int 2)))) .nil) .nil)
noncomputable def mI:S:=(.ite (.cmp .eq (.var 4) (.con (.int 4))) (.cons (.set (.nm 8) (.op .fdiv (.op .add (.op .mod (.call "_law_stir" (.cons (.var 0) (.cons (.op .add (.op .mul (.con (.int 8)) (.var 7)) (.var 6)) .nil))) (.con (.int 4))) (.con (.int 2))) (.con (.int 3)))) .nil) .nil)
noncomputable def oX:S:=(.ite (.cmp .eq (.var 4) (.con (.int 5))) (.cons (.set (.nm 9) (.lst (.cons (.cmp .eq (.var 6) (.op .add (.var 7) (.con (.int 1)))) (.cons (.or (.cmp .eq (.var 6) (.op .add (.var 7) (.con (.int 1)))) (.cmp .eq (.op .sub (.var 6) (.var 7)) (.op .sub (.var 2) (.con (.int 1))))) (.cons (.cmp .eq (.var 7) (.con (.int 0))) (.cons (.con (.bl true)) (.cons (.and (.cmp .eq (.var 6) (.op .add (.var 7) (.con (.int 1)))) (.cmp .lt (.op .mod (.var 7) (.con (.int 3))) (.con (.int 2)))) .nil))))))) (.cons (.set (.nm 8) (.bi .int (.cons (.ix (.var 9) (.op .mod (.op .fdiv (.var 3) (.con (.int 6))) (.con (.int 5)))) .nil))) .nil)) .nil)
noncomputable def nv:S:=(.ite (.cmp .eq (.var 8) (.con (.int 1))) (.cons (.app 5 (.tup (.cons (.var 7) (.cons (.var 6) .nil)))) .nil) .nil)
noncomputable def win:Ss:=(.cons j6 (.cons lS (.cons mI (.cons oX (.cons nv .nil)))))
abbrev LQ(M c:Int)(n:Int)(ts:List (Int×Int))(b a:Int):Env->Prop:=λσ=>∃(i:Int) (v4:Option D),σ=L M c n ts (some (.int b)) (some (.int a)) (some (.int i)) v4
section
variable{p:Pr}{k:Nat}{M c:Int}{n:Int}{ts:List (Int×Int)}{a b:Int}{i:Int}{v3 v4:Option D}{Q:D->Prop}
theorem w0(ha:0<=a)(hb0:0<=b)(hb:b<8):Ends (LQ M c n ts b a) Q (evS (wAt p (k+1)) j6 (L M c n ts (some (.int b)) (some (.int a)) v3 v4)):=by
 have hbs:small b=true:=by simp[small];lia
 have hsh:0<=b * (b-1)/2+a:=by
  have:0<=b * (b-1):=by
   by_cases q:b=0
   ·rw[q];decide
   ·exact Int.mul_nonneg (by lia) (by lia)
  lia
 rw[j6];simp[KG.Z,op2,hbs,hsh];exact⟨_,_,rfl⟩
theorem w1(B:fq p):Ends (LQ M c n ts b a) Q (evS (wAt p (k+1)) lS (L M c n ts (some (.int b)) (some (.int a)) (some (.int i)) v4)):=by
 have s8:small 8=true:=by decide
 refine gP (v:=decide (c/M%6=3)) (by simp[KG.Z,eq_int]) (λ_=>dz (K:=LQ M c n ts b a) ?_ λ_ h=>zT h) λ_=>zT ⟨_,_,rfl⟩
 simp[KG.Z,op2,s8,gH B._law_stir];exact⟨_,_,rfl⟩
theorem w2(B:fq p):Ends (LQ M c n ts b a) Q (evS (wAt p (k+1)) mI (L M c n ts (some (.int b)) (some (.int a)) (some (.int i)) v4)):=by
 have s8:small 8=true:=by decide
 refine gP (v:=decide (c/M%6=4)) (by simp[KG.Z,eq_int]) (λ_=>dz (K:=LQ M c n ts b a) ?_ λ_ h=>zT h) λ_=>zT ⟨_,_,rfl⟩
 simp[KG.Z,op2,s8,gH B._law_stir];exact⟨_,_,rfl⟩
theorem w3:Ends (LQ M c n ts b a) Q (evS (wAt p (k+1)) oX (L M c n ts (some (.int b)) (some (.int a)) (some (.int i)) v4)):=by
 have hrow:∃b1 b2 b3 b5:Bool,evE (wAt p (k+1)) (.lst (.cons (.cmp .eq (.var 6) (.op .add (.var 7) (.con (.int 1)))) (.cons (.or (.cmp .eq (.var 6) (.op .add (.var 7) (.con (.int 1)))) (.cmp .eq (.op .sub (.var 6) (.var 7)) (.op .sub (.var 2) (.con (.int 1))))) (.cons (.cmp .eq (.var 7) (.con (.int 0))) (.cons (.con (.bl true)) (.cons (.and (.cmp .eq (.var 6) (.op .add (.var 7) (.con (.int 1)))) (.cmp .lt (.op .mod (.var 7) (.con (.int 3))) (.con (.int 2)))) .nil)))))) (L M c n ts (some (.int b)) (some (.int a)) (some (.int i)) v4)=.ok (.lst [.bl b1,.bl b2,.bl b3,.bl true,.bl b5]):=by
  by_cases q1:b=a+1
  ·exact⟨true,true,decide (a=0),decide (a%3<2),by simp[KG.Z,op2,eq_int,lt_int,q1]⟩
  ·exact⟨false,decide (b-a=n-1),decide (a=0),false,by simp[KG.Z,op2,eq_int,lt_int,q1]⟩
 obtain⟨b1,b2,b3,b5,hrow⟩:=hrow;have hix:∃z:Bool,ixD (.lst [.bl b1,.bl b2,.bl b3,.bl true,.bl b5]) (.int (c/M/6%5))=.ok (.bl z):=by
  have:c/M/6%5=0\/c/M/6%5=1\/c/M/6%5=2\/c/M/6%5=3\/c/M/6%5=4:=by lia
  rcases this with h|h|h|h|h<;>rw[h]
  ·exact⟨b1,rfl⟩
  ·exact⟨b2,rfl⟩
  ·exact⟨b3,rfl⟩
  ·exact⟨true,rfl⟩
  ·exact⟨b5,rfl⟩
 obtain⟨z,hix⟩:=hix;have hint:EV.b1 .int [.bl z]=.ok (.int (if z then 1 else 0)):=rfl;refine gP (v:=decide (c/M%6=5)) (by simp[KG.Z,eq_int]) (λ_=>?_) λ_=>zT ⟨_,_,rfl⟩
 refine zx (σ:=L M c n ts (some (.int b)) (some (.int a)) (some (.int i)) (some (.lst [.bl b1,.bl b2,.bl b3,.bl true,.bl b5]))) (by rw[zO,hrow];rfl) ?_;refine dz (K:=LQ M c n ts b a) ?_ λ_ h=>zT h
 simp[KG.Z,op2,hix,hint];exact⟨_,_,rfl⟩
theorem w4(hl:ts.length<SZ):Ends (λσ=>∃(us:List (Int×Int)) (v4:Option D),(us=ts\/us=ts++[(a,b)])/\σ=L M c n us (some (.int b)) (some (.int a)) (some (.int i)) v4) Q (evS (wAt p (k+1)) nv (L M c n ts (some (.int b)) (some (.int a)) (some (.int i)) v4)):=by
 refine gP (v:=decide (i=1)) (by simp[KG.Z,eq_int]) (λ_=>?_) λ_=>zT ⟨ts,_,.inl rfl,rfl⟩
 refine zx (σ:=L M c n (ts++[(a,b)]) (some (.int b)) (some (.int a)) (some (.int i)) v4) ?_ (zT ⟨_,_,.inr rfl,rfl⟩);simp[KG.Z,hl]
 rfl
theorem AX(B:fq p)(ha:0<=a)(hb0:0<=b)(hb:b<8)(hl:ts.length<SZ):Ends (λσ=>∃(us:List (Int×Int)) (v3 v4:Option D),(us=ts\/us=ts++[(a,b)])/\σ=L M c n us (some (.int b)) (some (.int a)) v3 v4) Q (qf (wAt p (k+1)) win (L M c n ts (some (.int b)) (some (.int a)) v3 v4)):=by
 refine dz (w0 ha hb0 hb) ?_;rintro _ ⟨i,v4,rfl⟩;refine dz (w1 B) ?_;rintro _ ⟨i,v4,rfl⟩;refine dz (w2 B) ?_;rintro _ ⟨i,v4,rfl⟩;refine dz w3 ?_;rintro _ ⟨i,v4,rfl⟩;refine dz (w4 hl) ?_;rintro _ ⟨us,v4,h,rfl⟩;exact zT ⟨us,_,_,h,rfl⟩
end
theorem vL{p:Pr}(B:fq p){k:Nat}(M c:Int)(hM:1<=M/\M<=8):∃ts,GW (1+c%M) ts/\qc p (k+2) "_law_web" [.int c,.int M]=.ok (wb (1+c%M) ts):=by
 have q1:=Int.emod_nonneg c (show M≠0 by lia);have q2:=Int.emod_lt_of_pos c (show 0<M by lia);have h1:1<=1+c%M:=by lia
 have h2:1+c%M<=8:=by lia
 have p0:0<M:=by lia
 have p1:M<1000000000000000000000000000000:=by lia
 generalize hn:1+c%M=n at h1 h2 ⊢;have P:=pok n h1 h2
 suffices h:∃d,qc p (k+2) "_law_web" [.int c,.int M]=.ok d/\∃ts,GW n ts/\d=wb n ts by
  obtain⟨d,e,ts,g,rfl⟩:=h;exact⟨ts,g,e⟩
 refine iw (k:=k+1) (τ:=[some (.int c),some (.int M),none,none,none,none,none,none,none,none]) B._law_web rfl rfl ?_;refine zx (σ:=[some (.int c),some (.int M),some (.int n),none,none,none,none,none,none,none]) (by simp[KG.Z,op2,hn,p0]) ?_;refine zx (σ:=[some (.int c),some (.int M),some (.int n),some (.int (c/M)),none,none,none,none,none,none]) (by simp[KG.Z,op2,p0,p1]) ?_;refine zx (σ:=[some (.int c),some (.int M),some (.int n),some (.int (c/M)),some (.int (c/M%6)),none,none,none,none,none]) (by simp[KG.Z,op2,p0,p1]) ?_;refine zx (σ:=L M c n [] none none none none) (by simp[KG.Z]) ?_;have hm:qZ n=true:=by simp[qZ];lia
 have s1:qZ 1=true:=by decide
 have hr:zZ 1 (n-1).toNat=(fD n).map D.int:=by
  rw[zZ,fD,bE];rfl
 have m1:∀b∈fD n,0<=b/\b<8:=by
  intro b hb;simp only[fD,bg,List.mem_range]at hb;obtain⟨i,hi,rfl⟩:=hb;lia
 refine eu (ds:=(fD n).map D.int) (λr σ=>∃(bs:List Int) (ts:List (Int×Int)) (v1 v2 v3 v4:Option D),r=bs.map D.int/\(∀b∈bs,0<=b/\b<8)/\(ts++bs.flatMap jb).Sublist (eh n)/\σ=L M c n ts v1 v2 v3 v4) (by rw[<-hr];simp[KG.Z,hm,s1]) ⟨_,[],none,none,none,none,rfl,m1,(by rw[eh];simp),rfl⟩ ?_ ?_
 ·rintro x t σ ⟨bs,ts,v1,v2,v3,v4,e,hb,hs,rfl⟩;cases bs with
  |nil=>cases e
  |cons b bs=>
   rw[aU]at e;injection e with e1 e2
   subst e1 e2;obtain⟨hb0,hb8⟩:=hb b aR;refine⟨L M c n ts (some (.int b)) v2 v3 v4,rfl,?_⟩;have hbm:qZ b=true:=by simp[qZ];lia
   refine eu (ds:=(rng b).map D.int) (λr σ=>∃(as:List Int) (ts:List (Int×Int)) (v2 v3 v4:Option D),r=as.map D.int/\(∀a∈as,0<=a)/\(ts++(as.map λa=>(a,b))++bs.flatMap jb).Sublist (eh n)/\σ=L M c n ts (some (.int b)) v2 v3 v4) (by rw[<-fk];simp[KG.Z,hbm]) ⟨_,ts,_,_,_,rfl,(λa ha=>(fo.mp ha).1),(by rw[List.flatMap_cons,<-List.append_assoc]at hs;exact hs),rfl⟩ ?_ ?_
   ·rintro x t σ ⟨as,ts,v2,v3,v4,e,ha,hs,rfl⟩;cases as with
    |nil=>cases e
    |cons a as=>
     rw[aU]at e;injection e with e1 e2
     subst e1 e2;refine⟨L M c n ts (some (.int b)) (some (.int a)) v3 v4,rfl,?_⟩;have hlen:ts.length<SZ:=by
      have h1:=hs.length_le;have h2:=P.len;simp only[List.length_append]at h1;simp only[SZ];lia
     have W:=AX B (k:=k) (M:=M) (c:=c) (n:=n) (ts:=ts) (v3:=v3) (v4:=v4) (Q:=λd=>∃ts,GW n ts/\d=wb n ts) (ha a aR) hb0 hb8 hlen;refine Bk W ?_;rintro _ ⟨us,v3,v4,h,rfl⟩;refine⟨as,us,_,v3,v4,rfl,λa' q=>ha a' (aP _ q),?_,rfl⟩;rcases h with rfl|rfl
     ·refine List.Sublist.trans ?_ hs;simp
     ·simpa using hs
   ·rintro σ ⟨as,ts,v2,v3,v4,e,ha,hs,rfl⟩;cases as with
    |cons a as=>cases e
    |nil=>exact zT ⟨bs,ts,_,_,_,_,rfl,λb' q=>hb b' (aP _ q),by simpa using hs,rfl⟩
 ·rintro σ ⟨bs,ts,v1,v2,v3,v4,e,hb,hs,rfl⟩;cases bs with
  |cons b bs=>cases e
  |nil=>
   have hs:ts.Sublist (eh n):=by simpa using hs
   have hl:ts.length<64:=by have:=hs.length_le;have:=P.len;lia
   refine hJ (d:=wb n (b_ ts)) ?_ ⟨_,A0 h1 h2 hs,rfl⟩;have e1:=A6 ts hl;have e2:b1 .tuple [.lst ((b_ ts).map prD)]=.ok (.tup ((b_ ts).map prD)):=rfl;simp[KG.Z,e1,e2]
end KG
namespace KG
open EV
open PySem (Str Builtin.bitAnd Builtin.bitOr)
open L2 (atI ixN ltP)
theorem mm(a b:Nat):ck (a:Int) (b:Int)=((a &&& b:Nat):Int):=by
 simp[ck]
theorem jq(a b:Nat):PySem.Builtin.bitOr (a:Int) (b:Int)=((a |||b:Nat):Int):=by
 have h:∀n:Nat,¬ (0<=bQ (n:Int)):=λn=>by simp[bQ];lia
 have e:∀n:Nat,bQ (bQ (n:Int))=n:=λn=>by simp[bQ];lia
 unfold PySem.Builtin.bitOr;have:ck (bQ (a:Int)) (bQ (b:Int))=bQ (((bQ (bQ (a:Int))).toNat ||| (bQ (bQ (b:Int))).toNat:Nat):Int):=by
  simp[ck,h a,h b]
 rw[this,e,e,e];simp
theorem iD(n:Nat)(i:Nat):ck ((n:Int)/2^i) 1=if n.testBit i then 1 else 0:=by
 have e:((n:Int)/2^i)=((n/2^i:Nat):Int):=by simp
 rw[e,show (1:Int)=((1:Nat):Int)from rfl,mm,Nat.and_one_is_mod,Nat.testBit_eq_decide_div_mod_eq];by_cases h:n/2^i%2=1
 ·simp[h]
 ·have:n/2^i%2=0:=by lia
  simp[this]
noncomputable def bs(m:Int)(n:Nat):List Int:=(rng m).filter λi=>n.testBit i.toNat
theorem fS{m:Int}(h:m<=8)(n:Nat):GS m (bs m n):=
 ⟨(Ay m).sublist List.filter_sublist,λi hi=>fo.mp (b4.mp hi).1,bp (List.length_filter_le _ _) (by rw[oZ];lia)⟩
theorem ff{m:Int}{n:Nat}{i:Int}:i∈bs m n↔(0<=i/\i<m)/\n.testBit i.toNat=true:=by
 rw[bs,b4,fo]
noncomputable def subs:Nat->List (List Int)
 | 0=>[[]]
 |j+1=>subs j++(subs j).map (· ++ [(j:Int)])
theorem ku:∀ts:List (List Int),tups? (ts.map tu)=some ts
 | []=>rfl
 |t::r=>by
  show (ints? (t.map D.int)).bind (λn=>(tups? (r.map tu)).map (n :: ·))=_;rw[ints_map,ku r];rfl
theorem uW{m:Nat}(h:m<=8):2^m<=256:=Nat.pow_le_pow_right (by decide) h
section
variable{p:Pr}(B:Base p)
include B
end
end KG
namespace KG
open EV
open PySem (Str)
open L2 (atI ixN ltP)
theorem gp(i:Int)(h:0<=i)(h':i<=8):opI .shl 1 i=.ok (.int (1 * 2^i.toNat)):=by
 rw[opI,if_pos ⟨h,by lia,by decide⟩]
theorem gi(i:Int):(1:Int) * 2^i.toNat=((2^i.toNat:Nat):Int):=by simp
section
variable{p:Pr}(B:Base p)
include B
end
noncomputable def near(ts:List (Int×Int))(q i:Nat):Bool:=q==i||ts.any λt=>(t.1==(q:Int)&&t.2==(i:Int))||(t.1==(i:Int)&&t.2==(q:Int))
abbrev ln(N:List Nat):D:=.lst (N.map λ(x:Nat)=>D.int (x:Int))
structure fV(m:Int)(ts:List (Int×Int))(N:List Nat):Prop where
 len:N.length=m.toNat
 bit:∀(q:Nat) (h:q<N.length) (i:Nat),N[q].testBit i=near ts q i
theorem xJ(q i:Nat):near [] q i=(q==i):=by simp[near]
theorem pq(ts:List (Int×Int))(t:Int×Int)(q i:Nat):near (ts++[t]) q i=(near ts q i||((t.1==(q:Int)&&t.2==(i:Int))||(t.1==(i:Int)&&t.2==(q:Int)))):=by
 simp[near,List.any_append,Bool.or_assoc]
theorem xw{m:Int}{ts:List (Int×Int)}{N:List Nat}(h:fV m ts N){a b:Nat}(hab:a≠b)(ha:a<N.length)(hb:b<N.length):fV m (ts++[((a:Int),(b:Int))]) ((N.set a (N[a] ||| 2^b)).set b (N[b] ||| 2^a)):=by
 refine⟨by simp[h.len],λq hq i=>?_⟩;have hq':q<N.length:=by simpa using hq
 rw[pq];by_cases qb:q=b
 ·subst qb;have e:((N.set a (N[a] ||| 2^q)).set q (N[q] ||| 2^a))[q]=N[q] ||| 2^a:=by simp
  rw[e,Nat.testBit_or,h.bit q hb i,Nat.testBit_two_pow]
  congr 1
  by_cases z:a=i
  ·subst z;simp
  ·have:((a:Int)==(q:Int))=false:=by simp;lia
   have z2:((a:Int)==(i:Int))=false:=by simp;lia
   simp[z,this,z2]
 ·by_cases qa:q=a
  ·subst qa;have e:((N.set q (N[q] ||| 2^b)).set b (N[b] ||| 2^q))[q]=N[q] ||| 2^b:=by simp[List.getElem_set,Ne.symm qb]
   rw[e,Nat.testBit_or,h.bit q ha i,Nat.testBit_two_pow]
   congr 1
   by_cases z:b=i
   ·subst z;simp
   ·have z2:((b:Int)==(i:Int))=false:=by simp;lia
    have z3:((b:Int)==(q:Int))=false:=by simp;lia
    simp[z,z2,z3]
  ·have e:((N.set a (N[a] ||| 2^b)).set b (N[b] ||| 2^a))[q]=N[q]:=by simp[List.getElem_set,Ne.symm qb,Ne.symm qa]
   have z1:((a:Int)==(q:Int))=false:=by simp;lia
   have z2:((b:Int)==(q:Int))=false:=by simp;lia
   rw[e,h.bit q hq' i];simp[z1,z2]
theorem mW{N:List Nat}{a:Nat}(h:a<N.length):ixD (ln N) (.int (a:Int))=.ok (.int (N[a]:Nat)):=by
 have:=eY (xs:=N.map λ(x:Nat)=>D.int (x:Int)) (i:=a) (by simpa using h);simp only[ixD];rw[this];simp
theorem oV{N:List Nat}{a:Nat}(h:a<N.length):ixN (N.map λ(x:Nat)=>D.int (x:Int)).length (a:Int)=some a:=by
 rw[ixN,if_pos (by lia),if_pos (by simp;lia)];simp
theorem lj(N:List Nat)(a v:Nat):(N.map λ(x:Nat)=>D.int (x:Int)).set a (.int (v:Int))=(N.set a v).map λ(x:Nat)=>D.int (x:Int):=by
 rw[List.map_set]
theorem sj{p:Pr}(hf:p.fns "_law_masks" = some eW){k:Nat}{m:Int}{ts:List (Int×Int)}(h:GW m ts):∃N,fV m ts N/\qc p (k+1) "_law_masks" [wb m ts]=.ok (ln N):=by
 have h1:=h.lo;have h2:=h.hi
 suffices hs:∃d,qc p (k+1) "_law_masks" [wb m ts]=.ok d/\∃N,fV m ts N/\d=ln N by
  obtain⟨d,e,N,g,rfl⟩:=hs;exact⟨N,g,e⟩
 refine iw (k:=k) (τ:=[some (wb m ts),none,none,none]) hf rfl rfl ?_;have hm:qZ m=true:=by simp[qZ];lia
 have hx:ixD (wb m ts) (.int 0)=.ok (.int m):=rfl;have hy:ixD (wb m ts) (.int 1)=.ok (.tup (ts.map prD)):=rfl;have hc:evE (wAt p k) (.comp (.rng (.ix (.var 0) (.con (.int 0)))) [none,none] (.nm 1) .yes (.op .shl (.con (.int 1)) (.var 1))) [some (wb m ts),none,none,none]=.ok (ln ((a9 m.toNat).map λi=>2^i)):=by
  have he:((rng m).map D.int).flatMap (λx=>match x with | .int i=>[D.int ((2^i.toNat:Nat):Int)]|_=>[])=((a9 m.toNat).map λi=>2^i).map λ(x:Nat)=>D.int (x:Int):=by
   rw[rng,bE,bE,List.flatMap_map];generalize a9 m.toNat=l
   induction l with
   |nil=>rfl
   |cons a r ih=>rw[List.flatMap_cons,ih,aU];simp
  rw[ln,<-he];refine fE (c:=[]) ?_ ?_ rfl ?_
  ·rw[<-fk];simp[KG.Z,hm,hx]
  ·simp[oZ,SZ];lia
  ·intro x hx;rw[bg]at hx;obtain⟨b,hb,rfl⟩:=hx;have hb':=fo.mp hb;have e2:op2 .shl (.int 1) (.int b)=.ok (.int ((2^b.toNat:Nat):Int)):=by
    show opI .shl 1 b=_;rw[gp b hb'.1 (by lia),gi]
   simp[KG.Z,e2]
 refine zx (σ:=[some (wb m ts),some (ln ((a9 m.toNat).map λi=>2^i)),none,none]) (by rw[zO,hc];rfl) ?_;refine eu (ds:=ts.map prD) (λr σ=>∃(us vs:List (Int×Int)) (N:List Nat) (v2 v3:Option D),us++vs=ts/\r=vs.map prD/\fV m us N/\σ=[some (wb m ts),some (ln N),v2,v3]) (by simp[KG.Z,hy,seq?]) ⟨[],ts,_,none,none,rfl,rfl,⟨by simp,λq hq i=>by rw[xJ];simp[Nat.testBit_two_pow];rfl⟩,rfl⟩ ?_ ?_
 ·rintro x r σ ⟨us,vs,N,v2,v3,e,er,hN,rfl⟩;cases vs with
  |nil=>cases er
  |cons t vs=>
   rw[aU]at er;injection er with e1 e2
   subst e1 e2;have ht:=h.ok t (by rw[<-e];simp);obtain⟨a,ha⟩:∃a:Nat,t.1=a:=⟨t.1.toNat,by lia⟩
   obtain⟨b,hb⟩:∃b:Nat,t.2=b:=⟨t.2.toNat,by lia⟩
   have et:t=((a:Int),(b:Int)):=Prod.ext ha hb;subst et;have la:a<N.length:=by rw[hN.len];lia
   have lb:b<N.length:=by rw[hN.len];lia
   have hab:a≠b:=by lia
   refine⟨[some (wb m ts),some (ln N),some (.int a),some (.int b)],rfl,?_⟩;have sh:∀i:Nat,i<=8->op2 .shl (.int 1) (.int i)=.ok (.int ((2^i:Nat):Int)):=λi hi=>by
    show opI .shl 1 (i:Int)=_;rw[gp i (by lia) (by lia),gi];simp
   have bo:∀x y:Nat,op2 .bor (.int x) (.int y)=.ok (.int ((x |||y:Nat):Int)):=λx y=>by
    show R.ok (D.int (PySem.Builtin.bitOr (x:Int) (y:Int)))=_;rw[jq]
   have s1:evS (wAt p k) (.seti 1 (.var 2) (.op .bor (.ix (.own 1) (.var 2)) (.op .shl (.con (.int 1)) (.var 3)))) [some (wb m ts),some (ln N),some (.int a),some (.int b)]=.nx [some (wb m ts),some (ln (N.set a (N[a] ||| 2^b))),some (.int a),some (.int b)]:=by
    have e0:evE (wAt p k) (.op .bor (.ix (.own 1) (.var 2)) (.op .shl (.con (.int 1)) (.var 3))) [some (wb m ts),some (ln N),some (.int a),some (.int b)]=.ok (.int ((N[a] ||| 2^b:Nat):Int)):=by
     rw[qV,qV,ql,qU,qU,qW,qY];simp only[bO,List.getElem?_cons_succ,List.getElem?_cons_zero,R.bind_ok];rw[mW la,sh b (by lia)];exact bo _ _
    rw[zR,e0];simp only[R.out_ok,bO,qU,List.getElem?_cons_succ,List.getElem?_cons_zero];rw[oV la];simp only[List.set_cons_succ,List.set_cons_zero];rw[lj]
   have la':a<(N.set a (N[a] ||| 2^b)).length:=by simpa using la
   have lb':b<(N.set a (N[a] ||| 2^b)).length:=by simpa using lb
   have eb:(N.set a (N[a] ||| 2^b))[b]=N[b]:=by simp[List.getElem_set,hab]
   have s2:evS (wAt p k) (.seti 1 (.var 3) (.op .bor (.ix (.own 1) (.var 3)) (.op .shl (.con (.int 1)) (.var 2)))) [some (wb m ts),some (ln (N.set a (N[a] ||| 2^b))),some (.int a),some (.int b)]=.nx [some (wb m ts),some (ln ((N.set a (N[a] ||| 2^b)).set b (N[b] ||| 2^a))),some (.int a),some (.int b)]:=by
    have e0:evE (wAt p k) (.op .bor (.ix (.own 1) (.var 3)) (.op .shl (.con (.int 1)) (.var 2))) [some (wb m ts),some (ln (N.set a (N[a] ||| 2^b))),some (.int a),some (.int b)]=.ok (.int ((N[b] ||| 2^a:Nat):Int)):=by
     rw[qV,qV,ql,qU,qU,qW,qY];simp only[bO,List.getElem?_cons_succ,List.getElem?_cons_zero,R.bind_ok];rw[mW lb',eb,sh a (by lia)];exact bo _ _
    rw[zR,e0];simp only[R.out_ok,bO,qU,List.getElem?_cons_succ,List.getElem?_cons_zero];rw[oV lb'];simp only[List.set_cons_succ,List.set_cons_zero];rw[lj]
   exact zx s1 (zx s2 (zT ⟨us++[((a:Int),(b:Int))],vs,_,_,_,by simpa using e,rfl,xw hN hab la lb,rfl⟩))
 ·rintro σ ⟨us,vs,N,v2,v3,e,er,hN,rfl⟩;have:vs=[]:=by cases vs with|nil=>rfl|cons _ _=>cases er
  subst this;rw[List.append_nil]at e;subst e;exact hJ (d:=ln N) (by simp[KG.Z]) ⟨N,hN,rfl⟩
theorem pU(N:List Nat):∀j:Nat,dt j (N.map λ(x:Nat)=>D.int (x:Int))=(List.range' j N.length).map λ(q:Nat)=>.tup [.int (q:Int),.int ((N.getD (q-j) 0:Nat):Int)]:=by
 induction N with
 |nil=>intro j;rfl
 |cons a r ih=>
  intro j;rw[aU,dt,ih (j+1),List.length_cons,List.range'_succ,aU]
  congr 1
  ·simp
  ·refine List.map_congr_left λq hq=>?_
   have:=(List.mem_range'_1.mp hq).1;have e:q-j=(q-(j+1))+1:=by lia
   rw[e,List.getD_cons_succ]
theorem mQ(a b:Int)(t:Int×Int)(ht:t.1<t.2):(t.1==mn a b&&t.2==mx a b)=((t.1==a&&t.2==b)||(t.1==b&&t.2==a)):=by
 rw[Bool.eq_iff_iff];simp only[mn,mx,aF,bh,beq_iff_eq];split<;>split<;>lia
theorem kC{m:Int}{ts:List (Int×Int)}(h:GW m ts)(q i:Nat):near ts q i=(q==i||c_ ts q i):=by
 rw[near,c_]
 congr 1
 rw[Bool.eq_iff_iff,List.any_eq_true,List.any_eq_true];constructor
 ·rintro⟨t,ht,e⟩;exact⟨t,ht,by rw[mQ _ _ t (h.ok t ht).2.1];exact e⟩
 ·rintro⟨t,ht,e⟩;exact⟨t,ht,by rw[mQ _ _ t (h.ok t ht).2.1]at e;exact e⟩
theorem lA(ts:List (Int×Int))(a b:Int):c_ ts a b=c_ ts b a:=by
 rw[c_,c_]
 congr 1;funext t
 rw[Bool.eq_iff_iff];simp only[mn,mx,aF,beq_iff_eq];split<;>split<;>lia
theorem uy{m:Int}{ts:List (Int×Int)}{a b:Int}:b∈hd m ts a↔(0<=b/\b<m)/\(b=a\/c_ ts a b=true):=by
 rw[hd,b4,fo];simp
theorem j_{α:Type}{w:W}{it:It}{cap:List (Option Nat)}{t:T}{elt:E}{τ c:Env}{l:List α}{f:α->D}(q:α->Bool)(g:α->D)(h:evI w it τ=.ok (l.map f))(hz:l.length<=SZ)(hc:dw cap τ=none::none::c)
  (hb:∀a∈l,evT w t (none::some (f a)::c)=.ok (q a)/\(q a=true->evE w elt (none::some (f a)::c)=.ok (g a))):evE w (.comp it cap (.nm 1) t elt) τ=.ok (.lst ((l.filter q).map g)):=by
 have key:∀(r:List α) (v:Option D) (acc:List D),(∀x∈r,x∈l)->cf (λx σ=>noEx ((store (.nm 1) x σ).bind λσ'=>(evT w t σ').bind λr=>if r then (evE w elt σ').bind λd=>.ok (σ',[d])else .ok (σ',[]))) (r.map f) (none::v::c) acc=.ok (acc++(r.filter q).map g):=by
  intro r
  induction r with
  |nil=>intro v acc _;simp[cf]
  |cons x r ih=>
   intro v acc hm;obtain⟨h1,h2⟩:=hb x (hm x aR);rw[aU,cf];have e:noEx ((store (.nm 1) (f x) (none::v::c)).bind λσ'=>(evT w t σ').bind λr=>if r then (evE w elt σ').bind λd=>.ok (σ',[d])else .ok (σ',[]))=.ok (none::some (f x)::c,if q x then [g x]else []):=by
    simp only[store,R.bind_ok,List.set_cons_succ,List.set_cons_zero,h1];cases hq:q x with
    |false=>rfl
    |true=>simp only[if_true,h2 hq,R.bind_ok];rfl
   rw[e];simp only[R.bind_ok];rw[ih (some (f x)) _ λy hy=>hm y (aP _ hy),List.filter_cons,List.append_assoc];cases q x<;>simp
 rw[qo,h];simp only[R.bind_ok];rw[if_neg (by simp;lia),hc,key l none [] λ_ h=>h]
 rfl
theorem gE{α:Type}{w:W}{it:It}{cap:List (Option Nat)}{elt:E}{τ c:Env}{l:List α}{f:α->D}(g:α->D)(h:evI w it τ=.ok (l.map f))(hz:l.length<=SZ)(hc:dw cap τ=none::none::c)
  (hb:∀a∈l,evE w elt (none::some (f a)::c)=.ok (g a)):evE w (.comp it cap (.nm 1) .yes elt) τ=.ok (.lst (l.map g)):=by
 have:=j_ (t:=.yes) (elt:=elt) (f:=f) (λ_=>true) g h hz hc λa ha=>⟨rfl,λ_=>hb a ha⟩
 rwa[List.filter_eq_self.mpr (λ_ _=>rfl)]at this
theorem lu{w:W}{e:E}{τ:Env}{xs:List D}(h:evE w e τ=.ok (.lst xs)):evI w (.seq e) τ=.ok xs:=by rw[evI.eq_1,h];rfl
theorem iS{w:W}{e:E}{τ:Env}{xs:List D}(h:evE w e τ=.ok (.tup xs)):evI w (.seq e) τ=.ok xs:=by rw[evI.eq_1,h];rfl
theorem sr{α:Type}(l:List α)(f:α->Bool):bools? (l.map λa=>D.bl (f a))=some (l.map f):=by
 induction l with
 |nil=>rfl
 |cons a r ih=>rw[aU,bools?,ih];rfl
theorem j4{α:Type}(l:List α)(f:α->Bool):b1 .all [.lst (l.map λa=>D.bl (f a))]=.ok (.bl (l.all f)):=by
 rw[b1,b11];simp only[dD];rw[sr];simp only[cG];rw[List.all_map];rfl
theorem oB:∀L:List (List Int),plainAll (L.map tu)=true
 | []=>rfl
 |t::r=>by
  show (D.plain (tu t)&&plainAll (r.map tu))=true;rw[oB r,show D.plain (tu t)=plainAll (t.map D.int)from by simp[D.plain],nU];rfl
theorem mq:∀L:List (List Int),dj (L.map tu)<=1
 | []=>by decide
 |t::r=>by
  have h:=mq r;have e:D.deep (tu t)=1:=by
   show D.deep (.tup (t.map D.int))=1;rw[D.deep,nX]
  show max (D.deep (tu t)) (dj (r.map tu))<=1;rw[e];lia
theorem jm(L:List (List Int)):(D.lst (L.map tu)).asks=true:=by
 have h:=mq L;simp only[D.asks,D.plain,oB,Bool.true_and,decide_eq_true_eq];show dj (L.map tu)+1<=20;lia
theorem m5:∀L M:List (List Int),eqvAll (L.map tu) (M.map tu)=decide (L=M)
 | [],[]=>rfl
 | [],_::_=>rfl
 |_::_,[]=>rfl
 |a::r,b::t=>by
  show (D.eqv (tu a) (tu b)&&eqvAll (r.map tu) (t.map tu))=_;rw[m5 r t,show D.eqv (tu a) (tu b)=eqvAll (a.map D.int) (b.map D.int)from by simp[D.eqv],nk];simp[Bool.decide_and]
theorem uY(L M:List (List Int)):qk .ne (.lst (L.map tu)) (.lst (M.map tu))=.ok (!decide (L=M)):=by
 rw[qk]
 ·rw[if_pos (by rw[jm,jm];rfl)];show R.ok (!D.eqv (.lst _) (.lst _))=_;rw[show D.eqv (.lst (L.map tu)) (.lst (M.map tu))=eqvAll (L.map tu) (M.map tu)from by simp[D.eqv],m5]
 all_goals (intros;rintro⟨⟩)
theorem ne_int(a b:Int):qk .ne (.int a) (.int b)=.ok (!decide (a=b)):=by
 show R.ok (!(a==b))=_
 congr 1
theorem wa(ns:List Int)(lo hi:Option Int):∃cs:List Int,cutD (ns.map D.int) lo hi=cs.map D.int/\cs.length<=ns.length:=by
 refine⟨(ns.drop _).take _,by rw[cutD,<-List.map_drop,<-List.map_take],by simp;lia⟩
theorem fx{α:Type}{f:α->D}{r:List D}{x:D}{l:List α}(e:x::r=l.map f):∃a l',l=a::l'/\x=f a/\r=l'.map f:=by
 cases l with
 |nil=>cases e
 |cons a l'=>rw[aU]at e;injection e with e1 e2;exact⟨a,l',rfl,e1,e2⟩
theorem Bl{w:W}{f:Fn}{ds:List D}{τ:Env}{Q:D->Prop}(hl:ds.length=f.ps)(hτ:ds.map some++bK (f.N-f.ps) none=τ)(h:Ends (λ_=>False) Q (qf w f.body τ)):∃d,cC w f ds=.ok d/\Q d:=by
 rw[cC,if_pos hl,hτ];cases z:qf w f.body τ with
 |rt d=>rw[z]at h;exact⟨d,rfl,h⟩
 |nx _=>rw[z]at h;exact h.elim
 |_=>rw[z]at h;exact h.elim
noncomputable def fz:Fn:=⟨2,2,false,(.cons (.ite (.not (.val (.call "is_place" (.cons (.var 0) (.cons (.var 1) .nil))))) (.cons (.raise "NoPlace" (.cons (.con (.str "a place of the web is due")) .nil)) .nil) .nil) .nil)⟩
noncomputable def p7:Fn:=⟨1,3,false,(.cons (.set (.nm 1) (.lst .nil)) (.cons (.for (.nm 2) (.rng (.var 0)) (.cons (.set (.nm 1) (.op .add (.var 1) (.comp (.rng2 (.op .add (.var 2) (.con (.int 1))) (.var 0)) [none,none,some 2] (.nm 1) .yes (.tup (.cons (.var 2) (.cons (.var 1) .nil)))))) .nil)) (.cons (.ret (.var 1)) .nil)))⟩
noncomputable def xn:Fn:=⟨2,5,false,(.cons (.set (.nm 2) (.lst .nil)) (.cons (.for (.tp [3,4]) (.enum (.call "_law_pairs" (.cons (.var 0) .nil))) (.cons (.ite (.and (.cmp .eq (.op .mod (.var 1) (.con (.int 2))) (.con (.int 0))) (.cmp .eq (.op .mod (.op .shr (.op .fdiv (.var 1) (.con (.int 2))) (.var 3)) (.con (.int 2))) (.con (.int 1)))) (.cons (.app 2 (.var 4)) .nil) .nil) (.cons (.ite (.and (.cmp .eq (.op .mod (.var 1) (.con (.int 2))) (.con (.int 1))) (.cmp .lt (.op .mod (.call "_law_stir" (.cons (.var 1) (.cons (.var 3) .nil))) (.con (.int 5))) (.op .add (.con (.int 1)) (.op .mod (.op .fdiv (.var 1) (.con (.int 2))) (.con (.int 3)))))) (.cons (.app 2 (.var 4)) .nil) .nil) .nil))) (.cons (.ret (.tup (.cons (.var 0) (.cons (.bi .tuple (.cons (.own 2) .nil)) .nil)))) .nil)))⟩
noncomputable def p8:Fn:=⟨2,2,false,(.cons (.ite (.cmp .eq (.op .mod (.var 1) (.con (.int 2))) (.con (.int 0))) (.cons (.ret (.bi .tuple (.cons (.comp (.rng (.var 0)) [none,none,some 1] (.nm 1) (.cmp .eq (.op .mod (.op .shr (.op .fdiv (.var 2) (.con (.int 2))) (.var 1)) (.con (.int 2))) (.con (.int 1))) (.var 1)) .nil))) .nil) .nil) (.cons (.ret (.bi .tuple (.cons (.comp (.rng (.var 0)) [none,none,some 1] (.nm 1) (.cmp .lt (.op .mod (.call "_law_stir" (.cons (.var 2) (.cons (.op .add (.var 1) (.con (.int 60))) .nil))) (.con (.int 4))) (.op .add (.con (.int 1)) (.op .mod (.op .fdiv (.var 2) (.con (.int 2))) (.con (.int 3))))) (.var 1)) .nil))) .nil))⟩
structure Lw(p:Pr):Prop where
 _law_stir:p.fns "_law_stir" = some eB
 _law_pairs:p.fns "_law_pairs" = some p7
 _law_web_by:p.fns "_law_web_by" = some xn
 _law_some_by:p.fns "_law_some_by" = some p8
section
variable{p:Pr}
theorem kT(B:Web p)(S:fU p)(hf:p.fns "need_place" = some fz){k:Nat}(i m:Int)(t:D)(h:0<=i/\i<m):qc p (k+4) "need_place" [.tup [.int m,t],.int i]=.ok .non:=by
 rw[qh hf];simp only[cC];simp[KG.Z,fz,is_place B S i m t h]
theorem mV{i x:Int}{l:List Int}:x∈insI i l↔x=i\/x∈l:=by
 induction l with
 |nil=>simp[insI]
 |cons a r ih=>
  rw[insI];split
  ·simp
  ·simp only[aL,ih];constructor<;>rintro(h|h|h)<;>simp[h]
theorem o4{x:Int}{l:List Int}:x∈sortI l↔x∈l:=by
 induction l with
 |nil=>simp[sortI]
 |cons a r ih=>rw[sortI,mV,ih,aL]
theorem BZ{i:Int}{l:List Int}(h:l.Pairwise (· < ·))(hn:i∉l):(insI i l).Pairwise (· < ·):=by
 induction l with
 |nil=>simp[insI]
 |cons a r ih=>
  rw[List.pairwise_cons]at h;have h0:i≠a:=λe=>hn (e▸aR)
  rw[insI];split
  ·rename_i q
   rw[List.pairwise_cons];refine⟨λb hb=>?_,List.pairwise_cons.mpr h⟩;rcases aL.mp hb with rfl|hb
   ·lia
   ·have:=h.1 b hb;lia
  ·rename_i q
   rw[List.pairwise_cons];refine⟨λb hb=>?_,ih h.2 λe=>hn (aP _ e)⟩;rcases mV.mp hb with rfl|hb
   ·lia
   ·exact h.1 b hb
theorem xt{l:List Int}(h:l.Nodup):(sortI l).Pairwise (· < ·):=by
 induction l with
 |nil=>simp[sortI]
 |cons a r ih=>
  rw[List.nodup_cons]at h;rw[sortI];exact BZ (ih h.2) λe=>h.1 (o4.mp e)
theorem jt:∀{a b:List Int},a.Pairwise (· < ·)->b.Pairwise (· < ·)->(∀x,x∈a↔x∈b)->a=b
 | [],[],_,_,_=>rfl
 | [],y::_,_,_,h=>absurd ((h y).mpr aR) (by simp)
 |x::_,[],_,_,h=>absurd ((h x).mp aR) (by simp)
 |x::r,y::t,ha,hb,h=>by
  rw[List.pairwise_cons]at ha hb;have e:x=y:=by
   rcases aL.mp ((h x).mp aR)with q|q
   ·exact q
   ·rcases aL.mp ((h y).mpr aR)with q'|q'
    ·exact q'.symm
    ·have:=hb.1 x q;have:=ha.1 y q';lia
  subst e;rw[jt ha.2 hb.2 λz=>⟨λq=>by
   rcases aL.mp ((h z).mp (aP _ q))with e|e
   ·subst e;have:=ha.1 z q;lia
   ·exact e,λq=>by
   rcases aL.mp ((h z).mpr (aP _ q))with e|e
   ·subst e;have:=hb.1 z q;lia
   ·exact e⟩]
theorem GS.none{m:Int}:GS m []:=⟨List.Pairwise.nil,by simp,by simp⟩
end
noncomputable def od:D->Bool
 | .int _=>false
 | .fn _=>false
 | .exn _=>false
 |_=>true
noncomputable def nt:D->Bool
 | .tup _=>false
 | .fn _=>false
 | .exn _=>false
 |_=>true
theorem pick{l:List D}{P:D->Prop}(hL:∀d∈l,P d)(i:Int)(h:0<=i/\i<l.length):∃d,ixD (.lst l) (.int i)=.ok d/\P d:=by
 obtain⟨j,rfl⟩:∃j:Nat,i=j:=⟨i.toNat,by lia⟩
 have hj:j<l.length:=by lia
 refine⟨l[j],?_,hL _ (List.getElem_mem hj)⟩;simp only[ixD];rw[eY hj]
section
variable{p:Pr}(B:Web p)
include B
theorem uU{k:Nat}{d:D}(h:od d=true):qc p (k+1) "is_whole" [d]=.ok (.bl false):=by
 rw[qh B.is_whole];cases d<;>first|(cases h;done)|rfl
theorem Am{k:Nat}(i a b:Int):qc p (k+2) "is_between" [.int i,.int a,.int b]=.ok (.bl (decide (a<=i/\i<=b))):=by
 have e1:qk .le (.int a) (.int i)=.ok (decide (a<=i)):=rfl;have e2:qk .le (.int i) (.int b)=.ok (decide (i<=b)):=rfl;by_cases q:a<=i
 ·have e1:qk .le (.int a) (.int i)=.ok true:=by rw[e1,decide_eq_true q]
  by_cases q2:i<=b
  ·have e2:qk .le (.int i) (.int b)=.ok true:=by rw[e2,decide_eq_true q2]
   rw[qh B.is_between];refine zg rfl rfl ?_;simp[KG.Z,dU,is_whole B,e1,e2,q,q2]
  ·have e2:qk .le (.int i) (.int b)=.ok false:=by rw[e2,decide_eq_false q2]
   rw[qh B.is_between];refine zg rfl rfl ?_;simp[KG.Z,dU,is_whole B,e1,e2,q,q2]
 ·have e1:qk .le (.int a) (.int i)=.ok false:=by rw[e1,decide_eq_false q]
  rw[qh B.is_between];refine zg rfl rfl ?_;simp[KG.Z,dU,is_whole B,e1,q]
theorem rB{k:Nat}{d:D}(h:od d=true)(a b:D):qc p (k+2) "is_between" [d,a,b]=.ok (.bl false):=by
 rw[qh B.is_between];refine zg rfl rfl ?_;simp[KG.Z,dU,uU B h]
theorem sd{k:Nat}(xs:List D)(hz:xs.length<=100)(b:Nat->Bool)(h:∀(i:Nat) (q:i+1<xs.length),qk .lt xs[i] xs[i+1]=.ok (b i)):qc p (k+1) "rises" [.tup xs]=.ok (.bl ((a9 (xs.length-1)).all b)):=by
 rw[qh B.rises];refine zg (τ:=[some (.tup xs)]) rfl rfl ?_;have hr:qZ ((xs.length:Int)-1)=true:=by simp[qZ];lia
 have hc:evE ⟨qc p k,p.glb,p.sub,p.cat⟩ (.comp (.rng (.op .sub (.bi .len (.cons (.var 0) .nil)) (.con (.int 1)))) [none,none,some 0] (.nm 1) .yes (.cmp .lt (.ix (.var 2) (.var 1)) (.ix (.var 2) (.op .add (.var 1) (.con (.int 1)))))) [some (.tup xs)]=.ok (.lst ((a9 (xs.length-1)).map λi=>.bl (b i))):=by
  refine gE (f:=λ(i:Nat)=>D.int (i:Int)) (c:=[some (.tup xs)]) (λi=>.bl (b i)) ?_ ?_ rfl ?_
  ·have e:zZ 0 (xs.length-1)=(a9 (xs.length-1)).map λ(i:Nat)=>D.int (i:Int):=by
    rw[zZ];simp
   simp[KG.Z,b1,seq?,op2,hr,e]
  ·simp[SZ];lia
  ·intro i hi;have hi:=List.mem_range.mp hi;have e1:atI xs (i:Int)=some xs[i]:=eY (by lia);have e2:atI xs ((i:Int)+1)=some xs[i+1]:=eY (i:=i+1) (by lia);have e3:=h i (by lia);simp[KG.Z,ixD,op2,e1,e2,e3]
 have h3:=j4 (a9 (xs.length-1)) b;show qf _ (.cons (.ret (.bi .all (.cons _ .nil))) .nil) _=_;rw[qf,zt,qi,zi,hc];simp only[R.bind_ok,zi,h3,R.out_ok]
theorem jZ{k:Nat}(S:fm p)(i m:Int)(t:D):qc p (k+3) "is_place" [.tup [.int m,t],.int i]=.ok (.bl (decide (0<=i/\i<=m-1))):=by
 have e:=Am B (k:=k) i 0 (m-1);rw[qh S.is_place];refine zg rfl rfl ?_;simp[KG.Z,eQ,ixD,atI,ixN,op2,e]
theorem fA{k:Nat}(S:fm p){d:D}(h:od d=true)(m:Int)(t:D):qc p (k+3) "is_place" [.tup [.int m,t],d]=.ok (.bl false):=by
 have e:=λa b=>rB B (k:=k) h a b
 rw[qh S.is_place];refine zg rfl rfl ?_;simp[KG.Z,eQ,ixD,atI,ixN,op2,e]
theorem eX{k:Nat}(S:fm p){d:D}(h:nt d=true)(u:D):qc p (k+4) "is_some" [u,d]=.ok (.bl false):=by
 have e:∀w:W,b9 w d (.ty "tuple")=.ok (.bl false):=λw=>by cases d<;>first|(cases h;done)|rfl
 rw[qh S.is_some];refine zg rfl rfl ?_;simp[KG.Z,fi,e]
theorem oK{k:Nat}(S:fm p){u:D}{ys:List (D×Bool)}{xs:List D}(hx:xs=ys.map (·.1))(hz:xs.length<=100)(hf:∀y∈ys,qc p (k+3) "is_place" [u,y.1]=.ok (.bl y.2))(hb:ys.all (·.2)=false\/qc p (k+3) "rises" [.tup xs]=.ok (.bl false)):qc p (k+4) "is_some" [u,.tup xs]=.ok (.bl false):=by
 rw[qh S.is_some];refine zg (τ:=[some u,some (.tup xs)]) rfl rfl ?_;have hc:evE ⟨qc p (k+3),p.glb,p.sub,p.cat⟩ (.comp (.seq (.var 1)) [none,none,some 0] (.nm 1) .yes (.call "is_place" (.cons (.var 2) (.cons (.var 1) .nil)))) [some u,some (.tup xs)]=.ok (.lst (ys.map λx=>.bl x.2)):=by
  refine gE (f:=λ(x:D×Bool)=>x.1) (c:=[some u]) (λ(x:D×Bool)=>.bl x.2) (by rw[<-hx];exact iS rfl) (by rw[hx]at hz;simp at hz;simp[SZ];lia) rfl λx hx=>?_
  have e:=hf x hx;simp[KG.Z,e]
 have h3:=j4 ys (·.2);show qf _ (.cons (.ite _ _ _) (.cons (.ret (.and (.bi .all (.cons _ .nil)) _)) .nil)) _=_;refine nB (σ:=[some u,some (.tup xs)]) (by simp[KG.Z]) ?_;rw[qf,zt,qm,qi,zi,hc];simp only[R.bind_ok,zi,h3];rcases hb with hb|hb
 ·rw[hb];rfl
 ·cases q:ys.all (·.2)with
  |false=>rfl
  |true=>simp[KG.Z,hb]
theorem yZ{k:Nat}(ns:List Int)(hz:ns.length<=50):qc p (k+1) "rises" [.tup ((ns++[0,0]).map D.int)]=.ok (.bl false):=by
 have:=sd B (k:=k) ((ns++[0,0]).map D.int) (by simp;lia) (λi=>decide ((ns++[0,0])[i]! < (ns++[0,0])[i+1]!)) λi q=>by
  have q1:i+1<(ns++[0,0]).length:=by simpa using q
  rw[cZ,cZ,lt_int,getElem!_pos _ i (by lia),getElem!_pos _ (i+1) q1]
 rw[this]
 congr 2
 rw[List.all_eq_false];refine⟨ns.length,by simp,?_⟩;simp
end
end KG
namespace K70
open PySem PySem.Spec PyProof.Rows L2 EV
noncomputable def top(i:Nat):Stmt:=PySem.Challenge.pw_holdplaces_k70_moves_of_guards.main.body.getD i (.Pass ⟨0,0,0,0⟩)
abbrev iK:Fn:=KG.iK
abbrev dU:Fn:=KG.dU
abbrev gK:Fn:=KG.gK
abbrev gX:Fn:=KG.gX
abbrev ij:Fn:=KG.ij
abbrev f_:Fn:=KG.f_
abbrev hU:Fn:=KG.hU
abbrev eQ:Fn:=KG.eQ
abbrev fz:Fn:=KG.fz
abbrev eI:Fn:=KG.eI
abbrev dQ:Fn:=KG.dQ
abbrev fi:Fn:=KG.fi
abbrev fL:Fn:=KG.fL
abbrev h9:Fn:=KG.h9
noncomputable def oU:Fn:=⟨2,2,false,(.cons (.ret (.bi .tuple (.cons (.comp (.seq (.var 0)) [none,none,some 1] (.nm 1) (.cmp .ne (.var 1) (.var 2)) (.var 1)) .nil))) .nil)⟩
noncomputable def fC:Fn:=⟨3,3,true,(.cons (.exp (.call "need_web" (.cons (.var 0) .nil))) (.cons (.exp (.call "need_some" (.cons (.var 0) (.cons (.var 1) .nil)))) (.cons (.exp (.call "need_place" (.cons (.var 0) (.cons (.var 2) .nil)))) (.cons (.ite (.cmp .isin (.var 2) (.var 1)) (.cons (.raise "NoPlace" (.cons (.con (.str "a place without a guard is due")) .nil)) .nil) .nil) (.cons (.ret (.call "moves_to" (.cons (.call "hood_of" (.cons (.var 0) (.cons (.var 2) .nil))) (.cons (.var 1) (.cons (.var 2) .nil))))) .nil)))))⟩
noncomputable def mM:Fn:=⟨3,3,true,(.cons (.ret (.bi .sorted (.cons (.comp (.seq (.call "mark_of" (.cons (.var 0) (.cons (.var 1) .nil)))) [none,none,some 2,some 1] (.nm 1) .yes (.bi .tuple (.cons (.bi .sorted (.cons (.op .add (.call "without" (.cons (.var 3) (.cons (.var 1) .nil))) (.tup (.cons (.var 2) .nil))) .nil)) .nil))) .nil))) .nil)⟩
abbrev zU:Fn:=KG.zU
abbrev eB:Fn:=KG.eB
abbrev gL:Fn:=KG.gL
abbrev eW:Fn:=KG.eW
abbrev fg:Fn:=KG.fg
noncomputable def m4:Fn:=⟨2,3,false,(.cons (.set (.nm 2) (.lst (.cons (.con .non) (.cons (.con (.bl true)) (.cons (.con (.int 5)) (.cons (.con (.str "0")) (.cons (.lst (.cons (.con (.int 0)) .nil)) (.cons .dic (.cons (.tup (.cons (.var 0) .nil)) (.cons (.tup (.cons (.neg (.con (.int 1))) .nil)) (.cons (.tup (.cons (.con (.int 0)) (.cons (.con (.int 0)) .nil))) (.cons (.tup (.cons (.con (.bl true)) .nil)) (.cons (.tup (.cons (.tup (.cons (.con (.int 0)) .nil)) .nil)) (.cons (.tup (.cons (.con (.str "0")) .nil)) (.cons (.tup (.cons (.var 0) (.cons (.con (.int 0)) .nil))) (.cons (.lst .nil) (.cons (.tup (.cons (.con .non) .nil)) .nil))))))))))))))))) (.cons (.ret (.ix (.var 2) (.op .mod (.call "_law_stir" (.cons (.var 1) (.cons (.con (.int 61)) .nil))) (.con (.int 15))))) .nil))⟩
noncomputable def jn:Fn:=⟨2,2,false,(.cons (.ret (.ix (.lst (.cons (.var 0) (.cons (.neg (.con (.int 1))) (.cons (.con (.bl true)) (.cons (.con .non) (.cons (.con (.str "0")) (.cons (.tup (.cons (.con (.int 0)) .nil)) (.cons (.lst (.cons (.con (.int 0)) .nil)) (.cons (.op .pow (.con (.int 10)) (.con (.int 20))) (.cons (.con (.bl false)) .nil)))))))))) (.op .mod (.call "_law_stir" (.cons (.var 1) (.cons (.con (.int 62)) .nil))) (.con (.int 9))))) .nil)⟩
noncomputable def nh:Fn:=⟨3,6,false,(.cons (.set (.nm 3) (.lst .nil)) (.cons (.for (.tp [4,5]) (.enum (.var 0)) (.cons (.ite (.and (.cmp .eq (.op .band (.op .shr (.var 1) (.var 4)) (.con (.int 1))) (.con (.int 1))) (.cmp .eq (.op .band (.op .shr (.var 5) (.var 2)) (.con (.int 1))) (.con (.int 1)))) (.cons (.app 3 (.op .bor (.op .bxor (.var 1) (.op .shl (.con (.int 1)) (.var 4))) (.op .shl (.con (.int 1)) (.var 2)))) .nil) .nil) .nil)) (.cons (.ret (.own 3)) .nil)))⟩
noncomputable def oC:Fn:=⟨3,4,true,(.cons (.try2 (.cons (.ret (.call "moves" (.cons (.var 0) (.cons (.var 1) (.cons (.var 2) .nil))))) .nil) "NoPlaces" 3 (.cons (.retn (.ix (.lst (.cons (.con (.str "other")) (.cons (.con (.str "places")) .nil))) (.bi .int (.cons (.not (.isi (.var 3) (.ex "NoPlace"))) .nil)))) .nil) "NoPlace" (.cons (.retn (.con (.str "place"))) .nil)) .nil)⟩
noncomputable def ni:Fn:=⟨2,9,false,(.cons (.set (.nm 2) (.ix (.var 0) (.con (.int 0)))) (.cons (.set (.nm 3) (.call "_law_masks" (.cons (.var 0) .nil))) (.cons (.set (.nm 4) (.call "_law_some" (.cons (.var 2) (.cons (.var 1) .nil)))) (.cons (.for (.nm 5) (.rng (.var 2)) (.cons (.set (.nm 6) (.con (.str "place"))) (.cons (.ite (.cmp .eq (.op .band (.op .shr (.var 1) (.var 5)) (.con (.int 1))) (.con (.int 0))) (.cons (.set (.nm 6) (.bi .sorted (.cons (.comp (.seq (.call "_law_moves" (.cons (.var 3) (.cons (.var 1) (.cons (.var 5) .nil))))) [none,none,some 2] (.nm 1) .yes (.call "_law_some" (.cons (.var 2) (.cons (.var 1) .nil)))) .nil))) .nil) .nil) (.cons (.for (.nm 7) (.rng (.con (.int 2))) (.cons (.set (.nm 8) (.call "_law_told" (.cons (.var 0) (.cons (.var 4) (.cons (.var 5) .nil))))) (.cons (.ite (.or (.cmp .ne (.own 8) (.var 6)) (.and (.cmp .ne (.var 6) (.con (.str "place"))) (.not (.val (.bi .all (.cons (.comp (.seq (.own 8)) [none,none] (.nm 1) .yes (.isi (.var 1) (.ty "tuple"))) .nil)))))) (.cons (.ret (.con (.bl false))) .nil) .nil) (.cons (.ite (.cmp .ne (.var 6) (.con (.str "place"))) (.cons (.app 8 (.tup .nil)) .nil) .nil) .nil)))) .nil)))) (.cons (.ret (.con (.bl true))) .nil)))))⟩
noncomputable def gN:Fn:=⟨1,7,false,(.cons (.ite (.or (.not (.val (.call "_law_right" (.cons (.tup (.cons (.con (.int 1)) (.cons (.tup .nil) .nil))) (.cons (.con (.int 0)) .nil))))) (.or (.not (.val (.call "_law_right" (.cons (.tup (.cons (.con (.int 2)) (.cons (.tup (.cons (.tup (.cons (.con (.int 0)) (.cons (.con (.int 1)) .nil))) .nil)) .nil))) (.cons (.con (.int 1)) .nil))))) (.not (.val (.call "_law_right" (.cons (.tup (.cons (.con (.int 3)) (.cons (.tup (.cons (.tup (.cons (.con (.int 0)) (.cons (.con (.int 1)) .nil))) (.cons (.tup (.cons (.con (.int 0)) (.cons (.con (.int 2)) .nil))) .nil))) .nil))) (.cons (.con (.int 6)) .nil))))))) (.cons (.ret (.con (.bl false))) .nil) .nil) (.cons (.for (.nm 1) (.seq (.op .add (.lst (.cons (.call "_law_cell_at" (.cons (.var 0) (.cons (.con (.int 0)) .nil))) .nil)) (.sl (.var 0) (.some (.con (.int 1))) (.some (.con (.int 4)))))) (.cons (.set (.nm 2) (.call "_law_web" (.cons (.var 1) (.cons (.con (.int 8)) .nil)))) (.cons (.set (.nm 3) (.ix (.var 2) (.con (.int 0)))) (.cons (.par 4 5 (.call "_law_odd_some" (.cons (.var 3) (.cons (.var 1) .nil))) (.call "_law_odd_place" (.cons (.var 3) (.cons (.var 1) .nil)))) (.cons (.for (.nm 6) (.rng (.con (.int 4))) (.cons (.ite (.not (.val (.call "_law_right" (.cons (.var 2) (.cons (.op .mod (.call "_law_stir" (.cons (.var 1) (.cons (.op .add (.con (.int 10)) (.var 6)) .nil))) (.op .shl (.con (.int 1)) (.var 3))) .nil))))) (.cons (.ret (.con (.bl false))) .nil) .nil) .nil)) (.cons (.ite (.or (.cmp .ne (.call "_law_told" (.cons (.var 2) (.cons (.var 4) (.cons (.var 5) .nil)))) (.con (.str "places"))) (.cmp .ne (.call "_law_told" (.cons (.var 2) (.cons (.var 4) (.cons (.con (.int 0)) .nil)))) (.con (.str "places")))) (.cons (.ret (.con (.bl false))) .nil) .nil) (.cons (.ite (.or (.cmp .ne (.call "_law_told" (.cons (.var 2) (.cons (.tup .nil) (.cons (.var 5) .nil)))) (.con (.str "place"))) (.cmp .ne (.call "_law_told" (.cons (.var 2) (.cons (.tup (.cons (.op .sub (.var 3) (.con (.int 1))) .nil)) (.cons (.op .sub (.var 3) (.con (.int 1))) .nil)))) (.con (.str "place")))) (.cons (.ret (.con (.bl false))) .nil) .nil) .nil))))))) (.cons (.ret (.con (.bl true))) .nil)))⟩
abbrev rE:Ent:=⟨"is_whole",top 6,[],false,iK⟩
abbrev ye:Ent:=⟨"is_between",top 7,[],false,dU⟩
abbrev vN:Ent:=⟨"is_pair",top 8,[],false,gK⟩
abbrev tP:Ent:=⟨"rises",top 9,[],false,gX⟩
abbrev Cp:Ent:=⟨"is_web",top 12,[],false,ij⟩
abbrev vi:Ent:=⟨"is_tie",top 13,[],false,f_⟩
abbrev Bj:Ent:=⟨"need_web",top 14,[],false,hU⟩
abbrev BW:Ent:=⟨"is_place",top 15,[],false,eQ⟩
abbrev xp:Ent:=⟨"need_place",top 16,[],false,fz⟩
abbrev xc:Ent:=⟨"hood_of",top 17,[],false,eI⟩
abbrev u7:Ent:=⟨"are_tied",top 18,[],false,dQ⟩
abbrev BI:Ent:=⟨"is_some",top 20,[],false,fi⟩
abbrev rF:Ent:=⟨"need_some",top 21,[],false,fL⟩
abbrev xF:Ent:=⟨"mark_of",top 22,[],false,h9⟩
abbrev r8:Ent:=⟨"without",top 24,[],false,oU⟩
abbrev sF:Ent:=⟨"moves",top 26,[],true,fC⟩
abbrev vz:Ent:=⟨"moves_to",top 27,[],true,mM⟩
abbrev t6:Ent:=⟨"_law_cell_at",top 29,[],false,zU⟩
abbrev xo:Ent:=⟨"_law_stir",top 30,[],false,eB⟩
abbrev uw:Ent:=⟨"_law_web",top 31,[aG "_law_ties"],false,gL⟩
abbrev A7:Ent:=⟨"_law_masks",top 32,[aG "_law_found"],false,eW⟩
abbrev x5:Ent:=⟨"_law_some",top 33,[],false,fg⟩
abbrev Ba:Ent:=⟨"_law_odd_some",top 34,[],false,m4⟩
abbrev wX:Ent:=⟨"_law_odd_place",top 35,[],false,jn⟩
abbrev yy:Ent:=⟨"_law_moves",top 36,[aG "_law_found"],false,nh⟩
abbrev vq:Ent:=⟨"_law_told",top 37,[],true,oC⟩
abbrev sL:Ent:=⟨"_law_right",top 38,[aG "_law_found"],false,ni⟩
abbrev fZ:Ent:=⟨"law",top 39,[],false,gN⟩
abbrev tab:List Ent:=[rE,ye,vN,tP,Cp,vi,Bj,BW,xp,xc,u7,BI,rF,xF,r8,sF,vz,t6,xo,uw,A7,x5,Ba,wX,yy,vq,sL,fZ]
abbrev oth:List (Str×GK):=[(aG "NoWeb",GK.exc),(aG "NoPlaces",GK.exc),(aG "NoPlace",GK.exc),(aG "MOST",GK.val),(aG "len",GK.bi .len),(aG "tuple",GK.ty "tuple" (some .tuple)),(aG "int",GK.ty "int" (some .int)),(aG "bool",GK.ty "bool" (some .bool)),(aG "sorted",GK.bi .sorted),(aG "all",GK.bi .all),(aG "min",GK.bi .min),(aG "max",GK.bi .max),(aG "range",GK.rng),(aG "enumerate",GK.enum),(aG "isinstance",GK.isi)]
abbrev vals:List (Str×D):=[(aG "MOST",(.int 8))]
abbrev G:List (Str×GK):=tab.map (λe=>(e.x,GK.fn e.fr))++oth
abbrev cA:List (Str×Str):=[(aG "NoPlaces",aG "NoPlaces"),(aG "NoPlace",aG "NoPlace")]
abbrev us:List Ent:=[]
abbrev subs:List ((Str×Cl)×Bool):=[((aG "NoPlaces",.ty "ValueError"),true),((aG "NoPlaces",.ex (aG "NoPlace")),false),((aG "NoPlaces",.ex (aG "NoPlaces")),true),((aG "NoPlace",.ty "ValueError"),true),((aG "NoPlace",.ex (aG "NoPlace")),true),((aG "NoPlace",.ex (aG "NoPlaces")),false)]
abbrev p:Pr:=prT tab vals cA subs
theorem ya:p.fns "mark_of" = some h9:=by kernel_rfl
theorem Bo:p.fns "without" = some oU:=by kernel_rfl
theorem i':p.fns "moves" = some fC:=by kernel_rfl
theorem rg:p.fns "moves_to" = some mM:=by kernel_rfl
theorem rf:p.fns "_law_odd_some" = some m4:=by kernel_rfl
theorem xP:p.fns "_law_odd_place" = some jn:=by kernel_rfl
theorem xk:p.fns "_law_moves" = some nh:=by kernel_rfl
theorem jB:p.fns "_law_told" = some oC:=by kernel_rfl
theorem sP:p.fns "_law_right" = some ni:=by kernel_rfl
theorem yf:p.fns "law" = some gN:=by kernel_rfl
end K70
namespace KG
open EV
open PySem (Str)
open L2 (atI ixN ltP)
noncomputable def hz(m:Int)(ts:List (Int×Int))(s:List Int):Bool:=(rng m).all λa=>!(mk m ts s a).isEmpty
noncomputable def hl(m:Int)(ts:List (Int×Int)):List (List Int):=(du (subs m.toNat)).filter (hz m ts)
noncomputable def xh:Fn:=⟨1,3,false,(.cons (.ite (.not (.val (.call "is_pair" (.cons (.var 0) .nil)))) (.cons (.ret (.con (.bl false))) .nil) .nil) (.cons (.set (.tp [1,2]) (.var 0)) (.cons (.ite (.or (.not (.val (.call "is_whole" (.cons (.var 1) .nil)))) (.not (.val (.call "is_whole" (.cons (.var 2) .nil))))) (.cons (.ret (.con (.bl false))) .nil) .nil) (.cons (.ret (.and (.cmp .ge (.var 1) (.con (.int 0))) (.and (.cmp .ge (.var 2) (.con (.int 1))) (.cmp .eq (.call "common_divisor" (.cons (.var 1) (.cons (.var 2) .nil))) (.con (.int 1)))))) .nil))))⟩
noncomputable def BX:Fn:=⟨2,2,false,(.cons (.while (.cmp .gt (.var 0) (.con (.int 0))) (.cons (.par 0 1 (.op .mod (.var 1) (.var 0)) (.var 0)) .nil)) (.cons (.ret (.var 1)) .nil))⟩
noncomputable def Cd:Fn:=⟨2,3,false,(.cons (.set (.nm 2) (.call "common_divisor" (.cons (.var 0) (.cons (.var 1) .nil)))) (.cons (.ret (.tup (.cons (.op .fdiv (.var 0) (.var 2)) (.cons (.op .fdiv (.var 1) (.var 2)) .nil)))) .nil))⟩
noncomputable def AI:Fn:=⟨2,2,false,(.cons (.ret (.call "lowest" (.cons (.op .add (.op .mul (.ix (.var 0) (.con (.int 0))) (.ix (.var 1) (.con (.int 1)))) (.op .mul (.ix (.var 1) (.con (.int 0))) (.ix (.var 0) (.con (.int 1))))) (.cons (.op .mul (.ix (.var 0) (.con (.int 1))) (.ix (.var 1) (.con (.int 1)))) .nil)))) .nil)⟩
noncomputable def yJ:Fn:=⟨1,3,false,(.cons (.set (.nm 1) (.glb "NOTHING")) (.cons (.for (.nm 2) (.seq (.var 0)) (.cons (.set (.nm 1) (.call "plus" (.cons (.var 1) (.cons (.var 2) .nil)))) .nil)) (.cons (.ret (.var 1)) .nil)))⟩
noncomputable def pK:Fn:=⟨2,2,false,(.cons (.ite (.or (.not (.val (.isi (.var 1) (.ty "tuple")))) (.cmp .ne (.bi .len (.cons (.var 1) .nil)) (.ix (.var 0) (.con (.int 0))))) (.cons (.ret (.con (.bl false))) .nil) .nil) (.cons (.ret (.bi .all (.cons (.comp (.seq (.var 1)) [none,none] (.nm 1) .yes (.call "is_fraction" (.cons (.var 1) .nil))) .nil))) .nil))⟩
noncomputable def tZ:Fn:=⟨2,2,false,(.cons (.ite (.not (.val (.call "is_shares" (.cons (.var 0) (.cons (.var 1) .nil))))) (.cons (.raise "NoShares" (.cons (.con (.str "a tuple of one fraction for each place is due")) .nil)) .nil) .nil) .nil)⟩
noncomputable def vZ:Fn:=⟨2,2,false,(.cons (.exp (.call "need_web" (.cons (.var 0) .nil))) (.cons (.exp (.call "need_shares" (.cons (.var 0) (.cons (.var 1) .nil)))) (.cons (.ret (.call "summed" (.cons (.var 1) .nil))) .nil)))⟩
noncomputable def xg:Fn:=⟨2,2,false,(.cons (.exp (.call "need_web" (.cons (.var 0) .nil))) (.cons (.exp (.call "need_shares" (.cons (.var 0) (.cons (.var 1) .nil)))) (.cons (.ret (.bi .tuple (.cons (.comp (.seq (.call "hoods" (.cons (.var 0) .nil))) [none,none,some 1] (.nm 1) .yes (.call "summed" (.cons (.comp (.seq (.var 1)) [none,none,some 2] (.nm 1) .yes (.ix (.var 2) (.var 1))) .nil))) .nil))) .nil)))⟩
noncomputable def tJ:Fn:=⟨2,4,false,(.cons (.par 2 3 (.var 0) (.var 1)) (.cons (.while (.cmp .gt (.var 3) (.con (.int 0))) (.cons (.par 2 3 (.var 3) (.op .mod (.var 2) (.var 3))) .nil)) (.cons (.ret (.tup (.cons (.op .fdiv (.var 0) (.var 2)) (.cons (.op .fdiv (.var 1) (.var 2)) .nil)))) .nil)))⟩
noncomputable def Bn:Fn:=⟨1,5,false,(.cons (.set (.tp [1,2]) (.tup (.cons (.con (.int 0)) (.cons (.con (.int 1)) .nil)))) (.cons (.for (.tp [3,4]) (.seq (.var 0)) (.cons (.set (.tp [1,2]) (.call "_law_fit" (.cons (.op .add (.op .mul (.var 1) (.var 4)) (.op .mul (.var 3) (.var 2))) (.cons (.op .mul (.var 2) (.var 4)) .nil)))) .nil)) (.cons (.ret (.tup (.cons (.var 1) (.cons (.var 2) .nil)))) .nil)))⟩
noncomputable def sH:Fn:=⟨2,4,false,(.cons (.set (.nm 2) (.lst .nil)) (.cons (.for (.nm 3) (.seq (.call "_law_masks" (.cons (.var 0) .nil))) (.cons (.app 2 (.call "_law_sum" (.cons (.comp (.rng (.ix (.var 0) (.con (.int 0)))) [none,none,some 3,some 1] (.nm 1) (.cmp .eq (.op .band (.op .shr (.var 2) (.var 1)) (.con (.int 1))) (.con (.int 1))) (.ix (.var 3) (.var 1))) .nil))) .nil)) (.cons (.ret (.bi .tuple (.cons (.own 2) .nil))) .nil)))⟩
structure Frc(p:Pr):Prop where
 is_fraction:p.fns "is_fraction" = some xh
 common_divisor:p.fns "common_divisor" = some BX
 lowest:p.fns "lowest" = some Cd
 plus:p.fns "plus" = some AI
 summed:p.fns "summed" = some yJ
 is_shares:p.fns "is_shares" = some pK
 need_shares:p.fns "need_shares" = some tZ
 total:p.fns "total" = some vZ
 hood_totals:p.fns "hood_totals" = some xg
 _law_fit:p.fns "_law_fit" = some tJ
 _law_sum:p.fns "_law_sum" = some Bn
 _law_totals:p.fns "_law_totals" = some sH
 _law_masks:p.fns "_law_masks" = some eW
 _law_whole:p.fns "_law_whole" = some wJ
 NOTHING:p.glb "NOTHING" = some (.tup [.int 0,.int 1])
noncomputable def nf(a b:Nat):Nat×Nat:=(a/Nat.gcd a b,b/Nat.gcd a b)
noncomputable def ad(x y:Nat×Nat):Nat×Nat:=nf (x.1 * y.2+y.1 * x.2) (x.2 * y.2)
abbrev fr(x:Nat×Nat):D:=.tup [.int (x.1:Nat),.int (x.2:Nat)]
noncomputable def Gd(L:Nat)(x:Nat×Nat):Prop:=0<x.2/\x.2 ∣ L
section
variable{p:Pr}(F:Frc p)
include F
omit F in
omit F in
omit F in
omit F in
omit F in
omit F in
omit F in
abbrev sm(xs:List (Nat×Nat)):Nat×Nat:=xs.foldl ad (0,1)
omit F in
omit F in
omit F in
structure Shs(m:Int)(L:Nat)(xs:List (Nat×Nat)):Prop where
 len:(xs.length:Int)=m
 ok:∀x∈xs,Gd L x/\Nat.Coprime x.1 x.2
 pos:0<L
 lt:L<1000000000000
omit F in
omit F in
omit F in
omit F in
end
theorem nD{p:Pr}(hf:p.fns "_law_some" = some fg){k:Nat}{m:Int}(h1:0<=m)(h2:m<=8)(n:Nat):qc p (k+1) "_law_some" [.int m,.int n]=.ok (tu (bs m n)):=by
 rw[qh hf];refine zg rfl rfl ?_;have hc:evE ⟨qc p k,p.glb,p.sub,p.cat⟩ (.comp (.rng (.var 0)) [none,none,some 1] (.nm 1) (.cmp .eq (.op .band (.op .shr (.var 2) (.var 1)) (.con (.int 1))) (.con (.int 1))) (.var 1)) [some (.int m),some (.int n)]=.ok (.lst ((bs m n).map D.int)):=by
  rw[bs,<-nQ,<-fk];refine fE (c:=[some (.int n)]) ?_ ?_ rfl ?_
  ·have:qZ m=true:=by simp[qZ];lia
   simp[KG.Z,this]
  ·simp[zZ,SZ];lia
  ·intro x hx;rw[fk,bg]at hx;obtain⟨b,hb,rfl⟩:=hx;obtain⟨b0,b1⟩:=fo.mp hb;have e:=iD n b.toNat;have e2:qk .eq (.int (ck ((n:Int)/2^b.toNat) 1)) (.int 1)=.ok (n.testBit b.toNat):=by
    rw[e,eq_int];cases n.testBit b.toNat<;>rfl
   simp[KG.Z,op2,b0,e2];cases n.testBit b.toNat<;>simp
 simp[KG.Z,KG.fg,hc,b1,seq?]
end KG
namespace K70
open EV KG
open PySem (Str)
open L2 (atI ixN ltP)
theorem Wb:Web p:=⟨by kernel_rfl,by kernel_rfl,by kernel_rfl,by kernel_rfl,by kernel_rfl,by kernel_rfl,by kernel_rfl,by kernel_rfl⟩
theorem Dr:fq p:=⟨by kernel_rfl,by kernel_rfl,by kernel_rfl⟩
theorem S:fU p:=⟨by kernel_rfl,by kernel_rfl,by kernel_rfl⟩
theorem hMs:p.fns "_law_masks" = some KG.eW:=by kernel_rfl
theorem hSo:p.fns "_law_some" = some KG.fg:=by kernel_rfl
theorem hHo:p.fns "hood_of" = some KG.eI:=by kernel_rfl
theorem hAt:p.fns "are_tied" = some KG.dQ:=by kernel_rfl
theorem hPl:p.fns "need_place" = some KG.fz:=by kernel_rfl
theorem Bw{k:Nat}(n s:List Int)(hz:s.length<=8):qc p (k+1) "mark_of" [tu n,tu s]=.ok (tu (s.filter λx=>n.any λt=>t==x)):=by
 rw[qh ya];refine zg (τ:=[some (tu n),some (tu s)]) rfl rfl ?_;have hc:evE ⟨qc p k,p.glb,p.sub,p.cat⟩ (.comp (.seq (.var 1)) [none,none,some 0] (.nm 1) (.cmp .isin (.var 1) (.var 2)) (.var 1)) [some (tu n),some (tu s)]=.ok (.lst ((s.filter λx=>n.any λt=>t==x).map D.int)):=
  j_ (f:=D.int) (c:=[some (tu n)]) (λx=>n.any λt=>t==x) D.int (iS rfl) (by simp[SZ];lia) rfl λy _=>⟨jz n y,λ_=>rfl⟩
 show qf _ (.cons (.ret (.bi .tuple (.cons _ .nil))) .nil) _=_;rw[qf,zt,qi,zi,hc];simp only[R.bind_ok,zi]
 rfl
theorem y9{k:Nat}(s:List Int)(hl:s.length<=8)(x:Int):qc p (k+1) "without" [tu s,.int x]=.ok (tu (s.filter λy=>!decide (y=x))):=by
 rw[qh Bo];refine zg (τ:=[some (tu s),some (.int x)]) rfl rfl ?_;have hc:evE ⟨qc p k,p.glb,p.sub,p.cat⟩ (.comp (.seq (.var 0)) [none,none,some 1] (.nm 1) (.cmp .ne (.var 1) (.var 2)) (.var 1)) [some (tu s),some (.int x)]=.ok (.lst ((s.filter λy=>!decide (y=x)).map D.int)):=
  j_ (f:=D.int) (c:=[some (.int x)]) (λy=>!decide (y=x)) D.int (iS rfl) (by simp[SZ];lia) rfl λy _=>⟨KG.ne_int y x,λ_=>rfl⟩
 show qf _ (.cons (.ret (.bi .tuple (.cons _ .nil))) .nil) _=_;rw[qf,zt,qi,zi,hc];simp only[R.bind_ok,zi]
 rfl
noncomputable def mv(n g q:Nat):Nat:=(n ^^^ 2^g) ||| 2^q
noncomputable def gd(m:Int)(ts:List (Int×Int))(n q:Nat):List Nat:=(a9 m.toNat).filter λg=>n.testBit g&&near ts g q
theorem jg(m:Int)(hm:m<=8)(ts:List (Int×Int))(n q:Nat):(gd m ts n q).length<=8:=bp (List.length_filter_le _ _) (by simp;lia)
theorem xI{m:Int}{ts:List (Int×Int)}(h:GW m ts)(n q:Nat):((bs m n).filter λx=>(hd m ts q).any λt=>t==x)=(gd m ts n q).map λ(g:Nat)=>(g:Int):=by
 refine jt ((fS h.hi n).lt.sublist List.filter_sublist) ?_ λx=>?_
 ·rw[List.pairwise_map];exact(List.pairwise_lt_range.sublist List.filter_sublist).imp λh=>by lia
 ·simp only[b4,List.any_eq_true,beq_iff_eq,exists_eq_right,uy,ff,gd,bg,List.mem_range,aF];constructor
  ·rintro⟨⟨⟨x0,xm⟩,xb⟩,_,hz⟩;refine⟨x.toNat,⟨by lia,xb,?_⟩,by lia⟩;rw[kC h,show ((x.toNat:Nat):Int)=x by lia];simp only[bh,beq_iff_eq];rcases hz with hz|hz
   ·left;lia
   ·right;rw[lA];exact hz
  ·rintro⟨g,⟨gm,gb,gn⟩,rfl⟩;rw[kC h]at gn;simp only[bh,beq_iff_eq]at gn;refine⟨⟨⟨by lia,by lia⟩,by simpa using gb⟩,⟨by lia,by lia⟩,?_⟩;rcases gn with z|z
   ·left;lia
   ·right;rw[lA];exact z
theorem rj{m:Int}(hm:m<=8){n g q:Nat}(hq:(q:Int)<m)(hg:n.testBit g=true)(hf:n.testBit q=false):sortI (((bs m n).filter λy=>!decide (y=(g:Int)))++[(q:Int)])=bs m (mv n g q):=by
 have nq:(q:Int)∉bs m n:=λz=>by
  have:=(ff.mp z).2;simp[hf]at this
 refine jt (xt ?_) (fS hm _).lt λx=>?_
 ·rw[List.nodup_append];refine⟨((fS hm n).lt.imp λh=>by lia).filter _,by simp,λa ha b hb z=>?_⟩;simp at hb;subst hb z;exact nq (b4.mp ha).1
 ·rw[o4,List.mem_append,b4,ff,ff,List.mem_singleton,mv,Nat.testBit_or,Nat.testBit_xor,Nat.testBit_two_pow,Nat.testBit_two_pow];constructor
  ·rintro(⟨⟨⟨x0,xm⟩,xb⟩,hx⟩|rfl)
   ·refine⟨⟨x0,xm⟩,?_⟩;have:g≠x.toNat:=λz=>by simp at hx;lia
    simp[xb,this]
   ·exact⟨⟨by lia,hq⟩,by simp⟩
  ·rintro⟨⟨x0,xm⟩,hb⟩;by_cases e:q=x.toNat
   ·right;lia
   ·left;by_cases e2:g=x.toNat
    ·subst e2;simp[hg,e]at hb
    ·simp[e,e2]at hb;exact⟨⟨⟨x0,xm⟩,hb⟩,by simp;lia⟩
theorem t7(ns:List Int)(h:ns.length<64):b1 .sorted [.tup (ns.map D.int)]=.ok (.lst ((sortI ns).map D.int)):=by
 show (if (ns.map D.int).length<64 then cG (ints? (ns.map D.int)) λns=>R.ok (D.lst ((sortI ns).map D.int))else .no)=_;rw[if_pos (by simpa using h),ints_map];rfl
theorem srt(L:List (List Int))(h:L.length<64)(h0:∀t∈L,t≠[]):∃M:List (List Int),b1 .sorted [.lst (L.map tu)]=.ok (.lst (M.map tu))/\M.length=L.length:=by
 rw[n8,if_pos (by simpa using h)];cases L with
 |nil=>exact⟨[],rfl,rfl⟩
 |cons a r=>
  have e1:ints? ((a::r).map tu)=none:=rfl;rw[e1];dsimp only;cases e2:pairs? ((a::r).map tu)with
  |some ps=>
   have e3:=km e2;rw[ku]at e3;injection e3 with e3
   refine⟨(b_ ps).map λp=>[p.1,p.2],by rw[bE];rfl,?_⟩;rw[e3,bc,bc,(ju ps).length_eq]
  |none=>
   refine⟨du (a::r),?_,(jV _).length_eq⟩;have e4:eP (a::r)=true:=by
    cases r with
    |nil=>rfl
    |cons b r=>
     rw[eP,bh];right;rw[cY];intro t ht;have:=h0 t ht;cases t with
     |nil=>exact absurd rfl this
     |cons _ _=>rfl
   show cj _=_;rw[cj,if_pos (by simpa using h),ku];show (if eP (a::r)=true then _ else _)=_;rw[e4];rfl
noncomputable def ml(m:Int)(ts:List (Int×Int))(n q:Nat):List (List Int):=(gd m ts n q).map λg=>bs m (mv n g q)
theorem k7(m:Int)(hm:m<=8)(ts:List (Int×Int))(n q:Nat):(ml m ts n q).length<=8:=by rw[ml,bc];exact jg m hm ts n q
theorem vT{m:Int}{ts:List (Int×Int)}{n q:Nat}(hq:(q:Int)<m):∀t∈ml m ts n q,t≠[]:=by
 intro t ht z;subst z;obtain⟨g,_,e⟩:=bg.mp ht;have:(q:Int)∈bs m (mv n g q):=ff.mpr ⟨⟨by lia,hq⟩,by rw[mv,Nat.testBit_or,Nat.testBit_two_pow];simp⟩;rw[e]at this;cases this
theorem xa{k:Nat}{m:Int}{ts:List (Int×Int)}(h:GW m ts){n q:Nat}(hq:(q:Int)<m)(hf:n.testBit q=false){M:List (List Int)}(hM:b1 .sorted [.lst ((ml m ts n q).map tu)]=.ok (.lst (M.map tu))):qc p (k+2) "moves_to" [tu (hd m ts q),tu (bs m n),.int q]=.ok (.lst (M.map tu)):=by
 have hl:=(fS h.hi n).len;have hm:=h.hi;rw[qh rg];refine zg (τ:=[some (tu (hd m ts q)),some (tu (bs m n)),some (.int q)]) rfl rfl ?_;have e1:=Bw (k:=k) (hd m ts q) (bs m n) hl;rw[xI h]at e1;have hc:evE ⟨qc p (k+1),p.glb,p.sub,p.cat⟩ (.comp (.seq (.call "mark_of" (.cons (.var 0) (.cons (.var 1) .nil)))) [none,none,some 2,some 1] (.nm 1) .yes (.bi .tuple (.cons (.bi .sorted (.cons (.op .add (.call "without" (.cons (.var 3) (.cons (.var 1) .nil))) (.tup (.cons (.var 2) .nil))) .nil)) .nil))) [some (tu (hd m ts q)),some (tu (bs m n)),some (.int q)]=.ok (.lst ((ml m ts n q).map tu)):=by
  rw[ml,bE];refine gE (f:=λ(g:Nat)=>D.int (g:Int)) (c:=[some (.int q),some (tu (bs m n))]) _ (iS (xs:=(gd m ts n q).map λ(g:Nat)=>D.int (g:Int)) ?_) (by have:=jg m hm ts n q;simp[SZ];lia) rfl ?_
  ·have e1':qc p (k+1) "mark_of" [tu (hd m ts q),tu (bs m n)]=.ok (.tup ((gd m ts n q).map λ(g:Nat)=>D.int (g:Int))):=by rw[e1,tu,bE];rfl
   generalize tu (hd m ts q)=U1 at *;generalize tu (bs m n)=U2 at *;simp[KG.Z,e1']
  ·intro g hg;have hgb:n.testBit g=true:=by
    have:=(b4.mp hg).2;simp only[aF]at this;exact this.1
   have a1:=y9 (k:=k) (bs m n) hl (g:Int);have a2:op2 .add (tu ((bs m n).filter λy=>!decide (y=(g:Int)))) (.tup [.int q])=.ok (tu (((bs m n).filter λy=>!decide (y=(g:Int)))++[(q:Int)])):=by
    have:=List.length_filter_le (λy=>!decide (y=(g:Int))) (bs m n);rw[op2,if_pos ⟨rfl,by simp[SZ];lia⟩,tu,List.map_append];rfl
   have a3:=t7 (((bs m n).filter λy=>!decide (y=(g:Int)))++[(q:Int)]) (by have:=List.length_filter_le (λy=>!decide (y=(g:Int))) (bs m n);simp;lia);rw[rj hm hq hgb hf]at a3;have a3:b1 .sorted [tu (((bs m n).filter λy=>!decide (y=(g:Int)))++[(q:Int)])]=.ok (.lst ((bs m (mv n g q)).map D.int)):=a3;have a4:b1 .tuple [.lst ((bs m (mv n g q)).map D.int)]=.ok (tu (bs m (mv n g q))):=rfl;show evE _ _ [none,some (.int (g:Int)),some (.int q),some (tu (bs m n))]=.ok (tu (bs m (mv n g q)));generalize tu (((bs m n).filter λy=>!decide (y=(g:Int)))++[(q:Int)])=U2 at *;generalize tu ((bs m n).filter λy=>!decide (y=(g:Int)))=U1 at *;generalize tu (bs m n)=U0 at *;generalize (bs m (mv n g q)).map D.int=U3 at *;simp[KG.Z,a1,a2,a3,a4]
 show qf _ (.cons (.ret (.bi .sorted (.cons _ .nil))) .nil) _=_;rw[qf,zt,qi,zi,hc];simp only[R.bind_ok,zi,hM,R.out_ok]
theorem hV{w:W}{f:Fn}{ds:List D}{c:Str}{τ:Env}(hl:ds.length=f.ps)(hτ:ds.map some++bK (f.N-f.ps) none=τ)(h:qf w f.body τ=.ex c):cC w f ds=.ex c:=by
 rw[cC,if_pos hl,hτ,h]
theorem vx{k:Nat}{u d:D}(h:qc p (k+3) "is_place" [u,d]=.ok (.bl false)):qc p (k+4) "need_place" [u,d]=.ex "NoPlace":=by
 rw[qh hPl];refine hV (τ:=[some u,some d]) rfl rfl ?_;simp[KG.Z,KG.fz,h]
theorem vJ{k:Nat}{u d:D}(h:qc p (k+4) "is_some" [u,d]=.ok (.bl false)):qc p (k+5) "need_some" [u,d]=.ex "NoPlaces":=by
 rw[qh S.need_some];refine hV (τ:=[some u,some d]) rfl rfl ?_;simp[KG.Z,KG.fL,h]
theorem Bz{k:Nat}{m:Int}{ts:List (Int×Int)}(h:GW m ts){d x:D}(hd:qc p (k+4) "is_some" [wb m ts,d]=.ok (.bl false)):qc p (k+6) "moves" [wb m ts,d,x]=.ex "NoPlaces":=by
 have e1:=need_web Wb (k:=k+1) h;have e2:=vJ hd;generalize wb m ts=U at *;rw[qh i'];refine hV (τ:=[some U,some d,some x]) rfl rfl ?_;simp[KG.Z,fC,e1,e2]
theorem uC{k:Nat}{m:Int}{ts:List (Int×Int)}(h:GW m ts){s:List Int}(g:GS m s){x:D}(hd:qc p (k+4) "is_place" [wb m ts,x]=.ok (.bl false)):qc p (k+6) "moves" [wb m ts,tu s,x]=.ex "NoPlace":=by
 have e1:=need_web Wb (k:=k+1) h;have e2:qc p (k+5) "need_some" [wb m ts,tu s]=.ok .non:=need_some Wb S (k:=k) (t:=.tup (ts.map prD)) g;have e3:=vx hd;generalize wb m ts=U at *;generalize tu s=V at *;rw[qh i'];refine hV (τ:=[some U,some V,some x]) rfl rfl ?_;simp[KG.Z,fC,e1,e2,e3]
theorem oO{k:Nat}{m:Int}{ts:List (Int×Int)}(h:GW m ts){s:List Int}(g:GS m s){q:Int}(hq:q∈s):qc p (k+6) "moves" [wb m ts,tu s,.int q]=.ex "NoPlace":=by
 have e1:=need_web Wb (k:=k+1) h;have e2:qc p (k+5) "need_some" [wb m ts,tu s]=.ok .non:=need_some Wb S (k:=k) (t:=.tup (ts.map prD)) g;have e3:qc p (k+5) "need_place" [wb m ts,.int q]=.ok .non:=kT Wb S hPl (k:=k+1) q m (.tup (ts.map prD)) (g.ok q hq);have e4:qk .isin (.int q) (tu s)=.ok true:=by rw[jz];congr 1;simpa using hq
 generalize wb m ts=U at *;generalize tu s=V at *;rw[qh i'];refine hV (τ:=[some U,some V,some (.int q)]) rfl rfl ?_;simp[KG.Z,fC,e1,e2,e3,e4]
theorem yd{k:Nat}{m:Int}{ts:List (Int×Int)}(h:GW m ts){n q:Nat}(hq:(q:Int)<m)(hf:n.testBit q=false){M:List (List Int)}(hM:b1 .sorted [.lst ((ml m ts n q).map tu)]=.ok (.lst (M.map tu))):qc p (k+6) "moves" [wb m ts,tu (bs m n),.int q]=.ok (.lst (M.map tu)):=by
 have g:=fS h.hi n;have e1:=need_web Wb (k:=k+1) h;have e2:qc p (k+5) "need_some" [wb m ts,tu (bs m n)]=.ok .non:=need_some Wb S (k:=k) (t:=.tup (ts.map prD)) g;have e3:qc p (k+5) "need_place" [wb m ts,.int q]=.ok .non:=kT Wb S hPl (k:=k+1) (q:Int) m (.tup (ts.map prD)) ⟨by lia,hq⟩;have e4:qk .isin (.int q) (tu (bs m n))=.ok false:=by
  rw[jz];congr 1;rw[List.any_eq_false];intro x hx z;have:x=(q:Int):=by simpa using z
  subst this;have:=(ff.mp hx).2;simp[hf]at this
 have e5:=lD hHo hAt (k:=k+3) h (q:Int);have e6:=xa (k:=k+3) h hq hf hM;generalize wb m ts=U at *;generalize tu (bs m n)=V at *;generalize tu (hd m ts q)=X at *;rw[qh i'];refine zg (τ:=[some U,some V,some (.int q)]) rfl rfl ?_;simp[KG.Z,fC,e1,e2,e3,e4,e5,e6]
theorem vm{k:Nat}{a b c d:D}(h:qc p k "moves" [a,b,c]=.ok d):qc p (k+1) "_law_told" [a,b,c]=.ok d:=by
 rw[qh jB];refine zg (τ:=[some a,some b,some c,none]) rfl rfl ?_;have e:qf ⟨qc p k,p.glb,p.sub,p.cat⟩ (.cons (.ret (.call "moves" (.cons (.var 0) (.cons (.var 1) (.cons (.var 2) .nil))))) .nil) [some a,some b,some c,none]=.rt d:=by simp[KG.Z,h]
 show qf _ (.cons (.try2 _ _ _ _ _ _) .nil) _=_;rw[qf,zp,e]
theorem c1:p.cat "NoPlaces" "NoPlaces" = true:=by kernel_rfl
theorem c2:p.cat "NoPlace" "NoPlaces" = false:=by kernel_rfl
theorem c3:p.cat "NoPlace" "NoPlace" = true:=by kernel_rfl
theorem c4:p.sub "NoPlace" (.ex "NoPlaces")=some false:=by kernel_rfl
theorem c5:p.sub "NoPlaces" (.ex "NoPlace")=some false:=by kernel_rfl
theorem pD{k:Nat}{a b c:D}(h:qc p k "moves" [a,b,c]=.ex "NoPlaces"):qc p (k+1) "_law_told" [a,b,c]=.ok (.str "places"):=by
 rw[qh jB];refine zg (τ:=[some a,some b,some c,none]) rfl rfl ?_;have e:qf ⟨qc p k,p.glb,p.sub,p.cat⟩ (.cons (.ret (.call "moves" (.cons (.var 0) (.cons (.var 1) (.cons (.var 2) .nil))))) .nil) [some a,some b,some c,none]=.ex "NoPlaces":=by simp[KG.Z,h]
 have e0:b9 ⟨qc p k,p.glb,p.sub,p.cat⟩ (.exn "NoPlaces") (.ex "NoPlace")=.ok (.bl false):=by simp[b9,tyD,c5]
 have e2:qf ⟨qc p k,p.glb,p.sub,p.cat⟩ (.cons (.retn (.ix (.lst (.cons (.con (.str "other")) (.cons (.con (.str "places")) .nil))) (.bi .int (.cons (.not (.isi (.var 3) (.ex "NoPlace"))) .nil)))) .nil) (cc [some a,some b,some c,none] (some 3) "NoPlaces")=.rt (.str "places"):=by
  have e3:evE ⟨qc p k,p.glb,p.sub,p.cat⟩ (.isi (.var 3) (.ex "NoPlace")) (cc [some a,some b,some c,none] (some 3) "NoPlaces")=.ok (.bl false):=by
   rw[qq];exact e0
  generalize cc [some a,some b,some c,none] (some 3) "NoPlaces" = τ at *;rw[qf,zu,ql,qi];rw[zi,za,e3]
  rfl
 show qf _ (.cons (.try2 _ _ _ _ _ _) .nil) _=_;rw[qf,zp,e];dsimp only;rw[if_pos c1,e2];rfl
theorem j7{k:Nat}{a b c:D}(h:qc p k "moves" [a,b,c]=.ex "NoPlace"):qc p (k+1) "_law_told" [a,b,c]=.ok (.str "place"):=by
 rw[qh jB];refine zg (τ:=[some a,some b,some c,none]) rfl rfl ?_;have e:qf ⟨qc p k,p.glb,p.sub,p.cat⟩ (.cons (.ret (.call "moves" (.cons (.var 0) (.cons (.var 1) (.cons (.var 2) .nil))))) .nil) [some a,some b,some c,none]=.ex "NoPlace":=by simp[KG.Z,h]
 show qf _ (.cons (.try2 _ _ _ _ _ _) .nil) _=_;rw[qf,zp,e];dsimp only;rw[if_neg (by rw[c2];decide),if_pos ⟨c1,c4,c3⟩];rfl
theorem vM:∀n:Fin 256,∀g:Fin 8,((n.val ||| 2^g.val:Nat):Int)-((n.val &&& 2^g.val:Nat):Int)=((n.val ^^^ 2^g.val:Nat):Int):=by decide +kernel
theorem uG{n g:Nat}(hn:n<256)(hg:g<8):PySem.Builtin.bitXor (n:Int) ((2^g:Nat):Int)=((n ^^^ 2^g:Nat):Int):=by
 rw[PySem.Builtin.bitXor,jq,mm];exact vM ⟨n,hn⟩ ⟨g,hg⟩
theorem xO(ts:List (Int×Int))(n q j:Nat):((a9 (j+1)).filter λg=>n.testBit g&&near ts g q)=((a9 j).filter λg=>n.testBit g&&near ts g q)++(if n.testBit j&&near ts j q then [j]else []):=by
 rw[List.range_succ,List.filter_append]
 congr 1
 rw[List.filter_cons];split<;>rfl
abbrev LM(N:List Nat)(n q:Nat)(L:List Nat)(v4 v5:Option D):Env:=[some (ln N),some (.int (n:Int)),some (.int (q:Int)),some (.lst (L.map λg=>D.int ((mv n g q:Nat):Int))),v4,v5]
theorem By{k:Nat}{m:Int}{ts:List (Int×Int)}(h2:m<=8){N:List Nat}(hN:fV m ts N){n q:Nat}(hn:n<256)(hq:q<8):qc p (k+1) "_law_moves" [ln N,.int n,.int q]=.ok (.lst ((gd m ts n q).map λg=>D.int ((mv n g q:Nat):Int))):=by
 obtain⟨d,e,rfl⟩:∃d,qc p (k+1) "_law_moves" [ln N,.int n,.int q]=.ok d/\d=.lst ((gd m ts n q).map λg=>D.int ((mv n g q:Nat):Int)):=by
  refine iw (k:=k) (τ:=[some (ln N),some (.int n),some (.int q),none,none,none]) xk rfl rfl ?_;refine zx (σ:=LM N n q [] none none) (by rfl) ?_;have hl:=hN.len;refine eu (ds:=(List.range' 0 N.length).map λ(g:Nat)=>.tup [.int (g:Int),.int ((N.getD g 0:Nat):Int)]) (λr σ=>∃(j:Nat) (v4 v5:Option D),j<=N.length/\(r=(List.range' j (N.length-j)).map λ(g:Nat)=>.tup [.int (g:Int),.int ((N.getD g 0:Nat):Int)])/\σ=LM N n q ((a9 j).filter λg=>n.testBit g&&near ts g q) v4 v5) (by have:=pU N 0;simp only[Nat.sub_zero]at this;simp[KG.Z,LM,this]) ⟨0,none,none,by lia,rfl,rfl⟩ ?_ ?_
  ·rintro x r σ ⟨j,v4,v5,hj,er,rfl⟩;by_cases hjm:j=N.length
   ·subst hjm;simp at er
   ·have ej:N.length-j=(N.length-(j+1))+1:=by lia
    have hj':j<N.length:=by lia
    rw[ej,List.range'_succ,aU]at er;injection er with e1 e2
    subst e1 e2;have eg:N.getD j 0=N[j]:=by simp[hj']
    rw[eg];have b1':=hN.bit j hj' q;generalize N[j]=J at *;generalize hLN:ln N=LN at *;have hlen:(((a9 j).filter λg=>n.testBit g&&near ts g q).map λg=>D.int ((mv n g q:Nat):Int)).length<SZ:=by
     have:=List.length_filter_le (λg=>n.testBit g&&near ts g q) (a9 j);simp only[bc,SZ];simp at this;lia
    have hR:=xO ts n q j;generalize hA:(a9 j).filter (λg=>n.testBit g&&near ts g q)=A at *;refine⟨[some LN,some (.int n),some (.int q),some (.lst (A.map λg=>D.int ((mv n g q:Nat):Int))),some (.int (j:Int)),some (.int (J:Nat))],by rw[<-hLN];rfl,?_⟩;have e2:qk .eq (.int (ck ((n:Int)/2^j) 1)) (.int 1)=.ok (n.testBit j):=by
     rw[iD n j,eq_int];cases n.testBit j<;>rfl
    have e3:qk .eq (.int (ck ((J:Int)/2^q) 1)) (.int 1)=.ok (J.testBit q):=by
     rw[iD J q,eq_int];cases J.testBit q<;>rfl
    refine dz (K:=λσ=>σ=[some LN,some (.int n),some (.int q),some (.lst (((a9 (j+1)).filter λg=>n.testBit g&&near ts g q).map λg=>D.int ((mv n g q:Nat):Int))),some (.int (j:Int)),some (.int (J:Nat))]) ?_ ?_
    ·refine gP (v:=n.testBit j&&J.testBit q) ?_ (λz=>?_) λz=>zT ?_
     ·generalize J.testBit q=Z2 at *;generalize n.testBit j=Z1 at *;generalize A.map (λg=>D.int ((mv n g q:Nat):Int))=AA at *;cases Z1<;>simp[KG.Z,op2,e2,e3]
     ·rw[hR,<-b1',z,if_pos rfl,List.map_append];have s1:op2 .shl (.int 1) (.int (j:Int))=.ok (.int ((2^j:Nat):Int)):=by
       show opI .shl 1 (j:Int)=_;rw[gp j (by lia) (by lia),gi];simp
      have s2:op2 .shl (.int 1) (.int (q:Int))=.ok (.int ((2^q:Nat):Int)):=by
       show opI .shl 1 (q:Int)=_;rw[gp q (by lia) (by lia),gi];simp
      have s3:op2 .bxor (.int (n:Int)) (.int ((2^j:Nat):Int))=.ok (.int ((n ^^^ 2^j:Nat):Int)):=by
       show R.ok (D.int (PySem.Builtin.bitXor _ _))=_;rw[uG hn (by lia)]
      have s4:op2 .bor (.int ((n ^^^ 2^j:Nat):Int)) (.int ((2^q:Nat):Int))=.ok (.int ((mv n j q:Nat):Int)):=by
       show R.ok (D.int (PySem.Builtin.bitOr _ _))=_;rw[jq];rfl
      have e5:evE (wAt p k) (.op .bor (.op .bxor (.var 1) (.op .shl (.con (.int 1)) (.var 4))) (.op .shl (.con (.int 1)) (.var 2))) [some LN,some (.int n),some (.int q),some (.lst (A.map λg=>D.int ((mv n g q:Nat):Int))),some (.int (j:Int)),some (.int (J:Nat))]=.ok (.int ((mv n j q:Nat):Int)):=by
       generalize A.map (λg=>D.int ((mv n g q:Nat):Int))=AA at *;generalize ((mv n j q:Nat):Int)=Z4 at *;generalize ((n ^^^ 2^j:Nat):Int)=Z3 at *;generalize ((2^j:Nat):Int)=Z1 at *;generalize ((2^q:Nat):Int)=Z2 at *;simp[KG.Z,s1,s2,s3,s4]
      refine zx (σ:=[some LN,some (.int n),some (.int q),some (.lst ((A.map λg=>D.int ((mv n g q:Nat):Int))++[D.int ((mv n j q:Nat):Int)])),some (.int (j:Int)),some (.int (J:Nat))]) ?_ (zT rfl);rw[zS];show (R.out (evE _ _ _) _)=_;rw[e5];simp only[R.out_ok];rw[if_pos hlen];rfl
     ·rw[hR,<-b1',z];simp
    ·rintro _ rfl;refine zT ⟨j+1,some (.int (j:Int)),some (.int (J:Nat)),by lia,rfl,?_⟩;rw[<-hLN]
  ·rintro σ ⟨j,v4,v5,hj,er,rfl⟩;have:j=N.length:=by
    have:=congrArg List.length er;simp at this;lia
   subst this;rw[hl];exact hJ (d:=.lst ((gd m ts n q).map λg=>D.int ((mv n g q:Nat):Int))) (by rw[qW];rfl) rfl
 exact e
theorem Ak(M:List (List Int)):qk .ne (.lst (M.map tu)) (.str "place")=.ok true:=by
 rw[qk]
 ·have hs:(D.str "place").asks=true:=by kernel_rfl
  rw[if_pos (by rw[jm,hs];rfl)]
  rfl
 all_goals (intros;rintro⟨⟩)
theorem jH:qk .ne (.str "place") (.str "place")=.ok false:=by kernel_rfl
abbrev RS(m:Int)(ts:List (Int×Int))(n:Nat)(N:List Nat)(v5 v6 v7 v8:Option D):Env:=[some (wb m ts),some (.int n),some (.int m),some (ln N),some (tu (bs m n)),v5,v6,v7,v8]
theorem turns{w:W}{m:Int}{ts:List (Int×Int)}{n:Nat}{N:List Nat}{q:Nat}{due:D}{v7 v8:Option D}{Q:D->Prop}{K:Env->Prop}{r:Ss}
  (ht:w.call "_law_told" [wb m ts,tu (bs m n),.int q]=.ok due) (hd:due=.str "place"\/∃M:List (List Int),due=.lst (M.map tu)/\M.length<=8)
  (hK:∀v7 v8,Ends K Q (qf w r (RS m ts n N (some (.int q)) (some due) v7 v8))) :
  Ends K Q (qf w (.cons (.for (.nm 7) (.rng (.con (.int 2))) (.cons (.set (.nm 8) (.call "_law_told" (.cons (.var 0) (.cons (.var 4) (.cons (.var 5) .nil))))) (.cons (.ite (.or (.cmp .ne (.own 8) (.var 6)) (.and (.cmp .ne (.var 6) (.con (.str "place"))) (.not (.val (.bi .all (.cons (.comp (.seq (.own 8)) [none,none] (.nm 1) .yes (.isi (.var 1) (.ty "tuple"))) .nil)))))) (.cons (.ret (.con (.bl false))) .nil) .nil) (.cons (.ite (.cmp .ne (.var 6) (.con (.str "place"))) (.cons (.app 8 (.tup .nil)) .nil) .nil) .nil)))) r) (RS m ts n N (some (.int q)) (some due) v7 v8)):=by
 refine eu (ds:=(rng 2).map D.int) (λr σ=>∃(ms:List Int) (v7 v8:Option D),r=ms.map D.int/\σ=RS m ts n N (some (.int q)) (some due) v7 v8) (by rfl) ⟨_,v7,v8,rfl,rfl⟩ ?_ ?_
 ·rintro x t σ ⟨ms,v7,v8,e,rfl⟩;obtain⟨y,ms,rfl,rfl,rfl⟩:=fx e;refine⟨RS m ts n N (some (.int q)) (some due) (some (.int y)) v8,rfl,?_⟩;refine zx (σ:=RS m ts n N (some (.int q)) (some due) (some (.int y)) (some due)) ?_ ?_
  ·dsimp only[RS];generalize wb m ts=U1 at *;generalize tu (bs m n)=U2 at *;generalize ln N=U3 at *;simp[KG.Z,ht]
  rcases hd with rfl|⟨M,rfl,hM⟩
  ·refine zx (σ:=RS m ts n N (some (.int q)) (some (.str "place")) (some (.int y)) (some (.str "place"))) ?_ ?_
   ·dsimp only[RS];generalize wb m ts=U1 at *;generalize tu (bs m n)=U2 at *;generalize ln N=U3 at *;simp[KG.Z,jH]
   refine zx (σ:=RS m ts n N (some (.int q)) (some (.str "place")) (some (.int y)) (some (.str "place"))) ?_ (zT ⟨ms,_,_,rfl,rfl⟩);dsimp only[RS];generalize wb m ts=U1 at *;generalize tu (bs m n)=U2 at *;generalize ln N=U3 at *;simp[KG.Z,jH]
  ·have n1:=Ak M;have n2:=uY M M;have hc:∀τ:Env,bO τ 8=.ok (.lst (M.map tu))->evE w (.comp (.seq (.own 8)) [none,none] (.nm 1) .yes (.isi (.var 1) (.ty "tuple"))) τ=.ok (.lst (M.map λ_=>.bl true)):=λτ hτ=>
    gE (f:=tu) (c:=[]) (λ_=>.bl true) (lu (by rw[qW,hτ])) (by simp[SZ];lia) rfl λs _=>by rfl
   have h3:=j4 M λ_=>true
   have h4:(M.all λ_=>true)=true:=by simp
   rw[h4]at h3;simp only[decide_true,Bool.not_true]at n2;refine zx (σ:=RS m ts n N (some (.int q)) (some (.lst (M.map tu))) (some (.int y)) (some (.lst (M.map tu)))) ?_ ?_
   ·have hc':=hc (RS m ts n N (some (.int q)) (some (.lst (M.map tu))) (some (.int y)) (some (.lst (M.map tu)))) rfl;dsimp only[RS]at hc' ⊢;generalize wb m ts=U1 at *;generalize tu (bs m n)=U2 at *;generalize ln N=U3 at *;generalize M.map tu=U4 at *;generalize (M.map λ_=>D.bl true)=U5 at *;simp[KG.Z,n1,n2,h3,hc']
   refine zx (σ:=RS m ts n N (some (.int q)) (some (.lst (M.map tu))) (some (.int y)) (some (.lst (M.map tu++[.tup []])))) ?_ (zT ⟨ms,_,_,rfl,rfl⟩);have hlen:(M.map tu).length<SZ:=by simp[SZ];lia
   dsimp only[RS];generalize wb m ts=U1 at *;generalize tu (bs m n)=U2 at *;generalize ln N=U3 at *;generalize M.map tu=U4 at *;simp[KG.Z,n1,hlen]
 ·rintro σ ⟨ms,v7,v8,e,rfl⟩;exact hK v7 v8
theorem p_{k:Nat}{m:Int}{ts:List (Int×Int)}(h:GW m ts){n:Nat}(hn:n<2^m.toNat):qc p (k+8) "_law_right" [wb m ts,.int n]=.ok (.bl true):=by
 have h1:=h.lo;have h2:=h.hi;have hp:=uW (m:=m.toNat) (by lia);obtain⟨N,hN,eN⟩:=sj hMs (k:=k+6) h;have eS:=nD hSo (k:=k+6) (m:=m) (by lia) h2 n;obtain⟨d,e,rfl⟩:∃d,qc p (k+8) "_law_right" [wb m ts,.int n]=.ok d/\d=.bl true:=by
  refine iw (k:=k+7) (τ:=[some (wb m ts),some (.int n),none,none,none,none,none,none,none]) sP rfl rfl ?_;have ex:ixD (wb m ts) (.int 0)=.ok (.int m):=rfl;refine zx (σ:=[some (wb m ts),some (.int n),some (.int m),none,none,none,none,none,none]) (by simp[KG.Z,ex]) ?_;refine zx (σ:=[some (wb m ts),some (.int n),some (.int m),some (ln N),none,none,none,none,none]) ?_ ?_
  ·generalize wb m ts=U1 at *;generalize ln N=U3 at *;simp[KG.Z,eN]
  refine zx (σ:=RS m ts n N none none none none) ?_ ?_
  ·dsimp only[RS];generalize wb m ts=U1 at *;generalize ln N=U3 at *;generalize tu (bs m n)=U2 at *;simp[KG.Z,eS]
  have hm:qZ m=true:=by simp[qZ];lia
  refine eu (ds:=(rng m).map D.int) (λr σ=>∃(qs:List Int) (v5 v6 v7 v8:Option D),r=qs.map D.int/\(∀x∈qs,0<=x/\x<m)/\σ=RS m ts n N v5 v6 v7 v8) ?_ ⟨rng m,none,none,none,none,rfl,λx hx=>fo.mp hx,rfl⟩ ?_ ?_
  ·rw[<-fk];dsimp only[RS];generalize wb m ts=U1 at *;generalize ln N=U3 at *;generalize tu (bs m n)=U2 at *;simp[KG.Z,hm]
  ·rintro x t σ ⟨qs,v5,v6,v7,v8,e,hqs,rfl⟩;obtain⟨y,qs,rfl,rfl,rfl⟩:=fx e;obtain⟨y0,ym⟩:=hqs y aR;have hqs':∀x∈qs,0<=x/\x<m:=λx hx=>hqs x (aP _ hx)
   obtain⟨q,rfl⟩:∃q:Nat,y=q:=⟨y.toNat,by lia⟩
   refine⟨RS m ts n N (some (.int q)) v6 v7 v8,rfl,?_⟩;refine zx (σ:=RS m ts n N (some (.int q)) (some (.str "place")) v7 v8) (by rfl) ?_;have e2:qk .eq (.int (ck ((n:Int)/2^q) 1)) (.int 0)=.ok (!n.testBit q):=by
    rw[iD n q,eq_int];cases n.testBit q<;>rfl
   have eT:evT (wAt p (k+7)) (.cmp .eq (.op .band (.op .shr (.var 1) (.var 5)) (.con (.int 1))) (.con (.int 0))) (RS m ts n N (some (.int q)) (some (.str "place")) v7 v8)=.ok (!n.testBit q):=by
    dsimp only[RS];generalize wb m ts=U1 at *;generalize ln N=U3 at *;generalize tu (bs m n)=U2 at *;generalize n.testBit q=Z at *;simp[KG.Z,op2,e2]
   cases hb:n.testBit q with
   |true=>
    rw[hb]at eT;refine zx (σ:=RS m ts n N (some (.int q)) (some (.str "place")) v7 v8) (by rw[zM,eT];rfl) ?_;have ht:=j7 (oO (k:=k) h (fS h2 n) (q:=(q:Int)) (ff.mpr ⟨⟨y0,ym⟩,by simpa using hb⟩));exact turns ht (.inl rfl) λv7 v8=>zT ⟨qs,_,_,_,_,rfl,hqs',rfl⟩
   |false=>
    rw[hb]at eT;obtain⟨M,hM,hMl⟩:=srt (ml m ts n q) (by have:=k7 m h2 ts n q;lia) (vT ym);have ht:=vm (yd (k:=k) h ym hb hM);have eM:=By (k:=k+6) h2 hN (n:=n) (q:=q) (by lia) (by lia);have hc:evE (wAt p (k+7)) (.comp (.seq (.call "_law_moves" (.cons (.var 3) (.cons (.var 1) (.cons (.var 5) .nil))))) [none,none,some 2] (.nm 1) .yes (.call "_law_some" (.cons (.var 2) (.cons (.var 1) .nil)))) (RS m ts n N (some (.int q)) (some (.str "place")) v7 v8)=.ok (.lst ((ml m ts n q).map tu)):=by
     rw[ml,bE];refine gE (f:=λ(g:Nat)=>D.int ((mv n g q:Nat):Int)) (c:=[some (.int m)]) _ (lu (xs:=(gd m ts n q).map λg=>D.int ((mv n g q:Nat):Int)) ?_) (by have:=jg m h2 ts n q;simp[SZ];lia) rfl λg _=>?_
     ·dsimp only[RS];generalize wb m ts=U1 at *;generalize ln N=U3 at *;generalize tu (bs m n)=U2 at *;generalize ((gd m ts n q).map λg=>D.int ((mv n g q:Nat):Int))=U4 at *;simp[KG.Z,eM]
     ·have e6:=nD hSo (k:=k+6) (m:=m) (by lia) h2 (mv n g q);show evE _ _ [none,some (.int ((mv n g q:Nat):Int)),some (.int m)]=.ok (tu (bs m (mv n g q)));generalize ((mv n g q:Nat):Int)=Z at *;generalize tu (bs m (mv n g q))=U4 at *;simp[KG.Z,e6]
    refine zx (σ:=RS m ts n N (some (.int q)) (some (.lst (M.map tu))) v7 v8) ?_ ?_
    ·rw[zM,eT];simp only[R.out_ok,Bool.not_false,if_true];rw[qf,zO,qi,zi,hc];simp only[R.bind_ok,zi,hM]
     rfl
    exact turns ht (.inr ⟨M,rfl,by rw[hMl];exact k7 m h2 ts n q⟩) λv7 v8=>zT ⟨qs,_,_,_,_,rfl,hqs',rfl⟩
  ·rintro σ ⟨qs,v5,v6,v7,v8,e,hqs,rfl⟩;exact hJ (d:=.bl true) (by rfl) rfl
 exact e
theorem Bc{k:Nat}{m:Int}(hm:1<=m/\m<=8)(t:D)(c:Int):∃d,qc p (k+2) "_law_odd_some" [.int m,.int c]=.ok d/\∀k,qc p (k+4) "is_some" [.tup [.int m,t],d]=.ok (.bl false):=by
 have bad:∀(k:Nat) (xs:List (D×Bool)),xs.length<=100->(∀y∈xs,qc p (k+3) "is_place" [.tup [.int m,t],y.1]=.ok (.bl y.2))->xs.all (·.2)=false->qc p (k+4) "is_some" [.tup [.int m,t],.tup (xs.map (·.1))]=.ok (.bl false):=λk xs h1 h2 h3=>oK Wb S (ys:=xs) rfl (by simpa using h1) h2 (.inl h3)
 have nums:∀(k:Nat) (ns:List Int),ns.length<=100->(∃i∈ns,¬ (0<=i/\i<=m-1))->qc p (k+4) "is_some" [.tup [.int m,t],.tup (ns.map D.int)]=.ok (.bl false):=λk ns h1 ⟨i,h2,h3⟩=>by
  have:=bad k (ns.map λi=>(.int i,decide (0<=i/\i<=m-1))) (by simpa using h1) (λy hy=>by obtain⟨j,_,rfl⟩:=bg.mp hy;exact jZ Wb S j m t) (by rw[List.all_map,List.all_eq_false];exact⟨i,h2,by simp only[Function.comp,decide_eq_true_eq];exact h3⟩);rw[bE]at this;exact this
 have low:∀k:Nat,qc p (k+4) "is_some" [.tup [.int m,t],.tup (([]++[0,0]:List Int).map D.int)]=.ok (.bl false):=λk=>by
  refine oK Wb S (ys:=([]++[0,0]:List Int).map λi=>(.int i,decide (0<=i/\i<=m-1))) (by simp) (by simp) (λy hy=>?_) (.inr (yZ Wb (k:=k+2) [] (by simp)));obtain⟨i,_,rfl⟩:=bg.mp hy;exact jZ Wb S i m t
 have one:∀(x:D),od x=true->∀k,qc p (k+4) "is_some" [.tup [.int m,t],.tup [x]]=.ok (.bl false):=λx hx k=>bad k [(x,false)] (by simp) (λy hy=>by rw[List.mem_singleton.mp hy];exact fA Wb S hx m t) rfl
 let L:List D:=[.non,.bl true,.int 5,.str "0",.lst [.int 0],.dic [],.tup ([m].map D.int),.tup ([-1].map D.int),.tup (([]++[0,0]:List Int).map D.int),.tup [.bl true],.tup [.tup [.int 0]],.tup [.str "0"],.tup ([m,0].map D.int),.lst [],.tup [.non]]
 have hL:∀d∈L,∀k,qc p (k+4) "is_some" [.tup [.int m,t],d]=.ok (.bl false):=by
  simp only[L,List.forall_mem_cons];exact⟨λk=>eX Wb S rfl _,λk=>eX Wb S rfl _,λk=>eX Wb S rfl _,λk=>eX Wb S rfl _,λk=>eX Wb S rfl _,λk=>eX Wb S rfl _,λk=>nums k _ (by simp) ⟨m,by simp,by lia⟩,λk=>nums k _ (by simp) ⟨-1,by simp,by lia⟩,λk=>low k,one _ rfl,one _ rfl,one _ rfl,λk=>nums k _ (by simp) ⟨m,by simp,by lia⟩,λk=>eX Wb S rfl _,one _ rfl,by simp⟩
 obtain⟨d,e,hd⟩:=pick hL (st c 61%15) ⟨by lia,by show st c 61%15<15;lia⟩;refine⟨d,?_,hd⟩;have e5:=gH Dr._law_stir (k:=k) c 61;rw[qh rf];refine zg (τ:=[some (.int m),some (.int c),none]) rfl rfl ?_;refine nB (σ:=[some (.int m),some (.int c),some (.lst L)]) (by rfl) ?_;have a3:op2 .mod (.int (st c 61)) (.int 15)=.ok (.int (st c 61%15)):=rfl;generalize st c 61%15=Z at *;generalize L=LL at *;simp[KG.Z,e5,a3,e]
theorem sk{k:Nat}{m:Int}(hm:1<=m/\m<=8)(t:D)(c:Int):∃d,qc p (k+2) "_law_odd_place" [.int m,.int c]=.ok d/\∀k,qc p (k+3) "is_place" [.tup [.int m,t],d]=.ok (.bl false):=by
 have hT:op2 .pow (.int 10) (.int 20)=.ok (.int (10^20)):=by rw[op2,opI,if_pos (by decide)];rfl
 have h8:(8:Int)<10^20:=by decide
 generalize (10:Int)^20=T at *;have no:∀i:Int,¬ (0<=i/\i<=m-1)->∀k,qc p (k+3) "is_place" [.tup [.int m,t],.int i]=.ok (.bl false):=λi hi k=>by
  rw[jZ Wb S i m t,decide_eq_false hi]
 let L:List D:=[.int m,.int (-1),.bl true,.non,.str "0",.tup [.int 0],.lst [.int 0],.int T,.bl false]
 have hL:∀d∈L,∀k,qc p (k+3) "is_place" [.tup [.int m,t],d]=.ok (.bl false):=by
  simp only[L,List.forall_mem_cons];exact⟨no _ (by lia),no _ (by lia),λk=>fA Wb S rfl m t,λk=>fA Wb S rfl m t,λk=>fA Wb S rfl m t,λk=>fA Wb S rfl m t,λk=>fA Wb S rfl m t,no _ (by lia),λk=>fA Wb S rfl m t,by simp⟩
 obtain⟨d,e,hd⟩:=pick hL (st c 62%9) ⟨by lia,by show st c 62%9<9;lia⟩;refine⟨d,?_,hd⟩;have e5:=gH Dr._law_stir (k:=k) c 62;rw[qh xP];refine zg (τ:=[some (.int m),some (.int c)]) rfl rfl ?_;have a3:op2 .mod (.int (st c 62)) (.int 9)=.ok (.int (st c 62%9)):=rfl;generalize st c 62%9=Z at *;simp only[L]at e;simp[KG.Z,jn,hT,e5,a3,e,zd]
noncomputable def depth:Nat:=9
theorem wq:qk .ne (.str "places") (.str "places")=.ok false:=by kernel_rfl
structure Hyp(F:Str->List D->R D):Prop where
 hw:∀c:Int,∃ts,GW (1+c%8) ts/\F "_law_web" [.int c,.int 8]=.ok (wb (1+c%8) ts)
 hr:∀(m:Int) (ts:List (Int×Int)) (n:Nat),GW m ts->n<2^m.toNat->F "_law_right" [wb m ts,.int n]=.ok (.bl true)
 hs:∀c j:Int,F "_law_stir" [.int c,.int j]=.ok (.int (st c j))
 ho:∀(m:Int) (ts:List (Int×Int)) (c:Int),GW m ts->∃d,F "_law_odd_some" [.int m,.int c]=.ok d/\∀x,F "_law_told" [wb m ts,d,x]=.ok (.str "places")
 hp:∀(m:Int) (ts:List (Int×Int)) (c:Int),GW m ts->∃d,F "_law_odd_place" [.int m,.int c]=.ok d/\F "_law_told" [wb m ts,.tup [],d]=.ok (.str "place")
 hz:∀(m:Int) (ts:List (Int×Int)),GW m ts->F "_law_told" [wb m ts,.tup [.int (m-1)],.int (m-1)]=.ok (.str "place")
abbrev LS(ns:List Int)(v1 v2 v3 v4 v5 v6:Option D):Env:=[some (.lst (ns.map D.int)),v1,v2,v3,v4,v5,v6]
theorem vk{w:W}(ns:List Int)(hn:ns.length<=63)(hc:∃x:Int,w.call "_law_cell_at" [.lst (ns.map D.int),.int 0]=.ok (.int x))(H:Hyp w.call):Ends (λ_=>False) (λd=>d=.bl true) (qf w gN.body (LS ns none none none none none none)):=by
 have r0:w.call "_law_right" [.tup [.int 1,.tup []],.int 0]=.ok (.bl true):=H.hr 1 [] 0 (by decide +kernel) (by decide);have r1:w.call "_law_right" [.tup [.int 2,.tup [.tup [.int 0,.int 1]]],.int 1]=.ok (.bl true):=H.hr 2 [(0,1)] 1 (by decide +kernel) (by decide);have r2:w.call "_law_right" [.tup [.int 3,.tup [.tup [.int 0,.int 1],.tup [.int 0,.int 2]]],.int 6]=.ok (.bl true):=H.hr 3 [(0,1),(0,2)] 6 (by decide +kernel) (by decide);refine zx (σ:=LS ns none none none none none none) (by simp[KG.Z,r0,r1,r2]) ?_;obtain⟨cs,hcs,hcl⟩:=wa ns (some 1) (some 4);obtain⟨x,hx⟩:=hc;refine eu (ds:=(x::cs).map D.int) (λr σ=>∃(ms:List Int) (v1 v2 v3 v4 v5 v6:Option D),r=ms.map D.int/\σ=LS ns v1 v2 v3 v4 v5 v6) ?_ ⟨_,none,none,none,none,none,none,rfl,rfl⟩ ?_ ?_
 ·have e:op2 .add (.lst [.int x]) (.lst (cs.map D.int))=.ok (.lst ((x::cs).map D.int)):=by
   rw[op2,if_pos (by simp[SZ];lia)];simp
  simp[KG.Z,slD,hcs,hx,e,seq?]
 ·rintro y t σ ⟨ms,v1,v2,v3,v4,v5,v6,e,rfl⟩;obtain⟨c,ms,rfl,rfl,rfl⟩:=fx e;refine⟨LS ns (some (.int c)) v2 v3 v4 v5 v6,rfl,?_⟩;obtain⟨ts,g,hw'⟩:=H.hw c;have m1:=g.lo;have m2:=g.hi;generalize 1+c%8=m at *;obtain⟨d,d1,d2⟩:=H.ho m ts c g;obtain⟨u,u1,u2⟩:=H.hp m ts c g;have z:=H.hz m ts g;have hp0:=Nat.two_pow_pos m.toNat;have ex:ixD (wb m ts) (.int 0)=.ok (.int m):=rfl;have hr:=H.hr m ts;dsimp only[LS];generalize ns.map D.int=LL at *;refine zx (σ:=[some (.lst LL),some (.int c),some (wb m ts),v3,v4,v5,v6]) ?_ ?_
  ·generalize wb m ts=U at *;simp[KG.Z,hw']
  refine zx (σ:=[some (.lst LL),some (.int c),some (wb m ts),some (.int m),v4,v5,v6]) ?_ ?_
  ·generalize wb m ts=U at *;simp[KG.Z,ex]
  refine zx (σ:=[some (.lst LL),some (.int c),some (wb m ts),some (.int m),some d,some u,v6]) ?_ ?_
  ·generalize wb m ts=U at *;have p1:evE w (.call "_law_odd_some" (.cons (.var 3) (.cons (.var 1) .nil))) [some (.lst LL),some (.int c),some U,some (.int m),v4,v5,v6]=.ok d:=by simp[KG.Z,d1]
   have p2:evE w (.call "_law_odd_place" (.cons (.var 3) (.cons (.var 1) .nil))) [some (.lst LL),some (.int c),some U,some (.int m),v4,v5,v6]=.ok u:=by simp[KG.Z,u1]
   rw[zw,p1];simp only[R.out_ok];rw[p2];rfl
  refine eu (ds:=(rng 4).map D.int) (λr σ=>∃(ks:List Int) (v6:Option D),r=ks.map D.int/\σ=[some (.lst LL),some (.int c),some (wb m ts),some (.int m),some d,some u,v6]) (by rfl) ⟨_,v6,rfl,rfl⟩ ?_ ?_
  ·rintro y t σ ⟨ks,v6,e,rfl⟩;obtain⟨y,ks,rfl,rfl,rfl⟩:=fx e;refine⟨[some (.lst LL),some (.int c),some (wb m ts),some (.int m),some d,some u,some (.int y)],rfl,?_⟩;refine zx (σ:=[some (.lst LL),some (.int c),some (wb m ts),some (.int m),some d,some u,some (.int y)]) ?_ (zT ⟨ks,_,rfl,rfl⟩);have esh:op2 .shl (.int 1) (.int m)=.ok (.int ((2^m.toNat:Nat):Int)):=by
    show opI .shl 1 m=_;rw[gp m (by lia) (by lia),gi]
   have z0:=Int.emod_nonneg (st c (10+y)) (show ((2^m.toNat:Nat):Int)≠0 by lia);have z2:=Int.emod_lt_of_pos (st c (10+y)) (show (0:Int)<((2^m.toNat:Nat):Int)by lia);have z1:op2 .mod (.int (st c (10+y))) (.int ((2^m.toNat:Nat):Int))=.ok (.int (((st c (10+y)%((2^m.toNat:Nat):Int)).toNat:Nat):Int)):=by
    show opI .mod _ _=_;rw[opI,if_pos (by lia),Int.toNat_of_nonneg z0]
   have z3:=hr (st c (10+y)%((2^m.toNat:Nat):Int)).toNat g (by lia);have e5:=H.hs c (10+y);have z4:op2 .add (.int 10) (.int y)=.ok (.int (10+y)):=rfl;clear hr z0 z2 z d2 u2 ex;generalize ((st c (10+y)%((2^m.toNat:Nat):Int)).toNat:Nat)=Z at *;generalize ((2^m.toNat:Nat):Int)=Y at *;generalize st c (10+y)=Q at *;generalize wb m ts=U at *;simp[KG.Z,z1,z3,z4,e5,esh]
  ·rintro σ ⟨ks,v6,e,rfl⟩;have t1:=d2 u;have t2:=d2 (.int 0);have s1:op2 .sub (.int m) (.int 1)=.ok (.int (m-1)):=rfl;generalize m-1=M1 at *;generalize wb m ts=U at *;refine zx (σ:=[some (.lst LL),some (.int c),some U,some (.int m),some d,some u,v6]) (by simp[KG.Z,t1,t2,wq]) ?_;exact zx (σ:=[some (.lst LL),some (.int c),some U,some (.int m),some d,some u,v6]) (by simp[KG.Z,u2,z,s1,jH]) (zT ⟨ms,_,_,_,_,_,_,rfl,rfl⟩)
 ·rintro σ ⟨ms,v1,v2,v3,v4,v5,v6,e,rfl⟩;exact hJ (d:=.bl true) (by rfl) rfl
theorem BQ{F:Str->List D->R D}(ns:List Int)(hn:ns.length<=63)(hc:∃x:Int,F "_law_cell_at" [.lst (ns.map D.int),.int 0]=.ok (.int x))(H:Hyp F):cC ⟨F,p.glb,p.sub,p.cat⟩ gN [.lst (ns.map D.int)]=.ok (.bl true):=by
 obtain⟨d,e,rfl⟩:=Bl (w:=⟨F,p.glb,p.sub,p.cat⟩) (f:=gN) (ds:=[.lst (ns.map D.int)]) rfl rfl (vk (w:=⟨F,p.glb,p.sub,p.cat⟩) ns hn hc H);exact e
theorem uX:∀ns:List Int,ns.length<=63->qc p depth "law" [.lst (ns.map D.int)]=.ok (.bl true):=by
 intro ns hn;rw[show depth=8+1 from rfl,qh yf];refine BQ ns hn (rJ Dr._law_cell_at (k:=7) ns) ⟨λc=>vL Dr (k:=6) 8 c (by decide),λm ts n g hn=>p_ (k:=0) g hn,λc j=>gH Dr._law_stir (k:=7) c j,λm ts c g=>?_,λm ts c g=>?_,λm ts g=>?_⟩
 ·obtain⟨d,d1,d2⟩:=Bc (k:=6) ⟨g.lo,g.hi⟩ (.tup (ts.map prD)) c;exact⟨d,d1,λx=>pD (Bz (k:=1) g (d2 1))⟩
 ·obtain⟨d,d1,d2⟩:=sk (k:=6) ⟨g.lo,g.hi⟩ (.tup (ts.map prD)) c;exact⟨d,d1,j7 (uC (k:=1) g (s:=[]) ⟨.nil,by simp,by simp⟩ (d2 2))⟩
 ·have h1:=g.lo;exact j7 (oO (k:=1) g (s:=[m-1]) ⟨by simp,by simp;lia,by simp⟩ (by simp))
end K70
namespace K70
open PySem PySem.Spec PyProof.Rows L2 EV
theorem lp:∀e∈tab,cFn G (fj us oth) e.own e.fr e.st=some e.fn:=by
 intro e he;simp only[tab,aL,cK,or_false]at he;rcases he with rfl|rfl|rfl|rfl|rfl|rfl|rfl|rfl|rfl|rfl|rfl|rfl|rfl|rfl|rfl|rfl|rfl|rfl|rfl|rfl|rfl|rfl|rfl|rfl|rfl|rfl|rfl|rfl<;>kernel_rfl
theorem o_:∀e∈us,e∈tab:=by
 intro e he;cases he
theorem ub:∀e∈us,mZ (d_ oth) e.own e.fr e.st=some e.fn:=by
 intro e he;cases he
theorem nd:(tab.map (·.x)).Nodup:=by decide +kernel
section
variable{K:ar}{h:Heap}{mg:Str->Option ae}{f0:Addr}(d0:WB.Dd K "is_whole" (top 6) f0){f1:Addr}(d1:WB.Dd K "is_between" (top 7) f1){f2:Addr}(d2:WB.Dd K "is_pair" (top 8) f2){f3:Addr}(d3:WB.Dd K "rises" (top 9) f3){f4:Addr}(d4:WB.Dd K "is_web" (top 12) f4){f5:Addr}(d5:WB.Dd K "is_tie" (top 13) f5){f6:Addr}(d6:WB.Dd K "need_web" (top 14) f6){f7:Addr}(d7:WB.Dd K "is_place" (top 15) f7){f8:Addr}(d8:WB.Dd K "need_place" (top 16) f8){f9:Addr}(d9:WB.Dd K "hood_of" (top 17) f9){f10:Addr}(d10:WB.Dd K "are_tied" (top 18) f10){f11:Addr}(d11:WB.Dd K "is_some" (top 20) f11){f12:Addr}(d12:WB.Dd K "need_some" (top 21) f12){f13:Addr}(d13:WB.Dd K "mark_of" (top 22) f13){f14:Addr}(d14:WB.Dd K "without" (top 24) f14){f15:Addr}(d15:WB.Dd K "moves" (top 26) f15){f16:Addr}(d16:WB.Dd K "moves_to" (top 27) f16){f17:Addr}(d17:WB.Dd K "_law_cell_at" (top 29) f17){f18:Addr}(d18:WB.Dd K "_law_stir" (top 30) f18){f19:Addr}(d19:WB.Dd K "_law_web" (top 31) f19){f20:Addr}(d20:WB.Dd K "_law_masks" (top 32) f20){f21:Addr}(d21:WB.Dd K "_law_some" (top 33) f21){f22:Addr}(d22:WB.Dd K "_law_odd_some" (top 34) f22){f23:Addr}(d23:WB.Dd K "_law_odd_place" (top 35) f23){f24:Addr}(d24:WB.Dd K "_law_moves" (top 36) f24){f25:Addr}(d25:WB.Dd K "_law_told" (top 37) f25){f26:Addr}(d26:WB.Dd K "_law_right" (top 38) f26){f27:Addr}(d27:WB.Dd K "law" (top 39) f27)
include d0 d1 d2 d3 d4 d5 d6 d7 d8 d9 d10 d11 d12 d13 d14 d15 d16 d17 d18 d19 d20 d21 d22 d23 d24 d25 d26 d27
theorem rz:∀e∈tab,gA K G e:=by
 intro e he;simp only[tab,aL,cK,or_false]at he;rcases he with rfl|rfl|rfl|rfl|rfl|rfl|rfl|rfl|rfl|rfl|rfl|rfl|rfl|rfl|rfl|rfl|rfl|rfl|rfl|rfl|rfl|rfl|rfl|rfl|rfl|rfl|rfl|rfl<;>refine⟨⟨_,by assumption⟩,λ_ _ _ _ _ _ us hl=>?_⟩<;>first|(obtain⟨_,rfl⟩:=WB.kN hl;rfl)|(obtain⟨_,_,rfl⟩:=WB.oh hl;rfl)|(obtain⟨_,_,_,rfl⟩:=WB.sU hl;rfl)
omit d0 d1 d2 d3 d4 d5 d6 d7 d8 d9 d10 d11 d12 d13 d14 d15 d16 d17 d18 d19 d20 d21 d22 d23 d24 d25 d26 d27
theorem jj{x:Str}{k:GK}(h:oth.lookup x=some k):∃y∈oth,x=y.1/\k=y.2:=by
 generalize oth=l at h ⊢
 induction l with
 |nil=>cases h
 |cons a r ih=>
  rw[br]at h;split at h
  ·rename_i q;cases h;exact⟨a,aR,eq_of_beq q,rfl⟩
  ·obtain⟨y,h1,h2⟩:=ih h;exact⟨y,aP _ h1,h2⟩
theorem uP{K:ar}{C0:Addr}(k0:aA K ax "NoWeb" = some (some (.ref C0)))(x0:PySem.W.excIn K C0 el "ValueError.__new__" = true){C1:Addr}(k1:aA K ax "NoPlaces" = some (some (.ref C1)))(x1:PySem.W.excIn K C1 el "ValueError.__new__" = true){C2:Addr}(k2:aA K ax "NoPlace" = some (some (.ref C2)))(x2:PySem.W.excIn K C2 el "ValueError.__new__" = true){tk0:Tok}(u0:aA K ax "MOST" = some (some (.int 8 tk0)))(z0:aA K ax "len" = some none)(z1:aA K ax "tuple" = some none)(z2:aA K ax "int" = some none)(z3:aA K ax "bool" = some none)(z4:aA K ax "sorted" = some none)(z5:aA K ax "all" = some none)(z6:aA K ax "min" = some none)(z7:aA K ax "max" = some none)(z8:aA K ax "range" = some none)(z9:aA K ax "enumerate" = some none)(z10:aA K ax "isinstance" = some none):∀x k,oth.lookup x=some k->mR K vals x k:=by
 intro x k h;obtain⟨y,h1,rfl,rfl⟩:=jj h;simp only[oth,aL,cK,or_false]at h1;rcases h1 with rfl|rfl|rfl|rfl|rfl|rfl|rfl|rfl|rfl|rfl|rfl|rfl|rfl|rfl|rfl
 ·exact⟨_,k0,x0⟩
 ·exact⟨_,k1,x1⟩
 ·exact⟨_,k2,x2⟩
 ·exact⟨_,.int 8,.int 8,u0,⟨_,rfl⟩,rfl,λg H _=>.int _⟩
 ·exact⟨z0,rfl,_,rfl⟩
 ·exact⟨z1,by decide +kernel,by simp,by simp[b1N,b1V]⟩
 ·exact⟨z2,by decide +kernel,by simp,by simp[b1N,b1V]⟩
 ·exact⟨z3,by decide +kernel,by simp,by simp[b1N,b1V]⟩
 ·exact⟨z4,rfl,_,rfl⟩
 ·exact⟨z5,rfl,_,rfl⟩
 ·exact⟨z6,rfl,_,rfl⟩
 ·exact⟨z7,rfl,_,rfl⟩
 ·exact⟨z8,rfl⟩
 ·exact⟨z9,rfl⟩
 ·exact⟨z10,rfl⟩
theorem pY:∀x fr,oth.lookup x≠some (.fn fr):=by
 intro x fr h;obtain⟨y,h1,rfl,h2⟩:=jj h;simp only[oth,aL,cK,or_false]at h1;rcases h1 with rfl|rfl|rfl|rfl|rfl|rfl|rfl|rfl|rfl|rfl|rfl|rfl|rfl|rfl|rfl<;>cases h2
theorem vP:∀x,(oth.lookup x=some .exc\/oth.lookup x=some .exk)->([aG "NoWeb",aG "NoPlaces",aG "NoPlace"]:List Str).contains x=true:=by
 intro x h;rcases h with h|h<;>obtain⟨y,h1,rfl,h2⟩:=jj h<;>simp only[oth,aL,cK,or_false]at h1<;>rcases h1 with rfl|rfl|rfl|rfl|rfl|rfl|rfl|rfl|rfl|rfl|rfl|rfl|rfl|rfl|rfl<;>first|(cases h2;done)|decide +kernel
theorem uf{K:ar}{C0:Addr}(k0:aA K ax "NoWeb" = some (some (.ref C0))){C1:Addr}(k1:aA K ax "NoPlaces" = some (some (.ref C1))){C2:Addr}(k2:aA K ax "NoPlace" = some (some (.ref C2)))(w0:bx K (.ref C1) (.ref C1)=some true)(w1:bx K (.ref C2) (.ref C2)=some true):∀y∈cA,∃C D,aA K ax y.1=some (some (.ref C))/\aA K ax y.2=some (some (.ref D))/\bx K (.ref C) (.ref D)=some true:=by
 intro y h1;simp only[cA,aL,cK,or_false]at h1;rcases h1 with rfl|rfl
 ·exact⟨_,_,k1,k1,w0⟩
 ·exact⟨_,_,k2,k2,w1⟩
theorem BR{K:ar}{C0:Addr}(k0:aA K ax "NoWeb" = some (some (.ref C0))){C1:Addr}(k1:aA K ax "NoPlaces" = some (some (.ref C1))){C2:Addr}(k2:aA K ax "NoPlace" = some (some (.ref C2)))(y0:cD K C1)(v0:bA K (.ref C1) (.type "ValueError")=some true)(y1:cD K C2)(v1:bA K (.ref C2) (.type "ValueError")=some true)(t0:WB.Dk K "NoPlace" C2)(t1:WB.Dk K "NoPlaces" C1)(q0_0:bA K (.ref C1) (.ref C2)=some false)(n0_0:C1≠C2)(q1_1:bA K (.ref C2) (.ref C1)=some false)(n1_1:C2≠C1):∀y∈subs,mP K [aG "NoWeb",aG "NoPlaces",aG "NoPlace"] y:=by
 intro y h1;simp only[subs,aL,cK,or_false]at h1;rcases h1 with rfl|rfl|rfl|rfl|rfl|rfl
 ·exact⟨_,_,by decide +kernel,k1,y0,WB.nA v0,rfl,rfl⟩
 ·exact⟨_,_,by decide +kernel,k1,y0,t0.kit q0_0 n0_0,_,by decide +kernel,k2,rfl⟩
 ·exact⟨_,_,by decide +kernel,k1,y0,WB.lR,_,by decide +kernel,k1,rfl⟩
 ·exact⟨_,_,by decide +kernel,k2,y1,WB.nA v1,rfl,rfl⟩
 ·exact⟨_,_,by decide +kernel,k2,y1,WB.lR,_,by decide +kernel,k2,rfl⟩
 ·exact⟨_,_,by decide +kernel,k2,y1,t1.kit q1_1 n1_1,_,by decide +kernel,k1,rfl⟩
include d0 d1 d2 d3 d4 d5 d6 d7 d8 d9 d10 d11 d12 d13 d14 d15 d16 d17 d18 d19 d20 d21 d22 d23 d24 d25 d26 d27
theorem all_mk(X:K.In h)(N:h.Ns ax mg){C0:Addr}(k0:aA K ax "NoWeb" = some (some (.ref C0)))(x0:PySem.W.excIn K C0 el "ValueError.__new__" = true){C1:Addr}(k1:aA K ax "NoPlaces" = some (some (.ref C1)))(x1:PySem.W.excIn K C1 el "ValueError.__new__" = true){C2:Addr}(k2:aA K ax "NoPlace" = some (some (.ref C2)))(x2:PySem.W.excIn K C2 el "ValueError.__new__" = true){tk0:Tok}(u0:aA K ax "MOST" = some (some (.int 8 tk0)))(z0:aA K ax "len" = some none)(z1:aA K ax "tuple" = some none)(z2:aA K ax "int" = some none)(z3:aA K ax "bool" = some none)(z4:aA K ax "sorted" = some none)(z5:aA K ax "all" = some none)(z6:aA K ax "min" = some none)(z7:aA K ax "max" = some none)(z8:aA K ax "range" = some none)(z9:aA K ax "enumerate" = some none)(z10:aA K ax "isinstance" = some none)(w0:bx K (.ref C1) (.ref C1)=some true)(w1:bx K (.ref C2) (.ref C2)=some true)(y0:cD K C1)(v0:bA K (.ref C1) (.type "ValueError")=some true)(y1:cD K C2)(v1:bA K (.ref C2) (.type "ValueError")=some true)(t0:WB.Dk K "NoPlace" C2)(t1:WB.Dk K "NoPlaces" C1)(q0_0:bA K (.ref C1) (.ref C2)=some false)(n0_0:C1≠C2)(q1_1:bA K (.ref C2) (.ref C1)=some false)(n1_1:C2≠C1):Ground p (gOf K (tab.map (·.x)) [aG "NoWeb",aG "NoPlaces",aG "NoPlace"]) G (fj us oth) (d_ oth) mg/\gA K G fZ:=
 have A:=rz d0 d1 d2 d3 d4 d5 d6 d7 d8 d9 d10 d11 d12 d13 d14 d15 d16 d17 d18 d19 d20 d21 d22 d23 d24 d25 d26 d27
 ⟨x6 X N rfl nd (uP k0 x0 k1 x1 k2 x2 u0 z0 z1 z2 z3 z4 z5 z6 z7 z8 z9 z10) pY o_ ub lp A _ (uf k0 k1 k2 w0 w1) vP (BR k0 k1 k2 y0 v0 y1 v1 t0 t1 q0_0 n0_0 q1_1 n1_1),A fZ (by simp[tab])⟩
end
theorem walk{l:PySem.W.OpenLaw}{q:aw}{loose:List Str}{XP:(Str->Option ae)->Heap->Prop}{YP:av->Heap->Prop}{d:DefRec}{K:Params->ar}(hn:l.most=some 63)(hdf:d.params.defaults=[])(hd:d.name = "law")(hY:∀(w:av) (h:Heap),YP w h->(K w.params).In h)
  (hG:∀(w:av) (mg:Str->Option ae) (h:Heap),(K w.params).In h->h.Ns ax mg->Ground p (gOf (K w.params) (tab.map (·.x)) [aG "NoWeb",aG "NoPlaces",aG "NoPlace"]) G (fj us oth) (d_ oth) mg/\gA (K w.params) G fZ):PySem.W.WalkO q loose XP YP l.row.toRowW d [] (λf vs=>PySem.call f vs):=
 xM (e:=fZ) (k:=depth) hn hdf hd ⟨rfl,by decide,by decide⟩ hY (by simp[tab]) nd rfl rfl (by kernel_rfl) hG (lp fZ (by simp[tab])) uX
end K70
end
open PySem PySem.W PyProof.Rows
namespace PySem.W.Fast
def tw4655833750973486573:Nat:=0
theorem te4655833750973486573:tw4655833750973486573=0:=rfl
def tw13227590336822958599:Nat:=0
theorem te13227590336822958599:tw13227590336822958599=0:=rfl
def tw12497938051110352937:Nat:=0
theorem te12497938051110352937:tw12497938051110352937=0:=rfl
def tw11973258471733300152:Nat:=0
theorem te11973258471733300152:tw11973258471733300152=0:=rfl
def tw6654236943642856822:Nat:=0
theorem te6654236943642856822:tw6654236943642856822=0:=rfl
def tw13433871557084877831:Nat:=0
theorem te13433871557084877831:tw13433871557084877831=0:=rfl
def tw10224632517246754919:Nat:=0
theorem te10224632517246754919:tw10224632517246754919=0:=rfl
def tw8381839571724833918:Nat:=0
theorem te8381839571724833918:tw8381839571724833918=0:=rfl
def tw17398726295361326608:Nat:=0
theorem te17398726295361326608:tw17398726295361326608=0:=rfl
def tw5266101932397845419:Nat:=0
theorem te5266101932397845419:tw5266101932397845419=0:=rfl
def tw9586095560559201194:Nat:=0
theorem te9586095560559201194:tw9586095560559201194=0:=rfl
def tw4849653754852072010:Nat:=0
theorem te4849653754852072010:tw4849653754852072010=0:=rfl
def tw12913051018830618242:Nat:=0
theorem te12913051018830618242:tw12913051018830618242=0:=rfl
def tw2446887557062486953:Nat:=0
theorem te2446887557062486953:tw2446887557062486953=0:=rfl
def tw12965584345027882725:Nat:=0
theorem te12965584345027882725:tw12965584345027882725=0:=rfl
def tw3290313492372409470:Nat:=0
theorem te3290313492372409470:tw3290313492372409470=0:=rfl
def tw5907638214292567978:Nat:=0
theorem te5907638214292567978:tw5907638214292567978=0:=rfl
def tw3405164526748015764:Nat:=0
theorem te3405164526748015764:tw3405164526748015764=0:=rfl
def tw12370529438860910646:Nat:=0
theorem te12370529438860910646:tw12370529438860910646=0:=rfl
def tw15303045218102578473:Nat:=0
theorem te15303045218102578473:tw15303045218102578473=0:=rfl
def tw17651182133226145570:Nat:=0
theorem te17651182133226145570:tw17651182133226145570=0:=rfl
def tw15517100686459117653:Nat:=0
theorem te15517100686459117653:tw15517100686459117653=0:=rfl
def tw6663383743984463849:Nat:=0
theorem te6663383743984463849:tw6663383743984463849=0:=rfl
def tw15833098584732428573:Nat:=0
theorem te15833098584732428573:tw15833098584732428573=0:=rfl
def tw10505076546365094313:Nat:=0
theorem te10505076546365094313:tw10505076546365094313=0:=rfl
def tw15022100020393551217:Nat:=0
theorem te15022100020393551217:tw15022100020393551217=0:=rfl
def tw5285441581432586942:Nat:=0
theorem te5285441581432586942:tw5285441581432586942=0:=rfl
def tw8243135601394864337:Nat:=0
theorem te8243135601394864337:tw8243135601394864337=0:=rfl
def tw17082169027413206671:Nat:=0
theorem te17082169027413206671:tw17082169027413206671=0:=rfl
def tw6512699483951848692:Nat:=0
theorem te6512699483951848692:tw6512699483951848692=0:=rfl
def tw3932907814189105956:Nat:=0
theorem te3932907814189105956:tw3932907814189105956=0:=rfl
def tw1923435081612733781:Nat:=0
theorem te1923435081612733781:tw1923435081612733781=0:=rfl
def tw14363591263488322370:Nat:=0
theorem te14363591263488322370:tw14363591263488322370=0:=rfl
def tw5066799693456010698:Nat:=0
theorem te5066799693456010698:tw5066799693456010698=0:=rfl
def tw14623983327602758236:Nat:=0
theorem te14623983327602758236:tw14623983327602758236=0:=rfl
def tw2774098058369600632:Nat:=0
theorem te2774098058369600632:tw2774098058369600632=0:=rfl
def tw17586165913995776483:Nat:=0
theorem te17586165913995776483:tw17586165913995776483=0:=rfl
def tw16253652304891228132:Nat:=0
theorem te16253652304891228132:tw16253652304891228132=0:=rfl
def tw2661294418820087940:Nat:=0
theorem te2661294418820087940:tw2661294418820087940=0:=rfl
def tw11371787372868562701:Nat:=0
theorem te11371787372868562701:tw11371787372868562701=0:=rfl
def tw3824029227063215267:Nat:=0
theorem te3824029227063215267:tw3824029227063215267=0:=rfl
def tw6473179291186903776:Nat:=0
theorem te6473179291186903776:tw6473179291186903776=0:=rfl
def tw2871035545517061477:Nat:=0
theorem te2871035545517061477:tw2871035545517061477=0:=rfl
def tw4649601330930065437:Nat:=0
theorem te4649601330930065437:tw4649601330930065437=0:=rfl
def tw15930456029487318675:Nat:=0
theorem te15930456029487318675:tw15930456029487318675=0:=rfl
def tw11306834009501438599:Nat:=0
theorem te11306834009501438599:tw11306834009501438599=0:=rfl
def tw15669321002401640137:Nat:=0
theorem te15669321002401640137:tw15669321002401640137=0:=rfl
def tw12960414139646140363:Nat:=0
theorem te12960414139646140363:tw12960414139646140363=0:=rfl
def tw4515153382711311972:Nat:=0
theorem te4515153382711311972:tw4515153382711311972=0:=rfl
def tw17705792565495582609:Nat:=0
theorem te17705792565495582609:tw17705792565495582609=0:=rfl
def tw1708042796797370648:Nat:=0
theorem te1708042796797370648:tw1708042796797370648=0:=rfl
def tw3247722249195962075:Nat:=0
theorem te3247722249195962075:tw3247722249195962075=0:=rfl
def tw4530474473576965033:Nat:=0
theorem te4530474473576965033:tw4530474473576965033=0:=rfl
def tw6350309927052226232:Nat:=0
theorem te6350309927052226232:tw6350309927052226232=0:=rfl
def tw16382340823593741990:Nat:=0
theorem te16382340823593741990:tw16382340823593741990=0:=rfl
def tw14325992728159442291:Nat:=0
theorem te14325992728159442291:tw14325992728159442291=0:=rfl
def tw15752832422930451020:Nat:=0
theorem te15752832422930451020:tw15752832422930451020=0:=rfl
def tw1532638178444074888:Nat:=0
theorem te1532638178444074888:tw1532638178444074888=0:=rfl
def tw3353794662180519630:Nat:=0
theorem te3353794662180519630:tw3353794662180519630=0:=rfl
def tw13150927353640756009:Nat:=0
theorem te13150927353640756009:tw13150927353640756009=0:=rfl
def tw14652758353518150711:Nat:=0
theorem te14652758353518150711:tw14652758353518150711=0:=rfl
def tw15419728343437459956:Nat:=0
theorem te15419728343437459956:tw15419728343437459956=0:=rfl
def tw15198833980194088164:Nat:=0
theorem te15198833980194088164:tw15198833980194088164=0:=rfl
def tw10653915298674367504:Nat:=0
theorem te10653915298674367504:tw10653915298674367504=0:=rfl
def tw12325092491315709633:Nat:=0
theorem te12325092491315709633:tw12325092491315709633=0:=rfl
def tw13417739654862251301:Nat:=0
theorem te13417739654862251301:tw13417739654862251301=0:=rfl
def tw14804057226126121263:Nat:=0
theorem te14804057226126121263:tw14804057226126121263=0:=rfl
def tw12899466657852547410:Nat:=0
theorem te12899466657852547410:tw12899466657852547410=0:=rfl
def tw1589134528270618536:Nat:=0
theorem te1589134528270618536:tw1589134528270618536=0:=rfl
def tw18001934132399471503:Nat:=0
theorem te18001934132399471503:tw18001934132399471503=0:=rfl
def tw7741432960065481709:Nat:=0
theorem te7741432960065481709:tw7741432960065481709=0:=rfl
def tw4574448787215370386:Nat:=0
theorem te4574448787215370386:tw4574448787215370386=0:=rfl
def tw4316956029882842930:Nat:=0
theorem te4316956029882842930:tw4316956029882842930=0:=rfl
def tw14283883481597167582:Nat:=0
theorem te14283883481597167582:tw14283883481597167582=0:=rfl
def tw9103179040813783816:Nat:=0
theorem te9103179040813783816:tw9103179040813783816=0:=rfl
def tw9313630228070722587:Nat:=0
theorem te9313630228070722587:tw9313630228070722587=0:=rfl
def tw9795202400283555096:Nat:=0
theorem te9795202400283555096:tw9795202400283555096=0:=rfl
def tw304288752931522523:Nat:=0
theorem te304288752931522523:tw304288752931522523=0:=rfl
def tw12574765835514006986:Nat:=0
theorem te12574765835514006986:tw12574765835514006986=0:=rfl
def tw3443789502843680484:Nat:=0
theorem te3443789502843680484:tw3443789502843680484=0:=rfl
def tw1498017747332748604:Nat:=0
theorem te1498017747332748604:tw1498017747332748604=0:=rfl
def tw2399603379464944399:Nat:=0
theorem te2399603379464944399:tw2399603379464944399=0:=rfl
def tw3131214552423597601:Nat:=0
theorem te3131214552423597601:tw3131214552423597601=0:=rfl
def tw10658892923446004975:Nat:=0
theorem te10658892923446004975:tw10658892923446004975=0:=rfl
def tw18063756431903267091:Nat:=0
theorem te18063756431903267091:tw18063756431903267091=0:=rfl
def tw1961195439194484696:Nat:=0
theorem te1961195439194484696:tw1961195439194484696=0:=rfl
def tw1754738333333114906:Nat:=0
theorem te1754738333333114906:tw1754738333333114906=0:=rfl
def tw12099455289624860082:Nat:=0
theorem te12099455289624860082:tw12099455289624860082=0:=rfl
def tw3833634460398159890:Nat:=0
theorem te3833634460398159890:tw3833634460398159890=0:=rfl
def tw4813518297215163076:Nat:=0
theorem te4813518297215163076:tw4813518297215163076=0:=rfl
def tw10873215695362015670:Nat:=0
theorem te10873215695362015670:tw10873215695362015670=0:=rfl
def tw8287995709731935803:Nat:=0
theorem te8287995709731935803:tw8287995709731935803=0:=rfl
def tw5715003612232504874:Nat:=0
theorem te5715003612232504874:tw5715003612232504874=0:=rfl
def tw994040259317929003:Nat:=0
theorem te994040259317929003:tw994040259317929003=0:=rfl
def tw13213899310078316973:Nat:=0
theorem te13213899310078316973:tw13213899310078316973=0:=rfl
def tw13089234336309117490:Nat:=0
theorem te13089234336309117490:tw13089234336309117490=0:=rfl
def tw13038950015305761216:Nat:=0
theorem te13038950015305761216:tw13038950015305761216=0:=rfl
def tw6569976030649766523:Nat:=0
theorem te6569976030649766523:tw6569976030649766523=0:=rfl
def tw14192187441716391759:Nat:=0
theorem te14192187441716391759:tw14192187441716391759=0:=rfl
def tw2445980863906242427:Nat:=0
theorem te2445980863906242427:tw2445980863906242427=0:=rfl
def tw8813848980762366926:Nat:=0
theorem te8813848980762366926:tw8813848980762366926=0:=rfl
def tw7964017448473595947:Nat:=0
theorem te7964017448473595947:tw7964017448473595947=0:=rfl
def tw3672656086176736635:Nat:=0
theorem te3672656086176736635:tw3672656086176736635=0:=rfl
def tw7277418952032515132:Nat:=0
theorem te7277418952032515132:tw7277418952032515132=0:=rfl
def tw6225194934916429587:Nat:=0
theorem te6225194934916429587:tw6225194934916429587=0:=rfl
def tw17830091099788727697:Nat:=0
theorem te17830091099788727697:tw17830091099788727697=0:=rfl
def tw16855853503760449251:Nat:=0
theorem te16855853503760449251:tw16855853503760449251=0:=rfl
def tw5056916257037419300:Nat:=0
theorem te5056916257037419300:tw5056916257037419300=0:=rfl
def tw9658006885597803803:Nat:=0
theorem te9658006885597803803:tw9658006885597803803=0:=rfl
def tw9193631593527586095:Nat:=0
theorem te9193631593527586095:tw9193631593527586095=0:=rfl
def tw13936199741592352274:Nat:=0
theorem te13936199741592352274:tw13936199741592352274=0:=rfl
def tw10010240363453840722:Nat:=0
theorem te10010240363453840722:tw10010240363453840722=0:=rfl
def tw4033925230430785215:Nat:=0
theorem te4033925230430785215:tw4033925230430785215=0:=rfl
def tw5922908244484589929:Nat:=0
theorem te5922908244484589929:tw5922908244484589929=0:=rfl
def tw9758927848538585160:Nat:=0
theorem te9758927848538585160:tw9758927848538585160=0:=rfl
def tw2038624664777158430:Nat:=0
theorem te2038624664777158430:tw2038624664777158430=0:=rfl
def tw12969927279291979815:Nat:=0
theorem te12969927279291979815:tw12969927279291979815=0:=rfl
def tw2135099611304778877:Nat:=0
theorem te2135099611304778877:tw2135099611304778877=0:=rfl
def tw3292147979401792052:Nat:=0
theorem te3292147979401792052:tw3292147979401792052=0:=rfl
def tw18056682004109906942:Nat:=0
theorem te18056682004109906942:tw18056682004109906942=0:=rfl
def tw8947852482600467925:Nat:=0
theorem te8947852482600467925:tw8947852482600467925=0:=rfl
def tw2219153470309830266:Nat:=0
theorem te2219153470309830266:tw2219153470309830266=0:=rfl
def tw17069621248147655483:Nat:=0
theorem te17069621248147655483:tw17069621248147655483=0:=rfl
def tw9937412732656147174:Nat:=0
theorem te9937412732656147174:tw9937412732656147174=0:=rfl
def tw4421305242033387479:Nat:=0
theorem te4421305242033387479:tw4421305242033387479=0:=rfl
def tw179349277206696203:Nat:=0
theorem te179349277206696203:tw179349277206696203=0:=rfl
def tw10791622541308957443:Nat:=0
theorem te10791622541308957443:tw10791622541308957443=0:=rfl
def tw5313761197408409746:Nat:=0
theorem te5313761197408409746:tw5313761197408409746=0:=rfl
def tw17475922978001582668:Nat:=0
theorem te17475922978001582668:tw17475922978001582668=0:=rfl
def tw7097511126531284520:Nat:=0
theorem te7097511126531284520:tw7097511126531284520=0:=rfl
def tw16891328324395716397:Nat:=0
theorem te16891328324395716397:tw16891328324395716397=0:=rfl
def tw17702963850930365895:Nat:=0
theorem te17702963850930365895:tw17702963850930365895=0:=rfl
def tw5522648021769009284:Nat:=0
theorem te5522648021769009284:tw5522648021769009284=0:=rfl
end PySem.W.Fast
set_option maxRecDepth 100000 in
set_option maxHeartbeats 0 in
theorem PySem.Challenge.cw_holdplaces_k70_moves_of_guards_holds : PySem.Challenge.rw_holdplaces_k70_moves_of_guards.Holds := by
 w_on;o_law;k_head;(case hw=>w_witness2)
 k_fill
 refine K70.walk (l:=PySem.Challenge.rw_holdplaces_k70_moves_of_guards) rfl rfl rfl (λw h Y=>PySem.W.kIn_of Y) ?F
 case F=>
  intro w mg h KX N
  refine' K70.all_mk (WB.zz ?_ ?_ ?_ ?_) (WB.zz ?_ ?_ ?_ ?_) (WB.zz ?_ ?_ ?_ ?_) (WB.zz ?_ ?_ ?_ ?_) (WB.zz ?_ ?_ ?_ ?_) (WB.zz ?_ ?_ ?_ ?_) (WB.zz ?_ ?_ ?_ ?_) (WB.zz ?_ ?_ ?_ ?_) (WB.zz ?_ ?_ ?_ ?_) (WB.zz ?_ ?_ ?_ ?_) (WB.zz ?_ ?_ ?_ ?_) (WB.zz ?_ ?_ ?_ ?_) (WB.zz ?_ ?_ ?_ ?_) (WB.zz ?_ ?_ ?_ ?_) (WB.zz ?_ ?_ ?_ ?_) (WB.zz ?_ ?_ ?_ ?_) (WB.zz ?_ ?_ ?_ ?_) (WB.zz ?_ ?_ ?_ ?_) (WB.zz ?_ ?_ ?_ ?_) (WB.zz ?_ ?_ ?_ ?_) (WB.zz ?_ ?_ ?_ ?_) (WB.zz ?_ ?_ ?_ ?_) (WB.zz ?_ ?_ ?_ ?_) (WB.zz ?_ ?_ ?_ ?_) (WB.zz ?_ ?_ ?_ ?_) (WB.zz ?_ ?_ ?_ ?_) (WB.zz ?_ ?_ ?_ ?_) (WB.zz ?_ ?_ ?_ ?_) KX N ?_ ?_ ?_ ?_ ?_ ?_ ?_ ?_ ?_ ?_ ?_ ?_ ?_ ?_ ?_ ?_ ?_ ?_ (WB.nz ?w0_1 ?w0_2 ?w0_3 ?w0_4) (WB.nz ?w1_1 ?w1_2 ?w1_3 ?w1_4) (WB.nM ?s0_1 ?s0_2 ?s0_3 ?s0_4 ?s0_5 ?s0_6) ?v0 (WB.nM ?s1_1 ?s1_2 ?s1_3 ?s1_4 ?s1_5 ?s1_6) ?v1 (WB.lB ?t0_1 ?t0_2 ?t0_3) (WB.lB ?t1_1 ?t1_2 ?t1_3) ?q0_0 ?n0_0 ?q1_1 ?n1_1
  any_goals k_is
  any_goals k_exc
  any_goals decide
#print axioms PySem.Challenge.cw_holdplaces_k70_moves_of_guards_holds
